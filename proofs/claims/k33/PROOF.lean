import PyProof.Rows.All
import Wide.All
import OpenK.AllK
import Wide.FinOn
import Lean
import PyProof.EqAt
import PyProof.EqKinds
import PyProof.TupleCall
import PyProof.NeKinds
import PyProof.Rows.SumAny
import PyProof.Rows.Range3
import PyProof.AutoIntG2
import KE.KRevIter
import KE.KSortTup
import PyProof.Rows.StrWeight2
import PyProof.StrCalls
import PyProof.Rows.RuleN_abs
import PyProof.JoinWalk
import PyProof.Rows.StrDigits
import PyProof.StrBlock
import PyProof.StrBlockL
import PyProof.ZipIter
import PyProof.ListRange
import PyProof.ListIndex
import KE.KIntText
import PyProof.Rows.StrNews
import PyProof.StrCalls3
import PyProof.Rows.StrSplit
import PyProof.StrLawsTight
import PyProof.StrWalks
import PyProof.ConsumeWalk
import PyProof.SliceStr2
import PyProof.AttrMiss
import PyProof.FactsAll.zip
import KE.KDictOf
import PyProof.CollectWalk
import PyProof.ListNew
import KE.IntTextText
import PyProof.ExcInit
import PyProof.StrOps2
import PySem.Challenge.RW_sketchbounds_k33_unsound_lines
set_option compiler.extract_closed false
abbrev Q1:List PySem.Str:=["self","room"]
abbrev Q2:List PySem.Str:=["_law_plan_here","_law_turn"]
abbrev Q3:List PySem.Str:=["word","line"]
abbrev Q10:List PySem.Str:=["words","line"]
abbrev Q11:List PySem.Str:=["window"]
abbrev Q12:List PySem.Str:=["things","rungs"]
abbrev Q13:List PySem.Str:=["self","room","reach"]
abbrev Q14:List PySem.Str:=["self","room","reach","span"]
abbrev Q15:List PySem.Str:=["_law_cell","_law_factor","_law_prime"]
abbrev Q16:List PySem.Str:=["room","reach","span"]
abbrev Q17:List PySem.Str:=["balance","words","line"]
abbrev Q18:List PySem.Str:=["keep","came","went"]
abbrev Q19:List PySem.Str:=["_law_text_here","_law_line","_law_cell"]
set_option linter.defProp false
open List renaming length_map->aB,length_append->cj,mem_cons->aZ,not_mem_nil->cC,getElem?_eq_some_iff->fO,size_toArray->cH,map_append->bB,mem_cons_self->bV,getElem?_eq_getElem->dH,getElem?_map->cB,mem_cons_of_mem->cR,length_cons->cJ,mem_singleton->eY,mem_append->dX,append_assoc->fH,length_take->fJ,map_cons->dM,mem_append_right->j5,nodup_cons->fK,take_add_one->iu,cons_ne_nil->iw,mem_map->fL,map_map->fM,range->dY,length_eq_zero_iff->vV,take_length->lM,length_range->pL,pairwise_cons->tO,getD_eq_getElem?_getD->Gi,append_nil->pO,filterMap_cons->yh,mem_range->pP,take_of_length_le->Gj,mem_or_eq_of_mem_set->Mi,map_congr_left->Dc,getElem?_set_ne->Gk,all_eq_true->qI,getElem?_append_right->Gm,flatMap_cons->tQ,getElem?_append_left->Gn,drop_eq_getElem_cons->Gp,getElem?_zip_eq_some->Gq,length_replicate->zJ,find?_cons->qJ,getElem?_take_of_lt->Gs,mem_append_left->zK,sum_cons->oR,map_set->lN,flatMap_append->zL,getElem?_set_self->Gv,exists_cons_of_ne_nil->Nv,map_reverse->wG,replicate->tR,length->lO,mem_of_mem_take->Gw,getElem?_of_mem->Gx,pairwise_map->zM,any_cons->tU,length_reverse->Gy,pairwise_lt_range->Nx,sum_append->zN,getElem?_eq_none->Ny,nodup_nil->zO,length_drop->GC,cons_append->GD,lookup->tV,map_eq_nil_iff->Nz,nil_append->GF,length_set->GJ,forIn_cons->GP,pairwise_mergeSort->WD,foldl_cons->GQ,filterMap_map->NP,getElem?_cons_succ->WK,range_succ->GR,length_filterMap_eq_countP->adb,map_nil->zP,getElem?_reverse->WL,drop_length->NQ,mem_flatMap->NT,length_dropLast->WM,mem_of_mem_drop->WQ,of_mem_zip->NZ,length_nil->N5,mergeSort_perm->WR,reverse_append->WT,mem_map_of_mem->WW,nodup_iff_pairwise_ne->ade,mem_filterMap->WX,getElem?_eq_none_iff->adf,pairwise_iff_getElem->adg,nodup_append->WY,getElem?_nil->W0,getElem?_replicate->adh,getElem_mem->W4,mem_reverse->W5,range_succ_eq_map->adi,flatMap_singleton->adk,mem_filter->W6,getElem?_toArray->adl,set_append_right->adn,length_zip->W7,drop_zero->W8,length_pos_iff->ado,getElem?_range->adp,all_cons->W9,map_take->Xa,map_drop->Xb,forIn_toArray->adq,reverse_cons->adt,all_eq_false->adu,map_dropLast->adv,lookup_cons->adw,sum_reverse->adx,nil_perm->ady
open PySem.Str renaming ofString->aD,ofString_eq_toList->adz,join->N7,empty->Xc,length->adA
open PySem.W renaming Frag->aF,findIn->eE,nsIn->cT,mg_of->eU,mg_none_of->jl,emptyDict->pQ,mroIn->jm,keepIn->lQ,kitOne->nF,kia_one->rY,hideAll_none->Dd,looks_findIn->GX,fnOf->iB,hasDictIn->tW,of_hideAll->wH,instObj->tX,Looks->qK,specialIn->zQ,typeIn->wI,plainGet->GZ,looks_mroIn->N8,callWith_K->Oa,tail_of_in->Ob,plainOver->Oc,codeIn->G9,handedIn->Od,makesIn->Oe,hideAll_get->Xd,looks_clsIn->Xe,kitCls->Og,methodObj->Xf,clsIn->Oh,cellsFrom_some->adB,isFn->Oi,takesIn->Xg,takerIn->Xh,tailIn->Xi,nsOkIn->Xj,kitAny->Xk,lookIn->Xl,InstAt->Xm,findObj_own->adC,WalkO->Xn,set_plain->adD,kitx_list->adE,kitx_dict->adF,any_some->adG,readsIn->adH,findCls->adI,hideAll->adJ,kitMeta->adK,kit_cls->adL,kIn_of->ajQ
open PySem renaming wpAny_bind->au,wpAny_pure->aK,Program->aG,mainGlobals->bT,starEach->bh,wpAny_mono->cO,Around->aN,wpAny_holding->iy,wpAny_field->iz,wpAny_seqItems->pR,wpAny_Call_Name_kw->yj,compareOp->gG,attributeBase->rZ,codeAny_builtin->vX,codeAny_call_builtin->wK,foldedSetIterable->tY,sliceBounds->iC,plainId_quiet->oU,wpAny_truthy_bool->wL,mem_of_lookup->zR,wpAny_updateSeq->tZ,Builtin->dN,wpAny_setField_rec->zT,wpAny_passesOwn->wM,bootBuiltins->qL,wpAny_getItem_str_slice->Oj,wpAny_call->lR,wpAny_tryCatch->wO,backTo->dz,wpAny_execs_nil->zU,codeAny->fC,builtinLookup_eq_fast->Ol,wpAny_ite_split->zV,wpAny_pyIter_list->Hf,wpAny_loadPart_at->Hg,wpAny_pyIter_revIter->Om,binaryOp->iD,sysModules->qM,wpAny_comprehension_free->Xo,wpAny_typeOf->wQ,importedModules->Hh,wpAny_specialOf->Hi,plainObj_wpAny_Assign_Attribute->adM,typeLookup->uc,typeIs_str->ud,codeAny_mono->zW,relabel->iG,checkBuiltinCall->Oo,wpAny_pyIter_zip->Oq,wpAny_standAt->Hj,call_meets->wR,treeTable->uf,swapsWith->ug,letOwnedTupleGo->Ot,sizeLine_eq->zX,keywordEach->zY,noteFrame->uh,argBest->jC,wpAny_letGo->zZ,typeLookup_type->Ov,post_val_or_str->Ow,tupleKind_room_in1->Xp,ExcBaseFacts->Hl,Keyword->lU,assignEach->z7,slot_list_getitem->Xq,wpAny_getItem_list_slice->adN,wpAny_newObj_type->Xr,behindInMarks->Ox,wpAny_attempt->Oz,wpAny_execs_cons->Xu,rawInt->iH,wpAny_call_entry->Xv,wpAny_pyNext_range_end->adO,wpAny_pyIter_rangeiter->adP,wpAny_Call_method_late->adQ,stored->jD,wpAny_nextOf_list_end->adR,bindArgs->wU,NameKind->wV,intItems->wW,wpAny_rule->Ho,pyNext->lV,Result->lW,gives_joinTail->Xw,IsRangeIter->OD,length_partsBetween->adS,excClassObj->O6,wpAny_isSubtype_exc->adT,tupleKind->Hq,wpAny_pyIter_range->adU,slicePick->Hr,backToKw->z9,call_reversed_list->adV,updateSeq->Hs,getattributeRaised->adW,excClassObj->adX,call->O7,wpAny_assign_Name->adY,valueAt->wX,callerA->wY,isInstance->O8,sliceRange->O9,refuseLoop->Pa,Within->Xx,assign->qN,seqIndex_neg->Xy,wpAny_lookBehind->adZ,pastItsLine_dict->ad0,wpAny_isInstance->ad2,callGetattribute->ad3,entryFor->Ht,holding->Aa,BindsTo->Ab,seqIndex_of->Xz,subscripted->XC,setFlight->Pb,builtinKind->XD,intItems_at->XF,strValues->Pg,am_miss_of_fast->ad4,getAttrBy->Ph,getAttrByItsOwn->ad5,wpAny_Expr_any->ad6,wpAny_loadPart->ad7,fastBuiltinMro->ad8,wpAny_setField->ad9,wpAny_newTuple->aea,callType_codes->aeb,boundAndCalled->aec,boot_len->aed,builtinsNs->XH,wpAny_Name->XM,PlainAttrs->XQ,getItem->Hu,intBits_le_64->aee,getAttr->Hv,evalPart_none->aef,frameOf->aeg,compEnvC->Pj,eval_ListComp->aeh,Comprehension->aei,nums_intItems->aej,wpAny_onRaise->aek,Params->Ac,pyIter->Ae,wpAny_nsSet1->ael,cellsFrom->XR,entryPlaceOf->aem,argsOk->Af,onTheHeap->X4,wpAny_mkText->aen,setItem->Pk,leaving->Pn,notedBy->Pq,plainId->Pr,GenState->X5,isTrue->Hw,Operator->X6,typeOf->Hx,Thread->Pu,DefRec->Px,Fin->aeo
open PySem.Heap renaming get?_push_of_some->cX,lt_size->bA,get?_push_size->dZ,get?_update_other->lY,get?_update_self->pU,size_push->pW,SameBut->oW,get?_none_of_le->Py,get?_update_ne->aep,get?_push_at->aer,FlyingW->X7,IsList->X8,NotedW->aes,ExtBut->aeu
open Option.some renaming inj->bK
open Nat renaming le_refl->aO,lt_of_lt_of_le->cG,le_trans->bW,ne_of_lt->bZ,zero_le->cU,le_of_lt->fu,le_add_right->jo,lt_of_le_of_lt->um,lt_trans->j6,lt_irrefl->nH,lt_succ_self->wZ,ne_of_gt->oX,lt_or_ge->oY,eq_zero_or_pos->Hy,digitChar->xg,pow_le_pow_right->PB,lt_add_of_pos_right->Yb,le_succ->xq,lt_succ_of_lt->PJ,le_of_eq->Ag,pow_succ->Ah,add_le_add_left->Yc,zero_add->Hz,sub_self->HB,mul_le_mul_right->aev,mul_assoc->Yd,lt_trichotomy->aew,succ_pos->Ye,le_of_not_lt->aex,min_eq_left->aey,strongRecOn->aez,repr->PK,succ_mul->aeA,sub_zero->aeB,log2_lt->aeC
open Bool renaming false_ne_true->cM,noConfusion->nJ,false_eq_true->HD,and_false->Ai,and_eq_true->HF,eq_iff_iff->HJ,or_eq_true->PL,and_eq_true_iff->aeD,or_false->Yg,false_or->Yh,or_true->Yi,false_and->aeE,true_and->aeF
open Option renaming map_eq_some_iff->f9,isSome_iff_exists->Yj,map_map->HN,bind_eq_some_iff->aeG,isSome_map->aeH,getD_none->aeI,map->aeJ
open PySem.Challenge renaming rw_sketchbounds_k33_unsound_lines->Df,pw_sketchbounds_k33_unsound_lines->ajR
open Ne renaming symm->aQ
open PySem.Txt renaming join->bQ,contains->qO,startswith->Aj,split->oZ,slice_le->PN,slice->HS,zfill->Qa
open PyProof.Rows renaming callWith_type1->vY,boot_isinstance->Tr,boot_sorted->Qc,boot_all->Qd,envOfC->eV,callWith_builtin1->aeK,boot_str->Yk,expectedOf->aeL,plainGoodE->aeM,plainGoodD->aeN,AllBare->o8,subscriptTail->Qe,subscriptTail_builtinR->aeO,boot_int->aeP,drecsOf->aeQ,IntsAre->uo,Subscript_->Yl,boot_reversed->aeR,boot_bool->ajS,floordiv_int->aeS,boot_abs->ajT,boot_sum->ajU,boot_max->ajV,tail_any->Ym,boot_zip->Yn,SortSt->Qf
open PySem.F renaming plainAttrs_str->uq,plainAttrs_list->Dg,slot_str_join->Dh,type_str_join->Ak,slot_list_extend->HW,type_list_extend->HX,slot_str_split->Yo,type_str_split->Yp,excBase_ValueError->aeT,slot_list_append->aeU,type_list_append->aeV,plain_list_iadd->aeW
open PySem.Builtin.List renaming listExtendWith->Dj,listSameRef->Qg,listLengthHint->Yq,listTooLong->Yr,listItems->Ys,listUpdate->ajW,listTouch->ajX
open False renaming elim->fP
open PySem.Builtin.SmallTypes renaming nextOf->HY,ownedTupleIsFree->aak,ownedTupleHandOut->aeX
open PySem.Around renaming under_plainId->yp,under->Yt
open Array renaming length_toList->yq,getElem?_eq_some_iff->Ia,toList_append->Al,toList_inj->Am,getElem?_toList->Qh,getElem?_eq_getElem->Yu,size_append->Yv,getElem?_eq_none->aeY,size_replicate->aeZ,toArray_toList->ae0,find?_toList->ae1
open Int renaming toNat_of_nonneg->yr,le_refl->jq,emod_lt_of_pos->Dk,emod_nonneg->qP,mul_le_mul_of_nonneg_left->Yw,mul_le_mul->Ao,mul_nonneg->Ib,mul_assoc->Ie,toNat->uw,fdiv_eq_ediv_of_nonneg->ae2,eq_of_mul_eq_mul_right->ae3,mul_neg_of_neg_of_pos->ae4,toNat_natCast->Yx,ediv_nonneg->Yy,zero_add->Qi,emod_emod_of_dvd->ae5,pow_pos->Qj,add_mul->Qk,natAbs_natCast->ae6,emod_eq_of_lt->ae7,pow_succ->Yz,mul_emod->YB,ofNat_le->YC,pow_add->YD,le_antisymm->ae8,natCast_pow->ae9,ne_of_gt->afa,lt_or_le->afb,dvd_refl->afc,mul_one->afd
open PySem.Obj renaming mapSeq->fZ,mapFields->Aq,data_mapFields->afe
open PySem.W.Looks renaming here->Ar,ld->afg
open PySem.Builtin.Range renaming rangeSize->Ql,small->afh,rangeFitsLong->ajY
open Char renaming toNat->lZ
open PySem.Calls renaming spliced_cons->Ig,spliced_nil->Ih,callWith_builtin->YF,Name_function_global->afi,evalArgs_plain->afj
open PySem.Builtin.Str renaming glued->Qm,strKind->afk,occurrences->ajZ,strSliceIndices->aj0,padded->aj1
open Prod renaming ext->mj,snd->afl
open PySem.Builtin.ObjectAttr renaming storeInDict->afm,find->afn,newKeyGuard->aj2,getOf->aj3
open PySem.Code renaming quiet_builtin->YG,isFrame->YH,frames->afo
open Nat.succ renaming inj->Ii
open List.cons renaming inj->Qn
open PySem.Builtin.Dict renaming updateFrom->afp,addKeywords->aj4,selfAndRest->aj5,pairItems->aj6
open PySem.Heap.IsList renaming push->YJ
open PyProof renaming noPylong_small->afq
open PySem.SeqAt.EqAt renaming same->YK,int_str->afr,str_int->afs,of_refs->aft,none_bool->aj7,bool_none->aj8,bool_bool->aj9,none_int->akb,none_str->akc,bool_int->akd,bool_str->ake,int_none->akf,int_bool->akg,str_none->akh,str_bool->aki,int_int->akj,str_str->akk
open Classical renaming choose_spec->afu,choose->afv
open PySem.SeqAt renaming EqAt->Ij
open PySem.EntryCells renaming newEntry->afw
open PySem.W.Fast renaming te9446332074065402090->akl
open PySem.Paired renaming length->YL,snoc->afx
open PySem.Heap.IsSliceOf renaming new->afy
open List.Perm renaming cons_inv->afz,eq_of_pairwise->akm,refl->akn
open PySem.W.KF renaming slot_gs->afA,owner_class->ako,entry_class->akp,type_class->akq,entry_gs->akr,args_gs->aks
open PySem.AutoSeq1 renaming list_extend_list_list_0->akt
open PySem.Heap.Ns1 renaming of_empty->afB
open PySem.SeqAt.RcAt renaming tuples->afC,lists->afD,lists_lengths->aku
open Eq renaming trans->Ik
open PySem.Heap.DictOf renaming new->afE
open PySem.Builtin.Builtins renaming bindParams->akv
open PySem.Shared renaming heap->YM
open PySem.PassesOwn renaming never->afF
open PySem.EqNone renaming eq_none_none->akx,eq_none_bool->aky,eq_bool_none->akz,ne_none_none->akA,ne_none_bool->akB,ne_bool_none->akC,eq_none_int->akD,eq_none_str->akE,eq_int_none->akF,eq_str_none->akG,ne_none_int->akH,ne_none_str->akI,ne_int_none->akJ,ne_str_none->akK
open PySem.EqMixed renaming eq_bool_str->akL,eq_str_bool->akM,ne_bool_str->akN,ne_str_bool->akO,eq_int_str->akP,eq_str_int->akQ,ne_int_str->akR,ne_str_int->akS
open PySem.Bind renaming checkArgs->afG
open PySem.Walks renaming list->YQ,range->afH
open PySem.Value renaming isStrOf->afI,isInt->afJ
open PySem.MeetsSeq renaming list_pop_last->akT
open PySem.W.KIN renaming call_text->akU
open PySem.Heap.UpToSlots renaming trans->akV,ns->akW
open Sum.inl renaming inj->afK
open Sum.inr renaming inj->afL
open PySem.IsRange renaming new->afM
open PySem.SC renaming startswith->akX,zfill->akY
open PySem.Heap.SameBut renaming update->akZ
open PySem.SeqAt.RcNeAt renaming lists->ak0
open List.Sublist renaming nodup->ak1
open PySem.Within renaming cons->ak2
open PySem.DictEntry renaming refKey->ak3
open PySem.IsL renaming update->ak4
open PySem.Value.ref renaming inj->ak5
open Int.ofNat renaming inj->ak6
set_option hygiene false
local macro_rules | `(term| tb_g%) => `(by first | decide +kernel | omega | exact hr.mono (by decide) | exact agm hr | exact of_decide_eq_true rfl)
local macro_rules | `(tactic| walk_at "a") => `(tactic| (refine hR _ _ (sq fun R hR=>⟨_,rfl,rfl,_,rfl,aY (fun e=>absurd (V.int.inj (of_decide_eq_true e)) tb_g%) fun _=>?_⟩)))
local macro_rules | `(tactic| k_dat $x0:ident "b") => `(tactic| (refine ⟨_,rfl,rfl,_,rfl,aY (fun _=>?_) fun $x0:ident =>?_⟩))
local macro_rules | `(tactic| k_dat $x0:ident "d") => `(tactic| (simp only [aZ,cC,or_false] at $x0:ident))
local macro_rules | `(tactic| k_dat ($x0,$x1,$x2:ident) "g") => `(tactic| (refine ⟨$x0:term,$x1:term $x2:ident (fun vs H Q E h=>?_) (fun cdv B outer s H vs Q E hr h=>?_)⟩))
local macro_rules | `(tactic| k_dat ($x0,$x1) "i") => `(tactic| (have btB:=bt.imp (S:=But $x0:term J) fun _ b=>d8 (s0.trans (sG.trans sJ)) (s0.free (fr $x0:term (mv (i:=$x1:term) rfl))) b))
local macro_rules | `(tactic| k_dat ($x0:ident,$x1,$x2:ident,$x3) "j") => `(tactic| (refine ⟨_,rfl,aH (.inl (.inl $x0:ident)) (v:=.int $x1:term) rfl ⟨_,_,rfl,rfl,_,rfl,.inl ⟨$x2:ident,_,$x3:term,$x3:term,rfl,rfl,$x0:ident,rfl,?_⟩⟩⟩))
local macro_rules | `(tactic| walk_at "k") => `(tactic| (refine .inl ⟨_,_,_,wa.1,wa.2.1,wa.2.2,fun _ W J nW sJ wJ=>?_,fun ne=>absurd rfl ne⟩))
local macro_rules | `(tactic| walk_at "l") => `(tactic| (refine .inl ⟨_,_,_,wa.1,wa.2.1,wa.2.2,fun _ W J nW sJ wJ=>?_,fun ne=>absurd en ne⟩))
local macro_rules | `(tactic| walk_at "m") => `(tactic| (intro X hP hw hK hc i pins s σ H E I hf st hg))
local macro_rules | `(tactic| walk_at "o") => `(tactic| (rcases ou.step with ⟨e,ou⟩ | ⟨⟨z,z0,ez,e0,en,fw⟩,bt⟩))
local macro_rules | `(tactic| k_dat $x0 "q") => `(tactic| (have sG2:=d8 (sG.trans sJ) (fr _ (mv (i:=$x0:term) rfl)) bF))
local macro_rules | `(tactic| k_dat $x0:ident "r") => `(tactic| (obtain ⟨f0,f1,f2,f3,f4,f5⟩:=hf $x0:ident (by simp)))
local macro_rules | `(tactic| walk_at "s") => `(tactic| (intro pins s σ H Q I h))
local macro_rules | `(tactic| k_dat ($x0:ident,$x1:ident) "t") => `(tactic| (refine ⟨tb_g%,fun $x0:ident $x1:ident =>?_⟩))
local macro_rules | `(tactic| walk_at "u") => `(tactic| (intro pins s σ H x y v u Q I rx ry h))
local macro_rules | `(tactic| k_dat ($x0,$x1:ident,$x2,$x3) "v") => `(tactic| (refine ⟨_,rfl,p,_,$x0:term,_,rfl,$x1:ident,$x2:term,$x3:term,tb_g%,?_⟩))
local macro_rules | `(tactic| walk_at "w") => `(tactic| (intro pins s σ H xs us Q I r h))
local macro_rules | `(tactic| k_dat $x0 "y") => `(tactic| (show wpAny _ _ (field (.ref _) $x0:term >>= _) _ _ _))
local macro_rules | `(tactic| k_dat ($x0:ident,$x1:ident,$x2:ident) "z") => `(tactic| (refine $x0:ident (thn ($x1:ident pins s σ H _ I h) fun $x2:ident s1 zq=>?_)))
local macro_rules | `(tactic| k_dat ($x0:ident,$x1:ident,$x2:ident,$x3:ident,$x4:ident) "A") => `(tactic| (obtain ⟨$x0:ident,rfl⟩:=(show ∃ $x1:ident,$x2:ident =Value.str $x3:ident $x1:ident from $x4:ident)))
local macro_rules | `(tactic| walk_at "B") => `(tactic| (obtain ⟨x,H1,I1,r1,q1⟩:=zq))
local macro_rules | `(tactic| walk_at "C") => `(tactic| (rcases dX.mp m with m | m))
local macro_rules | `(tactic| walk_at "D") => `(tactic| (intro pins s σ H x vs v us Q I rx rv h))
local macro_rules | `(tactic| k_dat ($x0:ident,$x1:ident) "E") => `(tactic| (obtain ⟨$x0:ident,rfl⟩:=$x1:ident))
local macro_rules | `(tactic| walk_at "F") => `(tactic| (refine bw h (fun z mz=>?_) fun z=>?_))
local macro_rules | `(tactic| walk_at "G") => `(tactic| (rcases aZ.mp m with rfl | m))
local macro_rules | `(tactic| walk_at "H") => `(tactic| (rcases m with rfl | rfl))
local macro_rules | `(tactic| walk_at "I") => `(tactic| (intro pins s σ H D I h))
local macro_rules | `(tactic| walk_at "J") => `(tactic| (rintro i ys G hi ⟨il,rfl,gD,sG⟩))
set_option hygiene true
set_option maxRecDepth 100000
set_option maxHeartbeats 0
theorem mv{a:α}{l:List α}{i:Nat}(h:l[i]? = some a):a∈l:=List.mem_of_getElem? h
local macro_rules|`(tactic|show #[$x,*])=>`(tactic|refine ⟨$x,*⟩)
local macro_rules|`(#[$x,*])=>if x.getElems.isEmpty then Lean.Macro.throwUnsupported else `(⟨$x,*⟩)
namespace L2
open PySem
def inClass(s:Stmt)(j:Nat):Stmt:=match s with
 | .ClassDef _ _ _ body _ _ _ _ _ _ _=>body.getD j (.Pass #[0,0,0,0])
 |_=>.Pass #[0,0,0,0]
def gM(s:Stmt):Arguments:=match s with
 | .FunctionDef _ a _ _ _ _ _ _ _ _=>a
 |_=>{ posonlyargs:=[],args:=[],vararg:=none,kwonlyargs:=[],kw_defaults:=[],kwarg:=none,defaults:=[] }
def fY(s:Stmt):List Stmt:=match s with
 | .FunctionDef _ _ b _ _ _ _ _ _ _=>b
 |_=>[]
def aA(s:Stmt):Scope:=match s with
 | .FunctionDef _ _ _ _ _ _ sc _ _ _=>sc
 |_=>{ kind:=.function,names:=[],isGenerator:=false,isCoroutine:=false }
end L2
namespace My
open PySem PySem.W PyProof.Rows
def nM(tb:String->Option dN)(p:aG)(w:World)(n₀:Nat)(ann:Option Value):Nat->SharedT->Pu->Option SharedT
 |0,_,_=>none
 |n+1,s,t=>match through t with
  |true=>some s
  |false=>match stepOk n₀ ann t with
   |false=>none
   |true=>match stepT (denote tb) p w s t with
    |some (s',t')=>nM tb p w n₀ ann n s' t'
    |none=>none
theorem Il{tb:String->Option dN}{p:aG}{w:World}{n₀:Nat}{ann:Option Value}:∀{n:Nat}{s s':SharedT}{t:Pu},nM tb p w n₀ ann n s t=some s'->topRun tb p w n₀ ann n s.abs t=some s'.abs
 |0,_,_,_,h=>by cases h
 |n+1,s,s',t,h=>by
  unfold nM at h;unfold topRun;cases ht:through t with
  |true =>
   rw[ht]at h;obtain rfl:=bK h;rfl
  |false =>
   rw[ht]at h;dsimp only at h ⊢;cases hs:stepOk n₀ ann t with
   |false=>rw[hs]at h;cases h
   |true =>
    rw[hs]at h;dsimp only at h ⊢;cases hq:stepT (denote tb) p w s t with
    |none=>rw[hq]at h;cases h
    |some x =>
     obtain⟨s2,t2⟩:=x;rw[hq]at h;rw[stepT_spec hq];exact Il h
def treeOf:List Obj->Nat->BT->Option BT
 |[],_,t=>some t
 |o::r,n,t=>match ((t.ins n o).get n).isSome with
  |true=>treeOf r (n+1) (t.ins n o)
  |false=>none
theorem Mj{life:Life}:∀{l:List Obj}{n:Nat}{t t':BT},treeOf l n t=some t'->absHeap t' (n+l.length) life=#[((t.list n)++l).toArray,life]
 |[],n,t,t',h=>by
  obtain rfl:=bK h;rw[pO];rfl
 |o::r,n,t,t',h=>by
  unfold treeOf at h;cases g:((t.ins n o).get n).isSome with
  |false=>rw[g]at h;cases h
  |true =>
   rw[g]at h;have e:=Mj (life:=life) h;rw[show n+(o::r).length=n+1+r.length by rw[cJ];omega,e];have e2:=absHeap_ins (life:=life) g;have e3:(t.ins n o).list (n+1)=t.list n++[o]:=by
    have:=congrArg (fun h:Heap=>h.objs.toList) e2;simpa[absHeap,Heap.push]using this
   rw[e3,fH];rfl
def Qo(h:Heap):Option BT:=treeOf h.objs.toList 0 .nil
theorem abN{h:Heap}{T:BT}(e:Qo h=some T):absHeap T h.objs.size h.life=h:=by
 have:=Mj (life:=h.life) e;rw[Hz,yq]at this;rw[this];show Heap.mk (([]++h.objs.toList).toArray) h.life=h;rw[GF]
def abO(p:aG)(w:World)(N:Nat):Option (Shared × SharedT):=(fencedOpening uf p w N).bind fun s₀ =>
 match s₀.heap.isNs bT && s₀.gens.size == 0 with
 |true=>(Qo s₀.heap).bind fun T=>(nM uf p w s₀.heap.objs.size (s₀.heap.nsMap bT "__annotations__") N #[T,s₀.heap.objs.size,s₀.heap.life,s₀.gens,s₀.drawn,s₀.toks,s₀.os] (topStub p)).map fun s₁=>(s₀,s₁)
 |false=>none
def okT(p:aG)(x:Shared × SharedT):Bool:=staticsOk (Hh p.main.body) x.1.heap x.2.abs.heap && namesBound p x.2.abs.heap && gensDone x.2.abs && laidKept x.1.heap x.2.abs.heap
abbrev Av(p q:aG)(Xt:Shared->Bool)(x:Shared × SharedT):=openSeen q [] (Hh p.main.body) Xt true x.2.abs
theorem ah2{p:aG}{w:World}{N:Nat}{x:Shared × SharedT}(h:abO p w N=some x)(ok:okT p x=true):openEnds uf p w N=some x.2.abs:=by
 unfold abO at h;obtain⟨s₀,e0,e1⟩:=aeG.mp h;unfold openEnds;rw[e0];show topFrom uf p w N s₀=_;unfold topFrom;cases g:(s₀.heap.isNs bT && s₀.gens.size == 0)with
 |false=>rw[g]at e1;cases e1
 |true =>
  rw[g]at e1;dsimp only at e1 ⊢;obtain⟨T,eT,e2⟩:=aeG.mp e1;obtain⟨s₁,e3,e4⟩:=f9.mp e2;subst e4;have r:=Il e3;have ab:(SharedT.mk T s₀.heap.objs.size s₀.heap.life s₀.gens s₀.drawn s₀.toks s₀.os).abs=s₀:=by
   show Shared.mk (absHeap T s₀.heap.objs.size s₀.heap.life) _ _ _ _=s₀;rw[abN eT]
  rw[ab]at r;rw[r]
  show (match staticsOk (Hh p.main.body) s₀.heap s₁.abs.heap && namesBound p s₁.abs.heap && gensDone s₁.abs && laidKept s₀.heap s₁.abs.heap with
   |true=>some s₁.abs
   | false=>none)=_
  have ok':(staticsOk (Hh p.main.body) s₀.heap s₁.abs.heap && namesBound p s₁.abs.heap && gensDone s₁.abs && laidKept s₀.heap s₁.abs.heap)=true:=ok;rw[ok']
def Look(p:aG)(N:Nat){β:Type}(f:Shared × SharedT->β)(b:World->β):Prop:=∀w:World,(abO p w N).map f=some (b w)
theorem Look.at{p:aG}{N:Nat}{β:Type}{f:Shared × SharedT->β}{b:World->β}(h:Look p N f b){w:World}{x:Shared × SharedT}(e:abO p w N=some x):f x=b w:=by
 have:=h w;rw[e]at this;exact bK this
theorem ah3{p q:aG}{Xt:Shared->Bool}{α:Type}{Yf:Shared->α}{Ya:World->α}{N:Nat}
  (h0:Look p N (okT p) fun _=>true)
  (h1:Look p N (fun x=>(Av p q Xt x).1) fun _=>(openGood q []).1)
  (h2:Look p N (fun x=>(Av p q Xt x).2.1) fun _=>(openGood q []).2.1)
  (h3:Look p N (fun x=>(Av p q Xt x).2.2.1) fun _=>(openGood q []).2.2.1)
  (h4:Look p N (fun x=>(Av p q Xt x).2.2.2.1) fun _=>(openGood q []).2.2.2.1)
  (h5:Look p N (fun x=>(Av p q Xt x).2.2.2.2.1) fun _=>(openGood q []).2.2.2.2.1)
  (h6:Look p N (fun x=>(Av p q Xt x).2.2.2.2.2.1) fun _=>(openGood q []).2.2.2.2.2.1)
  (h7:Look p N (fun x=>(Av p q Xt x).2.2.2.2.2.2.1) fun _=>(openGood q []).2.2.2.2.2.2.1)
  (h8:Look p N (fun x=>(Av p q Xt x).2.2.2.2.2.2.2.1) fun _=>(openGood q []).2.2.2.2.2.2.2.1)
  (h9:Look p N (fun x=>(Av p q Xt x).2.2.2.2.2.2.2.2) fun _=>(openGood q []).2.2.2.2.2.2.2.2)
  (hY:Look p N (fun x=>Yf x.2.abs) Ya):LeftO p q [] Xt Yf Ya N:=fun w=>by
 obtain⟨x,e,_⟩:=f9.mp (h0 w);show(openEnds uf p w N).map _=_;rw[ah2 e (h0.at e)];show some (Av p q Xt x,Yf x.2.abs)=some (openGood q [],Ya w);have a:=hY.at e;have b:Av p q Xt x=openGood q []:=mj (h1.at e) (mj (h2.at e) (mj (h3.at e) (mj (h4.at e) (mj (h5.at e) (mj (h6.at e) (mj (h7.at e) (mj (h8.at e) (h9.at e))))))));rw[b];exact congrArg some (mj rfl a)
def afN(s:SharedT):List Addr->Option (List (Option Obj))
 |[]=>some []
 |a::r=>match Nat.blt a s.n with
  |true=>match s.tree.get a with
   |some o=>match afN s r with
    |some l=>some (alive o::l)
    |none=>none
   |none=>none
  |false=>none
theorem aal{s:SharedT}:∀{as:List Addr} {l:List (Option Obj)},afN s as=some l->as.map s.abs.heap.get? = l
 |[],l,h=>bK h
 |a::r,l,h=>by
  unfold afN at h;cases hb:Nat.blt a s.n with
  |false=>rw[hb]at h;cases h
  |true =>
   rw[hb]at h;dsimp only at h;cases ho:s.tree.get a with
   |none=>rw[ho]at h;cases h
   |some o =>
    rw[ho]at h;dsimp only at h;cases hl:afN s r with
    |none=>rw[hl]at h;cases h
    |some l2 =>
     rw[hl]at h;obtain rfl:=bK h;rw[dM,aal hl];exact congrArg (· :: l2) (abs_get (Nat.le_of_ble_eq_true hb) ho)
open PySem.W.Fast renaming tw10156331382660048174->aji, te10156331382660048174->afO, tw6613529449190102663->aam, te6613529449190102663->YS, tw11892475500146522536->aan, te11892475500146522536->YT, tw14364793385576792824->afP, te14364793385576792824->Ml, tw4187177175401517315->abP, te4187177175401517315->Qp
noncomputable def afQ(w:World)(os:OsState):Shared:=#[boot_heap w.params,Array.mk [],boot_drawn,boot_toks,os]
noncomputable def aao(p:aG)(w:World)(N:Nat)(s₀:Shared):Option (Shared × SharedT):=(Qo s₀.heap).bind fun T=>(nM uf p w s₀.heap.objs.size (s₀.heap.nsMap bT "__annotations__") N #[T,s₀.heap.objs.size,s₀.heap.life,s₀.gens,s₀.drawn,s₀.toks,s₀.os] (topStub p)).map fun s₁=>(s₀,s₁)
theorem ah4(P:Ac):(boot_heap P).isNs bT=true:=by kernel_rfl
theorem abQ{p:aG}{N:Nat}(e:opening p=plainProg p.main.scope.names)(hN:Nat.ble 600 N=true)(f:∀s,fenceModules? p s=some s)(w:World):∃os,abO p w N=aao p w N (afQ w os):=by
 obtain⟨s,hs,hv⟩:=f9.mp (boot_open e hN f w);obtain⟨h,g,d,k,os⟩:=s;simp only[Prod.mk.injEq]at hv;obtain⟨rfl,rfl,rfl,rfl⟩:=hv;refine⟨os,?_⟩;unfold abO;rw[hs];show(match (boot_heap w.params).isNs bT && _ with|true=>aao p w N (afQ w os)|false=>none)=_;rw[ah4];rfl
noncomputable def yt(p:aG)(w:World)(n₀:Nat)(ann:Option Value):Nat->SharedT->Pu->Option SharedT
 |0,_,_=>none
 |n+1,s,t=>match through t with
  |true=>some s
  |false=>match aam n₀ ann t with
   |false=>none
   |true=>match aji (aan afP) p w s t with
    |some (s',t')=>yt p w n₀ ann n s' t'
    |none=>none
theorem Im{p:aG}{w:World}{n₀:Nat}{ann:Option Value}:∀{n:Nat}{s:SharedT}{t:Pu},nM uf p w n₀ ann n s t=yt p w n₀ ann n s t
 |0,_,_=>rfl
 |n+1,s,t=>by
  have ih:∀s t,nM uf p w n₀ ann n s t=yt p w n₀ ann n s t:=fun _ _=>Im;rw[Ml]at ih;unfold nM yt;rw[YS,afO,YT,Ml];cases through t with
  |true=>rfl
  |false =>
   dsimp only;cases aam n₀ ann t with
   |false=>rfl
   |true =>
    dsimp only;cases aji (aan afP) p w s t with
    |none=>rfl
    |some x=>exact ih _ _
noncomputable def afR(p:aG)(w:World)(N:Nat)(s₀:Shared):Option (Shared × SharedT):=(Qo s₀.heap).bind fun T=>(yt p w s₀.heap.objs.size (s₀.heap.nsMap bT "__annotations__") N #[T,s₀.heap.objs.size,s₀.heap.life,s₀.gens,s₀.drawn,s₀.toks,s₀.os] (topStub p)).map fun s₁=>(s₀,s₁)
theorem afS{p:aG}{w:World}{N:Nat}{s₀:Shared}:aao p w N s₀=afR p w N s₀:=by
 unfold aao afR;exact congrArg _ (funext fun T=>congrArg _ Im)
def nO(p:aG)(N:Nat){β:Type}(f:Shared × SharedT->β)(b:World->β):Prop:=∀(w:World)(os:OsState),(afR p w N (afQ w os)).map f=some (b w)
noncomputable abbrev K4(p q:aG)(Xt:Shared->Bool)(x:Shared × SharedT):=abP q [] (Hh p.main.body) Xt true x.2.abs
theorem ah5{p q:aG}{Xt:Shared->Bool}:Av p q Xt=K4 p q Xt:=by
 funext x
 unfold Av K4;rw[Qp]
structure Plain(p:aG)(N:Nat):Prop where
 op:opening p=plainProg p.main.scope.names
 n:Nat.ble 600 N=true
 fe:∀s,fenceModules? p s=some s
theorem nO.look{p:aG}{N:Nat}{β:Type}{f:Shared × SharedT->β}{b:World->β}(h:nO p N f b)(P:Plain p N):Look p N f b:=fun w=>by
 obtain⟨os,e⟩:=abQ P.op P.n P.fe w;rw[e,afS];exact h w os
theorem nO.fst{p:aG}{N:Nat}{β γ:Type}{f:Shared × SharedT->β × γ}{b:World->β}{c:World->γ}(h:nO p N f fun w=>(b w,c w)):nO p N (fun x=>(f x).1) b:=fun w os=>by
 have:=congrArg (aeJ Prod.fst) (h w os);rwa[HN]at this
theorem nO.snd{p:aG}{N:Nat}{β γ:Type}{f:Shared × SharedT->β × γ}{b:World->β}{c:World->γ}(h:nO p N f fun w=>(b w,c w)):nO p N (fun x=>(f x).2) c:=fun w os=>by
 have:=congrArg (aeJ afl) (h w os);rwa[HN]at this
theorem afT{p q:aG}{Xt:Shared->Bool}{as:List Addr}{Ya:World->List (Option Obj)}{N:Nat}(P:Plain p N)
  (hA:nO p N (fun x=>(okT p x,(K4 p q Xt x).1,(K4 p q Xt x).2.1,(K4 p q Xt x).2.2.1)) fun _=>(true,aeL q,bltViewBooted,true))
  (hB:nO p N (fun x=>(K4 p q Xt x).2.2.2) fun _=>(true,pinGoodD (aeQ q),aeM q (looseW q []),aeN q [],wideGood q,clsGoodW q []))
  (hY:nO p N (fun x=>afN x.2 as) fun w=>some (Ya w)):LeftO p q [] Xt (fun s=>as.map s.heap.get?) Ya N:=by
 have h0:nO p N (okT p) fun _=>true:=hA.fst;rw[<-ah5]at hA hB;refine ah3 (h0.look P) (hA.snd.fst.look P) (hA.snd.snd.fst.look P) (hA.snd.snd.snd.look P) (hB.fst.look P) (hB.snd.fst.look P) (hB.snd.snd.fst.look P) (hB.snd.snd.snd.fst.look P) (hB.snd.snd.snd.snd.fst.look P) (hB.snd.snd.snd.snd.snd.look P) fun w=>?_;obtain⟨x,e,_⟩:=f9.mp (h0.look P w);rw[e];exact congrArg some (aal ((hY.look P).at e))
end My
namespace My
open PySem L2
def top(i:Nat):Stmt:=ajR.main.body.getD i (.Pass #[0,0,0,0])
abbrev qQ:Stmt:=inClass (top 21) 0
abbrev o9:Stmt:=inClass (top 23) 0
abbrev Io:Stmt:=top 14
abbrev YW:Stmt:=top 15
abbrev jE:Stmt:=inClass (top 17) 0
abbrev jF:Stmt:=inClass (top 19) 0
abbrev mq:Stmt:=inClass (top 9) 0
abbrev jG:Stmt:=inClass (top 25) 0
abbrev Qq:Stmt:=top 71
abbrev qR:Stmt:=top 72
abbrev Aw:Stmt:=top 69
abbrev s_row:Stmt:=top 68
abbrev mD:Stmt:=top 67
abbrev pq:Stmt:=top 66
abbrev iI:Stmt:=top 65
abbrev Ay:Stmt:=top 64
abbrev mF:Stmt:=inClass (top 7) 0
abbrev YX:Stmt:=top 45
abbrev ux:Stmt:=top 47
abbrev qT:Stmt:=top 46
abbrev mG:Stmt:=top 32
abbrev uy:Stmt:=top 48
abbrev xr:Stmt:=top 52
abbrev uz:Stmt:=top 53
abbrev Ip:Stmt:=top 57
abbrev jH:Stmt:=top 34
abbrev iJ:Stmt:=top 33
abbrev qU:Stmt:=top 37
abbrev gO:Stmt:=top 36
abbrev pA:Stmt:=top 35
abbrev mH:Stmt:=top 39
abbrev qW:Stmt:=top 40
abbrev mJ:Stmt:=top 38
abbrev iK:Stmt:=top 41
abbrev uD:Stmt:=top 54
abbrev jJ:Stmt:=top 55
abbrev qX:Stmt:=top 56
abbrev pB:Stmt:=top 58
abbrev jK:Stmt:=top 59
abbrev uE:Stmt:=top 60
abbrev jL:Stmt:=top 51
abbrev Ir:Stmt:=top 74
abbrev uF:Stmt:=top 73
abbrev Az:Stmt:=top 81
abbrev Iu:Stmt:=top 75
abbrev iM:Stmt:=top 76
abbrev jM:Stmt:=top 77
abbrev jN:Stmt:=top 78
abbrev mK:Stmt:=top 79
abbrev Bb:Stmt:=top 80
abbrev afU:Stmt:=top 82
def LK(K:aF)(n q:Str)(s:Stmt)(f:Addr):Prop:=∃(oc:Value)(od an:Option Addr) (sl:Array (Option Value)) (kV dc pm cd ct:Value),K.lookup f=some #[oc,od,.func (iB n q (gM s) (fY s) (aA s) .none kV dc pm an cd ct),sl]/\G9 K cd q=true/\lQ K (.ref f)=true
def GK(K:aF)(n:Str)(s:Stmt)(f:Addr):Prop:=cT K bT n=some (some (.ref f))/\LK K n n s f
def MeK(K:aF)(C:Addr)(n q:Str)(s:Stmt)(f:Addr):Prop:=eE K (.ref C) n=some (some (.ref f))/\Oi K (.ref f)=true/\LK K n q s f
def CK(K:aF)(C:Addr):Prop:=GZ K C Xc=true/\tW K C=true/\Oc K C=true/\eE K (.ref C) "__setattr__" = some (some (.builtin "object.__setattr__"))/\Oe K C=true/\lQ K (.ref C)=true
def NK(K:aF)(C:Addr):List Str->Prop
 |[]=>True
 |f::r=>eE K (.ref C) f=some none/\NK K C r
def ZK(K:aF):List Str->Prop
 |[]=>True
 |n::r=>cT K bT n=some none/\ZK K r
def GKs(K:aF):List (Str × Stmt)->Prop
 |[]=>True
 |p::r=>(∃f,GK K p.1 p.2 f)/\GKs K r
def MKs(K:aF)(C:Addr):List (Str × Str × Stmt)->Prop
 |[]=>True
 |p::r=>(∃f,MeK K C p.1 p.2.1 p.2.2 f)/\MKs K C r
theorem GKs.nil{K:aF}:GKs K []:=trivial
theorem GKs.cons{K:aF}{n:Str}{s:Stmt}{r:List (Str × Stmt)}{f:Addr}(a:GK K n s f)(b:GKs K r):GKs K ((n,s)::r):=#[#[f,a],b]
theorem MKs.nil{K:aF}{C:Addr}:MKs K C []:=trivial
theorem MKs.cons{K:aF}{C:Addr}{n q:Str}{s:Stmt}{r:List (Str × Str × Stmt)}{f:Addr}(a:MeK K C n q s f)(b:MKs K C r):MKs K C ((n,q,s)::r):=#[#[f,a],b]
def XJ(K:aF)(C:Addr)(bmB:List Value)(newId:String):Prop:=∃nm q N bs bm hd sn sub ab col dd k0 k1 k2 k3 k5,K.lookup C=some (adX nm q C N bs bm hd sn sub ab col dd k0 k1 k2 k3 k5 newId)/\Xi K bmB bm=true/\Xj K N=true/\cT K N "__init__" = eE K (.ref C) "__init__"
theorem XJ.of{K:aF}{C:Addr}{bmB:List Value}{newId:String}{nm q:Str}{N:Addr}{bs bm:List Value}{hd:Bool}{sn:List Str}{sub:List Value}{ab:Bool}{col:Option Bool}{dd:Option Addr}{k0 k1 k2 k3 k5:Option Value}{r:Option (Option Value)}(l:K.lookup C=some (adX nm q C N bs bm hd sn sub ab col dd k0 k1 k2 k3 k5 newId))(i:cT K N "__init__" = r)(j:eE K (.ref C) "__init__" = r)(t:Xi K bmB bm=true)(o:Xj K N=true):XJ K C bmB newId:=#[nm,q,N,bs,bm,hd,sn,sub,ab,col,dd,k0,k1,k2,k3,k5,l,t,o,i.trans j.symm]
theorem LK.of{K:aF}{n q:Str}{s:Stmt}{f:Addr}{oc:Value}{od an:Option Addr}{sl:Array (Option Value)}{kV dc pm cd ct:Value}(l:K.lookup f=some #[oc,od,.func (iB n q (gM s) (fY s) (aA s) .none kV dc pm an cd ct),sl])(c:G9 K cd q=true)(k:lQ K (.ref f)=true):LK K n q s f:=#[oc,od,an,sl,kV,dc,pm,cd,ct,l,c,k]
theorem GK.of{K:aF}{n:Str}{s:Stmt}{f:Addr}(a:cT K bT n=some (some (.ref f)))(l:LK K n n s f):GK K n s f:=#[a,l]
theorem MeK.of{K:aF}{C:Addr}{n q:Str}{s:Stmt}{f:Addr}(a:eE K (.ref C) n=some (some (.ref f)))(i:Oi K (.ref f)=true)(l:LK K n q s f):MeK K C n q s f:=#[a,i,l]
theorem CK.of{K:aF}{C:Addr}(a:GZ K C Xc=true)(b:tW K C=true)(c:Oc K C=true)(d:eE K (.ref C) "__setattr__" = some (some (.builtin "object.__setattr__")))(e:Oe K C=true)(f:lQ K (.ref C)=true):CK K C:=#[a,b,c,d,e,f]
theorem NK.nil{K:aF}{C:Addr}:NK K C []:=trivial
theorem NK.cons{K:aF}{C:Addr}{f:Str}{r:List Str}(a:eE K (.ref C) f=some none)(b:NK K C r):NK K C (f::r):=#[a,b]
theorem ZK.nil{K:aF}:ZK K []:=trivial
theorem ZK.cons{K:aF}{f:Str}{r:List Str}(a:cT K bT f=some none)(b:ZK K r):ZK K (f::r):=#[a,b]
abbrev jO:PySem.W.OpenRow:=Df.row
def view:PySem.Program:={ jO.prog with main:={ jO.prog.main with body:=[top 0,top 2,top 3,top 4,top 5,top 6,top 7,top 9,top 11,top 12,top 13,top 14,top 15,top 17,top 19,top 21,top 23,top 25,top 27,top 28,top 29,top 30,top 31,top 32,top 33,top 34,top 35,top 36,top 37,top 38,top 39,top 40,top 41,top 43,top 44,top 45,top 46,top 47,top 48,top 50,top 51,top 52,top 53,top 54,top 55,top 56,top 57,top 58,top 59,top 60,top 62,top 63,top 64,top 65,top 66,top 67,top 68,top 69,top 71,top 72,top 73,top 74,top 75,top 76,top 77,top 78,top 79,top 80,top 81,top 82] } }
abbrev Tt:Shared->Bool:=fun s=>PySem.W.xlAt view [] s && PySem.W.recOk jO.records s
theorem seeP:Plain jO.prog 20000:=#[by kernel_rfl,by kernel_rfl,by intro s;kernel_rfl]
theorem seeW:Df.wellSaid=true:=by
 rw[akl]
 kernel_rfl
theorem see0:nO jO.prog 20000 (fun x=>(okT jO.prog x,(K4 jO.prog view Tt x).1,(K4 jO.prog view Tt x).2.1,(K4 jO.prog view Tt x).2.2.1)) (fun _=>(true,aeL view,bltViewBooted,true)):=by intro w os;kernel_rfl
theorem see1:nO jO.prog 20000 (fun x=>(K4 jO.prog view Tt x).2.2.2) (fun _=>(true,pinGoodD (aeQ view),aeM view (PySem.W.looseW view []),aeN view [],PySem.W.wideGood view,PySem.W.clsGoodW view [])):=by intro w os;kernel_rfl
def afV(R:World->aF->(Str->Option Value)->Addr->Prop):Prop:=∀{w:World}{K:aF}{h:Heap}{mg:Str->Option Value}{fa C'0 C'1 C'2 C'3 C'4 C'5 C'6 C'7 C'8 C'9 Qs Qt:Addr}(X:K.In h)(G:h.Ns bT mg) (hfa:mg "law" = some (.ref fa))
(aC'0:cT K bT "Rungs" = some (some (.ref C'0))) (uG:CK K C'0) (yu:NK K C'0 ["room","total","over","under","turns","least","most","rungs"]) (aC'1:cT K bT "Window" = some (some (.ref C'1))) (pX:CK K C'1) (vG:NK K C'1 ["room","reach","clock","boxes"]) (aC'2:cT K bT "Distinct" = some (some (.ref C'2))) (jr:CK K C'2) (nP:NK K C'2 ["room","arrivals","level","kept"]) (aC'3:cT K bT "Frequent" = some (some (.ref C'3))) (jt:CK K C'3) (nQ:NK K C'3 ["room","total","lost","counts"]) (aC'4:cT K bT "Balance" = some (some (.ref C'4))) (mL:CK K C'4) (qY:NK K C'4 ["span","sums"]) (aC'5:cT K bT "Keepsake" = some (some (.ref C'5))) (ju:CK K C'5) (nR:NK K C'5 ["room","reach","span","came","went","up","down","window","seen","balance"]) (aC'6:cT K bT "BadText" = some (some (.ref C'6))) (aC'7:cT K bT "KeepError" = some (some (.ref C'7))) (aC'8:cT K bT "OutOfReach" = some (some (.ref C'8))) (aC'9:cT K bT "TooFine" = some (some (.ref C'9))) (aap:cT K bT "TooManyOff" = some (some (.ref Qs))) (aaq:cT K bT "Unlike" = some (some (.ref Qt))) (fQ:XJ K C'6 [.type "ValueError",.type "Exception",.type "BaseException",.type "object"] "ValueError.__new__") (iQ:lQ K (.ref C'6)=true) (nU:eE K (.ref C'6) "__setattr__" = some (some (.builtin "object.__setattr__"))) (nY:eE K (.ref C'6) "line" = some none) (nZ:tW K C'6=true) (n8:jm K C'6 (.type "object")=some true) (jf:zQ K (.ref C'7) "__getattribute__" = some (some (.builtin "type.__getattribute__"))) (jg:adH K C'7 (.type "type")=true) (jh:adI K (.ref C'7) (.type "type") "__init__" = some (.val (.builtin "ValueError.__init__"))) (eF:jm K C'6 (.ref C'6)=some true) (eG:jm K C'6 (.type "BaseException")=some true) (eN:wI K (.ref C'6)=some (.type "type")) (j7:eE K (.ref C'6) "__getattribute__" = some (some (.builtin "BaseException.__getattribute__"))) (j8:eE K (.ref C'6) "__getattr__" = some none) (j9:eE K (.ref C'6) "__class__" = some (some (.builtin "object.__class__"))) (kh:jm K C'6 (.type "BaseException")=some true) (kj:jm K C'6 (.type "object")=some true) (kE:wI K (.ref C'6)=some (.type "type")) (kO:jm K C'6 (.ref C'6)=some true) (kW:zQ K (.builtin "object.__class__") "__get__" = some (some (.builtin "getset_descriptor.__get__"))) (kY:Xg K (.builtin "object.__class__")=some true) (cD:nF K (.ref C'6) (.ref C'7)=some true) (cu:nF K (.ref C'6) (.type "ValueError")=some true) (iR:Xk K (.ref C'6) [(.ref C'8),(.ref C'9),(.ref Qs),(.ref Qt)]=some false) (gk0:GKs K [("spread",Io),("mark",YW),("_law_mix",Qq),("_law_far_back",qR),("figures",Aw),("row",s_row),("window_words",mD),("rungs_words",pq),("frequent_words",iI),("written",Ay),("need",YX),("number_of",ux),("numbers_of",qT),("sound_bounds",mG),("bounds_of",uy),("words_of",xr),("signed_of",uz),("parted",Ip),("rising_things",jH),("sound_frequent",iJ),("sound_list",qU),("stand_for_total",gO),("sound_rungs",pA),("sound_places",mH),("sound_sums",qW),("sound_window",mJ),("sound_distinct",iK),("read_keep",uD),("read_frequent",jJ),("read_rungs",qX)]) (gk1:GKs K [("read_window",pB),("read_distinct",jK),("read_sums",uE),("read_keepsake",jL),("_law_text",Ir),("_law_refused",uF),("_law_worse",Az),("_law_plan",Iu),("_law_moved_counts",iM),("_law_moved_rungs",jM),("_law_moved_boxes",jN),("_law_moved_seen",mK),("_law_moved",Bb),("law",afU)]) (abR:MKs K C'0 [("__init__","Rungs.__init__",qQ)]) (abS:MKs K C'1 [("__init__","Window.__init__",o9)]) (abT:MKs K C'2 [("__init__","Distinct.__init__",jE)]) (abU:MKs K C'3 [("__init__","Frequent.__init__",jF)]) (abV:MKs K C'4 [("__init__","Balance.__init__",mq)]) (abW:MKs K C'5 [("__init__","Keepsake.__init__",jG)]) (mk'6:MKs K C'6 [("__init__","BadText.__init__",mF)]) (zk:ZK K ["ValueError","abs","all","bool","dict","int","isinstance","len","list","max","min","range","reversed","sorted","str","sum","zip"]) {Iv:Tok} (vH:cT K bT "FIGURES" = some (some (.str "0123456789" Iv))) {vZ:Tok} (kZ:cT K bT "LEAST_ROOM" = some (some (.int 2 vZ))) {Tv:Tok} (FW:cT K bT "LINES" = some (some (.int 8 Tv))) {aar:Tok} (Qu:cT K bT "MOST" = some (some (.int 1152921504606846976 aar))) {sO:Tok} (gP:cT K bT "MOST_FIGURES" = some (some (.int 60 sO))) {pY:Tok} (gh:cT K bT "MOST_HALVINGS" = some (some (.int 60 pY))) {v7:Tok} (lg:cT K bT "MOST_LEVEL" = some (some (.int 60 v7))) {v8:Tok} (lA:cT K bT "MOST_REACH" = some (some (.int 1000000000 v8))) {yw:Tok} (oh:cT K bT "MOST_ROOM" = some (some (.int 64 yw))) {yx:Tok} (oA:cT K bT "MOST_SPAN" = some (some (.int 1000000000 yx))) {Tw:Tok} (FZ:cT K bT "PIECE" = some (some (.int 1000000000000000000000000000000 Tw))) {pZ:Tok} (gj:cT K bT "PIECE_FIGURES" = some (some (.int 30 pZ))) {Mp:Tok} (yC:cT K bT "SPREAD" = some (some (.int 770093176312745717 Mp))),
  R w K mg fa
end My
section
open PySem PySem.W PyProof.Rows L2
local macro_rules
  | `(tactic| o_head $H) => `(tactic|
    (refine holds_open (r := My.jO) (q := My.view) (loose := []) (N := 20000)
        (Xt := My.Tt) (XP := XL My.view [])
        (Yf := Hook.obs $H) (Ya := Hook.val $H) (YP := Hook.says $H) ?hl (Hook.of $H) (Hook.keeps $H)
        (fun s e => xl_of s (aeD.mp e).1) XL.keeps
        (by rfl) (by rfl) (by rfl)
        (fun s e => recFacts_of (aeD.mp e).2) (by rfl)
        (by first | assumption | decide +kernel) tb_g%
        #[rfl, rfl, rfl, rfl, rfl, by decide +kernel] ?hw ?hc;
     (case hl => exact My.afT My.seeP My.see0 My.see1 (by intro w os; kernel_rfl))))
local macro_rules
  | `(tactic| k_is) => `(tactic| first
    | (refine' My.LK.of ?lkl ?lkc ?lkk; (case lkl => k_is); (case lkc => k_is); (case lkk => k_is))
    | (refine' My.GK.of ?gka ?gkl; (case gka => k_is); (case gkl => k_is))
    | (refine' My.MeK.of ?mka ?mki ?mkl; (case mka => k_is); (case mki => k_is); (case mkl => k_is))
    | exact My.NK.nil
    | exact My.ZK.nil
    | exact My.GKs.nil
    | exact My.MKs.nil
    | (refine' My.GKs.cons ?gca ?gcb; (case gca => k_is); (case gcb => k_is))
    | (refine' My.MKs.cons ?mca ?mcb; (case mca => k_is); (case mcb => k_is))
    | (refine' My.XJ.of ?xjl ?xji ?xjj ?xjt ?xjo; (case xjl => k_is); (case xji => k_is); (case xjj => k_is); (case xjt => kernel_rfl); (case xjo => kernel_rfl))
    | (refine' My.NK.cons ?nka ?nkb; (case nka => k_is); (case nkb => k_is))
    | (refine' My.ZK.cons ?zka ?zkb; (case zka => k_is); (case zkb => k_is))
    | (refine' My.CK.of ?ck1 ?ck2 ?ck3 ?ck4 ?ck5 ?ck6; (case ck1 => k_is); (case ck2 => k_is); (case ck3 => k_is); (case ck4 => k_is); (case ck5 => k_is); (case ck6 => k_is))
    | fail)
open My in
set_option maxRecDepth 100000 in
set_option maxHeartbeats 0 in
theorem My.head(R:World->aF->(Str->Option Value)->Addr->Prop)(mk:My.afV R)
  (wk:∀{q:aG}{loose:List Str} {XP:(Str->Option Value)->Heap->Prop} {YP:World->Heap->Prop} {d:Px} {K:Ac->aF},Df.most=some 63->d.params.defaults=[]->(∀(w:World)(h:Heap),YP w h->(K w.params).In h)->(∀(w:World)(mg:Str->Option Value)(fa:Addr)(h:Heap),(K w.params).In h->h.Ns bT mg->mg d.name=some (.ref fa)->R w (K w.params) mg fa)->Xn q loose XP YP Df.row.toRowW d [] (fun f vs=>O7 f vs)):Df.Holds:=by
 w_on;refine PySem.W.holds_law My.seeW fun said=>?_;k_head;(case hw=>w_witness2)
 k_fill
 refine wk rfl rfl (fun w h Y=>ajQ Y) ?F
 case F =>
  intro w mg fa h KX G hmg;refine' mk KX G hmg ?aC'0 ?uG ?yu ?aC'1 ?pX ?vG ?aC'2 ?jr ?nP ?aC'3 ?jt ?nQ ?aC'4 ?mL ?qY ?aC'5 ?ju ?nR ?aC'6 ?aC'7 ?aC'8 ?aC'9 ?aap ?aaq ?fQ ?iQ ?nU ?nY ?nZ ?n8 ?jf ?jg ?jh ?eF ?eG ?eN ?j7 ?j8 ?j9 ?kh ?kj ?kE ?kO ?kW ?kY ?cD ?cu ?iR ?gk0 ?gk1 ?abR ?abS ?abT ?abU ?abV ?abW ?mk'6 ?zk ?vH ?kZ ?FW ?Qu ?gP ?gh ?lg ?lA ?oh ?oA ?FZ ?gj ?yC
  (case aC'0=>k_is)
  (case uG=>k_is)
  (case yu=>k_is)
  (case aC'1=>k_is)
  (case pX=>k_is)
  (case vG=>k_is)
  (case aC'2=>k_is)
  (case jr=>k_is)
  (case nP=>k_is)
  (case aC'3=>k_is)
  (case jt=>k_is)
  (case nQ=>k_is)
  (case aC'4=>k_is)
  (case mL=>k_is)
  (case qY=>k_is)
  (case aC'5=>k_is)
  (case ju=>k_is)
  (case nR=>k_is)
  (case aC'6=>k_is)
  (case aC'7=>k_is)
  (case aC'8=>k_is)
  (case aC'9=>k_is)
  (case aap=>k_is)
  (case aaq=>k_is)
  (case fQ=>k_is)
  (case iQ=>k_is)
  (case nU=>k_is)
  (case nY=>k_is)
  (case nZ=>k_is)
  (case n8=>k_is)
  (case jf=>k_is)
  (case jg=>k_is)
  (case jh=>k_is)
  (case eF=>k_is)
  (case eG=>k_is)
  (case eN=>k_is)
  (case j7=>k_is)
  (case j8=>k_is)
  (case j9=>k_is)
  (case kh=>k_is)
  (case kj=>k_is)
  (case kE=>k_is)
  (case kO=>k_is)
  (case kW=>k_is)
  (case kY=>k_is)
  (case cD=>kit_is)
  (case cu=>kit_is)
  (case iR=>kit_is)
  (case gk0=>k_is)
  (case gk1=>k_is)
  (case abR=>k_is)
  (case abS=>k_is)
  (case abT=>k_is)
  (case abU=>k_is)
  (case abV=>k_is)
  (case abW=>k_is)
  (case mk'6=>k_is)
  (case zk=>k_is)
  (case vH=>k_is)
  (case kZ=>k_is)
  (case FW=>k_is)
  (case Qu=>k_is)
  (case gP=>k_is)
  (case gh=>k_is)
  (case lg=>k_is)
  (case lA=>k_is)
  (case oh=>k_is)
  (case oA=>k_is)
  (case FZ=>k_is)
  (case gj=>k_is)
  (case yC=>k_is)
end
set_option Elab.async false
set_option linter.all false
set_option maxRecDepth 100000
namespace L2
open PySem PySem.Spec PyProof.Rows
abbrev Key:=Sum Int Str
def Iw:Key->Value->Bool
 | .inl k,v=>afJ k v
 | .inr x,v=>afI x v
def keyH(w:World):Key->Int
 | .inl k=>hashInt k
 | .inr x=>hashStr w x
theorem dI:∀{k:Key}{v:Value},Iw k v=true->(∃i t,k=Sum.inl i/\v=Value.int i t)\/(∃x t,k=Sum.inr x/\v=Value.str x t)
 | .inl i,v,h=>by
  obtain⟨t,e⟩:=Value.isInt_shape (k:=i) (v:=v) h;exact .inl #[i,t,rfl,e]
 | .inr x,v,h=>by
  obtain⟨t,e⟩:=Value.isStrOf_shape (x:=x) (v:=v) h;exact .inr #[x,t,rfl,e]
theorem Mq(i:Int)(t:Tok):Iw (.inl i) (.int i t)=true:=by simp[Iw,afJ]
theorem abX(x:Str)(t:Tok):Iw (.inr x) (.str x t)=true:=by simp[Iw,afI]
theorem ak7(a b:Int):decide ((Sum.inl a:Key)=Sum.inl b)=(a == b):=by
 by_cases e:a=b
 ·subst e;simp
 ·have h:¬ (Sum.inl a:Key)=Sum.inl b:=fun q=>e (afK q);rw[decide_eq_false h];exact(beq_eq_false_iff_ne.mpr e).symm
theorem ak8(a b:Str):decide ((Sum.inr a:Key)=Sum.inr b)=decide (a=b):=by
 by_cases e:a=b
 ·subst e;simp
 ·have h:¬ (Sum.inr a:Key)=Sum.inr b:=fun q=>e (afL q);rw[decide_eq_false h,decide_eq_false e]
theorem ak9(a:Int)(b:Str):decide ((Sum.inl a:Key)=Sum.inr b)=false:=decide_eq_false (fun q=>nomatch q)
theorem ala(a:Str)(b:Int):decide ((Sum.inr a:Key)=Sum.inl b)=false:=decide_eq_false (fun q=>nomatch q)
def cg(prog:aG)(w:World):PySem.KeyKind prog w Key where
 is:=Iw
 hash:=keyH w
 inj:=fun v a b ha hb=>by
  rcases dI ha with⟨i,t,rfl,rfl⟩|⟨x,t,rfl,rfl⟩
  ·rcases dI hb with⟨j,u,rfl,e⟩|⟨y,u,rfl,e⟩
   ·injection e with e1 _;rw[e1]
   ·exact nomatch e
  ·rcases dI hb with⟨j,u,rfl,e⟩|⟨y,u,rfl,e⟩
   ·exact nomatch e
   ·injection e with e1 _;rw[e1]
 byValue:=fun k v h=>by
  rcases dI h with⟨i,t,rfl,rfl⟩|⟨x,t,rfl,rfl⟩ <;> rfl
 pyHash:=fun hv h=>by
  rcases dI hv with⟨i,t,rfl,rfl⟩|⟨x,t,rfl,rfl⟩
  ·exact wpAny_pyHash_int h
  ·exact wpAny_pyHash_str h
 eqBool:=fun hu hv h=>by
  rcases dI hu with⟨i,t,rfl,rfl⟩|⟨x,t,rfl,rfl⟩
  ·rcases dI hv with⟨j,u,rfl,rfl⟩|⟨y,u,rfl,rfl⟩
   ·rw[ak7]at h;exact wpAny_eqBool_int h
   ·rw[ak9]at h;exact afr i t y u _ _ _ _ h
  ·rcases dI hv with⟨j,u,rfl,rfl⟩|⟨y,u,rfl,rfl⟩
   ·rw[ala]at h;exact afs x t j u _ _ _ _ h
   ·rw[ak8]at h;exact wpAny_eqBool_str h
 «strs» := fun k x t v h=>by
  rcases dI h with⟨i,u,rfl,e⟩|⟨y,u,rfl,e⟩
  ·exact nomatch e
  ·injection e with e1 _;subst e1;cases v <;> rfl
theorem Tz(prog:aG)(w:World)(i:Int)(t:Tok):(cg prog w).is (.inl i) (.int i t)=true:=Mq i t
theorem TF(prog:aG)(w:World)(x:Str)(t:Tok):(cg prog w).is (.inr x) (.str x t)=true:=abX x t
inductive V where
 |non|bl (b:Bool)|int (i:Int)|str (x:Str)|byt (b:Array UInt8)|flt (b:UInt64)|ref (a:Addr)|ty (n:String)
 deriving DecidableEq
def RelV:V->Value->Prop
 | .non,u=>u=Value.none
 | .bl b,u=>u=Value.bool b
 | .int i,u=>∃t,u=Value.int i t
 | .str x,u=>∃t,u=Value.str x t
 | .byt b,u=>∃t,u=Value.bytes b t
 | .flt b,u=>∃t,u=Value.float b t
 | .ref a,u=>u=Value.ref a
 | .ty n,u=>u=Value.type n
abbrev Vals:List V->List Value->Prop:=Paired RelV
theorem Vals.length{xs:List V}{us:List Value}(r:Vals xs us):xs.length=us.length:=YL r
theorem Vals.get:∀{xs:List V}{us:List Value}{i:Nat}{x:V},Vals xs us->xs[i]? = some x->∃u,us[i]? = some u/\RelV x u
 |_,_,_,_,.nil,e=>by simp at e
 |_,_,0,_,.cons r _,e=>by simp at e;subst e;show#[_,rfl,r]
 |_,_,i+1,x,.cons _ t,e=>by
  obtain⟨u,h1,h2⟩:=Vals.get (i:=i) (x:=x) t (by simpa using e);show#[u,by simpa using h1,h2]
theorem Vals.set{x:V}{u:Value}(r:RelV x u):∀{xs:List V}{us:List Value}(i:Nat),Vals xs us->Vals (xs.set i x) (us.set i u)
 |_,_,_,.nil=>.nil
 |_,_,0,.cons _ t=>.cons r t
 |_,_,i+1,.cons q t=>.cons q (Vals.set r i t)
theorem Vals.append:∀{xs ys:List V}{us ws:List Value},Vals xs us->Vals ys ws->Vals (xs++ys) (us++ws)
 |_,_,_,_,.nil,s=>s
 |_,_,_,_,.cons r t,s=>.cons r (Vals.append t s)
theorem Vals.take:∀{xs:List V}{us:List Value}(n:Nat),Vals xs us->Vals (xs.take n) (us.take n)
 |_,_,0,_=>.nil
 |_,_,_+1,.nil=>.nil
 |_,_,n+1,.cons r t=>.cons r (Vals.take n t)
theorem Vals.drop:∀{xs:List V}{us:List Value}(n:Nat),Vals xs us->Vals (xs.drop n) (us.drop n)
 |_,_,0,r=>r
 |_,_,_+1,.nil=>.nil
 |_,_,n+1,.cons _ t=>Vals.drop n t
theorem Vals.none_of:∀{xs:List V}{us:List Value}{i:Nat},Vals xs us->xs[i]? = none->us[i]? = none:=fun {xs us i} r e=>by
 have h1:=r.length;have h2:xs.length<=i:=adf.mp e;exact adf.mpr (by lia)
def qZ:Option V->Option Value->Prop
 |some v,some u=>RelV v u
 |none,none=>True
 |_,_=>False
def KV{κ:Type}:List (κ × V)->List (κ × Value)->Prop:=Paired fun(p:κ × V) (q:κ × Value)=>p.1=q.1/\RelV p.2 q.2
def kV:Key->V
 | .inl i=>.int i
 | .inr x=>.str x
inductive HO where
 |lst (xs:List V)
 |tup (xs:List V)
 |dK (kvs:List (Key × V))|dT (kvs:List (List Key × V))
 |set (S:Int->Bool) (n:Nat)
 |ins (C dx:Addr) (fs:List (Str × V))
 |own (x:Addr)
 |xd (fs:List (Str × V))
 |met (f x:Addr)
 |rng (lo hi:Int)
 |frz (o:Obj) (u:HO)
 |tbl (ps:Array Value)
 |ext (φ:Heap->Prop)
abbrev Hp:=Addr->Option HO
def upd(H:Hp)(a:Addr)(o:HO):Hp:=fun b=>if b=a then some o else H b
theorem aj{H:Hp}{a:Addr}{o:HO}:upd H a o a=some o:=by unfold upd;rw[if_pos rfl]
theorem ao{H:Hp}{a b:Addr}{o:HO}(h:b≠a):upd H a o b=H b:=by unfold upd;rw[if_neg h]
theorem cV{H:Hp}{a:Addr}{o u:HO}:upd (upd H a o) a u=upd H a u:=by
 funext b;unfold upd;split <;> rfl
theorem v9{H:Hp}{a b:Addr}{o u:HO}(h:H a=some o)(h':H b=some u)(d:o≠u):a≠b:=by
 intro e;subst e;rw[h]at h';exact d (bK h')
theorem ak{H:Hp}{a b:Addr}{o:HO}(h:H a=some o)(h':H b=none):a≠b:=by
 intro e;subst e;rw[h]at h';cases h'
section
variable(P:aG)(w:World)
def cA(H:Hp)(h:Heap)(a:Addr):HO->Prop
 | .lst xs=>xs.length<=sizeLine/\∃(its:List Value)(n:Nat),Vals xs its/\h.get? a=some { cls:=.type "list",data:=.seq its.toArray n }
 | .tup xs=>xs.length<=sizeLine/\∃its:List Value,Vals xs its/\IsTup h a its.toArray
 | .dK kvs=>kvs.length<=sizeLine/\(a == qM)=false/\∃vs,KV kvs vs/\h.DictOf (cg P w) a vs
 | .dT kvs=>kvs.length<=sizeLine/\(a == qM)=false/\∃xs:List (List Key × Addr × Value),
   Paired (fun(p:List Key × V) (q:List Key × Addr × Value)=>p.1=q.1/\H q.2.1=some (.tup (p.1.map kV))/\RelV p.2 q.2.2) kvs xs /\
   ∃o es ep,h.get? a=some o/\o.ExactDict/\o.data=.dict es ep/\es.toList=xs.map (entryOfKey (Hq (cg P w)))/\(xs.map (·.1)).Nodup
 | .set S n=>h.SetOf (intKind P w) a S n
 | .ins C dx fs=>H dx=some (.own a)/\fs.length<=1000/\dx≠a/\h.get? a=some (tX C dx) /\
   ∃mA,h.Ns1 dx mA/\(∀f,qZ (fs.lookup f) (mA f))/\Xx mA (fs.map (·.1))
 | .own _=>∃o,h.get? a=some o
 | .xd fs=>∃mA,h.Ns1 a mA/\∀f,qZ (fs.lookup f) (mA f)
 | .rng lo hi=>∃t u v,h.get? a=some { cls:=.type "range",data:=.fields [.int lo t,.int hi u,.int 1 v].toArray }
 | .frz o u=>h.get? a=some o/\cA H h a u
 | .tbl ps=>h.get? a=some { cls:=.none,data:=.fields ps }
 | .met f x=>h.get? a=some (Xf (.ref f) (.ref x))
 | .ext φ=>φ h/\(∃o,h.get? a=some o)/\∀h1 h2:Heap,φ h1->(∀o,h1.get? a=some o->h2.get? a=some o)->φ h2
def HOk(H:Hp)(h:Heap):Prop:=∀a o,H a=some o->cA P w H h a o
end
section
variable{P:aG}{w:World}{H H':Hp}{h h':Heap}{a:Addr}{o:HO}
theorem cA.lt(x:cA P w H h a o):a<h.objs.size:=by
 cases o with
 |lst xs=>obtain⟨_,_,_,_,e⟩:=x;exact bA e
 |tup xs=>obtain⟨_,_,_,p⟩:=x;exact p.lt
 |dK kvs=>obtain⟨_,_,_,_,o,_,_,e,_⟩:=x;exact bA e
 |dT kvs=>obtain⟨_,_,_,_,o,_,_,e,_⟩:=x;exact bA e
 |set S n=>obtain⟨o,_,_,_,e,_⟩:=x;exact bA e
 |ins C dx fs=>obtain⟨_,_,_,e,_⟩:=x;exact bA e
 |own y=>obtain⟨_,e⟩:=x;exact bA e
 |xd fs=>obtain⟨_,⟨_,_,_,e,_⟩,_⟩:=x;exact bA e
 |rng lo hi=>obtain⟨_,_,_,e⟩:=x;exact bA e
 |frz ob u=>obtain⟨e,_⟩:=x;exact bA e
 |tbl ps=>exact bA (show h.get? a=some _ from x)
 |met f y=>exact bA (show h.get? a=some _ from x)
 |ext φ=>obtain⟨_,⟨_,e⟩,_⟩:=x;exact bA e
theorem Paired.mapP{α β:Type}{F G:α->β->Prop}:∀{l₁:List α}{l₂:List β},Paired F l₁ l₂->(∀a b,F a b->G a b)->Paired G l₁ l₂
 |_,_,.nil,_=>.nil
 |_,_,.cons r t,f=>.cons (f _ _ r) (Paired.mapP t f)
theorem cA.stay(x:cA P w H h a o)(k:∀b u,(b=a\/H b=some (.own a))->h.get? b=some u->h'.get? b=some u)
  (ho:∀b,H b=some (.own a)->H' b=some (.own a)) (ht:∀b xs,H b=some (.tup xs)->H' b=some (.tup xs)):cA P w H' h' a o:=by
 induction o with
 |lst xs=>obtain⟨z,its,n,r,e⟩:=x;show#[z,its,n,r,k _ _ (.inl rfl) e]
 |tup xs=>obtain⟨z,its,r,ob,e,c⟩:=x;show#[z,its,r,ob,k _ _ (.inl rfl) e,c]
 |dK kvs=>obtain⟨z,y,vs,r,ob,es,ep,e,c⟩:=x;show#[z,y,vs,r,ob,es,ep,k _ _ (.inl rfl) e,c]
 |dT kvs =>
  obtain⟨z,y,xs,r,ob,es,ep,e,c⟩:=x;show#[z,y,xs,Paired.mapP r fun p q z=>#[z.1,ht _ _ z.2.1,z.2.2],ob,es,ep,k _ _ (.inl rfl) e,c]
 |set S n=>obtain⟨ob,es,ep,t,e,c⟩:=x;show#[ob,es,ep,t,k _ _ (.inl rfl) e,c]
 |ins C dx fs =>
  obtain⟨d,z,ne,e,mA,⟨od,es,ep,e2,c⟩,r⟩:=x;show#[ho _ d,z,ne,k _ _ (.inl rfl) e,mA,#[od,es,ep,k _ _ (.inr d) e2,c],r]
 |own y=>obtain⟨ob,e⟩:=x;show#[ob,k _ _ (.inl rfl) e]
 |xd fs=>obtain⟨mA,⟨od,es,ep,e,c⟩,r⟩:=x;show#[mA,#[od,es,ep,k _ _ (.inl rfl) e,c],r]
 |rng lo hi=>obtain⟨t,u,v,e⟩:=x;show#[t,u,v,k _ _ (.inl rfl) e]
 |frz ob u ih=>obtain⟨e,q⟩:=x;show#[k _ _ (.inl rfl) e,ih q]
 |tbl ps =>
  have e:h.get? a=some { cls:=.none,data:=.fields ps }:=x;show h'.get? a=some { cls:=.none,data:=.fields ps };exact k a _ (.inl rfl) e
 |met f y =>
  have e:h.get? a=some (Xf (.ref f) (.ref y)):=x;show h'.get? a=some (Xf (.ref f) (.ref y));exact k a _ (.inl rfl) e
 |ext φ=>obtain⟨p,⟨o,e⟩,st⟩:=x;show#[st _ _ p fun o q=>k _ _ (.inl rfl) q,#[o,k _ _ (.inl rfl) e],st]
theorem HOk.lt(x:HOk P w H h)(e:H a=some o):a<h.objs.size:=(x a o e).lt
theorem HOk.fresh(x:HOk P w H h)(e:h.objs.size<=a):H a=none:=by
 cases q:H a with
 |none=>rfl
 |some u=>exact absurd (cG (x.lt q) e) (nH _)
theorem HOk.kept(x:HOk P w H h)(k:∀b u,h.get? b=some u->h'.get? b=some u):HOk P w H h':=fun a o e =>
 (x a o e).stay (fun b u _ q=>k b u q) (fun _ q=>q) fun _ _ q=>q
theorem HOk.laid(x:HOk P w H h)(k:∀b u,h.get? b=some u->h'.get? b=some u)(hp:h.objs.size<=a)(new:cA P w (upd H a o) h' a o):HOk P w (upd H a o) h':=fun b u e=>by
 have hn:=x.fresh hp;by_cases hb:b=a
 ·subst hb;rw[aj]at e;cases e;exact new
 ·rw[ao hb]at e;exact(x b u e).stay (fun c v _ q=>k c v q) (fun c q=>by rwa[ao (ak q hn)]) fun c xs q=>by rwa[ao (ak q hn)]
end
def Rd(H:Hp)(a:Addr)(u:HO):Prop:=H a=some u\/∃o,H a=some (.frz o u)
theorem Rd.ok{P:aG}{w:World}{H:Hp}{h:Heap}{a:Addr}{u:HO}(r:Rd H a u)(x:HOk P w H h):cA P w H h a u:=by
 rcases r with r|⟨o,r⟩
 ·exact x a u r
 ·obtain⟨_,q⟩:=x a _ r;exact q
def Mut:Option HO->Prop
 |some (.lst _)=>True
 |some (.dK _)=>True
 |some (.dT _)=>True
 |some (.set _ _)=>True
 |some (.ins _ _ _)=>True
 |some (.ext _)=>True
 |_=>False
section
variable{P:aG}{w:World}{H:Hp}{h h':Heap}{x e:Addr}{o':HO}
theorem HOk.write(ok:HOk P w H h)(mu:Mut (H x))(he:e=x\/H e=some (.own x))(k:∀b u,b≠e->h.get? b=some u->h'.get? b=some u)(heo:∃u,h'.get? e=some u)
  (new:cA P w (upd H x o') h' x o'):HOk P w (upd H x o') h':=fun b u q=>by
 have nown:∀c y,H c=some (.own y)->c≠x:=fun c y r z=>by subst z;rwa[r]at mu
 have ntup:∀c xs,H c=some (.tup xs)->c≠x:=fun c xs r z=>by subst z;rwa[r]at mu
 by_cases hb:b=x
 ·subst hb;rw[aj]at q;cases q;exact new
 ·rw[ao hb]at q;by_cases hbe:b=e
  ·have q':H b=some (.own x):=by
    rcases he with z|z
    ·exact absurd (hbe.trans z) hb
    ·rwa[hbe]
   rw[q]at q';cases q';obtain⟨v,hv⟩:=heo;show#[v,by rwa[hbe]]
  ·refine(ok b u q).stay (fun c v hc r=>k c v ?_ r) (fun c r=>by rwa[ao (nown c b r)]) fun c xs r=>by rwa[ao (ntup c xs r)]
   rcases hc with rfl|hc
   ·exact hbe
   ·rintro rfl;rcases he with z|z
    ·exact nown c b hc z
    ·rw[hc]at z;cases z;exact hb rfl
end
structure Un(fs ex:List Addr)(H H':Hp)(h h':Heap):Prop where
 keep:∀b o,h.get? b=some o->H b=none->b∉fs->b∉ex->h'.get? b=some o
 slot:∀b o,h.get? b=some o->H b=none->b∈fs->b∉ex->∃sl,h'.get? b=some { o with slots:=sl }
 free:∀b o,h.get? b=some o->H b=none->b∉ex->H' b=none
 there:∀b o,h.get? b=some o->b∉ex->∃o',h'.get? b=some o'
 tups:∀b xs,H b=some (.tup xs)->H' b=some (.tup xs)
 rm:∀b o u,H b=some (.frz o u)->H' b=some (.frz o u)
 uH:∀b ps,H b=some (.tbl ps)->∃more,H' b=some (.tbl (ps++more))
section
variable{fs fs' ex ex':List Addr}{H H1 H2:Hp}{h h1 h2 h':Heap}{a x e:Addr}{o:HO}
theorem Un.any(u:Un fs ex H H1 h h1){b:Addr}{ob:Obj}(q:h.get? b=some ob)(n:H b=none)(hx:b∉ex):∃sl,h1.get? b=some { ob with slots:=sl }:=by
 by_cases hb:b∈fs
 ·exact u.slot b ob q n hb hx
 ·show#[ob.slots,u.keep b ob q n hb hx]
theorem Un.kept(k:∀b u,h.get? b=some u->h'.get? b=some u):Un fs ex H H h h':=
 #[fun b ob q _ _ _=>k b ob q,fun b ob q _ _ _=>#[ob.slots,k b ob q],fun _ _ _ n _=>n,fun b ob q _=>#[ob,k b ob q],fun _ _ q=>q,fun _ _ _ q=>q,fun _ ps q=>#[#[],by rw[q];simp]]
theorem Un.refl:Un fs ex H H h h:=Un.kept fun _ _ q=>q
theorem Un.laid(k:∀b u,h.get? b=some u->h'.get? b=some u)(hp:h.objs.size<=a)(hn:H a=none):Un fs ex H (upd H a o) h h' where
 keep:=fun b u q _ _ _=>k b u q
 slot:=fun b u q _ _ _=>#[u.slots,k b u q]
 free:=fun b u q n _=>by rwa[ao (bZ (cG (bA q) hp))]
 there:=fun b u q _=>#[u,k b u q]
 tups:=fun b xs q=>by rwa[ao (ak q hn)]
 rm:=fun b u xs q=>by rwa[ao (ak q hn)]
 uH:=fun b ps q=>#[#[],by rw[ao (ak q hn),q];simp]
theorem Un.write(mu:Mut (H x))(he:e=x\/H e=some (.own x))(k:∀b u,b≠e->h.get? b=some u->h'.get? b=some u)(heo:∃u,h'.get? e=some u):Un fs ex H (upd H x o) h h':=by
 have hx:∀b,H b=none->b≠x:=fun b n z=>by subst z;rwa[n]at mu
 have hb:∀b,H b=none->b≠e:=fun b n z=>by
  subst z;rcases he with r|r
  ·exact hx b n r
  ·rw[n]at r;cases r
 have hm:∀b u,H b=some u->¬ Mut (some u)->b≠x:=fun b u q nm z=>by subst z;rw[q]at mu;exact nm mu
 show#[fun b u q n _ _=>k b u (hb b n) q,fun b u q n _ _=>#[u.slots,k b u (hb b n) q],fun b u q n _=>by rw [ao (hx b n)];exact n,fun b u q _=>?_,
  fun b xs q=>by rw [ao (hm b _ q fun z=>z)];exact q,fun b u xs q=>by rw [ao (hm b _ q fun z=>z)];exact q,fun b ps q=>#[#[],by rw [ao (hm b _ q fun z=>z),q];simp]]
 by_cases hbe:b=e
 ·subst hbe;exact heo
 ·show#[u,k b u hbe q]
end
def trk(h:Heap)(H:Hp):List Addr:=(dY h.objs.size).filter fun a=>(H a).isSome
def Qv(h:Heap)(H:Hp):Heap:=adJ h (trk h H)
theorem abY(h:Heap)(H:Hp):(Qv h H).objs.size=h.objs.size:=PySem.W.hideAll_size _ _
theorem afW{h:Heap}{H:Hp}{b:Addr}{o:Obj}(e:h.get? b=some o)(n:H b=none):(Qv h H).get? b=some o:=
 Xd _ e fun hm=>by
  have q:(H b).isSome=true:=(W6.mp hm).2;rw[n]at q;simp at q
theorem ah6{h:Heap}{H:Hp}{b:Addr}{o:Obj}(e:(Qv h H).get? b=some o):h.get? b=some o/\H b=none:=by
 have e':h.get? b=some o:=wH (trk h H) e;show#[e',?_];cases q:H b with
 |none=>rfl
 |some x =>
  have hm:b∈trk h H:=W6.mpr #[pP.mpr (bA e'),by simp[q]];have z:(Qv h H).get? b=none:=Dd (trk h H) hm;rw[z]at e;cases e
def ah7(g h:Heap)(L:Addr):List (Addr × Obj):=(dY h.objs.size).filterMap fun a=>if a=L\/(g.get? a).isSome=true then none else(h.get? a).map fun o=>(a,o)
def rest(g h:Heap)(L d:Addr):List (Addr × Obj):=(ah7 g h L).filter fun p=>decide (p.1≠d)
structure Mod(K:aF)(mg:Str->Option Value)(base:Heap):Prop where
 kin:K.In base
 glob:base.Ns bT mg
 blt:∃mb,base.Ns XH mb/\∀x:Str,x ≠ "__name__" -> mb x=qL x
 nolimit:base.NoLimit
structure Cx where
 prog:aG
 w:World
 K:aF
 mg:Str->Option Value
 base:Heap
 A:aN
 N:List Str
 s₀:Shared
 H₀:Hp
 env:Env
 outer:List Env
 stack:List Env
 ex:List Addr
 fn:Str->Bool
 calm:Bool
 pn:List (Addr × Obj)
 xe:Value->Shared->Prop
def frs(l:List Env):List Addr:=l.filterMap (·.frame)
abbrev Cx.fs(X:Cx):List Addr:=frs X.outer
def Vis(sc:Scope)(x:Str):Prop:=sc.names.lookup x=some .local\/sc.names.lookup x=some .cell\/sc.names.lookup x=some .free
def Loc(sc:Scope)(x:Str):Prop:=sc.names.lookup x=some .local\/sc.names.lookup x=some .cell
def Look(env:Env)(h:Heap)(m:Str->Option Value)(x:Str)(u:Value):Prop:=
 (env.kindOf x=some .local/\m x=some u)\/((env.kindOf x=some .cell\/env.kindOf x=some .free)/\∃c,env.cells.lookup x=some c/\h.IsCell c (some u))
structure Cx.Ok(X:Cx):Prop where
 mod:Mod X.K X.mg X.base
 kind:X.env.scope.kind=.function
 glob:X.env.globals=bT
 blt:X.env.builtins=XH
 above:X.s₀.heap.objs.size<=X.env.locals
 inj:∀x y c,X.env.cells.lookup x=some c->X.env.cells.lookup y=some c->x=y
 has:∀x,(X.env.kindOf x=some .cell\/X.env.kindOf x=some .free)->∃c,X.env.cells.lookup x=some c
 cab:∀x c,X.fn x=true->X.env.cells.lookup x=some c->X.s₀.heap.objs.size<=c
 hd:X.calm=true->X.A.handled=none
 frames:X.A.frames=some X.stack
 stk:X.stack=X.outer\/(X.stack=X.env::X.outer/\X.env.frame=some X.env.locals)
 exf:∀b∈X.ex,b≠X.env.locals/\∀x c,X.env.cells.lookup x=some c->c≠b
 bs:∀b o,X.base.get? b=some o->X.s₀.heap.get? b=some o/\X.H₀ b=none
 bsz:X.base.objs.size<=X.s₀.heap.objs.size
 YZ:∀b o,X.base.get? b=some o->b∉X.ex
 abZ:∀b∈X.ex,b∉X.fs
 xu:X.s₀.heap.FunFrames X.base X.outer
 frf:∀b∈X.fs,X.H₀ b=none
structure Inv(X:Cx)(pins:List (Addr × Obj))(σ:List (Option V))(H:Hp)(s:Shared):Prop where
 ok:X.Ok
 os:s.os=X.s₀.os
 bare:o8 s.gens
 base:Un X.fs X.ex X.H₀ H X.s₀.heap s.heap
 loc:∃m,s.heap.Ns X.env.locals m/\∀(i:Nat)(x:Str)(v:V),X.N[i]? = some x->σ[i]? = some (some v)->Vis X.env.scope x->∃u,RelV v u/\Look X.env s.heap m x u
 cell:∀x c,X.env.cells.lookup x=some c->∃v,s.heap.IsCell c v
 free:H X.env.locals=none
 p8:∀x c,X.env.cells.lookup x=some c->H c=none
 pin:∀p∈X.pn++pins,s.heap.get? p.1=some p.2/\H p.1=none/\p.1≠X.env.locals/\p.1∉X.fs/\∀v,p.2.data≠.cell v
 hok:HOk X.prog X.w H s.heap
 len:σ.length=X.N.length
section
variable{X:Cx}{pins:List (Addr × Obj)}{σ:List (Option V)}{H H':Hp}{s:Shared}{h':Heap}
theorem Cx.Ok.nofr(ok:X.Ok){b:Addr}{o:Obj}(e:X.base.get? b=some o):b∉X.fs:=fun hb=>by
 have:=(ok.xu.mem hb).1;rw[e]at this;cases this
theorem Inv.bs(I:Inv X pins σ H s):∀b o,X.base.get? b=some o->s.heap.get? b=some o/\H b=none:=fun b o e =>
 #[I.base.keep b o (I.ok.bs b o e).1 (I.ok.bs b o e).2 (I.ok.nofr e) (I.ok.YZ b o e),I.base.free b o (I.ok.bs b o e).1 (I.ok.bs b o e).2 (I.ok.YZ b o e)]
theorem Inv.bk(I:Inv X pins σ H s):∀b o,X.base.get? b=some o->s.heap.get? b=some o:=fun b o e=>(I.bs b o e).1
theorem Inv.mod(I:Inv X pins σ H s):Mod X.K X.mg X.base:=I.ok.mod
theorem Inv.kIn(I:Inv X pins σ H s):X.K.In s.heap:=I.ok.mod.kin.keeps I.bk
theorem Inv.nolimit(I:Inv X pins σ H s):s.heap.NoLimit:=I.ok.mod.nolimit.keeps I.bk
theorem Inv.lt(I:Inv X pins σ H s):X.env.locals<s.heap.objs.size:=let ⟨_,hn,_⟩:=I.loc;hn.lt
theorem Inv.sz(I:Inv X pins σ H s):X.s₀.heap.objs.size<=s.heap.objs.size:=bW I.ok.above (fu I.lt)
theorem Inv.nofs(I:Inv X pins σ H s){a:Addr}(h:s.heap.objs.size<=a):a∉X.fs:=fun hb=>by
 obtain⟨_,o,ho,_⟩:=I.ok.xu.mem hb;exact absurd (cG (bA ho) (bW I.sz h)) (nH _)
theorem Inv.cne(I:Inv X pins σ H s):∀x c,X.env.cells.lookup x=some c->c≠X.env.locals:=fun x c e z=>by
 obtain⟨v,o,ho,hd⟩:=I.cell x c e;obtain⟨m,⟨o',es,ep,ho',hd',_⟩,_⟩:=I.loc;rw[z,ho']at ho;cases ho;rw[hd']at hd;cases hd
theorem Inv.xu(I:Inv X pins σ H s):s.heap.FunFrames X.base X.outer:=by
 have all:∀(l:List Env),(∀b∈frs l,b∈X.fs)->X.s₀.heap.FunFrames X.base l->s.heap.FunFrames X.base l:=by
  intro l
  induction l with
  |nil=>intro _ _;trivial
  |cons env r ih =>
   intro hs hl;obtain⟨hk,⟨L,o,hf,hn,ho,hd⟩,hr⟩:=hl;have hL:L∈X.fs:=hs L (by unfold frs;rw[yh,hf];exact bV);obtain⟨sl,e⟩:=I.base.slot L o ho (I.ok.frf L hL) hL fun z=>I.ok.abZ L z hL;show#[hk,#[L,_,hf,hn,e,hd],ih (fun b hb=>hs b (by unfold frs;rw[yh,hf];exact cR _ hb)) hr]
 exact all X.outer (fun _ hb=>hb) I.ok.xu
theorem Inv.stack(I:Inv X pins σ H s):s.heap.FunFrames X.base X.stack:=by
 rcases I.ok.stk with e|⟨e,hf⟩
 ·rw[e];exact I.xu
 ·rw[e];obtain⟨m,hn,_⟩:=I.loc;refine .cons (by rw[I.ok.kind];decide) hf hn ?_ I.xu;exact Py (bW I.ok.bsz I.ok.above)
theorem Inv.Bc(I:Inv X pins σ H s):∀b∈frs X.stack,b∈X.env.locals::X.fs:=fun b hb=>by
 rcases I.ok.stk with e|⟨e,hf⟩
 ·rw[e]at hb;exact cR _ hb
 ·rw[e]at hb;unfold frs at hb;rwa[yh,hf]at hb
theorem Inv.vI(I:Inv X pins σ H s):∀b∈frs X.stack,H b=none:=fun b hb=>by
 rcases aZ.mp (I.Bc b hb)with e|hb
 ·rw[e];exact I.free
 ·obtain⟨_,o,ho,_⟩:=I.ok.xu.mem hb;exact I.base.free b o ho (I.ok.frf b hb) fun z=>I.ok.abZ b z hb
theorem Inv.step{g':Array X5}{t':Nat}{d':Drawn}{ch:List Addr}(I:Inv X pins σ H s)
  (hch:∀b∈ch,(b∈X.ex\/X.s₀.heap.objs.size<=b)/\b≠X.env.locals/\(∀x c,X.env.cells.lookup x=some c->c≠b)/\∀p∈X.pn++pins,p.1≠b)
  (keep:∀b o,b≠X.env.locals->b∉X.fs->b∉ch->s.heap.get? b=some o->H b=none->h'.get? b=some o)
  (slot:∀b o,b≠X.env.locals->b∈X.fs->b∉ch->s.heap.get? b=some o->H b=none->∃sl,h'.get? b=some { o with slots:=sl }) (free:∀b o,b∉ch->s.heap.get? b=some o->H b=none->H' b=none)
  (there:∀b o,b∉ch->s.heap.get? b=some o->∃o',h'.get? b=some o')
  (tups:∀b xs,H b=some (.tup xs)->H' b=some (.tup xs)) (rm:∀b o u,H b=some (.frz o u)->H' b=some (.frz o u)) (uH:∀b ps,H b=some (.tbl ps)->∃more,H' b=some (.tbl (ps++more)))
  (ns:∀m,s.heap.Ns X.env.locals m->h'.Ns X.env.locals m) (hok:HOk X.prog X.w H' h') (hg:o8 g'):
  Inv X pins σ H' { s with heap:=h',gens:=g',drawn:=d',toks:=t' }:=by
 have neL:∀b o,X.s₀.heap.get? b=some o->b≠X.env.locals:=fun b o e=>bZ (cG (bA e) I.ok.above);have neC:∀b o,X.s₀.heap.get? b=some o->b∉X.ex->b∉ch:=fun b o e hx hb=>by
  rcases(hch b hb).1 with z|z
  ·exact hx z
  ·exact absurd (cG (bA e) z) (nH _)
 have cellK:∀x c,X.env.cells.lookup x=some c->∀v,s.heap.IsCell c v->h'.IsCell c v:=fun x c e v ⟨o,ho,hd⟩=>by
  have nch:c∉ch:=fun z=>(hch c z).2.2.1 x c e rfl;by_cases hc:c∈X.fs
  ·obtain⟨sl,q⟩:=slot c o (I.cne x c e) hc nch ho (I.p8 x c e);show#[_,q,hd]
  ·show#[o,keep c o (I.cne x c e) hc nch ho (I.p8 x c e),hd]
 show#[I.ok,I.os,hg,#[fun b o e n hb hx=>?_,fun b o e n hb hx=>?_,fun b o e n hx=>?_,fun b o e hx=>?_,fun b xs e=>tups b xs (I.base.tups b xs e),fun b o xs e=>rm b o xs (I.base.rm b o xs e),fun b ps e=>?_],?_,fun x c e=>?_,?_,fun x c e=>?_,fun p hp=>?_,hok,I.len]
 ·exact keep b o (neL b o e) hb (neC b o e hx) (I.base.keep b o e n hb hx) (I.base.free b o e n hx)
 ·obtain⟨sl,e1⟩:=I.base.slot b o e n hb hx;obtain⟨sl',e2⟩:=slot b _ (neL b o e) hb (neC b o e hx) e1 (I.base.free b o e n hx);show#[sl',e2]
 ·obtain⟨o',e1⟩:=I.base.there b o e hx;exact free b o' (neC b o e hx) e1 (I.base.free b o e n hx)
 ·obtain⟨o',e1⟩:=I.base.there b o e hx;exact there b o' (neC b o e hx) e1
 ·obtain⟨m1,e1⟩:=I.base.uH b ps e;obtain⟨m2,e2⟩:=uH b _ e1;show#[m1++m2,by rw[e2,Array.append_assoc]]
 ·obtain⟨m,hn,hl⟩:=I.loc;show#[m,ns m hn,fun i x v e1 e2 e3=>?_];obtain⟨u,r,l⟩:=hl i x v e1 e2 e3;show#[u,r,?_];rcases l with l|⟨k,c,e,z⟩
  ·exact .inl l
  ·exact .inr #[k,c,e,cellK x c e _ z]
 ·obtain⟨v,z⟩:=I.cell x c e;show#[v,cellK x c e v z]
 ·obtain⟨m,⟨o,_,_,ho,_⟩,_⟩:=I.loc;exact free _ o (fun z=>(hch _ z).2.1 rfl) ho I.free
 ·obtain⟨v,o,ho,hd⟩:=I.cell x c e;exact free c o (fun z=>(hch c z).2.2.1 x c e rfl) ho (I.p8 x c e)
 ·obtain⟨e,n,ne,nf,d⟩:=I.pin p hp;have nch:p.1∉ch:=fun z=>(hch p.1 z).2.2.2 p hp rfl;show#[keep p.1 p.2 ne nf nch e n,free p.1 p.2 nch e n,ne,nf,d]
theorem Inv.un{t':Nat}(I:Inv X pins σ H s)(u:Un X.fs [] H H' s.heap h')(hok:HOk X.prog X.w H' h'):Inv X pins σ H' { s with heap:=h',toks:=t' }:=by
 obtain ⟨m,⟨o,es,ep,ho,r⟩,_⟩:=id I.loc;obtain ⟨sl,hL⟩:=u.any ho I.free (by simp);exact I.step (g':=s.gens) (d':=s.drawn) (ch:=[]) (fun _ z=>nomatch z) (fun b o _ hb _ e n=>u.keep b o e n hb (by simp)) (fun b o _ hb _ e n=>u.slot b o e n hb (by simp)) (fun b o _ e n=>u.free b o e n (by simp)) (fun b o _ e=>u.there b o e (by simp)) u.tups u.rm u.uH (fun m' hm=>by
  obtain ⟨o',es',ep',ho',r'⟩:=hm;rw [ho] at ho';cases ho';show#[_,es',ep',hL,r']) hok I.bare
theorem Inv.call{g':Array X5}{t':Nat}{d':Drawn}{ch:List Addr}(I:Inv X pins σ H s)(u:Un (frs X.stack) ch H H' s.heap h')(hok:HOk X.prog X.w H' h')(hg:o8 g')
  (hch:∀b∈ch,(b∈X.ex\/X.s₀.heap.objs.size<=b)/\b≠X.env.locals/\(∀x c,X.env.cells.lookup x=some c->c≠b)/\∀p∈X.pn++pins,p.1≠b):
  Inv X pins σ H' { s with heap:=h',gens:=g',drawn:=d',toks:=t' }:=by
 obtain ⟨m,⟨o,es,ep,ho,r⟩,_⟩:=id I.loc;obtain ⟨sl,hL⟩:=u.any ho I.free fun z=>(hch _ z).2.1 rfl;exact I.step (ch:=ch) hch (fun b o hL hb hc e n=>u.keep b o e n (fun z=>(aZ.mp (I.Bc b z)).elim hL hb) hc) (fun b o _ _ hc e n=>u.any e n hc) (fun b o hc e n=>u.free b o e n hc) (fun b o hc e=>u.there b o e hc) u.tups u.rm u.uH (fun m' hm=>by
  obtain ⟨o',es',ep',ho',r'⟩:=hm;rw [ho] at ho';cases ho';show#[_,es',ep',hL,r']) hok hg
theorem Inv.turned{t':Nat}{it:Addr}(I:Inv X pins σ H s)(k:∀b o,b≠it->s.heap.get? b=some o->h'.get? b=some o)(hn:H it=none)(hL:it≠X.env.locals)
  (h1:it∈X.ex\/X.s₀.heap.objs.size<=it) (h2:∀x c,X.env.cells.lookup x=some c->c≠it) (h3:∀p∈X.pn++pins,p.1≠it):Inv X pins σ H { s with heap:=h',toks:=t' }:=by
 have nit:∀b u,H b=some u->b≠it:=fun b u e z=>by rw[z,hn]at e;cases e
 refine I.step (g':=s.gens) (d':=s.drawn) (ch:=[it]) (fun b hb=>?_) (fun b o _ _ hc e _=>k b o (fun z=>hc (by simp[z])) e) (fun b o _ _ hc e _=>#[o.slots,k b o (fun z=>hc (by simp[z])) e]) (fun _ _ _ _ n=>n)
  (fun b o hc e=>#[o,k b o (fun z=>hc (by simp[z])) e]) (fun _ _ e=>e) (fun _ _ _ e=>e) (fun b ps e=>#[#[],by rw[e];simp]) (fun m hm=>?_) (fun b u e=>?_) I.bare
 ·have e:b=it:=by simpa using hb
  subst e;show#[h1,hL,h2,h3]
 ·obtain⟨o,es,ep,ho,r⟩:=hm;show#[o,es,ep,k _ o (aQ hL) ho,r]
 ·refine(I.hok b u e).stay (fun c v hc q=>k c v ?_ q) (fun _ q=>q) fun _ _ q=>q;rcases hc with z|z
  ·rw[z];exact nit b u e
  ·exact nit c _ z
theorem Inv.tok(I:Inv X pins σ H s)(t:Nat):Inv X pins σ H { s with toks:=t }:=I.un (h':=s.heap) (t':=t) Un.refl I.hok
theorem Inv.kept{t':Nat}(I:Inv X pins σ H s)(k:∀b u,s.heap.get? b=some u->h'.get? b=some u):Inv X pins σ H { s with heap:=h',toks:=t' }:=I.un (Un.kept k) (I.hok.kept k)
theorem Inv.laid{a:Addr}{o:HO}{t':Nat}(I:Inv X pins σ H s)(k:∀b u,s.heap.get? b=some u->h'.get? b=some u)(hp:s.heap.objs.size<=a)(new:cA X.prog X.w (upd H a o) h' a o):
  Inv X pins σ (upd H a o) { s with heap:=h',toks:=t' }:=I.un (Un.laid k hp (I.hok.fresh hp)) (I.hok.laid k hp new)
theorem Inv.write{x e:Addr}{o:HO}{t':Nat}(I:Inv X pins σ H s)(mu:Mut (H x))(he:e=x\/H e=some (.own x))(k:∀b u,b≠e->s.heap.get? b=some u->h'.get? b=some u)(heo:∃u,h'.get? e=some u)
  (new:cA X.prog X.w (upd H x o) h' x o):Inv X pins σ (upd H x o) { s with heap:=h',toks:=t' }:=I.un (Un.write mu he k heo) (I.hok.write mu he k heo new)
theorem Inv.aas{oE:List (Addr × Obj)}(I:Inv X pins σ H s)(h:∀p∈oE,s.heap.get? p.1=some p.2/\H p.1=none/\p.1≠X.env.locals/\p.1∉X.fs/\∀v,p.2.data≠.cell v):Inv X oE σ H s:=
 #[I.ok,I.os,I.bare,I.base,I.loc,I.cell,I.free,I.p8,fun p hp=>(dX.mp hp).elim (fun z=>I.pin p (zK _ z)) (h p),I.hok,I.len]
theorem Iz{N:List Str}(hN:N.Nodup){i j:Nat}{x:Str}(a:N[i]? = some x)(b:N[j]? = some x):i=j:=by
 obtain⟨h1,e1⟩:=fO.mp a;obtain⟨h2,e2⟩:=fO.mp b;exact(List.getElem_inj hN).mp (e1.trans e2.symm)
theorem Mr{M:Model}{A:aN}{E:Value->Shared->Prop}{i:Nat}{x:Str}{v:V}{u:Value}{Q:Unit->Shared->Prop}(I:Inv X pins σ H s)(hN:X.N.Nodup)(hi:X.N[i]? = some x)(hx:Loc X.env.scope x)(r:RelV v u)
  (h:∀s',Inv X pins (σ.set i (some v)) H s'->(∃a,oW a s.heap s'.heap/\(a=X.env.locals\/X.env.cells.lookup x=some a))->Q () s') (hf:X.fn x=true\/X.env.scope.names.lookup x=some .local:=by first|exact .inl rfl|exact .inr rfl|assumption):wpAny M A (storeName X.env x u) Q E s:=by
 obtain⟨m,hn,hl⟩:=id I.loc;have hcls:(X.env.scope.kind == .class || (X.env.scope.kind == .module && X.env.locals != X.env.globals))=false:=by rw[I.ok.kind];rfl
 have hiσ:i<σ.length:=by rw[I.len];exact(fO.mp hi).1
 have cne:=I.cne;have tracked:∀{a:Addr}{h':Heap},(∃o,s.heap.get? a=some o/\H a=none)->oW a s.heap h'->HOk X.prog X.w H h':=fun {a h'} ha hs b ob e=>by
  obtain⟨_,_,hfree⟩:=ha;refine(I.hok b ob e).stay (fun c w' hc q=>(hs.2 c ?_).trans q) (fun _ q=>q) fun _ _ q=>q;rintro rfl;rcases hc with rfl|hc
  ·rw[hfree]at e;cases e
  ·rw[hfree]at hc;cases hc
 rcases hx with hk|hk
 ·refine wpAny_storeName_local hk hn (fun h' hn' hs=>?_) hcls;obtain⟨oL,_,_,hoL,_⟩:=id hn;refine h _ #[I.ok,I.os,I.bare,#[fun b o e n hb hx=>?_,fun b o e n hb hx=>?_,I.base.free,fun b o e hx=>?_,I.base.tups,I.base.rm,I.base.uH],#[_,hn',fun j y v' e1 e2 e3=>?_],fun y c e=>?_,I.free,I.p8,fun p hp=>?_,tracked #[oL,hoL,I.free] hs,by simpa using I.len] #[_,hs,.inl rfl]
  ·exact(hs.2 b (bZ (cG (bA e) I.ok.above))).trans (I.base.keep b o e n hb hx)
  ·obtain⟨sl,e1⟩:=I.base.slot b o e n hb hx;show#[sl,(hs.2 b (bZ (cG (bA e) I.ok.above))).trans e1]
  ·obtain⟨o',e1⟩:=I.base.there b o e hx;show#[o',(hs.2 b (bZ (cG (bA e) I.ok.above))).trans e1]
  ·by_cases hj:j=i
   ·subst hj;rw[hi]at e1;cases e1;rw[Gv hiσ]at e2;cases e2;show#[u,r,.inl #[hk,by simp]]
   ·rw[Gk (aQ hj)]at e2;obtain⟨u',r',q⟩:=hl j y v' e1 e2 e3;show#[u',r',?_];rcases q with⟨k,e⟩|⟨k,c,e,z⟩
    ·refine .inl #[k,?_];have:y≠x:=fun e=>hj (Iz hN e1 (e ▸ hi));simp[this,e]
    ·exact .inr #[k,c,e,z.sameBut hs (cne y c e)]
  ·obtain⟨w',z⟩:=I.cell y c e;show#[w',z.sameBut hs (cne y c e)]
  ·obtain⟨e,n,ne,nf,d⟩:=I.pin p hp;show#[(hs.2 p.1 ne).trans e,n,ne,nf,d]
 ·have hfn:X.fn x=true:=by
   rcases hf with z|z
   ·exact z
   ·rw[z]at hk;cases hk
  obtain⟨c,hc⟩:=I.ok.has x (.inl hk);obtain⟨w',z⟩:=I.cell x c hc;refine wpAny_storeName_cell I.ok.kind hk hc z (fun h' hc' hs=>?_);obtain⟨oc,hoc,hocd⟩:=id z;refine h { s with heap:=h' } #[I.ok,I.os,I.bare,#[fun b o e n hb hx=>?_,fun b o e n hb hx=>?_,I.base.free,fun b o e hx=>?_,I.base.tups,I.base.rm,I.base.uH],#[m,hn.sameBut hs (aQ (cne x c hc)),fun j y v' e1 e2 e3=>?_],fun y c' e=>?_,I.free,I.p8,fun p hp=>?_,tracked #[oc,hoc,I.p8 x c hc] hs,by simpa using I.len] #[c,hs,.inr hc]
  ·exact(hs.2 b (bZ (cG (bA e) (I.ok.cab x c hfn hc)))).trans (I.base.keep b o e n hb hx)
  ·obtain⟨sl,e1⟩:=I.base.slot b o e n hb hx;show#[sl,(hs.2 b (bZ (cG (bA e) (I.ok.cab x c hfn hc)))).trans e1]
  ·obtain⟨o',e1⟩:=I.base.there b o e hx;show#[o',(hs.2 b (bZ (cG (bA e) (I.ok.cab x c hfn hc)))).trans e1]
  ·by_cases hj:j=i
   ·subst hj;rw[hi]at e1;cases e1;rw[Gv hiσ]at e2;cases e2;show#[u,r,.inr #[.inl hk,c,hc,hc']]
   ·rw[Gk (aQ hj)]at e2;obtain⟨u',r',q⟩:=hl j y v' e1 e2 e3;show#[u',r',?_];rcases q with q|⟨k,c',e,z'⟩
    ·exact .inl q
    ·refine .inr #[k,c',e,z'.sameBut hs ?_];rintro rfl;exact hj (Iz hN e1 (I.ok.inj _ _ _ e hc ▸ hi))
  ·by_cases hcc:c'=c
   ·subst hcc;show#[_,hc']
   ·obtain⟨w2,z2⟩:=I.cell y c' e;show#[w2,z2.sameBut hs hcc]
  ·obtain⟨e,n,ne,nf,d⟩:=I.pin p hp;show#[(hs.2 p.1 ?_).trans e,n,ne,nf,d];intro q;rw[q,hoc]at e;have q':oc=p.2:=bK e;exact d w' (by rwa[<-q'])
theorem IK{M:Model}{A:aN}{E:Value->Shared->Prop}{i:Nat}{x:Str}{v:V}{u:Value}{Q:Unit->Shared->Prop}(I:Inv X pins σ H s)(hN:X.N.Nodup)(hi:X.N[i]? = some x)(hx:Loc X.env.scope x)(r:RelV v u)
  (h:∀s',Inv X pins (σ.set i (some v)) H s'->Q () s') (hf:X.fn x=true\/X.env.scope.names.lookup x=some .local:=by first|exact .inl rfl|exact .inr rfl|assumption):wpAny M A (storeName X.env x u) Q E s:=
 Mr I hN hi hx r (fun s' I' _=>h s' I') hf
theorem Inv.call'{s':Shared}{ch:List Addr}(I:Inv X pins σ H s)(ho:s'.os=s.os)(u:Un (frs X.stack) ch H H' s.heap s'.heap)(hok:HOk X.prog X.w H' s'.heap)(hg:o8 s'.gens)
  (hch:∀b∈ch,(b∈X.ex\/X.s₀.heap.objs.size<=b)/\b≠X.env.locals/\(∀x c,X.env.cells.lookup x=some c->c≠b)/\∀p∈X.pn++pins,p.1≠b):Inv X pins σ H' s':=by
 obtain⟨h',g',d',t',o'⟩:=s';have e:o'=s.os:=ho;subst e;exact I.call (g':=g') (t':=t') (d':=d') u hok hg hch
end
abbrev XK:=Value->Option Addr->Hp->Prop
abbrev St:=List (Option V)
abbrev VK:=V->Hp->Prop
abbrev TE:=St->Hp->VK->Prop
abbrev TT:=St->Hp->(Bool->Hp->Prop)->Prop
abbrev TA:=St->Hp->(List V->Hp->Prop)->Prop
structure Ends where
 nx:St->Hp->Prop
 rt:VK
 bk:St->Hp->Prop:=fun _ _=>False
 ct:St->Hp->Prop:=fun _ _=>False
abbrev TS:=Ends->St->Hp->Prop
def EP(X:Cx)(pins:List (Addr × Obj))(σ:St)(Q:VK)(u:Value)(s':Shared):Prop:=∃v H',Inv X pins σ H' s'/\RelV v u/\Q v H'
def TP(X:Cx)(pins:List (Addr × Obj))(σ:St)(Q:Bool->Hp->Prop)(b:Bool)(s':Shared):Prop:=∃H',Inv X pins σ H' s'/\Q b H'
def AP(X:Cx)(pins:List (Addr × Obj))(σ:St)(Q:List V->Hp->Prop)(us:List Value)(s':Shared):Prop:=∃vs H',Inv X pins σ H' s'/\Vals vs us/\Q vs H'
def SP(X:Cx)(pins:List (Addr × Obj))(D:Ends)(f:Flow)(s':Shared):Prop:=
 match f with
 | .next=>∃σ' H',Inv X pins σ' H' s'/\D.nx σ' H'
 | .brk=>∃σ' H',Inv X pins σ' H' s'/\D.bk σ' H'
 | .cont=>∃σ' H',Inv X pins σ' H' s'/\D.ct σ' H'
 | .ret u=>∃v σ' H',Inv X pins σ' H' s'/\RelV v u/\D.rt v H'
def PE(X:Cx)(e:Expr)(t:TE):Prop:=
 ∀(pins:List (Addr × Obj)) (s:Shared) (σ:St) (H:Hp) (Q:VK),Inv X pins σ H s->t σ H Q->wpAny (model X.prog X.w) X.A (eval e X.env) (EP X pins σ Q) X.xe s
def PT(X:Cx)(e:Expr)(t:TT):Prop:=
 ∀(pins:List (Addr × Obj)) (s:Shared) (σ:St) (H:Hp) (Q:Bool->Hp->Prop),Inv X pins σ H s->t σ H Q->wpAny (model X.prog X.w) X.A (Hw e X.env (eval e X.env)) (TP X pins σ Q) X.xe s
def PW(X:Cx)(e:Expr)(t:TT):Prop:=
 ∀(whole:Sem Value) (pins:List (Addr × Obj)) (s:Shared) (σ:St) (H:Hp) (Q:Bool->Hp->Prop),Inv X pins σ H s->t σ H Q->wpAny (model X.prog X.w) X.A (Hw e X.env whole) (TP X pins σ Q) X.xe s
theorem PW.pt{X:Cx}{e:Expr}{t:TT}(h:PW X e t):PT X e t:=h _
def PA(X:Cx)(es:List Expr)(t:TA):Prop:=
 ∀(pos:Pos) (pins:List (Addr × Obj)) (s:Shared) (σ:St) (H:Hp) (Q:List V->Hp->Prop),Inv X pins σ H s->t σ H Q->wpAny (model X.prog X.w) X.A (spliced (dz pos (bh es X.env))) (AP X pins σ Q) X.xe s
def PS(X:Cx)(st:Stmt)(t:TS):Prop:=
 ∀(pins:List (Addr × Obj)) (s:Shared) (σ:St) (H:Hp) (D:Ends),Inv X pins σ H s->t D σ H->wpAny (model X.prog X.w) X.A (exec st X.env) (SP X pins D) X.xe s
def PSs(X:Cx)(st:List Stmt)(t:TS):Prop:=
 ∀(pins:List (Addr × Obj)) (s:Shared) (σ:St) (H:Hp) (D:Ends),Inv X pins σ H s->t D σ H->wpAny (model X.prog X.w) X.A (execs st X.env) (SP X pins D) X.xe s
theorem thn{α:Type}{t:Sem α}{Q Q':α->Shared->Prop}{M:Model}{A:aN}{E:Value->Shared->Prop}{s:Shared}(h:wpAny M A t Q E s)(hQ:∀a s,Q a s->Q' a s):wpAny M A t Q' E s:=cO h hQ fun _ _ x=>x
section
variable{X:Cx}
inductive RV (o:Option (Option V)) (H:Hp) (Q:VK):Prop
 |k (v:V):o=some (some v)->Q v H->RV o H Q
@[reducible] def TJ(i:Nat):TE:=fun σ H Q=>RV σ[i]? H Q
@[reducible] def tC(v:V):TE:=fun _ H Q=>Q v H
theorem alb{i:Nat}{x:Str}{pos:Pos}(hN:X.N[i]? = some x)(hv:Vis X.env.scope x)(hd:(x == ("__debug__" : Str))=false:=by decide)(hcd:(x == ("__classdict__" : Str))=false:=by decide):PE X (.Name x pos) (TJ i):=by
 walk_at "s"
 obtain⟨v,e,h⟩:=h;obtain⟨m,hn,hl⟩:=I.loc;obtain⟨u,r,l⟩:=hl i x v hN e hv;have fin:EP X pins σ Q u s:=#[v,H,I,r,h];rcases l with⟨hk,hm⟩|⟨hk,c,hc,hcell⟩
 ·exact XM (wpAny_loadName_local I.ok.kind hk hn hm fin) hd
 ·rcases hk with hk|hk
  ·exact XM (wpAny_loadName_cell I.ok.kind hk hc hcell fin) hd
  ·exact XM (wpAny_loadName_free I.ok.kind hk hc hcell fin hcd) hd
theorem iT{i j pos}:PE X (.Constant (.int i) j pos) (tC (.int i)):=fun _ _ _ H _ I h=>wpAny_Constant_int #[.int i,H,I.tok _,#[_,rfl],h]
theorem TQ{b j pos}:PE X (.Constant (.bool b) j pos) (tC (.bl b)):=fun _ _ _ H _ I h=>Constant_bool #[.bl b,H,I,rfl,h]
theorem alc{j pos}:PE X (.Constant .none j pos) (tC .non):=fun _ _ _ H _ I h=>Constant_none #[.non,H,I,rfl,h]
theorem afX{x j pos}:PE X (.Constant (.str x) j pos) (tC (.str x)):=fun _ _ _ H _ I h=>Calls.Constant_str #[.str x,H,I.tok _,#[_,rfl],h]
def Gl(X:Cx)(x:Str):Prop:=X.env.kindOf x=some .globalImplicit
theorem oF{E:Value->Shared->Prop}{pins:List (Addr × Obj)}{s:Shared}{σ:St}{H:Hp}{x:Str}{u:Value}{pos:Pos}{Q:Value->Shared->Prop}(I:Inv X pins σ H s)(hg:Gl X x)(hm:X.mg x=some u)(h:Q u s)
  (hd:(x == ("__debug__" : Str))=false:=by decide):wpAny (model X.prog X.w) X.A (eval (.Name x pos) X.env) Q E s:=
 afi I.ok.kind hg (Calls.loadGlobal_global (by rw[I.ok.glob];exact I.mod.glob.keeps I.bk) hm h) hd
theorem iU{E:Value->Shared->Prop}{pins:List (Addr × Obj)}{s:Shared}{σ:St}{H:Hp}{x:Str}{u:Value}{pos:Pos}{Q:Value->Shared->Prop}(I:Inv X pins σ H s)(hg:Gl X x)(hm:X.mg x=none)(hv:qL x=some u)(h:Q u s)
  (hn:x ≠ "__name__" := by decide) (hd:(x == ("__debug__" : Str))=false:=by decide):wpAny (model X.prog X.w) X.A (eval (.Name x pos) X.env) Q E s:=by
 obtain⟨mb,h1,h2⟩:=I.mod.blt;exact afi I.ok.kind hg (Calls.loadGlobal_builtin (by rw[I.ok.glob];exact I.mod.glob.keeps I.bk) hm (by rw[I.ok.blt];exact h1.keeps I.bk) ((h2 x hn).trans hv) h) hd
theorem cW{x:Str}{v:V}{u:Value}{pos:Pos}(hg:Gl X x)(hm:X.mg x=some u)(r:RelV v u)(hd:(x == ("__debug__" : Str))=false:=by decide):PE X (.Name x pos) (tC v):=
 fun _ _ _ H _ I h=>oF I hg hm #[v,H,I,r,h] hd
theorem Qw{x:Str}{v:V}{u:Value}{pos:Pos}(hg:Gl X x)(hm:X.mg x=none)(hv:qL x=some u)(r:RelV v u)(hn:x ≠ "__name__" := by decide)(hd:(x == ("__debug__" : Str))=false:=by decide):PE X (.Name x pos) (tC v):=
 fun _ _ _ H _ I h=>iU I hg hm hv #[v,H,I,r,h] hn hd
variable{a b:Expr}{ta tb:TE}{pos:Pos}
@[reducible] def tB(t:TE):TT:=fun σ H Q=>t σ H fun x H1=>∃c,x=.bl c/\Q c H1
theorem Y0{e:Expr}{t:TE}(h:PE X e t)(he:∀whole,Hw e X.env whole=(do let v <-whole;standAt e.pos;Aa [v] (truthy v)):=by intro _;rfl):PT X e (tB t):=by
 intro pins s σ H Q I hw;refine isTrue_plain (thn (h pins s σ H _ I hw) fun v s1 zq=>?_) (he _)
 walk_at "B"
 obtain⟨d,rfl,q⟩:=q1;cases r1;exact wL #[H1,I1,q]
variable{tA tB':TT}{rest:List Expr}
@[reducible] def tAnd(t u:TT):TT:=fun σ H Q=>t σ H fun c H1=>if c=true then u σ H1 Q else Q false H1
@[reducible] def tOr(t u:TT):TT:=fun σ H Q=>t σ H fun c H1=>if c=true then Q true H1 else u σ H1 Q
@[reducible] def tNot(t:TT):TT:=fun σ H Q=>t σ H fun c H1=>Q (!c) H1
theorem pw_and1(ha:PT X a tA):PW X (.BoolOp .And [a] pos) tA:=by
 intro wh pins s σ H Q I h;refine isTrue_and (thn (ha pins s σ H Q I h) fun c s1 e=>?_);cases c with
 |true=>exact isTrue_and_nil e
 |false=>exact e
theorem pw_or1(ha:PT X a tA):PW X (.BoolOp .Or [a] pos) tA:=by
 intro wh pins s σ H Q I h;refine isTrue_or (thn (ha pins s σ H Q I h) fun c s1 e=>?_);cases c with
 |false=>exact isTrue_or_nil e
 |true=>exact e
theorem pw_and(ha:PT X a tA)(hb:PW X (.BoolOp .And (b::rest) pos) tB'):PW X (.BoolOp .And (a::b::rest) pos) (tAnd tA tB'):=by
 intro wh pins s σ H Q I h
 k_dat (isTrue_and,ha,c) "z"
 obtain⟨H1,I1,q1⟩:=zq;cases c with
 |true=>exact hb wh pins s1 σ H1 Q I1 q1
 |false=>show#[H1,I1,q1]
theorem pw_or(ha:PT X a tA)(hb:PW X (.BoolOp .Or (b::rest) pos) tB'):PW X (.BoolOp .Or (a::b::rest) pos) (tOr tA tB'):=by
 intro wh pins s σ H Q I h
 k_dat (isTrue_or,ha,c) "z"
 obtain⟨H1,I1,q1⟩:=zq;cases c with
 |true=>show#[H1,I1,q1]
 |false=>exact hb wh pins s1 σ H1 Q I1 q1
theorem afY(ha:PT X a tA):PT X (.UnaryOp .Not a pos) (tNot tA):=by
 walk_at "s"
 exact isTrue_not (ha pins s σ H (fun c H1=>Q (!c) H1) I h)
@[reducible] def tAndV(ta tb:TE):TE:=fun σ H Q=>ta σ H fun x H1=>∃c,x=.bl c/\if c=true then tb σ H1 Q else Q (.bl false) H1
@[reducible] def tOrV(ta tb:TE):TE:=fun σ H Q=>ta σ H fun x H1=>∃c,x=.bl c/\if c=true then Q (.bl true) H1 else tb σ H1 Q
theorem ald{op}{t:TE}(h:PE X a t):PE X (.BoolOp op [a] pos) t:=fun pins s σ H Q I hw=>BoolOp_one (h pins s σ H Q I hw)
theorem ale(ha:PE X a ta)(hb:PE X (.BoolOp .And (b::rest) pos) tb):PE X (.BoolOp .And (a::b::rest) pos) (tAndV ta tb):=by
 walk_at "s"
 k_dat (BoolOp_and,ha,v) "z"
 walk_at "B"
 obtain⟨c,rfl,q1⟩:=q1;cases r1;refine wL ?_;cases c with
 |true=>exact hb pins s1 σ H1 Q I1 q1
 |false=>show#[.bl false,H1,I1,rfl,q1]
theorem pe_or(ha:PE X a ta)(hb:PE X (.BoolOp .Or (b::rest) pos) tb):PE X (.BoolOp .Or (a::b::rest) pos) (tOrV ta tb):=by
 walk_at "s"
 k_dat (BoolOp_or,ha,v) "z"
 walk_at "B"
 obtain⟨c,rfl,q1⟩:=q1;cases r1;refine wL ?_;cases c with
 |false=>exact hb pins s1 σ H1 Q I1 q1
 |true=>show#[.bl true,H1,I1,rfl,q1]
def tIf(t:TT)(ta tb:TE):TE:=fun σ H Q=>t σ H fun c H1=>if c=true then ta σ H1 Q else tb σ H1 Q
theorem IV{c:Expr}(hc:PT X c tA)(ha:PE X a ta)(hb:PE X b tb):PE X (.IfExp c a b pos) (tIf tA ta tb):=by
 walk_at "s"
 k_dat (wpAny_IfExp,hc,d) "z"
 obtain⟨H1,I1,q1⟩:=zq;cases d with
 |true=>exact ha pins s1 σ H1 Q I1 q1
 |false=>exact hb pins s1 σ H1 Q I1 q1
end
def SqL(K:aF)(H:Hp)(a:Addr)(xs:List V):Prop:=
 Rd H a (.lst xs) \/
  ∃(o:Obj)(its:Array Value)(n:Nat),K.lookup a=some o/\o.cls=.type "list" /\ o.dict=none/\o.data=.seq its n/\its.size<=sizeLine/\Vals xs its.toList
def SqT(K:aF)(H:Hp)(a:Addr)(xs:List V):Prop:=
 Rd H a (.tup xs) \/
  ∃(o:Obj)(its:Array Value)(n:Nat),K.lookup a=some o/\o.cls=.type "tuple" /\ o.data=.seq its n/\its.size<=sizeLine/\Vals xs its.toList
def absV:Value->Option V
 | .none=>some .non
 | .bool b=>some (.bl b)
 | .int i _=>some (.int i)
 | .str x _=>some (.str x)
 | .bytes b _=>some (.byt b)
 | .float b _=>some (.flt b)
 | .ref a=>some (.ref a)
 | .type n=>some (.ty n)
 |_=>none
theorem RelV.abs{x:V}{u:Value}(r:RelV x u):absV u=some x:=by
 cases x with
 |non=>cases r;rfl
 |bl _=>cases r;rfl
 |int _=>obtain⟨t,rfl⟩:=r;rfl
 |str _=>obtain⟨t,rfl⟩:=r;rfl
 |byt _=>obtain⟨t,rfl⟩:=r;rfl
 |flt _=>obtain⟨t,rfl⟩:=r;rfl
 |ref _=>cases r;rfl
 |ty _=>cases r;rfl
theorem RelV.inj{x y:V}{u:Value}(r:RelV x u)(q:RelV y u):x=y:=bK (r.abs.symm.trans q.abs)
theorem Vals.inj:∀{xs ys:List V}{us:List Value},Vals xs us->Vals ys us->xs=ys
 |_,_,_,.nil,.nil=>rfl
 |_,_,_,.cons r t,.cons r' t'=>by rw[r.inj r',Vals.inj t t']
section
variable{X:Cx}{pins:List (Addr × Obj)}{σ:St}{H:Hp}{s:Shared}{a:Addr}{xs ys:List V}
theorem Inv.list(I:Inv X pins σ H s)(h:SqL X.K H a xs):∃its:List Value,Vals xs its/\PlainL s.heap a its.toArray/\xs.length<=sizeLine:=by
 rcases h with h|⟨o,its,n,hk,hc,hd,hs,hz,r⟩
 ·obtain⟨z,its,n,r,e⟩:=h.ok I.hok;show#[its,r,#[_,n,e,rfl,rfl,rfl],z]
 ·show#[its.toList,r,#[o,n,I.kIn a o hk,hc,hd,by simpa using hs],?_];have e:=r.length;simp only[yq]at e;lia
theorem Inv.tuple(I:Inv X pins σ H s)(h:SqT X.K H a xs):∃its:List Value,Vals xs its/\IsTup s.heap a its.toArray/\xs.length<=sizeLine:=by
 rcases h with h|⟨o,its,n,hk,hc,hs,hz,r⟩
 ·obtain⟨z,its,r,p⟩:=h.ok I.hok;show#[its,r,p,z]
 ·show#[its.toList,r,#[o,I.kIn a o hk,hc,n,by simpa using hs],?_];have e:=r.length;simp only[yq]at e;lia
theorem Inv.TV(I:Inv X pins σ H s)(h:SqL X.K H a xs)(h':SqL X.K H a ys):xs=ys:=by
 obtain⟨its,r,⟨o,n,e,_,_,d⟩,_⟩:=I.list h;obtain⟨its',r',⟨o',n',e',_,_,d'⟩,_⟩:=I.list h';rw[e]at e';cases e';rw[d]at d';injection d' with d1 _;have:its=its':=by simpa using congrArg Array.toList d1
 subst this;exact r.inj r'
end
abbrev Cx.wish(X:Cx)(E:Value->Shared->Prop):Cx:={ X with xe:=E }
abbrev Cx.nox(X:Cx):Cx:=X.wish fun _ _=>False
theorem Cx.Ok.wish{X:Cx}(ok:X.Ok)(E:Value->Shared->Prop):(X.wish E).Ok:=
 #[ok.mod,ok.kind,ok.glob,ok.blt,ok.above,ok.inj,ok.has,ok.cab,ok.hd,ok.frames,ok.stk,ok.exf,ok.bs,ok.bsz,ok.YZ,ok.abZ,ok.xu,ok.frf]
theorem Cx.Ok.gA{X:Cx}{E:Value->Shared->Prop}(ok:(X.wish E).Ok):X.Ok:=
 #[ok.mod,ok.kind,ok.glob,ok.blt,ok.above,ok.inj,ok.has,ok.cab,ok.hd,ok.frames,ok.stk,ok.exf,ok.bs,ok.bsz,ok.YZ,ok.abZ,ok.xu,ok.frf]
section
variable{X:Cx}{pins:List (Addr × Obj)}{σ:St}{H:Hp}{s:Shared}{E:Value->Shared->Prop}
theorem Inv.wish(I:Inv X pins σ H s)(E:Value->Shared->Prop):Inv (X.wish E) pins σ H s:=#[I.ok.wish E,I.os,I.bare,I.base,I.loc,I.cell,I.free,I.p8,I.pin,I.hok,I.len]
theorem Inv.gA(I:Inv (X.wish E) pins σ H s):Inv X pins σ H s:=#[I.ok.gA,I.os,I.bare,I.base,I.loc,I.cell,I.free,I.p8,I.pin,I.hok,I.len]
theorem SP.gA{D:Ends}{f:Flow}{s':Shared}(h:SP (X.wish E) pins D f s'):SP X pins D f s':=by
 cases f with
 |next=>obtain⟨σ',H',I,q⟩:=h;show#[σ',H',I.gA,q]
 |brk=>obtain⟨σ',H',I,q⟩:=h;show#[σ',H',I.gA,q]
 |cont=>obtain⟨σ',H',I,q⟩:=h;show#[σ',H',I.gA,q]
 |ret u=>obtain⟨v,σ',H',I,r,q⟩:=h;show#[v,σ',H',I.gA,r,q]
theorem PE.nox{e:Expr}{t:TE}(h:PE X.nox e t):PE X e t:=fun pins s σ H Q I hw =>
 cO (h pins s σ H Q (I.wish _) hw) (fun _ _ ⟨v,H',I',r,q⟩=>#[v,H',I'.gA,r,q]) fun _ _ z=>fP z
theorem PT.nox{e:Expr}{t:TT}(h:PT X.nox e t):PT X e t:=fun pins s σ H Q I hw =>
 cO (h pins s σ H Q (I.wish _) hw) (fun _ _ ⟨H',I',q⟩=>#[H',I'.gA,q]) fun _ _ z=>fP z
theorem PSs.nox{st:List Stmt}{t:TS}(h:PSs X.nox st t):PSs X st t:=fun pins s σ H D I hw =>
 cO (h pins s σ H D (I.wish _) hw) (fun _ _ q=>q.gA) fun _ _ z=>fP z
end
section
variable{X:Cx}{st:Stmt}{rest:List Stmt}{t u:TS}{e:Expr}{te:TE}{pos:Pos}
@[reducible] def tNext:TS:=fun D σ H=>D.nx σ H
@[reducible] def Dw(t u:TS):TS:=fun D σ H=>t { D with nx:=u D } σ H
theorem aat:PSs X [] tNext:=fun _ _ σ H _ I h=>zU #[σ,H,I,h]
theorem qg(h1:PS X st t)(h2:PSs X rest u):PSs X (st::rest) (Dw t u):=by
 walk_at "I"
 refine Xu (thn (h1 pins s σ H { D with nx:=u D } I h) fun f s1 q=>?_);cases f with
 |next =>
  obtain⟨σ',H',I',q⟩:=q;exact h2 pins s1 σ' H' D I' q
 |ret v=>exact q
 |brk=>exact q
 |cont=>exact q
theorem yD(h1:PS X st t):PSs X [st] t:=by
 walk_at "I"
 refine Xu (thn (h1 pins s σ H D I h) fun f s1 q=>?_);cases f with
 |next=>exact zU q
 |ret v=>exact q
 |brk=>exact q
 |cont=>exact q
theorem Inv.quiet{pins:List (Addr × Obj)}{σ:St}{H:Hp}{s:Shared}(I:Inv X pins σ H s):interactive X.env=false:=by simp[interactive,I.ok.kind]
@[reducible] def tDrop(te:TE):TS:=fun D σ H=>te σ H fun _ H1=>D.nx σ H1
theorem Qx(he:PE X e te)(hs:ug e none pos.line X.env=pure false:=by rfl):PS X (.Expr e pos) (tDrop te):=by
 walk_at "I"
 exact ad6 (thn (he pins s σ H _ I h) fun v s1 ⟨x,H1,I1,r1,q1⟩=>#[σ,H1,I1,q1]) I.quiet hs
@[reducible] def tRet(te:TE):TS:=fun D σ H=>te σ H D.rt
theorem Y4(he:PE X e te):PS X (.Return (some e) pos) (tRet te):=by
 walk_at "I"
 exact wpAny_Return_some (thn (he pins s σ H _ I h) fun v s1 ⟨x,H1,I1,r1,q1⟩=>#[x,σ,H1,I1,r1,q1])
@[reducible] def tIfS(c:TT)(t u:TS):TS:=fun D σ H=>c σ H fun b H1=>if b=true then t D σ H1 else u D σ H1
theorem ajj{c:Expr}{a b:List Stmt}{tc:TT}(hc:PT X c tc)(ha:PSs X a t)(hb:PSs X b u):PS X (.If c a b pos) (tIfS tc t u):=by
 walk_at "I"
 k_dat (wpAny_If,hc,d) "z"
 obtain⟨H1,I1,q1⟩:=zq;cases d with
 |true=>exact ha pins s1 σ H1 D I1 q1
 |false=>exact hb pins s1 σ H1 D I1 q1
end
abbrev TG:=V->St->Hp->(St->Hp->Prop)->Prop
abbrev TGs:=List V->St->Hp->(St->Hp->Prop)->Prop
def PG(X:Cx)(target:Expr)(t:TG):Prop:=
 ∀(pins:List (Addr × Obj)) (s:Shared) (σ:St) (H:Hp) (v:V) (u:Value) (Q:St->Hp->Prop),Inv X pins σ H s->RelV v u->t v σ H Q ->
  wpAny (model X.prog X.w) X.A (qN target X.env u) (fun _ s'=>∃σ' H',Inv X pins σ' H' s'/\Q σ' H') X.xe s
def PGs(X:Cx)(ts:List Expr)(t:TGs):Prop:=
 ∀(pins:List (Addr × Obj)) (s:Shared) (σ:St) (H:Hp) (vs:List V) (us:List Value) (Q:St->Hp->Prop),Inv X pins σ H s->Vals vs us->t vs σ H Q ->
  wpAny (model X.prog X.w) X.A (assignInOrder ((z7 ts X.env).map (·.2)) us) (fun _ s'=>∃σ' H',Inv X pins σ' H' s'/\Q σ' H') X.xe s
abbrev afZ:=V->V->V->Hp->(Hp->Prop)->Prop
def PSet(X:Cx)(t:afZ):Prop:=
 ∀(pins:List (Addr × Obj)) (s:Shared) (σ:St) (H:Hp) (o i v:V) (ov iv u:Value) (Q:Hp->Prop),Inv X pins σ H s->RelV o ov->RelV i iv->RelV v u->t o i v H Q ->
  wpAny (model X.prog X.w) X.A (Pk ov iv u) (fun _ s'=>∃H',Inv X pins σ H' s'/\Q H') X.xe s
abbrev TIp:=V->V->Hp->VK->Prop
def PIp(X:Cx)(op:X6)(t:TIp):Prop:=
 ∀(pins:List (Addr × Obj)) (s:Shared) (σ:St) (H:Hp) (x y:V) (v u:Value) (Q:VK),Inv X pins σ H s->RelV x v->RelV y u->t x y H Q ->
  wpAny (model X.prog X.w) X.A (inplaceOp op v u) (EP X pins σ Q) X.xe s
section
variable{X:Cx}{pos:Pos}
@[reducible] def mO(i:Nat):TG:=fun v σ H Q=>Q (σ.set i (some v)) H
theorem vJ{i:Nat}{x:Str}(hN:X.N.Nodup)(hi:X.N[i]? = some x)(hx:Loc X.env.scope x)(hf:X.fn x=true\/X.env.scope.names.lookup x=some .local:=by first|exact .inl rfl|exact .inr rfl|assumption):PG X (.Name x pos) (mO i):=by
 intro pins s σ H v u Q I r h;exact adY (IK I hN hi hx r (fun s' I'=>#[_,H,I',h]) hf)
def gNil:TGs:=fun vs σ H Q=>vs=[]/\Q σ H
def IW(t:TG)(u:TGs):TGs:=fun vs σ H Q=>∃v r,vs=v::r/\t v σ H fun σ' H'=>u r σ' H' Q
theorem aau:PGs X [] gNil:=by
 intro pins s σ H vs us Q I r h;obtain⟨e,h⟩:=h;subst e;cases r;exact assignInOrder_nil #[σ,H,I,h]
theorem Ja{e:Expr}{es:List Expr}{t:TG}{u:TGs}(h1:PG X e t)(h2:PGs X es u)
  (hs:(z7 (e::es) X.env).map (·.2)=qN e X.env::(z7 es X.env).map (·.2):=by rfl):PGs X (e::es) (IW t u):=by
 intro pins s σ H vs us Q I r h;obtain⟨v,vr,e1,h⟩:=h;subst e1;cases r with
 |cons r rr =>
  rw[hs];refine assignInOrder_cons (thn (h1 pins s σ H _ _ _ I r h) fun _ s1 zq=>?_);obtain⟨σ1,H1,I1,q1⟩:=zq;exact h2 pins s1 σ1 H1 _ _ Q I1 rr q1
def gTup(K:aF)(n:Nat)(t:TGs):TG:=fun v σ H Q=>∃a xs,v=.ref a/\SqT K H a xs/\xs.length=n/\t xs σ H Q
theorem af0{es:List Expr}{k:Nat}{t:TGs}{n:Nat}(hc:X.calm=true)(h:PGs X es t)
  (hn:(z7 es X.env).length=n:=by rfl) (hst:(z7 es X.env).findIdx? (·.1)=none:=by rfl):PG X (.Tuple es k pos) (gTup X.K n t):=by
 intro pins s σ H v u Q I r hw;obtain⟨a,xs,e1,hq,hl,hw⟩:=hw;subst e1;cases r;obtain⟨its,rv,ht,hz⟩:=I.tuple hq;refine assign_Tuple_tuple (I.ok.hd hc) ht (by simp[hn,<-hl,rv.length]) hst fun h' hx=>?_;have I1:Inv X pins σ H { s with heap:=h' }:=I.kept (t':=s.toks) fun b o e=>hx b o (bZ (bA e)) e;exact h pins _ σ H xs _ Q I1 (by simpa using rv) hw
@[reducible] def gSub(to ti:TE)(t:afZ):TG:=fun v σ H Q=>to σ H fun o H1=>ti σ H1 fun i H2=>t o i v H2 fun H3=>Q σ H3
theorem alf{o i:Expr}{to ti:TE}{t:afZ}(ho:PE X o to)(hi:PE X i ti)(hs:PSet X t)
  (ha:∀ v,qN (.Subscript o i pos) X.env v=(do
   let ov <-Aa [v] (eval o X.env)
   let iv <-Aa [v,ov] (eval i X.env)
   standAt pos
   Aa [v,ov,iv] (Pk ov iv v)
   release [v,ov,iv] []):=by intro _;rfl):PG X (.Subscript o i pos) (gSub to ti t):=by
 intro pins s σ H v u Q I r h;rw[ha];refine au (iy (thn (ho pins s σ H _ I h) fun ov s1 zq=>?_))
 walk_at "B"
 refine au (iy (thn (hi pins s1 σ H1 _ I1 q1) fun iv s2 zq=>?_));obtain⟨y,H2,I2,r2,q2⟩:=zq;refine au (Hj (au (iy (thn (hs pins s2 σ H2 x y v ov iv u _ I2 r1 r2 r q2) fun _ s3 zq=>?_))));obtain⟨H3,I3,q3⟩:=zq;exact wpAny_release #[σ,H3,I3,q3]
@[reducible] def ab0(te:TE)(g:TG):TS:=fun D σ H=>te σ H fun x H1=>g x σ H1 D.nx
theorem alg{tg e:Expr}{te:TE}{g:TG}(he:PE X e te)(hg:PG X tg g)(hs:swapsWithSole [tg] e pos.line X.env=pure false:=by rfl)(hw:swappedStores [tg] e X.env=pure none:=by rfl)
  (h1:(z7 [tg] X.env).map (·.2)=[qN tg X.env]:=by rfl):PS X (.Assign [tg] e pos) (ab0 te g):=by
 walk_at "I"
 refine wpAny_Assign_stores (thn (he pins s σ H _ I h) fun v s1 zq=>?_) hs hw
 walk_at "B"
 rw[h1];exact thn (hg pins s1 σ H1 x v _ I1 r1 q1) fun _ s2 q=>q
theorem Jb{i:Nat}{x:Str}{e:Expr}{te:TE}{pos':Pos}(hN:X.N.Nodup)(hi:X.N[i]? = some x)(hx:Loc X.env.scope x)(he:PE X e te)(hs:ug e (some (.Name x pos')) pos.line X.env=pure false:=by rfl)(hf:X.fn x=true\/X.env.scope.names.lookup x=some .local:=by first|exact .inl rfl|exact .inr rfl|assumption):
  PS X (.Assign [.Name x pos'] e pos) (ab0 te (mO i)):=by
 walk_at "I"
 refine wpAny_Assign_Name (thn (he pins s σ H _ I h) fun v s1 zq=>?_) hs;obtain⟨y,H1,I1,r1,q1⟩:=zq;exact IK I1 hN hi hx r1 (fun s2 I2=>#[_,H1,I2,q1]) hf
def tAugS(to ti te:TE)(tget:V->V->Hp->VK->Prop)(tip:TIp)(tset:afZ):TS:=fun D σ H=>to σ H fun o H1=>ti σ H1 fun i H2=>tget o i H2 fun x H3=>te σ H3 fun y H4=>tip x y H4 fun z H5=>tset o i z H5 fun H6=>D.nx σ H6
def PGet(X:Cx)(t:V->V->Hp->VK->Prop):Prop:=
 ∀(pins:List (Addr × Obj)) (s:Shared) (σ:St) (H:Hp) (o i:V) (ov iv:Value) (Q:VK),Inv X pins σ H s->RelV o ov->RelV i iv->t o i H Q ->
  wpAny (model X.prog X.w) X.A (Hu ov iv) (EP X pins σ Q) X.xe s
theorem ah8{o i e:Expr}{to ti te:TE}{tget:V->V->Hp->VK->Prop}{tip:TIp}{tset:afZ}{op:X6}{tpos:Pos}(ho:PE X o to)(hi:PE X i ti)(hg:PGet X tget)(he:PE X e te)(hp:PIp X op tip)(hs:PSet X tset)
  (ha:∀ov iv new,augStore i ov iv new=(do Aa [new,ov,iv] (Pk ov iv new);release [new,ov,iv] [];pure .next):=by intros;rfl):PS X (.AugAssign (.Subscript o i tpos) op e pos) (tAugS to ti te tget tip tset):=by
 walk_at "I"
 refine wpAny_AugAssign_SubscriptAny (thn (ho pins s σ H _ I h) fun ov s1 zq=>?_) ha;obtain⟨x1,H1,I1,r1,q1⟩:=zq;refine thn (hi pins s1 σ H1 _ I1 q1) fun iv s2 zq=>?_;obtain⟨x2,H2,I2,r2,q2⟩:=zq;refine thn (hg pins s2 σ H2 x1 x2 ov iv _ I2 r1 r2 q2) fun old s3 zq=>?_;obtain⟨x3,H3,I3,r3,q3⟩:=zq;refine thn (he pins s3 σ H3 _ I3 q3) fun v s4 zq=>?_;obtain⟨x4,H4,I4,r4,q4⟩:=zq;refine thn (hp pins s4 σ H4 x3 x4 old v _ I4 r3 r4 q4) fun new s5 zq=>?_;obtain⟨x5,H5,I5,r5,q5⟩:=zq;exact thn (hs pins s5 σ H5 x1 x2 x5 ov iv new _ I5 r1 r2 r5 q5) fun _ s6 ⟨H6,I6,q6⟩=>#[σ,H6,I6,q6]
def ipI(f:Int->Int->Int):TIp:=fun x y H Q=>∃i j,x=.int i/\y=.int j/\Q (.int (f i j)) H
theorem alh:PIp X .Add (ipI fun i j=>i+j):=by
 intro pins s σ H x y v u Q I r1 r2 h;obtain⟨i,j,e1,e2,q⟩:=h;subst e1;subst e2
 k_dat (t,r1) "E"
 k_dat (t',r2) "E"
 exact iadd_int #[.int _,H,I.tok _,#[_,rfl],q]
def af2(c:TT)(tb:TS):TS:=fun D σ H=>∃W:Nat->St->Hp->Prop,(∃m,W m σ H)/\∀m σ H,W m σ H ->
 c σ H fun b H1=>if b=true then ∃N:St->Hp->Prop,(∀σ' H',N σ' H'->∃m',m'<m/\W m' σ' H')/\tb { D with nx:=N,ct:=N,bk:=D.nx } σ H1 else D.nx σ H1
theorem af3{c:Expr}{body:List Stmt}{tc:TT}{tb:TS}(hp:PassesOwn (model X.prog X.w) X.A X.env X.xe)(hc:PT X c tc)(hb:PSs X body tb):PS X (.While c body [] pos) (af2 tc tb):=by
 walk_at "I"
 obtain⟨W,⟨m0,w0⟩,turn⟩:=h;refine wpAny_While (codeAny_whileLoop (fun n s'=>∃σ' H',Inv X pins σ' H' s'/\W n σ' H') ?_ m0 #[σ,H,I,w0]);rintro n s1 ⟨σ1,H1,I1,w1⟩;refine wM hp (thn (hc pins s1 σ1 H1 _ I1 (turn n σ1 H1 w1)) fun b s2 zq=>?_);obtain⟨H2,I2,q2⟩:=zq;cases b with
 |true =>
  obtain⟨N,hN,q2⟩:=q2;rw[if_pos rfl];refine wM hp (thn (hb pins s2 σ1 H2 _ I2 q2) fun f s3 q3=>?_);cases f with
  |next =>
   obtain⟨σ3,H3,I3,n3⟩:=q3;obtain⟨m',hm,w3⟩:=hN σ3 H3 n3;show#[m',hm,σ3,H3,I3,w3]
  |cont =>
   obtain⟨σ3,H3,I3,n3⟩:=q3;obtain⟨m',hm,w3⟩:=hN σ3 H3 n3;show#[m',hm,σ3,H3,I3,w3]
  |brk=>exact q3
  |ret v=>exact q3
 |false =>
  rw[if_neg cM];exact zU #[σ1,H2,I2,q2]
end
structure It where
 go:Nat->Hp->Prop
 yld:Nat->Hp->V->Hp->Prop
 stop:Nat->Hp->Prop
def xG(X:Cx)(pins:List (Addr × Obj))(H:Hp)(b:Addr):Prop:=
 H b=none/\b≠X.env.locals/\b∉X.fs/\(b∈X.ex\/X.s₀.heap.objs.size<=b)/\(∀x c,X.env.cells.lookup x=some c->c≠b)/\∀p∈X.pn++pins,p.1≠b
theorem Inv.ab1{X:Cx}{pins:List (Addr × Obj)}{σ:St}{H H':Hp}{s:Shared}{b:Addr}(I:Inv X pins σ H s)(hb:s.heap.objs.size<=b)(hn:H' b=none):xG X pins H' b:=by
 show#[hn,oX (cG I.lt hb),I.nofs hb,.inr (bW I.sz hb),fun x c e z=>?_,fun p hp z=>?_]
 ·obtain⟨v,q⟩:=I.cell x c e;exact absurd (cG q.lt (by rwa[z])) (nH _)
 ·exact absurd (cG (bA (I.pin p hp).1) (by rwa[z])) (nH _)
structure Turn(P:aG)(w:World)(K:aF)(tg:Expr)(J:It)(fp:List Addr)(it:Addr)(tn:Nat->Heap->Prop):Prop where
 mem:it∈fp
 obj:∀i h,tn i h->∀b∈fp,∃o,h.get? b=some o/\∀v,o.data≠.cell v
 keep:∀i h h',tn i h->(∀b∈fp,∀o,h.get? b=some o->h'.get? b=some o)->tn i h'
 item:∀(X:Cx),X.prog=P->X.w=w->X.K=K->X.calm=true->∀(i:Nat) (pins:List (Addr × Obj)) (s:Shared) (σ:St) (H:Hp) (E:Value->Shared->Prop),Inv X pins σ H s->(∀b∈fp,xG X pins H b)->tn i s.heap->J.go i H ->
  wpAny (model P w) X.A (lV (.ref it)) (fun r s1=>∃ u,r=some u /\
   wpAny (model P w) X.A (Ot tg (.ref it) u) (fun _ s2=>∃ x H',Inv X pins σ H' s2/\RelV x u/\J.yld i H x H'/\tn (i+1) s2.heap/\∀ b∈fp,H' b=none) E s1) E s
 done:∀(X:Cx),X.prog=P->X.w=w->X.K=K->X.calm=true->∀(i:Nat) (pins:List (Addr × Obj)) (s:Shared) (σ:St) (H:Hp) (E:Value->Shared->Prop),Inv X pins σ H s->(∀b∈fp,xG X pins H b)->tn i s.heap->J.stop i H ->
  wpAny (model P w) X.A (lV (.ref it)) (fun r s1=>r=none/\Inv X pins σ H s1) E s
 self:∀(A:aN)(i:Nat)(s:Shared)(Q:Value->Shared->Prop)(E:Value->Shared->Prop),tn i s.heap->Q (.ref it) s->wpAny (model P w) A (Ae (.ref it)) Q E s
abbrev TI:=St->Hp->(It->Hp->Prop)->Prop
def PIE(X:Cx)(pins:List (Addr × Obj))(σ:St)(tg:Expr)(R:It->Hp->Prop)(itv:Value)(s2:Shared):Prop:=
 ∃(it:Addr)(fp:List Addr)(tn:Nat->Heap->Prop)(J:It)(H':Hp),itv=.ref it/\Inv X pins σ H' s2/\Turn X.prog X.w X.K tg J fp it tn/\tn 0 s2.heap/\(∀b∈fp,xG X pins H' b)/\R J H'
def PI(X:Cx)(tg iter:Expr)(wi:TI):Prop:=
 ∀(pins:List (Addr × Obj)) (s:Shared) (σ:St) (H:Hp) (R:It->Hp->Prop),Inv X pins σ H s->wi σ H R ->
  wpAny (model X.prog X.w) X.A (eval iter X.env) (fun v s1=>wpAny (model X.prog X.w) X.A (Ae v) (PIE X pins σ tg R) X.xe s1) X.xe s
theorem TY{M:Model}{A:aN}{E:Value->Shared->Prop}{s:Shared}{tg:Expr}{it:Addr}{u:Value}{o:Obj}{n:String}{vs:Array Value}{Q:Unit->Shared->Prop}(ho:s.heap.get? it=some o)(hc:o.cls=.type n)(hd:o.data=.fields vs)
  (hn:["enumerate","zip","dict_itemiterator","dict_reverseitemiterator","odict_iterator","itertools.zip_longest","itertools.pairwise"].contains n=false) (hQ:Q () s):wpAny M A (Ot tg (.ref it) u) Q E s:=by
 unfold Ot;cases tg <;> first
  |exact aK hQ
  | (cases u <;> first
    |exact aK hQ
    | (refine au (wpAny_load ho ?_)
       rw [hc,hd];show wpAny M A (if (["enumerate","zip","dict_itemiterator","dict_reverseitemiterator","odict_iterator","itertools.zip_longest","itertools.pairwise"].contains n && vs[0]? == some (iH _))=true then _ else _) Q E s;rw [if_neg (by intro h;rw [hn,aeE] at h;cases h)];exact aK hQ))
def Itl(K:aF)(a:Addr):It:=
 #[fun i H=>∃xs x,SqL K H a xs/\xs[i]? = some x,fun i H x H'=>H'=H/\∀xs,SqL K H a xs->xs[i]? = some x,fun i H=>∃xs,SqL K H a xs/\xs.length<=i]
def Itr(lo:Int)(n:Nat):It:=#[fun i _=>i<n,fun i H x H'=>H'=H/\x=.int (lo+i),fun i _=>n<=i]
theorem ab2{P:aG}{w:World}{K:aF}{tg:Expr}(a it:Addr):Turn P w K tg (Itl K a) [it] it (fun i h=>h.IsListIter it a i) where
 mem:=by simp
 obj:=fun i h st b hb=>by
  have e:b=it:=by simpa using hb
  subst e;obtain⟨o,e,c,d⟩:=st;show#[o,e,fun v z=>by rw[d]at z;cases z]
 keep:=fun i h h' st k=>st.at fun o e=>k it (by simp) o e
 item:=by
  walk_at "m"
  subst hP hw hK;obtain⟨xs,x,hq,hx⟩:=hg;obtain⟨its,rv,p,hz⟩:=I.list hq;obtain⟨u,hu,ru⟩:=rv.get hx
  k_dat it "r"
  refine wpAny_pyNext_list_item st p.isList (x:=u) (by simpa using hu) fun h' st' sb=>?_;have I1:Inv X pins σ H { s with heap:=h' }:=I.turned (t':=s.toks) (fun b o hb e=>(sb.2 b hb).trans e) f0 f1 f3 f4 f5;obtain⟨o,e,c,d⟩:=id st';show#[u,rfl,TY (s:={ s with heap:=h' }) e c d tb_g% #[x,H,I1,ru,#[rfl,fun ys hy=>by rwa[I.TV hy hq]],st',fun b hb=>(hf b hb).1]]
 done:=by
  walk_at "m"
  subst hP hw hK;obtain⟨xs,hq,hx⟩:=hg;obtain⟨its,rv,p,hz⟩:=I.list hq
  k_dat it "r"
  have hl:=rv.length;exact wpAny_pyNext_list_end (I.ok.hd hc) st p.isList (by simp;lia) fun h' eb=>#[rfl,I.turned (t':=s.toks) (fun b o hb e=>eb b o hb e) f0 f1 f3 f4 f5]
 self:=fun _ _ _ _ _ st h=>wpAny_pyIter_listiter st h
theorem Y5{P:aG}{w:World}{K:aF}{tg:Expr}(it:Addr)(lo:Int)(n:Nat):Turn P w K tg (Itr lo n) [it] it (fun i h=>OD h it (lo+(i:Nat)*1) ((n:Int)-(i:Nat)) 1) where
 mem:=by simp
 obj:=fun i h st b hb=>by
  have e:b=it:=by simpa using hb
  subst e;show#[_,st,fun v z=>by
   have z':Data.fields _=Data.cell v:=z;cases z']
 keep:=fun i h h' st k=>k it (by simp) _ st
 item:=by
  walk_at "m"
  subst hP hw hK
  k_dat it "r"
  have W:=afH (prog:=X.prog) (w:=X.w) (I.ok.hd hc) it lo 1 n;refine W.item i s _ _ hg st fun v h' tk hv st' kk=>?_
  k_dat (t,hv) "E"
  have I1:Inv X pins σ H { s with heap:=h',toks:=tk }:=I.turned (fun b o hb e=>kk b o (by simpa using hb) e) f0 f1 f3 f4 f5;show#[_,rfl,TY (s:={ s with heap:=h',toks:=tk }) (n := "range_iterator") st' rfl rfl tb_g% #[.int (lo+i),H,I1,#[t,?_],#[rfl,rfl],st',fun b hb=>(hf b hb).1]];rw[afd]
 done:=by
  walk_at "m"
  subst hP hw hK
  k_dat it "r"
  exact adO (I.ok.hd hc) st (by have:n<=i:=hg;lia) fun h' eb=>#[rfl,I.turned (t':=s.toks) (fun b o hb e=>eb b o hb e) f0 f1 f3 f4 f5]
 self:=fun _ _ _ _ _ st h=>adP st h
section
variable{X:Cx}{tg:Expr}
def iList(K:aF)(tl:TE):TI:=fun σ H R=>tl σ H fun x H1=>∃a,x=.ref a/\(∃xs,SqL K H1 a xs)/\R (Itl K a) H1
theorem eZ{l:Expr}{tl:TE}(hl:PE X l tl):PI X tg l (iList X.K tl):=by
 intro pins s σ H R I h;refine thn (hl pins s σ H _ I h) fun v s1 zq=>?_
 walk_at "B"
 obtain⟨a,e,⟨xs,hq⟩,q⟩:=q1;subst e;cases r1;obtain⟨its,rv,p,hz⟩:=I1.list hq;refine Hf p.isList ?_;show#[s1.heap.objs.size,[s1.heap.objs.size],_,_,H1,rfl,I1.kept (t':=s1.toks) fun b o e=>cX _ e,ab2 a _,#[_,dZ _ rfl,rfl,rfl],fun b hb=>?_,q];have e:b=s1.heap.objs.size:=by simpa using hb
 subst e;exact I1.ab1 (aO _) (I1.hok.fresh (aO _))
theorem af4{pins:List (Addr × Obj)}{σ:St}{H:Hp}{s:Shared}{R:It->Hp->Prop}{E:Value->Shared->Prop}{lo hi:Int}{t u v:Tok}{tk:Nat}(I:Inv X pins σ H s)(h1:-(2 ^ 62)<=lo)(h2:lo<2 ^ 62)(h3:-(2 ^ 62)<=hi)(h4:hi<2 ^ 62)
  (q:R (Itr lo (hi-lo).toNat) H):wpAny (model X.prog X.w) X.A (Ae (.ref s.heap.objs.size)) (PIE X pins σ tg R) E { s with heap:=s.heap.push { cls:=.type "range",data:=.fields [.int lo t,.int hi u,.int 1 v].toArray },toks:=tk }:=by
 refine adU (afM ..) (small_one h1 h2 h3 h4) ?_;have I1:Inv X pins σ H { s with heap:=s.heap.push { cls:=.type "range",data:=.fields [.int lo t,.int hi u,.int 1 v].toArray },toks:=tk }:=I.kept fun b o e=>cX _ e;show#[(s.heap.push { cls:=.type "range",data:=.fields [.int lo t,.int hi u,.int 1 v].toArray }).objs.size,[(s.heap.push { cls:=.type "range",data:=.fields [.int lo t,.int hi u,.int 1 v].toArray }).objs.size],_,_,H,rfl,
  I1.kept (t':=tk) fun b o e=>cX _ e,Y5 _ lo (hi-lo).toNat,?_,fun b hb=>?_,q]
 ·have e1:lo+((0:Nat):Int)*1=lo:=by simp
  have e2:(((hi-lo).toNat:Nat):Int)-((0:Nat):Int)=Ql lo hi 1:=by rw[rangeSize_one];split <;> lia
  show OD _ _ (lo+((0:Nat):Int)*1) ((((hi-lo).toNat:Nat):Int)-((0:Nat):Int)) 1;rw[e1,e2];exact dZ _ rfl
 ·have e:b=(s.heap.push { cls:=.type "range",data:=.fields [.int lo t,.int hi u,.int 1 v].toArray }).objs.size:=by simpa using hb
  subst e;exact I1.ab1 (aO _) (I1.hok.fresh (aO _))
def iRng1(ta:TA):TI:=fun σ H R=>ta σ H fun vs H1=>∃j:Int,vs=[.int j] /\ -(2 ^ 62)<=j/\j<2 ^ 62/\R (Itr 0 j.toNat) H1
theorem Ms{a:Expr}{ta:TA}{p pos:Pos}(hg:Gl X "range")(hm:X.mg "range" = none)(ha:PA X [a] ta)(hs:bh [a] X.env=[(false,eval a X.env)]:=by rfl):PI X tg (.Call (.Name "range" p) [a] [] pos) (iRng1 ta):=by
 intro pins s σ H R I h;refine Call_ (iU I hg hm boot_range (vY (thn (ha pos pins s σ H _ I h) fun us s1 zq=>?_) hs rfl));obtain⟨vs,H1,I1,r1,q1⟩:=zq;obtain⟨j,e,q1,q2,q⟩:=q1;subst e;cases r1 with
 |cons r rr =>
  cases rr
  k_dat (t,r) "E"
  exact call_range_1 (af4 I1 (by lia) (by lia) q1 q2 (by simpa using q))
def tFor(wi:TI)(g:TG)(tb:TS):TS:=fun D σ H=>wi σ H fun J H1=>∃W:Nat->Nat->St->Hp->Prop,(∃m,W 0 m σ H1)/\∀i m σ H,W i m σ H ->
 (J.stop i H/\D.nx σ H)\/(J.go i H/\∃N:St->Hp->Prop,(∀σ' H',N σ' H'->∃m',m'<m/\W (i+1) m' σ' H')/\∀x H',J.yld i H x H'->g x σ H' fun σ2 H2=>tb { D with nx:=N,ct:=N,bk:=D.nx } σ2 H2)
def Jc(fp:List Addr)(h:Heap):List (Addr × Obj):=fp.filterMap fun b=>(h.get? b).map fun o=>(b,o)
theorem rz{fp:List Addr}{h:Heap}{b:Addr}{o:Obj}(hb:b∈fp)(e:h.get? b=some o):(b,o)∈Jc fp h:=WX.mpr #[b,hb,by rw[e];rfl]
theorem ab3{fp:List Addr}{h:Heap}{p:Addr × Obj}(hp:p∈Jc fp h):p.1∈fp/\h.get? p.1=some p.2:=by
 obtain⟨b,hb,e⟩:=WX.mp hp;cases q:h.get? b with
 |none=>rw[q]at e;cases e
 |some o =>
  rw[q]at e;have e':(b,o)=p:=bK e;subst e';show#[hb,q]
theorem Inv.pinned{pins:List (Addr × Obj)}{σ:St}{H:Hp}{s:Shared}{fp:List Addr}(I:Inv X pins σ H s)(hf:∀b∈fp,xG X pins H b)(ho:∀b∈fp,∃o,s.heap.get? b=some o/\∀v,o.data≠.cell v):Inv X (pins++Jc fp s.heap) σ H s:=
 I.aas fun p hp=>(dX.mp hp).elim (fun z=>I.pin p (j5 _ z)) fun z=>by
  obtain⟨hb,e⟩:=ab3 z;obtain⟨f0,f1,f2,_⟩:=hf p.1 hb;obtain⟨o,e',d⟩:=ho p.1 hb;rw[e]at e';cases e';show#[e,f0,f1,f2,d]
theorem Inv.uI{pins pl:List (Addr × Obj)}{σ:St}{H:Hp}{s:Shared}(I:Inv X (pins++pl) σ H s):Inv X pins σ H s:=I.aas fun p hp=>I.pin p (j5 _ (zK _ hp))
theorem ali{iter:Expr}{body:List Stmt}{wi:TI}{g:TG}{tb:TS}{pos:Pos}(hp:PassesOwn (model X.prog X.w) X.A X.env X.xe)(hc:X.calm=true)(hi:PI X tg iter wi)(hg:PG X tg g)(hb:PSs X body tb)
  (hs:∀x,tY iter X.env x=pure x:=by intro _;rfl):PS X (.For tg iter body [] pos) (tFor wi g tb):=by
 walk_at "I"
 refine wpAny_For (thn (hi pins s σ H _ I h) fun v s1 h1=>thn h1 fun itv s2 h2=>?_) hs;obtain⟨it,fp,tn,J,H2,e,I2,T,st2,f2,W,⟨m0,w0⟩,turn⟩:=h2;subst e;have stat:∀{H':Hp},(∀b∈fp,H' b=none)->∀b∈fp,xG X pins H' b:=fun hn b hb=>#[hn b hb,(f2 b hb).2];refine codeAny_forLoop_any (fun n s'=>∃i σ' H',Inv X pins σ' H' s'/\tn i s'.heap/\(∀b∈fp,H' b=none)/\W i n σ' H') ?_ m0 #[0,σ,H2,I2,st2,fun b hb=>(f2 b hb).1,w0];rintro n s3 ⟨i,σ3,H3,I3,st3,fr3,w3⟩;rcases turn i n σ3 H3 w3 with⟨stop,qn⟩|⟨go,N,hN,step⟩
 ·refine wM hp (thn (T.done X rfl rfl rfl hc i pins s3 σ3 H3 X.xe I3 (stat fr3) st3 stop) fun r s4 zq=>?_);obtain⟨hr,I4⟩:=zq;subst hr;exact zU #[σ3,H3,I4,qn]
 ·refine wM hp (thn (T.item X rfl rfl rfl hc i pins s3 σ3 H3 X.xe I3 (stat fr3) st3 go) fun r s4 zq=>?_);obtain⟨u,hr,h4⟩:=zq;subst hr;refine wM hp (thn h4 fun _ s5 zq=>?_);obtain⟨x,H5,I5,r5,y5,st5,fr5⟩:=zq;have I5':=I5.pinned (stat fr5) (T.obj _ _ st5);refine wM hp (thn (hg _ s5 σ3 H5 x u _ I5' r5 (step x H5 y5)) fun _ s6 zq=>?_);obtain⟨σ6,H6,I6,q6⟩:=zq;refine wM hp (thn (hb _ s6 σ6 H6 _ I6 q6) fun f s7 q7=>?_);have again:∀{σ7:St}{H7:Hp},Inv X (pins++Jc fp s5.heap) σ7 H7 s7->N σ7 H7->∃m,m<n/\∃i σ' H',Inv X pins σ' H' s7/\tn i s7.heap/\(∀b∈fp,H' b=none)/\W i m σ' H':=fun {σ7 H7} I7 n7=>by
   obtain⟨m',hm,w7⟩:=hN σ7 H7 n7;show#[m',hm,i+1,σ7,H7,I7.uI,T.keep _ _ _ st5 fun b hb o e=>(I7.pin (b,o) (j5 _ (j5 _ (rz hb e)))).1,fun b hb=>?_,w7];obtain⟨o,e,d⟩:=T.obj _ _ st5 b hb;exact(I7.pin (b,o) (j5 _ (j5 _ (rz hb e)))).2.1
  cases f with
  |next=>obtain⟨σ7,H7,I7,n7⟩:=q7;exact again I7 n7
  |cont=>obtain⟨σ7,H7,I7,n7⟩:=q7;exact again I7 n7
  |brk=>obtain⟨σ7,H7,I7,q7⟩:=q7;show#[σ7,H7,I7.uI,q7]
  |ret v=>obtain⟨x7,σ7,H7,I7,r7,q7⟩:=q7;show#[x7,σ7,H7,I7.uI,r7,q7]
end
theorem jw{K:aF}{a:Addr}{xs:List V}{g:TG}{tb:TS}{D:Ends}{σ:St}{H:Hp}(Pv:Nat->St->Hp->Prop)(h0:Pv 0 σ H)(hl:∀i σ H,i<=xs.length->Pv i σ H->SqL K H a xs)
  (hs:∀i x σ H,xs[i]? = some x->Pv i σ H->g x σ H fun σ2 H2=>tb { D with nx:=Pv (i+1),ct:=Pv (i+1),bk:=D.nx } σ2 H2) (hd:∀σ H,Pv xs.length σ H->D.nx σ H):
  ∃W:Nat->Nat->St->Hp->Prop,(∃m,W 0 m σ H)/\∀i m σ H,W i m σ H ->
   ((Itl K a).stop i H/\D.nx σ H)\/((Itl K a).go i H/\∃N:St->Hp->Prop,(∀σ' H',N σ' H'->∃m',m'<m/\W (i+1) m' σ' H')/\∀x H',(Itl K a).yld i H x H'->g x σ H' fun σ2 H2=>tb { D with nx:=N,ct:=N,bk:=D.nx } σ2 H2):=by
 show#[fun i m σ H=>m=xs.length-i/\i<=xs.length/\Pv i σ H,#[xs.length,by simp,cU _,h0],?_];rintro i m σ H ⟨rfl,hi,p⟩;have q:=hl i σ H hi p;by_cases hlt:i<xs.length
 ·refine .inr #[#[xs,xs[i],q,by simp[hlt]],Pv (i+1),fun σ' H' p'=>#[xs.length-(i+1),by lia,rfl,hlt,p'],fun x H' y=>?_];obtain⟨e,y⟩:=y;subst e;exact hs i x σ _ (y xs q) p
 ·have e:i=xs.length:=by lia
  subst e;exact .inl #[#[xs,q,aO _],hd σ H p]
theorem Mt{lo:Int}{n:Nat}{g:TG}{tb:TS}{D:Ends}{σ:St}{H:Hp}(Pv:Nat->St->Hp->Prop)(h0:Pv 0 σ H)
  (hs:∀i σ H,i<n->Pv i σ H->g (.int (lo+i)) σ H fun σ2 H2=>tb { D with nx:=Pv (i+1),ct:=Pv (i+1),bk:=D.nx } σ2 H2) (hd:∀σ H,Pv n σ H->D.nx σ H):
  ∃W:Nat->Nat->St->Hp->Prop,(∃m,W 0 m σ H)/\∀i m σ H,W i m σ H ->
   ((Itr lo n).stop i H/\D.nx σ H)\/((Itr lo n).go i H/\∃N:St->Hp->Prop,(∀σ' H',N σ' H'->∃m',m'<m/\W (i+1) m' σ' H')/\∀x H',(Itr lo n).yld i H x H'->g x σ H' fun σ2 H2=>tb { D with nx:=N,ct:=N,bk:=D.nx } σ2 H2):=by
 show#[fun i m σ H=>m=n-i/\i<=n/\Pv i σ H,#[n,by simp,cU _,h0],?_];rintro i m σ H ⟨rfl,hi,p⟩;by_cases hlt:i<n
 ·refine .inr #[hlt,Pv (i+1),fun σ' H' p'=>#[n-(i+1),by lia,rfl,hlt,p'],fun x H' y=>?_];obtain⟨e,y⟩:=y;subst e y;exact hs i σ _ hlt p
 ·have e:i=n:=by lia
  subst e;exact .inl #[aO _,hd σ H p]
theorem T5{c:TT}{tb:TS}{D:Ends}{σ:St}{H:Hp}(Pv:St->Hp->Prop)(μ:St->Hp->Nat)(h0:Pv σ H)
  (hs:∀σ H,Pv σ H->c σ H fun b H1=>if b=true then tb { D with nx:=fun σ' H'=>Pv σ' H'/\μ σ' H'<μ σ H,ct:=fun σ' H'=>Pv σ' H'/\μ σ' H'<μ σ H,bk:=D.nx } σ H1 else D.nx σ H1)
  (mono:∀σ H Q Q',(∀b H1,Q b H1->Q' b H1)->c σ H Q->c σ H Q'):af2 c tb D σ H:=by
 show#[fun m σ H=>m=μ σ H/\Pv σ H,#[_,rfl,h0],?_];rintro m σ H ⟨rfl,p⟩;refine mono σ H _ _ (fun b H1 q=>?_) (hs σ H p);cases b with
 |true=>show#[_,fun σ' H' ⟨p',l⟩=>#[_,l,rfl,p'],q]
 |false=>exact q
abbrev R2:=V->V->Hp->VK->Prop
def OpR(X:Cx)(f:Value->Value->Sem Value)(r:R2):Prop:=
 ∀(pins:List (Addr × Obj)) (s:Shared) (σ:St) (H:Hp) (x y:V) (v u:Value) (Q:VK),Inv X pins σ H s->RelV x v->RelV y u->r x y H Q ->
  wpAny (model X.prog X.w) X.A (f v u) (EP X pins σ Q) X.xe s
def UnR(X:Cx)(f:Value->Sem Value)(r:V->Hp->VK->Prop):Prop:=
 ∀(pins:List (Addr × Obj)) (s:Shared) (σ:St) (H:Hp) (x:V) (v:Value) (Q:VK),Inv X pins σ H s->RelV x v->r x H Q ->
  wpAny (model X.prog X.w) X.A (f v) (EP X pins σ Q) X.xe s
def fU(X:Cx)(f:Value)(r:List V->Hp->VK->Prop):Prop:=
 ∀(pins:List (Addr × Obj)) (s:Shared) (σ:St) (H:Hp) (xs:List V) (us:List Value) (Q:VK),Inv X pins σ H s->Vals xs us->r xs H Q ->
  wpAny (model X.prog X.w) X.A (call f us) (EP X pins σ Q) X.xe s
@[reducible] def tOp(r:R2)(ta tb:TE):TE:=fun σ H Q=>ta σ H fun x H1=>tb σ H1 fun y H2=>r x y H2 Q
def tUn(r:V->Hp->VK->Prop)(ta:TE):TE:=fun σ H Q=>ta σ H fun x H1=>r x H1 Q
inductive rI (C:Int->Int->Prop) (g:Int->Int->V) (x y:V) (H:Hp) (Q:VK):Prop
 |k (i j:Int):x=.int i->y=.int j->C i j->Q (g i j) H->rI C g x y H Q
inductive rI0 (g:Int->Int->V) (x y:V) (H:Hp) (Q:VK):Prop
 |k (i j:Int):x=.int i->y=.int j->Q (g i j) H->rI0 g x y H Q
def rU(g:Int->V):V->Hp->VK->Prop:=fun x H Q=>∃i,x=.int i/\Q (g i) H
section
variable{X:Cx}{a b c:Expr}{ta tb tc:TE}{pos:Pos}
theorem binT(ha:PE X a ta)(hb:PE X b tb){pins:List (Addr × Obj)}{s:Shared}{σ:St}{H:Hp}{R:V->V->Hp->Prop}(I:Inv X pins σ H s)
  (h:ta σ H fun x H1=>tb σ H1 fun y H2=>R x y H2) {Q:Value->Shared->Prop} {f:Value->Value->Sem Value}
  (hf:∀v u s2 x y H2,Inv X pins σ H2 s2->RelV x v->RelV y u->R x y H2->wpAny (model X.prog X.w) X.A (f v u) Q X.xe s2):
  wpAny (model X.prog X.w) X.A (eval a X.env) (fun v s₁=>wpAny (model X.prog X.w) X.A (eval b X.env) (fun u s₂=>wpAny (model X.prog X.w) X.A (f v u) Q X.xe s₂) X.xe s₁) X.xe s:=by
 refine thn (ha pins s σ H _ I h) fun v s1 zq=>?_
 walk_at "B"
 refine thn (hb pins s1 σ H1 _ I1 q1) fun u s2 zq=>?_;obtain⟨y,H2,I2,r2,q2⟩:=zq;exact hf v u s2 x y H2 I2 r1 r2 q2
theorem sS{op:X6}{r:R2}(ho:OpR X (iD op) r)(ha:PE X a ta)(hb:PE X b tb):PE X (.BinOp a op b pos) (tOp r ta tb):=by
 walk_at "s"
 exact wpAny_BinOp (binT ha hb I h fun v u s2 x y H2 I2 rx ry q=>ho pins s2 σ H2 x y v u Q I2 rx ry q)
theorem pe_un{op:UnaryOp}{r:V->Hp->VK->Prop}(ho:UnR X (unaryOp op) r)(ha:PE X a ta):PE X (.UnaryOp op a pos) (tUn r ta):=by
 walk_at "s"
 exact UnaryOp_ (thn (ha pins s σ H _ I h) fun v s1 ⟨x,H1,I1,r1,q1⟩=>ho pins s1 σ H1 x v Q I1 r1 q1)
theorem opI{f:Value->Value->Sem Value}{C:Int->Int->Prop}{g:Int->Int->Int}
  (rule:∀(i j:Int)(t u:Tok)(s:Shared)(Q:Value->Shared->Prop)(E:Value->Shared->Prop),C i j->Q (.int (g i j) s.toks) { s with toks:=s.toks+1 }->wpAny (model X.prog X.w) X.A (f (.int i t) (.int j u)) Q E s):
  OpR X f (rI C fun i j=>.int (g i j)):=by
 walk_at "u"
 obtain⟨i,j,rfl,rfl,hc,q⟩:=h
 k_dat (t,rx) "E"
 k_dat (t',ry) "E"
 exact rule i j t t' s _ _ hc #[.int (g i j),H,I.tok _,#[_,rfl],q]
theorem opI0{f:Value->Value->Sem Value}{g:Int->Int->Int}
  (rule:∀(i j:Int)(t u:Tok)(s:Shared)(Q:Value->Shared->Prop)(E:Value->Shared->Prop),Q (.int (g i j) s.toks) { s with toks:=s.toks+1 }->wpAny (model X.prog X.w) X.A (f (.int i t) (.int j u)) Q E s):
  OpR X f (rI0 fun i j=>.int (g i j)):=by
 walk_at "u"
 obtain⟨i,j,rfl,rfl,q⟩:=h
 k_dat (t,rx) "E"
 k_dat (t',ry) "E"
 exact rule i j t t' s _ _ #[.int (g i j),H,I.tok _,#[_,rfl],q]
theorem opB0{f:Value->Value->Sem Value}{g:Int->Int->Bool}
  (rule:∀(i j:Int)(t u:Tok)(s:Shared)(Q:Value->Shared->Prop)(E:Value->Shared->Prop),Q (.bool (g i j)) s->wpAny (model X.prog X.w) X.A (f (.int i t) (.int j u)) Q E s):
  OpR X f (rI0 fun i j=>.bl (g i j)):=by
 walk_at "u"
 obtain⟨i,j,rfl,rfl,q⟩:=h
 k_dat (t,rx) "E"
 k_dat (t',ry) "E"
 exact rule i j t t' s _ _ #[.bl (g i j),H,I,rfl,q]
def CDiv(i j:Int):Prop:=0<j/\j<1073741824
def CPow(i j:Int):Prop:=0<=j/\j<=1000000/\i.natAbs<2 ^ 64
def af5(i j:Int):Prop:=(-(2 ^ 64)<i/\i<2 ^ 64)\/(-(2 ^ 64)<j/\j<2 ^ 64)
theorem af5.ok{i j:Int}(h:af5 i j):IntMulOk i j:=by
 rcases h with⟨h1,h2⟩|⟨h1,h2⟩
 ·exact .of_left (aee h1 h2)
 ·exact .of_right (aee h1 h2)
theorem bY:OpR X (iD .Add) (rI0 fun i j=>.int (i+j)):=opI0 fun _ _ _ _ _ _ _ q=>add_int q
theorem alj:OpR X (iD .Sub) (rI0 fun i j=>.int (i-j)):=opI0 fun _ _ _ _ _ _ _ q=>sub_int q
theorem Qy:OpR X (iD .Mult) (rI af5 fun i j=>.int (i*j)):=opI fun _ _ _ _ _ _ _ hc q=>mul_int q hc.ok
theorem aav:OpR X (iD .FloorDiv) (rI CDiv fun i j=>.int (i / j)):=opI fun i j _ _ _ _ _ hc q=>by
 have h1:(0:Int)<j:=hc.1;have h2:j<1073741824:=hc.2;exact aeS (by lia) (by rwa[ae2 i (by lia)]) (.inl (afq (by lia)))
theorem Y6:OpR X (iD .Mod) (rI (fun _ j=>0<j) fun i j=>.int (i % j)):=opI fun i j _ _ _ _ _ hc q=>by
 have h1:(0:Int)<j:=hc;exact mod_int' (by lia) (by rwa[Int.fmod_eq_emod_of_nonneg i (by lia)])
theorem alk:OpR X (iD .Pow) (rI CPow fun i j=>.int (i ^ j.toNat)):=opI fun _ _ _ _ _ _ _ hc q=>pow_int_small hc.1 hc.2.1 hc.2.2 q
theorem Y7:OpR X (iD .LShift) (rI CPow fun i j=>.int (i*2 ^ j.toNat)):=opI fun _ _ _ _ _ _ _ hc q=>lshift_int_small hc.1 hc.2.1 hc.2.2 q
theorem unI{f:Value->Sem Value}{g:Int->Int}
  (rule:∀(i:Int)(t:Tok)(s:Shared)(Q:Value->Shared->Prop)(E:Value->Shared->Prop),Q (.int (g i) s.toks) { s with toks:=s.toks+1 }->wpAny (model X.prog X.w) X.A (f (.int i t)) Q E s):
  UnR X f (rU fun i=>.int (g i)):=by
 intro pins s σ H x v Q I rx h;obtain⟨i,rfl,q⟩:=h
 k_dat (t,rx) "E"
 exact rule i t s _ _ #[.int (g i),H,I.tok _,#[_,rfl],q]
theorem alm:UnR X (unaryOp .USub) (rU fun i=>.int (-i)):=unI fun _ _ _ _ _ q=>neg_int q
end
def scal:V->V->Bool
 | .non,.non=>true | .non,.int _=>true | .int _,.non=>true | .non,.bl _=>true | .bl _,.non=>true | .non,.str _=>true | .str _,.non=>true
 | .int _,.int _=>true | .bl _,.bl _=>true | .str _,.str _=>true | .byt _,.byt _=>true
 | .int _,.str _=>true | .str _,.int _=>true | .bl _,.str _=>true | .str _,.bl _=>true
 |_,_=>false
def rEq:R2:=fun x y H Q=>scal x y=true/\Q (.bl (decide (x=y))) H
def rNe:R2:=fun x y H Q=>scal x y=true/\Q (.bl (!decide (x=y))) H
theorem aaw{i j:Int}:decide (V.int i=V.int j)=(i == j):=by
 rw[HJ];simp
theorem af6{i j:Bool}:decide (V.bl i=V.bl j)=(i == j):=by
 rw[HJ];simp
theorem aax{i j:Str}:decide (V.str i=V.str j)=(i == j):=by
 rw[HJ];simp
theorem aay{i j:Array UInt8}:decide (V.byt i=V.byt j)=(i.toList == j.toList):=by
 rw[HJ];cases i;cases j;simp
section
variable{X:Cx}{a b c:Expr}{ta tb tc:TE}{pos:Pos}
theorem cF{pins:List (Addr × Obj)}{σ:St}{H:Hp}{s:Shared}{Q:VK}{k k':Bool}(I:Inv X pins σ H s)(q:Q (.bl k) H)(e:k=k'):EP X pins σ Q (.bool k') s:=by
 subst e;show#[.bl k,H,I,rfl,q]
theorem T6:OpR X (gG .Eq) rEq:=by
 walk_at "u"
 obtain⟨hs,q⟩:=h;cases x with
 |non =>
  cases rx;cases y with
  |non=>cases ry;exact akx (cF I q (by simp))
  |bl j=>cases ry;exact aky (cF I q (by simp))
  |int j=>obtain⟨t',rfl⟩:=ry;exact akD (cF I q (by simp))
  |str j=>obtain⟨t',rfl⟩:=ry;exact akE (cF I q (by simp))
  |_=>exact absurd (show false=true from hs) cM
 |bl i =>
  cases rx;cases y with
  |non=>cases ry;exact akz (cF I q (by simp))
  |bl j=>cases ry;exact eq_bool (cF I q af6)
  |str j=>obtain⟨t',rfl⟩:=ry;exact akL (cF I q (by simp))
  |_=>exact absurd (show false=true from hs) cM
 |int i =>
  k_dat (t,rx) "E"
  cases y with
  |non=>cases ry;exact akF (cF I q (by simp))
  |int j=>obtain⟨t',rfl⟩:=ry;exact eq_int (cF I q aaw)
  |str j=>obtain⟨t',rfl⟩:=ry;exact akP (cF I q (by simp))
  |_=>exact absurd (show false=true from hs) cM
 |str i =>
  k_dat (t,rx) "E"
  cases y with
  |non=>cases ry;exact akG (cF I q (by simp))
  |bl j=>cases ry;exact akM (cF I q (by simp))
  |int j=>obtain⟨t',rfl⟩:=ry;exact akQ (cF I q (by simp))
  |str j=>obtain⟨t',rfl⟩:=ry;exact eq_str (cF I q aax)
  |_=>exact absurd (show false=true from hs) cM
 |byt i =>
  k_dat (t,rx) "E"
  cases y with
  |byt j=>obtain⟨t',rfl⟩:=ry;exact PySem.W.eq_bytes (cF I q aay)
  |_=>exact absurd (show false=true from hs) cM
 |_=>cases y <;> exact absurd (show false=true from hs) cM
theorem ajk:OpR X (gG .NotEq) rNe:=by
 walk_at "u"
 obtain⟨hs,q⟩:=h;cases x with
 |non =>
  cases rx;cases y with
  |non=>cases ry;exact akA (cF I q (by simp))
  |bl j=>cases ry;exact akB (cF I q (by simp))
  |int j=>obtain⟨t',rfl⟩:=ry;exact akH (cF I q (by simp))
  |str j=>obtain⟨t',rfl⟩:=ry;exact akI (cF I q (by simp))
  |_=>exact absurd (show false=true from hs) cM
 |bl i =>
  cases rx;cases y with
  |non=>cases ry;exact akC (cF I q (by simp))
  |bl j=>cases ry;exact ne_bool (cF I q (congrArg not af6))
  |str j=>obtain⟨t',rfl⟩:=ry;exact akN (cF I q (by simp))
  |_=>exact absurd (show false=true from hs) cM
 |int i =>
  k_dat (t,rx) "E"
  cases y with
  |non=>cases ry;exact akJ (cF I q (by simp))
  |int j=>obtain⟨t',rfl⟩:=ry;exact ne_int (cF I q (congrArg not aaw))
  |str j=>obtain⟨t',rfl⟩:=ry;exact akR (cF I q (by simp))
  |_=>exact absurd (show false=true from hs) cM
 |str i =>
  k_dat (t,rx) "E"
  cases y with
  |non=>cases ry;exact akK (cF I q (by simp))
  |bl j=>cases ry;exact akO (cF I q (by simp))
  |int j=>obtain⟨t',rfl⟩:=ry;exact akS (cF I q (by simp))
  |str j=>obtain⟨t',rfl⟩:=ry;exact ne_str (cF I q (congrArg not aax))
  |_=>exact absurd (show false=true from hs) cM
 |byt i =>
  k_dat (t,rx) "E"
  cases y with
  |byt j=>obtain⟨t',rfl⟩:=ry;exact PySem.W.ne_bytes (cF I q (congrArg not aay))
  |_=>exact absurd (show false=true from hs) cM
 |_=>cases y <;> exact absurd (show false=true from hs) cM
theorem ajl:OpR X (gG .Lt) (rI0 fun i j=>.bl (decide (i<j))):=opB0 fun _ _ _ _ _ _ _ q=>lt_int q
theorem op_le:OpR X (gG .LtE) (rI0 fun i j=>.bl (decide (i<=j))):=opB0 fun _ _ _ _ _ _ _ q=>le_int q
theorem op_gt:OpR X (gG .Gt) (rI0 fun i j=>.bl (decide (j<i))):=opB0 fun _ _ _ _ _ _ _ q=>gt_int q
theorem ajm:OpR X (gG .GtE) (rI0 fun i j=>.bl (decide (j<=i))):=opB0 fun _ _ _ _ _ _ _ q=>ge_int q
theorem Jd(b:Expr){op:CmpOp}(h:op≠.In:=by decide)(h2:op≠.NotIn:=by decide):Ox op b=false:=by
 have e1:(op == CmpOp.In)=false:=by cases op <;> first|rfl|exact absurd rfl h
 have e2:(op == CmpOp.NotIn)=false:=by cases op <;> first|rfl|exact absurd rfl h2
 cases b <;> simp[Ox,e1,e2]
theorem yE{op:CmpOp}{r:R2}(ho:OpR X (gG op) r)(ha:PE X a ta)(hb:PE X b tb)(hm:Ox op b=false):PE X (.Compare a [op] [b] pos) (tOp r ta tb):=by
 walk_at "s"
 exact wpAny_Compare1 (binT ha hb I h fun v u s2 x y H2 I2 rx ry q=>ho pins s2 σ H2 x y v u Q I2 rx ry q) hm
inductive RB (x:V) (H:Hp) (Q:Bool->Hp->Prop):Prop
 |k (b:Bool):x=.bl b->Q b H->RB x H Q
@[reducible] def tTest(t:TE):TT:=fun σ H Q=>t σ H fun x H'=>RB x H' Q
theorem aaz{op:CmpOp}{r:R2}(ho:OpR X (gG op) r)(ha:PE X a ta)(hb:PE X b tb)(hm:Ox op b=false):PT X (.Compare a [op] [b] pos) (tTest (tOp r ta tb)):=by
 walk_at "s"
 refine wpAny_isTrue_Compare1 (thn (ha pins s σ H _ I h) fun v s1 ⟨x,H1,I1,r1,q1⟩=>thn (hb pins s1 σ H1 _ I1 q1) fun u s2 ⟨y,H2,I2,r2,q2⟩ =>
  thn (ho pins s2 σ H2 x y v u _ I2 r1 r2 q2) fun c s3 ⟨z,H3,I3,r3,k,e,q3⟩=>?_) hm
 subst e;cases r3;exact wL #[H3,I3,q3]
def aln(r r':R2)(ta tb tc:TE):TE:=fun σ H Q=>ta σ H fun x H1=>tb σ H1 fun y H2=>r x y H2 fun z H3=>∃k,z=.bl k /\
 (if k=true then tc σ H3 fun w' H4=>r' y w' H4 Q else Q (.bl false) H3)
theorem T7{op op':CmpOp}{r r':R2}(ho:OpR X (gG op) r)(ho':OpR X (gG op') r')(ha:PE X a ta)(hb:PE X b tb)(hc:PE X c tc)
  (hm:lastMarks [op,op'] [b,c]=false:=by with_unfolding_all rfl):PE X (.Compare a [op,op'] [b,c] pos) (aln r r' ta tb tc):=by
 walk_at "s"
 refine Compare_chain (thn (ha pins s σ H _ I h) fun v s1 ⟨x,H1,I1,r1,q1⟩=>chain_link (thn (hb pins s1 σ H1 _ I1 q1) fun u s2 ⟨y,H2,I2,r2,q2⟩ =>
  thn (ho pins s2 σ H2 x y v u _ I2 r1 r2 q2) fun d s3 ⟨z,H3,I3,r3,k,e,q3⟩=>?_)) hm
 subst e;cases r3;refine wL ?_;cases k with
 |false=>exact ite_ff #[.bl false,H3,I3,rfl,q3]
 |true=>exact ite_tt (chain_last (thn (hc pins s3 σ H3 _ I3 q3) fun w' s4 ⟨z',H4,I4,r4,q4⟩=>ho' pins s4 σ H4 y z' u w' Q I4 r2 r4 q4))
theorem Bf:(sizeLine:Nat)<2 ^ 63:=by rw[zX];decide
theorem fj:OpR X (iD .Add) (fun x y H Q=>∃i j,x=.str i/\y=.str j/\i.length+j.length<=sizeLine/\Q (.str (i++j)) H):=by
 walk_at "u"
 obtain⟨i,j,rfl,rfl,hz,q⟩:=h
 k_dat (t,rx) "E"
 k_dat (t',ry) "E"
 exact add_str (fun t' tk=>#[.str (i++j),H,I.tok _,#[_,rfl],q]) hz
theorem vals1{x:V}{us:List Value}(r:Vals [x] us):∃u,us=[u]/\RelV x u:=by
 cases r with
 |cons r1 r2=>cases r2;show#[_,rfl,r1]
theorem vals2{x y:V}{us:List Value}(r:Vals [x,y] us):∃u w',us=[u,w']/\RelV x u/\RelV y w':=by
 cases r with
 |cons r1 r2 =>
  cases r2 with
  |cons r3 r4=>cases r4;show#[_,_,rfl,r1,r3]
theorem ab4(hc:X.calm=true):fU X (.builtin "max") (fun xs H Q=>∃i j,xs=[.int i,.int j]/\Q (.int (if j>i then j else i)) H):=by
 walk_at "w"
 obtain⟨i,j,rfl,q⟩:=h;obtain⟨u,w',rfl,⟨t,rfl⟩,⟨t',rfl⟩⟩:=vals2 r;refine max_two_ints (I.ok.hd hc) fun h' tk k=>#[_,H,I.kept k,?_,q];by_cases hj:j>i
 ·rw[if_pos hj,if_pos hj];show#[_,rfl]
 ·rw[if_neg hj,if_neg hj];show#[_,rfl]
theorem rA:fU X (.type "str") (fun xs H Q=>∃i,xs=[.int i]/\i.natAbs.log2<1920/\Q (.str (toString i)) H):=by
 walk_at "w"
 obtain⟨i,rfl,hz,q⟩:=h;obtain⟨u,rfl,t,rfl⟩:=vals1 r;exact PySem.P.str_of_int hz #[.str _,H,I.tok _,#[_,rfl],q]
def LenV(K:aF)(x:V)(H:Hp)(n:Nat):Prop:=
 match x with
 | .str y=>y.length<=sizeLine/\n=y.length
 | .byt y=>y.size<=sizeLine/\n=y.size
 | .ref p=>(∃xs,SqL K H p xs/\n=xs.length)\/∃xs,SqT K H p xs/\n=xs.length
 |_=>False
theorem af7:fU X (.builtin "len") (fun xs H Q=>∃x n,xs=[x]/\LenV X.K x H n/\Q (.int n) H):=by
 walk_at "w"
 obtain⟨x,n,rfl,e,q⟩:=h;obtain⟨u,rfl,rx⟩:=vals1 r;have hl:=Bf;have hs:sizeLine=16777216:=zX;cases x with
 |str y =>
  k_dat (t,rx) "E"
  obtain⟨hy,e'⟩:y.length<=sizeLine/\n=y.length:=e;subst e';exact len_str (by lia) #[.int _,H,I.tok _,#[_,rfl],q]
 |byt y =>
  k_dat (t,rx) "E"
  obtain⟨hy,e'⟩:y.size<=sizeLine/\n=y.size:=e;subst e';exact PySem.W.len_bytes (by lia) #[.int _,H,I.tok _,#[_,rfl],q]
 |ref p =>
  cases rx;have e':(∃xs,SqL X.K H p xs/\n=xs.length)\/∃xs,SqT X.K H p xs/\n=xs.length:=e;rcases e' with⟨xs,hx,e'⟩|⟨xs,hx,e'⟩
  ·subst e';obtain⟨its,r',pl,hz⟩:=I.list hx;have hlen:=r'.length;exact Calls.call_len_list pl.isList (by simp only[cH];lia) #[.int xs.length,H,I.tok _,#[_,by simp only[cH];rw[hlen]],q]
  ·subst e';obtain⟨its,r',pl,hz⟩:=I.tuple hx;have hlen:=r'.length;exact len_tuple pl (by simp only[cH];lia) #[.int xs.length,H,I.tok _,#[_,by simp only[cH];rw[hlen]],q]
 |_=>exact(show False from e).elim
end
structure ab5(h:Heap)(x dx C:Addr)(mA:Str->Option Value):Prop where
 obj:h.get? x=some (tX C dx)
 ns:h.Ns1 dx mA
 ne:dx≠x
theorem Mu{h:Heap}{dx:Addr}{mA:Str->Option Value}(n:h.Ns1 dx mA):∃od,h.get? dx=some od/\∀name,Xl name od=some (mA name):=by
 obtain⟨o,es,ep,ho,hd,hk,_,hm⟩:=n;show#[o,ho,fun name=>?_];have e:=hm name;unfold nsFind findBy at e;rw[<-ae1]at e;unfold Xl;rw[hd];dsimp only;split
 ·rename_i y q;rw[q]at e;exact congrArg some e
 ·rename_i q;rw[q]at e;have a:es.toList.any (·.refKey)=false:=by
   rw[List.any_eq_false];intro y hy;obtain⟨z,t,hkey⟩:=hk y (Array.mem_toList_iff.mp hy);simp[ak3,hkey]
  have a':¬ es.toList.any (·.refKey)=true:=by rw[a];exact cM
  rw[if_neg a'];exact congrArg some e
theorem ab5.look{h:Heap}{x dx C:Addr}{mA:Str->Option Value}(I:ab5 h x dx C mA):∃od,Xm h x (tX C dx) C (some od)/\∀name,Xl name od=some (mA name):=
 let ⟨od,ho,hl⟩:=Mu I.ns
 #[od,#[I.obj,rfl,rfl,ho],hl]
section
variable{prog:aG}{w:World}{A:aN}{E:Value->Shared->Prop}{s:Shared}{K:aF}{x dx C f:Addr}{mA:Str->Option Value}{name:Str}{v:Value}
theorem get_map{expr:Bool}{Q:Value->Shared->Prop}(X:K.In s.heap)(I:ab5 s.heap x dx C mA)(hg:GZ K C name=true)(hh:tW K C=true)
  (ha:eE K (.ref C) name=some none) (hv:mA name=some v) (hv':Od v=true) (h:Q v { s with toks:=s.toks+1 }):
  wpAny (model prog w) A (Hv (.ref x) name expr) Q E s:=by
 obtain⟨od,J,hl⟩:=I.look;exact PySem.W.get_value X J (PySem.W.plainGet_of hg).1 (adC hh ha rfl (by rw[hl,hv])) hv' h
theorem ah9{ns:List Str}{Q:Unit->Shared->Prop}(X:K.In s.heap)(I:ab5 s.heap x dx C mA)
  (hs:eE K (.ref C) "__setattr__" = some (some (.builtin "object.__setattr__"))) (hp:Oc K C=true) (ht:Xh K C name=some none) (hh:tW K C=true)
  (hw:Xx mA ns) (hsz:ns.length<=sizeLine)
  (h:∀h',ab5 h' x dx C (fun y=>if y=name then some v else mA y)->oW dx s.heap h'->Q () { s with heap:=h',toks:=s.toks+2 }):
  wpAny (model prog w) A (setAttr (.ref x) name v) Q E s:=by
 obtain⟨od,J,hl⟩:=I.look;refine adD X J hs (PySem.W.osa_open (s:={ s with toks:=s.toks+1 }) (r:=none) X J hp ht fun b=>?_);obtain⟨cd,hc,hd'⟩:=adG hh;have hx:s.heap.get? x=some #[.ref C,some dx,.plain,#[]]:=I.obj;refine au (aK (au (au (ad7 hx (au (Ar (s:={ s with toks:=s.toks+1 }) (Xe X hc) ?_))))));rw[hd'];refine aK (a:=some dx) (au (aK (au ?_)));refine ael (s:={ s with toks:=s.toks+1 }) I.ns fun h' hn2 hs2=>?_;obtain⟨oD,esD,epD,hoD,hdD,hcD⟩:=hn2.count (ak2 name v hw);refine au (adZ hoD (by rw[hdD];exact ad0 (bW hcD (by rw[cJ];lia))) ?_);exact aK (h _ #[(hs2.2 _ (aQ I.ne)).trans I.obj,hn2,I.ne] hs2)
theorem af8{R:lW->Shared->Prop}{vs:List Value}{kw:List (Str × Value)}(X:K.In s.heap)(hm:Oe K C=true)
  (hi:eE K (.ref C) "__init__" = some (some (.ref f))) (hf:wI K (.ref f)=some (.type "function"))
  (h:fC (model prog w) (A.under (.builtin "type.__call__" #[.ref C::vs,kw])) (.call (.ref f) #[.ref (s.heap.objs.size+1)::vs,kw]) (PySem.W.InitBack (s.heap.objs.size+1) R)
   { s with heap:=(s.heap.push pQ).push (tX C s.heap.objs.size) }) :
  fC (model prog w) A (.call (.ref C) #[vs,kw]) R s:=by
 obtain⟨hh,g,d,t,os⟩:=s;exact PySem.W.make_core (PySem.W.makes_of X hm) (GX X hi) (fun self=>PySem.W.bind_fn X self hf) (.inl rfl) h
end
def bM(f:Str)(v:V):List (Str × V)->List (Str × V)
 |[]=>[(f,v)]
 |(g,x)::r=>if g=f then(g,v)::r else(g,x)::bM f v r
theorem Dl(f g:Str)(v:V):∀fs:List (Str × V),(bM f v fs).lookup g=if g=f then some v else fs.lookup g
 |[]=>by
  show tV g [(f,v)]=_;by_cases h:g=f
  ·have hb:(g == f)=true:=beq_iff_eq.mpr h;simp only[tV,hb,if_pos h]
  ·have hb:(g == f)=false:=beq_eq_false_iff_ne.mpr h;simp only[tV,hb,if_neg h]
 |(k,x)::r=>by
  have ih:=Dl f g v r;rw[show bM f v ((k,x)::r)=(if k=f then(k,v)::r else(k,x)::bM f v r)from rfl];by_cases hk:k=f
  ·rw[if_pos hk];by_cases h:g=k
   ·have hb:(g == k)=true:=beq_iff_eq.mpr h;simp only[tV,hb,if_pos (h.trans hk)]
   ·have hb:(g == k)=false:=beq_eq_false_iff_ne.mpr h;simp only[tV,hb,if_neg (fun e:g=f=>h (e.trans hk.symm))]
  ·rw[if_neg hk];by_cases h:g=k
   ·have hb:(g == k)=true:=beq_iff_eq.mpr h;simp only[tV,hb,if_neg (fun e:g=f=>hk (h.symm.trans e))]
   ·have hb:(g == k)=false:=beq_eq_false_iff_ne.mpr h;simp only[tV,hb];exact ih
theorem Bg(f:Str)(v:V):∀fs:List (Str × V),f∈(bM f v fs).map (·.1)/\∀g,g∈fs.map (·.1)->g∈(bM f v fs).map (·.1)
 |[]=>#[by simp[bM],fun g h=>by simp at h]
 |(k,x)::r=>by
  obtain⟨i1,i2⟩:=Bg f v r;rw[show bM f v ((k,x)::r)=(if k=f then(k,v)::r else(k,x)::bM f v r)from rfl];by_cases hk:k=f
  ·rw[if_pos hk];subst hk;show#[by simp,fun g h=>by simpa using h]
  ·rw[if_neg hk];show#[?_,fun g h=>?_]
   ·rw[dM];exact cR _ i1
   ·rw[dM]at h ⊢;rcases aZ.mp h with e|e
    ·exact aZ.mpr (.inl e)
    ·exact cR _ (i2 g e)
theorem Dm(f:Str)(v:V):∀fs:List (Str × V),(bM f v fs).length<=fs.length+1
 |[]=>by simp[bM]
 |(k,x)::r=>by
  have ih:=Dm f v r;rw[show bM f v ((k,x)::r)=(if k=f then(k,v)::r else(k,x)::bM f v r)from rfl];by_cases hk:k=f
  ·rw[if_pos hk,cJ,cJ];lia
  ·rw[if_neg hk,cJ,cJ];lia
theorem qZ.some_of{v:V}{o:Option Value}(r:qZ (some v) o):∃u,o=some u/\RelV v u:=by
 cases o with
 |none=>exact(show False from r).elim
 |some u=>show#[u,rfl,r]
theorem qZ.none_of{o:Option Value}(r:qZ none o):o=none:=by
 cases o with
 |none=>rfl
 |some u=>exact(show False from r).elim
theorem Mv{v:V}{u:Value}(r:RelV v u):Od u=true:=by
 cases v with
 |non=>cases (show u=Value.none from r);rfl
 |bl b=>cases (show u=Value.bool b from r);rfl
 |int i=>obtain⟨t,e⟩:=(show ∃t,u=Value.int i t from r);cases e;rfl
 |str x=>obtain⟨t,e⟩:=(show ∃t,u=Value.str x t from r);cases e;rfl
 |byt b=>obtain⟨t,e⟩:=(show ∃t,u=Value.bytes b t from r);cases e;rfl
 |flt b=>obtain⟨t,e⟩:=(show ∃t,u=Value.float b t from r);cases e;rfl
 |ref a=>cases (show u=Value.ref a from r);rfl
 |ty n=>cases (show u=Value.type n from r);rfl
section
variable{P:aG}{w:World}{H H':Hp}{h h':Heap}{a C dx:Addr}{fs fs':List (Str × V)}
theorem Qz(hok:HOk P w H h)(e:H a=some (.ins C dx fs)):∃mA,ab5 h a dx C mA/\(∀f,qZ (fs.lookup f) (mA f))/\Xx mA (fs.map (·.1))/\fs.length<=1000/\H dx=some (.own a):=by
 obtain⟨d,z,ne,ob,mA,n,r,q⟩:=(show cA P w H h a (.ins C dx fs)from hok a _ e);show#[mA,#[ob,n,ne],r,q,z,d]
end
structure Cls(K:aF)(C:Addr):Prop where
 pg:GZ K C Xc=true
 hd:tW K C=true
 po:Oc K C=true
 sa:eE K (.ref C) "__setattr__" = some (some (.builtin "object.__setattr__"))
theorem Cls.get{K:aF}{C:Addr}(c:Cls K C)(f:Str):GZ K C f=true:=c.pg
def bG(K:aF)(C:Addr)(f:Str):Prop:=eE K (.ref C) f=some none
theorem bG.taker{K:aF}{C:Addr}{f:Str}(n:bG K C f):Xh K C f=some none:=by
 unfold Xh;rw[show eE K (.ref C) f=some none from n];rfl
structure Con(K:aF)(C:Addr)(f:Str)(v:V)(u:Value):Prop where
 at_:eE K (.ref C) f=some (some u)
 rel:RelV v u
 get:zQ K u "__get__" = some none
 cp:PySem.W.copiedNames.contains f=false
structure Meth(K:aF)(C:Addr)(m:Str)(f:Addr):Prop where
 at_:eE K (.ref C) m=some (some (.ref f))
 fn:Oi K (.ref f)=true
 kp:lQ K (.ref f)=true
section
variable{X:Cx}{pins:List (Addr × Obj)}{σ:St}{H:Hp}{s:Shared}{a C dx:Addr}{fs:List (Str × V)}{f:Str}{v:V}{A:aN}{E:Value->Shared->Prop}
theorem Y8{b:Bool}{Q:Value->Shared->Prop}(I:Inv X pins σ H s)(e:H a=some (.ins C dx fs))(c:Cls X.K C)(n:bG X.K C f)(l:fs.lookup f=some v)
  (h:∀u s',Inv X pins σ H s'->RelV v u->Q u s'):wpAny (model X.prog X.w) A (Hv (.ref a) f b) Q E s:=by
 obtain⟨mA,O,r,_,_,_⟩:=Qz I.hok e;obtain⟨u,hu,ru⟩:=qZ.some_of (v:=v) (o:=mA f) (by rw[<-l];exact r f);exact get_map I.kIn O (c.get f) c.hd n hu (Mv ru) (h u _ (I.tok _) ru)
theorem Y9{y:V}{u:Value}{Q:Unit->Shared->Prop}(I:Inv X pins σ H s)(e:H a=some (.ins C dx fs))(c:Cls X.K C)(n:bG X.K C f)(hl:fs.length<1000)(ry:RelV y u)
  (h:∀s',Inv X pins σ (upd H a (.ins C dx (bM f y fs))) s'->Q () s'):wpAny (model X.prog X.w) A (setAttr (.ref a) f u) Q E s:=by
 obtain⟨mA,O,r,wi,_,ho⟩:=Qz I.hok e;have hz:(fs.map (·.1)).length<=sizeLine:=by rw[aB,zX];lia
 refine ah9 I.kIn O c.sa c.po n.taker c.hd wi hz fun h' O' sb=>h _ ?_;have hd:∃o,h'.get? dx=some o:=let ⟨o,_,_,e',_⟩:=O'.ns;#[o,e'];refine I.write (x:=a) (e:=dx) (by rw[e];exact True.intro) (.inr ho) (fun b q hb z=>(sb.2 b hb).trans z) hd ?_;show#[by rwa[ao O.ne],?_,O.ne,O'.obj,_,O'.ns,fun g=>?_,fun g hg=>?_]
 ·have:=Dm f y fs;lia
 ·show qZ ((bM f y fs).lookup g) (if g=f then some u else mA g);rw[Dl];by_cases q:g=f
  ·rwa[if_pos q,if_pos q]
  ·rw[if_neg q,if_neg q];exact r g
 ·by_cases q:g=f
  ·rw[q];exact(Bg f y fs).1
  ·refine(Bg f y fs).2 g (wi g fun z=>hg ?_);show(if g=f then some u else mA g)=none;rwa[if_neg q]
theorem Inv.made(I:Inv X pins σ H s):Inv X pins σ (upd (upd H s.heap.objs.size (.own (s.heap.objs.size+1))) (s.heap.objs.size+1) (.ins C s.heap.objs.size []))
  { s with heap:=(s.heap.push pQ).push (tX C s.heap.objs.size) }:=by
 have e1:(s.heap.push pQ).get? s.heap.objs.size=some pQ:=dZ s.heap rfl;have e2:((s.heap.push pQ).push (tX C s.heap.objs.size)).get? (s.heap.objs.size+1)=some (tX C s.heap.objs.size):=by
  have:=dZ (s.heap.push pQ) (o:=tX C s.heap.objs.size) rfl
  rwa [pW]at this
 have e3:(s.heap.push pQ).Ns s.heap.objs.size (fun _=>none):=#[pQ,#[],_,e1,rfl,(fun e he=>absurd he (by simp)),fun _=>rfl];have I1:=I.laid (a:=s.heap.objs.size) (o:=.own (s.heap.objs.size+1)) (h':=s.heap.push pQ) (t':=s.toks) (fun b u q=>cX _ q) (aO _) #[_,e1];refine I1.laid (a:=s.heap.objs.size+1) (o:=.ins C s.heap.objs.size []) (t':=s.toks) (fun b u q=>cX _ q) (Ag (pW _ _)) ?_;have ne:s.heap.objs.size≠s.heap.objs.size+1:=bZ (wZ _);show#[by rw[ao ne,aj],cU _,ne,e2,fun _=>none,(afB e3).at fun o q=>cX _ q,fun _=>True.intro,fun y hy=>absurd rfl hy]
theorem aaA{prog:aG}{w:World}{env:Env}{e:Expr}{f:Str}{pos:Pos}{s:Shared}{Q:Value->Shared->Prop}(hb:rZ e f env (eval e env)=eval e env)
  (h:wpAny (model prog w) A (eval e env) (fun o s₁=>wpAny (model prog w) A (Hv o f true) Q E s₁) E s):wpAny (model prog w) A (eval (.Attribute e f pos) env) Q E s:=
 Attribute_any_ h (by rw[arm_eval_Attribute,hb])
end
def rFld(K:aF)(f:Str)(x:V)(H1:Hp)(Q:VK):Prop:=∃a C dx fs v,x=.ref a/\H1 a=some (.ins C dx fs)/\Cls K C/\bG K C f/\fs.lookup f=some v/\Q v H1
@[reducible] def af9(K:aF)(ta:TE)(f:Str):TE:=fun σ H Q=>ta σ H fun x H1=>rFld K f x H1 Q
def sFld(K:aF)(ta tv:TE)(f:Str):TS:=fun D σ H=>tv σ H fun y H1=>ta σ H1 fun x H2=>∃a C dx fs,x=.ref a/\H2 a=some (.ins C dx fs)/\Cls K C/\bG K C f/\fs.length<1000 /\
 D.nx σ (upd H2 a (.ins C dx (bM f y fs)))
section
variable{X:Cx}{o e value:Expr}{f:Str}{pos pos' tpos:Pos}{ta tv:TE}
theorem aga(he:PE X e ta)(hb:rZ e f X.env (eval e X.env)=eval e X.env):PE X (.Attribute e f pos) (af9 X.K ta f):=by
 walk_at "s"
 refine aaA hb (thn (he pins s σ H _ I h) fun u s1 zq=>?_);obtain⟨x,H1,I1,rx,a,C,dx,fs,v,ex,ea,c,n,l,q⟩:=zq;subst ex;obtain rfl:u=Value.ref a:=rx;exact Y8 I1 ea c n l fun u' s2 I2 ru=>#[v,H1,I2,ru,q]
theorem alo(ha:PE X o ta)(hv:PE X value tv)(hs:ug value (some (.Attribute o f pos')) pos.line X.env=pure false):PS X (.Assign [.Attribute o f pos'] value pos) (sFld X.K ta tv f):=by
 walk_at "I"
 refine adM (thn (hv pins s σ H _ I h) fun u s1 ⟨y,H1,I1,ry,q⟩=>thn (ha pins s1 σ H1 _ I1 q) fun ov s2 zq=>?_) hs;obtain⟨x,H2,I2,rx,a,C,dx,fs,ex,ea,c,n,l,q2⟩:=zq;subst ex;obtain rfl:ov=Value.ref a:=rx;exact Y9 I2 ea c n l ry fun s3 I3=>#[σ,_,I3,q2]
end
section
variable{X:Cx}{pins:List (Addr × Obj)}{σ:St}{H:Hp}{s:Shared}{A:aN}{E:Value->Shared->Prop}{Q:Value->Shared->Prop}{c:Value}{b:Bool}
inductive Bh (K:aF) (H:Hp):V->Value->Prop where
 |non:Bh K H .non (.type "NoneType")
 |bl (x:Bool):Bh K H (.bl x) (.type "bool")
 |int (i:Int):Bh K H (.int i) (.type "int")
 |str (x:Str):Bh K H (.str x) (.type "str")
 |flt (x:UInt64):Bh K H (.flt x) (.type "float")
 |lst {a:Addr} {xs:List V} (e:H a=some (.lst xs)):Bh K H (.ref a) (.type "list")
 |frz {a:Addr} {o:Obj} {xs:List V} (e:H a=some (.frz o (.lst xs))):Bh K H (.ref a) (.type "list")
 |tup {a:Addr} {xs:List V} (e:H a=some (.tup xs)):Bh K H (.ref a) (.type "tuple")
 |dK {a:Addr} {kvs:List (Key × V)} (e:H a=some (.dK kvs)):Bh K H (.ref a) (.type "dict")
 |dT {a:Addr} {kvs:List (List Key × V)} (e:H a=some (.dT kvs)):Bh K H (.ref a) (.type "dict")
 |ins {a C dx:Addr} {fs:List (Str × V)} (e:H a=some (.ins C dx fs)) (cl:Cls K C) (ha:eE K (.ref C) "__class__" = some (some (.builtin "object.__class__")))
   (hn:zQ K (.builtin "object.__class__") "__get__" = some (some (.builtin "getset_descriptor.__get__"))) (htk:Xg K (.builtin "object.__class__")=some true)
   (hm:jm K C (.type "object")=some true):Bh K H (.ref a) (.ref C)
theorem ab6{x:V}{u t:Value}(I:Inv X pins σ H s)(rx:RelV x u)(ty:Bh X.K H x t)(e:nF X.K t c=some b)(h:∀tk,Q (.bool b) { s with toks:=tk }):
  wpAny (model X.prog X.w) A (call (.builtin "isinstance") [u,c]) Q E s:=by
 cases ty with
 |non=>cases (show u=Value.none from rx);exact rY PySem.W.kitx_none I.kIn True.intro e (fun z=>nomatch z) h
 |bl y=>cases (show u=Value.bool y from rx);exact rY PySem.W.kitx_bool I.kIn True.intro e (fun z=>nomatch z) h
 |int i=>obtain⟨t,q⟩:=(show ∃t,u=Value.int i t from rx);cases q;exact rY PySem.W.kitx_int I.kIn True.intro e (fun z=>nomatch z) h
 |str y=>obtain⟨t,q⟩:=(show ∃t,u=Value.str y t from rx);cases q;exact rY PySem.W.kitx_str I.kIn True.intro e (fun z=>nomatch z) h
 |flt y=>obtain⟨t,q⟩:=(show ∃t,u=Value.float y t from rx);cases q;exact rY PySem.W.kitx_float I.kIn True.intro e (fun z=>nomatch z) h
 | @lst a xs ea =>
  cases (show u=Value.ref a from rx);obtain⟨_,_,n,_,h1⟩:=(show cA X.prog X.w H s.heap a (.lst xs)from I.hok a _ ea);exact rY adE I.kIn #[_,h1,rfl] e (fun z=>nomatch z) h
 | @frz a ob xs ea =>
  cases (show u=Value.ref a from rx);obtain⟨_,_,_,n,_,h1⟩:=(show cA X.prog X.w H s.heap a (.frz ob (.lst xs))from I.hok a _ ea);exact rY adE I.kIn #[_,h1,rfl] e (fun z=>nomatch z) h
 | @tup a xs ea =>
  cases (show u=Value.ref a from rx);obtain⟨_,_,_,p⟩:=(show cA X.prog X.w H s.heap a (.tup xs)from I.hok a _ ea);obtain⟨o,h1,h2,_⟩:=p;exact rY PySem.W.kitx_tuple I.kIn #[o,h1,h2] e (fun z=>nomatch z) h
 | @dK a kvs ea =>
  cases (show u=Value.ref a from rx);obtain⟨_,_,vs,_,p⟩:=(show cA X.prog X.w H s.heap a (.dK kvs)from I.hok a _ ea);obtain⟨o,es,ep,h1,h2,_⟩:=p;exact rY adF I.kIn #[o,h1,h2.1] e (fun z=>nomatch z) h
 | @dT a kvs ea =>
  cases (show u=Value.ref a from rx);obtain⟨_,_,xs,_,o,es,ep,h1,h2,_⟩:=(show cA X.prog X.w H s.heap a (.dT kvs)from I.hok a _ ea);exact rY adF I.kIn #[o,h1,h2.1] e (fun z=>nomatch z) h
 | @ins a C dx fs ea cl ha hn htk hm =>
  cases (show u=Value.ref a from rx);obtain⟨mA,O,_⟩:=Qz I.hok ea;obtain⟨od,J,_⟩:=O.look;exact rY (PySem.W.kitx_own (cl.get _) cl.hd ha hn htk hm) I.kIn J e (fun z=>nomatch z) h
end
structure fD(k:Nat)(A:aN):Prop where
 hd:A.handled=none
 dp:A.depth+3*k+5<recursionLimit
 un:A.units+16*k+200<cLine
theorem fD.mono{j k:Nat}{A:aN}(r:fD k A)(h:j<=k):fD j A:=#[r.hd,by have:=r.dp;lia,by have:=r.un;lia]
theorem fD.deeper{k:Nat}{A:aN}(r:fD (k+1) A)(env:Env):fD k (A.deeper env):=
 #[r.hd,by have:=r.dp;show A.depth+1+3*k+5<_;lia,by have:=r.un;show A.units+3+16*k+200<_;lia]
theorem fD.in1{k:Nat}{A:aN}(r:fD (k+1) A):fD k A.in1:=
 #[r.hd,by have:=r.dp;show A.depth+3*k+5<_;lia,by have:=r.un;show A.units+1+16*k+200<_;lia]
theorem Za{A:aN}{C:Addr}{us:List Value}{kw:List (Str × Value)}:(A.under (.builtin "type.__call__" #[.ref C::us,kw])).depth=A.depth+1:=by
 first|rfl|simp[Yt,Code.weight,Code.isCreation,Code.isGuard,Code.isCaller,afo,YH,guardIds]
theorem Zb{A:aN}{C:Addr}{us:List Value}{kw:List (Str × Value)}:(A.under (.builtin "type.__call__" #[.ref C::us,kw])).units=A.units+1:=by
 first|rfl|simp[Yt,Code.cUnits,afo,YH]
theorem fD.make{k:Nat}{A:aN}(r:fD (k+1) A)(C:Addr)(us:List Value)(kw:List (Str × Value)):fD k (A.under (.builtin "type.__call__" #[.ref C::us,kw])):=
 #[r.hd,by have:=r.dp;rw[Za];lia,by have:=r.un;rw[Zb];lia]
theorem fD.depth{k:Nat}{A:aN}(r:fD k A):A.depth<recursionLimit:=by have:=r.dp;lia
theorem fD.units{k:Nat}{A:aN}(r:fD k A):A.units+64<cLine:=by have:=r.un;lia
@[reducible] def agb:TA:=fun _ H Q=>Q [] H
@[reducible] def aaB(ta:TE)(tr:TA):TA:=fun σ H Q=>ta σ H fun x H1=>tr σ H1 fun xs H2=>Q (x::xs) H2
section
variable{X:Cx}{e:Expr}{es:List Expr}{te:TE}{t:TA}{pos:Pos}
theorem dB:PA X [] agb:=fun _ _ _ _ H Q I h=>Ih #[[],H,I,.nil,h]
theorem aP(ha:PE X e te)(hr:PA X es t)(hs:bh (e::es) X.env=(false,eval e X.env)::bh es X.env:=by rfl):PA X (e::es) (aaB te t):=by
 intro pos pins s σ H Q I h;rw[hs];show wpAny _ _ (spliced ((false,eval e X.env)::dz pos (bh es X.env))) _ _ s
 k_dat (Ig,ha,u) "z"
 walk_at "B"
 exact thn (hr pos pins s1 σ H1 _ I1 q1) fun us s2 ⟨xs,H2,I2,r2,q2⟩=>#[x::xs,H2,I2,.cons r1 r2,q2]
def tTup(t:TA):TE:=fun σ H Q=>t σ H fun xs H1=>xs.length<=sizeLine/\∀p,H1 p=none->Q (.ref p) (upd H1 p (.tup xs))
def tLst(t:TA):TE:=fun σ H Q=>t σ H fun xs H1=>xs.length<=sizeLine/\∀p,H1 p=none->Q (.ref p) (upd H1 p (.lst xs))
theorem alp{x1}(h:PA X es t):PE X (.Tuple es x1 pos) (tTup t):=by
 intro pins s σ H Q I hq;refine wpAny_Tuple_spliced (thn (h pos pins s σ H _ I hq) fun us s1 ⟨xs,H1,I1,r,z,q⟩=>#[by rwa[<-r.length],?_]);have hf:H1 s1.heap.objs.size=none:=I1.hok.fresh (aO _);show#[.ref s1.heap.objs.size,upd H1 s1.heap.objs.size (.tup xs),I1.laid (t':=s1.toks) (fun b u e=>cX _ e) (aO _) ?_,rfl,q _ hf];show#[z,us,r,#[_,dZ _ rfl,rfl,_,rfl]]
theorem QB(h:PA X es t):PE X (.List es pos) (tLst t):=by
 intro pins s σ H Q I hq;refine wpAny_List_spliced (thn (h pos pins s σ H _ I hq) fun us s1 ⟨xs,H1,I1,r,z,q⟩=>#[by rwa[<-r.length],?_]);have hf:H1 s1.heap.objs.size=none:=I1.hok.fresh (aO _);show#[.ref s1.heap.objs.size,upd H1 s1.heap.objs.size (.lst xs),I1.laid (t':=s1.toks) (fun b u e=>cX _ e) (aO _) ?_,rfl,q _ hf];show#[z,us,0,r,dZ _ rfl]
end
abbrev Sp:=List V->Hp->VK->XK->Prop
abbrev CXT:=List Env->Hp->Shared->XK->Value->Shared->Prop
structure K5(P:aG)(w:World)(K:aF)(mg:Str->Option Value)(base:Heap)(A:aN)(outer:List Env)(s:Shared)(H:Hp):Prop where
 frames:A.frames=some outer
 mod:Mod K mg base
 bs:∀b o,base.get? b=some o->s.heap.get? b=some o/\H b=none
 bsz:base.objs.size<=s.heap.objs.size
 xu:s.heap.FunFrames base outer
 frf:∀b∈frs outer,H b=none
 hok:HOk P w H s.heap
 bare:o8 s.gens
def CE(outer:List Env)(P:aG)(w:World)(H:Hp)(s:Shared)(Q:VK)(u:Value)(s':Shared):Prop:=
 ∃v H',s'.os=s.os/\o8 s'.gens/\Un (frs outer) [] H H' s.heap s'.heap/\HOk P w H' s'.heap/\RelV v u/\Q v H'
def CR(CX:CXT)(outer:List Env)(P:aG)(w:World)(H:Hp)(s:Shared)(Q:VK)(E:XK)(r:lW)(s':Shared):Prop:=
 match r with
 | .ok (.ret u)=>CE outer P w H s Q u s'
 | .ok _=>False
 | .error e=>CX outer H s E e s'
structure nA(P:aG)(w:World)(K:aF)(mg:Str->Option Value)(base:Heap)(CX:CXT)(k:Nat)(f:Addr)(fd:FuncData)(ps:List Str)(sp:Sp):Prop where
 len:∀vs H Q E,sp vs H Q E->vs.length=ps.length
 run:∀(A:aN)(outer:List Env)(s:Shared)(H:Hp)(args:Args)(us:List Value)(vs:List V)(Q:VK)(E:XK),fD k A->K5 P w K mg base A outer s H->Ab s fd args (ps.zip us)->Vals vs us->sp vs H Q E ->
  fC (model P w) A (.call (.ref f) args) (CR CX outer P w H s Q E) s
theorem nA.imp{P:aG}{w:World}{K:aF}{mg:Str->Option Value}{base:Heap}{CX:CXT}{k:Nat}{f:Addr}{fd:FuncData}{ps:List Str}{sp sp':Sp}(F:nA P w K mg base CX k f fd ps sp)
  (h:∀vs H Q E,sp' vs H Q E->sp vs H Q E):nA P w K mg base CX k f fd ps sp':=
 #[fun vs H Q E q=>F.len vs H Q E (h _ _ _ _ q),fun A outer s H args us vs Q E hr he hb hv hs=>F.run A outer s H args us vs Q E hr he hb hv (h _ _ _ _ hs)]
theorem K5.make{P:aG}{w:World}{K:aF}{mg:Str->Option Value}{base:Heap}{A:aN}{outer:List Env}{s:Shared}{H:Hp}(e:K5 P w K mg base A outer s H)(C:Addr)(us:List Value)(kw:List (Str × Value)):
  K5 P w K mg base (A.under (.builtin "type.__call__" #[.ref C::us,kw])) outer s H:=#[by first|exact e.frames|(simpa[Yt,Code.envs,YH,pushEnvs]using e.frames),e.mod,e.bs,e.bsz,e.xu,e.frf,e.hok,e.bare]
theorem K5.in1{P:aG}{w:World}{K:aF}{mg:Str->Option Value}{base:Heap}{A:aN}{outer:List Env}{s:Shared}{H:Hp}(e:K5 P w K mg base A outer s H):
  K5 P w K mg base A.in1 outer s H:=#[e.frames,e.mod,e.bs,e.bsz,e.xu,e.frf,e.hok,e.bare]
section
variable{X:Cx}{pins:List (Addr × Obj)}{σ:St}{H:Hp}{s s':Shared}
theorem Inv.env0(I:Inv X pins σ H s):K5 X.prog X.w X.K X.mg X.base X.A X.stack s H:=
 #[I.ok.frames,I.ok.mod,I.bs,bW I.ok.bsz I.sz,I.stack,I.vI,I.hok,I.bare]
theorem Inv.after{Q:VK}{u:Value}(I:Inv X pins σ H s)(h:CE X.stack X.prog X.w H s Q u s'):EP X pins σ Q u s':=by
 obtain⟨v,H',os,bare,un,hok,r,q⟩:=h;obtain⟨hh,g,d,t,os'⟩:=s';obtain rfl:os'=s.os:=os;show#[v,H',I.call (h':=hh) (g':=g) (d':=d) (t':=t) (ch:=[]) un hok bare (fun b z=>absurd z (by simp)),r,q]
end
@[reducible] def agc(sp:Sp)(dvs:List V)(E:XK)(t:TA):TE:=fun σ H Q=>t σ H fun vs H1=>sp (vs++dvs) H1 Q E
def ajn(C:Addr)(sp:Sp)(dvs:List V)(E:XK)(t:TA):TE:=fun σ H Q=>t σ H fun vs H1=>∀x dx,H1 x=none->H1 dx=none->dx≠x ->
 sp (.ref x::(vs++dvs)) (upd (upd H1 dx (.own x)) x (.ins C dx [])) (fun v H2=>v=.non/\Q (.ref x) H2) E
def Binds(K:aF)(fd:FuncData)(ps:List Str)(ds:List Value):Prop:=
 ∀(s:Shared)(us:List Value),K.In s.heap->(us++ds).length=ps.length->Ab s fd #[us,[]] (ps.zip (us++ds))
theorem Binds.all{K:aF}{fd:FuncData}{ps:List Str}(h:∀us:List Value,us.length=ps.length->wU fd #[us,[]]=pure (ps.zip us)):Binds K fd ps []:=fun s us _ hl=>by
 rw[pO]at hl ⊢;exact .of_eq (h us hl)
def Passes(CX:CXT)(X:Cx)(E:XK):Prop:=∀(pins:List (Addr × Obj)) (σ:St) (H:Hp) (s:Shared) (e:Value) (s':Shared),Inv X pins σ H s->CX X.stack H s E e s'->X.xe e s'
section
variable{X:Cx}{CX:CXT}{k:Nat}{f C:Addr}{fd:FuncData}{ps:List Str}{sp:Sp}{dvs:List V}{ds:List Value}{E:XK}{x m:Str}{p pos apos:Pos}{e o:Expr}{es:List Expr}{ta:TE}{t:TA}
theorem agd{pins:List (Addr × Obj)}{σ:St}{H:Hp}{s:Shared}{Q:VK}{us:List Value}{vs:List V}(F:nA X.prog X.w X.K X.mg X.base CX k f fd ps sp)(hr:fD k X.A)(hb:Binds X.K fd ps ds)(hd:Vals dvs ds)(hx:Passes CX X E)
  (I:Inv X pins σ H s) (r:Vals vs us) (h:sp (vs++dvs) H Q E):wpAny (model X.prog X.w) X.A (call (.ref f) us) (EP X pins σ Q) X.xe s:=by
 have r2:Vals (vs++dvs) (us++ds):=r.append hd;have hl:(us++ds).length=ps.length:=by rw[<-r2.length];exact F.len _ _ _ _ h
 refine lR (zW (F.run X.A X.stack s H #[us,[]] (us++ds) (vs++dvs) Q E hr I.env0 (hb s us I.kIn hl) r2 h) fun r s' hq=>?_);cases r with
 |error e=>exact hx pins σ H s e s' I hq
 |ok fl =>
  cases fl with
  |ret u=>exact I.after hq
  |next=>exact fP hq
  |brk=>exact fP hq
  |cont=>exact fP hq
theorem aia(F:nA X.prog X.w X.K X.mg X.base CX k f fd ps sp)(hr:fD k X.A)(hg:Gl X x)(hm:X.mg x=some (.ref f))(hk:lQ X.K (.ref f)=true)(hb:Binds X.K fd ps ds)(hd:Vals dvs ds)(hx:Passes CX X E)
  (ha:PA X (e::es) t) (hdb:(x == ("__debug__" : Str))=false:=by decide) (he:bh (e::es) X.env=(false,eval e X.env)::bh es X.env:=by rfl) (hpl:(dz pos (bh es X.env)).any (·.1)=false:=by rfl):
  PE X (.Call (.Name x p) (e::es) [] pos) (agc sp dvs E t):=by
 walk_at "s"
 refine yj (oF I hg hm ?_ hdb);refine Oa (h₀:=X.base) I.ok.mod.kin hk (thn (ha pos pins s σ H _ I h) fun us s1 ⟨vs,H1,I1,r,q⟩=>#[I1.kIn,?_]) he hpl;exact agd F hr hb hd hx I1 r q
theorem T8(F:nA X.prog X.w X.K X.mg X.base CX k f fd ps sp)(hr:fD k X.A)(hg:Gl X x)(hm:X.mg x=some (.ref f))(hk:lQ X.K (.ref f)=true)(hb:Binds X.K fd ps ds)(hd:Vals dvs ds)(hx:Passes CX X E)
  (hdb:(x == ("__debug__" : Str))=false:=by decide):PE X (.Call (.Name x p) [] [] pos) (agc sp dvs E agb):=by
 walk_at "s"
 refine yj (oF I hg hm ?_ hdb);exact PySem.W.callWith_K0 I.kIn hk (agd (us:=[]) F hr hb hd hx I .nil h)
structure Mk(K:aF)(C f:Addr):Prop where
 makes:Oe K C=true
 init:eE K (.ref C) "__init__" = some (some (.ref f))
 fn:Oi K (.ref f)=true
 kp:lQ K (.ref C)=true
theorem agf{pins:List (Addr × Obj)}{σ:St}{H:Hp}{s:Shared}{Q:VK}{us:List Value}{vs:List V}(M:Mk X.K C f)(F:nA X.prog X.w X.K X.mg X.base CX k f fd ps sp)(hr:fD (k+1) X.A)(hb:Binds X.K fd ps ds)(hd:Vals dvs ds)
  (hx:Passes CX X E) (I:Inv X pins σ H s) (r:Vals vs us)
  (h:∀x dx,H x=none->H dx=none->dx≠x->sp (.ref x::(vs++dvs)) (upd (upd H dx (.own x)) x (.ins C dx [])) (fun v H2=>v=.non/\Q (.ref x) H2) E):
  wpAny (model X.prog X.w) X.A (call (.ref C) us) (EP X pins σ Q) X.xe s:=by
 have hq:=h (s.heap.objs.size+1) s.heap.objs.size (I.hok.fresh (xq _)) (I.hok.fresh (aO _)) (bZ (wZ _));have I2:=Inv.made (C:=C) I;have r2:Vals (V.ref (s.heap.objs.size+1)::(vs++dvs)) (Value.ref (s.heap.objs.size+1)::(us++ds)):=.cons rfl (r.append hd);have hl:(Value.ref (s.heap.objs.size+1)::us++ds).length=ps.length:=by
  have e:=r2.length;rw[F.len _ _ _ _ hq]at e;exact e.symm
 refine lR (af8 (f:=f) I.kIn M.makes M.init (beq_iff_eq.mp M.fn) (zW (F.run _ X.stack _ _ #[Value.ref (s.heap.objs.size+1)::us,[]] (Value.ref (s.heap.objs.size+1)::(us++ds)) _ _ E (hr.make C us [])
  (I2.env0.make C us []) (hb _ (Value.ref (s.heap.objs.size+1)::us) I2.kIn hl) r2 hq) fun r s' hq'=>?_))
 cases r with
 |error e=>exact hx pins σ _ _ e s' I2 hq'
 |ok fl =>
  cases fl with
  |ret u =>
   obtain⟨v,H',I3,rv,ev,q3⟩:=I2.after hq';subst ev;show#[rv,#[V.ref (s.heap.objs.size+1),H',I3,rfl,q3]]
  |next=>exact fP hq'
  |brk=>exact fP hq'
  |cont=>exact fP hq'
theorem aib(M:Mk X.K C f)(F:nA X.prog X.w X.K X.mg X.base CX k f fd ps sp)(hr:fD (k+1) X.A)(hg:Gl X x)(hm:X.mg x=some (.ref C))(hb:Binds X.K fd ps ds)(hd:Vals dvs ds)(hx:Passes CX X E)
  (ha:PA X (e::es) t) (hdb:(x == ("__debug__" : Str))=false:=by decide) (he:bh (e::es) X.env=(false,eval e X.env)::bh es X.env:=by rfl) (hpl:(dz pos (bh es X.env)).any (·.1)=false:=by rfl):
  PE X (.Call (.Name x p) (e::es) [] pos) (ajn C sp dvs E t):=by
 walk_at "s"
 refine yj (oF I hg hm ?_ hdb);refine Oa (h₀:=X.base) I.ok.mod.kin M.kp (thn (ha pos pins s σ H _ I h) fun us s1 ⟨vs,H1,I1,r,q⟩=>#[I1.kIn,?_]) he hpl;exact agf M F hr hb hd hx I1 r q
end
section
variable{X:Cx}{CX:CXT}{k:Nat}{f C:Addr}{fd:FuncData}{ps ks:List Str}{sp:Sp}{E:XK}{x m:Str}{p pos apos kpos:Pos}{e o:Expr}{es:List Expr}{kws:List lU}{te ta:TE}{t tk:TA}{nm:Option Str}
structure KBinds(K:aF)(fd:FuncData)(ps ks:List Str)(g:List Value->List Value->List Value)(gV:List V->List V->List V):Prop where
 to:∀(s:Shared)(us ws:List Value),K.In s.heap->(g us ws).length=ps.length->Ab s fd #[us,ks.zip ws] (ps.zip (g us ws))
 rel:∀{vs:List V}{us:List Value}{zs:List V}{ws:List Value},Vals vs us->Vals zs ws->Vals (gV vs zs) (g us ws)
variable{g:List Value->List Value->List Value}{gV:List V->List V->List V}
end
structure aJ(N P:List Str)(sc:Scope):Prop where
 kind:sc.kind=.function
 co:sc.isCoroutine=false
 gen:sc.isGenerator=false
 nd:N.Nodup
 pre:N.take P.length=P
 par:∀x∈P,sc.names.lookup x=some .local\/sc.names.lookup x=some .cell
 alq:∀y∈sc.names,y.2≠.free
theorem Mw{kindOf:Str->Option wV}{x:Str}:∀{binds:List (Str × Value)} {m:Str->Option Value},(∀v,(x,v)∉binds)->bindL kindOf binds m x=m x
 |[],_,_=>rfl
 |(n,v)::r,m,h=>by
  unfold bindL;rw[Mw fun w hw=>h w (cR _ hw)];split
  ·have:x≠n:=by rintro rfl;exact h v bV
   simp[this]
  ·rfl
theorem Mx{kindOf:Str->Option wV}{x:Str}:∀{binds:List (Str × Value)} {m:Str->Option Value},(∀v,(x,v)∉binds)->bindC kindOf binds m x=m x
 |[],_,_=>rfl
 |(n,v)::r,m,h=>by
  unfold bindC;rw[Mx fun w hw=>h w (cR _ hw)];split
  ·rfl
  ·have:x≠n:=by rintro rfl;exact h v bV
   simp[this]
theorem Mz{kindOf:Str->Option wV}{x:Str}{v:Value}:∀{P:List Str}{vs:List Value}{i:Nat}{m:Str->Option Value},P.Nodup->P[i]? = some x->vs[i]? = some v->kindOf x=some .local ->
  bindL kindOf (P.zip vs) m x=some v
 |[],_,_,_,_,h,_,_=>by simp at h
 |_::_,[],_,_,_,_,h,_=>by simp at h
 |p::P,w::vs,0,m,nd,h1,h2,hk=>by
  simp at h1 h2;subst h1;subst h2;show bindL kindOf ((p,w)::P.zip vs) m p=_;unfold bindL;rw[Mw fun v hv=>(fK.mp nd).1 (NZ hv).1,if_pos hk];simp
 |p::P,w::vs,i+1,m,nd,h1,h2,hk=>by
  show bindL kindOf ((p,w)::P.zip vs) m x=_;unfold bindL;exact Mz (i:=i) (fK.mp nd).2 (by simpa using h1) (by simpa using h2) hk
theorem MF{kindOf:Str->Option wV}{x:Str}{v:Value}:∀{P:List Str}{vs:List Value}{i:Nat}{m:Str->Option Value},P.Nodup->P[i]? = some x->vs[i]? = some v->kindOf x≠some .local ->
  bindC kindOf (P.zip vs) m x=some v
 |[],_,_,_,_,h,_,_=>by simp at h
 |_::_,[],_,_,_,_,h,_=>by simp at h
 |p::P,w::vs,0,m,nd,h1,h2,hk=>by
  simp at h1 h2;subst h1;subst h2;show bindC kindOf ((p,w)::P.zip vs) m p=_;unfold bindC;rw[Mx fun v hv=>(fK.mp nd).1 (NZ hv).1,if_neg hk];simp
 |p::P,w::vs,i+1,m,nd,h1,h2,hk=>by
  show bindC kindOf ((p,w)::P.zip vs) m x=_;unfold bindC;exact MF (i:=i) (fK.mp nd).2 (by simpa using h1) (by simpa using h2) hk
def start(N:List Str)(vs:List V):St:=vs.map some++tR (N.length-vs.length) none
def jx(CX:CXT)(P:aG)(w:World)(K:aF)(mg:Str->Option Value)(base:Heap)(N:List Str)(qual:Str)(scope:Scope)(f:Addr)(cd:Value)(A:aN)(outer:List Env)(s:Shared)(H:Hp)(E:XK):Cx where
 prog:=P
 w:=w
 K:=K
 mg:=mg
 base:=base
 A:=A.deeper (eV qual scope s.heap.objs.size f cd)
 N:=N
 s₀:=s
 H₀:=H
 env:=eV qual scope s.heap.objs.size f cd
 outer:=outer
 stack:=eV qual scope s.heap.objs.size f cd::outer
 ex:=[]
 calm:=true
 fn:=fun _=>true
 pn:=[]
 xe:=fun e s'=>wpAny (model P w) (A.deeper (eV qual scope s.heap.objs.size f cd)) (Pn (eV qual scope s.heap.objs.size f cd) e) (fun _ s''=>CX outer H s E e s'') (fun e' s''=>CX outer H s E e' s'') s'
theorem T9{sc:Scope}{n:Nat}{x:Str}(h:sc.names.lookup x=some .cell):∃c,(XR n sc.names []).lookup x=some c:=by
 have q:=adB sc.names n [] (.inl h);exact Yj.mp q
theorem ab7{CX:CXT}{P:aG}{w:World}{K:aF}{mg:Str->Option Value}{base:Heap}{N ps:List Str}{qual:Str}{scope:Scope}{f:Addr}{cd:Value}{A:aN}{outer:List Env}{s s1:Shared}{H:Hp}{E:XK}{us:List Value}{vs:List V}
  (S:aJ N ps scope) (hd:A.handled=none) (e0:K5 P w K mg base A outer s H) (hl:vs.length=ps.length) (r:Vals vs us)
  (x:InCallC s s.heap.objs.size (bindL (eV qual scope s.heap.objs.size f cd).kindOf (ps.zip us) fun _=>none) (XR (s.heap.objs.size+1) scope.names []) (bindC (eV qual scope s.heap.objs.size f cd).kindOf (ps.zip us) fun _=>none) s1):
  Inv (jx CX P w K mg base N qual scope f cd A outer s H E) [] (start N vs) H s1:=by
 have hpl:ps.length<=N.length:=by have:=congrArg lO S.pre;rw[fJ]at this;lia
 obtain ⟨h1,tk,rfl,hk⟩:=x.done;have noA:∀ b:Addr,b∉(jx CX P w K mg base N qual scope f cd A outer s H E).ex:=fun b z=>absurd (show b∈([]:List Addr) from z) (by simp);show#[#[e0.mod,S.kind,rfl,rfl,aO _,fun y z c h1 h2=>?_,fun y hy=>?_,fun y c _ h=>?_,fun _=>hd,Around.frames_deeper e0.frames,.inr #[rfl,rfl],fun b z=>absurd z (noA b),e0.bs,e0.bsz,fun b _ _=>noA b,fun b z=>absurd z (noA b),e0.xu,e0.frf],
  rfl,e0.bare,Un.kept hk,#[_,x.toInCall.ns,fun i y v h1 h2 h3=>?_],fun y c h=>#[_,x.cell y c h],e0.hok.fresh (aO _),fun y c h=>?_,fun p hp=>absurd (show p∈([]:List (Addr × Obj)) from hp) (by simp),e0.hok.kept hk,?_]
 ·exact name_of_addr x.apart (zR h1) (zR h2)
 ·have hy:scope.names.lookup y=some .cell\/scope.names.lookup y=some .free:=hy;rcases hy with hy|hy
  ·exact T9 hy
  ·exact absurd rfl (S.alq _ (zR hy))
 ·exact fu (x.above y c (zR h))
 ·have hi:i<vs.length:=by
   unfold start at h2;by_cases hi:i<vs.length
   ·exact hi
   ·rw[Gm (by simpa using hi)]at h2;rw[adh]at h2;split at h2 <;> cases h2
  have ha:vs[i]? = some v:=by
   unfold start at h2;rw[Gn (by simpa using hi),cB]at h2;cases e:vs[i]? with
   |none=>rw[e]at h2;cases h2
   |some a=>rw[e]at h2;cases h2;rfl
  obtain⟨u,hu,rv⟩:=r.get ha;have hp:ps[i]? = some y:=by
   rwa[<-S.pre,Gs (by lia)]
  have ndP:ps.Nodup:=by rw[<-S.pre];exact S.nd.sublist (List.take_sublist _ _)
  show#[u,rv,?_];rcases S.par y (mv hp)with k|k
  ·exact .inl #[k,Mz ndP hp hu k]
  ·obtain⟨c,e⟩:=T9 (n:=s.heap.objs.size+1) k;refine .inr #[.inl k,c,e,?_];have q:=x.cell y c e;rwa[MF ndP hp hu (by show scope.names.lookup y≠_;rw[k];decide)]at q
 ·exact e0.hok.fresh (fu (x.above y c (zR h)))
 ·unfold start;show _=N.length;rw[cj,aB,zJ];lia
theorem ajo{CX:CXT}{P:aG}{w:World}{K:aF}{mg:Str->Option Value}{base:Heap}{k:Nat}{f:Addr}{name qual:Str}{params:Arguments}{body:List Stmt}{scope:Scope}{dV kV doc pm cdv ct oc:Value}{an od:Option Addr}
  {osl:Array (Option Value)} {N ps:List Str} {sp:Sp} (lk:K.lookup f=some #[oc,od,.func (iB name qual params body scope dV kV doc pm an cdv ct),osl]) (hcd:G9 K cdv qual=true) (S:aJ N ps scope)
  (len:∀vs H Q E,sp vs H Q E->vs.length=ps.length)
  (hbody:∀ (A:aN) (outer:List Env) (s:Shared) (H:Hp) (vs:List V) (Q:VK) (E:XK),fD k (A.deeper (eV qual scope s.heap.objs.size f cdv))->sp vs H Q E ->
   ∃ t,PSs (jx CX P w K mg base N qual scope f cdv A outer s H E) body t/\t { nx:=fun _ H'=>Q .non H',rt:=Q } (start N vs) H) :
  nA P w K mg base CX (k+1) f (iB name qual params body scope dV kV doc pm an cdv ct) ps sp:=by
 show#[len,fun A outer s H args us vs Q E hr e0 hb r hsp=>?_];have hl:=len _ _ _ _ hsp;have KX:K.In s.heap:=e0.mod.kin.keeps fun b o e=>(e0.bs b o e).1;have lim:s.heap.NoLimit:=e0.mod.nolimit.keeps fun b o e=>(e0.bs b o e).1;have hkind:∀y∈ps.zip us,scope.names.lookup y.1=some .local\/(scope.names.lookup y.1=some .cell/\((XR (s.heap.objs.size+1) scope.names []).lookup y.1).isSome=true):=fun⟨n,v⟩ hy=>by
  rcases S.par n (NZ hy).1 with q|q
  ·exact .inl q
  ·exact .inr #[q,adB _ _ _ (.inl q)]
 refine codeAny_call_function hr.depth (KX _ _ lk) rfl S.co S.gen rfl (PySem.W.codeRec_of KX hcd) (hb _ _ _ _ ?_);refine wpAny_newFunctionEnv_cells S.kind hkind fun env he s1 x=>?_;subst he;show#[lim.keeps x.toInCall.keep,codeAny_func ?_];obtain⟨t,ht,hq⟩:=hbody A outer s H vs Q E (hr.deeper _) hsp;have I:Inv (jx CX P w K mg base N qual scope f cdv A outer s H E) [] (start N vs) H s1:=ab7 S hr.hd e0 hl r x;refine cO (ht [] s1 (start N vs) H _ I hq) (fun fl s' hs=>?_) fun e s' hs=>hs;have fin:∀{σ':St}{H':Hp}{v:V}{u:Value},Inv (jx CX P w K mg base N qual scope f cdv A outer s H E) [] σ' H' s'->RelV v u->Q v H'->CE outer P w H s Q u s':=
  fun {σ' H' v u} J rv q=>#[v,H',J.os,J.bare,J.base,J.hok,rv,q]
 cases fl with
 |ret u =>
  obtain⟨v,σ',H',J,rv,q⟩:=hs;exact fin J rv q
 |next =>
  obtain⟨σ',H',J,q⟩:=hs;exact fin (v:=V.non) (u:=Value.none) J rfl q
 |brk =>
  obtain⟨_,_,_,q⟩:=hs;exact fP q
 |cont =>
  obtain⟨_,_,_,q⟩:=hs;exact fP q
section
variable{X:Cx}{x:Str}{p pos:Pos}{e:Expr}{es:List Expr}{t:TA}{id T:String}{r:List V->Hp->VK->Prop}
@[reducible] def tCB(r:List V->Hp->VK->Prop)(t:TA):TE:=fun σ H Q=>t σ H fun vs H1=>r vs H1 Q
theorem cN(hc:fU X (.builtin id) r)(hg:Gl X x)(hm:X.mg x=none)(hv:qL x=some (.builtin id))(ha:PA X (e::es) t)(hn:x ≠ "__name__" := by decide)(hdb:(x == ("__debug__" : Str))=false:=by decide)
  (he:bh (e::es) X.env=(false,eval e X.env)::bh es X.env:=by rfl) (hpl:(dz pos (bh es X.env)).any (·.1)=false:=by rfl):PE X (.Call (.Name x p) (e::es) [] pos) (tCB r t):=by
 walk_at "s"
 refine yj (iU I hg hm hv ?_ hn hdb);exact aeK (thn (ha pos pins s σ H _ I h) fun us s1 ⟨vs,H1,I1,r1,q1⟩=>hc pins s1 σ H1 vs us Q I1 r1 q1) he hpl
theorem vK(hc:fU X (.type T) r)(hg:Gl X x)(hm:X.mg x=none)(hv:qL x=some (.type T))(ha:PA X (e::es) t)(hn:x ≠ "__name__" := by decide)(hdb:(x == ("__debug__" : Str))=false:=by decide)
  (he:bh (e::es) X.env=(false,eval e X.env)::bh es X.env:=by rfl) (hpl:(dz pos (bh es X.env)).any (·.1)=false:=by rfl):PE X (.Call (.Name x p) (e::es) [] pos) (tCB r t):=by
 walk_at "s"
 refine yj (iU I hg hm hv ?_ hn hdb);exact vY (thn (ha pos pins s σ H _ I h) fun us s1 ⟨vs,H1,I1,r1,q1⟩=>hc pins s1 σ H1 vs us Q I1 r1 q1) he hpl
end
end L2
namespace HT
open PySem PyProof.Rows
section
open PySem.SeqAt
open PySem.AutoSeq1 (wpAny_loadPart')
open PySem.MeetsSeq PySem.MeetsSeq2 PySem.MeetsSeq3
end
section
variable{prog:aG}{w:World}{A:aN}{E:Value->Shared->Prop}{s:Shared}
def sIx(n d:Nat):Option Int->Nat
 |none=>d
 |some v=>if v<0 then(v+(n:Int)).toNat else min v.toNat n
theorem Ua(n d:Nat):sIx n d none=d:=rfl
theorem Ga(n d k:Nat):sIx n d (some (k:Int))=min k n:=by
 show(if(k:Int)<0 then((k:Int)+(n:Int)).toNat else min (k:Int).toNat n)=min k n;rw[if_neg (by lia),Yx]
end
end HT
namespace L2
open PySem PySem.Spec PyProof.Rows
abbrev TO:=St->Hp->(Option Int->Hp->Prop)->Prop
def PO(X:Cx)(e:Option Expr)(t:TO):Prop:=
 ∀(pins:List (Addr × Obj)) (s:Shared) (σ:St) (H:Hp) (Q:Option Int->Hp->Prop),Inv X pins σ H s->t σ H Q ->
  wpAny (model X.prog X.w) X.A (evalPart e X.env) (fun u s'=>∃o H',Inv X pins σ H' s'/\IsPart u o/\Q o H') X.xe s
def aic:TO:=fun _ H Q=>Q none H
def tPart(t:TE):TO:=fun σ H Q=>t σ H fun x H1=>∃i,x=.int i/\Q (some i) H1
theorem intsAre_of{ns:List Int}:∀{us:List Value},Vals (ns.map V.int) us->uo us ns:=by
 induction ns with
 |nil=>intro us r;rw[zP]at r;cases r;exact .nil
 |cons n ns ih =>
  intro us r;rw[dM]at r;cases r with
  |cons r1 r2 =>
   obtain⟨t,e⟩:=r1;subst e;exact .cons n t (ih r2)
section
variable{X:Cx}{e:Expr}{te:TE}{lo hi:Option Expr}{tl th:TO}{pos p2:Pos}
theorem aie:PO X none aic:=by
 walk_at "s"
 rw[aef];exact aK #[none,H,I,.none,h]
theorem aif(h:PE X e te):PO X (some e) (tPart te):=by
 intro pins s σ H Q I hw;rw[evalPart_some];refine thn (h pins s σ H _ I hw) fun u s1 zq=>?_
 walk_at "B"
 obtain⟨i,rfl,q⟩:=q1
 k_dat (t,r1) "E"
 show#[some i,H1,I1,.int i t,q]
def SlR(X:Cx)(r:V->Option Int->Option Int->Hp->VK->Prop):Prop:=
 ∀(pins:List (Addr × Obj)) (s:Shared) (σ:St) (H:Hp) (x:V) (v vl vu:Value) (lo hi:Option Int) (sl:Addr) (Q:VK),Inv X pins σ H s->RelV x v->s.heap.IsSliceOf sl vl vu .none->IsPart vl lo->IsPart vu hi->r x lo hi H Q ->
  ∃T id,uc (.type T) "__getitem__" = pure (some (.builtin id))/\s.TypeIs v T/\wpAny (model X.prog X.w) X.A (Hu v (.ref sl)) (EP X pins σ Q) X.xe s
def tSl(r:V->Option Int->Option Int->Hp->VK->Prop)(te:TE)(tl th:TO):TE:=fun σ H Q=>te σ H fun x H1=>tl σ H1 fun l H2=>th σ H2 fun u H3=>r x l u H3 Q
theorem agg{r:V->Option Int->Option Int->Hp->VK->Prop}(hr:SlR X r)(he:PE X e te)(hl:PO X lo tl)(hu:PO X hi th):PE X (.Subscript e (.Slice lo hi none p2) pos) (tSl r te tl th):=by
 walk_at "s"
 k_dat (Yl,he,v) "z"
 walk_at "B"
 refine wpAny_Slice (thn (hl pins s1 σ H1 _ I1 q1) fun vl s2 ⟨l,H2,I2,pl,q2⟩=>thn (hu pins s2 σ H2 _ I2 q2) fun vu s3 zq=>?_);obtain⟨u,H3,I3,pu,q3⟩:=zq;rw[aef];refine aK ?_;have I4:Inv X pins σ H3 { s3 with heap:=s3.heap.push { cls:=.type "slice",data:=.fields [vl,vu,.none].toArray } }:=I3.kept (t':=s3.toks) fun b ob q=>cX _ q;obtain⟨T,id,hT,ht,hg⟩:=hr pins { s3 with heap:=s3.heap.push { cls:=.type "slice",data:=.fields [vl,vu,.none].toArray } } σ H3 x v vl vu l u s3.heap.objs.size Q I4 r1 (afy ..) pl pu q3;show wpAny (model X.prog X.w) X.A (Qe e (.Slice lo hi none p2) v (.ref s3.heap.objs.size)) (EP X pins σ Q) X.xe { s3 with heap:=s3.heap.push { cls:=.type "slice",data:=.fields [vl,vu,.none].toArray } };exact Ym (ops:=[.ref s3.heap.objs.size,v]) ht hT hg (by with_unfolding_all rfl)
def pC(xs:List V)(lo hi:Option Int):List V:=(xs.drop (HT.sIx xs.length 0 lo)).take (HT.sIx xs.length xs.length hi-HT.sIx xs.length 0 lo)
theorem Ub(xs:List V)(lo hi:Option Int):(pC xs lo hi).length<=xs.length:=by
 unfold pC;rw[fJ,GC];lia
end
def ixN(n:Nat)(i:Int):Option Nat:=if 0<=i then(if i<n then some i.toNat else none)else if -(n:Int)<=i then some (i+n).toNat else none
def atI{α:Type}(xs:List α)(i:Int):Option α:=(ixN xs.length i).bind fun j=>xs[j]?
theorem aaC{n:Nat}{i:Int}{j:Nat}(h:ixN n i=some j):seqIndex? i n=some j/\j<n /\ -(n:Int)<=i/\i<n:=by
 unfold ixN at h;by_cases h0:0<=i
 ·rw[if_pos h0]at h;by_cases h1:i<n
  ·rw[if_pos h1]at h;have e:i.toNat=j:=bK h;show#[by rw[Xz h0 h1,e],by lia,by lia,h1]
  ·rw[if_neg h1]at h;cases h
 ·rw[if_neg h0]at h;by_cases h1:-(n:Int)<=i
  ·rw[if_pos h1]at h;have e:(i+n).toNat=j:=bK h;show#[by rw[Xy (by lia) h1,e],by lia,h1,by lia]
  ·rw[if_neg h1]at h;cases h
theorem QC{α:Type}{xs:List α}{i:Int}{v:α}(h:atI xs i=some v):∃j,seqIndex? i xs.length=some j/\xs[j]? = some v/\j<xs.length /\ -(xs.length:Int)<=i/\i<xs.length:=by
 unfold atI at h;cases e:ixN xs.length i with
 |none=>rw[e]at h;cases h
 |some j =>
  rw[e]at h;obtain⟨h1,h2,h3,h4⟩:=aaC e;show#[j,h1,h,h2,h3,h4]
theorem bR{α:Type}{xs:List α}{j:Nat}{v:α}(h:xs[j]? = some v):atI xs (j:Int)=some v:=by
 have hj:j<xs.length:=(fO.mp h).1;have e:ixN xs.length (j:Int)=some j:=by
  unfold ixN;rw[if_pos (by lia),if_pos (by lia)];simp
 unfold atI;rwa[e]
def aii(b:Expr):Prop:=∀o i,XC b false o i=operate [o,i] (Hu o i)
def IxR(X:Cx)(r:R2):Prop:=
 ∀(value slice:Expr) (pins:List (Addr × Obj)) (s:Shared) (σ:St) (H:Hp) (x y:V) (v u:Value) (Q:VK),Inv X pins σ H s->RelV x v->RelV y u->r x y H Q ->
  XC slice false v u=operate [v,u] (Hu v u)->wpAny (model X.prog X.w) X.A (Qe value slice v u) (EP X pins σ Q) X.xe s
def MtR(X:Cx)(id:String)(r:V->List V->Hp->VK->Prop):Prop:=
 ∀(pins:List (Addr × Obj)) (s:Shared) (σ:St) (H:Hp) (x:V) (xs:List V) (v:Value) (us:List Value) (Q:VK),Inv X pins σ H s->RelV x v->Vals xs us->r x xs H Q ->
  wpAny (model X.prog X.w) X.A (call (.builtin id) (v::us)) (EP X pins σ Q) X.xe s
section
variable{X:Cx}{a b:Expr}{ta tb:TE}{pos:Pos}
theorem IxR.or{r r':R2}(h:IxR X r)(h':IxR X r'):IxR X (fun x y H Q=>r x y H Q\/r' x y H Q):=by
 intro value slice pins s σ H x y v u Q I rx ry q hs;rcases q with q|q
 ·exact h value slice pins s σ H x y v u Q I rx ry q hs
 ·exact h' value slice pins s σ H x y v u Q I rx ry q hs
theorem Uc{r:R2}(hr:IxR X r)(ha:PE X a ta)(hb:PE X b tb)(hs:aii b):PE X (.Subscript a b pos) (tOp r ta tb):=by
 walk_at "s"
 exact Yl (binT ha hb I h fun v u s2 x y H2 I2 rx ry q=>hr a b pins s2 σ H2 x y v u Q I2 rx ry q (hs _ _))
def rIxL(K:aF):R2:=fun x y H Q=>∃p xs i v,x=.ref p/\y=.int i/\SqL K H p xs/\atI xs i=some v/\Q v H
def rIxT(K:aF):R2:=fun x y H Q=>∃p xs i v,x=.ref p/\y=.int i/\SqT K H p xs/\atI xs i=some v/\Q v H
def rIxS:R2:=fun x y H Q=>∃z i c,x=.str z/\y=.int i/\z.length<=sizeLine/\atI z.cps.toList i=some c/\Q (.str #[[c].toArray]) H
theorem aij:IxR X (rIxL X.K):=by
 intro value slice pins s σ H x y v u Q I rx ry h hs;obtain⟨p,xs,i,z,rfl,rfl,hq,he,q⟩:=h;cases rx
 k_dat (t,ry) "E"
 obtain⟨its,r,pl,hz⟩:=I.list hq;obtain⟨j,h1,h2,h3,h4,h5⟩:=QC he;obtain⟨w,ew,rw'⟩:=r.get h2;have hl:=r.length;have hn:=Bf;have fin:EP X pins σ Q w s:=#[z,H,I,rw',q];by_cases h0:0<=i
 ·have hj:i.toNat=j:=by
   rw[Xz h0 h5]at h1;exact bK h1
  exact item_listR pl.isList h0 (by lia) (by rw[hj];simpa using ew) fin hs
 ·have hj:(i+(its.toArray.size:Int)).toNat=j:=by
   rw[Xy (by lia) h4]at h1;rw[cH,<-hl];exact bK h1
  exact aeO (x:=w) pl.isList.typeIs Xq.lookup
   (wpAny_getItem_list_neg (Q:=fun r s'=>r=w/\EP X pins σ Q r s') pl.isList (by lia) (by rw[cH] <;> lia) (by lia) (by rw[hj];simpa using ew) #[rfl,fin]) hs
theorem alr:IxR X (rIxT X.K):=by
 intro value slice pins s σ H x y v u Q I rx ry h hs;obtain⟨p,xs,i,z,rfl,rfl,hq,he,q⟩:=h;cases rx
 k_dat (t,ry) "E"
 obtain⟨its,r,pl,hz⟩:=I.tuple hq;obtain⟨j,h1,h2,h3,h4,h5⟩:=QC he;obtain⟨w,ew,rw'⟩:=r.get h2;have hl:=r.length;have hn:=Bf;have fin:EP X pins σ Q w s:=#[z,H,I,rw',q];exact aeO (x:=w) pl.typeIs slot_tuple_getitem.lookup
  (getItem_tuple (j:=j) (Q:=fun r s'=>r=w/\EP X pins σ Q r s') pl (by lia) (by lia) (by rwa[cH,<-hl]) (by simpa using ew) #[rfl,fin]) hs
theorem als:IxR X rIxS:=by
 intro value slice pins s σ H x y v u Q I rx ry h hs;obtain⟨z,i,c,rfl,rfl,hz,he,q⟩:=h
 k_dat (t,rx) "E"
 k_dat (t',ry) "E"
 obtain⟨j,h1,h2,h3,h4,h5⟩:=QC he;have hl:z.cps.toList.length=z.length:=by simp[adA]
 rw [hl] at h1 h4 h5;have hn:=Bf;exact Ym (ud s z t) slot_str_getitem.lookup (getItem_str (c:=c) (by
  have e1:decide (i < -(2 ^ 63:Int))=false:=decide_eq_false (by lia);have e2:decide (i>=2 ^ 63)=false:=decide_eq_false (by lia);rw [e1,e2,Yg]) (by rw [h1];simpa using h2) #[.str #[[c].toArray],H,I.tok _,#[_,rfl],q]) hs
theorem Zc(its:List Value)(n j:Nat)(u:Value):fZ (·.setIfInBounds j u) { cls:=.type "list",data:=.seq its.toArray n }={ cls:=.type "list",data:=.seq (its.set j u).toArray n }:=by
 simp[fZ]
theorem Inv.lst{pins:List (Addr × Obj)}{σ:St}{H:Hp}{s:Shared}{p:Addr}{xs:List V}(I:Inv X pins σ H s)(h:H p=some (.lst xs)):
  ∃(its:List Value)(n:Nat),Vals xs its/\s.heap.get? p=some { cls:=.type "list",data:=.seq its.toArray n }/\xs.length<=sizeLine:=by
 obtain⟨z,its,n,r,e⟩:=I.hok p _ h;show#[its,n,r,e,z]
theorem Inv.alu{pins:List (Addr × Obj)}{σ:St}{H:Hp}{s:Shared}{p:Addr}{xs ys:List V}{its its':List Value}{n n':Nat}{f:Obj->Obj}(I:Inv X pins σ H s)(h:H p=some (.lst xs))
  (ho:s.heap.get? p=some { cls:=.type "list",data:=.seq its.toArray n }) (hf:f { cls:=.type "list",data:=.seq its.toArray n }={ cls:=.type "list",data:=.seq its'.toArray n' }) (r:Vals ys its') (hz:ys.length<=sizeLine) (t:Nat):
  Inv X pins σ (upd H p (.lst ys)) { s with heap:=s.heap.update p f,toks:=t }:=by
 have e:(s.heap.update p f).get? p=some { cls:=.type "list",data:=.seq its'.toArray n' }:=by
  rw[pU f ho (by rw[hf] <;> rfl),hf]
 refine I.write (x:=p) (e:=p) (by rw[h];trivial) (.inl rfl) (fun b u hb q=>(lY _ _ (aQ hb)).trans q) #[_,e] ?_;show#[hz,its',n',r,e]
def ajp:V->V->V->Hp->(Hp->Prop)->Prop:=fun o i v H Q=>∃p xs k j,o=.ref p/\i=.int k/\H p=some (.lst xs)/\ixN xs.length k=some j/\Q (upd H p (.lst (xs.set j v)))
theorem set_list:PSet X ajp:=by
 intro pins s σ H o i v ov iv u Q I ro ri rv h;obtain⟨p,xs,k,j,rfl,rfl,hp,hj,q⟩:=h;cases ro
 k_dat (t,ri) "E"
 obtain⟨its,n,r,ho,hz⟩:=I.lst hp;obtain⟨h1,h2,h3,h4⟩:=aaC hj;have hl:=r.length;have hn:=Bf;have I':Inv X pins σ (upd H p (.lst (xs.set j v))) { s with heap:=s.heap.update p (fZ (·.setIfInBounds j u)) }:=
  I.alu hp ho (Zc its n j u) (r.set rv j) (by rwa[GJ]) s.toks
 by_cases h0:0<=k
 ·have hk:k.toNat=j:=by
   rw[Xz h0 h4]at h1;exact bK h1
  exact PySem.W.ki_setAt ho h0 (by lia) (by rwa[cH,<-hl]) (by rw[hk];show#[_,I',q])
 ·have hk:(k+(its.toArray.size:Int)).toNat=j:=by
   rw[Xy (by lia) h3]at h1;rw[cH,<-hl];exact bK h1
  exact PySem.W.ki_setBack ho (by lia) (by rwa[cH,<-hl]) (by lia) (by rw[hk];show#[_,I',q])
theorem QD(lo hi:Option Int)(n:Nat):(iC lo hi none n).1=((HT.sIx n 0 lo:Nat):Int)/\(iC lo hi none n).2.1=((HT.sIx n n hi:Nat):Int)/\(iC lo hi none n).2.2=1:=by
 show#[?_,?_,rfl]
 ·cases lo with
  |none=>simp[iC,HT.sIx]
  |some i =>
   simp only[iC,HT.sIx,aeI,show(1:Int)>0 by decide,if_true];by_cases h:i<0
   ·simp only[h,if_true] <;> lia
   ·simp only[h,if_false] <;> lia
 ·cases hi with
  |none=>simp[iC,HT.sIx]
  |some i =>
   simp only[iC,HT.sIx,aeI,show(1:Int)>0 by decide,if_true];by_cases h:i<0
   ·simp only[h,if_true] <;> lia
   ·simp only[h,if_false] <;> lia
theorem K6(its:List Value)(lo hi:Option Int):Hr its.toArray lo hi none=((its.drop (HT.sIx its.length 0 lo)).take (HT.sIx its.length its.length hi-HT.sIx its.length 0 lo)).toArray:=by
 obtain⟨h1,h2,h3⟩:=QD lo hi its.toArray.size;unfold Hr;rw[h1,h2,h3];simp only[sliceRange_one,pick_run,cH] <;> rfl
def rSlL(K:aF):V->Option Int->Option Int->Hp->VK->Prop:=fun x lo hi H Q=>∃a xs,x=.ref a/\SqL K H a xs/\∀p,H p=none->Q (.ref p) (upd H p (.lst (pC xs lo hi)))
theorem aik:SlR X (rSlL X.K):=by
 intro pins s σ H x v vl vu lo hi sl Q I rx hs pl pu h;obtain⟨a,xs,rfl,hx,q⟩:=h;cases rx;obtain⟨its,r,ht,hz⟩:=I.list hx;have hlen:=r.length;show#["list",_,Xq.lookup,ht.isList.typeIs,?_];refine adN ht.isList hs pl pu .none (by simp) ?_ (by rw[cH] <;> lia);rw[K6,<-hlen];show#[.ref s.heap.objs.size,_,I.laid (t':=s.toks) (o:=.lst (pC xs lo hi)) (fun b ob q=>cX _ q) (aO _) ?_,rfl,q _ (I.hok.fresh (aO _))];show#[bW (Ub xs lo hi) hz,_,0,(r.drop (HT.sIx xs.length 0 lo)).take (HT.sIx xs.length xs.length hi-HT.sIx xs.length 0 lo),dZ _ rfl]
def wg:V->Bool
 | .non=>true
 | .bl _=>true
 | .int _=>true
 | .str _=>true
 |_=>false
def eqV:V->V->Bool
 | .non,.non=>true
 | .bl a,.bl b=>a == b
 | .bl a,.int b=>(if a then 1 else 0) == b
 | .int a,.bl b=>a == (if b then 1 else 0)
 | .int a,.int b=>a == b
 | .str a,.str b=>a == b
 |_,_=>false
theorem QF{A:aN}{s:Shared}{y x:V}{u v:Value}(ry:RelV y u)(rx:RelV x v)(fy:wg y=true)(fx:wg x=true):Ij A s u v (eqV y x):=by
 cases y with
 |non =>
  cases ry;cases x with
  |non=>cases rx;exact YK _
  |bl b=>cases rx;exact aj7 b
  |int b=>obtain⟨t,rfl⟩:=rx;exact akb b t
  |str b=>obtain⟨t,rfl⟩:=rx;exact akc b t
  |_=>exact absurd (show false=true from fx) cM
 |bl a =>
  cases ry;cases x with
  |non=>cases rx;exact aj8 a
  |bl b=>cases rx;exact aj9 a b
  |int b=>obtain⟨t,rfl⟩:=rx;exact akd a b t
  |str b=>obtain⟨t,rfl⟩:=rx;exact ake a b t
  |_=>exact absurd (show false=true from fx) cM
 |int a =>
  k_dat (t',ry) "E"
  cases x with
  |non=>cases rx;exact akf a t'
  |bl b=>cases rx;exact akg a t' b
  |int b=>obtain⟨t,rfl⟩:=rx;exact akj a t' b t
  |str b=>obtain⟨t,rfl⟩:=rx;exact afr a t' b t
  |_=>exact absurd (show false=true from fx) cM
 |str a =>
  k_dat (t',ry) "E"
  cases x with
  |non=>cases rx;exact akh a t'
  |bl b=>cases rx;exact aki a t' b
  |int b=>obtain⟨t,rfl⟩:=rx;exact afs a t' b t
  |str b=>obtain⟨t,rfl⟩:=rx;exact akk a t' b t
  |_=>exact absurd (show false=true from fx) cM
 |_=>exact absurd (show false=true from fy) cM
def eqU(x:V)(u:Value):Bool:=match u with
 | .none=>eqV .non x
 | .bool b=>eqV (.bl b) x
 | .int i _=>eqV (.int i) x
 | .str z _=>eqV (.str z) x
 |_=>false
theorem agh{x y:V}{u:Value}(r:RelV y u)(f:wg y=true):eqU x u=eqV y x:=by
 cases y with
 |non=>cases r;rfl
 |bl b=>cases r;rfl
 |int i=>obtain⟨t,rfl⟩:=r;rfl
 |str z=>obtain⟨t,rfl⟩:=r;rfl
 |_=>exact absurd (show false=true from f) cM
theorem QG{x:V}:∀{xs:List V}{us:List Value},Vals xs us->xs.all wg=true->us.any (eqU x)=xs.any fun y=>eqV y x
 |_,_,.nil,_=>rfl
 |y::xs,u::us,.cons r t,f=>by
  rw[W9,HF]at f;rw[tU,tU,agh r f.1,QG t f.2]
theorem Je{A:aN}{s:Shared}{x:V}{v:Value}(rx:RelV x v)(fx:wg x=true):∀{xs:List V}{us:List Value},Vals xs us->xs.all wg=true->∀u∈us,Ij A s u v (eqU x u)
 |_,_,.nil,_=>fun u hu=>by cases hu
 |y::xs,u::us,.cons r t,f=>fun u' hu=>by
  rw[W9,HF]at f;rcases aZ.mp hu with rfl|hu
  ·rw[agh r f.1];exact QF r rx f.1 fx
  ·exact Je rx fx t f.2 u' hu
def inV(x:V)(xs:List V):Bool:=xs.any fun y=>eqV y x
def rIn(K:aF)(neg:Bool):R2:=fun x y H Q=>∃p xs,y=.ref p/\(SqL K H p xs\/SqT K H p xs)/\wg x=true/\xs.all wg=true/\Q (.bl (if neg then !inV x xs else inV x xs)) H
theorem ab8:OpR X (gG .In) (rIn X.K false):=by
 walk_at "u"
 obtain⟨p,xs,rfl,hq,fx,fs,q⟩:=h;cases ry;rcases hq with hq|hq
 ·obtain⟨its,r,pl,hz⟩:=I.list hq;refine SeqAt.in_listAt (eqU x) pl.isList (fun w hw=>Je rx fx r fs w (by simpa using hw)) #[.bl _,H,I,rfl,?_];rwa[show its.toArray.any (eqU x)=its.any (eqU x) by simp,QG r fs]
 ·obtain⟨its,r,pl,hz⟩:=I.tuple hq;refine SeqAt.in_tupleAt (eqU x) pl (fun w hw=>Je rx fx r fs w (by simpa using hw)) #[.bl _,H,I,rfl,?_];rwa[show its.toArray.any (eqU x)=its.any (eqU x) by simp,QG r fs]
theorem fU.or{f:Value}{r r':List V->Hp->VK->Prop}(h:fU X f r)(h':fU X f r'):fU X f (fun xs H Q=>r xs H Q\/r' xs H Q):=by
 intro pins s σ H xs us Q I rs q;rcases q with q|q
 ·exact h pins s σ H xs us Q I rs q
 ·exact h' pins s σ H xs us Q I rs q
def tyV(K:aF)(T:String)(x:V)(H:Hp):Prop:=match x with
 | .str _=>T = "str"
 | .int _=>T = "int"
 | .ref p=>(T = "list" /\ ∃xs,SqL K H p xs)\/(T = "tuple" /\ ∃o,K.lookup p=some o/\o.cls=.type "tuple" /\ o.dict=none) \/
   (T = "dict" /\ ((∃kvs,H p=some (.dK kvs))\/∃kvs,H p=some (.dT kvs)))\/(T = "set" /\ ∃S n,H p=some (.set S n))
 |_=>False
theorem agi{pins:List (Addr × Obj)}{σ:St}{H:Hp}{s:Shared}{T:String}{x:V}{v:Value}(I:Inv X pins σ H s)(r:RelV x v)(ty:tyV X.K T x H):
  s.TypeIs v T/\∀a,v=.ref a->∃ob,s.heap.get? a=some ob/\ob.dict=none:=by
 cases x with
 |str z =>
  k_dat (t,r) "E"
  cases (show T = "str" from ty);show#[ud s z t,fun _ e=>nomatch e]
 |int i =>
  k_dat (t,r) "E"
  cases (show T = "int" from ty);show#[typeIs_int s i t,fun _ e=>nomatch e]
 |ref p =>
  cases r;rcases ty with⟨rfl,xs,hq⟩|⟨rfl,o,hk,hc,hd⟩|⟨rfl,hk⟩|⟨rfl,S,n,hk⟩
  ·obtain⟨its,_,pl,_⟩:=I.list hq;show#[pl.isList.typeIs,fun a e=>?_];cases e;obtain⟨o,n,e,c,hd,_⟩:=pl;show#[o,e,hd]
  ·show#[#[o,I.kIn p o hk,hc],fun a e=>?_];cases e;show#[o,I.kIn _ o hk,hd]
  ·have z:∃o,s.heap.get? p=some o/\o.ExactDict:=by
    rcases hk with⟨kvs,hk⟩|⟨kvs,hk⟩
    ·obtain⟨_,_,_,_,o,_,_,e,ex,_⟩:=I.hok p _ hk;show#[o,e,ex]
    ·obtain⟨_,_,_,_,o,_,_,e,ex,_⟩:=I.hok p _ hk;show#[o,e,ex]
   obtain⟨o,e,ex⟩:=z;show#[#[o,e,ex.1],fun a e2=>?_];cases e2;show#[o,e,ex.2.1]
  ·obtain⟨o,_,_,_,e,ex,_⟩:=I.hok p _ hk;show#[#[o,e,ex.1],fun a e2=>?_];cases e2;show#[o,e,ex.2.1]
 |_=>exact fP ty
def tBM0(K:aF)(T:String)(r:V->List V->Hp->VK->Prop)(to:TE):TE:=fun σ H Q=>to σ H fun x H1=>tyV K T x H1/\r x [] H1 Q
def tBM(K:aF)(T:String)(r:V->List V->Hp->VK->Prop)(to:TE)(t:TA):TE:=fun σ H Q=>to σ H fun x H1=>tyV K T x H1/\t σ H1 fun xs H2=>r x xs H2 Q
variable{o e:Expr}{es:List Expr}{to:TE}{t:TA}{name:Str}{apos cpos:Pos}{T id:String}{r:V->List V->Hp->VK->Prop}
theorem alv(pa:XQ T)(slot:Slot T name id)(hty:Hx (.builtin id)=pure (.type "method_descriptor"))(hm:MtR X id r)(ho:PE X o to)
  (hbase:rZ o name X.env (eval o X.env)=eval o X.env:=by rfl) (hline:(apos.endLine == cpos.line)=true:=by rfl):PE X (.Call (.Attribute o name apos) [] [] cpos) (tBM0 X.K T r to):=by
 walk_at "s"
 refine wpAny_Call_method0_late hbase hline (thn (ho pins s σ H _ I h) fun v s1 zq=>?_);obtain⟨x,H1,I1,r1,ty,q1⟩:=zq;obtain⟨h1,h2⟩:=agi I1 r1 ty;show#[T,id,pa,slot,hty,h1,h2,YF rfl (PySem.evalArgs_none (hm pins s1 σ H1 x [] v [] Q I1 r1 .nil q1))]
theorem jy(pa:XQ T)(slot:Slot T name id)(hty:Hx (.builtin id)=pure (.type "method_descriptor"))(hm:MtR X id r)(ho:PE X o to)(ha:PA X (e::es) t)
  (hbase:rZ o name X.env (eval o X.env)=eval o X.env:=by rfl)
  (hfew:((dz cpos (bh (e::es) X.env)).all (fun x=>!x.1) && (z9 cpos (zY [] X.env)).all (fun x=>x.1.isSome)
   && decide ((e::es).length+([]:List lU).length+(if ([]:List lU).isEmpty then 0 else 1)<30))=true:=by rfl)
  (hline:(apos.endLine == cpos.line)=true:=by rfl) (hs:bh (e::es) X.env=(false,eval e X.env)::bh es X.env:=by rfl) (hplain:(dz cpos (bh es X.env)).any (·.1)=false:=by rfl):
  PE X (.Call (.Attribute o name apos) (e::es) [] cpos) (tBM X.K T r to t):=by
 walk_at "s"
 refine adQ hbase hfew hline rfl (thn (ho pins s σ H _ I h) fun v s1 zq=>?_);obtain⟨x,H1,I1,r1,ty,q1⟩:=zq;obtain⟨h1,h2⟩:=agi I1 r1 ty;show#[T,id,pa,slot,hty,h1,h2,?_];have hA:=ha cpos pins s1 σ H1 _ I1 q1;rw[hs]at hA ⊢;refine YF (by show(false || (dz cpos (bh es X.env)).any (·.1))=false;rw[hplain] <;> rfl) (afj ?_);exact thn hA fun us s2 ⟨vs,H2,I2,r2,q2⟩=>hm pins s2 σ H2 x vs v us Q I2 r1 r2 q2
end
def MtM(X:Cx)(id:String)(r:V->List V->Hp->VK->Prop):Prop:=
 ∀(pins:List (Addr × Obj)) (s:Shared) (σ:St) (H:Hp) (x:V) (xs:List V) (v:Value) (us:List Value) (Q:VK),Inv X pins σ H s->RelV x v->Vals xs us->r x xs H Q ->
  wpAny (model X.prog X.w) X.A (call (.builtin id) (v::us)) (EP X pins σ Q) X.xe s
theorem Vals.one:∀{x:V}{us:List Value},Vals [x] us->∃u,us=[u]/\RelV x u
 |_,_,.cons r .nil=>#[_,rfl,r]
theorem Vals.zero:∀{us:List Value},Vals [] us->us=[]
 |_,.nil=>rfl
theorem Vals.dropLast{xs:List V}{us:List Value}(h:Vals xs us):Vals xs.dropLast us.dropLast:=by
 induction h with
 |nil=>exact .nil
 |cons r t ih =>
  cases t with
  |nil=>exact .nil
  |cons q t'=>exact .cons r ih
theorem Vals.eraseIdx:∀{xs:List V}{us:List Value}(i:Nat),Vals xs us->Vals (xs.eraseIdx i) (us.eraseIdx i)
 |_,_,_,.nil=>.nil
 |_,_,0,.cons _ t=>t
 |_,_,i+1,.cons r t=>.cons r (Vals.eraseIdx i t)
theorem Vals.reverse{xs:List V}{us:List Value}(h:Vals xs us):Vals xs.reverse us.reverse:=by
 induction h with
 |nil=>exact .nil
 |cons r t ih=>rw[adt,adt];exact Vals.append ih (.cons r .nil)
theorem Zd{α:Type}(l:List α):l.eraseIdx (l.length-1)=l.dropLast:=by
 induction l with
 |nil=>rfl
 |cons a r ih =>
  cases r with
  |nil=>rfl
  |cons b r =>
   have e:(a::b::r).length-1=((b::r).length-1)+1:=by
    have h1:(a::b::r).length=r.length+2:=rfl;have h2:(b::r).length=r.length+1:=rfl;lia
   rw[e,List.eraseIdx_cons_succ,ih];all_goals rfl
section
variable{X:Cx}{pins:List (Addr × Obj)}{σ:St}{H:Hp}{s:Shared}{l b:Addr}{xs ys zs:List V}
theorem Inv.lset{its its':List Value}{n:Nat}{f:Array Value->Array Value}{t':Nat}(I:Inv X pins σ H s)(hH:H l=some (.lst xs))
  (e:s.heap.get? l=some { cls:=.type "list",data:=.seq its.toArray n }) (hf:f its.toArray=its'.toArray) (hv:Vals ys its') (hz:ys.length<=sizeLine):
  Inv X pins σ (upd H l (.lst ys)) { s with heap:=s.heap.update l (fZ f),toks:=t' }:=by
 have q:=ak4 e f;rw[hf]at q;refine I.write (x:=l) (e:=l) (by rw[hH];exact trivial) (.inl rfl) (fun b' u hb hu=>(lY s.heap (fZ f) (aQ hb)).trans hu) #[_,q] ?_;show#[hz,its',_,hv,q]
theorem Inv.lnew{its:List Value}{t':Nat}(I:Inv X pins σ H s)(hv:Vals ys its)(hz:ys.length<=sizeLine):
  Inv X pins σ (upd H s.heap.objs.size (.lst ys)) { s with heap:=s.heap.push { cls:=.type "list",data:=.seq its.toArray },toks:=t' }:=
 I.laid (fun _ _ q=>cX _ q) (aO _) #[hz,its,0,hv,dZ _ rfl]
theorem Inv.fresh(I:Inv X pins σ H s):H s.heap.objs.size=none:=I.hok.fresh (aO _)
theorem Inv.tK(I:Inv X pins σ H s)(hH:H l=some (.lst xs)):xs.length<=sizeLine/\∃(its:List Value)(n:Nat),Vals xs its/\xs.length=its.length/\s.heap.get? l=some { cls:=.type "list",data:=.seq its.toArray n }:=by
 obtain⟨z,its,n,r,e⟩:=I.hok l _ hH;show#[z,its,n,r,r.length,e]
theorem Ud{n:Nat}(h:n<=sizeLine):Yr n=false:=by
 unfold Yr;exact decide_eq_false (by lia)
end
section
variable{X:Cx}
inductive aaD (x:V) (vs:List V) (H:Hp) (Q:VK):Prop
 |k (l:Addr) (xs:List V) (y:V):x=.ref l->vs=[y]->H l=some (.lst xs)->xs.length<sizeLine->Q .non (upd H l (.lst (xs++[y])))->aaD x vs H Q
theorem Bj:MtM X "list.append" aaD:=by
 walk_at "D"
 obtain⟨l,xs,y,rfl,rfl,hH,hz,q⟩:=h;cases rx;obtain⟨u,rfl,ru⟩:=rv.one;obtain⟨z,its,n,r,hl,e⟩:=I.tK hH;refine wR F.slot_list_append #[_,e,rfl] F.entry_list_append (F.args_list_append_2 _ _) (PySem.list_append l its.toArray n u (by rw[cH];lia)) #[e,?_];show#[.non,_,I.lset (its':=its++[u]) hH e (by simp) (r.append (.cons ru .nil)) ?_,rfl,q];rw[cj,List.length_singleton];lia
def ail:V->List V->Hp->VK->Prop:=fun x vs H Q=>∃l b xs zs,x=.ref l/\vs=[.ref b]/\H l=some (.lst xs)/\H b=some (.lst zs)/\xs.length+zs.length<=sizeLine/\Q .non (upd H l (.lst (xs++zs)))
theorem vL:MtM X "list.extend" ail:=by
 walk_at "D"
 obtain⟨l,b,xs,zs,rfl,rfl,hH,hB,hz,q⟩:=h;cases rx;obtain⟨u,rfl,ru⟩:=rv.one;cases ru;obtain⟨z,its,n,r,hl,e⟩:=I.tK hH;obtain⟨z2,its2,n2,r2,hl2,e2⟩:=I.tK hB;have hsz:its.toArray.size+its2.toArray.size<=sizeLine:=by rw[cH,cH];lia
 have hlong:¬ (!its.toArray.isEmpty && Yr (its.toArray.size+its2.toArray.size))=true:=by
  rw[Ud hsz,Ai];exact cM
 refine wR F.slot_list_extend #[_,e,rfl] F.entry_list_extend (F.args_list_extend_2 _ _)
  (akt l its.toArray n b its2.toArray n2 hlong (by rw[cH];lia) (by lia)) #[e,e2,?_]
 show#[.non,_,I.lset (its':=its++its2) hH e (by simp) (r.append r2) ?_,rfl,q];rw[cj];lia
def rPop:V->List V->Hp->VK->Prop:=fun x vs H Q=>∃l xs y,x=.ref l/\vs=[]/\H l=some (.lst xs)/\xs[xs.length-1]? = some y/\Q y (upd H l (.lst xs.dropLast))
theorem alw:MtM X "list.pop" rPop:=by
 walk_at "D"
 obtain⟨l,xs,y,rfl,rfl,hH,hy,q⟩:=h;cases rx;have hus:=rv.zero;subst hus;obtain⟨z,its,n,r,hl,e⟩:=I.tK hH;obtain⟨u,hu,ru⟩:=r.get hy;have hy':its.toArray[its.toArray.size-1]? = some u:=by
  show its.toArray[its.length-1]? = some u;rwa[<-Qh,<-hl]
 refine wR F.slot_list_pop #[_,e,rfl] F.entry_list_pop (F.args_list_pop_1 _) (akT l its.toArray n u hy' (by rw[cH];lia)) #[e,?_];show#[y,_,I.lset (its':=its.dropLast) hH e ?_ r.dropLast ?_,ru,q]
 ·show its.toArray.eraseIdxIfInBounds (its.toArray.size-1)=its.dropLast.toArray;rw[cH,List.eraseIdxIfInBounds_toArray,Zd]
 ·rw[WM];lia
def rCat:R2:=fun x y H Q=>∃l b xs zs,x=.ref l/\y=.ref b/\H l=some (.lst xs)/\H b=some (.lst zs)/\xs.length+zs.length<=sizeLine/\∀p,H p=none->Q (.ref p) (upd H p (.lst (xs++zs)))
theorem rB:OpR X (iD .Add) rCat:=by
 walk_at "u"
 obtain⟨l,b,xs,zs,rfl,rfl,hH,hB,hz,q⟩:=h;cases rx;cases ry;obtain⟨z,its,n,r,hl,e⟩:=I.tK hH;obtain⟨z2,its2,n2,r2,hl2,e2⟩:=I.tK hB;refine PySem.P.add_list e e2 ?_ (by rw[cH,cH];lia);have ea:its.toArray++its2.toArray=(its++its2).toArray:=by simp
 rw[ea];show#[.ref _,_,I.lnew (t':=s.toks) (r.append r2) (by rw[cj];lia),rfl,q _ I.fresh]
end
section
variable{prog:aG}{w:World}{A:aN}{E:Value->Shared->Prop}{s:Shared}
set_option maxRecDepth 100000 in
end
section
variable{X:Cx}
end
section
variable{κ:Type}[DecidableEq κ]
def jz(kvs:List (κ × V))(k:κ):Option V:=(kvs.find? fun kv=>decide (kv.1=k)).map (·.2)
def putK(kvs:List (κ × V))(k:κ)(v:V):List (κ × V):=
 if(kvs.any fun kv=>decide (kv.1=k))=true then kvs.map (fun kv=>if kv.1=k then(kv.1,v)else kv)else kvs++[(k,v)]
theorem yF{p:κ × V}{r:List (κ × V)}{k:κ}(e:p.1=k):jz (p::r) k=some p.2:=by simp[jz,qJ,e]
theorem yG{p:κ × V}{r:List (κ × V)}{k:κ}(e:¬ p.1=k):jz (p::r) k=jz r k:=by simp[jz,qJ,e]
theorem Ue(k:κ):∀kvs:List (κ × V),(kvs.any fun kv=>decide (kv.1=k))=(jz kvs k).isSome
 |[]=>rfl
 |p::r=>by
  rw[tU];by_cases e:p.1=k
  ·simp only[yF e,decide_eq_true e,Bool.true_or,Option.isSome_some]
  ·rw[yG e,decide_eq_false e,Yh];exact Ue k r
theorem uJ(kvs:List (κ × V))(k:κ)(v:V):(putK kvs k v).length<=kvs.length+1:=by
 unfold putK;split
 ·rw[aB];lia
 ·rw[cj,cJ,N5];lia
theorem qZ.Bk{o:Option V}{u:Option Value}(r:qZ o u):o.isSome=u.isSome:=by
 cases o with
 |none=>cases u with
  |none=>rfl
  |some _=>exact(show False from r).elim
 |some _=>cases u with
  |none=>exact(show False from r).elim
  |some _=>rfl
theorem qZ.getD{o:Option V}{u:Option Value}{d:V}{d':Value}(r:qZ o u)(rd:RelV d d'):RelV (o.getD d) (u.getD d'):=by
 cases o with
 |none=>cases u with
  |none=>exact rd
  |some _=>exact(show False from r).elim
 |some _=>cases u with
  |none=>exact(show False from r).elim
  |some _=>exact r
theorem KV.val{kvs:List (κ × V)}{vs:List (κ × Value)}(r:KV kvs vs)(k:κ):qZ (jz kvs k) (wX vs k):=by
 unfold KV at r
 induction r with
 |nil=>exact True.intro
 | @cons p q ps qs h t ih =>
  obtain⟨h1,h2⟩:=h;by_cases e:p.1=k
  ·have e':q.1=k:=h1.symm.trans e;have b:wX (q::qs) k=some q.2:=by simp[wX,qJ,e']
   rwa[yF e,b]
  ·have e':¬ q.1=k:=fun z=>e (h1.trans z);have b:wX (q::qs) k=wX qs k:=by simp[wX,qJ,e']
   rwa[yG e,b]
theorem KV.any{kvs:List (κ × V)}{vs:List (κ × Value)}(r:KV kvs vs)(k:κ):(kvs.any fun kv=>decide (kv.1=k))=vs.any fun kv=>decide (kv.1=k):=by
 unfold KV at r
 induction r with
 |nil=>rfl
 |cons h t ih=>rw[tU,tU,ih,h.1]
theorem KV.repl{kvs:List (κ × V)}{vs:List (κ × Value)}(r:KV kvs vs)(k:κ){y:V}{u:Value}(ry:RelV y u):
  KV (kvs.map fun kv=>if kv.1=k then(kv.1,y)else kv) (vs.map fun kv=>if kv.1=k then(kv.1,u)else kv):=by
 unfold KV at r ⊢
 induction r with
 |nil=>exact .nil
 | @cons p q ps qs h t ih =>
  rw[dM,dM];refine .cons ?_ ih;obtain⟨h1,h2⟩:=h;by_cases e:p.1=k
  ·rw[if_pos e,if_pos (h1.symm.trans e)];show#[h1,ry]
  ·rw[if_neg e,if_neg (fun z=>e (h1.trans z))];show#[h1,h2]
theorem KV.put{kvs:List (κ × V)}{vs:List (κ × Value)}(r:KV kvs vs)(k:κ){y:V}{u:Value}(ry:RelV y u):KV (putK kvs k y) (jD vs k u):=by
 unfold putK jD;rw[r.any k];by_cases e:(vs.any fun kv=>decide (kv.1=k))=true
 ·rw[if_pos e,if_pos e];exact r.repl k ry
 ·rw[if_neg e,if_neg e];exact afx r #[rfl,ry]
theorem KV.length{kvs:List (κ × V)}{vs:List (κ × Value)}(r:KV kvs vs):kvs.length=vs.length:=YL r
end
theorem Ug{P:aG}{w:World}{k:Key}{u:Value}(r:RelV (kV k) u):(cg P w).is k u=true:=by
 cases k with
 |inl i=>obtain⟨t,e⟩:=(show ∃t,u=Value.int i t from r);subst e;exact Tz P w i t
 |inr x=>obtain⟨t,e⟩:=(show ∃t,u=Value.str x t from r);subst e;exact TF P w x t
theorem MJ{P:aG}{w:World}:∀{ks:List Key}{us:List Value},Vals (ks.map kV) us->ItemsAre (cg P w) ks us
 |[],_,r=>by rw[zP]at r;cases r;exact .nil
 |k::ks,_,r=>by
  rw[dM]at r;cases r with
  |cons h t=>exact .cons (Ug h) (MJ t)
abbrev KT(H:Hp):List (List Key × V)->List (List Key × Addr × Value)->Prop:=Paired fun p q=>p.1=q.1/\H q.2.1=some (.tup (p.1.map kV))/\RelV p.2 q.2.2
theorem KT.val{H:Hp}{kvs:List (List Key × V)}{xs:List (List Key × Addr × Value)}(r:KT H kvs xs)(k:List Key):qZ (jz kvs k) ((atKey xs k).map (·.2)):=by
 induction r with
 |nil=>exact True.intro
 | @cons p q ps qs h t ih =>
  obtain⟨h1,_,h2⟩:=h;by_cases e:p.1=k
  ·have e':q.1=k:=h1.symm.trans e;have b:atKey (q::qs) k=some q.2:=by simp[atKey,qJ,e']
   rwa[yF e,b]
  ·have e':¬ q.1=k:=fun z=>e (h1.trans z);have b:atKey (q::qs) k=atKey qs k:=by simp[atKey,qJ,e']
   rwa[yG e,b]
theorem KT.repl{H:Hp}{kvs:List (List Key × V)}{xs:List (List Key × Addr × Value)}(r:KT H kvs xs)(k:List Key){y:V}{u:Value}(ry:RelV y u):
  KT H (kvs.map fun kv=>if kv.1=k then(kv.1,y)else kv) (xs.map (putAt k u)):=by
 induction r with
 |nil=>exact .nil
 | @cons p q ps qs h t ih =>
  rw[dM,dM];refine .cons ?_ ih;obtain⟨h1,h2,h3⟩:=h;unfold putAt;by_cases e:p.1=k
  ·rw[if_pos e,if_pos (h1.symm.trans e)];show#[h1,h2,ry]
  ·rw[if_neg e,if_neg (fun z=>e (h1.trans z))];show#[h1,h2,h3]
theorem KT.put{H:Hp}{kvs:List (List Key × V)}{xs:List (List Key × Addr × Value)}(r:KT H kvs xs)(k:List Key){b:Addr}{y:V}{u:Value}(hb:H b=some (.tup (k.map kV)))(ry:RelV y u):
  KT H (putK kvs k y) (storedH xs k b u):=by
 have e:(kvs.any fun kv=>decide (kv.1=k))=(atKey xs k).isSome:=by
  rw[Ue,(r.val k).Bk,aeH]
 unfold putK storedH;rw[e];by_cases q:(atKey xs k).isSome=true
 ·rw[if_pos q,if_pos q];exact r.repl k ry
 ·rw[if_neg q,if_neg q];exact afx r #[rfl,hb,ry]
theorem KT.keeps{H H':Hp}{kvs:List (List Key × V)}{xs:List (List Key × Addr × Value)}(r:KT H kvs xs)(ht:∀b ys,H b=some (.tup ys)->H' b=some (.tup ys)):KT H' kvs xs:=
 Paired.mapP r fun _ _ z=>#[z.1,ht _ _ z.2.1,z.2.2]
section
variable{P:aG}{w:World}{H:Hp}{h:Heap}{a:Addr}
theorem ajq{u:HO}(ok:HOk P w H h)(e:Rd H a u):cA P w H h a u:=e.ok ok
theorem MN{kvs:List (Key × V)}(ok:HOk P w H h)(e:Rd H a (.dK kvs)):kvs.length<=sizeLine/\(a == qM)=false/\∃vs,KV kvs vs/\h.DictOf (cg P w) a vs:=
 show cA P w H h a (.dK kvs)from ajq ok e
theorem ajr{kvs:List (Key × V)}(ok:HOk P w H h)(e:H a=some (.dK kvs)):kvs.length<=sizeLine/\(a == qM)=false/\∃vs,KV kvs vs/\h.DictOf (cg P w) a vs:=MN ok (.inl e)
theorem QH{ks:List Key}(ok:HOk P w H h)(e:H a=some (.tup (ks.map kV))):(Hq (cg P w)).is h ks a:=by
 obtain⟨_,its,r,o,h1,h2,n,h3⟩:=(show cA P w H h a (.tup (ks.map kV))from ok a _ e);show#[o,its.toArray,n,h1,h2,h3,by simpa using MJ r]
theorem aaE{kvs:List (List Key × V)}(ok:HOk P w H h)(e:Rd H a (.dT kvs)):kvs.length<=sizeLine/\(a == qM)=false /\
  ∃xs,KT H kvs xs/\h.DictOfH (Hq (cg P w)) a xs:=by
 obtain⟨z,y,xs,r,o,es,ep,h1,h2,h3,h4,h5⟩:=(show cA P w H h a (.dT kvs)from ajq ok e);show#[z,y,xs,r,o,es,ep,h1,h2,h3,h4,fun x hx=>?_,h5];have all:∀{l:List (List Key × V)} {m:List (List Key × Addr × Value)},KT H l m->∀x∈m,(Hq (cg P w)).is h x.1 x.2.1:=by
  intro l m q
  induction q with
  |nil=>intro x hx;exact nomatch hx
  | @cons p q ps qs hq t ih =>
   intro x hx;rcases aZ.mp hx with e|hx
   ·subst e;exact QH ok (by rw[<-hq.1];exact hq.2.1)
   ·exact ih x hx
 exact all r x hx
theorem dt_of{kvs:List (List Key × V)}(ok:HOk P w H h)(e:H a=some (.dT kvs)):kvs.length<=sizeLine/\(a == qM)=false /\
  ∃xs,KT H kvs xs/\h.DictOfH (Hq (cg P w)) a xs:=aaE ok (.inl e)
end
def ab9(H:Hp)(a:Addr)(y:V)(r:Option V):Prop:=
 (∃kvs k,Rd H a (.dK kvs)/\y=kV k/\r=jz kvs k)\/∃kvs k b,Rd H a (.dT kvs)/\y=.ref b/\H b=some (.tup (k.map kV))/\r=jz kvs k
def DPut(H:Hp)(a:Addr)(y v:V)(H':Hp):Prop:=
 (∃kvs k,H a=some (.dK kvs)/\y=kV k/\kvs.length<sizeLine/\H'=upd H a (.dK (putK kvs k v))) \/
 ∃kvs k b,H a=some (.dT kvs)/\y=.ref b/\H b=some (.tup (k.map kV))/\kvs.length<sizeLine/\H'=upd H a (.dT (putK kvs k v))
section
variable{X:Cx}{pins:List (Addr × Obj)}{σ:St}{H:Hp}{s:Shared}{a:Addr}{y v:V}{u r:Value}{o:Option V}{A:aN}{E:Value->Shared->Prop}
theorem Inv.big(I:Inv X pins σ H s):qM<s.heap.objs.size:=by
 have h:bT<s.heap.objs.size:=(I.mod.glob.keeps I.bk).lt;exact j6 tb_g% h
theorem acd{Q:Value->Shared->Prop}(hu:A.units+1<cLine)(I:Inv X pins σ H s)(g:ab9 H a y (some v))(ry:RelV y u)(h:∀w' s',Inv X pins σ H s'->RelV v w'->Q w' s'):
  wpAny (model X.prog X.w) A (Hu (.ref a) u) Q E s:=by
 rcases g with⟨kvs,k,e,ey,l⟩|⟨kvs,k,b,e,ey,eb,l⟩
 ·subst ey;obtain⟨z,hd,vs,rel,dd⟩:=MN I.hok e;obtain⟨w',hw,rw'⟩:=qZ.some_of (v:=v) (o:=wX vs k) (by rw[l];exact rel.val k);exact wpAny_getItem_of (Ug ry) dd.mapOf hw (h w' _ (I.tok _) rw')
 ·subst ey;cases (show u=Value.ref b from ry);obtain⟨z,hd,xs,rel,dd⟩:=aaE I.hok e;obtain⟨w',hw,rw'⟩:=qZ.some_of (v:=v) (o:=(atKey xs k).map (·.2)) (by rw[l];exact rel.val k);obtain⟨p,hp,hp2⟩:=f9.mp hw;refine wpAny_getItem_heap (Xp hu) (QH I.hok eb) dd hp ?_;rw[hp2];exact h w' _ (I.tok _) rw'
theorem d_in{Q:Value->Shared->Prop}(hu:A.units+1<cLine)(I:Inv X pins σ H s)(g:ab9 H a y o)(ry:RelV y u)(h:∀s',Inv X pins σ H s'->Q (.bool o.isSome) s'):
  wpAny (model X.prog X.w) A (gG .In u (.ref a)) Q E s:=by
 rcases g with⟨kvs,k,e,ey,l⟩|⟨kvs,k,b,e,ey,eb,l⟩
 ·subst ey;obtain⟨z,hd,vs,rel,dd⟩:=MN I.hok e;refine wpAny_in_of (Ug ry) hd dd.mapOf ?_;rw[<-(rel.val k).Bk,<-l];exact h _ (I.tok _)
 ·subst ey;cases (show u=Value.ref b from ry);obtain⟨z,hd,xs,rel,dd⟩:=aaE I.hok e;refine wpAny_in_heap (Xp hu) (QH I.hok eb) hd dd ?_;have q:=(rel.val k).Bk;rw[aeH]at q;rw[<-q,<-l];exact h _ (I.tok _)
theorem QJ{h':Heap}{t':Nat}{ob:HO}(I:Inv X pins σ H s)(mu:Mut (H a))(hs:oW a s.heap h')(he:∃q,h'.get? a=some q)(new:cA X.prog X.w (upd H a ob) h' a ob):
  Inv X pins σ (upd H a ob) { s with heap:=h',toks:=t' }:=
 I.write (x:=a) (e:=a) mu (.inl rfl) (fun b q hb z=>(hs.2 b hb).trans z) he new
theorem Ze{P:aG}{w:World}{H':Hp}{h':Heap}{kvs:List (Key × V)}{vs:List (Key × Value)}(z:kvs.length<=sizeLine)(hd:(a == qM)=false)(rel:KV kvs vs)(dd:h'.DictOf (cg P w) a vs):
  cA P w H' h' a (.dK kvs):=#[z,hd,vs,rel,dd]
theorem ace{H':Hp}{Q:Unit->Shared->Prop}(hu:A.units+1<cLine)(I:Inv X pins σ H s)(g:DPut H a y v H')(ry:RelV y u)(rv:RelV v r)(h:∀s',Inv X pins σ H' s'->Q () s'):
  wpAny (model X.prog X.w) A (Pk (.ref a) u r) Q E s:=by
 rcases g with⟨kvs,k,e,ey,l,eH⟩|⟨kvs,k,b,e,ey,eb,l,eH⟩
 ·subst ey eH;obtain⟨z,hd,vs,rel,dd⟩:=ajr I.hok e;have hz:vs.length<=sizeLine:=by rwa[<-rel.length]
  have hl:(putK kvs k v).length<=sizeLine:=by have:=uJ kvs k v;lia
  refine wpAny_setItem_pairs (hsz:=hz) (Ug ry) dd fun h' dd' hs=>h _ ?_;have he:∃q,h'.get? a=some q:=let ⟨q,_,_,hq,_⟩:=dd';#[q,hq];exact QJ I (by rw[e];exact True.intro) hs he (Ze hl hd (rel.put k rv) dd')
 ·subst ey eH;cases (show u=Value.ref b from ry);obtain⟨z,hd,xs,rel,dd⟩:=dt_of I.hok e;have hz:xs.length<=sizeLine:=by rwa[<-YL rel]
  have hl:(putK kvs k v).length<=sizeLine:=by have:=uJ kvs k v;lia
  refine wpAny_setItem_heap (hsz:=hz) (Xp hu) (QH I.hok eb) dd fun h' dd' hs=>h _ ?_;obtain⟨q,es,ep,hq,h2,h3,h4,_,h5⟩:=dd';refine QJ I (by rw[e];exact True.intro) hs #[q,hq] #[hl,hd,_,(rel.put k eb rv).keeps fun c ys ec=>?_,q,es,ep,hq,h2,h3,h4,h5];rwa[ao (v9 ec e (fun z=>nomatch z))]
end
section
variable{X:Cx}{pins:List (Addr × Obj)}{σ:St}{H:Hp}{s:Shared}{a:Addr}{kvs:List (Key × V)}{k:Key}{u:Value}{A:aN}{E:Value->Shared->Prop}
theorem d_len{Q:Value->Shared->Prop}(I:Inv X pins σ H s)(e:Rd H a (.dK kvs))(h:∀t s',Inv X pins σ H s'->Q (.int kvs.length t) s'):wpAny (model X.prog X.w) A (call (.builtin "len") [.ref a]) Q E s:=by
 obtain⟨z,hd,vs,rel,dd⟩:=MN I.hok e;refine call_len_dict hd dd (by rw[<-rel.length];rw[zX]at z;lia) ?_;rw[<-rel.length];exact h _ _ (I.tok _)
end
theorem Uh{X:Cx}{pins:List (Addr × Obj)}{σ:St}{H:Hp}{s:Shared}{a:Addr}{y:V}{o:Option V}(I:Inv X pins σ H s)(g:ab9 H a y o):s.TypeIs (.ref a) "dict" := by
 rcases g with⟨kvs,k,e,_,_⟩|⟨kvs,k,b,e,_,_,_⟩
 ·obtain⟨_,_,vs,_,dd⟩:=MN I.hok e;exact dd.typeIs
 ·obtain⟨_,_,xs,_,dd⟩:=aaE I.hok e;exact dd.typeIs
section
variable{X:Cx}{o i e value:Expr}{pos pos' tpos:Pos}{td ty tv:TE}
end
theorem Ui{P:aG}{w:World}{H:Hp}(h:Heap)(hb:qM<h.objs.size):cA P w H (h.push { cls:=.type "dict",data:=.dict #[] }) h.objs.size (.dK []):=
 #[cU _,beq_eq_false_iff_ne.mpr (aQ (bZ hb)),[],.nil,afE h]
def alx:TE:=fun _ H Q=>∀p,H p=none->Q (.ref p) (upd H p (.dK []))
section
variable{X:Cx}{pos:Pos}
theorem agj:PE X (.Dict [] [] pos) alx:=fun pins s σ H Q I h =>
 wpAny_Dict_empty #[.ref s.heap.objs.size,_,I.laid (a:=s.heap.objs.size) (o:=.dK []) (t':=s.toks) (fun _ _ q=>cX _ q) (aO _) (Ui s.heap I.big),rfl,h _ (I.hok.fresh (aO _))]
end
def QK:List (TE × TE)->St->Hp->(List (V × V)->Hp->Prop)->Prop
 |[],_,H,Q=>Q [] H
 |(tk,tv)::r,σ,H,Q=>tk σ H fun x H1=>tv σ H1 fun y H2=>QK r σ H2 fun ps H3=>Q ((x,y)::ps) H3
abbrev VV:List (V × V)->List (Value × Value)->Prop:=Paired fun p q=>RelV p.1 q.1/\RelV p.2 q.2
def PPs(X:Cx)(pos:Pos)(keys:List (Option Expr))(values:List Expr)(trs:List (TE × TE)):Prop:=
 ∀(pins:List (Addr × Obj)) (s:Shared) (σ:St) (H:Hp) (Q:List (V × V)->Hp->Prop),Inv X pins σ H s->QK trs σ H Q ->
  wpAny (model X.prog X.w) X.A (evalPairs (pairTrees keys values X.env pos)) (fun vs s'=>∃ps H',Inv X pins σ H' s'/\VV ps vs/\Q ps H') X.xe s
theorem ain{X:Cx}{pos:Pos}:PPs X pos [] [] []:=fun pins s σ H Q I h=>pairTrees_nil_walk #[[],H,I,.nil,h]
theorem agk{X:Cx}{pos:Pos}{k v:Expr}{ks:List (Option Expr)}{vs:List Expr}{tk tv:TE}{trs:List (TE × TE)}(hk:PE X k tk)(hv:PE X v tv)(hr:PPs X pos ks vs trs):
  PPs X pos (some k::ks) (v::vs) ((tk,tv)::trs):=fun pins s σ H Q I h =>
 pairTrees_cons_walk (thn (hk pins s σ H _ I h) fun u s1 ⟨x,H1,I1,rx,q1⟩=>thn (hv pins s1 σ H1 _ I1 q1) fun w2 s2 ⟨y,H2,I2,ry,q2⟩ =>
  thn (hr pins s2 σ H2 _ I2 q2) fun ws s3 ⟨ps,H3,I3,rel,q3⟩=>#[(x,y)::ps,H3,I3,.cons #[rx,ry] rel,q3])
def Jf(kvs more:List (Key × V)):List (Key × V):=more.foldl (fun acc kv=>putK acc kv.1 kv.2) kvs
theorem KV.merge:∀{more:List (Key × V)} {rs:List (Key × Value)} {kvs:List (Key × V)} {vs:List (Key × Value)},KV more rs->KV kvs vs->KV (Jf kvs more) (merged vs rs):=by
 intro more rs kvs vs r;unfold KV at r
 induction r generalizing kvs vs with
 |nil=>intro q;exact q
 | @cons p q ps qs h t ih =>
  intro r0;have e:KV (putK kvs p.1 p.2) (jD vs q.1 q.2):=by
   have:=r0.put p.1 h.2;rwa[<-h.1]
  exact ih e
theorem wj:∀(more kvs:List (Key × V)),(Jf kvs more).length<=kvs.length+more.length
 |[],kvs=>by show kvs.length<=kvs.length+0;lia
 |p::r,kvs=>by
  have h1:=wj r (putK kvs p.1 p.2);have h2:=uJ kvs p.1 p.2;show(Jf (putK kvs p.1 p.2) r).length<=_;rw[cJ];lia
theorem Jg{P:aG}{w:World}:∀{kvs:List (Key × V)} {ws:List (Value × Value)},VV (kvs.map fun kv=>(kV kv.1,kv.2)) ws->∃rs,Carries (cg P w) ws rs/\KV kvs rs
 |[],_,r=>by rw[zP]at r;cases r;show#[[],True.intro,.nil]
 |p::kvs,_,r=>by
  rw[dM]at r;cases r with
  | @cons a b as bs h t =>
   obtain⟨rs,c,q⟩:=Jg (P:=P) (w:=w) t;obtain⟨b1,b2⟩:=b;show#[(p.1,b2)::rs,#[Ug h.1,rfl,c],.cons #[rfl,h.2] q]
def tDisp(trs:List (TE × TE)):TE:=fun σ H Q=>∀p,H p=none->QK trs σ (upd H p (.dK [])) fun ps H2=>H2 p=some (.dK [])/\∃kvs:List (Key × V),ps=kvs.map (fun kv=>(kV kv.1,kv.2))/\kvs.length<=15/\Q (.ref p) (upd H2 p (.dK (Jf [] kvs)))
theorem aio{X:Cx}{pos:Pos}{keys:List (Option Expr)}{values:List Expr}{trs:List (TE × TE)}(h:PPs X pos keys values trs)(hall:keys.all (·.isSome)=true)(hl:keys.length=values.length)(h0:keys≠[])
  (h15:keys.length<=15):PE X (.Dict keys values pos) (tDisp trs):=by
 intro pins s σ H Q I q;have hn:=I.hok.fresh (aO s.heap.objs.size);have I1:=I.laid (a:=s.heap.objs.size) (o:=.dK []) (h':=s.heap.push { cls:=.type "dict",data:=.dict #[] }) (t':=s.toks) (fun _ _ q=>cX _ q) (aO _) (Ui s.heap I.big);refine wpAny_Dict_walk (knd:=cg X.prog X.w) hall hl h0 h15 (thn (h pins _ σ _ _ I1 (q _ hn)) fun ws s2 zq=>?_);obtain⟨ps,H2,I2,rel,e,kvs,ep,lk,q2⟩:=zq;subst ep;obtain⟨rs,c,rk⟩:=Jg (P:=X.prog) (w:=X.w) rel;obtain⟨z,hd,vs0,r0,dd⟩:=ajr I2.hok e;cases r0;show#[rs,c,dd,fun h' dd' hs=>#[.ref s.heap.objs.size,_,?_,rfl,q2]];have hz:(Jf [] kvs).length<=sizeLine:=by
  have h1:=wj kvs [];rw[N5]at h1;rw[zX];lia
 have he:∃q,h'.get? s.heap.objs.size=some q:=let ⟨q,_,_,hq,_⟩:=dd';#[q,hq];exact QJ I2 (by rw[e];exact True.intro) hs he (Ze hz hd (rk.merge .nil) dd')
structure M1(X:Cx)(o:Expr)(m:Str)(apos:Pos)(e:Expr)(cpos:Pos):Prop where
 base:rZ o m X.env (eval o X.env)=eval o X.env
 few:((dz cpos (bh [e] X.env)).all (fun x=>!x.1) && (z9 cpos (zY [] X.env)).all (fun x=>x.1.isSome)
  && decide (([e]:List Expr).length+([]:List lU).length+(if ([]:List lU).isEmpty then 0 else 1)<30))=true
 line:(apos.endLine == cpos.line)=true
 trees:dz cpos (bh [e] X.env)=[(false,eval e X.env)]
structure M2(X:Cx)(o:Expr)(m:Str)(apos:Pos)(e f:Expr)(cpos:Pos):Prop where
 base:rZ o m X.env (eval o X.env)=eval o X.env
 few:((dz cpos (bh [e,f] X.env)).all (fun x=>!x.1) && (z9 cpos (zY [] X.env)).all (fun x=>x.1.isSome)
  && decide (([e,f]:List Expr).length+([]:List lU).length+(if ([]:List lU).isEmpty then 0 else 1)<30))=true
 line:(apos.endLine == cpos.line)=true
 trees:dz cpos (bh [e,f] X.env)=[(false,eval e X.env),(false,eval f X.env)]
section
variable{X:Cx}{pins:List (Addr × Obj)}{σ:St}{H:Hp}{s:Shared}{a:Addr}{y d:V}{u r:Value}{o:Option V}{A:aN}{E:Value->Shared->Prop}
end
section
variable{X:Cx}{o e f:Expr}{apos cpos:Pos}{td ty tx:TE}
end
section
variable{X:Cx}{pins:List (Addr × Obj)}{σ:St}{H:Hp}{s:Shared}{a:Addr}{kvs:List (Key × V)}{A:aN}{E:Value->Shared->Prop}
end
section
variable{X:Cx}{pins:List (Addr × Obj)}{σ:St}{H:Hp}{s:Shared}{a:Addr}{y:V}{u:Value}{A:aN}{E:Value->Shared->Prop}
end
end L2
namespace Att
open PySem PySem.W PySem.Calls PyProof.Rows
theorem Dy{P:Ac}{h:Heap}:∀(ns:List Int)(vs:List Value),WellAll P h vs (ns.map WData.int)->uo vs ns:=by
 intro ns
 induction ns with
 |nil =>
  intro vs w;rw[zP]at w;cases w;exact .nil
 |cons n ns ih =>
  intro vs w;rw[dM]at w;cases w with
  |cons a b =>
   cases a;exact .cons _ _ (ih _ b)
theorem acf{l:OpenLaw}{n:Nat}(hn:l.most=some n){P:Ac}{h:Heap}{args:List WData}{vals:List Value}
  (hpre:l.row.toRowW.claim.pre args=true) (hwl:WellAll P h vals args):
  ∃a vs ns,vals=[Value.ref a]/\args=[WData.list (ns.map WData.int)]/\h.get? a=some { cls:=.type "list",data:=.seq vs.toArray }/\uo vs ns/\ns.length<=n:=by
 have hsh:WShape.hasAll [] args [.list .int]=true:=(pre_splitW hpre).1;have hc:l.pre.holds [] { args:=args }=true:=(pre_splitW hpre).2;obtain⟨d,r,rfl,h1,h2⟩:=hasAllW_cons hsh;obtain rfl:=hasAllW_nil h2;obtain⟨xs,rfl,h3⟩:=hasW_list h1;obtain⟨ns,rfl⟩:=items_int h3;have hlen:ns.length<=n:=by
  unfold OpenLaw.pre at hc;have h4:(WTm.not (.lt (.lit (.int (n:Int))) (.len (.arg 0)))).holds [] { args:=[.list (ns.map .int)] }=true:=by
   have h4:=(holds_andW hc).1;rwa[hn]at h4
  have h5:=condW_of h4 (w_not (w_lt w_lit (w_len_list (w_arg rfl))));rw[aB]at h5;refine aex fun q=>?_;have q':(n:Int)<((ns.length:Nat):Int):=by lia
  first
   |(rw[decide_eq_true q']at h5;exact absurd h5 tb_g%)
   |(simp at h5;lia)
 cases hwl with
 |cons w1 w2 =>
  cases w2;cases w1 with
  |list ho hall=>show#[_,_,ns,rfl,rfl,ho,Dy ns _ hall,hlen]
theorem acg(l:OpenLaw)(args:List WData):l.row.toRowW.claim.post args (.bool true) args=true:=
 postW_of (r:=l.row.toRowW) (X:=(true == true))
  (show WShape.has [] (.bool true) .bool=true by first|rfl|decide|simp[WShape.has,WShape.arms,WShape.armsAll])
  (show(WTm.eq .res (.lit (.bool true))).value [] { args:=args,res:=some (.bool true),after:=args }=some (.bool (true == true))from w_eq_bool (w_res rfl) w_lit) rfl
theorem Uj{l:OpenLaw}{n:Nat}{q:aG}{loose:List Str}{XP:(Str->Option Value)->Heap->Prop}{YP:World->Heap->Prop}{d:Px}
  (hn:l.most=some n) (hdf:d.params.defaults=[])
  (call:∀ (w:World) (s₀ s₁:Shared) (mg mb:Str->Option Value) (fa:Addr) (o:Obj) (pm cd doc:Value) (a:Addr) (vs:List Value) (ns:List Int),
   Ground q loose [] XP w s₀ mg mb s₁.heap->YP w s₁.heap ->
   s₁.heap.get? fa=some o->o.data=.func (docDef d.name d.params d.body d.scope pm cd doc)->s₁.heap.CodeRec cd d.name->mg d.name=some (.ref fa) ->
   s₁.heap.get? a=some { cls:=.type "list",data:=.seq vs.toArray }->uo vs ns->ns.length<=n->s₁.gens=#[] ->
   fC (model l.prog w) wY (.call (.ref fa) #[[.ref a],[]]) (fun r s'=>r = .ok (.ret (.bool true))/\OldK s₁.heap s'.heap/\s'.os=s₁.os/\o8 s'.gens) s₁) :
  WalkO q loose XP YP l.row.toRowW d [] (fun f vs=>O7 f vs):=by
 intro w s₀ s₁ mg mb G Y fa o pm cd doc dV kV ho hd hcd hD hmg hg args vals as hpre hlay hrd hwl hlo;obtain rfl:dV=.none:=Dflts.none hD hdf;obtain rfl:kV=.none:=Dflts.noKw hD;obtain⟨a,vs,ns,rfl,rfl,hobj,hints,hlen⟩:=acf hn hpre hwl;refine enter_call (zW (call w s₀ s₁ mg mb fa o pm cd doc a vs ns G Y ho (fd_plain hd) hcd hmg hobj hints hlen hg) fun r s' hq=>?_);obtain⟨rfl,h2,h3,h4⟩:=hq;show#[.inl #[.bool true,.bool true,[],rfl,fun _=>rfl,.bool true,acg l _,fun _=>#[List.Pairwise.nil,fun _ hm=>(nomatch hm)]],h2,h3,h4]
section
variable{prog:aG}{w:World}{A:aN}{E:Value->Shared->Prop}{s:Shared}{K:Frag}
def ledger(h:Heap)(L d:Addr):List (Addr × Obj):=(dY h.objs.size).filterMap fun a=>if a=L\/a=d then none else(h.get? a).map fun o=>(a,o)
end
end Att
namespace L2
open PySem PySem.Spec PyProof.Rows
theorem vM:∀{vs:List Value}{ns:List Int},uo vs ns->Vals (ns.map V.int) vs
 |_,_,.nil=>.nil
 |_,_,.cons n t h=>.cons #[t,rfl] (vM h)
def Only(H:Hp):Prop:=∀b,H b=none\/∃o xs,H b=some (.frz o (.lst xs))
theorem agl{P:aG}{w:World}{K:aF}{mg mb:Str->Option Value}{CX:CXT}{k:Nat}{fa a:Addr}{fd:FuncData}{x:Str}{sp:Sp}{s₁:Shared}{vs:List Value}{ns:List Int}
  (KX:K.In s₁.heap) (hns:s₁.heap.Ns bT mg) (hb:s₁.heap.Ns XH mb) (hbb:∀x:Str,x ≠ "__name__" -> mb x=qL x) (hlim:s₁.heap.NoLimit) (hg:s₁.gens=#[])
  (ha:s₁.heap.get? a=some { cls:=.type "list",data:=.seq vs.toArray }) (hi:uo vs ns) (hl:ns.length<=sizeLine) (hr:fD k wY)
  (F:∀base:Heap,K.In base->base.Ns bT mg->nA P w K mg base CX k fa fd [x] sp) (hbind:∀(s:Shared)(u:Value),Ab s fd #[[u],[]] [(x,u)])
  (hsp:∀H:Hp,Only H->SqL K H a (ns.map V.int)->sp [.ref a] H (fun v _=>v=.bl true) fun _ _ _=>False)
  (hCX:∀H e s',CX [] H s₁ (fun _ _ _=>False) e s'->False):
  fC (model P w) wY (.call (.ref fa) #[[.ref a],[]]) (fun r s'=>r=.ok (.ret (.bool true))/\OldK s₁.heap s'.heap/\s'.os=s₁.os/\o8 s'.gens) s₁:=by
 have rv:=vM hi;have lenV:=hi.length;have core:∀H:Hp,Only H->SqL K H a (ns.map V.int)->HOk P w H s₁.heap->(∀b,H b≠none->b=a)->(H a≠none->K.lookup a=none) ->
   fC (model P w) wY (.call (.ref fa) #[[.ref a],[]]) (fun r s'=>r=.ok (.ret (.bool true))/\OldK s₁.heap s'.heap/\s'.os=s₁.os/\o8 s'.gens) s₁:=by
  intro H hO hS hok hA hK;have aaF:∀{b:Addr}{o:Obj},s₁.heap.get? b=some o->H b=none->(Qv s₁.heap H).get? b=some o:=fun e n=>afW e n;have noA:∀{b:Addr}{o:Obj}{es:Array DictEntry}{ep:Nat},s₁.heap.get? b=some o->o.data=.dict es ep->H b=none:=fun {b o es ep} e d=>by
   cases q:H b with
   |none=>rfl
   |some u =>
    have e':b=a:=hA b (by rw[q];simp);subst e';rw[ha]at e;cases e;have d':Data.seq vs.toArray _=Data.dict es ep:=d;cases d'
  have nsK:∀ {b:Addr} {m:Str->Option Value},s₁.heap.Ns b m->(Qv s₁.heap H).Ns b m:=fun {b m} ⟨o,es,ep,e,d,r⟩=>#[o,es,ep,aaF e (noA e d),d,r];have hKb:K.In (Qv s₁.heap H):=fun b o e=>aaF (KX b o e) (by
   cases q:H b with
   |none=>rfl
   |some u =>
    have e':b=a:=hA b (by rw [q];simp);subst e';rw [hK (by rw [q];simp)] at e;cases e)
  have hM:Mod K mg (Qv s₁.heap H):=#[hKb,nsK hns,#[mb,nsK hb,hbb],let ⟨mc,h1,h2⟩:=hlim;#[mc,nsK h1,h2]];have e0:K5 P w K mg (Qv s₁.heap H) wY [] s₁ H:=#[rfl,hM,fun b o e=>ah6 e,Ag (abY _ _),trivial,fun b hb=>absurd (show b∈([]:List Addr)from hb) (by simp),hok,.of_eq hg];refine zW ((F _ hKb (nsK hns)).run wY [] s₁ H #[[.ref a],[]] [.ref a] [.ref a] _ _ hr e0 (hbind s₁ (.ref a)) (.cons rfl .nil) (hsp H hO hS)) fun r s' h=>?_;cases r with
  |error e=>exact(hCX H e s' h).elim
  |ok fl =>
   cases fl with
   |next=>exact fP h
   |brk=>exact fP h
   |cont=>exact fP h
   |ret u =>
    obtain⟨v,H',os,bare,un,hok',r',q⟩:=h;have q':v=.bl true:=q;subst q';obtain rfl:u=Value.bool true:=r';show#[rfl,OldK.of_keep fun b o e=>?_,os,bare];cases q:H b with
    |none=>exact un.keep b o e q (by intro z;exact absurd (show b∈([]:List Addr)from z) (by simp)) (by simp)
    |some u =>
     rcases hO b with z|⟨ob,xs,z⟩
     ·rw[q]at z;cases z
     ·have z2:=un.rm b ob _ z;obtain⟨e1,_⟩:=hok b _ z;obtain⟨e2,_⟩:=hok' b _ z2;rw[e]at e1;cases e1;exact e2
 cases hk:K.lookup a with
 |some o =>
  have e:=KX a o hk;rw[ha]at e;cases e;refine core (fun _=>none) (fun _=>.inl rfl) (.inr #[_,vs.toArray,_,hk,rfl,rfl,rfl,by rwa[cH,lenV],by simpa using rv]) (fun b u z=>by have z':(none:Option HO)=some u:=z;cases z') (fun b z=>absurd rfl z) fun z=>absurd rfl z
 |none =>
  refine core (fun b=>if b=a then some (.frz { cls:=.type "list",data:=.seq vs.toArray } (.lst (ns.map V.int)))else none) (fun b=>?_) (.inl (.inr #[{ cls:=.type "list",data:=.seq vs.toArray },if_pos rfl])) (fun b u z=>?_) (fun b z=>?_) fun _=>hk
  ·by_cases hb:b=a
   ·exact .inr #[_,_,if_pos hb]
   ·exact .inl (if_neg hb)
  ·by_cases hb:b=a
   ·have z':=(if_pos hb).symm.trans z;cases z';subst hb;show#[ha,by rwa[aB],vs,_,rv,ha]
   ·have z':=(if_neg hb).symm.trans z;cases z'
  ·by_cases hb:b=a
   ·exact hb
   ·exact absurd (if_neg hb) z
abbrev KOf{K:aF}{h:Heap}(_:K.In h):aF:=K
theorem aip{l:PySem.W.OpenLaw}{n k:Nat}{q:aG}{loose:List Str}{XP:(Str->Option Value)->Heap->Prop}{YP:World->Heap->Prop}{d:Px}{K:Ac->aF}{CX:World->CXT}{sp:World->Sp}{x:Str}
  (hn:l.most=some n) (hn2:n<=sizeLine) (hdf:d.params.defaults=[]) (hr:fD k wY)
  (hY:∀(w:World)(h:Heap),YP w h->(K w.params).In h)
  (F:∀ (w:World) (mg:Str->Option Value) (fa:Addr) (h:Heap),(K w.params).In h->h.Ns bT mg->mg d.name=some (.ref fa) ->
   ∃fd:FuncData,(∀(s:Shared)(u:Value),Ab s fd #[[u],[]] [(x,u)]) /\
    ∀ base:Heap,(K w.params).In base->base.Ns bT mg->nA l.prog w (K w.params) mg base (CX w) k fa fd [x] (sp w))
  (hsp:∀(w:World)(H:Hp)(a:Addr)(ns:List Int),ns.length<=n->Only H->SqL (K w.params) H a (ns.map V.int)->sp w [.ref a] H (fun v _=>v=.bl true) fun _ _ _=>False)
  (hCX:∀(w:World)(H:Hp)(s:Shared)(e:Value)(s':Shared),CX w [] H s (fun _ _ _=>False) e s'->False):
  Xn q loose XP YP l.row.toRowW d [] (fun f vs=>O7 f vs):=by
 refine Att.Uj hn hdf fun w s₀ s₁ mg mb fa o pm cd doc a vs ns G Y ho hd hcd hmg hobj hints hlen hg=>?_;have KX:=hY w _ Y;obtain⟨fd,hb,hF⟩:=F w mg fa _ KX G.T.g hmg;exact agl KX G.T.g G.T.b G.T.builtins G.T.nolimit hg hobj hints (bW hlen hn2) hr hF hb (fun H hO hS=>hsp w H a ns hlen hO hS) fun H e s'=>hCX w H s₁ e s'
abbrev CX0:CXT:=fun _ _ _ _ _ _=>False
abbrev E0:XK:=fun _ _ _=>False
theorem Uk{X:Cx}:Passes CX0 X E0:=fun _ _ _ _ _ _ _ h=>h.elim
structure Fun(K:aF)(x qual:Str)(st:Stmt)(f:Addr)(fd:FuncData):Prop where
 ex:∃(oc:Value)(od:Option Addr)(kV doc pm:Value)(an:Option Addr)(cdv ct:Value) (osl:Array (Option Value)),
  fd=iB x qual (gM st) (fY st) (aA st) .none kV doc pm an cdv ct/\K.lookup f=some #[oc,od,.func fd,osl]/\G9 K cdv qual=true
 kp:lQ K (.ref f)=true
section
variable{P:aG}{w:World}{K:aF}{mg:Str->Option Value}{base:Heap}
theorem Fun.ok{x qual:Str}{st:Stmt}{f:Addr}{fd:FuncData}{N ps:List Str}{k:Nat}{sp:Sp}(F:Fun K x qual st f fd)(S:aJ N ps (aA st))(len:∀vs H Q E,sp vs H Q E->vs.length=ps.length)
  (hbody:∀ (cdv:Value) (A:aN) (outer:List Env) (s:Shared) (H:Hp) (vs:List V) (Q:VK) (E:XK),fD k (A.deeper (eV qual (aA st) s.heap.objs.size f cdv))->sp vs H Q E ->
   ∃ t,PSs (jx CX0 P w K mg base N qual (aA st) f cdv A outer s H E).nox (fY st) t/\t { nx:=fun _ H'=>Q .non H',rt:=Q } (start N vs) H):nA P w K mg base CX0 (k+1) f fd ps sp:=by
 obtain⟨oc,od,kV,doc,pm,an,cdv,ct,osl,rfl,lk,hcd⟩:=F.ex;refine ajo lk hcd S len fun A outer s H vs Q E hr hsp=>?_;obtain⟨t,h,q⟩:=hbody cdv A outer s H vs Q E hr hsp;show#[t,h.nox,q]
theorem Fun.binds{x qual:Str}{st:Stmt}{f:Addr}{fd:FuncData}{ps:List Str}(F:Fun K x qual st f fd)
  (h:∀(kV doc pm:Value)(an:Option Addr)(cdv ct:Value)(us:List Value),us.length=ps.length->wU (iB x qual (gM st) (fY st) (aA st) .none kV doc pm an cdv ct) #[us,[]]=pure (ps.zip us)):Binds K fd ps []:=by
 obtain⟨oc,od,kV,doc,pm,an,cdv,ct,osl,rfl,lk,hcd⟩:=F.ex;exact .all (h kV doc pm an cdv ct)
theorem aly{x qual:Str}{st:Stmt}{f:Addr}{oc:Value}{od an:Option Addr}{osl:Array (Option Value)}{kV doc pm cdv ct:Value}(l:K.lookup f=some #[oc,od,.func (iB x qual (gM st) (fY st) (aA st) .none kV doc pm an cdv ct),osl])
  (c:G9 K cdv qual=true) (k:lQ K (.ref f)=true):Fun K x qual st f (iB x qual (gM st) (fY st) (aA st) .none kV doc pm an cdv ct):=#[#[oc,od,kV,doc,pm,an,cdv,ct,osl,rfl,l,c],k]
end
theorem agm{A:aN}{k:Nat}(hr:fD k A):A.units+1<cLine:=um (Yc (by decide:1<=64) _) hr.units
theorem aL{n:Nat}(h:n<=1000):n<sizeLine:=um h tb_g%
section
variable{X:Cx}
theorem pv(i:Nat){x:Str}{pos:Pos}(hN:X.N[i]? = some x:=by rfl)(hv:Vis X.env.scope x:=by first|exact Or.inl rfl|exact Or.inr (Or.inl rfl)|exact Or.inr (Or.inr rfl))(hd:(x == ("__debug__" : Str))=false:=by decide)
  (hcd:(x == ("__classdict__" : Str))=false:=by decide):PE X (.Name x pos) (TJ i):=alb hN hv hd hcd
end
theorem tL{A B:Prop}(h:B):if false=true then A else B:=by
 rwa[if_neg cM]
theorem jP{A B:Prop}(h:A):if true=true then A else B:=by
 rwa[if_pos rfl]
theorem aY{c A B:Prop}[Decidable c](h1:c->A)(h2:¬ c->B):if c then A else B:=by
 by_cases h:c
 ·rw[if_pos h];exact h1 h
 ·rw[if_neg h];exact h2 h
theorem Jh{c A B:Prop}[Decidable c](hc:c)(h:B):if(!decide c)=true then A else B:=by
 rw[decide_eq_true hc];exact tL h
def Same(H H':Hp):Prop:=∀b o,H b=some o->H' b=some o
theorem Same.refl(H:Hp):Same H H:=fun _ _ h=>h
theorem Same.trans{H H1 H2:Hp}(a:Same H H1)(b:Same H1 H2):Same H H2:=fun c o h=>b c o (a c o h)
theorem Same.free{H H':Hp}(e:Same H H'){l:Addr}(h:H' l=Option.none):H l=Option.none:=by
 cases q:H l with
 |none=>rfl
 |some o =>
  rw[e l o q]at h;cases h
theorem Same.seq{K:aF}{H H':Hp}{a:Addr}{xs:List V}(e:Same H H')(h:SqL K H a xs):SqL K H' a xs:=by
 rcases h with(h|⟨o,h⟩)|h
 ·exact .inl (.inl (e _ _ h))
 ·exact .inl (.inr #[o,e _ _ h])
 ·exact .inr h
section
variable{κ:Type}[DecidableEq κ]
end
end L2
set_option Elab.async false
set_option maxRecDepth 100000
namespace L2
open PySem PySem.Spec PyProof.Rows
section
variable{X:Cx}
def ajs(K:aF):List V->Hp->VK->Prop:=fun xs H Q=>(∃x n,xs=[x]/\LenV K x H n/\Q (.int n) H)\/∃a kvs,xs=[V.ref a]/\Rd H a (.dK kvs)/\Q (.int kvs.length) H
theorem Zf:fU X (.builtin "len") (fun xs H Q=>∃a kvs,xs=[V.ref a]/\Rd H a (.dK kvs)/\Q (.int kvs.length) H):=by
 walk_at "w"
 obtain⟨a,kvs,rfl,ha,q⟩:=h;obtain⟨u,rfl,ru⟩:=vals1 r;cases ru;exact d_len I ha fun t s' I'=>#[.int kvs.length,H,I',#[t,rfl],q]
theorem MP:fU X (.builtin "len") (ajs X.K):=af7.or Zf
def Ul(K:aF):R2:=fun x y H Q=>rIxL K x y H Q\/rIxT K x y H Q\/∃a v,x=.ref a/\ab9 H a y (some v)/\Q v H
theorem aiq(hu:X.A.units+1<cLine):IxR X (fun x y H Q=>∃a v,x=.ref a/\ab9 H a y (some v)/\Q v H):=by
 intro value slice pins s σ H x y v u Q I rx ry h hs;obtain⟨a,z,rfl,g,q⟩:=h;obtain rfl:v=Value.ref a:=rx;have hT:=Uh I g;unfold Qe;refine au ?_;rw[getitemInPython_of_ne hT.not_modules];refine au (Hi hT PySem.F.slot_dict_getitem.lookup ?_);have fin:wpAny (model X.prog X.w) X.A (XC slice false (.ref a) u) (fun r s₃=>wpAny (model X.prog X.w) X.A (letTemporaryGo value (.ref a) r >>= fun _=>pure r) (EP X pins σ Q) X.xe s₃) X.xe s:=by
  rw[hs];exact wpAny_operating (acd hu I g ry fun w' s3 I3 rw'=>au (wpAny_letTemporaryGo (aK #[z,H,I3,rw',q])))
 first
  |exact aK (au fin)
  |exact au (aK (au fin))
  |exact au fin
theorem ixG(hu:X.A.units+1<cLine):IxR X (Ul X.K):=aij.or (alr.or (aiq hu))
def agn:V->V->V->Hp->(Hp->Prop)->Prop:=fun o i v H Q=>ajp o i v H Q\/∃a H',o=.ref a/\DPut H a i v H'/\Q H'
theorem setG(hu:X.A.units+1<cLine):PSet X agn:=by
 intro pins s σ H o i v ov iv u Q I ro ri rv h;rcases h with h|⟨a,H',rfl,g,q⟩
 ·exact set_list pins s σ H o i v ov iv u Q I ro ri rv h
 ·obtain rfl:ov=Value.ref a:=ro;exact ace hu I g ri rv fun s' I'=>#[H',I',q]
def rInG(K:aF)(neg:Bool):R2:=fun x y H Q=>rIn K neg x y H Q\/∃a o,y=.ref a/\ab9 H a x o/\Q (.bl (if neg then !o.isSome else o.isSome)) H
theorem inG(hu:X.A.units+1<cLine):OpR X (gG .In) (rInG X.K false):=by
 walk_at "u"
 rcases h with h|⟨a,o,rfl,g,q⟩
 ·exact ab8 pins s σ H x y v u Q I rx ry h
 ·obtain rfl:u=Value.ref a:=ry;exact d_in hu I g rx fun s' I'=>#[.bl o.isSome,H,I',rfl,q]
theorem air{P:aG}{w:World}{k:Key}{u:Value}(h:(cg P w).is k u=true):RelV (kV k) u:=by
 rcases dI (show Iw k u=true from h)with⟨i,t,rfl,rfl⟩|⟨x,t,rfl,rfl⟩
 ·show#[t,rfl]
 ·show#[t,rfl]
theorem M4{P:aG}{w:World}:∀{kvs:List (Key × V)} {vs:List (Key × Value)} {us:List Value},KV kvs vs->us.length=vs.length ->
  (∀(j:Nat)(u:Value),us[j]? = some u->∃k x,vs[j]? = some (k,x)/\(cg P w).is k u=true)->Vals (kvs.map fun p=>kV p.1) us
 |[],_,[],.nil,_,_=>.nil
 |[],_,_::_,.nil,hl,_=>by cases hl
 |_::_,_,[],.cons _ _,hl,_=>by cases hl
 |p::ps,_,u::us,.cons (b:=q) r t,hl,h=>by
  obtain⟨k,x,e,hk⟩:=h 0 u rfl;have e':q=(k,x):=by simpa using e
  have e2:p.1=k:=by rw[r.1,e']
  refine .cons (by show RelV (kV p.1) u;rw[e2];exact air hk) (M4 (P:=P) (w:=w) t (by simpa using hl) fun j v hv=>?_);obtain⟨k',x',e'',hk'⟩:=h (j+1) v (by simpa using hv);show#[k',x',by simpa using e'',hk']
def rIsi(K:aF):List V->Hp->VK->Prop:=fun xs H Q=>∃x c t cv b,xs=[x,c]/\RelV c cv/\(∀u,RelV c u->u=cv)/\Bh K H x t/\nF K t cv=some b/\Q (.bl b) H
theorem call_isinstance:fU X (.builtin "isinstance") (rIsi X.K):=by
 walk_at "w"
 obtain⟨x,c,t,cv,b,rfl,rc,inj,ty,e,q⟩:=h;obtain⟨u,w',rfl,ru,rw'⟩:=vals2 r;obtain rfl:=inj w' rw';exact ab6 I ru ty e fun tk=>#[.bl b,H,I.tok tk,rfl,q]
variable{a b c d:Expr}{ta tb tc td:TE}{pos:Pos}
end
section
variable{P:aG}{w:World}{H H':Hp}{h h':Heap}{a:Addr}{o:HO}
theorem cA.ex(x:cA P w H h a o):∃u,h.get? a=some u:=by
 cases o with
 |lst xs=>obtain⟨_,_,_,_,e⟩:=x;show#[_,e]
 |tup xs=>obtain⟨_,_,_,ob,e,_⟩:=x;show#[ob,e]
 |dK kvs=>obtain⟨_,_,_,_,o,_,_,e,_⟩:=x;show#[o,e]
 |dT kvs=>obtain⟨_,_,_,_,o,_,_,e,_⟩:=x;show#[o,e]
 |set S n=>obtain⟨o,_,_,_,e,_⟩:=x;show#[o,e]
 |ins C dx fs=>obtain⟨_,_,_,e,_⟩:=x;show#[_,e]
 |own y=>exact x
 |xd fs=>obtain⟨_,⟨o,_,_,e,_⟩,_⟩:=x;show#[o,e]
 |rng lo hi=>obtain⟨_,_,_,e⟩:=x;show#[_,e]
 |frz ob u=>obtain⟨e,_⟩:=x;show#[_,e]
 |tbl ps=>show#[_,show h.get? a=some _ from x]
 |met f y=>show#[_,show h.get? a=some _ from x]
 |ext φ=>obtain⟨_,⟨o,e⟩,_⟩:=x;show#[o,e]
theorem HOk.M5(x:HOk P w H h)(k:∀b u,h.get? b=some u->h'.get? b=some u)(hn:H a=none)(new:cA P w (upd H a o) h' a o):HOk P w (upd H a o) h':=fun b u e=>by
 by_cases hb:b=a
 ·subst hb;rw[aj]at e;cases e;exact new
 ·rw[ao hb]at e;exact(x b u e).stay (fun c v _ q=>k c v q) (fun c q=>by rwa[ao (ak q hn)]) fun c xs q=>by rwa[ao (ak q hn)]
theorem Un.M5{fs ex:List Addr}(k:∀b u,h.get? b=some u->h'.get? b=some u)(hne:∀b u,h.get? b=some u->b≠a)(hn:H a=none):Un fs ex H (upd H a o) h h' where
 keep:=fun b u q _ _ _=>k b u q
 slot:=fun b u q _ _ _=>#[u.slots,k b u q]
 free:=fun b u q n _=>by rwa[ao (hne b u q)]
 there:=fun b u q _=>#[u,k b u q]
 tups:=fun b xs q=>by rwa[ao (ak q hn)]
 rm:=fun b u xs q=>by rwa[ao (ak q hn)]
 uH:=fun b ps q=>#[#[],by rw[ao (ak q hn),q];simp]
end
section
variable{X:Cx}{pins:List (Addr × Obj)}{σ:St}{H H':Hp}{s:Shared}{h':Heap}
theorem Inv.none_of(I:Inv X pins σ H s){a:Addr}(hne:∀b u,s.heap.get? b=some u->b≠a):H a=none:=by
 cases q:H a with
 |none=>rfl
 |some u =>
  obtain⟨v,e⟩:=(I.hok a u q).ex;exact absurd rfl (hne a v e)
theorem Inv.M5{a:Addr}{o:HO}{t':Nat}(I:Inv X pins σ H s)(k:∀b u,s.heap.get? b=some u->h'.get? b=some u)(hne:∀b u,s.heap.get? b=some u->b≠a)(new:cA X.prog X.w (upd H a o) h' a o):
  Inv X pins σ (upd H a o) { s with heap:=h',toks:=t' }:=I.un (Un.M5 k hne (I.none_of hne)) (I.hok.M5 k (I.none_of hne) new)
end
section
variable{X:Cx}{tg:Expr}
structure MI(X:Cx)(o:Expr)(m:Str)(apos cpos:Pos):Prop where
 base:rZ o m X.env (eval o X.env)=eval o X.env
 line:(apos.endLine == cpos.line)=true
end
section
variable{X:Cx}{l:Expr}{td:TE}{p kp cpos apos pos:Pos}{j:Nat}{bpos:Pos}
end
end L2
set_option autoImplicit false
namespace MG
abbrev Tab:=List (Int × Int)
def look(c:Tab)(k:Int):Option Int:=(c.find? fun p=>decide (p.1=k)).map (·.2)
def low(c:Tab)(k:Int):Int:=(look c k).getD 0
def put(c:Tab)(k v:Int):Tab:=
 if(c.any fun p=>decide (p.1=k))=true then c.map (fun p=>if p.1=k then(p.1,v)else p)else c++[(k,v)]
def keys(c:Tab):List Int:=c.map (·.1)
def vals(c:Tab):List Int:=c.map (·.2)
def fitBy(c:Tab)(cut:Int):Tab:=(c.filter fun p=>decide (cut<p.2)).map fun p=>(p.1,p.2-cut)
theorem ago(k:Int):look [] k=none:=rfl
theorem Bm(p:Int × Int)(r:Tab)(k:Int):look (p::r) k=if p.1=k then some p.2 else look r k:=by
 unfold look;rw[qJ];by_cases h:p.1=k
 ·rw[if_pos h];simp[h]
 ·rw[if_neg h];simp[h]
theorem aaG(k:Int):low [] k=0:=rfl
theorem aaH(c:Tab)(k:Int):(c.any fun p=>decide (p.1=k))=true↔k∈keys c:=by
 unfold keys;rw[List.any_eq_true];constructor
 ·rintro⟨p,h1,h2⟩;exact fL.mpr #[p,h1,of_decide_eq_true h2]
 ·intro h;obtain⟨p,h1,h2⟩:=fL.mp h;show#[p,h1,decide_eq_true h2]
theorem K7(c:Tab)(k:Int):look c k=none↔k∉keys c:=by
 induction c with
 |nil=>simp[ago,keys]
 |cons p r ih =>
  rw[Bm];by_cases h:p.1=k
  ·rw[if_pos h];simp[keys,h]
  ·rw[if_neg h,ih];simp[keys];intro _ e;exact h e.symm
theorem Dz(c:Tab)(k:Int):(look c k).isSome=true↔k∈keys c:=by
 have h:=K7 c k;cases e:look c k with
 |none=>rw[e]at h;simp at h;simp[h]
 |some v=>rw[e]at h;simp at h;simp[h]
theorem Dp{c:Tab}(hn:(keys c).Nodup){p:Int × Int}(h:p∈c):look c p.1=some p.2:=by
 induction c with
 |nil=>cases h
 |cons q r ih =>
  rw[Bm];have hn':(q.1::keys r).Nodup:=hn;rw[fK]at hn';rcases aZ.mp h with e|e
  ·subst e;rw[if_pos rfl]
  ·have:p.1∈keys r:=fL.mpr #[p,e,rfl];rw[if_neg (fun(z:q.1=p.1)=>hn'.1 (z ▸ this))];exact ih hn'.2 e
theorem xH{c:Tab}(hn:(keys c).Nodup){p:Int × Int}(h:p∈c):low c p.1=p.2:=by
 unfold low;rw[Dp hn h];rfl
theorem ach(c:Tab)(k v:Int):keys (c.map fun p=>if p.1=k then(p.1,v)else p)=keys c:=by
 unfold keys;rw[fM];apply Dc;intro p _;show(if p.1=k then(p.1,v)else p).1=p.1;split <;> rfl
theorem ais{c:Tab}{k v:Int}(h:k∈keys c):put c k v=c.map fun p=>if p.1=k then(p.1,v)else p:=by
 unfold put;rw[if_pos ((aaH c k).mpr h)]
theorem aaI{c:Tab}{k v:Int}(h:k∉keys c):put c k v=c++[(k,v)]:=by
 unfold put;rw[if_neg (fun z=>h ((aaH c k).mp z))]
theorem agp(c:Tab)(k v:Int):keys (put c k v)=if k∈keys c then keys c else keys c++[k]:=by
 by_cases h:k∈keys c
 ·rw[if_pos h,ais h,ach]
 ·rw[if_neg h,aaI h];simp[keys]
theorem yH(c:Tab)(k v j:Int):j∈keys (put c k v)↔j=k\/j∈keys c:=by
 rw[agp];by_cases h:k∈keys c
 ·rw[if_pos h];show#[Or.inr,fun z=>z.elim (fun e=>e ▸ h) id]
 ·rw[if_neg h,dX,eY];show#[fun z=>z.elim Or.inr Or.inl,fun z=>z.elim Or.inr Or.inl]
def above(c:Int)(l:List Int):Int:=((l.filter fun v=>decide (c<v)).map fun v=>v-c).sum
structure IsCut(room:Nat)(c:Tab)(cut:Int):Prop where
 ex:∃d:List Int,d.Perm (vals c)/\d.Pairwise (· >= ·)/\d[room]? = some cut
def alz(room:Nat)(c:Tab)(c':Tab)(cut:Int):Prop:=
 if c.length<=room then cut=0/\c'=c else IsCut room c cut/\c'=fitBy c cut
structure Ok(room:Nat)(c:Tab)(total lost:Int)(tw:Int->Int):Prop where
 nd:(keys c).Nodup
 pos:∀p∈c,1<=p.2
 len:c.length<=room
 l0:0<=lost
 sum:(vals c).sum+((room:Int)+1)*lost<=total
 lo:∀k,low c k<=tw k
 hi:∀k,tw k<=low c k+lost
structure Pre(room:Nat)(c:Tab)(total lost:Int)(tw:Int->Int):Prop where
 nd:(keys c).Nodup
 pos:∀p∈c,1<=p.2
 l0:0<=lost
 sum:(vals c).sum+((room:Int)+1)*lost<=total
 lo:∀k,low c k<=tw k
 hi:∀k,tw k<=low c k+lost
theorem Ok.pre{room:Nat}{c:Tab}{total lost:Int}{tw:Int->Int}(h:Ok room c total lost tw):Pre room c total lost tw:=#[h.nd,h.pos,h.l0,h.sum,h.lo,h.hi]
theorem Ok.empty(room:Nat):Ok room [] 0 0 (fun _=>0):=
 #[zO,(fun _ h=>by cases h),cU _,jq 0,by simp[vals],fun k=>by rw[aaG];exact jq 0,fun k=>by rw[aaG];exact jq 0]
end MG
set_option autoImplicit false
namespace MK
def K8(r:Int)(h:Nat):Prop:=∃m:Int,r=m*2 ^ h/\m % 2=1
theorem qj(n:Nat):(0:Int)<2 ^ n:=Qj tb_g%
theorem K8.uniq{r:Int}{h k:Nat}(a:K8 r h)(b:K8 r k):h=k:=by
 have key:∀{h k:Nat}{m n:Int},h<k->m*2 ^ h=n*2 ^ k->m % 2=1->False:=by
  intro h k m n hlt e hm;obtain⟨d,rfl⟩:∃d,k=h+(d+1):=#[k-h-1,by lia];rw[YD,<-Ie,Int.mul_right_comm]at e;have e2:=ae3 (afa (qj h)) e;rw[Yz,<-Ie]at e2;lia
 obtain⟨m,e1,h1⟩:=a;obtain⟨n,e2,h2⟩:=b;rcases aew h k with l|l|l
 ·exact(key l (e1.symm.trans e2) h1).elim
 ·exact l
 ·exact(key l (e2.symm.trans e1) h2).elim
def To(r x:Int)(i:Nat):Prop:=r=x*2 ^ i/\x≠0
theorem To.step{r x:Int}{i:Nat}(h:To r x i)(e:x % 2=0):To r (x / 2) (i+1):=by
 obtain⟨h1,h2⟩:=h;have hx:x=x / 2*2:=by lia
 show#[?_,by lia];rw[h1,Yz,Int.mul_comm (2 ^ i) 2,<-Ie,<-hx]
theorem To.stop{r x:Int}{i:Nat}(h:To r x i)(e:¬ x % 2=0):K8 r i:=#[x,h.1,by lia]
def M:Int:=1152921504606846976
theorem ajt:(2:Int) ^ 60=1152921504606846976:=by decide
theorem K8.ne{r:Int}{h:Nat}(a:K8 r h):r≠0:=by
 obtain⟨m,e,hm⟩:=a;intro z;rw[z]at e;rcases Int.mul_eq_zero.mp e.symm with q|q
 ·lia
 ·exact absurd q (afa (qj h))
theorem K8.lt{r:Int}{h:Nat}(a:K8 r h)(h0:0<=r)(h1:r<1152921504606846976):h<60:=by
 obtain⟨m,e,hm⟩:=a;rcases oY h 60 with q|q
 ·exact q
 ·obtain⟨d,rfl⟩:∃d,h=60+d:=#[h-60,by lia];exfalso;rw[YD,ajt]at e;have hd:=qj d;rcases afb m 0 with l|l
  ·have:m*(1152921504606846976*2 ^ d)<0:=ae4 l (by lia);lia
  ·have h3:1*(1152921504606846976*1)<=m*(1152921504606846976*2 ^ d):=Ao (by lia) (by lia) (by lia) (by lia);lia
theorem To.lt{r x:Int}{i:Nat}(h:To r x i)(h0:0<r)(h1:r<1152921504606846976):i<60/\0<x/\x<=r:=by
 obtain⟨e,hx⟩:=h;have hp:=qj i;have x0:0<x:=by
  rcases afb x 0 with l|l
  ·have:x*2 ^ i<0:=ae4 l hp;lia
  ·lia
 show#[?_,x0,?_]
 ·rcases oY i 60 with q|q
  ·exact q
  ·obtain⟨d,rfl⟩:∃d,i=60+d:=#[i-60,by lia];exfalso;rw[YD,ajt]at e;have hd:=qj d;have h3:1*(1152921504606846976*1)<=x*(1152921504606846976*2 ^ d):=Ao (by lia) (by lia) (by lia) (by lia);lia
 ·have h3:x*1<=x*2 ^ i:=Yw (by lia) (by lia);lia
end MK
set_option autoImplicit true
namespace L2
open PySem MG
def emb(c:Tab):List (Key × V):=c.map fun p=>((Sum.inl p.1:Key),V.int p.2)
theorem agq(c:Tab):((emb c).map fun p=>kV p.1)=(keys c).map V.int:=by
 unfold emb keys;rw[fM,fM];rfl
theorem Gd{a b:Int}:((Sum.inl a:Key)=Sum.inl b)↔a=b:=#[fun h=>afK h,fun h=>by rw[h]]
theorem Um(c:Tab)(k:Int):jz (emb c) (Sum.inl k:Key)=(look c k).map V.int:=by
 induction c with
 |nil=>rfl
 |cons p r ih =>
  have e:emb (p::r)=(Sum.inl p.1,V.int p.2)::emb r:=rfl;rw[e,Bm];by_cases h:p.1=k
  ·rw[yF (p:=((Sum.inl p.1:Key),V.int p.2)) (Gd.mpr h),if_pos h];rfl
  ·rw[yG (p:=((Sum.inl p.1:Key),V.int p.2)) (fun z=>h (Gd.mp z)),if_neg h,ih]
theorem agr{c:Tab}{k v:Int}(h:look c k=some v):jz (emb c) (Sum.inl k:Key)=some (.int v):=by rw[Um,h];rfl
theorem ait(c:Tab)(k:Int):((emb c).any fun kv=>decide (kv.1=(Sum.inl k:Key)))=c.any fun p=>decide (p.1=k):=by
 induction c with
 |nil=>rfl
 |cons p r ih =>
  have e:emb (p::r)=(Sum.inl p.1,V.int p.2)::emb r:=rfl;rw[e,tU,tU,ih];congr 1;by_cases h:p.1=k
  ·rw[decide_eq_true h,decide_eq_true (Gd.mpr h)]
  ·rw[decide_eq_false h,decide_eq_false (fun z=>h (Gd.mp z))]
theorem Uo(c:Tab)(k v:Int):putK (emb c) (Sum.inl k:Key) (.int v)=emb (put c k v):=by
 unfold putK put;rw[ait];by_cases h:(c.any fun p=>decide (p.1=k))=true
 ·rw[if_pos h,if_pos h];unfold emb;rw[fM,fM];apply Dc;intro p _;by_cases e:p.1=k
  ·simp[e]
  ·simp[e]
 ·rw[if_neg h,if_neg h];unfold emb;rw[bB];rfl
def But(p:Addr)(H H':Hp):Prop:=∀b o,H b=some o->b≠p->H' b=some o
theorem Same.but{H H':Hp}(h:Same H H')(p:Addr):But p H H':=fun b o e _=>h b o e
theorem But.trans{p:Addr}{H H1 H2:Hp}(a:But p H H1)(b:But p H1 H2):But p H H2:=fun c o h n=>b c o (a c o h n) n
theorem But.upd{p:Addr}{H:Hp}{o:HO}:But p H (upd H p o):=fun b u h n=>by rwa[ao n]
theorem Same.new{H:Hp}{p:Addr}{o:HO}(h:H p=none):Same H (upd H p o):=fun b u e=>by rwa[ao (ak e h)]
section
variable{K:aF}{H:Hp}{Q:VK}
theorem rdF{a C dx:Addr}{fs:List (Str × V)}{f:Str}{v:V}(h:H a=some (.ins C dx fs))(c:Cls K C)(n:bG K C f)(l:fs.lookup f=some v)(q:Q v H):rFld K f (.ref a) H Q:=#[a,C,dx,fs,v,rfl,h,c,n,l,q]
theorem aH{a:Addr}{xs:List V}{i:Int}{v:V}(h:SqL K H a xs)(e:atI xs i=some v)(q:Q v H):Ul K (.ref a) (.int i) H Q:=.inl #[a,xs,i,v,rfl,rfl,h,e,q]
theorem aju{a:Addr}{kvs:List (Key × V)}{i:Int}{v:V}(h:Rd H a (.dK kvs))(e:jz kvs (Sum.inl i:Key)=some v)(q:Q v H):Ul K (.ref a) (.int i) H Q:=
 .inr (.inr #[a,v,rfl,.inl #[kvs,Sum.inl i,h,rfl,e.symm],q])
theorem cQ{a:Addr}{xs:List V}(h:SqL K H a xs)(q:Q (.int xs.length) H):ajs K [.ref a] H Q:=.inl #[.ref a,xs.length,rfl,.inl #[xs,h,rfl],q]
theorem ags{i:Int}{T:String}{b:Bool}(e:nF K (.type "int") (.type T)=some b)(q:Q (.bl b) H):rIsi K [.int i,.ty T] H Q:=
 #[_,_,_,_,b,rfl,rfl,fun _ h=>h,.int i,e,q]
end
theorem agt(K:aF)(t:Value)(h:(t == t)=true):nF K t t=some true:=by unfold nF;rw[if_pos h]
theorem alA{K:aF}{a b:String}{r:Bool}(h1:(Value.type a == Value.type b)=false)(h2:adK b=true)(h3:(ad8 a).map (·.contains (Value.type b))=some r):
  nF K (.type a) (.type b)=some r:=by
 unfold nF Og;rw[if_neg (by rw[h1];exact cM)];show(if adK b=true then PySem.W.subIn K (.type a) (.type b)else none)=some r;rwa[if_pos h2]
theorem pD{i j:Int}(h0:-(2 ^ 64)<i)(h1:i<2 ^ 64):af5 i j:=.inl #[by lia,by lia]
theorem gk{i j:Int}(h0:-(2 ^ 64)<j)(h1:j<2 ^ 64):af5 i j:=.inr #[by lia,by lia]
end L2
namespace L2
open PySem PySem.Spec PyProof.Rows
def DK(h h':Heap):Prop:=∀(b:Addr)(o:Obj),h.objs[b]? = some o->∃o',h'.objs[b]? = some o'/\o'.dict=o.dict
theorem DK.refl(h:Heap):DK h h:=fun _ o e=>#[o,e,rfl]
theorem DK.trans{h k l:Heap}(a:DK h k)(b:DK k l):DK h l:=fun c o e=>by
 obtain⟨o1,e1,d1⟩:=a c o e;obtain⟨o2,e2,d2⟩:=b c o1 e1;show#[o2,e2,d2.trans d1]
theorem agu{h:Heap}{b:Addr}{o:Obj}(e:h.get? b=some o):h.objs[b]? = some o:=by
 unfold Heap.get? at e;split at e
 ·cases e
 ·exact e
theorem DK.at{h k:Heap}{b:Addr}{o o':Obj}(a:DK h k)(e:h.get? b=some o)(e':k.get? b=some o'):o'.dict=o.dict:=by
 obtain⟨o2,q,r⟩:=a b o (agu e);rw[agu e']at q;cases q;exact r
theorem DK.push(h:Heap)(o:Obj):DK h (h.push o):=fun b u e=>by
 show#[u,?_,rfl];have lt:=(Ia.mp e).1;show(h.objs.push o)[b]? = some u;rwa[Array.getElem?_push,if_neg (bZ lt)]
theorem DK.update(h:Heap)(a:Addr){f:Obj->Obj}(k:∀o,(f o).dict=o.dict):DK h (h.update a f):=fun b u e=>by
 show ∃o',(h.objs.modify a f)[b]? = some o'/\_;rw[Array.getElem?_modify];by_cases z:a=b
 ·rw[if_pos z,e];show#[_,rfl,k u]
 ·rw[if_neg z,e];show#[u,rfl,rfl]
def jA{α:Type}:Sem α->Prop
 | .pure _=>True
 | .raise _=>True
 | .unsupported _=>True
 | .finish _=>True
 | .rule _ k=>jA (k ())
 | .at _ k=>jA (k ())
 | .load _ _ k=>∀o,jA (k o)
 | .update _ _ f k=>(∀o,(f o).dict=o.dict)/\jA (k ())
 | .loadIfAlive _ k=>∀o,jA (k o)
 | .point _ k=>jA (k ())
 | .alloc _ k=>∀a,jA (k a)
 | .fresh k=>∀a,jA (k a)
 | .ask k=>∀a,jA (k a)
 | .handled _ k=>∀a,jA (k a)
 | .stack k=>∀a,jA (k a)
 |_=>False
theorem jA.bind{α β:Type}{m:Sem α}{f:α->Sem β}(h:jA m)(g:∀a,jA (f a)):jA (m >>= f):=by
 show jA (m.bind f)
 induction m <;> simp only[Sem.bind,jA]at h ⊢ <;> first|exact g _|trivial|exact h.elim|(rename_i ih;exact ih _ h)|(rename_i ih;exact fun o=>ih o (h o))|(rename_i ih;show#[h.1,ih _ h.2])
theorem aiu{α:Type}{M:Model}{Γ:PySem.Ctx}{t:Sem α}{Q:α->Pos->Shared->Prop}{E:Value->Pos->Shared->Prop}{h0:Heap}(h:jA t):∀{p:Pos}{s:Shared},DK h0 s.heap->Sem.wp M Γ t Q E p s->Sem.wp M Γ t (fun a p s'=>Q a p s'/\DK h0 s'.heap) E p s:=by
 induction t with
 |pure x=>exact fun d q=>#[q,d]
 |raise v=>exact fun _ q=>q
 |finish|yield|fork|await|register=>exact fun _ q=>q
 |rule _ k ih | «at» _ k ih|point _ k ih=>exact fun d q=>ih () h d q
 |ask k ih|handled _ k ih|stack k ih|fresh k ih=>exact fun d q=>ih _ (h _) d q
 |alloc o k ih=>exact fun d q=>ih _ (h _) (d.trans (.push _ _)) q
 |load a _ k ih=>exact fun d ⟨o,ho,q⟩=>#[o,ho,ih _ (h _) d q]
 |update a _ f k ih=>exact fun d ⟨ha,q⟩=>#[ha,ih () h.2 (d.trans (.update _ _ h.1)) q]
 |_=>first|exact fP h|exact fun _ q=>q|(rename_i ih;exact fun d q=>ih _ (h _) d q)
theorem uK{α:Type}{M:Model}{A:aN}{E:Value->Shared->Prop}{s:Shared}{t:Sem α}{Q:α->Shared->Prop}(h:jA t)(q:wpAny M A t Q E s):wpAny M A t (fun a s'=>Q a s'/\DK s.heap s'.heap) E s:=
 fun Γ p z=>aiu h (DK.refl _) (q Γ p z)
theorem rC(v:Value)(i:Nat):jA (field v i):=by
 unfold field fieldsOf;refine .bind ?_ fun a=>by split <;> trivial
 cases v <;> first|trivial|skip
 refine .bind (fun o=>trivial) fun o=>?_;split <;> trivial
theorem pF(v x:Value)(i:Nat):jA (setField v i x):=by
 cases v <;> first|trivial|skip
 refine .bind (fun o=>trivial) fun o=>?_;split
 ·split
  ·show#[fun o=>?_,trivial];obtain⟨_,_,d,_⟩:=o;cases d <;> rfl
  ·trivial
 ·trivial
theorem Ji:∀l:List Env,jA (readyFrames l)
 |[]=>trivial
 |e::l=>by
  unfold readyFrames;split
  ·refine .bind (fun o=>trivial) fun o=>?_;split
   ·trivial
   ·refine .bind ?_ fun i=>.bind ?_ fun k=>.bind #[fun o=>rfl,trivial] fun _=>Ji l
    ·unfold behindIsImport;split
     ·trivial
     ·split
      ·trivial
      ·exact .bind (rC _ _) fun _=>trivial
    ·unfold keptBack;split
     ·split
      ·trivial
      ·refine .bind ?_ fun _=>trivial;exact .bind (fun l=>trivial) fun l=>trivial
     ·trivial
  ·trivial
theorem uL(e:Value)(f:Option Addr):jA (Pb e f):=by
 unfold Pb;refine .bind (rC _ _) fun a=>?_;split
 ·exact pF _ _ _
 ·trivial
theorem M6(e:Value)(env:Env):jA (uh e env):=by
 unfold uh;split
 ·refine .bind (rC _ _) fun a=>?_;have key:∀f,jA (do setField e 1 (<-afw a (<-aeg env) .none (iH f) .none (<-aem f (a != .none)))):=fun f=>by
   refine .bind ?_ fun b=>.bind ?_ fun p=>.bind ?_ fun n=>pF _ _ _
   ·unfold aeg frameObject;refine .bind (.bind (fun l=>trivial) fun l=>trivial) fun l=>.bind ?_ fun o=>by split <;> trivial
    split
    ·trivial
    ·exact .bind (Ji _) fun _=>trivial
   ·unfold aem;refine .bind (fun l=>trivial) fun l=>?_;split <;> trivial
   ·unfold afw newFields newObj;dsimp only;generalize List.toArray _=vs;split
    ·trivial
    ·exact fun _=>trivial
  split
  ·refine .bind (rC _ _) fun b=>?_;split
   ·trivial
   ·exact .bind (pF _ _ _) fun _=>key _
  ·exact key _
 ·trivial
theorem Jj(env:Env)(e:Value):jA (Pn env e):=.bind (M6 _ _) fun _=>uL _ _
structure Fly(g:Heap)(H:Hp)(h:Heap)(e C T:Addr)(fl:Value)(dd:Option Addr):Prop where
 ue:H e=none
 uT:H T=none
 ge:g.get? e=none
 gT:g.get? T=none
 tr:∃oe vs oT ts a0,h.get? e=some oe/\oe.dict=dd/\(oe.cls=.ref C/\vs[0]? = some a0)/\oe.data=.fields vs/\vs[1]? = some (.ref T)/\T≠e/\h.get? T=some oT/\oT.data=.fields ts/\ts[3]? = some fl
abbrev Bare(h:Heap)(l:List Env)(hid:List Addr):Heap:=adJ h (frs l++hid)
section
variable{P:aG}{w:World}{g h h' base:Heap}{H0 H:Hp}{l:List Env}{fs hid:List Addr}{e C T:Addr}{a0 fl:Value}{dd:Option Addr}{oe0:Obj}
theorem gH(ff:h.FunFrames base l):h.FunFrames (Bare h l hid) l:=
 PySem.W.funFrames_hide ff fun env he _ hf=>zK _ (WX.mpr #[env,he,hf])
theorem Bo(u:Un fs [] H0 H g h)(hok:HOk P w H h)(ff:h.FunFrames base l)(free:∀b∈frs l,H b=none)(sub:∀b∈frs l,b∈fs\/g.get? b=none)
  (hh:∀b∈hid,H b=none/\g.get? b=none) (ue:H e=none) (ge:g.get? e=none) (st:(Bare h l hid).StaysIn h') (up:h.UpToSlots h') (tr:h'.TracedAtW (Bare h l hid) e (.ref C) a0 fl)
  (q0:h.get? e=some oe0) (d0:oe0.dict=dd) (dk:DK h h'):Un fs [] H0 H g h'/\HOk P w H h'/\∃T,Fly g H h' e C T fl dd:=by
 have keep:∀b o,h.get? b=some o->b∉frs l->b∉hid->h'.get? b=some o:=fun b o q n1 n2=>st b o (Xd _ q fun m=>(dX.mp m).elim n1 n2);have slot:∀b,b∈frs l->∀o,h.get? b=some o->∃sl,h'.get? b=some { o with slots:=sl }:=fun b hb o q=>by
  obtain⟨_,o',q',nf⟩:=ff.mem hb;rw[q]at q';cases q';exact up b o q nf
 have nog:∀{b:Addr}{o:Obj},g.get? b=some o->b∉hid:=fun q z=>by rw[(hh _ z).2]at q;cases q
 have tracked:∀b v o,H b=some v->h.get? b=some o->h'.get? b=some o:=fun b v o q r =>
  keep b o r (fun z=>by rw[free b z]at q;cases q) fun z=>by rw[(hh b z).1]at q;cases q
 show#[#[fun b o q n hb hx=>?_,fun b o q n hb hx=>?_,u.free,fun b o q hx=>?_,u.tups,u.rm,u.uH],fun b v q=>?_,?_]
 ·refine keep b o (u.keep b o q n hb hx) (fun z=>?_) (nog q);rcases sub b z with z|z
  ·exact hb z
  ·rw[z]at q;cases q
 ·obtain⟨sl,r⟩:=u.slot b o q n hb hx;by_cases z:b∈frs l
  ·obtain⟨sl',r'⟩:=slot b z _ r;show#[sl',r']
  ·show#[sl,keep b _ r z (nog q)]
 ·obtain⟨o',r⟩:=u.there b o q hx;by_cases z:b∈frs l
  ·obtain⟨sl',r'⟩:=slot b z _ r;show#[_,r']
  ·show#[o',keep b _ r z (nog q)]
 ·refine(hok b v q).stay (fun c o hc r=>?_) (fun _ r=>r) fun _ _ r=>r;rcases hc with rfl|hc
  ·exact tracked c v o q r
  ·exact tracked c _ o hc r
 ·obtain⟨oe,vs,T,oT,ts,q1,q2,q3,q4,q5,q6,q7,q8,q9⟩:=tr;have ajv:∀o,h.get? T=some o->T∈hid:=fun o r=>by
   by_cases z:T∈frs l
   ·obtain⟨_,o',q',nf⟩:=ff.mem z;rw[r]at q';cases q';obtain⟨sl,r'⟩:=slot T z o r;rw[q7]at r';cases r';exact absurd q8 (nf ts)
   ·by_cases z':T∈hid
    ·exact z'
    ·have k:=Xd (frs l++hid) r fun m=>(dX.mp m).elim z z';rw[q5]at k;cases k
  show#[T,ue,?_,ge,?_,oe,vs,oT,ts,a0,q1,(dk.at q0 q1).trans d0,q2,q3,q4,q6,q7,q8,q9]
  ·cases r:H T with
   |none=>rfl
   |some v =>
    obtain⟨o,r'⟩:=(hok T v r).ex;rw[(hh T (ajv o r')).1]at r;cases r
  ·cases r:g.get? T with
   |none=>rfl
   |some o =>
    obtain⟨o',r'⟩:=u.there T o r (by simp);rw[(hh T (ajv o' r')).2]at r;cases r
theorem Fly.traced(x:Fly g H h e C T fl dd):∃a0,h.TracedAtW (Bare h l [e,T]) e (.ref C) a0 fl:=by
 obtain⟨oe,vs,oT,ts,a0,q1,_,q2,q3,q4,q6,q7,q8,q9⟩:=x.tr;show#[a0,oe,vs,T,oT,ts,q1,q2,q3,q4,Dd _ (by simp),q6,q7,q8,q9]
theorem Fly.flying(x:Fly g H h e C T .none dd)(ff:h.FunFrames base l):∃a0,X7 (Bare h l [e,T]) l e (.ref C) a0 h:=by
 obtain⟨a0,tr⟩:=x.traced (l:=l);show#[a0,fun b o q=>wH _ q,Dd _ (by simp),gH ff,tr]
theorem Fly.held{L:Addr}(x:Fly g H h e C T (iH L) dd)(ff:h.FunFrames base l):∃a0,Heap.HeldW (Bare h l [e,T]) l e (.ref C) a0 L h:=by
 obtain⟨a0,tr⟩:=x.traced (l:=l);show#[a0,fun b o q=>wH _ q,Dd _ (by simp),gH ff,tr]
theorem Fly.hidden(x:Fly g H h e C T fl dd):∀b∈[e,T],H b=none/\g.get? b=none:=fun b hb=>by
 rcases aZ.mp hb with rfl|hb
 ·show#[x.ue,x.ge]
 ·have z:b=T:=by simpa using hb
  subst z;show#[x.uT,x.gT]
theorem Fly.older{g0:Heap}(x:Fly g H h e C T fl dd)(th:∀b o,g0.get? b=some o->∃o',g.get? b=some o'):Fly g0 H h e C T fl dd:=by
 have no:∀b,g.get? b=none->g0.get? b=none:=fun b n=>by
  cases q:g0.get? b with
  |none=>rfl
  |some o=>obtain⟨o',r⟩:=th b o q;rw[n]at r;cases r
 show#[x.ue,x.uT,no _ x.ge,no _ x.gT,x.tr]
end
section
variable{M:Model}{A:aN}{E:Value->Shared->Prop}{s:Shared}
theorem Bq{base:Heap}{env:Env}{outer:List Env}{L e:Addr}{cls a0 fl:Value}{Q:Unit->Shared->Prop}(hfr:A.frames=some (env::outer))(hl:s.heap.FunFrames base (env::outer))(hf:env.frame=some L)(ht:s.heap.TracedAtW base e cls a0 fl)
  (hkb:base.StaysIn s.heap) (hen:base.get? e=none) (h:∀h',aes base (env::outer) e cls a0 (iH L) s.heap h'->DK s.heap h'->Q () { s with heap:=h' }):wpAny M A (uh (.ref e) env) Q E s:=by
 suffices key:wpAny M A (uh (.ref e) env) (fun _ s'=>∃h',s'={ s with heap:=h' }/\aes base (env::outer) e cls a0 (iH L) s.heap h') E s from
  cO (uK (M6 _ _) key) (fun _ s' z=>by obtain⟨⟨h',rfl,x⟩,d⟩:=z;exact h h' x d) fun _ _ z=>z
 by_cases z:fl=iH L
 ·subst z;exact wpAny_noteFrame_againW hf ht #[s.heap,rfl,hkb,hl,ht,fun b o q _=>#[o.slots,q]]
 ·obtain⟨oe,vs,T,oT,ts,he,⟨hcls,h0⟩,hd,h1,hnT,hTe,hT,hdT,h3⟩:=ht;subst hcls;unfold uh;simp only[hf];refine au (iz he hd h1 ?_);rw[if_pos (by simp)];refine au (iz hT hdT h3 ?_);rw[if_neg (by simpa using z)];refine au (ad9 hT hdT (Ia.mp h3).1 ?_);have oth:∀b,b≠T->(s.heap.update T (Aq (·.setIfInBounds 3 Value.none))).get? b=s.heap.get? b:=fun b nb=>lY _ _ (aQ nb);have nr:∀b o,s.heap.get? b=some o->(∀vs,o.data≠.fields vs)->b≠T:=fun b o q n y=>by rw[y,hT]at q;cases q;exact n ts hdT
  exact wpAny_entryW hfr (hl.of_keeps fun b o q n=>#[o,(oth b (nr b o q n)).trans q,rfl]) hf ((oth e (aQ hTe)).trans he) (fun b o q=>(oth b fun y=>by rw[y,hnT]at q;cases q).trans (hkb b o q)) hen hd (Ia.mp h1).1 h0
   fun h' ⟨x1,x2,x3,x4⟩=>#[h',rfl,x1,x2,x3,fun b o q n=>x4 b o ((oth b (nr b o q n)).trans q) n]
theorem Zg{base:Heap}{env:Env}{outer:List Env}{L e:Addr}{cls a0 fl:Value}{Q:Unit->Shared->Prop}(hfr:A.frames=some (env::outer))(hl:s.heap.FunFrames base (env::outer))(hf:env.frame=some L)(ht:s.heap.TracedAtW base e cls a0 fl)
  (hkb:base.StaysIn s.heap) (hen:base.get? e=none) (h:∀h',base.StaysIn h'->s.heap.UpToSlots h'->h'.TracedAtW base e cls a0 .none->DK s.heap h'->Q () { s with heap:=h' }):wpAny M A (Pn env (.ref e)) Q E s:=by
 suffices key:wpAny M A (Pn env (.ref e)) (fun _ s'=>∃h',s'={ s with heap:=h' }/\base.StaysIn h'/\s.heap.UpToSlots h'/\h'.TracedAtW base e cls a0 .none) E s from
  cO (uK (Jj _ _) key) (fun _ s' z=>by obtain⟨⟨h',rfl,x,y,t⟩,d⟩:=z;exact h h' x y t d) fun _ _ z=>z
 refine au (Bq hfr hl hf ht hkb hen fun h1 ⟨x1,x2,x3,x4⟩ _=>?_);exact wpAny_setFlight_noneW (s:={ s with heap:=h1 }) x1 x2 x3 fun h2 y1 y2 y3 y4=>#[h2,rfl,y1,akV x4 fun b o q n=>#[o.slots,y4 b o q n],y3.at]
end
def CXE(P:aG)(w:World):CXT:=fun outer H s E ev s'=>∃e C T dd fl H',ev=.ref e/\s'.os=s.os/\o8 s'.gens/\Un (frs outer) [] H H' s.heap s'.heap/\HOk P w H' s'.heap/\Fly s.heap H' s'.heap e C T fl dd/\E (.ref C) dd H'
theorem agv{P:aG}{w:World}{X:Cx}:Passes (CXE P w) X E0:=fun _ _ _ _ _ _ _ ⟨_,_,_,_,_,_,_,_,_,_,_,_,z⟩=>z.elim
section
variable{P:aG}{w:World}{K:aF}{mg:Str->Option Value}{base:Heap}{N:List Str}{qual:Str}{scope:Scope}{f:Addr}{cd:Value}{A:aN}{outer:List Env}{s:Shared}{H:Hp}{E:XK}
def XW(X:Cx)(E:XK):Prop:=∀(pins:List (Addr × Obj)) (σ:St) (H':Hp) (s':Shared) (e C T:Addr) (fl:Value) (dd:Option Addr),Inv X pins σ H' s'->Fly X.s₀.heap H' s'.heap e C T fl dd->E (.ref C) dd H'->X.xe (.ref e) s'
theorem XW.passes{X:Cx}(h:XW X E)(hx:X.ex=[]):Passes (CXE X.prog X.w) X E:=fun pins σ H s ev s' I z=>by
 obtain⟨e,C,T,dd,fl,H',rfl,os,bare,u,hok,fly,hE⟩:=z;exact h pins σ H' s' e C T fl dd (I.call' (ch:=[]) os u hok bare (by simp)) (fly.older fun b o q=>I.base.there b o q (by rw[hx];simp)) hE
theorem xwUp:XW (jx (CXE P w) P w K mg base N qual scope f cd A outer s H E) E:=by
 intro pins σ H' s' e C T fl dd I fly hE;have fly0:Fly s.heap H' s'.heap e C T fl dd:=fly;obtain⟨oe,_,_,_,_,qe,qd,_⟩:=id fly.tr;obtain⟨a0,tr⟩:=fly.traced (l:=eV qual scope s.heap.objs.size f cd::outer);refine Zg (base:=Bare s'.heap (eV qual scope s.heap.objs.size f cd::outer) [e,T]) I.ok.frames (gH I.stack) rfl tr (fun b o q=>wH _ q) (Dd _ (by simp)) fun h' x1 x2 x3 dk=>?_;have sub:∀b∈frs (eV qual scope s.heap.objs.size f cd::outer),b∈frs outer\/s.heap.get? b=none:=fun b hb=>by
  rcases aZ.mp (I.Bc b hb)with z|z
  ·refine .inr ?_;rw[z];exact Py I.ok.above
  ·exact .inl z
 obtain⟨r1,r2,T',r3⟩:=Bo (g:=s.heap) (H0:=H) (fs:=frs outer) (l:=eV qual scope s.heap.objs.size f cd::outer) I.base I.hok I.stack I.vI sub fly0.hidden fly0.ue fly0.ge x1 x2 x3 qe qd dk;show#[e,C,T',dd,.none,H',rfl,I.os,I.bare,r1,r2,r3,hE]
theorem agw:Passes (CXE P w) (jx (CXE P w) P w K mg base N qual scope f cd A outer s H E) E:=xwUp.passes rfl
theorem Fun.okE{x:Str}{st:Stmt}{fd:FuncData}{ps:List Str}{k:Nat}{sp:Sp}(F:Fun K x qual st f fd)(S:aJ N ps (aA st))(len:∀vs H Q E,sp vs H Q E->vs.length=ps.length)
  (hbody:∀ (cdv:Value) (A:aN) (outer:List Env) (s:Shared) (H:Hp) (vs:List V) (Q:VK) (E:XK),fD k (A.deeper (eV qual (aA st) s.heap.objs.size f cdv))->sp vs H Q E ->
   ∃ t,PSs (jx (CXE P w) P w K mg base N qual (aA st) f cdv A outer s H E) (fY st) t/\t { nx:=fun _ H'=>Q .non H',rt:=Q } (start N vs) H):nA P w K mg base (CXE P w) (k+1) f fd ps sp:=by
 obtain⟨oc,od,kV,doc,pm,an,cdv,ct,osl,rfl,lk,hcd⟩:=F.ex;exact ajo lk hcd S len fun A outer s H vs Q E hr hsp=>hbody cdv A outer s H vs Q E hr hsp
end
theorem PS.nox{X:Cx}{st:Stmt}{t:TS}(h:PS X.nox st t):PS X st t:=fun pins s σ H D I hw =>
 cO (h pins s σ H D (I.wish _) hw) (fun _ _ q=>q.gA) fun _ _ z=>fP z
def XP(X:Cx)(pins:List (Addr × Obj))(σ:St)(E:XK)(ev:Value)(s':Shared):Prop:=∃s0 H0,Inv X pins σ H0 s0/\CXE X.prog X.w X.stack H0 s0 E ev s'
abbrev TX:=St->Hp->VK->XK->Prop
def PX(X:Cx)(e:Expr)(t:TX):Prop:=
 ∀(pins:List (Addr × Obj)) (s:Shared) (σ:St) (H:Hp) (Q:VK) (E:XK),Inv X pins σ H s->t σ H Q E->wpAny (model X.prog X.w) X.A (eval e X.env) (EP X pins σ Q) (XP X pins σ E) s
@[reducible] def xCall(sp:Sp)(dvs:List V)(t:TA):TX:=fun σ H Q E=>t σ H fun vs H1=>sp (vs++dvs) H1 Q E
section
variable{X:Cx}{k:Nat}{f C:Addr}{fd:FuncData}{ps:List Str}{sp:Sp}{dvs:List V}{ds:List Value}{x m:Str}{p pos apos:Pos}{e o:Expr}{es:List Expr}{ta:TE}{t:TA}
theorem aiv{pins:List (Addr × Obj)}{σ:St}{H:Hp}{s:Shared}{Q:VK}{E:XK}{us:List Value}{vs:List V}(F:nA X.prog X.w X.K X.mg X.base (CXE X.prog X.w) k f fd ps sp)(hr:fD k X.A)(hb:Binds X.K fd ps ds)(hd:Vals dvs ds)
  (I:Inv X pins σ H s) (r:Vals vs us) (h:sp (vs++dvs) H Q E):wpAny (model X.prog X.w) X.A (call (.ref f) us) (EP X pins σ Q) (XP X pins σ E) s:=by
 have r2:Vals (vs++dvs) (us++ds):=r.append hd;have hl:(us++ds).length=ps.length:=by rw[<-r2.length];exact F.len _ _ _ _ h
 refine lR (zW (F.run X.A X.stack s H #[us,[]] (us++ds) (vs++dvs) Q E hr I.env0 (hb s us I.kIn hl) r2 h) fun r s' hq=>?_);cases r with
 |error e=>show#[s,H,I,hq]
 |ok fl =>
  cases fl with
  |ret u=>exact I.after hq
  |next=>exact fP hq
  |brk=>exact fP hq
  |cont=>exact fP hq
theorem aiw(F:nA X.prog X.w X.K X.mg X.base (CXE X.prog X.w) k f fd ps sp)(hr:fD k X.A)(hg:Gl X x)(hm:X.mg x=some (.ref f))(hk:lQ X.K (.ref f)=true)(hb:Binds X.K fd ps ds)(hd:Vals dvs ds)
  (ha:PA X.nox (e::es) t) (hdb:(x == ("__debug__" : Str))=false:=by decide) (he:bh (e::es) X.env=(false,eval e X.env)::bh es X.env:=by rfl) (hpl:(dz pos (bh es X.env)).any (·.1)=false:=by rfl):
  PX X (.Call (.Name x p) (e::es) [] pos) (xCall sp dvs t):=by
 intro pins s σ H Q E I h;refine yj (oF I hg hm ?_ hdb);refine Oa (h₀:=X.base) I.ok.mod.kin hk (cO (ha pos pins s σ H _ (I.wish _) h) (fun us s1 ⟨vs,H1,I1,r,q⟩=>#[I1.gA.kIn,?_]) fun _ _ z=>z.elim) he hpl;exact aiv F hr hb hd I1.gA r q
end
def xJ(e C:Addr)(dd:Option Addr):HO:=.ext fun h=>∃o,h.get? e=some o/\o.cls=.ref C/\o.dict=dd/\∃vs,o.data=.fields vs
structure Catch(K:aF)(C B:Addr):Prop where
 sub:jm K C (.ref B)=some true
 exc:jm K B (.type "BaseException")=some true
 ty:wI K (.ref B)=some (.type "type")
theorem Jk{K:aF}{C B:Addr}{r q:Bool}{v:Value}(hs:jm K C (.ref B)=some r)(hx:jm K B v=some q)(ht:wI K (.ref B)=some (.type "type")):Og K (.ref C) (.ref B)=some r:=by
 have h1:(Oh K B).isSome=true:=by
  cases e:Oh K B with
  |none=>unfold jm at hx;rw[e]at hx;cases hx
  |some cd=>rfl
 unfold Og;simp only[h1,ht];exact hs
theorem Catch.kit{K:aF}{C B:Addr}(c:Catch K C B):Og K (.ref C) (.ref B)=some true:=Jk c.sub c.exc c.ty
theorem aci{M:Model}{A:aN}{E:Value->Shared->Prop}{s:Shared}{K:aF}{e C B:Addr}{oe:Obj}{Q:Bool->Shared->Prop}(kin:K.In s.heap)(c:Catch K C B)(he:s.heap.get? e=some oe)(hc:oe.cls=.ref C)(h:Q true s):
  wpAny M A (excMatches (.ref e) (.ref B)) Q E s:=by
 obtain⟨hh,g,d,t,os⟩:=s;obtain⟨L1,L2,L3⟩:=adL (M:=M) kin c.kit;have L4:=N8 (M:=M) kin c.exc;have L5:qK M hh (isSubtype (.type "type") (.type "tuple")) false:=PySem.W.looks_subIn (t:=.type "type") (base:=.type "tuple") (r:=false) kin (show(ad8 "type").map (·.contains (.type "tuple"))=some false by decide +kernel);have L6:qK M hh (O8 (.ref B) (.type "tuple")) false:=L1.andThen L5;have L7:qK M hh (Hx (.ref e)) (.ref C):=hc ▸ (afg he).andThen .now;unfold excMatches;refine au (L6.at ?_);rw[if_neg cM];refine au (aK ?_);unfold isExcClass;simp only[GP,List.forIn_nil];refine au (au (au (au (L2.at ?_))));rw[if_pos rfl];refine L4.at ?_;simp only[Bool.not_true,HD,if_false];refine aK ?_;refine aK ?_;refine au (L7.at ?_);refine au (au (au (L3.at ?_)));rw[if_pos rfl];exact aK (aK (aK h))
def Cx.marked(X:Cx)(e:Addr):Cx:={ X with A:=X.A.mark (some (.ref e)),calm:=false,xe:=fun _ _=>False }
section
variable{X:Cx}{pins:List (Addr × Obj)}{σ:St}{H:Hp}{s:Shared}
theorem Inv.marked(I:Inv X pins σ H s)(e:Addr):Inv (X.marked e) pins σ H s:=
 #[#[I.ok.mod,I.ok.kind,I.ok.glob,I.ok.blt,I.ok.above,I.ok.inj,I.ok.has,I.ok.cab,(fun z=>by cases z),I.ok.frames,I.ok.stk,I.ok.exf,I.ok.bs,I.ok.bsz,I.ok.YZ,I.ok.abZ,I.ok.xu,I.ok.frf],I.os,I.bare,I.base,I.loc,I.cell,I.free,I.p8,I.pin,I.hok,I.len]
theorem Inv.unmarked{e:Addr}(hd:X.calm=true->X.A.handled=none)(I:Inv (X.marked e) pins σ H s):Inv X pins σ H s:=
 #[#[I.ok.mod,I.ok.kind,I.ok.glob,I.ok.blt,I.ok.above,I.ok.inj,I.ok.has,I.ok.cab,hd,I.ok.frames,I.ok.stk,I.ok.exf,I.ok.bs,I.ok.bsz,I.ok.YZ,I.ok.abZ,I.ok.xu,I.ok.frf],I.os,I.bare,I.base,I.loc,I.cell,I.free,I.p8,I.pin,I.hok,I.len]
theorem Ge{M:Model}{A:aN}{E:Value->Shared->Prop}{i:Nat}{n:Str}{pos:Pos}{Q:Unit->Shared->Prop}(I:Inv X pins σ H s)(hN:X.N.Nodup)(hi:X.N[i]? = some n)(hl:X.env.scope.names.lookup n=some .local)
  (h:∀s',Inv X pins (σ.set i none) H s'->Q () s'):wpAny M A (do bindName X.env n .none;unbindBehindTheSuite X.env n pos) Q E s:=by
 obtain⟨m,hn,hlk⟩:=id I.loc;have hcls:(X.env.scope.kind == .class || (X.env.scope.kind == .module && X.env.locals != X.env.globals))=false:=by rw[I.ok.kind];rfl
 have hiσ:i<σ.length:=by rw[I.len];exact(fO.mp hi).1
 have cne:=I.cne;refine wpAny_nameGoes_keeps hl hn hcls fun h' v hn' hs=>h _ ?_;have away:∀b o,X.s₀.heap.get? b=some o->h'.get? b=s.heap.get? b:=fun b o e=>hs.2 b (bZ (cG (bA e) I.ok.above));show#[I.ok,I.os,I.bare,#[fun b o e n hb hx=>?_,fun b o e n hb hx=>?_,I.base.free,fun b o e hx=>?_,I.base.tups,I.base.rm,I.base.uH],#[_,hn',fun j y v' e1 e2 e3=>?_],fun y c e=>?_,I.free,I.p8,fun p hp=>?_,fun b ob e=>?_,by simpa using I.len]
 ·exact(away b o e).trans (I.base.keep b o e n hb hx)
 ·obtain⟨sl,e1⟩:=I.base.slot b o e n hb hx;show#[sl,(away b o e).trans e1]
 ·obtain⟨o',e1⟩:=I.base.there b o e hx;show#[o',(away b o e).trans e1]
 ·by_cases hj:j=i
  ·subst hj;rw[Gv hiσ]at e2;cases e2
  ·rw[Gk (aQ hj)]at e2;obtain⟨u',r',q⟩:=hlk j y v' e1 e2 e3;show#[u',r',?_];rcases q with⟨k,e⟩|⟨k,c,e,z⟩
   ·refine .inl #[k,?_];have:y≠n:=fun e=>hj (Iz hN e1 (e ▸ hi));simp[this,e]
   ·exact .inr #[k,c,e,z.sameBut hs (cne y c e)]
 ·obtain⟨w',z⟩:=I.cell y c e;show#[w',z.sameBut hs (cne y c e)]
 ·obtain⟨e,n,ne,nf,d⟩:=I.pin p hp;show#[(hs.2 p.1 ne).trans e,n,ne,nf,d]
 ·refine(I.hok b ob e).stay (fun c w' hc q=>(hs.2 c ?_).trans q) (fun _ q=>q) fun _ _ q=>q;rintro rfl;rcases hc with rfl|hc
  ·rw[I.free]at e;cases e
  ·rw[I.free]at hc;cases hc
end
def drops(i:Nat)(D:Ends):Ends:={ nx:=fun σ H=>D.nx (σ.set i none) H,rt:=D.rt,bk:=fun σ H=>D.bk (σ.set i none) H,ct:=fun σ H=>D.ct (σ.set i none) H }
theorem Un.track{fs:List Addr}{H0 H:Hp}{g h:Heap}{e:Addr}{o:HO}(u:Un fs [] H0 H g h)(ue:H e=none)(ge:g.get? e=none):Un fs [] H0 (upd H e o) g h where
 keep:=u.keep
 slot:=u.slot
 free:=fun b ob q n hx=>by rw[ao (fun z=>by rw[z,ge]at q;cases q)];exact u.free b ob q n hx
 there:=u.there
 tups:=fun b xs q=>by rw[ao (ak (u.tups b xs q) ue)];exact u.tups b xs q
 rm:=fun b ob v q=>by rw[ao (ak (u.rm b ob v q) ue)];exact u.rm b ob v q
 uH:=fun b ps q=>by
  obtain⟨m,r⟩:=u.uH b ps q;show#[m,by rwa[ao (ak r ue)]]
section
variable{X:Cx}{i:Nat}{n x:Str}{np hpos pos:Pos}{B:Addr}{b₀:Stmt}{suite:List Stmt}{th:TS}
theorem acj{pins:List (Addr × Obj)}{σ:St}{D:Ends}{ev:Value}{s1:Shared}(hst:X.stack=X.env::X.outer)(hfr:X.env.frame=some X.env.locals)(hg:Gl X x)(hm:X.mg x=some (.ref B))(hN:X.N.Nodup)(hi:X.N[i]? = some n)
  (hl:X.env.scope.names.lookup n=some .local) (hs:∀e,PSs (X.marked e) (b₀::suite) th) (hdb:(x == ("__debug__" : Str))=false)
  (hx:XP X pins σ (fun cls dd H1=>∃C,cls=.ref C/\Catch X.K C B/\∀e,H1 e=none->th (drops i D) (σ.set i (some (.ref e))) (upd H1 e (xJ e C dd))) ev s1):
  wpAny (model X.prog X.w) X.A (uh ev X.env) (fun _ s2=>wpAny (model X.prog X.w) X.A (Pb ev none) (fun _ s3=>wpAny (model X.prog X.w) X.A (handleBy ev X.env [.ExceptHandler (some (.Name x np)) (some n) (b₀::suite) hpos]) (SP X pins D) X.xe s3) X.xe s2) X.xe s1:=by
 obtain⟨s0,H0,I0,e,C,T,dd,fl,H',rfl,os,bare,u,hok,fly,C2,eC,cat,hth⟩:=hx;cases eC;have sub:∀b∈frs (X.env::X.outer),b∈frs X.stack\/s0.heap.get? b=none:=fun b hb=>.inl (by rwa[hst]);have fre:∀b∈frs (X.env::X.outer),H' b=none:=fun b hb=>(I0.call' (ch:=[]) os u hok bare (by simp)).vI b (by rwa[hst]);have QL:∀{h:Heap},Un (frs X.stack) [] H0 H' s0.heap h->HOk X.prog X.w H' h->h.FunFrames X.base (X.env::X.outer):=fun {h} u' hok'=>by
  have:=(I0.call' (ch:=[]) (s':={ s1 with heap:=h }) os u' hok' bare (by simp)).stack;rwa[hst]at this
 have hA:X.A.frames=some (X.env::X.outer):=by rw[I0.ok.frames,hst]
 obtain⟨oe0,_,_,_,_,qe,qd,_⟩:=id fly.tr;obtain⟨a0,tr⟩:=fly.traced (l:=X.env::X.outer);refine Bq (base:=Bare s1.heap (X.env::X.outer) [e,T]) hA (gH (QL u hok)) hfr tr (fun b o q=>wH _ q) (Dd _ (by simp)) fun h2 ⟨x1,_,x3,x2⟩ dk=>?_;obtain⟨u2,agx,T2,Br⟩:=Bo u hok (QL u hok) fre sub fly.hidden fly.ue fly.ge x1 x2 x3 qe qd dk;obtain⟨a2,hh2⟩:=Br.held (QL u2 agx);obtain⟨oe0,_,_,_,_,qe,qd,_⟩:=id Br.tr;refine cO (uK (uL _ _) (wpAny_landsW (s:={ s1 with heap:=h2 }) (Q:=fun _ s3=>∃h',s3={ s1 with heap:=h' }/\X7 (Bare h2 (X.env::X.outer) [e,T2]) (X.env::X.outer) e (.ref C) a2 h'/\h2.UpToSlots h') hh2 fun h' x1 x2=>#[h',rfl,x1,x2])) (fun _ s3 z=>?_) fun _ _ z=>z;obtain⟨⟨h3,rfl,x1,x2⟩,dk⟩:=z;obtain⟨u3,hok3,T3,agy⟩:=Bo u2 agx (QL u2 agx) fre sub Br.hidden Br.ue Br.ge x1.1 x2 x1.2.2.2.at qe qd dk;have I3:=I0.call' (ch:=[]) (s':={ s1 with heap:=h3 }) os u3 hok3 bare (by simp);refine wpAny_handleBy_cons (codeAny_handlers_test (oF (X:=X.marked e) (I3.marked e) hg hm ?_ hdb)) (by intro q;cases q);obtain⟨oe,_,_,_,_,q1,qd,q2,_⟩:=id agy.tr;refine aci I3.kIn cat q1 q2.1 ?_;show fC _ _ (.handlers (.ref e) [.ExceptHandler none (some n) (b₀::suite) hpos] X.env) _ _;refine codeAny_handlers_suite_as ?_;obtain⟨a3,hfl3⟩:=agy.flying (QL u3 hok3);refine cO (uK ?mld (lands_againW (s:={ s1 with heap:=h3 }) (Q:=fun _ s3=>∃h',s3={ s1 with heap:=h' }/\X7 (Bare h3 (X.env::X.outer) [e,T3]) (X.env::X.outer) e (.ref C) a3 h'/\h3.UpToSlots h') hfl3 fun h' x1 x2=>#[h',rfl,x1,x2])) (fun _ s3 z=>?_) fun _ _ z=>z
 case mld=>exact uL _ _
 obtain⟨⟨h4,rfl,x1,x2⟩,dk⟩:=z;obtain⟨u4,hok4,T4,agz⟩:=Bo u3 hok3 (QL u3 hok3) fre sub agy.hidden agy.ue agy.ge x1.1 x2 x1.2.2.2.at q1 qd dk;obtain⟨oe4,vs4,_,_,_,q41,q4d,q42,q43,_⟩:=agz.tr;have hok5:HOk X.prog X.w (upd H' e (xJ e C dd)) h4:=hok4.M5 (fun _ _ q=>q) agz.ue
  #[#[oe4,q41,q42.1,q4d,vs4,q43],#[oe4,q41],fun k1 k2 ⟨o,r1,r2⟩ r=>#[o,r o r1,r2]]
 have I5:=I0.call' (ch:=[]) (s':={ s1 with heap:=h4 }) os (u4.track (o:=xJ e C dd) agz.ue agz.ge) hok5 bare (by simp);refine IK (X:=X.marked e) (v:=.ref e) (I5.marked e) hN hi (.inl hl) rfl (fun s6 I6=>?_) (.inr hl);refine cO (hs e pins s6 _ _ (drops i D) I6 (hth e agz.ue)) (fun f s7 q=>?_) fun _ _ z=>z.elim;cases f with
 |next =>
  obtain⟨σ7,H7,I7,q7⟩:=q;exact Ge (I7.unmarked I0.ok.hd) hN hi hl fun s8 I8=>#[_,H7,I8,q7]
 |brk =>
  obtain⟨σ7,H7,I7,q7⟩:=q;exact Ge (I7.unmarked I0.ok.hd) hN hi hl fun s8 I8=>#[_,H7,I8,q7]
 |cont =>
  obtain⟨σ7,H7,I7,q7⟩:=q;exact Ge (I7.unmarked I0.ok.hd) hN hi hl fun s8 I8=>#[_,H7,I8,q7]
 |ret u =>
  obtain⟨v,σ7,H7,I7,r7,q7⟩:=q;exact Ge (I7.unmarked I0.ok.hd) hN hi hl fun s8 I8=>#[v,_,H7,I8,r7,q7]
def tTry(K:aF)(tc:TX)(nx:V->St->St)(i:Nat)(B:Addr)(th:TS):TS:=fun D σ H=>tc σ H (fun v H1=>D.nx (nx v σ) H1)
 fun cls dd H1=>∃C,cls=.ref C/\Catch K C B/\∀e,H1 e=none->th (drops i D) (σ.set i (some (.ref e))) (upd H1 e (xJ e C dd))
theorem aix{ce:Expr}{epos:Pos}{tc:TX}(hst:X.stack=X.env::X.outer)(hfr:X.env.frame=some X.env.locals)(hg:Gl X x)(hm:X.mg x=some (.ref B))(hN:X.N.Nodup)(hi:X.N[i]? = some n)
  (hl:X.env.scope.names.lookup n=some .local) (hc:PX X ce tc) (hs:∀e,PSs (X.marked e) (b₀::suite) th) (hsw:ug ce none epos.line X.env=pure false:=by rfl) (hdb:(x == ("__debug__" : Str))=false:=by decide):
  PS X (.Try [.Expr ce epos] [.ExceptHandler (some (.Name x np)) (some n) (b₀::suite) hpos] [] [] pos) (tTry X.K tc (fun _ σ=>σ) i B th):=by
 walk_at "I"
 have key:wpAny (model X.prog X.w) X.A (exec (.Expr ce epos) X.env) (fun f s1=>f=.next/\∃H1,Inv X pins σ H1 s1/\D.nx σ H1) (XP X pins σ _) s:=
  ad6 (cO (hc pins s σ H _ _ I h) (fun v s1 ⟨x,H1,I1,r1,q1⟩=>#[rfl,H1,I1,q1]) fun _ _ z=>z) I.quiet hsw
 refine wpAny_Try_except (Xu (cO key (fun f s1 ⟨ef,H1,I1,q1⟩=>?_) fun ev s1 hx=>?_))
 ·subst ef;exact zU (zU #[σ,H1,I1,q1])
 ·exact acj hst hfr hg hm hN hi hl hs hdb hx
end
def Uq(cells:List (Str × Addr)):List (Str × Addr)->Prop
 |[]=>True
 |p::r=>cells.lookup p.1=some p.2/\Uq cells r
theorem Uq.of{cells:List (Str × Addr)}:∀{cl:List (Str × Addr)} {y:Str} {c:Addr},Uq cells cl->cl.lookup y=some c->cells.lookup y=some c
 |[],_,_,_,h=>by cases h
 |p::r,y,c,hs,h=>by
  obtain⟨n,a⟩:=p;rw[adw]at h;by_cases e:y=n
  ·subst e;rw[beq_self_eq_true]at h;cases h;exact hs.1
  ·rw[beq_eq_false_iff_ne.mpr e]at h;exact Uq.of hs.2 h
@[reducible] def bO(X:Cx)(N:List Str)(scope:Scope)(cl:List (Str × Addr))(s:Shared)(H:Hp)(fp:List Addr)(C:Addr):Cx where
 prog:=X.prog
 w:=X.w
 K:=X.K
 mg:=X.mg
 base:=X.base
 A:=X.A
 N:=N
 s₀:=s
 H₀:=H
 env:=Pj scope cl C X.env
 outer:=X.stack
 stack:=X.stack
 ex:=fp
 fn:=fun _=>false
 calm:=X.calm
 pn:=[]
 xe:=fun _ _=>False
structure Ur(X:Cx)(N:List Str)(scope:Scope)(cl:List (Str × Addr))(i j:Nat):Prop where
 ok:∃y c,N[i]? = some y/\X.N[j]? = some y/\(X.env.kindOf y=some .cell\/X.env.kindOf y=some .free)/\((iG scope X.env).names.lookup y=some .cell\/(iG scope X.env).names.lookup y=some .free)/\cl.lookup y=some c
def Jl(σ:St)(x:Option V)(caps:List Nat):St:=x::caps.map fun j=>(σ[j]?).join
def lB(σ:St)(zs:List (Option V))(caps:List Nat):St:=zs++caps.map fun j=>(σ[j]?).join
def mQ(J:It)(g:TG)(k:Nat)(caps:List Nat)(tt:TT)(te:TE)(σ:St)(D:Addr)(Q:VK)(H1:Hp):Prop:=∃W:Nat->Nat->List V->Hp->Prop,(∃m,W 0 m [] (upd H1 D (.lst [])))/\∀i m ys H,W i m ys H ->
 H D=some (.lst ys)/\((J.stop i H/\Q (.ref D) H)\/(J.go i H/\ys.length<sizeLine/\∀ x H',J.yld i H x H'->∀ zs:List (Option V),zs.length=k->g x (lB σ zs caps) H' fun σ2 H2=>(∃ zs':List (Option V),zs'.length=k/\σ2=lB σ zs' caps)/\tt σ2 H2 fun b H3=>if b=true then
  te σ2 H3 fun y H4=>H4 D=some (.lst ys)/\∃m',m'<m/\W (i+1) m' (ys++[y]) (upd H4 D (.lst (ys++[y])))
  else H3 D=some (.lst ys)/\∃ m',m'<m/\W (i+1) m' ys H3))
def alB(wi:TI)(g:TG)(k:Nat)(caps:List Nat)(tt:TT)(te:TE):TE:=fun σ H Q=>wi σ H fun J H1=>∀D,H1 D=none->mQ J g k caps tt te σ D Q H1
section
variable{X:Cx}{pins:List (Addr × Obj)}{σ:St}{H:Hp}{s:Shared}
theorem Inv.compT{k:Nat}{N:List Str}{scope:Scope}{cl:List (Str × Addr)}{fp:List Addr}{caps:List Nat}{h4:Heap}{D C:Addr}{tk:Nat}(I:Inv X pins σ H s)(hkind:scope.kind=.function)(hsub:Uq X.env.cells cl)
  (hhas:∀y,((iG scope X.env).names.lookup y=some .cell\/(iG scope X.env).names.lookup y=some .free)->∃c,cl.lookup y=some c) (hf:∀b∈fp,xG X pins H b) (hfo:∀b∈fp,∃o,s.heap.get? b=some o)
  (hlen:N.length=k+caps.length) (hcap:∀(i:Nat)(j:Nat),caps[i]? = some j->Ur X N scope cl (i+k) j) (hD:s.heap.objs.size<=D) (hC:s.heap.objs.size<=C) (hDC:C≠D)
  (hk:∀b o,s.heap.get? b=some o->h4.get? b=some o) (hlist:∃n,h4.get? D=some { cls:=.type "list",data:=.seq #[] n }) (hns:∃m,h4.Ns C m):
  Inv (bO X N scope cl s H fp C) (X.pn++pins) (lB σ (tR k none) caps) (upd H D (.lst [])) { s with heap:=h4,toks:=tk }:=by
 have hnD:H D=none:=I.hok.fresh hD;have hnC:H C=none:=I.hok.fresh hC;have lt:∀b o,s.heap.get? b=some o->b≠D/\b≠C:=fun b o e=>#[bZ (cG (bA e) hD),bZ (cG (bA e) hC)];have nst:∀b,b≠X.env.locals->b∉X.fs->b∉frs X.stack:=fun b h1 h2 z=>by
  rcases aZ.mp (I.Bc b z)with e|e
  ·exact h1 e
  ·exact h2 e
 show#[#[I.ok.mod,hkind,I.ok.glob,I.ok.blt,hC,fun x y c h1 h2=>I.ok.inj x y c (hsub.of h1) (hsub.of h2),fun y hy=>hhas y hy,fun y c h=>(nomatch h),I.ok.hd,I.ok.frames,.inl rfl,fun b hb=>?_,I.bs,bW I.ok.bsz I.sz,fun b o e hb=>?_,fun b hb=>?_,I.stack,I.vI],
  rfl,I.bare,Un.laid hk hD hnD,?_,fun y c e=>?_,?_,fun y c e=>?_,fun p hp=>?_,?_,?_]
 ·obtain⟨o,e⟩:=hfo b hb;show#[(lt b o e).2,fun x c q=>(hf b hb).2.2.2.2.1 x c (hsub.of q)]
 ·rcases(hf b hb).2.2.2.1 with z|z
  ·exact I.ok.YZ b o e z
  ·exact absurd (cG (bA e) I.ok.bsz) (Nat.not_lt.mpr z)
 ·exact nst b (hf b hb).2.1 (hf b hb).2.2.1
 ·obtain⟨m,hm⟩:=hns;obtain⟨m0,_,hl⟩:=I.loc;show#[m,hm,fun i y v h1 h2 h3=>?_];have h2a:(tR k (none:Option V)++caps.map fun j=>(σ[j]?).join)[i]? = some (some v):=h2;by_cases hik:i<k
  ·rw[Gn (by rwa[zJ]),adh,if_pos hik]at h2a;cases h2a
  ·rw[Gm (by rw[zJ];lia),zJ]at h2a;obtain⟨i',rfl⟩:∃i',i=i'+k:=#[i-k,by lia];rw[Nat.add_sub_cancel]at h2a;have h2':=h2a;rw[cB]at h2';cases ec:caps[i']? with
   |none=>rw[ec]at h2';cases h2'
   |some j =>
    rw[ec]at h2';have h2'':(σ[j]?).join=some v:=bK h2';have e2:σ[j]? = some (some v):=by
     cases q:σ[j]? with
     |none=>rw[q]at h2'';cases h2''
     |some z=>rw[q]at h2'';exact congrArg some h2''
    obtain⟨y',c,n1,n2,k1,k2,lc⟩:=(hcap i' j ec).ok;have ey:y=y':=by
     have h1':N[i'+k]? = some y:=h1;rw[n1]at h1';exact(bK h1').symm
    subst ey;have vis:Vis X.env.scope y:=k1.elim (fun z=>.inr (.inl z)) fun z=>.inr (.inr z);obtain⟨u,ru,lk⟩:=hl j y v n2 e2 vis;show#[u,ru,.inr #[k2,c,lc,?_]];rcases lk with⟨z,_⟩|⟨_,c',lc',ic⟩
    ·rcases k1 with k1|k1 <;> (rw[z]at k1;cases k1)
    ·rw[hsub.of lc]at lc';cases lc';obtain⟨o,ho,hd⟩:=ic;show#[o,hk c o ho,hd]
 ·obtain⟨v,o,ho,hd⟩:=I.cell y c (hsub.of e);show#[v,o,hk c o ho,hd]
 ·show(upd H D (.lst [])) C=none;rwa[ao hDC]
 ·have n:=I.p8 y c (hsub.of e);obtain⟨v,o,ho,hd⟩:=I.cell y c (hsub.of e);rwa[ao (lt c o ho).1]
 ·have hp':p∈X.pn++pins:=hp;obtain⟨e,n,ne,nf,d⟩:=I.pin p hp';show#[hk _ _ e,by rwa[ao (lt _ _ e).1],(lt _ _ e).2,nst _ ne nf,d]
 ·obtain⟨n,e⟩:=hlist;exact I.hok.laid hk hD #[cU _,[],n,.nil,e]
 ·show(lB σ (tR k none) caps).length=N.length;unfold lB;rw[cj,zJ,aB,hlen]
theorem Inv.QM{N:List Str}{scope:Scope}{cl:List (Str × Addr)}{fp:List Addr}{C:Addr}{oE:List (Addr × Obj)}{σ':St}{H':Hp}{s':Shared}{h':Heap}(I:Inv X pins σ H s)(hf:∀b∈fp,xG X pins H b)(hC:s.heap.objs.size<=C)
  (I':Inv (bO X N scope cl s H fp C) oE σ' H' s') (hs:oW C s'.heap h'):Inv X pins σ H' { s' with heap:=h' }:=by
 obtain⟨hp,g,d,t,os⟩:=s';have eo:os=s.os:=I'.os;subst eo;have ne:∀b o,s.heap.get? b=some o->b≠C:=fun b o e=>bZ (cG (bA e) hC);have hn:H' C=none:=I'.free;have B:Un (frs X.stack) fp H H' s.heap hp:=I'.base;have kp:∀b o,b≠C->hp.get? b=some o->h'.get? b=some o:=fun b o hb e=>(hs.2 b hb).trans e
 suffices r:Inv X pins σ H' { s with heap:=h',gens:=g,drawn:=d,toks:=t }from r
 refine I.call (h':=h') (g':=g) (d':=d) (t':=t) (ch:=fp) #[fun b o e n h1 h2=>kp b o (ne b o e) (B.keep b o e n h1 h2),fun b o e n h1 h2=>?_,B.free,fun b o e h2=>?_,B.tups,B.rm,B.uH] (fun b u e=>?_) I'.bare fun b hb=>?_
 ·obtain⟨sl,q⟩:=B.slot b o e n h1 h2;show#[sl,kp b _ (ne b o e) q]
 ·obtain⟨o',q⟩:=B.there b o e h2;show#[o',kp b _ (ne b o e) q]
 ·have nb:∀c v,H' c=some v->c≠C:=fun c v q z=>by rw[z,hn]at q;cases q
  refine(I'.hok b u e).stay (fun c v hc q=>kp c v ?_ q) (fun _ q=>q) fun _ _ q=>q;rcases hc with z|z
  ·rw[z];exact nb b u e
  ·exact nb c _ z
 ·obtain⟨f0,f1,f2,f3,f4,f5⟩:=hf b hb;show#[f3,f1,f4,f5]
end
def lC(J:It)(caps:List Nat)(tt:TT)(te:TE)(σ:St)(D:Addr)(Q:VK)(H1:Hp):Prop:=∃W:Nat->Nat->List V->Hp->Prop,(∃m,W 0 m [] (upd H1 D (.lst [])))/\∀i m ys H,W i m ys H ->
 H D=some (.lst ys)/\((J.stop i H/\Q (.ref D) H)\/(J.go i H/\ys.length<sizeLine/\∀ x H',J.yld i H x H'->tt (Jl σ (some x) caps) H' fun b H2=>if b=true then
  te (Jl σ (some x) caps) H2 fun y H3=>H3 D=some (.lst ys)/\∃m',m'<m/\W (i+1) m' (ys++[y]) (upd H3 D (.lst (ys++[y])))
  else H2 D=some (.lst ys)/\∃ m',m'<m/\W (i+1) m' ys H2))
def agA(wi:TI)(caps:List Nat)(tt:TT)(te:TE):TE:=fun σ H Q=>wi σ H fun J H1=>∀D,H1 D=none->lC J caps tt te σ D Q H1
def PTs(X:Cx)(ifs:List Expr)(tt:TT):Prop:=∀(pins:List (Addr × Obj)) (s:Shared) (σ:St) (H:Hp) (Q:Bool->Hp->Prop),Inv X pins σ H s->tt σ H Q ->
 wpAny (model X.prog X.w) X.A (forIn ifs true fun c r=>if r=true then do let ok <-Hw c X.env (eval c X.env);pure (ForInStep.yield ok)else pure (ForInStep.yield r)) (TP X pins σ Q) X.xe s
def lE:TT:=fun _ H Q=>Q true H
theorem eO{X:Cx}:PTs X [] lE:=fun _ _ _ H _ I h=>wpAny_tests_nil #[H,I,h]
section
variable{P:aG}{w:World}{B:aN}{R:lW->Shared->Prop}{s:Shared}
def agB(P:aG)(w:World)(B:aN)(R:lW->Shared->Prop)(elt tg:Expr)(ifs:List Expr)(it acc:Value)(en:Env)(J:Nat->Shared->Prop)(n:Nat):Option Value->Shared->Prop
 |none,t1=>R (.ok .next) t1
 |some v,t1 =>
  let X:=Pq (model P w) B en fun e t=>R (.error e) t
  wpAny (model P w) B (Ot tg it v) (fun _ t2=>wpAny (model P w) B (qN tg en v) (fun _ t3 =>
   wpAny (model P w) B (forIn ifs true fun c r=>if r=true then do let yes <- Hw c en (eval c en);pure (ForInStep.yield yes) else pure (ForInStep.yield r)) (fun yes t4 =>
    if yes=true then wpAny (model P w) B (eval elt en) (fun x t5=>wpAny (model P w) B (call (.builtin "list.append") [acc,x]) (fun _ t6=>∃m,m<n/\J m t6) X t5) X t4
    else ∃ m,m<n/\J m t4) X t3) X t2) X t1
theorem Zh{elt tg iter:Expr}{ifs:List Expr}{scope:Scope}{pos:Pos}{it acc:Value}{en:Env}(J:Nat->Shared->Prop)
  (owe:∀n t,J n t->wpAny (model P w) B (lV it) (agB P w B R elt tg ifs it acc en J n) (Pq (model P w) B en fun e t'=>R (.error e) t') t) (n:Nat) (h:J n s):
  fC (model P w) B (.compLoop (.ListComp elt [#[tg,iter,ifs,0]] scope pos) 0 it acc en) R s:=by
 have same:∀{X:Value->Shared->Prop}(a:Value)(b:Shared),X a b->X a b:=fun _ _ h=>h;refine codeAny_loop rfl J (fun n t hJ=>?_) n h;show wpAny _ B ((compTurn (.ListComp elt [#[tg,iter,ifs,0]] scope pos) 0 it acc en).onRaise (fun x=>do uh x en;theTreesLotGoes x)) _ _ t;refine wpAny_noted ?_;rw[compTurn_list];refine au (Hj (au (cO (owe n t hJ) (fun r t1 h1=>?_) same)));cases r with
 |none=>exact aK h1
 |some v =>
  refine au (cO h1 (fun _ t2 h2=>au (cO h2 (fun _ t3 h3=>au (cO h3 (fun yes t4 h4=>?_) same)) same)) same);cases yes with
  |false=>exact aK #[rfl,h4]
  |true=>exact au (au (cO h4 (fun x t5 h5=>au (cO h5 (fun _ t6 h6=>aK (aK #[rfl,h6])) same)) same))
end
section
variable{X:Cx}
theorem uM{elt iter tg:Expr}{g:TG}{k:Nat}{ifs:List Expr}{scope:Scope}{pos:Pos}{cl:List (Str × Addr)}{N:List Str}{caps:List Nat}{tt:TT}{te:TE}{pins:List (Addr × Obj)}{σ:St}{H2:Hp}{s2:Shared}{Q:VK}{it:Addr}{fp:List Addr}{tn:Nat->Heap->Prop}{J:It}
  {RR:Value->Addr->lW->Shared->Prop} {E:Value->Shared->Prop} (xe:Shared->Hp->List Addr->Addr->Value->Shared->Prop) (hc:X.calm=true)
  (hcell:∀y∈scope.names,y.2≠.cell) (hkind:scope.kind=.function) (hsub:Uq X.env.cells cl)
  (hhas:∀y,((iG scope X.env).names.lookup y=some .cell\/(iG scope X.env).names.lookup y=some .free)->∃c,cl.lookup y=some c)
  (hg:∀s H fp C,PG (bO X N scope cl s H fp C) tg g) (hlen:N.length=k+caps.length) (hcap:∀(i:Nat)(j:Nat),caps[i]? = some j->Ur X N scope cl (i+k) j)
  (ht:∀s H fp C,PTs (bO X N scope cl s H fp C) ifs tt) (he:∀s H fp C,PE ((bO X N scope cl s H fp C).wish (xe s H fp C)) elt te)
  (I2:Inv X pins σ H2 s2) (T:Turn X.prog X.w X.K tg J fp it tn) (st2:tn 0 s2.heap) (f2:∀b∈fp,xG X pins H2 b) (w2:∀D,H2 D=none->mQ J g k caps tt te σ D Q H2)
  (hRR:∀D C σ' H' s5,s2.heap.objs.size<=C->Inv (bO X N scope cl s2 H2 fp C) (X.pn++pins) σ' H' s5->Q (.ref D) H'->RR (.ref D) C (.ok .next) s5)
  (hX:∀D C ev s9,s2.heap.objs.size<=C->xe s2 H2 fp C ev s9->Pq (model X.prog X.w) X.A (Pj scope cl C X.env) (fun e t=>RR (.ref D) C (.error e) t) ev s9):
  wpAny (model X.prog X.w) X.A (newList []) (fun acc s₃=>wpAny (model X.prog X.w) X.A (newFunctionEnv scope X.env.globals cl [] X.env.qual none .none (some X.env)) (fun cenv s₄ =>
   fC (model X.prog X.w) X.A (.compStart (.ListComp elt [#[tg,iter,ifs,0]] scope pos) 0 (.ref it) acc { cenv with scope:=iG scope X.env }) (RR acc cenv.locals) s₄) E s₃) E s2:=by
 refine Xr (wpAny_newFunctionEnv hcell (by intro y hy;simp at hy) (fun h₁ hns₁ hsb₁=>?_) hkind);dsimp only at hns₁ hsb₁ ⊢;generalize hH2:s2.heap.push { cls:=.type "list",dict:=none,data:=.seq ([]:List Value).toArray }=G2 at hns₁ hsb₁ ⊢;have hC:G2.objs.size=s2.heap.objs.size+1:=by rw[<-hH2,pW]
 have hCle:s2.heap.objs.size<=G2.objs.size:=by rw[hC];exact xq _
 have hDC:G2.objs.size≠s2.heap.objs.size:=by rw[hC];exact oX (wZ _)
 have old:∀b o,s2.heap.get? b=some o->h₁.get? b=some o:=fun b o e =>
  hsb₁.extBut b o (by rw[hC];exact bZ (PJ (bA e))) (cX _ (hH2 ▸ cX _ e))
 have hacc:∃n,h₁.get? s2.heap.objs.size=some { cls:=.type "list",data:=.seq #[] n }:=#[_,hsb₁.extBut _ _ (aQ hDC) (cX _ (hH2 ▸ dZ _ rfl))];have hnD:H2 s2.heap.objs.size=none:=I2.hok.fresh (aO _);obtain⟨W,⟨m0,w0⟩,turn⟩:=w2 s2.heap.objs.size hnD;have fo:∀b∈fp,∃o,s2.heap.get? b=some o:=fun b hb=>by
  obtain⟨o,e,_⟩:=T.obj _ _ st2 b hb;show#[o,e]
 have I3:Inv (bO X N scope cl s2 H2 fp G2.objs.size) (X.pn++pins) (lB σ (tR k none) caps) (upd H2 s2.heap.objs.size (.lst [])) { s2 with heap:=h₁,toks:=s2.toks+([]:List (Str × Value)).length }:=
  I2.compT hkind hsub hhas f2 fo hlen hcap (aO _) hCle hDC old hacc #[_,hns₁]
 have st3:tn 0 h₁:=T.keep _ _ _ st2 fun b _ o e=>old b o e;have nf:∀b∈fp,b≠s2.heap.objs.size:=fun b hb=>by
  obtain⟨o,e⟩:=fo b hb;exact bZ (bA e)
 have stat:∀{H':Hp},(∀b∈fp,H' b=none)->∀b∈fp,xG (bO X N scope cl s2 H2 fp G2.objs.size) (X.pn++pins) H' b:=fun {H'} hn b hb=>by
  obtain⟨f0,f1,f2',f3,f4,f5⟩:=f2 b hb;obtain⟨o,e⟩:=fo b hb;show#[hn b hb,bZ (cG (bA e) hCle),fun z=>?_,.inl hb,fun y c q=>f4 y c (hsub.of q),fun p hp=>f5 p hp];rcases aZ.mp (I2.Bc b z)with q|q
  ·exact f1 q
  ·exact f2' q
 have loop:fC (model X.prog X.w) X.A (.compLoop (.ListComp elt [#[tg,iter,ifs,0]] scope pos) 0 (.ref it) (.ref s2.heap.objs.size) (Pj scope cl G2.objs.size X.env))
   (RR (.ref s2.heap.objs.size) G2.objs.size) { s2 with heap:=h₁,toks:=s2.toks+([]:List (Str × Value)).length }:=by
  refine Zh (fun n s'=>∃i ys σ' H',Inv (bO X N scope cl s2 H2 fp G2.objs.size) (X.pn++pins) σ' H' s'/\(∃zs:List (Option V),zs.length=k/\σ'=lB σ zs caps)/\tn i s'.heap/\(∀b∈fp,H' b=none)/\W i n ys H') ?_ m0
   #[0,[],_,_,I3,#[_,zJ,rfl],st3,fun b hb=>by rw[ao (nf b hb)];exact(f2 b hb).1,w0]
  rintro n s' ⟨i,ys,σ',H',I',⟨zs,hzs,rfl⟩,st',fr',w'⟩;obtain⟨hl,ends⟩:=turn i n ys H' w';rcases ends with⟨stop,q⟩|⟨go,hsz,step⟩
  ·refine cO (T.done (bO X N scope cl s2 H2 fp G2.objs.size) rfl rfl rfl hc i _ s' _ H' (fun _ _=>False) I' (stat fr') st' stop) (fun r s5 zq=>?_) fun _ _ f=>f.elim;obtain⟨hr,I5⟩:=zq;subst hr;exact hRR _ _ _ _ _ hCle I5 q
  ·refine cO (T.item (bO X N scope cl s2 H2 fp G2.objs.size) rfl rfl rfl hc i _ s' _ H' (fun _ _=>False) I' (stat fr') st' go) (fun r s5 zq=>?_) fun _ _ f=>f.elim;obtain⟨u,hr,h5⟩:=zq;subst hr;refine cO h5 (fun _ s6 zq=>?_) fun _ _ f=>f.elim;obtain⟨y,H6,I6,r6,y6,st6,fr6⟩:=zq;have I6':=I6.pinned (stat fr6) (T.obj _ _ st6);have again:∀{σ7:St}{H7:Hp}{s7:Shared},Inv (bO X N scope cl s2 H2 fp G2.objs.size) ((X.pn++pins)++Jc fp s6.heap) σ7 H7 s7->tn (i+1) s7.heap/\∀b∈fp,H7 b=none:=fun {σ7 H7 s7} I7=>by
    show#[T.keep _ _ _ st6 fun b hb o e=>(I7.pin (b,o) (j5 _ (j5 _ (rz hb e)))).1,fun b hb=>?_];obtain⟨o,e,d⟩:=T.obj _ _ st6 b hb;exact(I7.pin (b,o) (j5 _ (j5 _ (rz hb e)))).2.1
   refine cO (hg s2 H2 fp G2.objs.size _ s6 _ H6 y u _ I6' r6 (step y H6 y6 zs hzs)) (fun _ s7 ⟨σ7,H7,I7,⟨zs7,hz7,e7⟩,q7⟩=>?_) fun _ _ f=>f.elim;subst e7;refine cO (ht s2 H2 fp G2.objs.size _ s7 _ _ _ I7 q7) (fun ok s8 zq=>?_) fun _ _ f=>f.elim;obtain⟨H8,I8,q8⟩:=zq;cases ok with
   |false =>
    obtain⟨_,m',hm,w8⟩:=q8;have a8:=again I8;show#[m',hm,i+1,ys,_,H8,I8.uI,#[zs7,hz7,rfl],a8.1,a8.2,w8]
   |true =>
    refine cO (he s2 H2 fp G2.objs.size _ s8 _ _ _ (I8.wish _) q8) (fun x9 s9 zq=>?_) fun ev s9 z=>hX _ _ ev s9 hCle z;obtain⟨y9,H9,I9,r9,l9,m',hm,w9⟩:=zq;refine cO (Bj (X:=bO X N scope cl s2 H2 fp G2.objs.size) _ s9 _ H9 (.ref s2.heap.objs.size) [y9] _ [x9] (fun _ H10=>H10=upd H9 s2.heap.objs.size (.lst (ys++[y9]))) I9.gA rfl (.cons r9 .nil) #[_,ys,y9,rfl,rfl,l9,hsz,rfl]) (fun _ s10 zq=>?_) fun _ _ f=>f.elim;obtain⟨_,H10,I10,_,e10⟩:=zq;subst e10;have a10:=again I10;show#[m',hm,i+1,ys++[y9],_,_,I10.uI,#[zs7,hz7,rfl],a10.1,a10.2,w9]
 exact codeAny_compStart_list loop (T.self _ 0 _ _ _ st3 loop)
structure uN(X:Cx)(scope:Scope)(cl:List (Str × Addr))(N:List Str)(caps:List Nat)(k:Nat):Prop where
 calm:X.calm=true
 clos:closureFor scope X.env=pure cl
 cell:∀y∈scope.names,y.2≠.cell
 kind:scope.kind=.function
 names:∀y∈scope.names,y.2=.local->scope.names.lookup y.1=some .local
 sub:Uq X.env.cells cl
 has:∀y,((iG scope X.env).names.lookup y=some .cell\/(iG scope X.env).names.lookup y=some .free)->∃c,cl.lookup y=some c
 len:N.length=k+caps.length
 cap:∀(i:Nat)(j:Nat),caps[i]? = some j->Ur X N scope cl (i+k) j
variable{elt iter tg:Expr}{x y:Str}{px py spos:Pos}{g:TG}{k i:Nat}{ifs:List Expr}{scope:Scope}{pos:Pos}{cl:List (Str × Addr)}{N:List Str}{caps:List Nat}{wi:TI}{tt:TT}{te:TE}{R:It->St->Addr->VK->Hp->Prop}
theorem Us(O:uN X scope cl N caps k)(hg:∀s H fp C,PG (bO X N scope cl s H fp C) tg g)(hi:PI X tg iter wi)(ht:∀s H fp C,PTs (bO X N scope cl s H fp C) ifs tt)(he:∀s H fp C,PE (bO X N scope cl s H fp C) elt te)
  (hR:∀{J σ D Q H},R J σ D Q H->mQ J g k caps tt te σ D Q H) (hs:∀x,tY iter X.env x=pure x):PE X (.ListComp elt [#[tg,iter,ifs,0]] scope pos) (fun σ H Q=>wi σ H fun J H1=>∀D,H1 D=none->R J σ D Q H1):=by
 walk_at "s"
 rw [aeh];refine Xo (use:=none) rfl hs O.clos O.kind O.names (thn (hi pins s σ H _ I h) fun v s1 h1=>thn h1 fun itv s2 h2=>?_);obtain ⟨it,fp,tn,J,H2,e,I2,T,st2,f2,w2⟩:=h2;subst e;exact uM (fun _ _ _ _ _ _=>False) O.calm O.cell O.kind O.sub O.has hg O.len O.cap ht he I2 T st2 f2 (fun D n=>hR (w2 D n)) (fun D C σ' H' s5 hC I5 q=>by
  obtain ⟨m,hm,_⟩:=I5.loc;show#[m,hm,fun h' hs'=>#[.ref D,H',I2.QM f2 hC I5 hs',rfl,q]])
  fun _ _ _ _ _ z=>z.elim
theorem Ut{pins oE:List (Addr × Obj)}{σ σ':St}{H2 H1:Hp}{s2 s1 s9:Shared}{fp:List Addr}{C:Addr}{ev:Value}{E:XK}{use:Option (Value->Sem Unit)}{Q:Value->Shared->Prop}{acc:Value}(hst:X.stack=X.env::X.outer)(hfr:X.env.frame=some X.env.locals)(hex:X.ex=[])(hx:XW X E)
  (I2:Inv X pins σ H2 s2) (f2:∀b∈fp,xG X pins H2 b) (hC:s2.heap.objs.size<=C) (I1:Inv (bO X N scope cl s2 H2 fp C) oE σ' H1 s1) (z:CXE X.prog X.w X.stack H1 s1 E ev s9):
  Pq (model X.prog X.w) X.A (Pj scope cl C X.env) (fun e t=>compPost (model X.prog X.w) X.A X.xe use Q acc C (.error e) t) ev s9:=by
 obtain⟨e,C',T,dd,fl,H',rfl,os,bare,u,hok,fly,hE⟩:=z;have J1:Inv X pins σ H1 s1:=I2.QM (h':=s1.heap) f2 hC I1 #[rfl,fun _ _=>rfl];have QL:∀{h:Heap},Un (frs X.stack) [] H1 H' s1.heap h->HOk X.prog X.w H' h->h.FunFrames X.base (X.env::X.outer):=fun {h} u' hok'=>by
  have:=(J1.call' (ch:=[]) (s':={ s9 with heap:=h }) os u' hok' bare (by simp)).stack;rwa[hst]at this
 have sub:∀b∈frs (X.env::X.outer),b∈frs X.stack\/s1.heap.get? b=none:=fun b hb=>.inl (by rwa[hst]);have fre:∀b∈frs (X.env::X.outer),H' b=none:=fun b hb=>(J1.call' (ch:=[]) os u hok bare (by simp)).vI b (by rwa[hst]);have I9:=I1.call' (ch:=[]) (s':=s9) os u hok bare (by simp);have nC:H' C=none:=I9.free;obtain⟨mC,nsC,_⟩:=I9.loc;obtain⟨oe0,_,_,_,_,qe,qd,_⟩:=id fly.tr;obtain⟨a0,tr⟩:=fly.traced (l:=X.env::X.outer);show wpAny _ _ (uh (.ref e) X.env) _ _ _;refine Bq (base:=Bare s9.heap (X.env::X.outer) [e,T]) (by rw[I2.ok.frames,hst]) (gH (QL u hok)) hfr tr (fun b o q=>wH _ q) (Dd _ (by simp)) fun h2 ⟨x1,_,x3,x2⟩ dk=>?_;obtain⟨u2,agx,T2,Br⟩:=Bo u hok (QL u hok) fre sub fly.hidden fly.ue fly.ge x1 x2 x3 qe qd dk;have ns2:h2.Ns C mC:=akW (h:=s9.heap) x2 nsC;show#[mC,ns2,fun h3 sb cenv _=>?_];obtain⟨oe,vs,oT,ts,a2,q1,q2,q3,q4,q5,q6,q7,q8,q9⟩:=Br.tr;obtain⟨oC,_,_,hoC,hdC,_⟩:=ns2;have neC:∀{b:Addr}{o:Obj}{ws:Array Value},h2.get? b=some o->o.data=.fields ws->b≠C:=fun r d y=>by
  rw[y,hoC]at r;cases r;rw[hdC]at d;cases d
 have q1':=(sb.2 e (neC q1 q4)).trans q1;have q7':=(sb.2 T2 (neC q7 q8)).trans q7;have hz:3<ts.size:=(Ia.mp q9).1;unfold PySem.passOn;refine au (iz q1' q4 q5 ?_);rw[if_neg (by simp)];unfold Pb;refine au (au (iz q1' q4 q5 ?_));rw[if_pos (by simp)];refine ad9 q7' q8 hz (wpAny_throw ?_);generalize hfl:(cenv.frame.elim Value.none fun f=>iH f)=fl3;have oth:∀b,b≠T2->(h3.update T2 (Aq (·.setIfInBounds 3 fl3))).get? b=h3.get? b:=fun b nb=>lY _ _ (aQ nb);have self:=pU (Aq (·.setIfInBounds 3 fl3)) q7' (Obj.isFreed_of_fields (afe q8 _));generalize h3.update T2 (Aq (·.setIfInBounds 3 fl3))=h4 at oth self ⊢;have stay:∀{b:Addr}{o:Obj},b≠C->b≠T2->h2.get? b=some o->h4.get? b=some o:=fun n1 n2 r=>(oth _ n2).trans ((sb.2 _ n1).trans r);have nT:∀{b:Addr}{o:Obj},s1.heap.get? b=some o->b≠T2:=fun r y=>by rw[y,Br.gT]at r;cases r
 have u4:Un (frs X.stack) [C] H1 H' s1.heap h4:=#[fun b o r n hb hx=>stay (fun y=>hx (by simp [y])) (nT r) (u2.keep b o r n hb (by simp)),fun b o r n hb hx=>by
   obtain⟨sl,p⟩:=u2.slot b o r n hb (by simp);show#[sl,stay (fun y=>hx (by simp[y])) (nT r) p],fun b o r n _=>u2.free b o r n (by simp),fun b o r hx=>by
   obtain ⟨o',p⟩:=u2.there b o r (by simp);show#[o',stay (fun y=>hx (by simp [y])) (nT r) p],u2.tups,u2.rm,u2.uH]
 have hok4:HOk X.prog X.w H' h4:=fun b o r=>by
  have tr:∀{c:Addr}{v:HO}{w:Obj},H' c=some v->h2.get? c=some w->h4.get? c=some w:=fun r p=>stay (fun y=>by rw[y,nC]at r;cases r) (fun y=>by rw[y,Br.uT]at r;cases r) p;refine(agx b o r).stay (fun c v hc p=>?_) (fun _ p=>p) fun _ _ p=>p;rcases hc with rfl|hc
  ·exact tr r p
  ·exact tr hc p
 have I4:=J1.call' (s':={ s9 with heap:=h4 }) (ch:=[C]) os u4 hok4 bare fun b hb=>by
  obtain rfl:b=C:=(by simpa using hb);show#[.inr (bW I2.sz hC),?_,fun y c q=>?_,fun p hp y=>?_]
  ·obtain⟨m,⟨o,_,_,ho,_⟩,_⟩:=I2.loc;exact oX (cG (bA ho) hC)
  ·obtain⟨v,o,ho,_⟩:=I2.cell y c q;exact bZ (cG (bA ho) hC)
  ·exact absurd (cG (bA (I2.pin p hp).1) (by rwa[y])) (nH _)
 refine hx pins σ H' _ e C' T2 fl3 dd I4 (Fly.older #[Br.ue,Br.uT,Br.ge,Br.gT,oe,vs,_,_,a2,(oth e (aQ q6)).trans q1',q2,q3,q4,q5,q6,self,afe q8 _,by simp[hz]] fun b o r=>J1.base.there b o r (by rw[hex];simp)) hE
theorem acn{E:XK}(hst:X.stack=X.env::X.outer)(hfr:X.env.frame=some X.env.locals)(hex:X.ex=[])(hx:XW X E)(O:uN X scope cl N caps k)(hg:∀s H fp C,PG (bO X N scope cl s H fp C) tg g)(hi:PI X tg iter wi)(ht:∀s H fp C,PTs (bO X N scope cl s H fp C) ifs tt)
  (he:∀s H fp C,PE ((bO X N scope cl s H fp C).wish fun ev s'=>∃oE σ' H1 s1,Inv (bO X N scope cl s H fp C) oE σ' H1 s1/\CXE X.prog X.w X.stack H1 s1 E ev s') elt te)
  (hR:∀{J σ D Q H},R J σ D Q H->mQ J g k caps tt te σ D Q H) (hs:∀x,tY iter X.env x=pure x):PE X (.ListComp elt [#[tg,iter,ifs,0]] scope pos) (fun σ H Q=>wi σ H fun J H1=>∀D,H1 D=none->R J σ D Q H1):=by
 walk_at "s"
 rw [aeh];refine Xo (use:=none) rfl hs O.clos O.kind O.names (thn (hi pins s σ H _ I h) fun v s1 h1=>thn h1 fun itv s2 h2=>?_);obtain ⟨it,fp,tn,J,H2,e,I2,T,st2,f2,w2⟩:=h2;subst e;exact uM (fun s H fp C ev s'=>∃ oE σ' H1 s1,Inv (bO X N scope cl s H fp C) oE σ' H1 s1/\CXE X.prog X.w X.stack H1 s1 E ev s') O.calm O.cell O.kind O.sub O.has hg O.len O.cap ht he I2 T st2 f2 (fun D n=>hR (w2 D n)) (fun D C σ' H' s5 hC I5 q=>by
  obtain ⟨m,hm,_⟩:=I5.loc;show#[m,hm,fun h' hs'=>#[.ref D,H',I2.QM f2 hC I5 hs',rfl,q]])
  fun D C ev s9 hC ⟨_,_,_,_,I1,z⟩=>Ut hst hfr hex hx I2 f2 hC I1 z
theorem Uu(hXN:X.N.Nodup)(hi0:X.N[i]? = some y)(hy:Loc X.env.scope y)(O:uN X scope cl N caps k)(hg:∀s H fp C,PG (bO X N scope cl s H fp C) tg g)(hi:PI X tg iter wi)(ht:∀s H fp C,PTs (bO X N scope cl s H fp C) ifs tt)(he:∀s H fp C,PE (bO X N scope cl s H fp C) elt te)
  (hR:∀{J σ D Q H},R J σ D Q H->mQ J g k caps tt te σ D Q H) (hs:∀x,tY iter X.env x=pure x) (hsw:ug (.ListComp elt [#[tg,iter,ifs,0]] scope pos) (some (.Name y py)) spos.line X.env=pure true) (hf:X.fn y=true\/X.env.scope.names.lookup y=some .local):
  PS X (.Assign [.Name y py] (.ListComp elt [#[tg,iter,ifs,0]] scope pos) spos) (ab0 (fun σ H Q=>wi σ H fun J H1=>∀D,H1 D=none->R J σ D Q H1) (mO i)):=by
 walk_at "I"
 rw [exec_Assign_Name_used _ _ _ _ hsw];refine au (Hj (au ?_));show wpAny _ X.A (do let _ <- comprehension (.ListComp elt [#[tg,iter,ifs,0]] scope pos) scope X.env _ (newList []) false (eval iter X.env) (some (qN (.Name y py) X.env))) _ _ s;refine au (cO (Xo (use:=some (qN (.Name y py) X.env)) (Q:=fun _ s'=>SP X pins D .next s') rfl hs O.clos O.kind O.names
  (thn (hi pins s σ H _ I h) fun v s1 h1=>thn h1 fun itv s2 h2=>?_)) (fun _ s' hq=>aK (aK hq)) fun _ _ e=>e)
 obtain⟨it,fp,tn,J,H2,e,I2,T,st2,f2,w2⟩:=h2;subst e;refine uM (fun _ _ _ _ _ _=>False) (RR:=fun acc C=>compPost (model X.prog X.w) X.A X.xe (some (qN (.Name y py) X.env)) (fun _ s'=>SP X pins D .next s') acc C) O.calm O.cell O.kind O.sub O.has hg O.len O.cap ht he I2 T st2 f2 (fun D n=>hR (w2 D n)) (fun D' C σ' H' s5 hC I5 q=>?_) fun _ _ _ _ _ z=>z.elim;show wpAny _ X.A (qN (.Name y py) X.env (.ref D')) _ _ _;have IX:Inv X pins σ H' s5:=I2.QM (h':=s5.heap) f2 hC I5 #[rfl,fun _ _=>rfl];have nL:C≠X.env.locals:=by
  obtain⟨m,⟨o,_,_,ho,_⟩,_⟩:=I2.loc;exact oX (cG (bA ho) hC)
 have nC:∀z c,X.env.cells.lookup z=some c->c≠C:=fun z c e=>by
  obtain⟨v,o,ho,_⟩:=I2.cell z c e;exact bZ (cG (bA ho) hC)
 refine adY (Mr IX hXN hi0 hy (v:=.ref D') rfl (fun s6 I6 hb=>?_) hf);obtain⟨m,hm,_⟩:=I5.loc;obtain⟨a,sb,ha⟩:=hb;have na:C≠a:=by
  rcases ha with z|z
  ·rwa[z]
  ·exact aQ (nC _ _ z)
 show#[m,hm.sameBut sb na,fun h' hs'=>#[_,H',?_,q]];obtain⟨hp6,g6,d6,t6,o6⟩:=s6;refine I6.turned (it:=C) (t':=t6) (fun b o hb e=>(hs'.2 b hb).trans e) I5.free nL (.inr (bW I2.sz hC)) nC fun p hp z=>?_;have:=(I2.pin p hp).1;exact absurd (cG (bA this) (by rwa[z])) (nH _)
theorem lC.T{J:It}{σ:St}{D:Addr}{Q:VK}{H:Hp}(h:lC J caps tt te σ D Q H):mQ J (mO 0) 1 caps tt te σ D Q H:=by
 obtain⟨W,w0,turn⟩:=h;show#[W,w0,fun i m ys H w=>?_];obtain⟨a,b⟩:=turn i m ys H w;show#[a,b.imp id fun b=>?_];obtain⟨go,l,st⟩:=b;show#[go,l,fun x H' y zs hz=>?_];obtain⟨z,rfl⟩:=List.length_eq_one_iff.mp hz;show#[#[[some x],rfl,rfl],st x H' y]
end
theorem alC{names:List (Str × wV)}{cl:List (Str × Addr)}(h:(names.all fun p=>(p.2 != .cell && p.2 != .free) || (cl.lookup p.1).isSome)=true)(y:Str)(hy:names.lookup y=some .cell\/names.lookup y=some .free):∃c,cl.lookup y=some c:=by
 have key:∀k:wV,(k=.cell\/k=.free)->names.lookup y=some k->∃c,cl.lookup y=some c:=fun k hk e=>by
  have m:=qI.mp h _ (zR e);have:(k != .cell && k != .free)=false:=by rcases hk with z|z <;> (subst z;rfl)
  rw[show((y,k):Str × wV).2=k from rfl,this,Yh]at m;exact Yj.mp m
 rcases hy with z|z
 ·exact key _ (.inl rfl) z
 ·exact key _ (.inr rfl) z
def Jm(X:Cx)(N:List Str)(scope:Scope)(cl:List (Str × Addr)):Nat->List Nat->Prop
 |_,[]=>True
 |i,j::r=>Ur X N scope cl i j/\Jm X N scope cl (i+1) r
theorem Jm.at{X:Cx}{N:List Str}{scope:Scope}{cl:List (Str × Addr)}:∀{caps:List Nat}{k:Nat},Jm X N scope cl k caps->∀(i j:Nat),caps[i]? = some j->Ur X N scope cl (i+k) j
 |[],_,_,i,j,h=>by simp at h
 |a::r,k,hc,0,j,h=>by
  have e:a=j:=by simpa using h
  subst e;rw[Hz];exact hc.1
 |a::r,k,hc,i+1,j,h=>by
  have:=Jm.at hc.2 i j (by simpa using h);rwa[show i+1+k=i+(k+1) by lia]
section
variable{X:Cx}{elt iter tg:Expr}{x y:Str}{px py spos:Pos}{g:TG}{k:Nat}{ifs:List Expr}{scope:Scope}{pos:Pos}{wi:TI}{tt:TT}{te:TE}
theorem QS{cl:List (Str × Addr)}{N:List Str}{caps:List Nat}(ca:X.calm=true:=by rfl)(a:closureFor scope X.env=pure cl:=by with_unfolding_all rfl)(b:∀y∈scope.names,y.2≠.cell:=by decide +kernel)(c:scope.kind=.function:=by rfl)
  (d:∀y∈scope.names,y.2=.local->scope.names.lookup y.1=some .local:=by decide +kernel) (e:Uq X.env.cells cl:=by repeat' first|exact trivial|show#[rfl,?_]) (f:((iG scope X.env).names.all fun p=>(p.2 != .cell && p.2 != .free) || (cl.lookup p.1).isSome)=true:=by with_unfolding_all rfl)
  (l:N.length=k+caps.length:=by rfl) (m:Jm X N scope cl k caps:=by repeat' first|exact trivial|show#[#[_,_,rfl,rfl,.inl rfl,.inl rfl,rfl],?_]):uN X scope cl N caps k:=#[ca,a,b,c,d,e,alC f,l,m.at]
theorem fV(cl:List (Str × Addr))(N:List Str)(caps:List Nat)(hi:PI X (.Name x px) iter wi)(ht:∀s H fp C,PTs (bO X N scope cl s H fp C) ifs tt)(he:∀s H fp C,PE (bO X N scope cl s H fp C) elt te)(O:uN X scope cl N caps 1:=by exact QS)
  (hN:N.Nodup:=by decide +kernel) (h0:N[0]? = some x:=by rfl) (hx:(iG scope X.env).names.lookup x=some .local:=by rfl) (hs:∀x,tY iter X.env x=pure x:=by intro _;rfl):PE X (.ListComp elt [#[.Name x px,iter,ifs,0]] scope pos) (agA wi caps tt te):=
 Us O (fun _ _ _ _=>vJ hN h0 (.inl hx) (.inr hx)) hi ht he lC.T hs
theorem Bu{E:XK}(hx:XW X E)(cl:List (Str × Addr))(N:List Str)(caps:List Nat)(hi:PI X (.Name x px) iter wi)(ht:∀s H fp C,PTs (bO X N scope cl s H fp C) ifs tt)
  (he:∀s H fp C,PE ((bO X N scope cl s H fp C).wish fun ev s'=>∃oE σ' H1 s1,Inv (bO X N scope cl s H fp C) oE σ' H1 s1/\CXE X.prog X.w X.stack H1 s1 E ev s') elt te) (O:uN X scope cl N caps 1:=by exact QS) (hst:X.stack=X.env::X.outer:=by rfl) (hfr:X.env.frame=some X.env.locals:=by rfl) (hex:X.ex=[]:=by rfl)
  (hN:N.Nodup:=by decide +kernel) (h0:N[0]? = some x:=by rfl) (hl:(iG scope X.env).names.lookup x=some .local:=by rfl) (hs:∀x,tY iter X.env x=pure x:=by intro _;rfl):PE X (.ListComp elt [#[.Name x px,iter,ifs,0]] scope pos) (agA wi caps tt te):=
 acn hst hfr hex hx O (fun _ _ _ _=>vJ hN h0 (.inl hl) (.inr hl)) hi ht he lC.T hs
theorem ajw{cl:List (Str × Addr)}{N:List Str}{s:Shared}{H:Hp}{fp:List Addr}{C:Addr}{E:XK}:Passes (CXE X.prog X.w) ((bO X N scope cl s H fp C).wish fun ev s'=>∃oE σ' H1 s1,Inv (bO X N scope cl s H fp C) oE σ' H1 s1/\CXE X.prog X.w X.stack H1 s1 E ev s') E:=
 fun pins σ H1 s1 _ _ I z=>#[pins,σ,H1,s1,I.gA,z]
theorem Uv(i:Nat)(hXN:X.N.Nodup)(cl:List (Str × Addr))(N:List Str)(caps:List Nat)(hi:PI X (.Name x px) iter wi)(ht:∀s H fp C,PTs (bO X N scope cl s H fp C) ifs tt)(he:∀s H fp C,PE (bO X N scope cl s H fp C) elt te)(O:uN X scope cl N caps 1:=by exact QS)
  (hN:N.Nodup:=by decide +kernel) (h0:N[0]? = some x:=by rfl) (hx:(iG scope X.env).names.lookup x=some .local:=by rfl) (hs:∀x,tY iter X.env x=pure x:=by intro _;rfl) (hi0:X.N[i]? = some y:=by rfl) (hy:Loc X.env.scope y:=by exact Or.inl rfl)
  (hsw:ug (.ListComp elt [#[.Name x px,iter,ifs,0]] scope pos) (some (.Name y py)) spos.line X.env=pure true:=by rfl) (hf:X.fn y=true\/X.env.scope.names.lookup y=some .local:=by first|exact .inl rfl|exact .inr rfl|assumption):
  PS X (.Assign [.Name y py] (.ListComp elt [#[.Name x px,iter,ifs,0]] scope pos) spos) (ab0 (agA wi caps tt te) (mO i)):=Uu hXN hi0 hy O (fun _ _ _ _=>vJ hN h0 (.inl hx) (.inr hx)) hi ht he lC.T hs hsw hf
theorem aco(k:Nat)(cl:List (Str × Addr))(N:List Str)(caps:List Nat)(hg:∀s H fp C,PG (bO X N scope cl s H fp C) tg g)(hi:PI X tg iter wi)(ht:∀s H fp C,PTs (bO X N scope cl s H fp C) ifs tt)(he:∀s H fp C,PE (bO X N scope cl s H fp C) elt te)(O:uN X scope cl N caps k:=by exact QS)
  (hs:∀x,tY iter X.env x=pure x:=by intro _;rfl):PE X (.ListComp elt [#[tg,iter,ifs,0]] scope pos) (alB wi g k caps tt te):=Us O hg hi ht he id hs
end
theorem xK{lo:Int}{n:Nat}{caps:List Nat}{te:TE}{σ:St}{H:Hp}{D:Addr}{Q:VK}(Pv:Nat->List V->Hp->Prop)(h0:Pv 0 [] (upd H D (.lst [])))(hl:∀i ys H,i<=n->Pv i ys H->H D=some (.lst ys)/\ys.length<sizeLine)
  (hs:∀i ys H,i<n->Pv i ys H->te (Jl σ (some (.int (lo+i))) caps) H fun y H3=>H3 D=some (.lst ys)/\Pv (i+1) (ys++[y]) (upd H3 D (.lst (ys++[y])))) (hd:∀ys H,Pv n ys H->Q (.ref D) H)
  (mono:∀σ H (Q Q':VK),(∀y H,Q y H->Q' y H)->te σ H Q->te σ H Q'):
  lC (Itr lo n) caps lE te σ D Q H:=by
 show#[fun i m ys H=>m=n-i/\i<=n/\Pv i ys H,#[n,by simp,cU _,h0],?_];rintro i m ys H ⟨rfl,hi,p⟩;obtain⟨q,z⟩:=hl i ys H hi p;show#[q,?_];by_cases hlt:i<n
 ·refine .inr #[hlt,z,fun x H' y=>?_];obtain⟨e,y⟩:=y;subst e y;unfold lE;dsimp only;rw[if_pos rfl];exact mono _ _ _ _ (fun y H3 ⟨a,b⟩=>#[a,n-(i+1),by lia,rfl,hlt,b]) (hs i ys _ hlt p)
 ·have e:i=n:=by lia
  subst e;exact .inl #[aO _,hd ys H p]
theorem eX{K:aF}{a:Addr}{xs:List V}{caps:List Nat}{te:TE}{σ:St}{H:Hp}{D:Addr}{Q:VK}(Pv:Nat->List V->Hp->Prop)(h0:Pv 0 [] (upd H D (.lst [])))
  (hl:∀i ys H,i<=xs.length->Pv i ys H->SqL K H a xs/\H D=some (.lst ys)/\ys.length<sizeLine)
  (hs:∀i ys H x,xs[i]? = some x->Pv i ys H->te (Jl σ (some x) caps) H fun y H3=>H3 D=some (.lst ys)/\Pv (i+1) (ys++[y]) (upd H3 D (.lst (ys++[y])))) (hd:∀ys H,Pv xs.length ys H->Q (.ref D) H)
  (mono:∀σ H (Q Q':VK),(∀y H,Q y H->Q' y H)->te σ H Q->te σ H Q'):
  lC (Itl K a) caps lE te σ D Q H:=by
 show#[fun i m ys H=>m=xs.length-i/\i<=xs.length/\Pv i ys H,#[xs.length,by simp,cU _,h0],?_];rintro i m ys H ⟨rfl,hi,p⟩;obtain⟨sq,q,z⟩:=hl i ys H hi p;show#[q,?_];by_cases hlt:i<xs.length
 ·refine .inr #[#[xs,xs[i],sq,by simp[hlt]],z,fun x H' y=>?_];obtain⟨e,y⟩:=y;subst e;unfold lE;dsimp only;rw[if_pos rfl];exact mono _ _ _ _ (fun y H3 ⟨a,b⟩=>#[a,xs.length-(i+1),by lia,rfl,hlt,b]) (hs i ys _ x (y xs sq) p)
 ·have e:i=xs.length:=by lia
  subst e;exact .inl #[#[xs,sq,aO _],hd ys H p]
section
variable{X:Cx}
theorem Zi{A:aN}{E:Value->Shared->Prop}{s:Shared}{T:String}{r d:Addr}{n:Nat}{P:Nat->Value->Prop}{OK:Heap->Prop}{ns:List Int}{Q:Value->Shared->Prop}
  (K:PySem.W.KdlSrc X.prog X.w T r d n P OK) (hh:A.handled=none) (hok:OK s.heap) (hn:n<=sizeLine) (h64:n<64) (hP:∀us:List Value,us.length=n->(∀(j:Nat)(v:Value),us[j]? = some v->P j v)->uo us ns)
  (h:∀ (h':Heap) (tk:Nat) (l:Addr) (out:Array Value) (ns':List Int) (e:Nat),(∀ b ob,s.heap.get? b=some ob->h'.get? b=some ob)->(∀ b ob,s.heap.get? b=some ob->b≠l)->h'.get? l=some (seqObj "list" out e) ->
   uo out.toList ns'->ns'.Perm ns->ns'.Pairwise (· <= ·)->Q (.ref l) { s with heap:=h',toks:=tk }) :
  wpAny (model X.prog X.w) A (call (.builtin "sorted") [.ref r]) Q E s:=by
 refine Calls.call_function_entry kind_sorted plain_sorted entry_sorted (args_sorted1 _) ?_;unfold dN.«sorted»;refine au (m:=checkCount "sorted" 1 1 _) (aK ?_);refine au (PySem.W.kdu_collect (A:=A.in1) K hh hok hn fun h1 tk acc hk hacc=>?_);have hl:acc.toList.length=n:=by rw[yq];exact hacc.1
 have hI:=hP acc.toList hl fun j v e=>hacc.2 j v (by rwa[<-Qh]);refine au (wpAny_newList ?_ (by rwa[hl]));have hoL:(h1.push (seqObj "list" acc.toList.toArray 0)).get? h1.objs.size=some (seqObj "list" acc.toList.toArray 0):=dZ _ rfl;refine au (iy (Xv slot_list_sort #[_,hoL,rfl] entry_list_sort (list_sort_tree hoL hI (by rwa[hl]) fun out ns' a1 a2 a3=>#[_,rfl,?_]) (args_list_sort _)));refine aK #[_,rfl,?_];obtain⟨e,he⟩:=sortedHeap_at (vs:=acc.toList) (out:=out) hoL;have hb:∀b ob,s.heap.get? b=some ob->b<h1.objs.size:=fun b ob e'=>bA (hk b ob e');refine h _ tk _ out ns' e (fun b ob e'=>?_) (fun b ob e'=>bZ (hb b ob e')) he a1 a2 a3;have hlt:=hb b ob e';rw[sortedHeap_old (bZ hlt) (by rw[size_push'];exact PJ hlt)];exact cX _ (hk b ob e')
def agC:List V->Hp->VK->Prop:=fun xs H Q=>∃a kvs ns,xs=[V.ref a]/\Rd H a (.dK kvs)/\(kvs.map fun p=>kV p.1)=ns.map V.int/\ns.length<64 /\
 ∀(l:Addr)(ns':List Int),H l=none->ns'.Perm ns->ns'.Pairwise (· <= ·)->Q (.ref l) (upd H l (.lst (ns'.map V.int)))
def agD(K:aF):List V->Hp->VK->Prop:=fun xs H Q=>∃a ns,xs=[V.ref a]/\SqL K H a (ns.map V.int)/\ns.length<64 /\
 ∀(l:Addr)(ns':List Int),H l=none->ns'.Perm ns->ns'.Pairwise (· <= ·)->Q (.ref l) (upd H l (.lst (ns'.map V.int)))
theorem Zj(hc:X.calm=true):fU X (.builtin "sorted") agC:=by
 walk_at "w"
 obtain⟨a,kvs,ns,rfl,ha,ei,h64,q⟩:=h;obtain⟨u,rfl,ru⟩:=vals1 r;cases ru;obtain⟨z,hd,vs,rel,dd⟩:=MN I.hok ha;obtain⟨ep,hat⟩:=dd.dictAt;have hl:=rel.length;have hns:ns.length=kvs.length:=by have:=congrArg lO ei;simpa using this.symm
 refine Zi (X:=X) (ns:=ns) (PySem.W.kdl_dict (knd:=cg X.prog X.w) (kvs:=vs) (ep:=ep) hd) (I.ok.hd hc) hat (by rwa[<-hl]) (by lia) (fun us hu hv=>?_) fun h' tk l' out ns' e' kp hne hl' hI hp ho=>?_
 ·have vv:=M4 rel hu hv;rw[ei]at vv;exact intsAre_of vv
 ·show#[.ref l',_,I.M5 (t':=tk) kp hne (show cA X.prog X.w _ h' l' (.lst (ns'.map V.int))from#[?_,out.toList,e',vM hI,by simpa using hl']),rfl,q l' ns' (I.none_of hne) hp ho];rwa[aB,hp.length_eq,hns]
theorem Zk:fU X (.builtin "sorted") (agD X.K):=by
 walk_at "w"
 obtain⟨a,ns,rfl,ha,h64,q⟩:=h;obtain⟨u,rfl,ru⟩:=vals1 r;cases ru;obtain⟨its,rv,p,hz⟩:=I.list ha;have hI:=intsAre_of rv;have hl:its.length=ns.length:=by rw[<-rv.length,aB]
 refine sorted_ints p.isList hI (by lia) fun out ns' a1 a2 a3=>?_;obtain⟨e,he⟩:=sortedAll_at s.heap its out;show#[.ref (s.heap.objs.size+1),_,I.laid (t':=s.toks) (fun _ _=>sortedAll_old) (xq _) (show cA X.prog X.w _ _ (s.heap.objs.size+1) (.lst (ns'.map V.int))from#[?_,out.toList,e,vM a1,by simpa using he]),rfl,q _ ns' (I.hok.fresh (xq _)) a2 a3];rw[aB,a2.length_eq];rwa[aB]at hz
def alD(K:aF):List V->Hp->VK->Prop:=fun xs H Q=>agC xs H Q\/agD K xs H Q
theorem lF(hc:X.calm=true):fU X (.builtin "sorted") (alD X.K):=(Zj hc).or Zk
end
structure Fg(K:aF)(mg:Str->Option Value)(x:Str)(s:Stmt)(f:Addr)(d:FuncData)(ps:List Str):Prop extends Fun K x x s f d where
 b:Binds K d ps []
 g:mg x=some (.ref f)
section
variable{X:Cx}{x:Str}{pos pos':Pos}{e:Expr}{te:TE}{i:Nat}
theorem gi{l:List Str}{y:Str}(i:Nat)(h:l[i]? = some y:=by rfl):l[i]? = some y:=h
theorem cpE{elt:Expr}{gs:List aei}{scope:Scope}(h:PE X (.ListComp elt gs scope pos) te):PE X (.ListComp elt gs scope pos) te:=h
theorem cpS{elt:Expr}{gs:List aei}{scope:Scope}{t:TS}{p2:Pos}(h:PS X (.Assign [.Name x pos] (.ListComp elt gs scope pos') p2) t):PS X (.Assign [.Name x pos] (.ListComp elt gs scope pos') p2) t:=h
theorem cpN(h:PE X (.Name x pos) te):PE X (.Name x pos) te:=h
theorem pwB{op:BoolOp}{es:List Expr}{t:TT}(h:PW X (.BoolOp op es pos) t):PT X (.BoolOp op es pos) t:=PW.pt h
structure Hold(p:Prop):Prop where
 h:p
theorem hdA{r:R2}(h:Hold (OpR X (iD .Add) r)):OpR X (iD .Add) r:=h.h
theorem hdE{r:R2}(h:Hold (OpR X (gG .Eq) r)):OpR X (gG .Eq) r:=h.h
theorem psS(i:Nat)(hN:X.N.Nodup)(he:PE X e te)(hi:X.N[i]? = some x:=by rfl)(hx:Loc X.env.scope x:=by exact Or.inl rfl)(hs:ug e (some (.Name x pos')) pos.line X.env=pure false:=by rfl)(hf:X.fn x=true\/X.env.scope.names.lookup x=some .local:=by first|exact .inl rfl|exact .inr rfl|assumption):
  PS X (.Assign [.Name x pos'] e pos) (ab0 te (mO i)):=Jb hN hi hx he hs hf
theorem pgN(i:Nat)(hN:X.N.Nodup)(hi:X.N[i]? = some x:=by rfl)(hx:Loc X.env.scope x:=by exact Or.inl rfl)(hf:X.fn x=true\/X.env.scope.names.lookup x=some .local:=by first|exact .inl rfl|exact .inr rfl|assumption):PG X (.Name x pos) (mO i):=vJ hN hi hx hf
theorem pf(i:Nat){f:Str}(hN:X.N[i]? = some x:=by rfl)(hv:Vis X.env.scope x:=by first|exact Or.inl rfl|exact Or.inr (Or.inl rfl)|exact Or.inr (Or.inr rfl))(hd:(x == ("__debug__" : Str))=false:=by decide)(hcd:(x == ("__classdict__" : Str))=false:=by decide)
  (hb:rZ (.Name x pos) f X.env (eval (.Name x pos) X.env)=eval (.Name x pos) X.env:=by rfl):PE X (.Attribute (.Name x pos) f pos') (af9 X.K (TJ i) f):=aga (pv i hN hv hd hcd) hb
end
abbrev FnK(P:aG)(w:World)(base:Heap){K:aF}{mg:Str->Option Value}{x:Str}{s:Stmt}{f:Addr}{d:FuncData}{ps:List Str}(_:Fg K mg x s f d ps)(CX:CXT)(k:Nat)(sp:Sp):Prop:=Fg K mg x s f d ps/\nA P w K mg base CX k f d ps sp
structure Mg(K:aF)(C:Addr)(n q:Str)(s:Stmt)(f:Addr)(d:FuncData)(ps:List Str):Prop extends Fun K n q s f d where
 b:Binds K d ps []
 m:Meth K C n f
abbrev FnM(P:aG)(w:World)(mg:Str->Option Value)(base:Heap){K:aF}{C:Addr}{n q:Str}{s:Stmt}{f:Addr}{d:FuncData}{ps:List Str}(_:Mg K C n q s f d ps)(CX:CXT)(k:Nat)(sp:Sp):Prop:=Mg K C n q s f d ps/\nA P w K mg base CX k f d ps sp
section
variable{X:Cx}{x m n q:Str}{pos apos pos':Pos}{e o:Expr}{es:List Expr}{ta:TE}{t:TA}{CX:CXT}{k:Nat}{C f:Addr}{fd:FuncData}{ps:List Str}{sp:Sp}{E:XK}{s:Stmt}
theorem aC(F:Fg X.K X.mg x s f fd ps/\nA X.prog X.w X.K X.mg X.base CX k f fd ps sp)(ha:PA X (e::es) t)(hr:fD k X.A:=by exact fD.mono (by assumption) tb_g%)(hx:Passes CX X E:=by first|exact Uk|exact agw|exact ajw|exact agv)
  (hg:Gl X x:=by rfl) (hdb:(x == ("__debug__" : Str))=false:=by decide) (he:bh (e::es) X.env=(false,eval e X.env)::bh es X.env:=by rfl) (hpl:(dz pos (bh es X.env)).any (·.1)=false:=by rfl):
  PE X (.Call (.Name x pos') (e::es) [] pos) (agc sp [] E t):=aia F.2 hr hg F.1.g F.1.kp F.1.b .nil hx ha hdb he hpl
theorem ql(hk:Mk X.K C f)(hm:X.mg x=some (.ref C))(F:Mg X.K C n q s f fd ps/\nA X.prog X.w X.K X.mg X.base CX k f fd ps sp)(ha:PA X (e::es) t)(hr:fD (k+1) X.A:=by exact fD.mono (by assumption) tb_g%)(hx:Passes CX X E:=by first|exact Uk|exact agw|exact ajw|exact agv)
  (hg:Gl X x:=by rfl) (hdb:(x == ("__debug__" : Str))=false:=by decide) (he:bh (e::es) X.env=(false,eval e X.env)::bh es X.env:=by rfl) (hpl:(dz pos (bh es X.env)).any (·.1)=false:=by rfl):
  PE X (.Call (.Name x pos') (e::es) [] pos) (ajn C sp [] E t):=aib hk F.2 hr hg hm F.1.b .nil hx ha hdb he hpl
end
section
variable{prog:aG}{w:World}{A:aN}{E:Value->Shared->Prop}
end
section
variable{X:Cx}{pos:Pos}
end
end L2
namespace Tm
open PySem PyProof.Rows
class Rk where
 kd:SortKind
 R:Keyed->Int
 Ok:Keyed->Prop
class Rl [Rk] (prog:aG) (w:World) (A:aN) (E:Value->Shared->Prop) (s:Shared):Prop where
 lt:∀{x y:Keyed}{st:Qf}{Q:Option Bool->Qf->Prop},kindOf st=Rk.kd->Rk.Ok x->Rk.Ok y->Q (some (decide (Rk.R x<Rk.R y))) st->wpS (model prog w) A E s (lt' x y) Q st
section
variable[Rk]
def K(xs:Array Keyed)(i:Nat):Int:=match xs[i]? with
 |some x=>Rk.R x
 |none=>0
def kd0:SortKind:=Rk.kd
structure SBase(a₀:Array Keyed)(st:Qf):Prop where
 perm:(arrOf st).Perm a₀
 kind:kindOf st=kd0
 failed:failedOf st=none
 pend:pendingOf st=#[]
theorem SBase.size{a₀:Array Keyed}{st:Qf}(h:SBase a₀ st):(arrOf st).size=a₀.size:=h.perm.size_eq
section
variable{prog:aG}{w:World}{A:aN}{E:Value->Shared->Prop}{s:Shared}[Rl prog w A E s]
end
structure Within(xs ys:Array Keyed)(a b:Nat):Prop where
 perm:ys.Perm xs
 out:∀i,i<a\/b<=i->ys[i]? = xs[i]?
section
variable{prog:aG}{w:World}{A:aN}{E:Value->Shared->Prop}{s:Shared}[Rl prog w A E s]
end
def kv(p:Keyed):Int:=Rk.R p
def Asc(l:List Keyed):Prop:=l.Pairwise fun x y=>kv x<=kv y
structure Mg(A B out ra rb:List Keyed):Prop where
 perm:(out++(ra++rb)).Perm (A++B)
 srt:Asc out
 sa:Asc ra
 sb:Asc rb
 le:∀x∈out,∀y∈ra++rb,kv x<=kv y
structure Merged(A B out:List Keyed):Prop where
 perm:out.Perm (A++B)
 srt:Asc out
section
variable{prog:aG}{w:World}{A:aN}{E:Value->Shared->Prop}{s:Shared}[Rl prog w A E s]
end
end
section
variable{prog:aG}{w:World}{A:aN}{E:Value->Shared->Prop}{s:Shared}
end
end Tm
namespace L2
open PySem PySem.Spec PyProof.Rows
section
variable{X:Cx}
end
end L2
set_option autoImplicit false
namespace RG
abbrev Ls:=List (List Int)
def Sd(l:List Int):Prop:=l.Pairwise (· <= ·)
def srt(ns:List Int):List Int:=ns.mergeSort fun a b=>decide (a<=b)
theorem iV:∀{xs ys:List Int},xs.Perm ys->xs.Pairwise (· <= ·)->ys.Pairwise (· <= ·)->xs=ys
 |[],ys,p,_,_=>by rw[ady.mp p]
 |x::xs,[],p,_,_=>absurd p (by simp)
 |x::xs,y::ys,p,h1,h2=>by
  have a1:=tO.mp h1;have a2:=tO.mp h2;have e:x=y:=by
   have m1:x∈y::ys:=p.mem_iff.mp bV;have m2:y∈x::xs:=p.mem_iff.mpr bV;rcases aZ.mp m1 with z|z
   ·exact z
   ·rcases aZ.mp m2 with z'|z'
    ·exact z'.symm
    ·exact ae8 (a1.1 y z') (a2.1 x z)
  subst e;rw[iV (afz p) a1.2 a2.2]
theorem jB(ns:List Int):(srt ns).Perm ns:=WR _ _
theorem Jo(ns:List Int):Sd (srt ns):=by
 have:=WD (le:=fun a b:Int=>decide (a<=b)) (fun a b c h1 h2=>by simp only[decide_eq_true_eq]at *; lia) (fun a b=>by simp only[PL,decide_eq_true_eq];lia) ns;exact this.imp fun h=>of_decide_eq_true h
theorem Zm{ns ms:List Int}(p:ms.Perm ns)(h:ms.Pairwise (· <= ·)):ms=srt ns:=iV (p.trans (jB ns).symm) h (Jo ns)
theorem yI(ns:List Int):(srt ns).length=ns.length:=(jB ns).length_eq
theorem aaJ{z:Int}{ns:List Int}:z∈srt ns↔z∈ns:=(jB ns).mem_iff
def pick(o:Bool):List Int->List Int
 |a::b::r=>(if o then b else a)::pick o r
 |_=>[]
def lft:List Int->List Int
 |_::_::r=>lft r
 |l=>l
theorem QT:∀l:List Int,(lft l).length=l.length % 2
 |[]=>rfl
 |[_]=>rfl
 |_::_::r=>by
  have:=QT r;show(lft r).length=(r.length+1+1) % 2;lia
theorem Uw(o:Bool):∀l:List Int,(pick o l).length=l.length / 2
 |[]=>by simp[pick]
 |[_]=>by simp[pick]
 |_::_::r=>by
  have:=Uw o r;show(pick o r).length+1=(r.length+1+1) / 2;lia
def cnt(x:Int)(l:List Int):Nat:=(l.filter fun z=>decide (z<=x)).length
def val:Ls->Nat
 |[]=>0
 |l::r=>l.length+2*val r
def nr(x:Int):Ls->Nat
 |[]=>0
 |l::r=>cnt x l+2*nr x r
def pot(h:Nat):Ls->Nat
 |[]=>0
 |l::r=>h*2 ^ h*l.length+pot (h+1) r
theorem alE(ls:Ls):val ls=(ls.headD []).length+2*val ls.tail:=by cases ls <;> rfl
def ajx(t:Int)(ls:Ls)(w:Nat):Ls:=
 if w=0 then ls else(if w % 2=1 then srt (ls.headD []++[t])else ls.headD [])::ajx t ls.tail (w / 2)
termination_by w
decreasing_by lia
def Full(ls:Ls):Prop:=∀l,ls.getLast? = some l->l≠[]
inductive Stl (room:Int):Nat->Int->Int->Int->Ls->Ls->Int->Int->Int->Prop
 |nil (h:Nat) (tn ov un:Int):Stl room h tn ov un [] [] tn ov un
 |keep {h:Nat} {tn ov un:Int} {l:List Int} {ls out:Ls} {tn' ov' un':Int}:(l.length:Int)<=room->Stl room (h+1) tn ov un ls out tn' ov' un'->Stl room h tn ov un (l::ls) (l::out) tn' ov' un'
 |turn {h:Nat} {tn ov un:Int} {l:List Int} {ls out:Ls} {tn' ov' un':Int}:room<(l.length:Int) ->
   Stl room (h+1) (tn+1) (if tn % 2=0 then ov+2 ^ h else ov) (if tn % 2=0 then un else un+2 ^ h) (srt (ls.headD []++pick (decide (tn % 2=1)) l)::ls.tail) out tn' ov' un'->Stl room h tn ov un (l::ls) (lft l::out) tn' ov' un'
theorem Stl.val{room:Int}{h:Nat}{tn ov un:Int}{ls out:Ls}{tn' ov' un':Int}(a:Stl room h tn ov un ls out tn' ov' un'):val out=val ls:=by
 induction a with
 |nil=>rfl
 |keep _ _ ih=>show _+2*_=_+2*_;rw[ih]
 | @turn _ _ _ _ l ls _ _ _ _ _ _ ih =>
  show lO _+2*_=_+2*_;rw[ih,QT];show _+2*(lO _+2*RG.val ls.tail)=_;rw[yI,cj,Uw,alE ls];lia
theorem Stl.small{room:Int}(r1:1<=room){h:Nat}{tn ov un:Int}{ls out:Ls}{tn' ov' un':Int}(a:Stl room h tn ov un ls out tn' ov' un'):∀l∈out,(l.length:Int)<=room:=by
 induction a with
 |nil=>exact fun _ h=>nomatch h
 |keep hl _ ih =>
  intro l m;rcases aZ.mp m with e|e
  ·rwa[e]
  ·exact ih l e
 |turn _ _ ih =>
  intro l m;rcases aZ.mp m with e|e
  ·rw[e,QT];lia
  ·exact ih l e
theorem Stl.empty{room:Int}{h:Nat}{tn ov un:Int}{ls out:Ls}{tn' ov' un':Int}(a:Stl room h tn ov un ls out tn' ov' un')(e:out=[]):ls=[]:=by
 cases a with
 |nil=>rfl
 |keep _ _=>cases e
 |turn _ _=>cases e
theorem aiy{α:Type}{ms:List α}{p:Nat}{l:α}(h:ms[p]? = some l):ms.drop p=l::ms.drop (p+1):=by
 obtain⟨hp,e⟩:=fO.mp h;rw[Gp hp,e]
structure Run(room tn ov un:Int)(ls:Ls)(q:Nat)(tn2 ov2 un2:Int)(ms:Ls):Prop where
 cont:∀out tn' ov' un',Stl room q tn2 ov2 un2 (ms.drop q) out tn' ov' un'->Stl room 0 tn ov un ls (ms.take q++out) tn' ov' un'
 vl:val (ms.take q)+2 ^ q*val (ms.drop q)=val ls
 le:q<=ms.length
 b1:(∀l∈ls,l.length<=31)->∀l∈ms,l.length<=62
 b2:(∀l∈ls,l.length<=31)->∀l∈ms.drop (q+1),l.length<=31
 b0:(∀l∈ls,(l.length:Int)<=room)->ms=ls
theorem Run.done{room tn ov un tn2 ov2 un2:Int}{ls ms:Ls}{q:Nat}(r:Run room tn ov un ls q tn2 ov2 un2 ms)(h:ms.length<=q):Stl room 0 tn ov un ls ms tn2 ov2 un2:=by
 have:=r.cont [] tn2 ov2 un2 (by rw[List.drop_of_length_le h];exact .nil _ _ _ _);rwa[pO,Gj h]at this
theorem Run.big{room tn ov un tn2 ov2 un2:Int}{ls ms:Ls}{q:Nat}{l:List Int}(r:Run room tn ov un ls q tn2 ov2 un2 ms)(h:ms[q]? = some l)(hl:l≠[]):2 ^ q<=val ls:=by
 have:=r.vl;rw[aiy h]at this;have e:val (l::ms.drop (q+1))=l.length+2*val (ms.drop (q+1)):=rfl;have l1:1<=l.length:=by
  cases l with
  |nil=>exact absurd rfl hl
  |cons a b=>show 1<=b.length+1;lia
 have m:=Nat.mul_le_mul_left (2 ^ q) (show 1<=val (l::ms.drop (q+1)) by lia);lia
def More(q:Nat)(ms ms':Ls)(nx:List Int):Prop:=(ms'=ms/\ms[q+1]? = some nx)\/(q+1=ms.length/\ms'=ms++[[]]/\nx=[])
structure Good(r T ov un:Int)(ls:Ls):Prop where
 r2:2<=r
 r64:r<=64
 ev:r % 2=0
 vl:(val ls:Int)=T
 sd:∀l∈ls,Sd l
 sm:∀l∈ls,(l.length:Int)<=r
 fl:Full ls
 pt:(ov+un)*r<=pot 0 ls
 ov0:0<=ov
 un0:0<=un
theorem Good.small{r T ov un:Int}{ls:Ls}(g:Good r T ov un ls):∀l∈ls,l.length<=64:=fun l h=>by have:=g.sm l h;have:=g.r64;lia
def tw(x:Int):List (Int × Int)->Int
 |[]=>0
 |p::r=>(if p.1<=x then p.2 else 0)+tw x r
def Rk(T ov un:Int)(ls:Ls)(rs:List (Int × Int)):Prop:=∀x,0<=tw x rs/\tw x rs<=T/\(nr x ls:Int)-ov<=tw x rs/\tw x rs<=nr x ls+un
def jn(l m:Ls)(i:Nat):List Int:=srt (l.getD i []++m.getD i [])
def agE(n:Nat)(l m:Ls):Ls:=(dY n).map (jn l m)
def join(l m:Ls):Ls:=agE (max l.length m.length) l m
theorem acp(n:Nat)(l m:Ls):(agE n l m).length=n:=by
 unfold agE;rw[aB,pL]
theorem uO(l m:Ls):(join l m).length=max l.length m.length:=acp _ _ _
end RG
set_option autoImplicit false
namespace WN
structure Box where
 f:Int
 l:Int
 s:Int
def sum(bs:List Box):Int:=(bs.map (·.s)).sum
theorem sum_nil:sum []=0:=rfl
theorem sum_cons(b:Box)(r:List Box):sum (b::r)=b.s+sum r:=by unfold sum;rw[dM,oR]
theorem sum_append(a b:List Box):sum (a++b)=sum a+sum b:=by unfold sum;rw[bB,zN]
def settle(room:Int):Int->Box->List Box->List Box
 |_,b,[]=>[b]
 |S,b,o::os=>if(b.s+o.s)*room<=S then settle room S #[o.f,b.l,b.s+o.s] os else b::settle room (S+b.s) o os
theorem Zn(room S:Int)(b:Box):settle room S b []=[b]:=rfl
theorem uP(room S:Int)(b o:Box)(os:List Box):settle room S b (o::os)=if(b.s+o.s)*room<=S then settle room S #[o.f,b.l,b.s+o.s] os else b::settle room (S+b.s) o os:=rfl
def settled(room:Int):List Box->List Box
 |[]=>[]
 |b::os=>settle room 0 b os
theorem xM(room:Int):∀(os:List Box)(S:Int)(b:Box),sum (settle room S b os)=b.s+sum os
 |[],S,b=>by rw[Zn,sum_cons]
 |o::os,S,b=>by
  rw[uP,sum_cons];split
  ·rw[xM room os];show b.s+o.s+sum os=_;lia
  ·rw[sum_cons,xM room os]
theorem Ux(room:Int)(bs:List Box):sum (settled room bs)=sum bs:=by
 cases bs with
 |nil=>rfl
 |cons b os=>show sum (settle room 0 b os)=_;rw[xM,sum_cons]
structure Sums(P:Int->Int):Prop where
 zero:∀n,n<=0->P n=0
 mono:∀a b,a<=b->P a<=P b
def Chain(P:Int->Int)(edge:Int):Int->List Box->Prop
 |u,[]=>edge<=u->P u=P edge
 |u,b::os=>1<=b.f/\b.f<=b.l/\b.l<=u/\P u=P b.l/\b.s=P b.l-P (b.f-1)/\P (b.f-1)<P b.f/\P (b.l-1)<P b.l/\Chain P edge (b.f-1) os
theorem Chain.pos{P:Int->Int}(hP:Sums P){edge:Int}:∀{bs:List Box}{u:Int},Chain P edge u bs->∀b∈bs,1<=b.s
 |b::os,u,⟨_,h2,_,_,h5,h6,_,r⟩,x,m=>by
  walk_at "G"
  ·have:=hP.mono x.f x.l h2;lia
  ·exact Chain.pos hP r x m
theorem Chain.join{P:Int->Int}{edge u:Int}{b o:Box}{os:List Box}(h:Chain P edge u (b::o::os)):Chain P edge u (#[o.f,b.l,b.s+o.s]::os):=by
 obtain⟨h1,h2,h3,h4,h5,h6,h7,k1,k2,k3,k4,k5,k6,k7,r⟩:=h;show#[k1,?_,h3,h4,?_,k6,h7,r]
 ·show o.f<=b.l;lia
 ·show b.s+o.s=P b.l-P (o.f-1);lia
theorem Chain.settle{P:Int->Int}{edge room:Int}:∀{os:List Box}{S u:Int}{b:Box},Chain P edge u (b::os)->Chain P edge u (settle room S b os)
 |[],S,u,b,h=>h
 |o::os,S,u,b,h=>by
  rw[uP];split
  ·exact Chain.settle h.join
  ·obtain⟨h1,h2,h3,h4,h5,h6,h7,r⟩:=h;show#[h1,h2,h3,h4,h5,h6,h7,Chain.settle r]
theorem Chain.settled{P:Int->Int}{edge room:Int}{bs:List Box}{u:Int}(h:Chain P edge u bs):Chain P edge u (settled room bs):=by
 cases bs with
 |nil=>exact h
 |cons b os=>exact Chain.settle h
def low(e:Int)(bs:List Box):Int:=sum (bs.filter fun b=>decide (e<b.f))
def cut(e:Int)(bs:List Box):Int:=sum (bs.filter fun b=>decide (b.f<=e/\e<b.l))
theorem qj{a:Int}(h:0<a)(n:Nat):0<a ^ n:=Qj h
end WN
namespace L2
open PySem PySem.Spec PyProof.Rows
section
variable{prog:aG}{w:World}{A:aN}{E:Value->Shared->Prop}{s:Shared}
def outR(Q E:Value->Shared->Prop)(r:lW)(z:Shared):Prop:=match r with
 | .ok (.ret u)=>Q u z
 | .ok _=>False
 | .error u=>E u z
def outF(prog:aG)(w:World)(A:aN)(Q E:Value->Shared->Prop)(f:Fin)(z:Shared):Prop:=match f with
 | .done g=>outR Q E (.ok g) z
 | .again c=>c.quiet=true/\fC (model prog w) A c (outR Q E) z
theorem aiz{id:String}{b:dN}{xs:List Value}{kw:List (Str × Value)}{Q:Value->Shared->Prop}(hk:XD id=none)
  (hp:Pr id=true) (hb:Ht table id=some b) (ha:Af id #[xs,kw])
  (hc:wpAny (model prog w) A.in1 (b #[xs,kw]) (outF prog w A Q E) E s):wpAny (model prog w) A (call (.builtin id) xs kw) Q E s:=by
 refine lR (wK hp hb ?_);simp only [Oo,hk];have hc2:=cO hc (Q':=fun f z=>match f with
  | .done g=>outR Q E (.ok g) z
  | .again c=>c.quiet=true/\fC (model prog w) A c (outR Q E) z) (fun _ _ h=>h) fun _ _ h=>h
 generalize hsig:Manifest.signature? id=sg at *;cases sg with
 |none=>exact aK hc2
 |some sig =>
  have e:afG id sig #[xs,kw]=pure ():=by
   simp only[Af,hsig]at ha;exact ha
  refine(?_:wpAny _ A.in1 (afG id sig #[xs,kw]) _ _ s);rw[e];exact aK hc2
end
def bdB(b:Bool)(xs:Array (Int × Tok))(i j:Nat):Bool:=cond b (decide (numAt xs i<numAt xs j)) (decide (numAt xs i>numAt xs j))
theorem agF(b:Bool):Ht table (cond b "min.loop" "max.loop")=some (cond b dN.«min.loop» dN.«max.loop»)/\Pr (cond b "min.loop" "max.loop")=true/\(toString (cond b "min" "max")++toString ".loop" : String)=cond b "min.loop" "max.loop" := by
 cases b
 ·show#[F.entry_max_loop,F.plain_max_loop,by decide]
 ·show#[F.entry_min_loop,F.plain_min_loop,by decide]
theorem bd_as{prog:aG}{w:World}{A:aN}(b:Bool)(xs:Array (Int × Tok)):XD (cond b "min" "max")=none/\Pr (cond b "min" "max")=true/\Ht table (cond b "min" "max")=some (cond b dN.«min» dN.«max»)/\CmpOf prog w A (cond b .Lt .Gt) (fun i v=>(wW xs)[i]? = some v) (bdB b xs):=by
 cases b
 ·show#[F.kind_max,F.plain_max,F.entry_max,CmpOf.ints_gt (numAt xs) fun _ _=>XF]
 ·show#[F.kind_min,F.plain_min,F.entry_min,CmpOf.ints_lt (numAt xs) fun _ _=>XF]
theorem aiA(b:Bool)(a d:Value):Af (cond b "min" "max") #[[a],[("default",d)]]:=by cases b <;> (unfold Af;kernel_rfl)
section
variable{prog:aG}{w:World}{A:aN}{R:lW->Shared->Prop}{it:Addr}{fp wr:List Addr}{n:Nat}{P:Nat->Value->Prop}{St:Nat->Heap->Prop}
theorem agG(b:Bool)(W:Walks prog w A.in1 it fp wr n P St)(bt:Nat->Nat->Bool)
  (cm:CmpOf prog w A.in1 (cond b .Lt .Gt) P bt) (S:Addr) (nS:S∉fp) (kw:List (Str × Value)):
  ∀(k j:Nat)(s:Shared)(u:Value)(c:Nat),k+(j+1)=n->St (j+1) s.heap->P (jC bt j) u ->
   s.heap.get? S=some { cls:=.type "list",data:=.seq [u,u].toArray c } ->
   (∀ v h' tk,P (jC bt (n-1)) v->(∀ b o,b∉wr->b≠S->s.heap.get? b=some o->h'.get? b=some o) ->
    R (.ok (.ret v)) { s with heap:=h',toks:=tk }) ->
   fC (model prog w) A (.builtin (cond b "min.loop" "max.loop") #[[.ref it,.none,.ref S],kw]) R s:=by
 obtain⟨el,pl,nm⟩:=agF b;cases b;all_goals
  dsimp only[cond]at *;have nw:S∉wr:=fun h=>nS (W.sub _ h);intro k
  induction k with
  |zero =>
   intro j s u c e st pu hS post;have ej:j=n-1:=by lia
   have en:j+1=n:=by lia
   rw[ej]at pu;rw[en]at st;refine vX el ?_;rw[yp pl _];refine au (pR hS rfl ?_);refine au (wO (W.done s _ _ st fun h1 tk1 kp=>?_));refine au (tZ (kp S _ nw hS) rfl (au (zZ (aK ?_))));exact post u _ tk1 pu fun b o nb nbS eb=>by
    rw[lY _ _ (aQ nbS)];exact kp b o nb eb
  |succ k ih =>
   intro j s u c e st pu hS post;refine vX el ?_;rw[yp pl _];refine au (pR hS rfl ?_);refine au (wO (W.item (j+1) s _ _ (by lia) st fun v h1 tk1 pv st1 kp=>?_));have hS1:=kp S _ nw hS;refine au (aK ?_);refine au (wO (iy (au (cm (j+1) (jC bt j) v u _ _ _ pv pu ?_))));refine au (iy (wL (au (zZ (aK ?_)))));have ab:jC bt (j+1)=if bt (j+1) (jC bt j)then j+1 else jC bt j:=rfl
   cases hb:bt (j+1) (jC bt j)with
   |true =>
    rw[hb,if_pos rfl]at ab;rw[if_pos rfl];refine au (tZ hS1 rfl (au (zZ ?_)));rw[nm];refine aK #[oU pl _,ih (j+1) _ v _ (by lia) (W.frame _ _ _ st1 fun b hb o eb=>?_) (by rw[ab];exact pv) (pU _ hS1 rfl) fun v2 h2 tk2 p2 k2=>?_]
    ·rwa[lY _ _ (fun z:S=b=>nS (z ▸ hb))]
    ·exact post v2 h2 tk2 p2 fun b o nb nbS eb=>k2 b o nb nbS (by
      rw [lY _ _ (aQ nbS)];exact kp b o nb eb)
   |false =>
    rw[hb,if_neg tb_g%]at ab;rw[if_neg tb_g%];refine au (zZ ?_);rw[nm];refine aK #[oU pl _,ih (j+1) _ u c (by lia) st1 (by rwa[ab]) hS1 fun v2 h2 tk2 p2 k2=>?_];exact post v2 h2 tk2 p2 fun b o nb nbS eb=>k2 b o nb nbS (kp b o nb eb)
theorem Uy(b:Bool)(W:Walks prog w A.in1 it fp wr n P St)(bt:Nat->Nat->Bool)
  (cm:CmpOf prog w A.in1 (cond b .Lt .Gt) P bt) (S:Addr) (nS:S∉fp) (d:Value) {s:Shared} {c:Nat} (st:St 0 s.heap)
  (hS:s.heap.get? S=some { cls:=.type "list",data:=.seq #[] c })
  (post:∀ v h' tk,(if 0<n then P (jC bt (n-1)) v else v=d)->(∀ b o,b∉wr->b≠S->s.heap.get? b=some o->h'.get? b=some o) ->
   R (.ok (.ret v)) { s with heap:=h',toks:=tk }) :
  fC (model prog w) A (.builtin (cond b "min.loop" "max.loop") #[[.ref it,.none,.ref S],[("default",d)]]) R s:=by
 obtain⟨el,pl,nm⟩:=agF b;have bg:=agG (prog:=prog) (w:=w) (A:=A) (R:=R) (it:=it) (fp:=fp) (wr:=wr) (n:=n) (P:=P) (St:=St) b;cases b;all_goals
  dsimp only[cond]at *;have nw:S∉wr:=fun h=>nS (W.sub _ h);refine vX el ?_;rw[yp pl _];refine au (pR hS rfl ?_);rcases Hy n with e|e
  ·subst e;refine au (wO (W.done s _ _ st fun h1 tk1 kp=>?_));refine au (Ho ?_);exact aK (post d h1 tk1 rfl fun b o nb _ eb=>kp b o nb eb)
  ·refine au (wO (W.item 0 s _ _ e st fun v h1 tk1 pv st1 kp=>?_));have hS1:=kp S _ nw hS;refine au (aK ?_);refine au (tZ hS1 rfl ?_);rw[nm];refine aK #[oU pl _,bg W bt cm S nS _ (n-1) 0 _ v _ (by lia) (W.frame _ _ _ st1 fun b hb o eb=>?_) pv (pU _ hS1 rfl) fun v2 h2 tk2 p2 k2=>?_]
   ·rwa[lY _ _ (fun z:S=b=>nS (z ▸ hb))]
   ·exact post v2 h2 tk2 (by rw [if_pos (show 0<n from e)];exact p2) fun b o nb nbS eb=>k2 b o nb nbS (by
     rw [lY _ _ (aQ nbS)];exact kp b o nb eb)
end
section
variable{prog:aG}{w:World}{A:aN}{E:Value->Shared->Prop}{s:Shared}{l:Addr}{xs:Array (Int × Tok)}
theorem Zo(b:Bool){Q:Value->Shared->Prop}(d:Value)(hh:A.handled=none)(hl:s.heap.IsList l (wW xs))
  (post:∀ v h' tk,(if 0<xs.size then (wW xs)[jC (bdB b xs) (xs.size-1)]? = some v else v=d) ->
   (∀ b o,s.heap.get? b=some o->h'.get? b=some o)->Q v { s with heap:=h',toks:=tk }) :
  wpAny (model prog w) A (call (.builtin (cond b "min" "max")) [.ref l] [("default",d)]) Q E s:=by
 have bf:=fun {R it fp wr n P St}=>Uy (prog:=prog) (w:=w) (A:=A) (R:=R) (it:=it) (fp:=fp) (wr:=wr) (n:=n) (P:=P) (St:=St) b;have ar:=aiA b (.ref l) d;obtain⟨el,pl,nm⟩:=agF b;obtain⟨k0,p0,e0,cm⟩:=bd_as (prog:=prog) (w:=w) (A:=A.in1) b xs;cases b;all_goals
  dsimp only[cond]at *;have sz:(wW xs).size=xs.size:=by simp[wW]
  refine aiz k0 p0 e0 ar ?_;refine au (wpAny_of_eq (show akv _ ["key","default"] 0 #[[],[("default",d)]]=pure [none,some d]from rfl) ?_);refine au (aK ?_);refine au (iter_intList hl fun s2 e st hfp nlI=>?_);subst e;refine au (Xr ?_);rw[nm];refine aK #[oU pl _,bf (YQ (A:=A.in1) hh _ l nlI (wW xs)) _ cm _ (fun hm=>nH _ (hfp _ hm)) d ?_ (dZ _ rfl) fun v h' tk hv kp=>?_]
  ·exact(YQ (A:=A.in1) (prog:=prog) (w:=w) hh _ l nlI (wW xs)).frame _ _ _ st fun b _ o e=>cX _ e
  ·rw[sz]at hv;refine post v h' tk hv fun b o e=>kp b o ?_ ?_ (cX _ (cX _ e))
   ·intro hm;have h1:=eY.mp hm;have h2:=bA e;rw[h1]at h2;exact nH _ h2
   ·have h2:=bA e;rw[pW];exact bZ (PJ h2)
end
section
variable{X:Cx}{x:Str}{de:Expr}{tl td:TE}{px p kp pos:Pos}
def Best(lo:Bool)(dv:V)(ns:List Int)(v:V):Prop:=(ns=[]/\v=dv)\/∃m,v=.int m/\m∈ns/\∀z∈ns,if lo then m<=z else z<=m
def alF(K:aF)(lo:Bool)(tl td:TE):TE:=fun σ H Q=>tl σ H fun y H1=>td σ H1 fun dv H2=>∃(a:Addr)(ns:List Int),y=.ref a/\SqL K H2 a (ns.map V.int)/\∀v,Best lo dv ns v->Q v H2
theorem yJ(b:Bool)(hm0:X.mg (cond b "min" "max" : String)=none)(hl:PE X (.Name x px) tl)(hd:PE X de td)(hc:X.calm=true)(hg:Gl X (cond b "min" "max" : String):=by rfl):
  PE X (.Call (.Name (cond b "min" "max" : String) p) [.Name x px] [#[some "default",de,kp]] pos) (alF X.K b tl td):=by
 have bd:=fun {A s l xs Q}=>Zo (prog:=X.prog) (w:=X.w) (A:=A) (E:=X.xe) (s:=s) (l:=l) (xs:=xs) (Q:=Q) b;have hbt:∀ys:Array (Int × Tok),jC (bdB b ys) (ys.size-1)<=ys.size-1/\∀j,j<=ys.size-1->if b then numAt ys (jC (bdB b ys) (ys.size-1))<=numAt ys j else numAt ys j<=numAt ys (jC (bdB b ys) (ys.size-1)):=fun ys=>by
  cases b
  ·exact argBest_gt (numAt ys) (ys.size-1)
  ·exact argBest_lt (numAt ys) (ys.size-1)
 have bo:qL (cond b "min" "max" : String)=some (.builtin (cond b "min" "max")):=by
  cases b
  ·exact boot_max
  ·exact boot_min
 cases b;all_goals
  dsimp only[cond]at *
  walk_at "s"
  refine yj (iU I hg hm0 bo ?_);refine callWith_kw (Ig (thn (hl pins s σ H _ I h) fun v s1 zq=>?_));obtain⟨y,H1,I1,r1,q1⟩:=zq;refine Ih (kws_cons (thn (hd pins s1 σ H1 _ I1 q1) fun d s2 ⟨dv,H2,I2,r2,q2⟩=>kws_nil ?_));obtain⟨a,ns,rfl,ha,q⟩:=q2;obtain rfl:v=Value.ref a:=r1;show wpAny _ _ (call (.builtin _) [.ref a] [(aD "default",d)]) _ _ _;obtain⟨its,rv,pl,hz⟩:=I2.list ha;have hi:=intsAre_of rv;have hl:=pl.isList;obtain⟨ys,ey⟩:=hi.allInts.items;have hns:ns=ys.toList.map (·.1):=by rw[<-hi.numsOf,<-aej,<-ey]
  have hsz:ns.length=ys.size:=by rw[hns,aB,yq]
  rw[ey]at hl;refine bd d (I2.ok.hd hc) hl fun v h' tk hv hk=>?_;rcases Hy ys.size with z|z
  ·rw[if_neg (by lia)]at hv;subst hv;show#[dv,H2,I2.kept hk,r2,q _ (.inl #[vV.mp (by lia),rfl])]
  ·rw[if_pos z]at hv;obtain⟨t,rfl⟩:=XF hv;obtain⟨h1,h2⟩:=hbt ys;show#[.int _,H2,I2.kept hk,#[t,rfl],q _ (.inr #[_,rfl,?_,fun b hb=>?_])]
   ·rw[hns,numAt_eq];exact getD_mem (by rw[aB,yq];lia)
   ·rw[hns]at hb;obtain⟨j,hj,rfl⟩:=mem_getD hb;rw[aB,yq]at hj;rw[<-numAt_eq];exact h2 j (by lia)
end
section
variable{X:Cx}{e se:Expr}{te:TE}{lo hi:Option Expr}{tl th ts:TO}{p2 pos:Pos}
def uQ{α:Type}(k:Int)(xs:List α)(lo hi:Option Int):List α:=
 (O9 (iC lo hi (some k) xs.length).1 (iC lo hi (some k) xs.length).2.1 (iC lo hi (some k) xs.length).2.2).filterMap (xs[·]?)
def rSlK(K:aF)(k:Int):V->Option Int->Option Int->Hp->VK->Prop:=fun x lo hi H Q=>∃a xs,x=.ref a/\SqL K H a xs/\∀p,H p=none->Q (.ref p) (upd H p (.lst (uQ k xs lo hi)))
def tSl2(K:aF)(te:TE)(tl th ts:TO):TE:=fun σ H Q=>te σ H fun x H1=>tl σ H1 fun l H2=>th σ H2 fun u H3=>ts σ H3 fun t H4=>∃k,t=some k/\k≠0/\rSlK K k x l u H4 Q
theorem aiB:∀{xs:List V}{us:List Value},Vals xs us->∀ks:List Nat,Vals (ks.filterMap (xs[·]?)) (ks.filterMap (us[·]?)):=by
 intro xs us r ks
 induction ks with
 |nil=>exact .nil
 |cons k ks ih =>
  rw[yh,yh];rcases oY k xs.length with h|h
  ·obtain⟨u,eu,ru⟩:=r.get (dH h);rw[dH h,eu];exact .cons ru ih
  ·rwa[Ny h,Ny (by rw[<-r.length];exact h)]
theorem agH{α:Type}(k:Int)(xs:List α)(lo hi:Option Int):(uQ k xs lo hi).length<=xs.length:=by
 have:=slicePick_size_le (Array.replicate xs.length Value.none) lo hi (some k);rw[aeZ]at this;unfold Hr at this;rw[cH,aeZ]at this;refine bW (Ag ?_) this;unfold uQ;rw[adb,adb];apply List.countP_congr;intro k _;simp[Array.getElem?_replicate]
theorem M7(he:PE X e te)(hl:PO X lo tl)(hu:PO X hi th)(hs:PO X (some se) ts):PE X (.Subscript e (.Slice lo hi (some se) p2) pos) (tSl2 X.K te tl th ts):=by
 walk_at "s"
 k_dat (Yl,he,v) "z"
 walk_at "B"
 refine wpAny_Slice (thn (hl pins s1 σ H1 _ I1 q1) fun vl s2 ⟨l,H2,I2,pl,q2⟩=>thn (hu pins s2 σ H2 _ I2 q2) fun vu s3 ⟨u,H3,I3,pu,q3⟩=>thn (hs pins s3 σ H3 _ I3 q3) fun vs s4 zq=>?_);obtain⟨t,H4,I4,pt,q4⟩:=zq;obtain⟨k,rfl,k0,a,xs,rfl,hx,q⟩:=q4;cases r1;have I5:Inv X pins σ H4 { s4 with heap:=s4.heap.push { cls:=.type "slice",data:=.fields [vl,vu,vs].toArray } }:=I4.kept (t':=s4.toks) fun b ob q=>cX _ q;obtain⟨its,r,ht,hz⟩:=I5.list hx;have hlen:=r.length;show wpAny (model X.prog X.w) X.A (Qe e (.Slice lo hi (some se) p2) (.ref a) (.ref s4.heap.objs.size)) (EP X pins σ Q) X.xe { s4 with heap:=s4.heap.push { cls:=.type "slice",data:=.fields [vl,vu,vs].toArray } };refine Ym (ops:=[.ref a,.ref s4.heap.objs.size]) ht.isList.typeIs Xq.lookup ?_ (by with_unfolding_all rfl);refine adN ht.isList (afy ..) pl pu pt (by simpa using k0) ?_ (by rw[cH];lia);have ec:Hr its.toArray l u (some k)=(uQ k its l u).toArray:=by
  unfold Hr uQ;rw[cH];simp only[adl]
 rw[ec];show#[.ref _,_,I5.laid (t':=s4.toks) (o:=.lst (uQ k xs l u)) (fun b ob q=>cX _ q) (aO _) ?_,rfl,q _ (I5.hok.fresh (aO _))];show#[bW (agH k xs l u) hz,_,0,?_,dZ _ rfl];unfold uQ;rw[<-hlen];exact aiB r _
end
def Itv(K:aF)(a:Addr)(n:Nat):It:=
 #[fun i H=>∃xs,SqL K H a xs/\xs.length=n/\i<n,fun i H x H'=>H'=H/\∀xs,SqL K H a xs->xs[n-1-i]? = some x,fun i _=>n<=i]
theorem agI{P:aG}{w:World}{K:aF}{tg:Expr}(a it:Addr)(n:Nat):Turn P w K tg (Itv K a n) [it] it (fun i h=>i<=n/\h.IsRevIter it a ((n:Int)-1-i)) where
 mem:=by simp
 obj:=fun i h st b hb=>by
  have e:b=it:=by simpa using hb
  subst e;obtain⟨_,o,e,c,d⟩:=st;show#[o,e,fun v z=>by rw[d]at z;cases z]
 keep:=fun i h h' st k=>#[st.1,st.2.at fun o e=>k it (by simp) o e]
 item:=by
  walk_at "m"
  subst hP hw hK;obtain⟨xs,hq,hn,hi⟩:=hg;obtain⟨its,rv,p,hz⟩:=I.list hq;have hx:xs[n-1-i]? = some (xs[n-1-i]'(by lia)):=dH (by lia);obtain⟨u,hu,ru⟩:=rv.get hx
  k_dat it "r"
  have st2:=st.2;rw[show(n:Int)-1-i=((n-1-i:Nat):Int) by lia]at st2;refine wpAny_pyNext_rev_item st2 p.isList (x:=u) (by simpa using hu) fun h' st' sb=>?_;rw[show((n-1-i:Nat):Int)-1=(n:Int)-1-((i+1:Nat):Int) by lia]at st';have I1:Inv X pins σ H { s with heap:=h' }:=I.turned (t':=s.toks) (fun b o hb e=>(sb.2 b hb).trans e) f0 f1 f3 f4 f5;obtain⟨o,e,c,d⟩:=id st';show#[u,rfl,TY (s:={ s with heap:=h' }) e c d tb_g% #[_,H,I1,ru,#[rfl,fun ys hy=>by rwa[I.TV hy hq]],#[hi,st'],fun b hb=>(hf b hb).1]]
 done:=by
  walk_at "m"
  subst hP hw hK;have hle:n<=i:=hg;have e:i=n:=Nat.le_antisymm st.1 hle;subst e
  k_dat it "r"
  have st2:=st.2;rw[show(i:Int)-1-i = -1 by lia]at st2;exact wpAny_pyNext_rev_end (I.ok.hd hc) st2 fun h' eb=>#[rfl,I.turned (t':=s.toks) (fun b o hb e=>eb b o hb e) f0 f1 f3 f4 f5]
 self:=fun _ _ _ _ _ st h=>Om st.2 h
section
variable{X:Cx}{tg:Expr}
def iRev(K:aF)(ta:TA):TI:=fun σ H R=>ta σ H fun vs H1=>∃a xs,vs=[.ref a]/\SqL K H1 a xs/\R (Itv K a xs.length) H1
theorem agJ{a:Expr}{ta:TA}{p pos:Pos}(hg:Gl X "reversed")(hm:X.mg "reversed" = none)(ha:PA X [a] ta)(hs:bh [a] X.env=[(false,eval a X.env)]:=by rfl):
  PI X tg (.Call (.Name "reversed" p) [a] [] pos) (iRev X.K ta):=by
 intro pins s σ H R I h;refine Call_ (iU I hg hm aeR (vY (thn (ha pos pins s σ H _ I h) fun us s1 zq=>?_) hs rfl));obtain⟨vs,H1,I1,r1,q1⟩:=zq;obtain⟨l,xs,e,hq,q⟩:=q1;subst e;obtain⟨u,rfl,ru⟩:=vals1 r1;cases ru;obtain⟨its,rv,pl,hz⟩:=I1.list hq;have hlen:=rv.length;refine adV pl.isList ?_;have el:((its.toArray.size:Nat):Int)-1=(xs.length:Int)-1-((0:Nat):Int):=by rw[cH];lia
 refine Om #[_,dZ _ rfl,rfl,rfl] #[_,[s1.heap.objs.size],_,Itv X.K l xs.length,H1,rfl,I1.kept (t':=s1.toks) fun b o e=>cX _ e,agI l _ _,#[cU _,_,dZ _ rfl,rfl,by rw[<-el];rfl],fun b hb=>?_,q];have e:b=s1.heap.objs.size:=by simpa using hb
 subst e;exact I1.ab1 (aO _) (I1.hok.fresh (aO _))
end
theorem aaK{K:aF}{a:Addr}{xs:List V}{g:TG}{tb:TS}{D:Ends}{σ:St}{H:Hp}(Pv:Nat->St->Hp->Prop)(h0:Pv 0 σ H)(hl:∀i σ H,i<=xs.length->Pv i σ H->SqL K H a xs)
  (hs:∀i x σ H,xs.reverse[i]? = some x->Pv i σ H->g x σ H fun σ2 H2=>tb { D with nx:=Pv (i+1),ct:=Pv (i+1),bk:=D.nx } σ2 H2) (hd:∀σ H,Pv xs.length σ H->D.nx σ H):
  ∃W:Nat->Nat->St->Hp->Prop,(∃m,W 0 m σ H)/\∀i m σ H,W i m σ H ->
   ((Itv K a xs.length).stop i H/\D.nx σ H)\/((Itv K a xs.length).go i H/\∃N:St->Hp->Prop,(∀σ' H',N σ' H'->∃m',m'<m/\W (i+1) m' σ' H')/\∀x H',(Itv K a xs.length).yld i H x H'->g x σ H' fun σ2 H2=>tb { D with nx:=N,ct:=N,bk:=D.nx } σ2 H2):=by
 show#[fun i m σ H=>m=xs.length-i/\i<=xs.length/\Pv i σ H,#[xs.length,by simp,cU _,h0],?_];rintro i m σ H ⟨rfl,hi,p⟩;have q:=hl i σ H hi p;by_cases hlt:i<xs.length
 ·refine .inr #[#[xs,q,rfl,hlt],Pv (i+1),fun σ' H' p'=>#[xs.length-(i+1),by lia,rfl,hlt,p'],fun x H' y=>?_];obtain⟨rfl,hx⟩:=y;exact hs i x σ H' (by rw[WL hlt];exact hx xs q) p
 ·have e:i=xs.length:=by lia
  subst e;exact .inl #[aO _,hd σ H p]
theorem Zq:uc (.type "list_reverseiterator") "__len__" = pure none:=by rw[Ov,Ol];kernel_rfl
theorem agK:uc (.type "list_reverseiterator") "__length_hint__" = pure (some (.builtin "list_reverseiterator.__length_hint__")):=by rw[Ov,Ol];kernel_rfl
section
variable{prog:aG}{w:World}{A:aN}{E:Value->Shared->Prop}{s:Shared}{r l:Addr}
theorem agL{Q:Bool->Shared->Prop}(ty:s.TypeIs (.ref r) "list_reverseiterator")(h:Q false s):wpAny (model prog w) A (Yq (.ref r)) Q E s:=by
 unfold Yq;refine au (Hi ty Zq ?_)
 wp_delta
 refine zV (fun q=>absurd q tb_g%) fun _=>?_;refine zV (fun q=>absurd q tb_g%) fun _=>?_;refine au (Hi ty agK ?_);generalize hid:("list_reverseiterator.__length_hint__" : String)=nm
 wp_delta
 rw[show splitId nm=some ("list_reverseiterator","__length_hint__")from by rw[<-hid];decide +kernel];subst hid;refine au (ad2 (T := "list_reverseiterator") (b:=true) ty (by rw[isSubtype_type];kernel_rfl) ?_);refine zV (fun q=>absurd q tb_g%) fun _=>?_;refine zV (fun _=>?_) fun q=>absurd tb_g% q;refine zV (fun q=>absurd q tb_g%) fun _=>?_;exact aK h
def Behind(items:Array Value)(i:Nat)(v:Value):Prop:=items[items.size-1-i]? = some v
theorem agM{R:lW->Shared->Prop}{items:Array Value}(hh:A.handled=none)(hr:s.heap.IsRevIter r l ((items.size:Int)-1))(hl:s.heap.IsList l items)(hrl:l≠r)(S:Addr)(n1:S≠r)(n2:S≠l)(res:Value)(c:Nat)
  (hS:s.heap.get? S=some { cls:=.type "list",data:=.seq #[] c }) (hz:items.size<=sizeLine)
  (hR:∀h' tk acc d,(∀b o,b≠S->b≠r->s.heap.get? b=some o->h'.get? b=some o)->h'.get? S=some { cls:=.type "list",dict:=none,data:=.seq acc d,slots:=#[] }->ItemsOf (Behind items) acc items.size->R (.ok (.ret res)) { s with heap:=h',toks:=tk }):
  wpAny (model prog w) A.in1 (Dj (.ref S) (.ref r) res) (fun fin t=>match fin with | .done f=>R (.ok f) t | .again k=>k.quiet=true/\fC (model prog w) A k R t) (fun e t=>R (.error e) t) s:=by
 have W:=Walks.listRev (prog:=prog) (w:=w) (A:=A.in1) hh r l hrl items;have away:S∉[r,l]:=by
  simp only[aZ,cC,or_false,not_or];show#[n1,n2]
 unfold Dj;refine au (wQ (T := "list_reverseiterator") hr.typeIs ?_);have e1:Qg (.ref S) (.ref r)=false:=by simp[Qg,n1]
 have e2:(Value.type "list_reverseiterator" == Value.type "list")=false:=by decide
 have e3:(Value.type "list_reverseiterator" == Value.type "tuple")=false:=by decide
 simp only[e1,e2,e3,Yg,HD,if_false];refine au (Om hr ?_);refine au (iy (agL hr.typeIs ?_));refine zV (fun q=>absurd q tb_g%) fun _=>aK #[oU PySem.F.plain_extend_loop _,?_];refine codeAny_extend_loopS W.toS hz S away res items.size 0 _ #[] c rfl (cU _) #[cU _,by simpa using hr,hl] hS (ItemsOf.nil _) fun t acc d hm hS2 hacc=>?_;rw[Moved.eq_with hm];refine hR t.heap t.toks acc d (fun b o hb hb2 e=>hm.heap b o (fun m=>?_) e) hS2 hacc;rcases aZ.mp m with q|q
 ·exact hb q
 ·exact hb2 (eY.mp q)
theorem aaL:∀{xs:List V}{us:List Value},us.length=xs.length->(∀(j:Nat)(x:V)(u:Value),xs[j]? = some x->us[j]? = some u->RelV x u)->Vals xs us
 |[],[],_,_=>.nil
 |[],_::_,h,_=>by cases h
 |_::_,[],h,_=>by cases h
 |x::xs,u::us,h,k=>.cons (k 0 x u rfl rfl) (aaL (by simpa using h) fun j y v hy hv=>k (j+1) y v (by simpa using hy) (by simpa using hv))
end
section
variable{X:Cx}{l:Expr}{tl:TE}{p p' pos pos':Pos}
end
section
variable{X:Cx}{pins:List (Addr × Obj)}{σ:St}{H:Hp}{s:Shared}{h':Heap}
theorem Inv.acq{t':Nat}{ch:List Addr}{t:Addr}{o:HO}(I:Inv X pins σ H s)(k:∀b u,b∉ch->s.heap.get? b=some u->h'.get? b=some u)(hf:∀b∈ch,xG X pins H b)(ht:s.heap.objs.size<=t)
  (new:cA X.prog X.w (upd H t o) h' t o):Inv X pins σ (upd H t o) { s with heap:=h',toks:=t' }:=by
 have nit:∀b u,H b=some u->b∉ch:=fun b u e z=>by rw[(hf b z).1]at e;cases e
 have ntt:H t=none:=I.hok.fresh ht;have lt:∀b u,s.heap.get? b=some u->b≠t:=fun b u e=>bZ (cG (bA e) ht);refine I.step (g':=s.gens) (d':=s.drawn) (ch:=ch) (fun b hb=>#[(hf b hb).2.2.2.1,(hf b hb).2.1,(hf b hb).2.2.2.2.1,(hf b hb).2.2.2.2.2]) (fun b o _ _ hc e _=>k b o hc e) (fun b o _ _ hc e _=>#[o.slots,k b o hc e]) (fun b u _ e n=>by rwa[ao (lt b u e)])
  (fun b o hc e=>#[o,k b o hc e]) (fun b xs e=>by rwa[ao (ak e ntt)]) (fun b q u e=>by rwa[ao (ak e ntt)]) (fun b ps e=>#[#[],by rw[ao (ak e ntt),e];simp]) (fun m hm=>?_) (fun b u e=>?_) I.bare
 ·obtain⟨o,es,ep,ho,r⟩:=hm;show#[o,es,ep,k _ o (fun z=>(hf _ z).2.1 rfl) ho,r]
 ·by_cases hb:b=t
  ·subst hb;rw[aj]at e;cases e;exact new
  ·rw[ao hb]at e;refine(I.hok b u e).stay (fun c v hc q=>k c v ?_ q) (fun c q=>by rwa[ao (ak q ntt)]) fun c xs q=>by rwa[ao (ak q ntt)]
   rcases hc with z|z
   ·rw[z];exact nit b u e
   ·exact nit c _ z
theorem Inv.aiC{t':Nat}{ch:List Addr}(I:Inv X pins σ H s)(k:∀b u,b∉ch->s.heap.get? b=some u->h'.get? b=some u)(hf:∀b∈ch,xG X pins H b):Inv X pins σ H { s with heap:=h',toks:=t' }:=by
 have nit:∀b u,H b=some u->b∉ch:=fun b u e z=>by rw[(hf b z).1]at e;cases e
 refine I.step (g':=s.gens) (d':=s.drawn) (ch:=ch) (fun b hb=>#[(hf b hb).2.2.2.1,(hf b hb).2.1,(hf b hb).2.2.2.2.1,(hf b hb).2.2.2.2.2]) (fun b o _ _ hc e _=>k b o hc e) (fun b o _ _ hc e _=>#[o.slots,k b o hc e]) (fun b u _ _ n=>n)
  (fun b o hc e=>#[o,k b o hc e]) (fun _ _ e=>e) (fun _ _ _ e=>e) (fun b ps e=>#[#[],by rw[e];simp]) (fun m hm=>?_) (fun b u e=>?_) I.bare
 ·obtain⟨o,es,ep,ho,r⟩:=hm;show#[o,es,ep,k _ o (fun z=>(hf _ z).2.1 rfl) ho,r]
 ·refine(I.hok b u e).stay (fun c v hc q=>k c v ?_ q) (fun _ q=>q) fun _ _ q=>q;rcases hc with z|z
  ·rw[z];exact nit b u e
  ·exact nit c _ z
end
def Itz(a b:Addr):It:=
 #[fun i H=>∃ xs ys,H a=some (.lst xs)/\H b=some (.lst ys)/\i<xs.length/\i<ys.length,
  fun i H x H'=>∃t u v xs ys,H a=some (.lst xs)/\H b=some (.lst ys)/\xs[i]? = some u/\ys[i]? = some v/\H t=none/\x=.ref t/\H'=upd H t (.tup [u,v]),
  fun i H=>∃ xs ys,H a=some (.lst xs)/\H b=some (.lst ys)/\(xs.length<=i\/ys.length<=i)]
theorem ajy{c z TI TO i1 i2:Addr}(h:c∈[z,TO,i1,i2]):c∈[z,TI,TO,i1,i2]:=by
 simp only[aZ,cC,or_false]at h ⊢;rcases h with h|h|h|h <;> simp[h]
structure Z5(z TI TO i1 i2:Addr):Prop where
 a:TI≠z
 b:TO≠z
 c:i1≠z
 d:i2≠z
 e:TI≠TO
 f:TI≠i1
 g:TI≠i2
 h:TO≠i1
 i:TO≠i2
 j:i1≠i2
theorem Z5.apart{z TI TO i1 i2 a b:Addr}(k:Z5 z TI TO i1 i2){H:Hp}{xs ys:List V}(ha:H a=some (.lst xs))(hb:H b=some (.lst ys))(f:∀c∈[z,TI,TO,i1,i2],H c=none):ZipApart z TI TO i1 i2 a b:=
 #[k.a,k.b,k.c,k.d,k.e,k.f,k.g,k.h,k.i,k.j,ak ha (f z (by simp)),ak ha (f TO (by simp)),ak ha (f i1 (by simp)),ak ha (f i2 (by simp)),ak hb (f z (by simp)),ak hb (f TO (by simp)),ak hb (f i1 (by simp)),ak hb (f i2 (by simp))]
theorem z5_of(n:Nat):Z5 (n+4) (n+2) (n+3) n (n+1):=
 #[(show ¬ (n+2:Nat)=n+4 by lia),(show ¬ (n+3:Nat)=n+4 by lia),(show ¬ (n:Nat)=n+4 by lia),(show ¬ (n+1:Nat)=n+4 by lia),(show ¬ (n+2:Nat)=n+3 by lia),(show ¬ (n+2:Nat)=n by lia),(show ¬ (n+2:Nat)=n+1 by lia),(show ¬ (n+3:Nat)=n by lia),(show ¬ (n+3:Nat)=n+1 by lia),(show ¬ (n:Nat)=n+1 by lia)]
theorem agN{P:aG}{w:World}{K:aF}{elts:List Expr}{x1}{tpos:Pos}(a b z TI TO i1 i2:Addr)(k5:Z5 z TI TO i1 i2):
  Turn P w K (.Tuple elts x1 tpos) (Itz a b) [z,TI,TO,i1,i2] z (fun i h=>IsZip h z TI TO .none/\IsPair h TI (.ref i1) (.ref i2)/\(∃u v,IsPair h TO u v)/\h.IsListIter i1 a i/\h.IsListIter i2 b i) where
 mem:=by simp
 obj:=fun i h st c hc=>by
  obtain⟨hz,hTI,⟨u,v,hTO⟩,⟨o1,h1,_,d1⟩,⟨o2,h2,_,d2⟩⟩:=st
  k_dat hc "d"
  rcases hc with rfl|rfl|rfl|rfl|rfl
  ·show#[_,hz,fun v z=>by cases z]
  ·show#[_,hTI,fun v z=>by cases z]
  ·show#[_,hTO,fun v z=>by cases z]
  ·show#[_,h1,fun v z=>by rw[d1]at z;cases z]
  ·show#[_,h2,fun v z=>by rw[d2]at z;cases z]
 keep:=fun i h h' st k=>by
  obtain⟨hz,hTI,⟨u,v,hTO⟩,⟨o1,h1,r1⟩,⟨o2,h2,r2⟩⟩:=st;show#[k z (by simp) _ hz,k TI (by simp) _ hTI,#[u,v,k TO (by simp) _ hTO],#[o1,k i1 (by simp) _ h1,r1],#[o2,k i2 (by simp) _ h2,r2]]
 item:=by
  walk_at "m"
  subst hP hw hK;obtain⟨hz,hTI,⟨pa,pb,hTO⟩,h1,h2⟩:=st;obtain⟨xs,ys,ea,eb,li,lj⟩:=hg;obtain⟨_,us,n,rv,_,gl⟩:=I.tK ea;obtain⟨_,vs,m,rw',_,gr⟩:=I.tK eb;have ex:xs[i]? = some xs[i]:=dH li;have ey:ys[i]? = some ys[i]:=dH lj;obtain⟨u,hu,ru⟩:=rv.get ex;obtain⟨v,hv,rv'⟩:=rw'.get ey;have D:=k5.apart ea eb fun c hc=>(hf c hc).1;refine wpAny_pyNext_zip_item D hz hTI hTO h1 h2 #[_,gl,rfl,n,rfl] #[_,gr,rfl,m,rfl] (by simpa using hu) (by simpa using hv) fun h' a1 a2 a3 a4 a5 a6 hk=>?_;have nt:H s.heap.objs.size=none:=I.hok.fresh (aO _);have hf4:∀c∈[z,TO,i1,i2],xG X pins H c:=fun c hc=>hf c (ajy hc);have I1:Inv X pins σ (upd H s.heap.objs.size (.tup [xs[i],ys[i]])) { s with heap:=h' }:=I.acq (t':=s.toks) (ch:=[z,TO,i1,i2])
   (fun c o hc e=>hk c o (fun q=>hc (by simp[q])) (fun q=>hc (by simp[q])) (fun q=>hc (by simp[q])) (fun q=>hc (by simp[q])) e) hf4 (aO _)
   #[tb_g%,[u,v],.cons ru (.cons rv' .nil),#[_,a5,rfl,_,rfl]]
  have lts:∀c∈[z,TI,TO,i1,i2],c≠s.heap.objs.size:=fun c hc=>by
   have:∃o,s.heap.get? c=some o:=by
    obtain⟨o1,g1,_⟩:=h1;obtain⟨o2,g2,_⟩:=h2
    k_dat hc "d"
    rcases hc with rfl|rfl|rfl|rfl|rfl
    ·show#[_,hz]
    ·show#[_,hTI]
    ·show#[_,hTO]
    ·show#[_,g1]
    ·show#[_,g2]
   obtain⟨o,e⟩:=this;exact bZ (bA e)
  have fr1:∀c∈[z,TI,TO,i1,i2],(upd H s.heap.objs.size (.tup [xs[i],ys[i]])) c=none:=fun c hc=>by rw[ao (lts c hc)];exact(hf c hc).1
  show#[.ref s.heap.objs.size,rfl,wpAny_letOwnedTupleGo_zip a1 fun h2' hz' hs'=>?_]
  k_dat z "r"
  show#[.ref s.heap.objs.size,_,I1.turned (t':=s.toks) (fun c ob hb q=>(hs'.2 c hb).trans q) (fr1 z (by simp)) f1 f3 f4 f5,rfl,#[_,_,_,xs,ys,ea,eb,ex,ey,nt,rfl,rfl],#[hz',?_,#[u,v,?_],?_,?_],fr1]
  ·exact(hs'.2 TI k5.a).trans (hk TI _ k5.a k5.e k5.f k5.g hTI)
  ·exact(hs'.2 TO k5.b).trans a2
  ·obtain⟨o,e,r⟩:=a3;show#[o,(hs'.2 i1 k5.c).trans e,r]
  ·obtain⟨o,e,r⟩:=a4;show#[o,(hs'.2 i2 k5.d).trans e,r]
 done:=by
  walk_at "m"
  subst hP hw hK;obtain⟨hz,hTI,⟨pa,pb,hTO⟩,h1,h2⟩:=st;obtain⟨xs,ys,ea,eb,le⟩:=hg;obtain⟨_,us,n,rv,el,gl⟩:=I.tK ea;obtain⟨_,vs,m,rw',er,gr⟩:=I.tK eb;have D:=k5.apart ea eb fun c hc=>(hf c hc).1;have hend:us.toArray[i]? = none\/vs.toArray[i]? = none:=by
   rcases le with z|z
   ·exact .inl (aeY (by rwa[cH,<-el]))
   ·exact .inr (aeY (by rwa[cH,<-er]))
  refine wpAny_pyNext_zip_end (I.ok.hd hc) D hz hTI hTO h1 h2 #[_,gl,rfl,n,rfl] #[_,gr,rfl,m,rfl] hend fun h' hk=>#[rfl,?_];exact I.aiC (t':=s.toks) (ch:=[z,TO,i1,i2]) (fun c o hc e=>hk c o (fun q=>hc (by simp[q])) (fun q=>hc (by simp[q])) (fun q=>hc (by simp[q])) (fun q=>hc (by simp[q])) e)
   (fun c hc=>hf c (ajy hc))
 self:=fun A i s Q E st h=>Oq st.1 h
def iZip(ta:TA):TI:=fun σ H R=>ta σ H fun vs H1=>∃a b xs ys,vs=[.ref a,.ref b]/\H1 a=some (.lst xs)/\H1 b=some (.lst ys)/\R (Itz a b) H1
theorem alG{X:Cx}{a b:Expr}{ta:TA}{elts:List Expr}{x1}{tpos p pos:Pos}(hg:Gl X "zip")(hm:X.mg "zip" = none)(ha:PA X [a,b] ta)(hs:bh [a,b] X.env=[(false,eval a X.env),(false,eval b X.env)]:=by rfl)
  (hs2:bh [b] X.env=[(false,eval b X.env)]:=by rfl):PI X (.Tuple elts x1 tpos) (.Call (.Name "zip" p) [a,b] [] pos) (iZip ta):=by
 intro pins s σ H R I h;refine Call_ (iU I hg hm Yn (vY (thn (ha pos pins s σ H _ I h) fun us s1 zq=>?_) (by rw[hs,hs2]) (by rw[hs2];rfl)));obtain⟨vs,H1,I1,r1,q1⟩:=zq;obtain⟨l1,l2,xs,ys,e,e1,e2,q⟩:=q1;subst e;cases r1 with
 |cons r rr =>
  cases rr with
  |cons r' rr =>
   cases rr;cases r;cases r';obtain ⟨_,us,n,rv,_,gl⟩:=I1.tK e1;obtain ⟨_,vs,m,rw',_,gr⟩:=I1.tK e2;refine call_zip_2 (xs:=us.toArray) (ys:=vs.toArray) #[_,gl,rfl,n,rfl] #[_,gr,rfl,m,rfl] fun h' z1 z2 z3 z4 z5 z6 hk=>?_;refine Oq z1 #[_,[s1.heap.objs.size+4,s1.heap.objs.size+2,s1.heap.objs.size+3,s1.heap.objs.size,s1.heap.objs.size+1],_,Itz l1 l2,H1,rfl,I1.kept (t':=s1.toks) hk,
    agN l1 l2 (s1.heap.objs.size+4) (s1.heap.objs.size+2) (s1.heap.objs.size+3) s1.heap.objs.size (s1.heap.objs.size+1) (z5_of _),#[z1,z2,#[_,_,z3],z4,z5],fun c hc=>?_,q]
   have hle:s1.heap.objs.size<=c:=by
    k_dat hc "d"
    rcases hc with rfl|rfl|rfl|rfl|rfl <;> lia
   exact I1.ab1 hle (I1.hok.fresh hle)
theorem acr{a b:Addr}{xs ys:List V}{g:TG}{k:Nat}{caps:List Nat}{te:TE}{σ:St}{H:Hp}{D:Addr}{Q:VK}(Pv:Nat->List V->Hp->Prop)(h0:Pv 0 [] (upd H D (.lst [])))
  (hl:∀i zs H,Pv i zs H->H a=some (.lst xs)/\H b=some (.lst ys)/\H D=some (.lst zs)/\zs.length<sizeLine)
  (hs:∀i zs H x y t (ws:List (Option V)),xs[i]? = some x->ys[i]? = some y->Pv i zs H->H t=none->ws.length=k->g (.ref t) (lB σ ws caps) (upd H t (.tup [x,y])) fun σ2 H2=>(∃ws':List (Option V),ws'.length=k/\σ2=lB σ ws' caps)/\te σ2 H2 fun u H4=>H4 D=some (.lst zs)/\Pv (i+1) (zs++[u]) (upd H4 D (.lst (zs++[u]))))
  (hd:∀zs H,Pv (min xs.length ys.length) zs H->Q (.ref D) H)
  (monoG:∀x σ H (R R':St->Hp->Prop),(∀σ H,R σ H->R' σ H)->g x σ H R->g x σ H R')
  (mono:∀σ H (Q Q':VK),(∀y H,Q y H->Q' y H)->te σ H Q->te σ H Q'):
  mQ (Itz a b) g k caps lE te σ D Q H:=by
 show#[fun i m zs H=>m=min xs.length ys.length-i/\i<=min xs.length ys.length/\Pv i zs H,#[min xs.length ys.length,by simp,cU _,h0],?_];rintro i m zs H ⟨rfl,hi,p⟩;obtain⟨qa,qb,qd,hz⟩:=hl i zs H p;show#[qd,?_];by_cases hlt:i<min xs.length ys.length
 ·refine .inr #[#[xs,ys,qa,qb,by lia,by lia],hz,fun x H' y ws hw=>?_];obtain⟨t,u,v,xs',ys',ea,eb,ex,ey,ht,rfl,rfl⟩:=y;rw[qa]at ea;cases ea;rw[qb]at eb;cases eb;refine monoG _ _ _ _ _ (fun σ2 H2 h2=>#[h2.1,?_]) (hs i zs H u v t ws ex ey p ht hw);unfold lE;dsimp only;rw[if_pos rfl];exact mono _ _ _ _ (fun y H3 ⟨a,b⟩=>#[a,min xs.length ys.length-(i+1),by lia,rfl,hlt,b]) h2.2
 ·have e:i=min xs.length ys.length:=by lia
  subst e;exact .inl #[#[xs,ys,qa,qb,by lia],hd zs H p]
inductive Alike (K:aF) (H:Hp):Nat->V->V->Prop where
 |flat {n:Nat} {x:V} (h:wg x=true):Alike K H n x x
 |lst {n:Nat} {a b:Addr} {xs ys:List V} (ha:SqL K H a xs) (hb:SqL K H b ys) (hl:xs.length=ys.length) (h:∀(i:Nat)(x y:V),xs[i]? = some x->ys[i]? = some y->Alike K H n x y):Alike K H (n+1) (.ref a) (.ref b)
 |tup {n:Nat} {a b:Addr} {xs ys:List V} (ha:SqT K H a xs) (hb:SqT K H b ys) (hl:xs.length=ys.length) (h:∀(i:Nat)(x y:V),xs[i]? = some x->ys[i]? = some y->Alike K H n x y):Alike K H (n+1) (.ref a) (.ref b)
theorem Uz{x:V}(h:wg x=true):eqV x x=true:=by
 cases x with
 |non=>rfl
 |bl b=>show(b == b)=true;simp
 |int i=>show(i == i)=true;simp
 |str z=>show(z == z)=true;simp
 |byt _=>cases h
 |flt _=>cases h
 |ref _=>cases h
 |ty _=>cases h
section
variable{X:Cx}{pins:List (Addr × Obj)}{σ:St}{H:Hp}{s:Shared}
theorem all_true(n:Nat):((dY n).all fun _=>true)=true:=by simp
theorem oG{K:aF}{A:aN}{n:Nat}{xs ys:List V}{us vs:List Value}(ru:Vals xs us)(rv:Vals ys vs)
  (h:∀(i:Nat)(x y:V),xs[i]? = some x->ys[i]? = some y->Alike K H n x y) (ih:∀(x y:V)(u v:Value),Alike K H n x y->RelV x u->RelV y v->Ij A s u v true):
  ∀j (h1:j<us.toArray.size) (h2:j<vs.toArray.size),Ij A s us.toArray[j] vs.toArray[j] true:=fun j h1 h2=>by
 have e1:j<us.length:=by simpa using h1
 have e2:j<vs.length:=by simpa using h2
 have l1:j<xs.length:=by rwa[ru.length]
 have l2:j<ys.length:=by rwa[rv.length]
 have g1:xs[j]? = some xs[j]:=dH l1;have g2:ys[j]? = some ys[j]:=dH l2;obtain⟨u,k1,r1⟩:=ru.get g1;obtain⟨v,k2,r2⟩:=rv.get g2;have m1:us.toArray[j]=u:=by
  rw[dH e1]at k1;simpa using k1
 have m2:vs.toArray[j]=v:=by
  rw[dH e2]at k2;simpa using k2
 rw[m1,m2];exact ih _ _ _ _ (h j _ _ g1 g2) r1 r2
theorem UG(I:Inv X pins σ H s):∀(n:Nat)(A:aN)(x y:V)(u v:Value),A.units+n<cLine->Alike X.K H n x y->RelV x u->RelV y v->Ij A s u v true
 |0,A,x,y,u,v,hu,h,ru,rv=>by
  cases h with
  |flat f=>have:=QF (A:=A) (s:=s) ru rv f f;rwa[Uz f]at this
 |n+1,A,x,y,u,v,hu,h,ru,rv=>by
  have ih:=fun(x y:V) (u v:Value) (k:Alike X.K H n x y) (r1:RelV x u) (r2:RelV y v)=>UG I n A.in1 x y u v (by show A.units+1+n<cLine;lia) k r1 r2;cases h with
  |flat f=>have:=QF (A:=A) (s:=s) ru rv f f;rwa[Uz f]at this
  | @lst _ a b xs ys ha hb hl k =>
   obtain rfl:u=Value.ref a:=ru;obtain rfl:v=Value.ref b:=rv;by_cases e:a=b
   ·subst e;exact YK _
   ·obtain⟨us,r1,p1,_⟩:=I.list ha;obtain⟨vs,r2,p2,_⟩:=I.list hb;have:=afD (A:=A) p1.isList p2.isList (by rw[cH,cH,<-r1.length,<-r2.length,hl]) (by lia) (oG r1 r2 k ih);rw[all_true]at this;exact aft e this
  | @tup _ a b xs ys ha hb hl k =>
   obtain rfl:u=Value.ref a:=ru;obtain rfl:v=Value.ref b:=rv;by_cases e:a=b
   ·subst e;exact YK _
   ·obtain⟨us,r1,p1,_⟩:=I.tuple ha;obtain⟨vs,r2,p2,_⟩:=I.tuple hb;have hs:us.toArray.size=vs.toArray.size:=by rw[cH,cH,<-r1.length,<-r2.length,hl]
    have:=afC (A:=A) p1 p2 (by lia) (oG r1 r2 k ih);rw[all_true,hs]at this;exact aft e (by simpa using this)
def agO(K:aF)(b:Bool):R2:=fun x y H Q=>∃n p q,x=.ref p/\y=.ref q/\n<=40/\Alike K H n x y/\Q (.bl b) H
theorem agP(hu:X.A.units+64<cLine):OpR X (gG .Eq) (agO X.K true):=by
 walk_at "u"
 obtain⟨n,p,q,rfl,rfl,hn,k,w⟩:=h;obtain rfl:v=Value.ref p:=rx;obtain rfl:u=Value.ref q:=ry;have ih:=fun m (hm:m+1<=40) (x y:V) (u v:Value) (k:Alike X.K H m x y) (r1:RelV x u) (r2:RelV y v)=>UG I m X.A.in1 x y u v (by show X.A.units+1+m<cLine;lia) k r1 r2;have fin:EP X pins σ Q (.bool true) s:=#[.bl true,H,I,rfl,w];cases k with
 |flat f=>cases f
 | @lst m a b xs ys ha hb hl k =>
  obtain⟨us,r1,p1,_⟩:=I.list ha;obtain⟨vs,r2,p2,_⟩:=I.list hb;have:=afD (A:=X.A) p1.isList p2.isList (by rw[cH,cH,<-r1.length,<-r2.length,hl]) (by lia) (oG r1 r2 k (ih m (by lia)));rw[all_true]at this;exact this X.prog X.w X.xe _ fin
 | @tup m a b xs ys ha hb hl k =>
  obtain⟨us,r1,p1,_⟩:=I.tuple ha;obtain⟨vs,r2,p2,_⟩:=I.tuple hb;have hs:us.toArray.size=vs.toArray.size:=by rw[cH,cH,<-r1.length,<-r2.length,hl]
  have:=afC (A:=X.A) p1 p2 (by lia) (oG r1 r2 k (ih m (by lia)));rw[all_true,hs]at this;exact(show SeqAt.RcAt X.A s (.ref p) (.ref q) true by simpa using this) X.prog X.w X.xe _ fin
end
section
variable{X:Cx}
def rSumL(K:aF):List V->Hp->VK->Prop:=fun xs H Q=>∃(a:Addr)(ns:List Int),xs=[V.ref a]/\SqL K H a (ns.map V.int)/\Q (.int ns.sum) H
theorem acs(hc:X.calm=true):fU X (.builtin "sum") (rSumL X.K):=by
 walk_at "w"
 obtain⟨a,ns,rfl,ha,q⟩:=h;obtain⟨u,rfl,ru⟩:=vals1 r;cases ru;obtain⟨its,rv,p,hz⟩:=I.list ha;have hi:=intsAre_of rv;have hl:=p.isList;obtain⟨ys,e⟩:=hi.allInts.items;have hns:ns=ys.toList.map (·.1):=by rw[<-hi.numsOf,<-aej,<-e]
 rw[e]at hl;refine sum_intListG (I.ok.hd hc) hl fun h' tk t' hk=>#[.int ns.sum,H,I.kept hk,#[t',?_],q];rw[preSum_eq,Gj (by simp),hns]
end
def tM(te:TE):Prop:=∀σ H (Q Q':VK),(∀y H,Q y H->Q' y H)->te σ H Q->te σ H Q'
theorem QV{r:R2}{ta tb:TE}(hr:∀x y H (Q Q':VK),(∀y H,Q y H->Q' y H)->r x y H Q->r x y H Q')(ma:tM ta)(mb:tM tb):tM (tOp r ta tb):=fun σ H Q Q' hq h =>
 ma σ H _ _ (fun x H1 h1=>mb σ H1 _ _ (fun y H2 h2=>hr x y H2 Q Q' hq h2) h1) h
theorem aaM {K:aF} {ta tb:TE} (ma:tM ta) (mb:tM tb):tM (tOp (Ul K) ta tb):=QV (fun x y H Q Q' hq h2=>by
 rcases h2 with⟨a1,a2,a3,a4,a5,a6,a7,a8,q⟩|⟨a1,a2,a3,a4,a5,a6,a7,a8,q⟩|⟨a1,a2,a3,a4,q⟩
 ·exact .inl #[a1,a2,a3,a4,a5,a6,a7,a8,hq _ _ q]
 ·exact .inr (.inl #[a1,a2,a3,a4,a5,a6,a7,a8,hq _ _ q])
 ·exact .inr (.inr #[a1,a2,a3,a4,hq _ _ q])) ma mb
theorem vN {f:Int->Int->V} {ta tb:TE} (ma:tM ta) (mb:tM tb):tM (tOp (rI0 f) ta tb):=QV (fun x y H Q Q' hq h2=>by
 obtain ⟨a1,a2,a3,a4,q⟩:=h2;show#[a1,a2,a3,a4,hq _ _ q]) ma mb
theorem rD {C:Int->Int->Prop} {f:Int->Int->V} {ta tb:TE} (ma:tM ta) (mb:tM tb):tM (tOp (rI C f) ta tb):=QV (fun x y H Q Q' hq h2=>by
 obtain ⟨a1,a2,a3,a4,a5,q⟩:=h2;show#[a1,a2,a3,a4,a5,hq _ _ q]) ma mb
theorem dO(i:Nat):tM (TJ i):=fun σ H Q Q' hq ⟨v,e,q⟩=>#[v,e,hq _ _ q]
theorem xO(v:V):tM (tC v):=fun σ H Q Q' hq q=>hq _ _ q
def aaN(ta:TA):Prop:=∀σ H (Q Q':List V->Hp->Prop),(∀xs H,Q xs H->Q' xs H)->ta σ H Q->ta σ H Q'
theorem UJ:aaN agb:=fun σ H Q Q' hq q=>hq _ _ q
theorem M8{ta:TE}{tr:TA}(ma:tM ta)(mr:aaN tr):aaN (aaB ta tr):=fun σ H Q Q' hq h=>ma σ H _ _ (fun x H1 h1=>mr σ H1 _ _ (fun xs H2 h2=>hq _ _ h2) h1) h
def acu(lo c:Int)(n:Nat):It:=#[fun i _=>i<n,fun i H x H'=>H'=H/\x=.int (lo+i*c),fun i _=>n<=i]
theorem UL{P:aG}{w:World}{K:aF}{tg:Expr}(it:Addr)(lo c:Int)(n:Nat):Turn P w K tg (acu lo c n) [it] it (fun i h=>OD h it (lo+(i:Nat)*c) ((n:Int)-(i:Nat)) c) where
 mem:=by simp
 obj:=fun i h st b hb=>by
  have e:b=it:=by simpa using hb
  subst e;show#[_,st,fun v z=>by
   have z':Data.fields _=Data.cell v:=z;cases z']
 keep:=fun i h h' st k=>k it (by simp) _ st
 item:=by
  walk_at "m"
  subst hP hw hK
  k_dat it "r"
  have W:=afH (prog:=X.prog) (w:=X.w) (I.ok.hd hc) it lo c n;refine W.item i s _ _ hg st fun v h' tk hv st' kk=>?_
  k_dat (t,hv) "E"
  have I1:Inv X pins σ H { s with heap:=h',toks:=tk }:=I.turned (fun b o hb e=>kk b o (by simpa using hb) e) f0 f1 f3 f4 f5;show#[_,rfl,TY (s:={ s with heap:=h',toks:=tk }) (n := "range_iterator") st' rfl rfl tb_g% #[.int (lo+i*c),H,I1,#[t,rfl],#[rfl,rfl],st',fun b hb=>(hf b hb).1]]
 done:=by
  walk_at "m"
  subst hP hw hK
  k_dat it "r"
  exact adO (I.ok.hd hc) st (by have:n<=i:=hg;lia) fun h' eb=>#[rfl,I.turned (t':=s.toks) (fun b o hb e=>eb b o hb e) f0 f1 f3 f4 f5]
 self:=fun _ _ _ _ _ st h=>adP st h
section
variable{X:Cx}{tg:Expr}
def rsz(lo hi c:Int):Nat:=if lo<hi then((hi-lo-1) / c+1).toNat else 0
theorem agQ{lo hi c:Int}(hc:0<c):Ql lo hi c=(rsz lo hi c:Int):=by
 unfold Ql rsz;rw[if_pos hc];by_cases h:lo<hi
 ·rw[if_pos h,if_pos h];have:=Yy (a:=hi-lo-1) (b:=c) (by lia) (by lia);lia
 ·rw[if_neg h,if_neg h];rfl
theorem acv{a b c:Int}(hc:0<c)(hc':c<2 ^ 30)(ha:-(2 ^ 60)<=a)(ha':a<2 ^ 60)(hb:-(2 ^ 60)<=b)(hb':b<2 ^ 60):afh a b c=true:=by
 have e:=agQ (lo:=a) (hi:=b) hc;have h1:(rsz a b c:Int)*c<=2 ^ 62:=by
  unfold rsz;by_cases h:a<b
  ·rw[if_pos h];have h0:=Yy (a:=b-a-1) (b:=c) (by lia) (by lia);rw[yr (by lia),Qk,Int.one_mul];have h2:=Int.ediv_mul_le (b-a-1) (show c≠0 by lia);lia
  ·rw[if_neg h];simp
 have h2:(0:Int)<=(rsz a b c:Int)*c:=Ib (by lia) (by lia);have h3:(rsz a b c:Int)<=(rsz a b c:Int)*c:=by
  have:=Yw (show(1:Int)<=c by lia) (show(0:Int)<=(rsz a b c:Int) by lia);lia
 unfold afh;rw[e];rw[if_pos hc];simp only[ajY,HF,PL,decide_eq_true_eq,beq_iff_eq];lia
theorem acw{pins:List (Addr × Obj)}{σ:St}{H:Hp}{s:Shared}{R:It->Hp->Prop}{E:Value->Shared->Prop}{lo hi c:Int}{t u v:Tok}{tk:Nat}(I:Inv X pins σ H s)(hc:0<c)(hc':c<2 ^ 30)(h1:-(2 ^ 60)<=lo)(h2:lo<2 ^ 60)(h3:-(2 ^ 60)<=hi)(h4:hi<2 ^ 60)
  (q:R (acu lo c (rsz lo hi c)) H):wpAny (model X.prog X.w) X.A (Ae (.ref s.heap.objs.size)) (PIE X pins σ tg R) E { s with heap:=s.heap.push { cls:=.type "range",data:=.fields [.int lo t,.int hi u,.int c v].toArray },toks:=tk }:=by
 refine adU (afM ..) (acv hc hc' h1 h2 h3 h4) ?_;have I1:Inv X pins σ H { s with heap:=s.heap.push { cls:=.type "range",data:=.fields [.int lo t,.int hi u,.int c v].toArray },toks:=tk }:=I.kept fun b o e=>cX _ e;show#[(s.heap.push { cls:=.type "range",data:=.fields [.int lo t,.int hi u,.int c v].toArray }).objs.size,[(s.heap.push { cls:=.type "range",data:=.fields [.int lo t,.int hi u,.int c v].toArray }).objs.size],_,_,H,rfl,
  I1.kept (t':=tk) fun b o e=>cX _ e,UL _ lo c (rsz lo hi c),?_,fun b hb=>?_,q]
 ·have e1:lo+((0:Nat):Int)*c=lo:=by simp
  have e2:((rsz lo hi c:Nat):Int)-((0:Nat):Int)=Ql lo hi c:=by rw[agQ hc];lia
  show OD _ _ (lo+((0:Nat):Int)*c) (((rsz lo hi c:Nat):Int)-((0:Nat):Int)) c;rw[e1,e2];exact dZ _ rfl
 ·have e:b=(s.heap.push { cls:=.type "range",data:=.fields [.int lo t,.int hi u,.int c v].toArray }).objs.size:=by simpa using hb
  subst e;exact I1.ab1 (aO _) (I1.hok.fresh (aO _))
def iRng3(ta:TA):TI:=fun σ H R=>ta σ H fun vs H1=>∃i j c:Int,vs=[.int i,.int j,.int c]/\(0<c/\c<2 ^ 30 /\ -(2 ^ 60)<=i/\i<2 ^ 60 /\ -(2 ^ 60)<=j/\j<2 ^ 60)/\R (acu i c (rsz i j c)) H1
theorem acy{a b d:Expr}{ta:TA}{p pos:Pos}(hg:Gl X "range")(hm:X.mg "range" = none)(ha:PA X [a,b,d] ta)(hs:bh [a,b,d] X.env=[(false,eval a X.env),(false,eval b X.env),(false,eval d X.env)]:=by rfl)
  (hs2:bh [b,d] X.env=[(false,eval b X.env),(false,eval d X.env)]:=by rfl):PI X tg (.Call (.Name "range" p) [a,b,d] [] pos) (iRng3 ta):=by
 intro pins s σ H R I h;refine Call_ (iU I hg hm boot_range (vY (thn (ha pos pins s σ H _ I h) fun us s1 zq=>?_) (by rw[hs,hs2]) (by rw[hs2];rfl)));obtain⟨vs,H1,I1,r1,q1⟩:=zq;obtain⟨i,j,c,e,⟨q1,q2,q3,q4,q5,q6⟩,q⟩:=q1;subst e;cases r1 with
 |cons r rr =>
  cases rr with
  |cons r' rr =>
   cases rr with
   |cons r'' rr =>
    cases rr
    k_dat (t,r) "E"
    k_dat (t',r') "E"
    k_dat (t'',r'') "E"
    exact call_range_3 (by lia) (acw I1 q1 q2 q3 q4 q5 q6 q) (.inl (afq (by lia)))
theorem Zr{lo c:Int}{n:Nat}{g:TG}{tb:TS}{D:Ends}{σ:St}{H:Hp}(Pv:Nat->St->Hp->Prop)(h0:Pv 0 σ H)
  (hs:∀i σ H,i<n->Pv i σ H->g (.int (lo+i*c)) σ H fun σ2 H2=>tb { D with nx:=Pv (i+1),ct:=Pv (i+1),bk:=D.nx } σ2 H2) (hd:∀σ H,Pv n σ H->D.nx σ H):
  ∃W:Nat->Nat->St->Hp->Prop,(∃m,W 0 m σ H)/\∀i m σ H,W i m σ H ->
   ((acu lo c n).stop i H/\D.nx σ H)\/((acu lo c n).go i H/\∃N:St->Hp->Prop,(∀σ' H',N σ' H'->∃m',m'<m/\W (i+1) m' σ' H')/\∀x H',(acu lo c n).yld i H x H'->g x σ H' fun σ2 H2=>tb { D with nx:=N,ct:=N,bk:=D.nx } σ2 H2):=by
 show#[fun i m σ H=>m=n-i/\i<=n/\Pv i σ H,#[n,by simp,cU _,h0],?_];rintro i m σ H ⟨rfl,hi,p⟩;by_cases hlt:i<n
 ·refine .inr #[hlt,Pv (i+1),fun σ' H' p'=>#[n-(i+1),by lia,rfl,hlt,p'],fun x H' y=>?_];obtain⟨rfl,rfl⟩:=y;exact hs i σ _ hlt p
 ·have e:i=n:=by lia
  subst e;exact .inl #[aO _,hd σ H p]
end
section
variable{X:Cx}{l:Expr}{td:TE}{p cpos apos pos:Pos}
end
theorem Zt{K:aF}(i j:Nat):∀x σ H (R R':St->Hp->Prop),(∀σ H,R σ H->R' σ H)->gTup K 2 (IW (mO i) (IW (mO j) gNil)) x σ H R->gTup K 2 (IW (mO i) (IW (mO j) gNil)) x σ H R':=fun x σ H R R' hr h=>by
 obtain⟨a,xs,e,sq,hl,v,r,e1,v2,r2,e2,e3,q⟩:=h;show#[a,xs,e,sq,hl,v,r,e1,v2,r2,e2,e3,hr _ _ q]
section
variable{X:Cx}
end
theorem aaO{r:List V->Hp->VK->Prop}{ta:TA}(hr:∀vs H (Q Q':VK),(∀y H,Q y H->Q' y H)->r vs H Q->r vs H Q')(ma:aaN ta):tM (tCB r ta):=fun σ H Q Q' hq h=>ma σ H _ _ (fun vs H1 h1=>hr vs H1 Q Q' hq h1) h
theorem UW {K:aF} {ta:TE} {f:Str} (ma:tM ta):tM (af9 K ta f):=fun σ H Q Q' hq h=>ma σ H _ _ (fun x H1 h1=>by
 obtain ⟨a,C,dx,fs,v,e,h2,c,n,l,q⟩:=h1;show#[a,C,dx,fs,v,e,h2,c,n,l,hq _ _ q]) h
section
variable{X:Cx}
end
theorem agR(ns:List Int)(lo hi:Option Int):∃ms:List Int,pC (ns.map V.int) lo hi=ms.map V.int/\ms.length<=ns.length/\∀m∈ms,m∈ns:=by
 show#[(ns.drop (HT.sIx (ns.map V.int).length 0 lo)).take (HT.sIx (ns.map V.int).length (ns.map V.int).length hi-HT.sIx (ns.map V.int).length 0 lo),?_,?_,fun m hm=>WQ (Gw hm)]
 ·unfold pC;rw[Xa,Xb]
 ·rw[fJ,GC];lia
theorem int_at{ns:List Int}{i:Nat}{y:V}(h:(ns.map V.int)[i]? = some y):∃z,ns[i]? = some z/\y=V.int z:=by
 rw[cB]at h;cases e:ns[i]? with
 |none=>rw[e]at h;cases h
 |some z=>rw[e]at h;show#[z,rfl,(bK h).symm]
theorem Jp{xs:List V}{n:Nat}(h:n<=xs.length):pC xs (some (n:Int)) none=xs.drop n:=by
 unfold pC;rw[HT.Ua,HT.Ga,aey h,Gj (by rw[GC];exact aO _)]
theorem four{a b c d v:Int}(h:v∈[a,b,c,d]):v=a\/v=b\/v=c\/v=d:=by simpa using h
theorem agS(f:Str)(v:V):bM f v []=[(f,v)]:=rfl
theorem aiD(f:Str)(v:V)(r:List (Str × V))(u:V):bM f v ((f,u)::r)=(f,v)::r:=by
 unfold bM;rw[if_pos rfl]
theorem aiE{f g:Str}(h:¬ g=f)(v:V)(r:List (Str × V))(u:V):bM f v ((g,u)::r)=(g,u)::bM f v r:=by
 rw[bM,if_neg h]
theorem aiF{f m:Str}{v:V}{r:List (Str × V)}(h:¬ m=f):((f,v)::r).lookup m=r.lookup m:=by
 rw[adw];rw[beq_eq_false_iff_ne.mpr h]
theorem uR{p a:Addr}{H H':Hp}(b:But p H H')(h:H' a=none)(n:a≠p):H a=none:=by
 cases e:H a with
 |none=>rfl
 |some o=>rw[b a o e n]at h;cases h
section
variable{K:aF}{H:Hp}{Q:VK}
theorem gb{a:Addr}{kvs:List (Key × V)}{k:Str}{v:V}(h:Rd H a (.dK kvs))(e:jz kvs (Sum.inr k:Key)=some v)(q:Q v H):Ul K (.ref a) (.str k) H Q:=
 .inr (.inr #[a,v,rfl,.inl #[kvs,Sum.inr k,h,rfl,e.symm],q])
theorem fW{a:Addr}{kvs:List (Key × V)}{k:Str}{v:V}{R:Hp->Prop}(h:H a=some (.dK kvs))(hl:kvs.length<sizeLine)(q:R (upd H a (.dK (putK kvs (Sum.inr k) v)))):agn (.ref a) (.str k) v H R:=
 .inr #[a,_,rfl,.inl #[kvs,Sum.inr k,h,rfl,hl,rfl],q]
theorem aiG(k:Key)(x:V)(r:List (Key × V)):jz ((k,x)::r) k=some x:=by
 unfold jz;rw[qJ,decide_eq_true rfl];rfl
theorem aaP{k j:Key}{x:V}{r:List (Key × V)}(h:¬ j=k):jz ((j,x)::r) k=jz r k:=by
 unfold jz;rw[qJ,decide_eq_false h]
def DG(kvs:List (Key × V))(k:Key)(v:V):List (Key × V):=kvs.map fun kv=>if kv.1=k then(kv.1,v)else kv
theorem aiH(k:Key)(x v:V)(r:List (Key × V)):DG ((k,x)::r) k v=(k,v)::DG r k v:=by
 unfold DG;rw[dM,if_pos rfl]
theorem aaQ{k j:Key}{x v:V}{r:List (Key × V)}(h:¬ j=k):DG ((j,x)::r) k v=(j,x)::DG r k v:=by
 unfold DG;rw[dM,if_neg h]
theorem Jq:∀{kvs:List (Key × V)} {k:Key} {v:V},jz kvs k=some v->(kvs.any fun kv=>decide (kv.1=k))=true
 |[],_,_,h=>by cases h
 |(j,x)::r,k,v,h=>by
  rw[tU];by_cases e:j=k
  ·rw[decide_eq_true e];rfl
  ·rw[aaP e]at h;rw[Jq h,Yi]
theorem acz{kvs:List (Key × V)}{k:Key}{w v:V}(h:jz kvs k=some w):putK kvs k v=DG kvs k v:=by
 unfold putK DG;rw[if_pos (Jq h)]
theorem QW{a b:Str}(h:¬ a=b):¬ (Sum.inr a:Key)=Sum.inr b:=fun z=>h (afL z)
end
section
variable{X:Cx}
def rGetN:V->V->Hp->VK->Prop:=fun o i H Q=>∃(p:Addr)(xs:List V)(k:Nat)(v:V),o=.ref p/\i=.int k/\H p=some (.lst xs)/\xs[k]? = some v/\Q v H
theorem agT:PGet X rGetN:=by
 intro pins s σ H o i ov iv Q I ro ri h;obtain⟨p,xs,k,v,rfl,rfl,hp,hk,q⟩:=h;cases ro
 k_dat (t,ri) "E"
 obtain⟨its,r,pl,hz⟩:=I.list (a:=p) (xs:=xs) (.inl (.inl hp));obtain⟨w,ew,rw'⟩:=r.get hk;have hl:=r.length;have hn:=Bf;have hk2:=(fO.mp hk).1;exact wpAny_getItem_list pl.isList (by lia) (by lia) (by simpa using ew) #[v,H,I,rw',q]
theorem acA:∀{ns ms:List Int},ns.length=ms.length->((dY ns.length).all fun j=>eqV (V.int (ns.getD j 0)) (V.int (ms.getD j 0)))=decide (ns=ms):=by
 intro ns ms hl;by_cases h:ns=ms
 ·subst h;rw[decide_eq_true rfl,qI];intro j _;show(ns.getD j 0 == ns.getD j 0)=true;simp
 ·rw[decide_eq_false h];cases e:((dY ns.length).all fun j=>eqV (V.int (ns.getD j 0)) (V.int (ms.getD j 0)))with
  |false=>rfl
  |true =>
   exfalso;apply h;rw[qI]at e;refine List.ext_getElem? fun i=>?_;by_cases hi:i<ns.length
   ·have:=e i (pP.mpr hi);have this:(ns.getD i 0 == ms.getD i 0)=true:=this;have this:ns.getD i 0=ms.getD i 0:=by simpa using this
    rw[dH hi,dH (by lia)];rw[Gi,Gi,dH hi,dH (show i<ms.length by lia)]at this;exact congrArg some this
   ·rw[Ny (by lia),Ny (by lia)]
def rNeI(K:aF):R2:=fun x y H Q=>∃(a b:Addr)(ns ms:List Int),x=.ref a/\y=.ref b/\SqL K H a (ns.map V.int)/\SqL K H b (ms.map V.int)/\ns.length=ms.length/\Q (.bl (!decide (ns=ms))) H
theorem alH(hu:X.A.units+64<cLine):OpR X (gG .NotEq) (rNeI X.K):=by
 walk_at "u"
 obtain⟨a,b,ns,ms,rfl,rfl,ha,hb,hl,w⟩:=h;obtain rfl:v=Value.ref a:=rx;obtain rfl:u=Value.ref b:=ry;obtain⟨us,r1,p1,_⟩:=I.list ha;obtain⟨vs,r2,p2,_⟩:=I.list hb;have l1:=r1.length;have l2:=r2.length;rw[aB]at l1 l2;have:=ak0 (A:=X.A) (s:=s) (e:=fun j=>eqV (V.int (ns.getD j 0)) (V.int (ms.getD j 0))) p1.isList p2.isList (by rw[cH,cH,<-l1,<-l2,hl]) (by lia) fun j h1 h2=>by
  have e1:j<us.length:=by simpa using h1
  have e2:j<vs.length:=by simpa using h2
  have g1:(ns.map V.int)[j]? = some (V.int (ns.getD j 0)):=by rw[cB,Gi,dH (show j<ns.length by lia)];rfl
  have g2:(ms.map V.int)[j]? = some (V.int (ms.getD j 0)):=by rw[cB,Gi,dH (show j<ms.length by lia)];rfl
  obtain⟨u,k1,r1'⟩:=r1.get g1;obtain⟨v,k2,r2'⟩:=r2.get g2;have m1:us.toArray[j]=u:=by
   rw[dH e1]at k1;simpa using k1
  have m2:vs.toArray[j]=v:=by
   rw[dH e2]at k2;simpa using k2
  rw[m1,m2];exact QF r1' r2' rfl rfl
 rw[cH,<-l1,acA hl]at this;exact this X.prog X.w X.xe _ #[.bl _,H,I,rfl,w]
def agU(K:aF):R2:=fun x y H Q=>∃(a b:Addr)(xs ys:List V),x=.ref a/\y=.ref b/\SqL K H a xs/\SqL K H b ys/\xs.length≠ys.length/\Q (.bl false) H
theorem agV(hu:X.A.units+64<cLine):OpR X (gG .Eq) (agU X.K):=by
 walk_at "u"
 obtain⟨a,b,xs,ys,rfl,rfl,ha,hb,hl,w⟩:=h;obtain rfl:v=Value.ref a:=rx;obtain rfl:u=Value.ref b:=ry;obtain⟨us,r1,p1,_⟩:=I.list ha;obtain⟨vs,r2,p2,_⟩:=I.list hb;have l1:=r1.length;have l2:=r2.length;have:=aku (A:=X.A) (s:=s) p1.isList p2.isList (by rw[cH,cH,bne_iff_ne];lia) (by lia);exact this X.prog X.w X.xe _ #[.bl _,H,I,rfl,w]
end
theorem Zu{X:Cx}(hu:X.A.units+64<cLine):OpR X (gG .Eq) (fun x y H Q=>agO X.K true x y H Q\/agU X.K x y H Q):=fun pins s σ H x y v u Q I rx ry h =>
 h.elim (agP hu pins s σ H x y v u Q I rx ry) (agV hu pins s σ H x y v u Q I rx ry)
end L2
namespace Dec
abbrev dg(n:Nat):List Char:=Nat.toDigits 10 n
theorem yK{n:Nat}(h:n<10):dg n=[xg n]:=Nat.toDigits_of_lt_base h
theorem M9{n:Nat}(h:10<=n):dg n=dg (n / 10)++dg (n % 10):=by
 have:=Nat.toDigits_append_toDigits (b:=10) (n:=n / 10) (d:=n % 10) tb_g% (by lia) (by lia);rw[show 10*(n / 10)+n % 10=n by lia]at this;exact this.symm
theorem Zv(n:Nat):(dg (n % 10)).length=1:=by rw[yK (by lia)];rfl
def pad(k m:Nat):List Char:=tR (k-(dg m).length) '0'++dg m
theorem rE:∀(k:Nat){m:Nat},1<=k->m<10 ^ k->(dg m).length<=k
 |0,_,h,_=>by lia
 |k+1,m,_,h=>by
  rcases oY m 10 with l|l
  ·rw[yK l];exact Nat.succ_le_succ (cU _)
  ·rw[M9 l,cj,Zv];have hk:1<=k:=by
    rcases Hy k with rfl|z
    ·rw[Hz,Nat.pow_one]at h;lia
    ·exact z
   have:=rE k hk (m:=m / 10) (by rw[Ah]at h;lia);lia
theorem agW{k m:Nat}(hk:1<=k)(h:m<10 ^ (k+1)):pad (k+1) m=pad k (m / 10)++dg (m % 10):=by
 unfold pad;rcases oY m 10 with l|l
 ·rw[show m / 10=0 by lia,show m % 10=m by lia,yK l,yK (show 0<10 by decide)];show tR (k+1-1) '0'++[xg m]=tR (k-1) '0'++['0']++[xg m];rw[show k+1-1=(k-1)+1 by lia,List.replicate_succ']
 ·have:=rE k hk (m:=m / 10) (by rw[Ah]at h;lia);rw[M9 l,cj,Zv,<-fH];rw[show k+1-((dg (m / 10)).length+1)=k-(dg (m / 10)).length by lia]
theorem U0{n:Nat}(hn:0<n):∀(k:Nat){m:Nat},1<=k->m<10 ^ k->dg (n*10 ^ k+m)=dg n++pad k m
 |0,_,h,_=>by lia
 |k+1,m,_,h=>by
  have e:(n*10 ^ (k+1)+m) / 10=n*10 ^ k+m / 10:=by rw[Ah,<-Yd];lia
  have e2:(n*10 ^ (k+1)+m) % 10=m % 10:=by rw[Ah,<-Yd];lia
  have big:10<=n*10 ^ (k+1)+m:=by
   have:=Nat.mul_le_mul hn (PB (show 0<10 by decide) (show 1<=k+1 by lia));lia
  rw[M9 big,e,e2];rcases Hy k with rfl|z
  ·rw[Nat.pow_zero,Nat.mul_one]at *;have hm:m<10:=by simpa using h
   rw[show m / 10=0 by lia,Nat.add_zero,show m % 10=m by lia];unfold pad;rw[yK hm];rfl
  ·rw[U0 hn k z (by rw[Ah]at h;lia),agW z h,fH]
end Dec
namespace Dec
open PySem
def tx(cs:List Char):Str:=#[(cs.map lZ).toArray]
theorem rF(cs:List Char):(tx cs).length=cs.length:=by
 show((cs.map lZ).toArray).size=_;rw[cH,aB]
theorem aaR(n:Nat):(PK n).toList=dg n:=by
 unfold PK;exact String.toList_ofList
theorem lG(n:Nat):aD (toString (n:Int))=tx (dg n):=by
 rw[adz,show toString (n:Int)=PK n from rfl,aaR];rfl
theorem yL{n:Nat}(h:0<n):aD (toString (-(n:Int)))=tx ('-'::dg n):=by
 obtain⟨m,rfl⟩:∃m,n=m+1:=#[n-1,by lia];rw[adz,show toString (-((m+1:Nat):Int)) = "-" ++ PK (m+1)from rfl,String.toList_append,aaR];rfl
theorem U3{n:Nat}{c:Char}(h:c∈dg n):48<=c.toNat/\c.toNat<=57:=by
 have:=Nat.isDigit_of_mem_toDigits tb_g% tb_g% h;simp[Char.isDigit]at this;show#[this.1,this.2]
theorem aaS(n:Nat):dg n≠[]:=by
 rcases oY n 10 with l|l
 ·rw[yK l];exact iw _ _
 ·rw[M9 l];intro e;have:=congrArg lO e;rw[cj,Zv]at this;simp at this
theorem agX{k m:Nat}(hk:1<=k)(h:m<10 ^ k):Qa (tx (dg m)) k=tx (pad k m):=by
 have hl:=rE k hk h;unfold Qa pad;rw[rF];by_cases e:(k:Int)<=(dg m).length
 ·rw[if_pos e,show k-(dg m).length=0 by lia];rfl
 ·rw[if_neg e];unfold zfilled;obtain⟨c,cs,ec⟩:=Nv (aaS m);have hc:=U3 (n:=m) (c:=c) (by rw[ec];exact bV);have e0:(tx (dg m)).cps[0]? = some c.toNat:=by rw[ec];rfl
  rw[e0];have:(match some c.toNat with|some 43=>true|some 45=>true|_=>false)=false:=by
   split
   ·rename_i z;have:=bK z;lia
   ·rename_i z;have:=bK z;lia
   ·rfl
  split
  ·rename_i z;have:=bK z;lia
  ·rename_i z;have:=bK z;lia
  ·unfold aj1 tx;rw[Yx];apply congrArg Str.mk;apply Am.mp;simp
theorem Nf:∀(ys:List Str)(acc:Array Nat),ys.foldl (fun acc p=>acc++(#[#[]]:Str).cps++p.cps) acc=acc++(ys.flatMap fun y=>y.cps.toList).toArray
 |[],acc=>by simp
 |y::ys,acc=>by
  rw[GQ,Nf ys,tQ];apply Am.mp;simp
theorem join_none(css:List (List Char)):bQ #[#[]] (css.map tx)=tx css.flatten:=by
 show Qm #[#[]] (css.map tx)=_;unfold Qm;cases css with
 |nil=>rfl
 |cons c cs =>
  rw[dM];show(#[(cs.map tx).foldl (fun acc p=>acc++(#[#[]]:Str).cps++p.cps) (tx c).cps]:Str)=_;rw[Nf];apply congrArg Str.mk;apply Am.mp;unfold tx;simp only[List.flatMap,fM,Al,List.flatten_cons];rw[bB,List.map_flatten];rfl
end Dec
namespace L2
open PySem PySem.Spec PyProof.Rows
section
variable{X:Cx}
theorem QX:∀{ys:List Str}{its:List Value},Vals (ys.map V.str) its->StrsAre its ys
 |[],_,h=>by cases h;exact .nil
 |y::ys,_,h=>by
  cases h with
  |cons r1 r2=>obtain⟨t,rfl⟩:=r1;exact .cons _ _ (QX r2)
def rJoin(K:aF):V->List V->Hp->VK->Prop:=fun x vs H Q=>∃(sep:Str)(a:Addr)(ys:List Str),x=.str sep/\vs=[.ref a]/\SqL K H a (ys.map V.str)/\sep.length<=16/\(ys.map (·.length)).sum+ys.length<=1048576/\Q (.str (bQ sep ys)) H
theorem yM:MtR X "str.join" (rJoin X.K):=by
 walk_at "D"
 obtain⟨sep,a,ys,rfl,rfl,hs,h16,hw,q⟩:=h
 k_dat (t,t,v,sep,rx) "A"
 obtain⟨u,rfl,ru⟩:=vals1 rv;cases ru;obtain⟨its,r,p,hz⟩:=I.list hs;exact join_listW p.isList (QX r) h16 hw fun t' k=>#[.str _,H,I.tok k,#[t',rfl],q]
def alI:V->List V->Hp->VK->Prop:=fun x vs H Q=>∃(z:Str)(i:Int),x=.str z/\vs=[.int i]/\PadOk i=true/\Q (.str (Qa z i)) H
theorem agY:MtR X "str.zfill" alI:=by
 walk_at "D"
 obtain⟨z,i,rfl,rfl,hp,q⟩:=h
 k_dat (t,t,v,z,rx) "A"
 obtain⟨u,rfl,ru⟩:=vals1 rv
 k_dat (k,ru) "E"
 exact akY hp fun t' k=>#[.str _,H,I.tok k,#[t',rfl],q]
theorem acB:fU X (.builtin "abs") (fun xs H Q=>∃i,xs=[.int i]/\Q (.int (if i<0 then -i else i)) H):=by
 walk_at "w"
 obtain⟨i,rfl,q⟩:=h;obtain⟨u,rfl,t,rfl⟩:=vals1 r;exact call_abs_int fun u k=>#[.int _,H,I.tok k,#[u,rfl],q]
def ajz(_ j:Int):Prop:=0<j/\j<2 ^ 200
theorem agZ:OpR X (iD .FloorDiv) (rI ajz fun i j=>.int (i / j)):=
 opI (C:=ajz) (g:=fun i j=>i / j) fun i j t u s Q E hc h=>by
  obtain⟨h0,h1⟩:=hc;have hl:j.natAbs.log2<9000:=by
   have h3:j.natAbs≠0:=by lia
   have h2:j.natAbs<2 ^ 200:=by lia
   have:=(aeC h3).mpr h2;lia
  refine aeS (by lia) ?_ (.inl (PyProof.noPylong_of_log2 hl));rwa[ae2 i (by lia)]
end
section
variable{prog:aG}{w:World}{A:aN}{E:Value->Shared->Prop}{s:Shared}{r l:Addr}
theorem U4{Q:List Value->Shared->Prop}{items:Array Value}(hh:A.handled=none)(hr:s.heap.IsRevIter r l ((items.size:Int)-1))(hl:s.heap.IsList l items)(hrl:l≠r)(hz:items.size<=sizeLine)
  (q:∀h' tk acc,(∀b o,b≠r->s.heap.get? b=some o->h'.get? b=some o)->ItemsOf (Behind items) acc items.size->Q acc.toList { s with heap:=h',toks:=tk }):wpAny (model prog w) A (collect (.ref r)) Q E s:=by
 obtain ⟨o1,g1,_⟩:=id hr;obtain ⟨o2,g2,_⟩:=id hl;unfold collect;refine au (wpAny_runValue (vX PySem.F.entry_proto_collect ?_));rw [yp PySem.F.plain_proto_collect _];show wpAny _ A.in1 (newList [] >>= fun l=>again (.builtin "list.__iadd__" ⟨[l,.ref r],[]⟩)) _ _ s;refine au (Xr ?_);refine aK ⟨oU aeW _,vX PySem.F.entry_list_iadd ?_⟩;rw [yp aeW _];have hS:(s.heap.push { cls:=.type "list",data:=.seq #[] }).get? s.heap.objs.size=some { cls:=.type "list",data:=.seq #[] }:=dZ _ rfl;show wpAny _ A.in1 (Dj (.ref s.heap.objs.size) (.ref r) (.ref s.heap.objs.size)) _ _ { s with heap:=s.heap.push { cls:=.type "list",data:=.seq #[] } };refine agM (R:=fun res s'=>match res with
  | Except.ok (Flow.ret v)=>wpAny (model prog w) A (match v with
   | .ref a=>load a >>= fun o=>match o.data with
    | .seq xs _=>pure xs.toList
    |_=>unsupported "internal:collect"
   | _=>unsupported "internal:collect") Q E s'
  |Except.ok _=>False
  | Except.error e=>E e s') (s:={ s with heap:=s.heap.push { cls:=.type "list",data:=.seq #[] } }) hh (hr.at fun o e=>cX _ e) (hl.at fun o e=>cX _ e) hrl _ (oX (bA g1)) (oX (bA g2)) _ 0 hS hz fun h' tk acc d hk hS2 hacc=>?_
 exact au (wpAny_load hS2 (aK (q h' tk acc (fun b o n e=>hk b o (bZ (bA e)) n (cX _ e)) hacc)))
theorem ag0{x:Str}{t:Tok}{Q:Value->Shared->Prop}{items:Array Value}{zs:List Str}(hh:A.handled=none)(hr:s.heap.IsRevIter r l ((items.size:Int)-1))(hl:s.heap.IsList l items)(hrl:l≠r)(hz:items.size<=sizeLine)
  (hs:∀acc,ItemsOf (Behind items) acc items.size->StrsAre acc.toList zs) (h16:x.length<=16) (hw:(zs.map (·.length)).sum+zs.length<=1048576)
  (q:∀h' t' k,(∀b o,b≠r->s.heap.get? b=some o->h'.get? b=some o)->Q (.str (bQ x zs) t') { s with heap:=h',toks:=k }):
  wpAny (model prog w) A (call (.builtin "str.join") [.str x t,.ref r]) Q E s:=by
 apply lR;apply wK Dh.plain PySem.F.entry_str_join;refine Dh.check _ _ _ _ _ _ _ _ (ud _ _ _) (PySem.F.args_str_join_2 _ _) ?_;rw[join_tree_other];refine au (wQ (T := "list_reverseiterator") hr.typeIs ?_);show wpAny _ A.in1 ((Ae (.ref r)).tryCatch _ >>= fun it=>collect it >>= fun its=>joinTail x its) _ _ s;refine au (wO (Om hr ?_));refine au (U4 (A:=A.in1) hh hr hl hrl hz fun h' tk acc hk hacc=>?_);obtain⟨ps,e1,e2⟩:=strsAre_values (hs acc hacc);subst e2;rw[e1];have ok:=joinOk_of_weight hw h16;unfold JoinOk at ok;rw[Bool.not_eq_true']at ok;have g:Gives (joinTail x (Pg ps)) (joinMade x ps):=by
  cases ps with
  |nil=>exact Xw x [] ok
  |cons a1 r1 =>
   cases r1 with
   |nil=>exact Xw x [a1] ok
   |cons a2 r2=>exact Xw x (a1::a2::r2) ok
 exact g prog w A (wants Q E) _ (post_join ps #[joinFit_length ok,fun t' k=>q h' t' k hk])
end
section
variable{X:Cx}{o l:Expr}{to:TE}{p' apos pos' cpos:Pos}
def ag1(K:aF)(to:TE)(ta:TA):TE:=fun σ H Q=>to σ H fun x H1=>∃sep:Str,x=.str sep/\ta σ H1 fun vs H2=>∃(a:Addr)(ys:List Str),vs=[.ref a]/\SqL K H2 a (ys.map V.str)/\sep.length<=16/\(ys.map (·.length)).sum+ys.length<=1048576/\Q (.str (bQ sep ys.reverse)) H2
theorem Zw{ta:TA}(hm1:X.mg "reversed" = none)(ho:PE X o to)(ha:PA X [l] ta)(hc:X.calm=true)(hg1:Gl X "reversed" := by rfl)
  (hbase:rZ o "join" X.env (eval o X.env)=eval o X.env:=by rfl)
  (hfew:((dz cpos (bh [.Call (.Name "reversed" p') [l] [] pos'] X.env)).all (fun x=>!x.1) && (z9 cpos (zY [] X.env)).all (fun x=>x.1.isSome)
   && decide ([Expr.Call (.Name "reversed" p') [l] [] pos'].length+([]:List lU).length+(if ([]:List lU).isEmpty then 0 else 1)<30))=true:=by rfl)
  (hline:(apos.endLine == cpos.line)=true:=by rfl) (he:bh [.Call (.Name "reversed" p') [l] [] pos'] X.env=[(false,eval (.Call (.Name "reversed" p') [l] [] pos') X.env)]:=by rfl) (hs:bh [l] X.env=[(false,eval l X.env)]:=by rfl):
  PE X (.Call (.Attribute o "join" apos) [.Call (.Name "reversed" p') [l] [] pos'] [] cpos) (ag1 X.K to ta):=by
 walk_at "s"
 refine adQ hbase hfew hline rfl (thn (ho pins s σ H _ I h) fun v s1 zq=>?_);obtain⟨x,H1,I1,rx,q1⟩:=zq;obtain⟨sep,rfl,q1⟩:=q1
 k_dat (t,t,v,sep,rx) "A"
 refine⟨"str","str.join",uq,Dh,Ak,ud _ _ _,(fun _ e=>nomatch e),?_⟩;rw[he];refine YF rfl (afj (Ig (Call_ (iU I1 hg1 hm1 aeR (vY (thn (ha pos' pins s1 σ H1 _ I1 q1) fun us s2 zq=>?_) hs rfl)))));obtain⟨vs,H2,I2,r2,q2⟩:=zq;obtain⟨a,ys,e,hq,h16,hw,q⟩:=q2;subst e;obtain⟨u,rfl,ru⟩:=vals1 r2;cases ru;obtain⟨its,rv,pl,hz⟩:=I2.list hq;have hlen:=rv.length;refine adV pl.isList (Ih ?_);show wpAny _ _ (call (.builtin "str.join") [.str sep t,.ref s2.heap.objs.size]) _ _ _;have hla:a≠s2.heap.objs.size:=by
  obtain⟨o,g,_⟩:=pl.isList;exact bZ (bA g)
 refine ag0 (items:=its.toArray) (zs:=ys.reverse) (I2.ok.hd hc) #[_,dZ _ rfl,rfl,rfl] (pl.isList.at fun o e=>cX _ e) hla (by rw[cH];lia) (fun acc hacc=>?_) h16 (by rwa[wG,adx,Gy]) fun h' t' k hk=>?_
 ·refine QX ?_;rw[wG];refine aaL (by rw[yq,hacc.1,cH,Gy];lia) fun j x u hx hu=>?_;have hj:j<(ys.map V.str).length:=by
   have:=(fO.mp hx).1
   rwa [Gy]at this
  rw[WL hj]at hx;have hb:Behind its.toArray j u:=hacc.2 j u (by rwa[<-Qh]);unfold Behind at hb;rw[cH,<-hlen]at hb;obtain⟨v,hv,rvv⟩:=rv.get hx;have:u=v:=bK (hb.symm.trans (by simpa using hv));rwa[this]
 ·show#[.str _,H2,I2.kept (t':=k) fun b o e=>hk b o (bZ (bA e)) (cX _ e),#[t',rfl],q]
end
section
variable{X:Cx}
def ag2(K:aF):V->List V->Hp->VK->Prop:=fun x vs H Q=>∃l b xs zs,x=.ref l/\vs=[.ref b]/\H l=some (.lst xs)/\SqT K H b zs/\xs.length+zs.length<=sizeLine/\Q .non (upd H l (.lst (xs++zs)))
theorem Zx:MtM X "list.extend" (ag2 X.K):=by
 walk_at "D"
 obtain⟨l,b,xs,zs,rfl,rfl,hH,hB,hz,q⟩:=h;cases rx;obtain⟨u,rfl,ru⟩:=rv.one;cases ru;obtain⟨z,its,n,r,hl,e⟩:=I.tK hH;obtain⟨its2,r2,⟨o2,g2,c2,n2,d2⟩,z2⟩:=I.tuple hB;have hl2:=r2.length;have h1:its.toArray.size+its2.toArray.size<=sizeLine:=by rw[cH,cH];lia
 refine Xv F.slot_list_extend #[_,e,rfl] F.entry_list_extend ?_ (F.args_list_extend_2 _ _);show wpAny _ _ (Dj (.ref l) (.ref b) .none) _ _ s;unfold Dj Ys;refine au (wQ (T := "tuple") #[o2,g2,c2] ?_);rw[if_pos (by rw[show(Value.type "tuple" == Value.type "tuple")=true by decide,Yi])];refine au (au (pR g2 d2 (aK ?_)));refine au (au (pR e rfl (aK ?_)));rw[if_neg (by rw[Ud h1,Ai];exact cM)];refine au (listUpdate_at e rfl ?_ (by rw[cH];lia) (by rw[Yv];lia));refine aK #[_,rfl,?_];show#[.non,_,I.lset (its':=its++its2) hH e (by simp) (r.append r2) ?_,rfl,q];rw[cj];lia
end
end L2
namespace Dec
open PySem PySem.NumText
theorem alJ(n:Nat):digitsVal ((dg n).map lZ)=n:=by
 induction n using aez with
 |_ n ih =>
  have one:∀m,m<10->(xg m).toNat-48=m:=by decide
  rcases oY n 10 with l|l
  ·rw[yK l];have:=one n l;show 0*10+((xg n).toNat-48)=n;lia
  ·rw[M9 l,yK (n:=n % 10) (by lia),bB];show digitsVal (_++[(xg (n % 10)).toNat])=n;rw[digitsVal_snoc,ih (n / 10) (by lia),one (n % 10) (by lia)];lia
theorem oH(cs:List Char):(tx cs).cps.toList=cs.map lZ:=by unfold tx;simp
theorem QZ(n:Nat):AllDigits ((dg n).map lZ):=fun c m=>by
 obtain⟨d,hd,rfl⟩:=fL.mp m;exact U3 hd
theorem alK{n:Nat}(h:(dg n).length<=640):intText? (tx (dg n))=some (n:Int):=by
 rw[intText_digits (by rw[oH];exact QZ n) (by rw[oH];simpa using aaS n) (by rw[rF];lia),oH,alJ]
theorem aiI{c:Nat}(h:48<=c/\c<=57):qO (aD "0123456789") #[[c].toArray]=true:=by
 have all:∀k,k<10->qO (aD "0123456789") #[[48+k].toArray]=true:=by decide +kernel
 have:=all (c-48) (by lia)
 rwa [show 48+(c-48)=c by lia]at this
theorem aiJ{n:Nat}(h:0<n):∃c r,(dg n).map lZ=c::r/\49<=c:=by
 induction n using aez with
 |_ n ih =>
  have one:∀m,m<10->0<m->49<=(xg m).toNat:=by decide
  rcases oY n 10 with l|l
  ·show#[_,[],by rw[yK l];rfl,one n l h]
  ·obtain⟨c,r,e,hc⟩:=ih (n / 10) (by lia) (by lia);show#[c,r++(dg (n % 10)).map lZ,by rw[M9 l,bB,e];rfl,hc]
end Dec
namespace L2
open PySem PySem.Spec PySem.Builtin PySem.Builtin.Str PyProof.Rows
section
variable{X:Cx}
theorem Jr:∀l:List (Str × Tok),Vals ((l.map (·.1)).map V.str) (Pg l)
 |[]=>.nil
 |p::l=>.cons #[p.2,rfl] (Jr l)
theorem xP{pins:List (Addr × Obj)}{s:Shared}{σ:St}{H:Hp}{Q:VK}{k:Nat}(I:Inv X pins σ H s)(l:List (Str × Tok)){ys:List Str}(e:l.map (·.1)=ys)(hl:ys.length<=sizeLine)
  (q:∀D,H D=none->Q (.ref D) (upd H D (.lst (ys.map V.str)))):EP X pins σ Q (.ref s.heap.objs.size) { s with heap:=s.heap.push { cls:=.type "list",data:=.seq (Pg l).toArray },toks:=k }:=by
 show#[.ref s.heap.objs.size,_,I.laid (t':=k) (fun b u h=>cX _ h) (aO _) (show cA X.prog X.w _ _ s.heap.objs.size (.lst (ys.map V.str))from#[by rwa[aB],Pg l,0,by rw[<-e];exact Jr l,aer rfl rfl]),rfl,q _ (I.hok.fresh (aO _))]
def alL:V->List V->Hp->VK->Prop:=fun x vs H Q=>∃z y:Str,x=.str z/\vs=[.str y]/\(y.length == 0)=false/\z.length<=1048576/\∀D,H D=none->Q (.ref D) (upd H D (.lst ((oZ z y).map V.str)))
theorem Js:MtR X "str.split" alL:=by
 walk_at "D"
 obtain⟨z,y,rfl,rfl,hy,hz,q⟩:=h
 k_dat (t,t,v,z,rx) "A"
 obtain⟨u,rfl,ru⟩:=vals1 rv
 k_dat (k,ru) "E"
 have big:z.length+2<=sizeLine:=bW (show _<=1048578 by lia) tb_g%;have hn:(partsBetween z (occurrences z y 0 z.length (z.length+1)) y.length).length<=sizeLine:=by
  have:=StrLaws.occ_length_le z y 0 z.length (z.length+1);rw[adS];lia
 unfold oZ at q;cases c1:(decide (z.length<y.length) || decide (afk z<afk y))with
 |true =>
  rw[if_pos c1]at q;refine wR F.slot_str_split (ud _ _ _) F.entry_str_split (F.args_str_split_2 _ _) (meets_str_split_cannot_occur z y t k c1) ?_;exact xP I [(z,t)] rfl tb_g% q
 |false =>
  rw[if_neg (ne_true_of_eq_false c1)]at q;cases c2:(occurrences z y 0 z.length (z.length+1)).isEmpty with
  |true =>
   rw[if_pos c2]at q;refine wR F.slot_str_split (ud _ _ _) F.entry_str_split (F.args_str_split_2 _ _) (meets_str_split_not_found z y t k c1 hy c2) ?_;exact xP I [(z,t)] rfl tb_g% q
  |false =>
   rw[if_neg (ne_true_of_eq_false c2)]at q;refine wR F.slot_str_split (ud _ _ _) F.entry_str_split (F.args_str_split_2 _ _) (meets_str_split_sep z y t k c1 hy c2 (by lia) hn) ?_;have e:=xP (k:=s.toks+(partsBetween z (occurrences z y 0 z.length (z.length+1)) y.length).length) I (numbered s.toks (partsBetween z (occurrences z y 0 z.length (z.length+1)) y.length)) (numbered_texts _ _) hn q;rwa[<-strsFrom_eq]at e
def aiK:V->List V->Hp->VK->Prop:=fun x vs H Q=>∃z y:Str,x=.str z/\vs=[.str y]/\Q (.bl (Aj z y)) H
theorem K9:MtR X "str.startswith" aiK:=by
 walk_at "D"
 obtain⟨z,y,rfl,rfl,q⟩:=h
 k_dat (t,t,v,z,rx) "A"
 obtain⟨u,rfl,ru⟩:=vals1 rv
 k_dat (k,ru) "E"
 exact akX #[.bl _,H,I,rfl,q]
theorem ag3:OpR X (gG .In) (fun x y H Q=>∃a b:Str,x=.str a/\y=.str b/\Q (.bl (qO b a)) H):=by
 walk_at "u"
 obtain⟨a,b,rfl,rfl,q⟩:=h
 k_dat (t,t,v,a,rx) "A"
 k_dat (k,t,u,b,ry) "A"
 exact PySem.P.in_str #[.bl _,H,I,rfl,q]
theorem Zy:fU X (.type "int") (fun xs H Q=>∃(z:Str)(n:Int),xs=[.str z]/\z.length<=640/\PySem.intText? z=some n/\Q (.int n) H):=by
 walk_at "w"
 obtain⟨z,n,rfl,hz,e,q⟩:=h;obtain⟨u,rfl,t,rfl⟩:=vals1 r;exact akU e hz #[.int n,H,I.tok _,#[_,rfl],q]
end
def ji(c:Nat):List (List Nat)->List Nat
 |[]=>[]
 |[a]=>a
 |a::b::r=>a++c::ji c (b::r)
theorem ag4{c:Nat}:∀{a b X Y:List Nat},c∉a->c∉b->a++c::X=b++c::Y->a=b/\X=Y
 |[],[],_,_,_,_,e=>#[rfl,(Qn e).2]
 |[],y::b,_,_,_,h,e=>absurd (aZ.mpr (.inl (Qn e).1)) h
 |x::a,[],_,_,h,_,e=>absurd (aZ.mpr (.inl (Qn e).1.symm)) h
 |x::a,y::b,_,_,h,g,e=>by
  obtain⟨e1,e2⟩:=Qn e;obtain⟨e3,e4⟩:=ag4 (fun m=>h (cR _ m)) (fun m=>g (cR _ m)) e2;show#[by rw[e1,e3],e4]
theorem ag5{c:Nat}:∀{A B:List (List Nat)},A≠[]->B≠[]->(∀a∈A,c∉a)->(∀b∈B,c∉b)->ji c A=ji c B->A=B
 |[],_,h,_,_,_,_=>absurd rfl h
 |_::_,[],_,h,_,_,_=>absurd rfl h
 |[a],[b],_,_,_,_,e=>by rw[show a=b from e]
 |[a],b::d::r,_,_,h,_,e=>absurd (by rw[show a=b++c::ji c (d::r)from e];exact j5 _ bV) (h a bV)
 |a::d::r,[b],_,_,_,h,e=>absurd (by rw[<-show a++c::ji c (d::r)=b from e];exact j5 _ bV) (h b bV)
 |a::d::r,b::f::s,_,_,h,g,e=>by
  obtain⟨e1,e2⟩:=ag4 (h a bV) (g b bV) e;rw[e1,ag5 (iw _ _) (iw _ _) (fun x m=>h x (cR _ m)) (fun x m=>g x (cR _ m)) e2]
theorem Q0(c:Nat):∀ts:List Str,(N7 #[[c].toArray] ts).cps.toList=ji c (ts.map fun t=>t.cps.toList)
 |[]=>rfl
 |[a]=>rfl
 |a::b::r=>by
  show(a.cps++[c].toArray++(N7 #[[c].toArray] (b::r)).cps).toList=_;rw[Al,Al,Q0 c (b::r),fH];rfl
theorem ag6(x y:Str):oZ x y≠[]:=by
 unfold oZ;split
 ·exact iw _ _
 ·split
  ·exact iw _ _
  ·rename_i h;intro e;have:=adS x (occurrences x y 0 x.length (x.length+1)) y.length;rw[e]at this;cases this
theorem Jt{c:Nat}{ts:List Str}(ne:ts≠[])(free:∀t∈ts,c∉t.cps.toList):oZ (bQ #[[c].toArray] ts) #[[c].toArray]=ts:=by
 have e:=StrLaws.join_split (bQ #[[c].toArray] ts) #[[c].toArray];have f:=StrLaws.split_free (bQ #[[c].toArray] ts) c;have n:=ag6 (bQ #[[c].toArray] ts) #[[c].toArray];generalize oZ (bQ #[[c].toArray] ts) #[[c].toArray]=us at e f n;have e2:N7 #[[c].toArray] us=N7 #[[c].toArray] ts:=e.trans (StrLaws.glued_eq_join _ _);have e3:=congrArg (fun z:Str=>z.cps.toList) e2;rw[Q0,Q0]at e3;have inj:∀{us ts:List Str},us.map (fun t=>t.cps.toList)=ts.map (fun t=>t.cps.toList)->us=ts:=fun {us ts} h=>by
  have:∀us:List Str,(us.map fun t=>t.cps.toList).map (fun l=>(#[l.toArray]:Str))=us:=fun us=>by
   rw[fM];exact(Dc fun t _=>by cases t;simp).trans (List.map_id us)
  rw[<-this us,h,this]
 refine inj (ag5 (fun z=>n (Nz.mp z)) (fun z=>ne (Nz.mp z)) (fun a m=>?_) (fun a m=>?_) e3)
 ·obtain⟨t,mt,rfl⟩:=fL.mp m;exact f t mt
 ·obtain⟨t,mt,rfl⟩:=fL.mp m;exact free t mt
end L2
namespace L2
open PySem PySem.Spec PyProof.Rows
def Itc(z:Str):It:=#[fun i _=>i<z.cps.size,fun i H x H'=>H'=H/\∃c,z.cps[i]? = some c/\x=.str #[[c].toArray],fun i _=>i=z.cps.size]
theorem U5{P:aG}{w:World}{K:aF}{tg:Expr}(it:Addr)(z:Str)(t:Tok){ty:String}(hty:["enumerate","zip","dict_itemiterator","dict_reverseitemiterator","odict_iterator","itertools.zip_longest","itertools.pairwise"].contains ty=false)
  (W:∀A:aN,A.handled=none->Walks P w A it [it] [it] z.cps.size (SignAt z) fun i h=>h.IsStrIter it ty z t i)
  (S:∀(A:aN)(i:Nat)(s:Shared)(Q:Value->Shared->Prop)(E:Value->Shared->Prop),s.heap.IsStrIter it ty z t i->Q (.ref it) s->wpAny (model P w) A (Ae (.ref it)) Q E s):Turn P w K tg (Itc z) [it] it (fun i h=>h.IsStrIter it ty z t i) where
 mem:=by simp
 obj:=fun i h st b hb=>by
  have e:b=it:=by simpa using hb
  subst e;obtain⟨o,e,c,d⟩:=st;show#[o,e,fun v y=>by rw[d]at y;cases y]
 keep:=fun i h h' st k=>(W { } rfl).frame i h h' st k
 item:=by
  walk_at "m"
  subst hP hw hK
  k_dat it "r"
  refine(W X.A (I.ok.hd hc)).item i s _ _ hg st fun v h' tk hv st' kk=>?_;obtain⟨c,u,hx,rfl⟩:=hv;have I1:Inv X pins σ H { s with heap:=h',toks:=tk }:=I.turned (fun b o hb e=>kk b o (by simpa using hb) e) f0 f1 f3 f4 f5;have st2:=st';obtain⟨o,ho,hcl,hd⟩:=st2;show#[_,rfl,TY (s:={ s with heap:=h',toks:=tk }) ho hcl hd hty #[.str #[[c].toArray],H,I1,#[u,rfl],#[rfl,c,hx,rfl],st',fun b hb=>(hf b hb).1]]
 done:=by
  walk_at "m"
  subst hP hw hK
  k_dat it "r"
  obtain rfl:i=z.cps.size:=hg;exact(W X.A (I.ok.hd hc)).done s _ _ st fun h' tk kk=>#[rfl,I.turned (t':=tk) (fun b o hb e=>kk b o (by simpa using hb) e) f0 f1 f3 f4 f5]
 self:=S
section
variable{X:Cx}{tg:Expr}
def iStr(tl:TE):TI:=fun σ H R=>tl σ H fun x H1=>∃z,x=.str z/\R (Itc z) H1
theorem alM{l:Expr}{tl:TE}(hl:PE X l tl):PI X tg l (iStr tl):=by
 intro pins s σ H R I h;refine thn (hl pins s σ H _ I h) fun v s1 zq=>?_
 walk_at "B"
 obtain⟨z,rfl,q⟩:=q1
 k_dat (t,t,v,z,r1) "A"
 have fp:∀b∈[s1.heap.objs.size],xG X pins H1 b:=fun b hb=>by
  have e:b=s1.heap.objs.size:=by simpa using hb
  subst e;exact I1.ab1 (aO _) (I1.hok.fresh (aO _))
 cases ha:z.cps.all (· < 128)with
 |true=>exact wpAny_pyIter_ascii ha #[_,_,_,_,H1,rfl,I1.kept (t':=s1.toks) fun b o e=>cX _ e,U5 _ z t tb_g% (fun A hA=>Walks.strAscii hA _ z t) (fun _ _ _ _ _ st hQ=>wpAny_pyIter_striter_ascii st hQ),#[_,dZ _ rfl,rfl,rfl],fp,q]
 |false=>exact wpAny_pyIter_wide ha #[_,_,_,_,H1,rfl,I1.kept (t':=s1.toks) fun b o e=>cX _ e,U5 _ z t tb_g% (fun A hA=>Walks.strWide hA _ z t) (fun _ _ _ _ _ st hQ=>wpAny_pyIter_striter_wide st hQ),#[_,dZ _ rfl,rfl,rfl],fp,q]
end
theorem ag7{z:Str}{caps:List Nat}{te:TE}{σ:St}{H:Hp}{D:Addr}{Q:VK}(Pv:Nat->List V->Hp->Prop)(h0:Pv 0 [] (upd H D (.lst [])))
  (hl:∀i ys H,i<=z.cps.size->Pv i ys H->H D=some (.lst ys)/\ys.length<sizeLine)
  (hs:∀i ys H c,z.cps[i]? = some c->Pv i ys H->te (Jl σ (some (.str #[[c].toArray])) caps) H fun y H3=>H3 D=some (.lst ys)/\Pv (i+1) (ys++[y]) (upd H3 D (.lst (ys++[y]))))
  (hd:∀ys H,Pv z.cps.size ys H->Q (.ref D) H) (mE:∀σ H (Q Q':VK),(∀y H,Q y H->Q' y H)->te σ H Q->te σ H Q'):lC (Itc z) caps lE te σ D Q H:=by
 show#[fun i m ys H=>m=z.cps.size-i/\i<=z.cps.size/\Pv i ys H,#[_,rfl,cU _,h0],?_];rintro i m ys H ⟨rfl,hi,p⟩;obtain⟨q,l⟩:=hl i ys H hi p;show#[q,?_];rcases oY i z.cps.size with lt|ge
 ·refine .inr #[lt,l,fun x H' y=>?_];obtain⟨rfl,c,hc,rfl⟩:=y;unfold lE;dsimp only;rw[if_pos rfl];exact mE _ _ _ _ (fun y H3 ⟨a,b⟩=>#[a,z.cps.size-(i+1),by lia,rfl,lt,b]) (hs i ys _ c hc p)
 ·obtain rfl:i=z.cps.size:=by lia
  exact .inl #[rfl,hd ys H p]
section
variable{X:Cx}
def rAllL(K:aF):List V->Hp->VK->Prop:=fun xs H Q=>∃(a:Addr)(bs:List Bool),xs=[V.ref a]/\SqL K H a (bs.map V.bl)/\Q (.bl (bs.all id)) H
theorem U6:∀{bs:List Bool}{its:List Value},Vals (bs.map V.bl) its->∀(i:Nat)(v:Value),its.toArray[i]? = some v->∃b,bs[i]? = some b/\v=Value.bool b
 |[],_,h,i,v,e=>by cases h;simp at e
 |b::bs,_,h,i,v,e=>by
  cases h with
  |cons r1 r2 =>
   cases i with
   |zero=>obtain rfl:=(show _=Value.bool b from r1);show#[b,rfl,by simpa using e.symm]
   |succ i=>exact U6 r2 i v (by simpa using e)
theorem range_all{bs:List Bool}:(dY bs.length).all (fun i=>bs.getD i true)=bs.all id:=by
 rw[HJ,qI,qI];constructor
 ·intro h b m;obtain⟨i,hi⟩:=Gx m;have:=h i (pP.mpr (fO.mp hi).1);rwa[Gi,hi]at this
 ·intro h i m;have li:=pP.mp m;rw[Gi,dH li];exact h _ (W4 li)
theorem vO(hc:X.calm=true):fU X (.builtin "all") (rAllL X.K):=by
 walk_at "w"
 obtain⟨a,bs,rfl,ha,q⟩:=h;obtain⟨u,rfl,ru⟩:=vals1 r;cases ru;obtain⟨its,rv,p,hz⟩:=I.list ha;have hl:its.length=bs.length:=by rw[<-rv.length,aB]
 have ne:a≠s.heap.objs.size:=bZ (bA (p.isList.choose_spec.1));refine call_all_walk (Hf p.isList #[s.heap.objs.size,_,_,_,_,_,fun i=>bs.getD i true,rfl,YQ (A:=X.A.in1) (I.ok.hd hc) _ a ne its.toArray,#[#[_,dZ _ rfl,rfl,rfl],?_],?_,fun h' tk hk=>?_])
 ·exact p.isList.push _
 ·intro i v s' Q' E' hv hq;obtain⟨b,hb,rfl⟩:=U6 rv i v hv;dsimp only at hq;rw[Gi,hb]at hq;exact wL hq
 ·show#[.bl (bs.all id),H,I.kept (t':=tk) fun b o e=>hk b o (fun m=>?_) (cX _ e),?_,q]
  ·have l1:=bA e;rw[eY.mp m]at l1;exact nH _ l1
  ·rw[cH,hl,range_all];rfl
end
end L2
namespace L2
open PySem PySem.Spec PySem.Builtin PySem.Builtin.Str PyProof.Rows
section
variable{X:Cx}
def rSlS:V->Option Int->Option Int->Hp->VK->Prop:=fun x lo hi H Q=>∃z:Str,x=.str z/\z.length<=1048576/\Q (.str (HS z lo hi)) H
theorem alN:SlR X rSlS:=by
 intro pins s σ H x v vl vu lo hi sl Q I rx hs pl pu h;obtain⟨z,rfl,hz,q⟩:=h
 k_dat (t,t,v,z,rx) "A"
 have big:z.length<=sizeLine:=bW hz tb_g%;have fin:∀t' k,EP X pins σ Q (.str (HS z lo hi) t') { s with toks:=k }:=fun t' k=>#[.str _,H,I.tok _,#[t',rfl],q];show#["str",_,F.slot_str_getitem.lookup,ud _ _ _,?_];cases pl <;> cases pu
 ·exact Oj (l:=none) (u:=none) (st:=none) hs rfl (Ow #[bW (PN z _ _) big,fin])
 ·exact Oj (l:=none) (u:=some (_,_)) (st:=none) hs rfl (Ow #[bW (PN z _ _) big,fin])
 ·exact Oj (l:=some (_,_)) (u:=none) (st:=none) hs rfl (Ow #[bW (PN z _ _) big,fin])
 ·exact Oj (l:=some (_,_)) (u:=some (_,_)) (st:=none) hs rfl (Ow #[bW (PN z _ _) big,fin])
end
end L2
namespace PySem
open Sem (wp)
abbrev gB(h:Heap)(z TI TO:Addr)(f0:Value)(b:Bool):Prop:=
 h.get? z=some { cls:=.type "zip",dict:=none,data:=.fields [f0,.bool b,.bool false,.ref TI,.ref TO].toArray,slots:=#[] }
abbrev Tp(h:Heap)(T:Addr)(vs:List Value):Prop:=h.get? T=some { cls:=.type "tuple",data:=.seq vs.toArray }
def its(b:Nat):Nat->Nat->List Value
 |0,_=>[]
 |n+1,j=>.ref (b+j)::its b n (j+1)
abbrev Ls:=List (Addr × Array Value)
structure ZN(b:Nat)(ls:Ls)(i j:Nat)(h:Heap):Prop where
 it:∀(k:Nat)(l:Addr)(xs:Array Value),ls[k]? = some (l,xs)->h.IsListIter (b+k) l (if k<j then i+1 else i)/\h.IsList l xs/\l<b
 ti:Tp h (b+ls.length) (its b ls.length 0)
theorem Bv(b p q:Nat)(e:p≠q):b+p≠b+q:=by lia
theorem zo1{b c j n:Nat}(h:c<b\/b+n<=c)(l:j<n):c≠b+j:=by lia
theorem zo2{b c n:Nat}(h:c<b\/b+n+2<c)(k:Nat)(l:k<=n+2):c≠b+k:=by lia
theorem zo3{b l n:Nat}(h:l<b):l<=b+n+2:=by lia
theorem ZN.but{b:Nat}{ls:Ls}{i j:Nat}{c:Addr}{h h':Heap}(K:ZN b ls i j h)(s:aeu c h h')(hc:b+ls.length<c):ZN b ls i j h':=by
 have n:∀a:Nat,a<=b+ls.length->a≠c:=fun a l=>bZ (um l hc);show#[fun k l xs e=>?_,s _ _ (n _ (aO _)) K.ti];obtain⟨a,m,lt⟩:=K.it k l xs e;have lk:=(fO.mp e).1;show#[a.extBut s (n _ (Yc (fu lk) b)),m.extBut s (n _ (bW (fu lt) (jo _ _))),lt]
section
variable{prog:aG}{w:World}{A:aN}{E:Value->Shared->Prop}{s:Shared}{b:Nat}{ls:Ls}{i j:Nat}
theorem yN{a:Addr}{Q:Option Obj->Shared->Prop}(h:Q (s.heap.get? a) s):wpAny (model prog w) A (loadIfAlive a) Q E s:=fun _ _ _=>h
theorem ZN.next{l:Addr}{xs:Array Value}{x:Value}{Q:Value->Shared->Prop}(K:ZN b ls i j s.heap)(hl:ls[j]? = some (l,xs))(hx:xs[i]? = some x)(q:∀h',ZN b ls i (j+1) h'->oW (b+j) s.heap h'->Q x { s with heap:=h' }):
  wpAny (model prog w) A (HY (.ref (b+j))) Q E s:=by
 obtain⟨a,m,lt⟩:=K.it j l xs hl;rw[if_neg (nH j)]at a;refine wpAny_nextOf_list_item a m hx fun h' a' sb=>q h' #[fun k l' xs' e=>?_,sb.extBut _ _ (Bv b _ _ (oX (fO.mp hl).1)) K.ti] sb;obtain⟨a2,m2,lt2⟩:=K.it k l' xs' e;show#[?_,m2.extBut sb.extBut (bZ (cG lt2 (jo _ _))),lt2];by_cases z:k=j
 ·subst z;rw[hl]at e;cases e;rwa[if_pos (wZ _)]
 ·have:(if k<j+1 then i+1 else i)=if k<j then i+1 else i:=by
   by_cases y:k<j
   ·rw[if_pos y,if_pos (PJ y)]
   ·rw[if_neg y,if_neg (by lia)]
  rw[this];exact a2.extBut sb.extBut (Bv b _ _ z)
def Row(ls:Ls)(i:Nat)(vs:List Value):Prop:=vs.length=ls.length/\∀(k:Nat)(l:Addr)(xs:Array Value),ls[k]? = some (l,xs)->xs[i]? = vs[k]?
theorem Row.at{vs:List Value}(r:Row ls i vs){m:Nat}(e:j+(m+1)=ls.length):∃l xs x,ls[j]? = some (l,xs)/\xs[i]? = some x/\vs[j]? = some x:=by
 have l1:j<ls.length:=by lia
 have l2:j<vs.length:=by rw[r.1];lia
 show#[ls[j].1,ls[j].2,vs[j],dH l1,(r.2 j _ _ (dH l1)).trans (dH l2),dH l2]
def ZKp(b n:Nat)(h h':Heap):Prop:=h'.objs.size=h.objs.size/\∀c o,c<b\/b+n<=c->h.get? c=some o->h'.get? c=some o
theorem aiL{n:Nat}{h h' h2:Heap}(l:j<n)(s:oW (b+j) h h')(k:ZKp b n h' h2):ZKp b n h h2:=#[k.1.trans s.1,fun c o e g=>k.2 c o e (s.extBut _ _ (zo1 e l) g)]
theorem Ng{vs:List Value}{f:Value->Option Fin × Array Value->Sem (ForInStep (Option Fin × Array Value))}(r:Row ls i vs)
  (hf:∀(it:Value)(items:Array Value)(s:Shared) (Q:ForInStep (Option Fin × Array Value)->Shared->Prop),wpAny (model prog w) A (HY it) (fun x s'=>Q (.yield (none,items.push x)) s') E s->wpAny (model prog w) A (f it (none,items)) Q E s):
  ∀(m j:Nat)(items:Array Value)(s:Shared)(Q:Option Fin × Array Value->Shared->Prop),j+m=ls.length->ZN b ls i j s.heap->(∀h',ZN b ls i ls.length h'->ZKp b ls.length s.heap h'->Q (none,(items.toList++vs.drop j).toArray) { s with heap:=h' }) ->
   wpAny (model prog w) A (forIn (its b m j) (none,items) f) Q E s
 |0,j,items,s,Q,e,K,q=>by
  have q:=q s.heap (by rw[<-e];exact K) #[rfl,fun _ _ _ g=>g];rw[List.drop_eq_nil_of_le (by rw[r.1];lia),pO,ae0]at q;exact aK q
 |m+1,j,items,s,Q,e,K,q=>by
  obtain ⟨l,xs,x,hl,hx,hv⟩:=r.at e;show wpAny _ _ (forIn (.ref (b+j)::its b m (j+1)) (none,items) f) Q E s;rw [GP];refine au (hf _ _ _ _ (K.next hl hx fun h' K' sb=>?_));refine Ng r hf m (j+1) _ _ _ (by lia) K' fun h2 K2 k2=>?_;have:=q h2 K2 (aiL (by lia) sb k2);rw [show vs.drop j=x::vs.drop (j+1) from by
   obtain ⟨l2,e2⟩:=fO.mp hv;rw [Gp l2,e2]] at this
  rwa[Array.toList_push,fH]
theorem Nh{vs:List Value}{f:Value × Nat->Option Fin × Unit->Sem (ForInStep (Option Fin × Unit))}(r:Row ls i vs)
  (hf:∀(it:Value)(k:Nat)(s:Shared) (Q:ForInStep (Option Fin × Unit)->Shared->Prop),(∀E',wpAny (model prog w) A (HY it) (fun x s'=>∃us,Tp s'.heap (b+ls.length+1) us/\us.length=ls.length/\∀h',Tp h' (b+ls.length+1) (us.set k x)->oW (b+ls.length+1) s'.heap h'->Q (.yield (none,())) { s' with heap:=h' }) E' s)->wpAny (model prog w) A (f (it,k) (none,())) Q E s):
  ∀(m j:Nat)(us:List Value)(s:Shared)(Q:Option Fin × Unit->Shared->Prop),j+m=ls.length->ZN b ls i j s.heap->Tp s.heap (b+ls.length+1) (vs.take j++us)->us.length=m->(∀h',ZN b ls i ls.length h'->Tp h' (b+ls.length+1) vs->h'.objs.size=s.heap.objs.size->(∀c o,c<b\/b+ls.length<=c->c≠b+ls.length+1->s.heap.get? c=some o->h'.get? c=some o)->Q (none,()) { s with heap:=h' }) ->
   wpAny (model prog w) A (forIn ((its b m j).zipIdx j) (none,()) f) Q E s
 |0,j,us,s,Q,e,K,t,lu,q=>by
  obtain rfl:=vV.mp lu;rw[pO,Gj (by rw[r.1];lia)]at t;exact aK (q s.heap (by rw[<-e];exact K) t rfl fun _ _ _ _ g=>g)
 |m+1,j,us,s,Q,e,K,t,lu,q=>by
  obtain⟨u,us,rfl⟩:=List.exists_cons_of_length_eq_add_one lu;obtain⟨l,xs,x,hl,hx,hv⟩:=r.at e;have lv:(vs.take j).length=j:=by rw[fJ,r.1];lia
  show wpAny _ _ (forIn ((.ref (b+j),j)::(its b m (j+1)).zipIdx (j+1)) (none,()) f) Q E s;rw[GP];refine au (hf _ _ _ _ fun E'=>K.next hl hx fun h' K' sb=>#[_,sb.extBut _ _ (Bv b (ls.length+1) j (by lia)) t,by rwa[cj,lv,lu],fun h2 t2 sb2=>?_]);rw[adn _ _ (Ag lv),lv,HB,List.set_cons_zero]at t2;refine Nh r hf m (j+1) us _ _ (by lia) (K'.but sb2.extBut (wZ _)) (by rwa[iu,hv,fH]) (by simpa using lu) fun h3 K3 t3 z3 k3=>?_;exact q h3 K3 t3 (z3.trans (sb2.1.trans sb.1)) fun c o h1 h2 g=>k3 c o h1 h2 (sb2.extBut _ _ h2 (sb.extBut _ _ (zo1 h1 (by lia)) g))
structure ZS(b:Nat)(ls:Ls)(i:Nat)(h:Heap):Prop extends ZN b ls i 0 h where
 z:gB h (b+ls.length+2) (b+ls.length) (b+ls.length+1) .none false\/∃(T:Addr)(o:Obj)(f:Bool),b+ls.length+2<T/\gB h (b+ls.length+2) (b+ls.length) (b+ls.length+1) (iH T) f/\h.get? T=some o
 to:∃us,Tp h (b+ls.length+1) us/\us.length=ls.length
theorem ZN.over {h:Heap} (K:ZN b ls i ls.length h):ZN b ls (i+1) 0 h:=#[fun k l xs e=>by
 have:=K.it k l xs e;rw [if_pos (fO.mp e).1] at this;exact this,K.ti]
theorem ZS.keep{h h':Heap}(k:ZS b ls i h)(nd:∀T o,b+ls.length+2<T->h.get? T=some o->∃o,h'.get? T=some o)(q:∀c o,c<=b+ls.length+2->h.get? c=some o->h'.get? c=some o):ZS b ls i h':=by
 show#[#[fun n l xs e=>?_,q _ _ (by lia) k.ti],?_,?_]
 ·obtain⟨a,m,lt⟩:=k.it n l xs e;have lk:=(fO.mp e).1;show#[a.at fun o g=>q _ o (Yc (fu (cG lk (jo _ 2))) b) g,m.at fun o g=>q _ o (zo3 lt) g,lt]
 ·rcases k.z with z|⟨T,o,f,l,z,t⟩
  ·exact .inl (q _ _ (aO _) z)
  ·obtain⟨o',t'⟩:=nd T o l t;exact .inr #[T,o',f,l,q _ _ (aO _) z,t']
 ·obtain⟨us,t,l⟩:=k.to;show#[us,q _ _ (by lia) t,l]
theorem U7{z TI TO T:Addr}{b:Bool}{o:Obj}{Q:Bool->Shared->Prop}(hz:gB s.heap z TI TO (iH T) b)(hT:s.heap.get? T=some o)
  (hQ:∀h',gB h' z TI TO (iH T) true->oW z s.heap h'->Q false { s with heap:=h' }):
  wpAny (model prog w) A (aak (.ref z)) Q E s:=by
 unfold aak;refine au (iz hz rfl (x:=iH T) rfl ?_);show wpAny _ _ (loadIfAlive T >>= _) _ _ _;refine au (yN ?_);rw[hT];show wpAny _ _ (field (.ref z) 1 >>= _) _ _ _;refine au (iz hz rfl (x:=.bool b) rfl ?_);cases b with
 |true => 
  refine au (aK (aK ?_));exact hQ s.heap hz (.refl _ _)
 |false => 
  refine au (zT hz (by simp) fun h₁ hz₁ hs₁=>aK ?_);exact hQ h₁ hz₁ hs₁
theorem zipN{z TI TO:Addr}{f0:Value}{b:Bool}{Q:Option Value->Shared->Prop}(hz:gB s.heap z TI TO f0 b)
  (h:∀ E',(∀ e h',(∃ o,h'.get? e=some o/\o.cls = .type "StopIteration")->Q none { s with heap:=h' }->E' (.ref e) { s with heap:=h' }) ->
   wpAny (model prog w) A.in1 (dN.«zip.__next__» #[[.ref z],[]]) (fun fin s'=>∃ v,fin = .done (.ret v)/\Q (some v) s') E' s):wpAny (model prog w) A (lV (.ref z)) Q E s:=by
 have hT:s.TypeIs (.ref z) "zip" := #[_,hz,rfl];unfold lV;refine au (Oz (wpAny_callSpecial?_slot (name:=aD "__next__") hT F.slot_zip_next (Xv F.slot_zip_next hT F.entry_zip_next (cO (h _ ?_) (fun fin s' q=>?_) fun _ _ q=>q) (F.args_zip_next_1 _))))
 ·intro e h' he q;obtain⟨o,ho,hc⟩:=he;exact au (ad2 (T := "StopIteration") (b:=true) #[o,ho,hc] isSubtype_stop (aK q))
 ·obtain⟨v,rfl,q⟩:=q;show#[v,rfl,aK q]
theorem Q5{n:Nat}(h:0<n):((its b n 0).toArray.isEmpty=true)=False:=by
 cases n with
 |zero=>exact absurd h (nH 0)
 |succ n=>simp[its]
theorem updTp{T:Addr}{us:List Value}{k:Nat}{x:Value}{Q:Unit->Shared->Prop}(hT:Tp s.heap T us)(l:us.length<=sizeLine)(h:∀h',Tp h' T (us.set k x)->oW T s.heap h'->Q () { s with heap:=h' }):wpAny (model prog w) A (Hs T (·.setIfInBounds k x)) Q E s:=by
 refine tZ (hz:=by simpa using l) (_hz':=by simp;lia) hT rfl (h _ ?_ (akZ ..));show Heap.get? _ _=_;rw[pU _ hT rfl];simp[fZ]
theorem aaT{vs:List Value}{Q:Option Value->Shared->Prop}(k:ZS b ls i s.heap)(r:Row ls i vs)(n0:0<ls.length)(hsz:vs.length<=sizeLine)
  (hQ:∀h',ZS b ls (i+1) h'->Tp h' s.heap.objs.size vs->h'.objs.size=s.heap.objs.size+1->(∀c o,c<b\/b+ls.length+2<c->s.heap.get? c=some o->h'.get? c=some o)->Q (some (.ref s.heap.objs.size)) { s with heap:=h' }):
  wpAny (model prog w) A (lV (.ref (b+ls.length+2))) Q E s:=by
 obtain⟨us,t,lu⟩:=k.to;rcases k.z with z|⟨T,o,f,lT,z,kT⟩
 ·refine zipN z fun E' _=>?_
  k_dat 2 "y"
  refine au (iz z rfl (x:=.bool false) rfl ?_)
  k_dat 3 "y"
  refine au (iz z rfl (x:=.ref _) rfl (au (pR k.ti rfl ?_)));dsimp only;rw[if_neg (by rw[Q5 n0];exact id)];refine au ?_;unfold aak;refine au (iz z rfl (x:=.none) rfl (aK ?_));simp only[if_true];refine au (Ho (au (iz z rfl (x:=.ref _) rfl ?_)));dsimp only;refine au (zT z (by simp) fun h₁ z₁ s₁=>?_);replace z₁:gB h₁ (b+ls.length+2) (b+ls.length) (b+ls.length+1) .ellipsis false:=z₁;have ne:b+ls.length+1≠b+ls.length+2:=Bv _ 1 2 tb_g%;refine au (Nh r (fun it k s Q h=>?_) ls.length 0 us _ _ (Hz _) (k.toZN.but s₁.extBut (Yb tb_g%)) (s₁.extBut _ _ ne t) lu fun h₂ K₂ t₂ e₂ k₂=>?_)
  ·refine au (aek ?_);show wpAny _ _ (HY it >>= _) _ _ _;refine au (cO (h _) (fun x s' hq=>aK ?_) fun _ _ e=>e);obtain⟨us,t,l,q⟩:=hq;refine au (pR t rfl ?_);exact au (updTp t (by rwa[l,<-r.1]) fun h' t' sb=>au (zZ (aK (q h' t' sb))))
  ·refine au (pR t₂ rfl (au (aea (hsz:=hsz) ?_)));have hs:h₂.objs.size=s.heap.objs.size:=e₂.trans s₁.1;have z₂:gB h₂ (b+ls.length+2) (b+ls.length) (b+ls.length+1) .ellipsis false:=k₂ _ _ (.inr (jo _ 2)) (aQ ne) z₁;have big:b+ls.length+2<h₂.objs.size:=bA z₂;show wpAny _ _ (aeX (.ref (b+ls.length+2)) (.ref h₂.objs.size) >>= _) _ _ _;unfold aeX;have z₃:gB (h₂.push { cls:=.type "tuple",data:=.seq vs.toArray }) (b+ls.length+2) (b+ls.length) (b+ls.length+1) .ellipsis false:=cX _ z₂;refine au (au (zT z₃ (by simp) fun h₄ z₄ s₄=>?_));replace z₄:gB h₄ (b+ls.length+2) (b+ls.length) (b+ls.length+1) (iH h₂.objs.size) false:=z₄;refine zT z₄ (by simp) fun h' z' s'=>?_;replace z':gB h' (b+ls.length+2) (b+ls.length) (b+ls.length+1) (iH h₂.objs.size) false:=z';have up:∀c o,c≠b+ls.length+2->h₂.get? c=some o->h'.get? c=some o:=fun c o c1 e=>s'.extBut _ _ c1 (s₄.extBut _ _ c1 (cX _ e));have tri:Tp h' h₂.objs.size vs:=s'.extBut _ _ (oX big) (s₄.extBut _ _ (oX big) (dZ _ rfl));have sz':h'.objs.size=h₂.objs.size+1:=by rw[s'.1,s₄.1,pW]
   rw[hs]at z' tri sz' big;refine aK #[_,rfl,?_];show Q (some (.ref h₂.objs.size)) _;rw[hs];refine hQ h' #[K₂.over.but up (Yb tb_g%),.inr #[_,_,false,big,z',tri],_,up _ _ ne t₂,r.1] tri sz' fun c o e g=>up _ _ (zo2 e _ (aO _)) (k₂ c o (e.imp id fun e=>fu (um (jo _ 2) e)) (zo2 e (ls.length+1) (xq _)) (s₁.extBut _ _ (zo2 e _ (aO _)) g))
 ·refine zipN z fun E' _=>?_
  k_dat 2 "y"
  refine au (iz z rfl (x:=.bool false) rfl ?_)
  k_dat 3 "y"
  refine au (iz z rfl (x:=.ref _) rfl (au (pR k.ti rfl ?_)));dsimp only;rw[if_neg (by rw[Q5 n0];exact id)];refine au (U7 z kT fun h₁ z₁ s₁=>?_);simp only[HD,if_false,adq];refine au (Ng r (fun it items s Q h=>?_) ls.length 0 #[] _ _ (Hz _) (k.toZN.but s₁.extBut (Yb tb_g%)) fun h₂ K₂ k₂=>?_)
  ·refine au (iy ?_);show wpAny _ _ (HY it >>= _) _ _ _;exact au (cO h (fun x s' q=>aK (aK q)) fun _ _ e=>e)
  ·refine au (aea (hsz:=by simpa using hsz) (aK #[_,rfl,?_]));have hs:h₂.objs.size=s.heap.objs.size:=k₂.1.trans s₁.1;have up:aeu (b+ls.length+1) h₂ (h₂.push { cls:=.type "tuple",data:=.seq vs.toArray }):=fun c o _ e=>cX _ e;have up':∀c o,b+ls.length<=c->h₁.get? c=some o->(h₂.push { cls:=.type "tuple",data:=.seq vs.toArray }).get? c=some o:=fun c o l e=>cX _ (k₂.2 c o (.inr l) e);have t2:Tp (h₂.push { cls:=.type "tuple",data:=.seq vs.toArray }) h₂.objs.size vs:=dZ _ rfl;show Q (some (.ref h₂.objs.size)) { s with heap:=h₂.push { cls:=.type "tuple",data:=.seq vs.toArray } };rw[hs]at t2 ⊢;exact hQ _ #[K₂.over.but up (wZ _),.inr #[T,o,true,lT,up' _ _ (jo _ 2) z₁,up' _ _ (bW (jo _ 2) (fu lT)) (s₁.extBut _ _ (oX lT) kT)],us,up' _ _ (xq _) (s₁.extBut _ _ (Bv _ 1 2 tb_g%) t),lu] t2 (by rw[pW,hs])
    fun c o e g=>cX _ (k₂.2 c o (e.imp id fun e=>fu (um (jo _ 2) e)) (s₁.extBut _ _ (zo2 e _ (aO _)) g))
theorem ag8{l:Addr}{xs:Array Value}{Q:Option Value->Shared->Prop}(hh:A.handled=none)(k:ZS b ls i s.heap)(e0:ls[0]? = some (l,xs))(hx:xs[i]? = none)
  (hQ:∀h',(∀c o,c<b\/b+ls.length+2<c->s.heap.get? c=some o->h'.get? c=some o)->Q none { s with heap:=h' }):wpAny (model prog w) A (lV (.ref (b+ls.length+2))) Q E s:=by
 obtain⟨a,m,lt⟩:=k.it 0 l xs e0;have n0:=(fO.mp e0).1;obtain⟨n,en⟩:∃n,ls.length=n+1:=#[ls.length-1,by lia];have ei:its b ls.length 0=.ref (b+0)::its b n 1:=by rw[en];rfl
 have lz:b+0≠b+ls.length+2:=Bv b 0 (ls.length+2) (by lia);have lz2:l≠b+ls.length+2:=bZ (cG lt (bW (jo _ _) (jo _ _)));rcases k.z with z|⟨T,o,f,lT,z,kT⟩
 ·refine zipN z fun E' he=>?_
  k_dat 2 "y"
  refine au (iz z rfl (x:=.bool false) rfl ?_)
  k_dat 3 "y"
  refine au (iz z rfl (x:=.ref _) rfl (au (pR k.ti rfl ?_)));dsimp only;rw[if_neg (by rw[Q5 n0];exact id)];refine au ?_;unfold aak;refine au (iz z rfl (x:=.none) rfl (aK ?_));simp only[if_true];refine au (Ho (au (iz z rfl (x:=.ref _) rfl ?_)));dsimp only;refine au (zT z (by simp) fun h₁ z₁ s₁=>au ?_);replace z₁:gB h₁ (b+ls.length+2) (b+ls.length) (b+ls.length+1) .ellipsis false:=z₁;rw[ei,List.zipIdx_cons,GP];refine au (au (aek ?_));show wpAny _ _ (HY (.ref (b+0)) >>= _) _ _ _;refine au (adR (show A.in1.handled=none from hh) (a.extBut s₁.extBut lz) (m.extBut s₁.extBut lz2) hx fun h₂ e s₂ ee=>?_);obtain⟨oe,hoe,hce⟩:=ee;have z₂:gB h₂ (b+ls.length+2) (b+ls.length) (b+ls.length+1) .ellipsis false:=s₂ _ _ (aQ lz) z₁;have hez:e≠b+ls.length+2:=fun x=>by subst x;rw[z₂]at hoe;cases hoe;simp at hce
  exact zT z₂ (by simp) fun h₃ _ s₃=>he e h₃ #[oe,s₃.extBut _ _ hez hoe,hce] (hQ h₃ fun c o d g=>s₃.extBut _ _ (zo2 d _ (aO _)) (s₂ _ _ (zo2 d 0 (cU _)) (s₁.extBut _ _ (zo2 d _ (aO _)) g)))
 ·refine zipN z fun E' he=>?_
  k_dat 2 "y"
  refine au (iz z rfl (x:=.bool false) rfl ?_)
  k_dat 3 "y"
  refine au (iz z rfl (x:=.ref _) rfl (au (pR k.ti rfl ?_)));dsimp only;rw[if_neg (by rw[Q5 n0];exact id)];refine au (U7 z kT fun h₁ z₁ s₁=>?_);simp only[HD,if_false,adq];rw[ei,GP];refine au (au (au (iy ?_)));show wpAny _ _ (HY (.ref (b+0)) >>= _) _ _ _;refine au (adR (show A.in1.handled=none from hh) (a.extBut s₁.extBut lz) (m.extBut s₁.extBut lz2) hx fun h₂ e s₂ ee=>?_);exact he e h₂ ee (hQ h₂ fun c o d g=>s₂ _ _ (zo2 d 0 (cU _)) (s₁.extBut _ _ (zo2 d _ (aO _)) g))
end
end PySem
namespace PySem
open Sem (wp)
open L2 (cg)
namespace F
theorem U8:uc (.type "zip") "keys" = pure none:=ad4 tb_g%
theorem Ju:uc (.type "zip") "__getattr__" = pure none:=ad4 tb_g%
theorem qm:Ht table "zip.__getattribute__" = some dN.«object.__getattribute__» :=
 entryFor_alias (id' := "object.__getattribute__") (by kernel_rfl) tb_g% tb_g% (by kernel_rfl)
theorem dD:Pr "dict.update.loop" = true:=by decide +kernel
theorem gQ:Ht table "dict.update.loop" = some dN.«dict.update.loop» := entryFor_of_tree (by kernel_rfl)
end F
theorem Jv(a:Addr)(fs:Array Value)(u:Tok):
  Meets (dN.«object.__getattribute__» #[[.ref a,.str "keys" u],[]]) (fun A R s=>s.heap.get? a=some { cls:=.type "zip",dict:=none,data:=.fields fs,slots:=#[] }/\raisesAttr (.ref a) "keys" A R s):=
 Meets.of_wp fun prog w A R s hs=>by
  obtain⟨hp,g,d,tk,os⟩:=s;obtain⟨hx,hs⟩:=hs;have hT:(#[hp,g,d,tk,os]:Shared).TypeIs (.ref a) "zip" := #[_,hx,rfl];have hmiss:=F.U8;have hname:(["__module__","__name__","__qualname__","__doc__","__annotations__"]:List Str).contains "keys" = false:=by decide +kernel
  unfold dN.«object.__getattribute__»
  repeat (any_goals (first|assumption|wp_step))
  exact wpAny_raiseAttrError hs.1 hs.2 tb_g%
theorem ag9{prog:aG}{w:World}{A:aN}{E:Value->Shared->Prop}{s:Shared}{a:Addr}{fs:Array Value}{Q:Option Value->Shared->Prop}(hx:s.heap.get? a=some { cls:=.type "zip",dict:=none,data:=.fields fs,slots:=#[] })(hA:A.handled=none)
  (h:∀h' tk,(∀b o,s.heap.get? b=some o->h'.get? b=some o)->Q none { s with heap:=h',toks:=tk }):wpAny (model prog w) A (getAttr? (.ref a) "keys") Q E s:=by
 obtain⟨hp,g,d,tk,os⟩:=s;have hT:∀tk',(#[hp,g,d,tk',os]:Shared).TypeIs (.ref a) "zip" := fun _=>#[_,hx,rfl];have f1:=sub_AttributeError;have f3:=F.slot_zip_getattribute.lookup;have f4:=F.slot_zip_getattribute.bind (.ref a);have f5:=F.Ju;unfold getAttr? getAttrBy? Ph
 repeat (any_goals (first|assumption|exact hT _|((with_reducible show wpAny _ _ (call (Value.builtin "zip.__getattribute__") _ _) _ _ _);refine wR F.slot_zip_getattribute (hT _) F.qm (F.args_zip_getattribute_2 _ _) (Jv a fs _) #[hx,hA,fun h' tk' e hx'=>?_])|wp_step))
 obtain⟨t',u',he⟩:=hx'.there;show wpAny _ _ (adW _ _ _ _ _ _ _) _ _ _;unfold adW
 repeat (any_goals (first|assumption|wp_step))
 exact h _ _ hx'.keeps
section
variable{prog:aG}{w:World}{A:aN}
def uU(ps:List (L2.Key × Value)):List (L2.Key × Value):=ps.foldl (fun d p=>jD d p.1 p.2) []
theorem Ni(ps:List (L2.Key × Value)):(uU ps).length<=ps.length:=by
 unfold uU
 suffices h:∀d:List (L2.Key × Value),(ps.foldl (fun d p=>jD d p.1 p.2) d).length<=d.length+ps.length by simpa using h []
 induction ps with
 |nil=>intro d;simp
 |cons p ps ih =>
  intro d;have:=ih (jD d p.1 p.2);have e:(jD d p.1 p.2).length<=d.length+1:=by unfold jD;split <;> simp
  simp only[GQ,cJ];lia
theorem row2 {l1 l2:Addr} {xs ys:Array Value} {i:Nat} {x y:Value} (hx:xs[i]? = some x) (hy:ys[i]? = some y):Row [(l1,xs),(l2,ys)] i [x,y]:=#[rfl,fun k l vs e=>by
 rcases k with _|_|k <;> cases e
 ·exact hx
 ·exact hy]
theorem DN{b l1 l2 D:Addr}{R:lW->Shared->Prop}(hh:A.handled=none){ps:List (L2.Key × Value)}{xs ys:Array Value}(hk:∀(i:Nat)(p:L2.Key × Value),ps[i]? = some p->∃x,xs[i]? = some x/\(cg prog w).is p.1 x=true/\ys[i]? = some p.2)
  (hn:xs.size=ps.length) (hsz:ps.length<=sizeLine) (hD:b+4<D):
  ∀(k i:Nat)(n:Int)(tk:Tok)(s:Shared),ps.length-i=k->i<=ps.length->ZS b [(l1,xs),(l2,ys)] i s.heap->s.heap.DictOf (cg prog w) D (uU (ps.take i)) ->
   (∀h' t,h'.DictOf (cg prog w) D (uU ps)->(∀c o,c<b->s.heap.get? c=some o->h'.get? c=some o)->R (.ok (.ret .none)) { s with heap:=h',toks:=t }) ->
   fC (model prog w) A (.builtin "dict.update.loop" #[[.ref D,.ref (b+4),.int n tk,.none],[]]) R s:=by
 have nD:∀c:Nat,c<=b+4->c≠D:=fun c l=>bZ (um l hD);intro k
 induction k with
 |zero =>
  intro i n tk s e hi st hd hR;have e:i=ps.length:=by lia
  subst e;rw[lM]at hd;refine vX F.gQ ?_;rw[yp F.dD _];show wpAny _ A.in1 (lV (.ref (b+4)) >>= _) _ _ s;refine au (ag8 (show A.in1.handled=none from hh) st (l:=l1) (xs:=xs) rfl (by rw[<-hn];simp) fun h' q=>?_);show wpAny _ _ (aj4 D [] >>= _) _ _ _;refine au (aK (aK (hR h' s.toks ?_ fun c o l g=>q c o (.inl l) g)));obtain⟨o,es,ep,ho,r⟩:=hd;show#[o,es,ep,q _ _ (.inr hD) ho,r]
 |succ k ih =>
  intro i n tk s e hi st hd hR;have lt:i<ps.length:=by lia
  obtain⟨x,hx,kx,hy⟩:=hk i ps[i] (dH lt);refine vX F.gQ ?_;rw[yp F.dD _];show wpAny _ A.in1 (lV (.ref (b+4)) >>= _) _ _ s;refine au (aaT st (row2 hx hy) (Ye _) (show 2<=sizeLine by decide) fun h' st' hp _ q=>?_);refine au (iy (au (wO ?_)));unfold aj6;refine au (wQ (T := "tuple") #[_,hp,rfl] ?_);rw[if_pos tb_g%];refine au (pR hp rfl (aK ?_));have hd':h'.DictOf (cg prog w) D (uU (ps.take i)):=by
   obtain⟨o,es,ep,ho,r⟩:=hd;show#[o,es,ep,q _ _ (.inr hD) ho,r]
  refine iy (wpAny_dictSet_pairs (hsz:=bW (Ni _) (bW (List.length_take_le _ _) (by lia))) kx hd' fun h2 hd2 sb=>?_);refine aK #[oU F.dD _,ih (i+1) _ _ _ (by lia) lt ?_ ?_ fun h3 t3 hd3 q3=>?_]
  ·refine st'.keep (fun T o _ g=>?_) fun c o l g=>sb.extBut _ _ (nD c l) g;by_cases z:T=D
   ·obtain⟨o2,_,_,ho2,_⟩:=hd2;show#[o2,z ▸ ho2]
   ·show#[o,sb.extBut _ _ z g]
  ·have e2:uU (ps.take (i+1))=jD (uU (ps.take i)) ps[i].1 ps[i].2:=by
    unfold uU;rw[List.take_succ_eq_append_getElem lt,List.foldl_append];rfl
   rwa[e2]
  ·exact hR h3 t3 hd3 fun c o l g=>q3 c o l (sb.extBut _ _ (nD c (fu (cG l (jo _ _)))) (q c o (.inl l) g))
theorem Q6{b l1 l2:Addr}{E:Value->Shared->Prop}{s:Shared}{Q:Value->Shared->Prop}(hh:A.handled=none){ps:List (L2.Key × Value)}{xs ys:Array Value}(hk:∀(i:Nat)(p:L2.Key × Value),ps[i]? = some p->∃x,xs[i]? = some x/\(cg prog w).is p.1 x=true/\ys[i]? = some p.2)
  (hn:xs.size=ps.length) (hsz:ps.length<=sizeLine) (st:ZS b [(l1,xs),(l2,ys)] 0 s.heap) (hz:gB s.heap (b+4) (b+2) (b+3) .none false)
  (h:∀h' t,h'.DictOf (cg prog w) s.heap.objs.size (uU ps)->(∀c o,c<b->s.heap.get? c=some o->h'.get? c=some o)->Q (.ref s.heap.objs.size) { s with heap:=h',toks:=t }):
  wpAny (model prog w) A (call (.type "dict") [.ref (b+4)]) Q E s:=by
 refine aeb (Q₁:=fun obj s₁=>obj=.ref s.heap.objs.size/\s₁={ s with heap:=s.heap.push { cls:=.type "dict",data:=.dict #[] } }) F.kt_called_dict (F.kt_typeCall_dict_1 _) F.entry_dict_init (kt_code_dict_new _ #[rfl,rfl]) ?_;rintro obj s₁ ⟨rfl,rfl⟩;have hnew:(s.heap.push { cls:=.type "dict",data:=.dict #[] }).DictOf (cg prog w) s.heap.objs.size []:=afE s.heap;have up:∀c o,s.heap.get? c=some o->(s.heap.push { cls:=.type "dict",data:=.dict #[] }).get? c=some o:=fun c o e=>cX _ e;show#[hnew.typeIs,F.args_dict_init_2 _ _,?_];unfold dN.«dict.__init__»;refine au ?_;unfold aj5;refine au (wpAny_notOrdered_dict hnew.typeIs ?_);show wpAny _ _ (pure (s.heap.objs.size,[Value.ref (b+4)])) _ _ _;refine aK ?_;show wpAny _ _ (afp "dict.__init__" s.heap.objs.size (.ref (b+4)) [] .none) _ _ _;unfold afp;refine au (wQ (T := "zip") #[_,up _ _ hz,rfl] ?_);rw[if_pos tb_g%];refine au (ag9 (up _ _ hz) (show A.in1.in1.handled=none from hh) fun h1 t1 q1=>?_);refine au (Ho ?_);refine au (Oq (q1 _ _ (up _ _ hz)) ?_);have u:∀c o,s.heap.get? c=some o->h1.get? c=some o:=fun c o e=>q1 _ _ (up c o e);refine aK #[oU F.dD _,DN (show A.in1.handled=none from hh) hk hn hsz (bA hz) ps.length 0 _ _ _ rfl (cU _) (st.keep (fun T o _ e=>#[o,u T o e]) fun c o _ e=>u c o e) ?_ fun h' t' hd q=>#[rfl,h h' t' hd fun c o l e=>q c o l (u c o e)]];obtain⟨o,es,ep,ho,r⟩:=hnew;show#[o,es,ep,q1 _ _ ho,r]
end
end PySem
namespace L2
open PySem PySem.Spec PyProof.Rows
def zPut(ns:List Int)(vs:List V):List (Key × V):=(ns.zip vs).foldl (fun d p=>putK d (.inl p.1) p.2) []
def aha(ta:TA):TE:=fun σ H Q=>ta σ H fun vs H1=>∃(a b:Addr)(ns:List Int)(ys:List V),vs=[.ref a,.ref b]/\H1 a=some (.lst (ns.map V.int))/\H1 b=some (.lst ys)/\ns.length=ys.length/\∀p,H1 p=none->Q (.ref p) (upd H1 p (.dK (zPut ns ys)))
theorem U9:∀{ns:List Int}{vs:List V}{us ws:List Value} {d:List (Key × V)} {e:List (Key × Value)},Vals (ns.map V.int) us->Vals vs ws->KV d e ->
  KV ((ns.zip vs).foldl (fun d p=>putK d (.inl p.1) p.2) d) ((ns.zip ws).foldl (fun d p=>jD d (.inl p.1) p.2) e)
 |[],_,_,_,_,_,_,_,r=>by simpa using r
 |_::_,[],_,_,_,_,_,.nil,r=>by simpa using r
 |n::ns,v::vs,_,_,_,_,.cons _ r1,.cons r2 r3,r=>by
  simp only[List.zip_cons_cons,GQ];exact U9 r1 r3 (r.put _ r2)
theorem Zz{X:Cx}{a b:Expr}{ta:TA}{p p2 pos pos2:Pos}(hc:X.calm=true)(hg:Gl X "dict")(hm:X.mg "dict" = none)(hg2:Gl X "zip")(hm2:X.mg "zip" = none)(ha:PA X [a,b] ta)(hs:bh [a,b] X.env=[(false,eval a X.env),(false,eval b X.env)]:=by rfl)
  (hs2:bh [b] X.env=[(false,eval b X.env)]:=by rfl) (he:bh [.Call (.Name "zip" p2) [a,b] [] pos2] X.env=[(false,eval (.Call (.Name "zip" p2) [a,b] [] pos2) X.env)]:=by rfl):PE X (.Call (.Name "dict" p) [.Call (.Name "zip" p2) [a,b] [] pos2] [] pos) (aha ta):=by
 walk_at "s"
 refine yj (iU I hg hm (show qL "dict" = some (.type "dict") by decide +kernel) ?_ tb_g% tb_g%);refine vY ?_ he rfl;rw[he];refine Ig (x:=eval (.Call (.Name "zip" p2) [a,b] [] pos2) X.env) (rest:=[]) (Call_ (iU I hg2 hm2 Yn (vY (thn (ha pos2 pins s σ H _ I h) fun us s1 zq=>?_) (by rw[hs,hs2]) (by rw[hs2];rfl))));obtain⟨vs,H1,I1,r1,q1⟩:=zq;obtain⟨l1,l2,ns,ys,e,e1,e2,len,q⟩:=q1;subst e;cases r1 with
 |cons r rr =>
  cases rr with
  |cons r' rr =>
   cases rr;cases r;cases r';obtain⟨z1,us,n,rv,_,gl⟩:=I1.tK e1;obtain⟨_,vs,m,rw',_,gr⟩:=I1.tK e2;have lu:us.length=ns.length:=by rw[<-rv.length,aB]
   have lv:vs.length=ys.length:=rw'.length.symm;refine call_zip_2 (xs:=us.toArray) (ys:=vs.toArray) #[_,gl,rfl,n,rfl] #[_,gr,rfl,m,rfl] fun h1 z1' z2 z3 z4 z5 z6 hk=>Ih ?_;have lt:∀ {c:Addr} {o:Obj},s1.heap.get? c=some o->c<s1.heap.objs.size:=fun g=>bA g;have st:ZS s1.heap.objs.size [(l1,us.toArray),(l2,vs.toArray)] 0 h1:=#[#[fun k l xs e=>by
    rcases k with _|_|k <;> cases e
    ·show#[z4,#[_,hk _ _ gl,rfl,n,rfl],lt gl]
    ·show#[z5,#[_,hk _ _ gr,rfl,m,rfl],lt gr],z2],.inl z1',_,z3,rfl]
   refine Q6 (b:=s1.heap.objs.size) (ps:=(ns.zip vs).map fun p=>(Sum.inl p.1,p.2)) (I1.ok.hd hc) (fun i p hp=>?_) (by rw[cH,aB,W7];lia) (by rw[aB,W7];rw[aB]at z1;lia) st z1' fun h' t' hd keep=>?_
   ·rw[cB,f9]at hp;obtain⟨pr,hp,rfl⟩:=hp;obtain⟨w1,w2⟩:=Gq.mp hp;obtain⟨u,hu,ru⟩:=rv.get (x:=.int pr.1) (i:=i) (by rw[cB,w1];rfl);obtain⟨t,rfl⟩:=(show ∃t,u=Value.int pr.1 t from ru);show#[.int pr.1 t,by simpa using hu,Mq pr.1 t,by simpa using w2]
   ·have e:uU ((ns.zip vs).map fun p=>(Sum.inl p.1,p.2))=(ns.zip vs).foldl (fun d p=>jD d (.inl p.1) p.2) []:=by unfold uU;rw[List.foldl_map]
    rw[e]at hd;have rel:KV (zPut ns ys) ((ns.zip vs).foldl (fun d p=>jD d (.inl p.1) p.2) []):=U9 rv rw' .nil;show#[.ref h1.objs.size,_,I1.laid (t':=t') (fun b u g=>keep b u (lt g) (hk b u g)) (by rw[z6];lia) (Ze ?_ ?_ rel hd),rfl,q _ (I1.hok.fresh (by rw[z6];lia))]
    ·rw[rel.length,<-e];refine bW (Ni _) ?_;rw[aB,W7];rw[aB]at z1;lia
    ·exact beq_eq_false_iff_ne.mpr (aQ (bZ (by rw[z6];exact cG I1.big (jo _ _))))
end L2
namespace PySem
open Sem (wp)
abbrev IsTri(h:Heap)(T:Addr)(a b c:Value):Prop:=Tp h T [a,b,c]
abbrev Z3(n l1 l2 l3:Addr)(xs ys zs:Array Value)(i:Nat)(h:Heap):Prop:=ZS n [(l1,xs),(l2,ys),(l3,zs)] i h
theorem ad1(n p q:Nat)(e:p≠q):n+p≠n+q:=by lia
namespace F
theorem Jw(a b c:Value):checkTypeCall "zip" #[[a,b,c],[]]=pure ():=by kernel_rfl
theorem La(a b c:Value):Oo "zip.__new__" #[[.type "zip",a,b,c],[]]=pure ():=by kernel_rfl
theorem xQ(a b c d:Value):Af "object.__init__" #[[a,b,c,d],[]]:=by
 unfold Af;rw[signature?_of (id := "object.__init__") (n:=['_','_','t','i','n','i','_','_']) (o:=['t','c','e','j','b','o']) (by kernel_rfl) owner_object];kernel_rfl
end F
abbrev DP(h:Heap)(l1:Addr):Heap:=h.push { cls:=.type "list_iterator",data:=.fields [.ref l1,.int 0 0].toArray }
abbrev z3H3(h:Heap)(l1 l2 l3:Addr):Heap:=DP (DP (DP h l1) l2) l3
abbrev z3H4(h:Heap)(l1 l2 l3:Addr):Heap:=(z3H3 h l1 l2 l3).push { cls:=.type "tuple",data:=.seq [.ref h.objs.size,.ref (DP h l1).objs.size,.ref (DP (DP h l1) l2).objs.size].toArray }
abbrev z3H5(h:Heap)(l1 l2 l3:Addr):Heap:=(z3H4 h l1 l2 l3).push { cls:=.type "tuple",data:=.seq [.none,.none,.none].toArray }
abbrev Q7(h:Heap)(l1 l2 l3:Addr):Heap:=(z3H5 h l1 l2 l3).push { cls:=.type "zip",data:=.fields [.none,.bool false,.bool false,.ref (z3H3 h l1 l2 l3).objs.size,.ref (z3H4 h l1 l2 l3).objs.size].toArray }
theorem Jx(l1 l2 l3:Addr)(xs ys zs:Array Value):
  Meets (dN.«zip.__new__» #[[.type "zip",.ref l1,.ref l2,.ref l3],[]]) (fun _ R s=>s.heap.IsList l1 xs/\s.heap.IsList l2 ys/\s.heap.IsList l3 zs /\
   R (.ok (.ret (.ref (z3H5 s.heap l1 l2 l3).objs.size))) { s with heap:=Q7 s.heap l1 l2 l3 }) :=
 .of_wp fun prog w A R s h=>by
  obtain⟨hp,g,d,tk,os⟩:=s;obtain⟨hl1,hl2,hl3,h⟩:=h;have hsub:=sub_zip;have hL1:X8 (YM #[hp,g,d,tk,os]) l1 xs:=hl1;have hL2:X8 (YM #[hp.push { cls:=.type "list_iterator",data:=.fields [.ref l1,.int 0 0].toArray },g,d,tk,os]) l2 ys:=YJ hl2 _;have hL3:X8 (YM #[(hp.push { cls:=.type "list_iterator",data:=.fields [.ref l1,.int 0 0].toArray }).push { cls:=.type "list_iterator",data:=.fields [.ref l2,.int 0 0].toArray },g,d,tk,os]) l3 zs:=YJ (YJ hl3 _) _
  wp_walk using Hf hL1,Hf hL2,Hf hL3
  show#[_,rfl,h]
section
variable{prog:aG}{w:World}{A:aN}{E:Value->Shared->Prop}{s:Shared}
theorem ZC{l1 l2 l3:Addr}{xs ys zs:Array Value}{Q:Value->Shared->Prop}(hl1:s.heap.IsList l1 xs)(hl2:s.heap.IsList l2 ys)(hl3:s.heap.IsList l3 zs)
  (h:∀h',Z3 s.heap.objs.size l1 l2 l3 xs ys zs 0 h'->gB h' (s.heap.objs.size+5) (s.heap.objs.size+3) (s.heap.objs.size+4) .none false->h'.objs.size=s.heap.objs.size+6->(∀c o,s.heap.get? c=some o->h'.get? c=some o)->Q (.ref (s.heap.objs.size+5)) { s with heap:=h' }):
  wpAny (model prog w) A (call (.type "zip") [.ref l1,.ref l2,.ref l3]) Q E s:=by
 refine callType_new F.called_zip tb_g% (F.Jw _ _ _) (F.La _ _ _) (fun obj=>F.xQ obj _ _ _) F.entry_zip_new
  (Jx l1 l2 l3 xs ys zs) #[hl1,hl2,hl3,?_]
 have z1:(DP s.heap l1).objs.size=s.heap.objs.size+1:=pW ..;have z2:(DP (DP s.heap l1) l2).objs.size=s.heap.objs.size+2:=by rw[pW,z1]
 have z3:(z3H3 s.heap l1 l2 l3).objs.size=s.heap.objs.size+3:=by rw[pW,z2]
 have z4:(z3H4 s.heap l1 l2 l3).objs.size=s.heap.objs.size+4:=by rw[pW,z3]
 have z5:(z3H5 s.heap l1 l2 l3).objs.size=s.heap.objs.size+5:=by rw[pW,z4]
 have z6:(Q7 s.heap l1 l2 l3).objs.size=s.heap.objs.size+6:=by rw[pW,z5]
 have up:∀{h:Heap}{c:Addr}{o p:Obj},h.get? c=some o->(h.push p).get? c=some o:=fun e=>cX _ e;have g6:(Q7 s.heap l1 l2 l3).get? (z3H5 s.heap l1 l2 l3).objs.size=some _:=dZ _ rfl;have g5:(Q7 s.heap l1 l2 l3).get? (z3H4 s.heap l1 l2 l3).objs.size=some _:=up (dZ _ rfl);have g4:(Q7 s.heap l1 l2 l3).get? (z3H3 s.heap l1 l2 l3).objs.size=some _:=up (up (dZ _ rfl));have g3:(Q7 s.heap l1 l2 l3).get? (DP (DP s.heap l1) l2).objs.size=some _:=up (up (up (dZ _ rfl)));have g2:(Q7 s.heap l1 l2 l3).get? (DP s.heap l1).objs.size=some _:=up (up (up (up (dZ _ rfl))));have g1:(Q7 s.heap l1 l2 l3).get? s.heap.objs.size=some _:=up (up (up (up (up (dZ _ rfl)))));have old:∀c o,s.heap.get? c=some o->(Q7 s.heap l1 l2 l3).get? c=some o:=fun c o e=>up (up (up (up (up (up e)))));show _/\_;rw[z3,z4,z5]at g6;rw[z1,z2,z3]at g4;rw[z4]at g5;rw[z2]at g3;rw[z1]at g2;rw[z5];have lt:∀{l:Addr}{vs:Array Value},s.heap.IsList l vs->l<s.heap.objs.size:=fun⟨_,e,_⟩=>bA e;show#[#[_,g6,rfl],h _ #[#[fun k l vs e=>?_,g4],.inl g6,_,g5,rfl] g6 z6 old];rcases k with _|_|_|k
 ·cases e;show#[#[_,g1,rfl,rfl],hl1.at fun o e=>old _ o e,lt hl1]
 ·cases e;show#[#[_,g2,rfl,rfl],hl2.at fun o e=>old _ o e,lt hl2]
 ·cases e;show#[#[_,g3,rfl,rfl],hl3.at fun o e=>old _ o e,lt hl3]
 ·cases e
theorem row3 {l1 l2 l3:Addr} {xs ys zs:Array Value} {i:Nat} {x y v:Value} (hx:xs[i]? = some x) (hy:ys[i]? = some y) (hv:zs[i]? = some v):Row [(l1,xs),(l2,ys),(l3,zs)] i [x,y,v]:=#[rfl,fun k l vs e=>by
 rcases k with _|_|_|k <;> cases e
 ·exact hx
 ·exact hy
 ·exact hv]
def Tris(n S:Addr)(xs ys zs:Array Value)(i:Nat)(h:Heap)(ts:List Addr):Prop:=
 ts.length=i/\ts.Nodup/\∀(j:Nat)(t:Addr),ts[j]? = some t->n+5<t/\t≠S/\∃x y v,xs[j]? = some x/\ys[j]? = some y/\zs[j]? = some v/\IsTri h t x y v
theorem DQ{n l1 l2 l3 S:Addr}{xs ys zs:Array Value}{R:lW->Shared->Prop}(hh:A.handled=none)(hS:n+5<S)(e2:ys.size=xs.size)(e3:zs.size=xs.size)(hsz:xs.size<=sizeLine):
  ∀(k i:Nat)(s:Shared)(ts:List Addr)(c:Nat),xs.size-i=k->i<=xs.size->Z3 n l1 l2 l3 xs ys zs i s.heap->s.heap.get? S=some { cls:=.type "list",dict:=none,data:=.seq (ts.map Value.ref).toArray c,slots:=#[] }->Tris n S xs ys zs i s.heap ts ->
   (∀h' ts' c',h'.get? S=some { cls:=.type "list",dict:=none,data:=.seq (ts'.map Value.ref).toArray c',slots:=#[] }->Tris n S xs ys zs xs.size h' ts'->(∀c o,c<n->s.heap.get? c=some o->h'.get? c=some o)->R (.ok (.ret .none)) { s with heap:=h' }) ->
   fC (model prog w) A (.builtin "list.extend.loop" #[[.ref S,.ref (n+5),.none],[]]) R s:=by
 intro k
 induction k with
 |zero =>
  intro i s ts c hk hi st hs ht hR;have e:i=xs.size:=by lia
  subst e;refine vX F.entry_extend_loop ?_;rw[yp F.plain_extend_loop _];show wpAny _ A.in1 (lV (.ref (n+5)) >>= _) _ _ s;refine au (ag8 (show A.in1.handled=none from hh) st (l:=l1) (xs:=xs) rfl (by simp) fun h' q=>aK (hR h' ts c (q _ _ (.inr hS) hs) #[ht.1,ht.2.1,fun j t e=>?_] fun c o l g=>q _ _ (.inl l) g));obtain⟨a1,a2,x,y,v,a3,a4,a5,a6⟩:=ht.2.2 j t e;show#[a1,a2,x,y,v,a3,a4,a5,q _ _ (.inr a1) a6]
 |succ k ih =>
  intro i s ts c hk hi st hs ht hR;have lt:i<xs.size:=by lia
  have hx:xs[i]? = some xs[i]:=Yu lt;have hy:ys[i]? = some (ys[i]'(by lia)):=Yu _;have hv:zs[i]? = some (zs[i]'(by lia)):=Yu _;refine vX F.entry_extend_loop ?_;rw[yp F.plain_extend_loop _];show wpAny _ A.in1 (lV (.ref (n+5)) >>= _) _ _ s;refine au (aaT st (row3 hx hy hv) (Ye _) (show 3<=sizeLine by decide) fun h' st' tri sz q=>?_);have hs':=q _ _ (.inr hS) hs;have nS:S≠s.heap.objs.size:=bZ (bA hs);have big:n+5<s.heap.objs.size:=j6 hS (bA hs);have len:(ts.map Value.ref).toArray.size=i:=by rw[cH,aB,ht.1]
  have g2:∃c2,(h'.update S (fZ (·.push (.ref s.heap.objs.size)))).get? S=some { cls:=.type "list",dict:=none,data:=.seq ((ts++[s.heap.objs.size]).map Value.ref).toArray c2,slots:=#[] }:=by
   obtain⟨c2,e⟩:∃c2,fZ (·.push (.ref s.heap.objs.size)) { cls:=.type "list",data:=.seq (ts.map Value.ref).toArray c }={ cls:=.type "list",data:=.seq ((ts.map Value.ref).toArray.push (.ref s.heap.objs.size)) c2 }:=#[_,rfl];show#[c2,by rw[pU _ hs' rfl,e,List.push_toArray,bB];rfl]
  obtain⟨c2,g2⟩:=g2;show wpAny _ A.in1 (Hs S (·.push (.ref s.heap.objs.size)) >>= _) _ _ _;refine au (tZ hs' rfl (aK #[oU F.plain_extend_loop _,ih (i+1) _ (ts++[s.heap.objs.size]) c2 (by lia) lt ?_ g2 ?_ fun h3 ts3 c3 g3 t3 q3=>?_]) (by rw[len];lia) (by show((ts.map Value.ref).toArray.push _).size<=sizeLine+1;rw[Array.size_push,len];lia))
  ·refine st'.keep (fun T o l g=>?_) fun c o l g=>(lY _ _ (aQ (bZ (um l hS)))).trans g;by_cases z:T=S
   ·subst z;show#[_,pU _ hs' rfl]
   ·show#[o,(lY _ _ (aQ z)).trans g]
  ·show#[by rw[cj,ht.1];rfl,?_,fun j t e=>?_]
   ·refine WY.mpr #[ht.2.1,by simp,fun a ha b hb=>?_];obtain⟨j,hj⟩:=Gx ha;obtain⟨_,_,_,_,_,_,_,_,g⟩:=ht.2.2 j a hj;rw[eY.mp hb];exact bZ (bA g)
   ·have oth:∀c o,c≠S->h'.get? c=some o->(h'.update S (fZ (·.push (.ref s.heap.objs.size)))).get? c=some o:=fun c o e g=>(lY _ _ (aQ e)).trans g;rw[List.getElem?_append]at e;by_cases z:j<ts.length
    ·rw[if_pos z]at e;obtain⟨a1,a2,x,y,v,a3,a4,a5,a6⟩:=ht.2.2 j t e;show#[a1,a2,x,y,v,a3,a4,a5,oth _ _ a2 (q _ _ (.inr a1) a6)]
    ·rw[if_neg z,List.getElem?_singleton]at e;by_cases z2:j-ts.length=0
     ·rw[if_pos z2]at e;cases e;have ej:j=i:=by have:=ht.1;lia
      subst ej;show#[big,nS.symm,_,_,_,hx,hy,hv,oth _ _ nS.symm tri]
     ·rw[if_neg z2]at e;cases e
  ·exact hR h3 ts3 c3 g3 t3 fun c o l g=>q3 c o l ((lY _ _ (aQ (bZ (j6 l (um (jo n 5) hS))))).trans (q _ _ (.inl l) g))
theorem ZD:uc (.type "zip") "__len__" = pure none:=by rw[Ov,Ol];kernel_rfl
theorem Va:uc (.type "zip") "__length_hint__" = pure none:=by rw[Ov,Ol];kernel_rfl
theorem Lb{n l1 l2 l3:Addr}{xs ys zs:Array Value}{Q:Value->Shared->Prop}(hh:A.handled=none)(hs:s.heap.objs.size=n+6)(e2:ys.size=xs.size)(e3:zs.size=xs.size)(hsz:xs.size<=sizeLine)(st:Z3 n l1 l2 l3 xs ys zs 0 s.heap)(hz:gB s.heap (n+5) (n+3) (n+4) .none false)
  (h:∀h' ts c,h'.get? (n+6)=some { cls:=.type "list",dict:=none,data:=.seq (ts.map Value.ref).toArray c,slots:=#[] }->Tris n (n+6) xs ys zs xs.size h' ts->(∀c o,c<n->s.heap.get? c=some o->h'.get? c=some o)->Q (.ref (n+6)) { s with heap:=h' }):
  wpAny (model prog w) A (call (.type "list") [.ref (n+5)]) Q E s:=by
 refine aeb (Q₁:=fun obj s₁=>obj=.ref s.heap.objs.size/\s₁={ s with heap:=s.heap.push { cls:=.type "list",data:=.seq #[] } }) F.called_list (F.typeCall_list_1 _) F.entry_list_init (code_list_new _ #[rfl,rfl]) fun obj s₁ h₁=>?_;obtain⟨rfl,rfl⟩:=h₁;rw[hs];have hS:(s.heap.push { cls:=.type "list",data:=.seq #[] }).get? (n+6)=some { cls:=.type "list",data:=.seq #[] }:=by rw[<-hs];exact dZ _ rfl
 have z0:(s.heap.push { cls:=.type "list",data:=.seq #[] }).get? (n+5)=some _:=cX _ hz;show#[#[_,hS,rfl],F.args_list_init_2 _ _,?_];show wpAny _ A.in1.in1 (do let old <-Ys (.ref (n+6));ajW (.ref (n+6)) (fun _=>#[]);letGo old.toList.reverse;Dj (.ref (n+6)) (.ref (n+5)) .none) _ _ _;refine au ?_;unfold Ys;refine au (pR hS rfl (aK ?_));show wpAny _ A.in1.in1 (Hs (n+6) (fun _=>#[]) >>= fun _=>letGo (#[]:Array Value).toList.reverse >>= fun _=>Dj (.ref (n+6)) (.ref (n+5)) .none) _ _ _;refine au (tZ hS rfl ?_);have hS₂:=pU (fZ (fun _=>(#[]:Array Value))) hS rfl;have oth:∀(h:Heap)(f:Obj->Obj) b o,b≠n+6->h.get? b=some o->(h.update (n+6) f).get? b=some o:=fun h f b o hb e=>(lY _ _ (aQ hb)).trans e;have z1:=oth _ (fZ (fun _=>(#[]:Array Value))) _ _ (ad1 n 5 6 tb_g%) z0;refine au (zZ ?_);unfold Dj;refine au (wQ (T := "zip") #[_,z1,rfl] ?_);have h1:Qg (.ref (n+6)) (.ref (n+5))=false:=by simp[Qg]
 have h2:(Value.type "zip" == Value.type "list")=false:=by decide
 have h3:(Value.type "zip" == Value.type "tuple")=false:=by decide
 simp only [h1,h2,h3,Yg,HD,if_false];refine au (Oq (f0:=.none) z1 ?_);refine au (iy ?_);unfold Yq;refine au (Hi (T := "zip") #[_,z1,rfl] ZD ?_);show wpAny _ _ (specialOf (Value.ref (n+5)) (aD "__length_hint__") >>= _) _ _ _;refine au (Hi (T := "zip") #[_,z1,rfl] Va ?_);refine aK ?_;show wpAny _ _ (rule "list.extend.makes-room" >>= fun _=>ajX (.ref (n+6)) >>= fun _ =>
  again (.builtin "list.extend.loop" #[[.ref (n+6),.ref (n+5),.none],[]])) _ _ _
 refine au (Ho ?_);refine au ?_;show wpAny _ _ (Hs (n+6) (·.push .none) >>= fun _=>Hs (n+6) (·.pop)) _ _ _;refine au (tZ hS₂ rfl ?_);have hS₃:=pU (fZ (·.push Value.none)) hS₂ rfl;refine tZ (hz:=by seq_fits) hS₃ rfl ?_;have hS₄:=pU (fZ (·.pop)) hS₃ rfl;have up:∀c o,s.heap.get? c=some o->((((s.heap.push { cls:=.type "list",data:=.seq #[] }).update (n+6) (fZ (fun _=>(#[]:Array Value)))).update (n+6) (fZ (·.push Value.none))).update (n+6) (fZ (·.pop))).get? c=some o:=fun c o e =>
  have ne:c≠n+6:=by rw[<-hs];exact bZ (bA e)
  oth _ _ _ _ ne (oth _ _ _ _ ne (oth _ _ _ _ ne (cX _ e)))
 refine aK #[oU F.plain_extend_loop _,DQ (show A.in1.handled=none from hh) (wZ (n+5)) e2 e3 hsz xs.size 0 _ [] _ rfl (cU _) (st.keep (fun T o _ e=>#[o,up T o e]) fun c o _ e=>up c o e) hS₄ #[rfl,.nil,fun j t e=>by simp at e] fun h' ts c g t q=>#[rfl,h h' ts c g t fun c o l e=>q c o l (up c o e)]]
end
end PySem
namespace L2
open PySem PySem.Spec PyProof.Rows
section
variable{X:Cx}{pins:List (Addr × Obj)}{σ:St}{H H':Hp}{s:Shared}{h':Heap}
theorem Inv.grow{t':Nat}(I:Inv X pins σ H s)(k:∀b u,s.heap.get? b=some u->h'.get? b=some u)(hb:∀b,b<s.heap.objs.size->H' b=H b)(new:∀b o,s.heap.objs.size<=b->H' b=some o->cA X.prog X.w H' h' b o):Inv X pins σ H' { s with heap:=h',toks:=t' }:=by
 have ht:∀b u,H b=some u->H' b=some u:=fun b u e=>by
  rwa[hb b (Nat.lt_of_not_le fun l=>by rw[I.hok.fresh l]at e;cases e)]
 refine I.step (g':=s.gens) (d':=s.drawn) (ch:=[]) (fun b hb=>absurd hb (by simp)) (fun b o _ _ _ e _=>k b o e) (fun b o _ _ _ e _=>#[o.slots,k b o e]) (fun b u _ e n=>by rwa[hb b (bA e)])
  (fun b o _ e=>#[o,k b o e]) (fun b xs e=>ht _ _ e) (fun b q u e=>ht _ _ e) (fun b ps e=>#[#[],by rw[ht _ _ e];simp]) (fun m hm=>?_) (fun b u e=>?_) I.bare
 ·obtain⟨o,es,ep,ho,r⟩:=hm;show#[o,es,ep,k _ o ho,r]
 ·by_cases l:b<s.heap.objs.size
  ·rw[hb b l]at e;exact(I.hok b u e).stay (fun c v _ q=>k c v q) (fun c q=>ht _ _ q) fun c xs q=>ht _ _ q
  ·exact new b u (aex l) e
def DR(H:Hp):List Addr->List (List V)->Hp
 |t::ts,r::rs=>upd (DR H ts rs) t (.tup r)
 |_,_=>H
theorem Jy{H:Hp}{b:Addr}:∀{ts:List Addr} {rs:List (List V)},b∉ts->DR H ts rs b=H b
 |[],_,_=>rfl
 |_::_,[],_=>rfl
 |t::ts,r::rs,h=>by
  rw[aZ,not_or]at h;show upd _ _ _ b=_;rw[ao h.1,Jy h.2]
theorem Nj{H:Hp}{b:Addr}{o:HO}:∀{ts:List Addr} {rs:List (List V)},DR H ts rs b=some o->(∃(i:Nat)(r:List V),ts[i]? = some b/\rs[i]? = some r/\o=.tup r)\/H b=some o
 |[],_,h=>.inr h
 |_::_,[],h=>.inr h
 |t::ts,r::rs,h=>by
  by_cases e:b=t
  ·subst e;have h:upd (DR H ts rs) b (.tup r) b=some o:=h;rw[aj]at h;cases h;exact .inl #[0,r,rfl,rfl,rfl]
  ·have h:upd (DR H ts rs) t (.tup r) b=some o:=h;rw[ao e]at h;rcases Nj h with⟨i,r',a,b',c⟩|h
   ·exact .inl #[i+1,r',by simpa using a,by simpa using b',c]
   ·exact .inr h
theorem aaU{H:Hp}:∀{ts:List Addr} {rs:List (List V)} {i:Nat} {b:Addr} {r:List V},ts.Nodup->ts[i]? = some b->rs[i]? = some r->DR H ts rs b=some (.tup r)
 |[],_,_,_,_,_,h,_=>by simp at h
 |_::_,[],_,_,_,_,_,h=>by simp at h
 |t::ts,r'::rs,i,b,r,n,h,h2=>by
  show upd (DR H ts rs) t (.tup r') b=_;cases i with
  |zero=>cases h;cases h2;rw[aj]
  |succ i =>
   have h:ts[i]? = some b:=by simpa using h
   have ne:b≠t:=fun e=>(fK.mp n).1 (by rw[<-e];exact mv h);rw[ao ne];exact aaU (fK.mp n).2 h (by simpa using h2)
def aaV(xs ys zs:List V):List (List V):=(xs.zip (ys.zip zs)).map fun r=>[r.1,r.2.1,r.2.2]
def acC(ta:TA):TE:=fun σ H Q=>ta σ H fun vs H1=>∃(a b c:Addr)(xs ys zs:List V),vs=[.ref a,.ref b,.ref c]/\H1 a=some (.lst xs)/\H1 b=some (.lst ys)/\H1 c=some (.lst zs)/\ys.length=xs.length/\zs.length=xs.length /\
 ∀p ts,H1 p=none->(∀t∈ts,H1 t=none/\t≠p)->ts.Nodup->ts.length=xs.length->Q (.ref p) (upd (DR H1 ts (aaV xs ys zs)) p (.lst (ts.map V.ref)))
theorem Jz:∀ts:List Addr,Vals (ts.map V.ref) (ts.map Value.ref)
 |[]=>.nil
 |_::ts=>.cons rfl (Jz ts)
theorem Vb{a b c:Expr}{ta:TA}{p p2 pos pos2:Pos}(hc:X.calm=true)(hg:Gl X "list")(hm:X.mg "list" = none)(hg2:Gl X "zip")(hm2:X.mg "zip" = none)(ha:PA X [a,b,c] ta)(hs:bh [a,b,c] X.env=(false,eval a X.env)::bh [b,c] X.env:=by rfl)
  (hs2:(dz pos2 (bh [b,c] X.env)).any (·.1)=false:=by rfl) (he:bh [.Call (.Name "zip" p2) [a,b,c] [] pos2] X.env=[(false,eval (.Call (.Name "zip" p2) [a,b,c] [] pos2) X.env)]:=by rfl):PE X (.Call (.Name "list" p) [.Call (.Name "zip" p2) [a,b,c] [] pos2] [] pos) (acC ta):=by
 walk_at "s"
 refine yj (iU I hg hm (show qL "list" = some (.type "list") by decide +kernel) ?_ tb_g% tb_g%);refine vY ?_ he rfl;rw[he];refine Ig (x:=eval (.Call (.Name "zip" p2) [a,b,c] [] pos2) X.env) (rest:=[]) (Call_ (iU I hg2 hm2 Yn (vY (thn (ha pos2 pins s σ H _ I h) fun us s1 zq=>?_) hs hs2)));obtain⟨vs,H1,I1,r1,q1⟩:=zq;obtain⟨l1,l2,l3,xs,ys,zs,e,e1,e2,e3,len2,len3,q⟩:=q1;subst e;cases r1 with
 |cons r rr =>
  cases rr with
  |cons r' rr =>
   cases rr with
   |cons r'' rr =>
    cases rr;cases r;cases r';cases r'';obtain⟨z1,us,n1,rv1,lu,g1⟩:=I1.tK e1;obtain⟨_,vs,n2,rv2,lv,g2⟩:=I1.tK e2;obtain⟨_,ws,n3,rv3,lw,g3⟩:=I1.tK e3;refine ZC (xs:=us.toArray) (ys:=vs.toArray) (zs:=ws.toArray) #[_,g1,rfl,n1,rfl] #[_,g2,rfl,n2,rfl] #[_,g3,rfl,n3,rfl] fun h1 st hz z6 hk=>Ih ?_;refine Lb (I1.ok.hd hc) z6 (by rw[cH,cH];lia) (by rw[cH,cH];lia) (by rw[cH];lia) st hz fun h' ts k gS tr keep=>?_;have lt:ts.length=xs.length:=by rw[tr.1,cH];lia
    have nt:∀t∈ts,s1.heap.objs.size+5<t/\t≠s1.heap.objs.size+6:=fun t m=>by
     obtain⟨j,hj⟩:=Gx m;show#[(tr.2.2 j t hj).1,(tr.2.2 j t hj).2.1]
    show#[.ref (s1.heap.objs.size+6),_,I1.grow (t':=s1.toks) (H':=upd (DR H1 ts (aaV xs ys zs)) (s1.heap.objs.size+6) (.lst (ts.map V.ref))) (fun b u e=>keep b u (bA e) (hk b u e)) (fun b l=>?_) (fun b o l e=>?_),rfl,
     q _ ts (I1.hok.fresh (jo _ _)) (fun t m=>#[I1.hok.fresh (fu (um (jo _ 5) (nt t m).1)),(nt t m).2]) tr.2.1 lt]
    ·rw[ao (bZ (cG l (jo _ _))),Jy fun m=>nH b (j6 (cG l (jo _ 5)) (nt b m).1)]
    ·by_cases z:b=s1.heap.objs.size+6
     ·subst z;rw[aj]at e;cases e;show#[by rwa[aB,lt],_,k,Jz ts,gS]
     ·rw[ao z]at e;rcases Nj e with⟨i,r,a1,a2,rfl⟩|e
      ·obtain⟨_,_,x,y,v,b1,b2,b3,b4⟩:=tr.2.2 i b a1;unfold aaV at a2;rw[cB,f9]at a2;obtain⟨⟨x',y',v'⟩,a2,rfl⟩:=a2;obtain⟨c1,c2⟩:=Gq.mp a2;obtain⟨c2,c3⟩:=Gq.mp c2;obtain⟨u1,d1,f1⟩:=rv1.get c1;obtain⟨u2,d2,f2⟩:=rv2.get c2;obtain⟨u3,d3,f3⟩:=rv3.get c3;have i1:u1=x:=by simpa[d1]using b1
       have i2:u2=y:=by simpa[d2]using b2
       have i3:u3=v:=by simpa[d3]using b3
       subst i1 i2 i3;show#[tb_g%,_,.cons f1 (.cons f2 (.cons f3 .nil)),#[_,b4,rfl,0,rfl]]
      ·rw[I1.hok.fresh l]at e;cases e
end
end L2
namespace L2
open PySem PySem.Spec PyProof.Rows PySem.Builtin PySem.Builtin.ObjectAttr PySem.Builtin.Getset_descriptor
structure DW(K:aF)(C:Addr):Prop where
 ga:eE K (.ref C) "__getattribute__" = some (some (.builtin "BaseException.__getattribute__"))
 gt:eE K (.ref C) "__getattr__" = some none
 cl:eE K (.ref C) "__class__" = some (some (.builtin "object.__class__"))
 sp:zQ K (.builtin "object.__class__") "__get__" = some (some (.builtin "getset_descriptor.__get__"))
 tk:Xg K (.builtin "object.__class__")=some true
 ex:jm K C (.type "BaseException")=some true
 ob:jm K C (.type "object")=some true
 se:jm K C (.ref C)=some true
 ty:wI K (.ref C)=some (.type "type")
section
variable{K:aF}{e C:Addr}{o:Obj}{prog:aG}{w:World}{A:aN}{E:Value->Shared->Prop}{s:Shared}
theorem iW{M:Model}{h:Heap}(he:h.get? e=some o)(hc:o.cls=.ref C):qK M h (Hx (.ref e)) (.ref C):=hc ▸ (afg he).andThen .now
theorem Bx{M:Model}{h:Heap}(kin:K.In h)(X:DW K C):qK M h (afn (.ref e) (.ref C) "__class__") (.bind (.builtin "getset_descriptor.__get__") (.builtin "object.__class__")):=by
 have l1:=GX (M:=M) kin X.cl;have l2:=PySem.W.looks_specialIn (M:=M) kin X.sp;have l3:=PySem.W.looks_takesIn (M:=M) kin X.tk;intro A Q E s k q;obtain⟨hh,g,d,t,os⟩:=s;have L1:=l1.keeps k;have L2:=l2.keeps k;have L3:=l3.keeps k;clear l1 l2 l3;unfold afn aj3 dN.ObjectAttr.dataDescriptor?
 repeat lk
 exact q
theorem Ld{tp:Value}{R:lW->Shared->Prop}(kin:K.In s.heap)(X:DW K C)(he:s.heap.get? e=some o)(hc:o.cls=.ref C)(h:R (.ok (.ret (.ref C))) s):
  fC (model prog w) A (.call (.builtin "getset_descriptor.__get__") #[[.builtin "object.__class__",.ref e,tp],[]]) R s:=by
 obtain⟨hh,g,dr,t,os⟩:=s;have L0:=iW (M:=model prog w) he hc;have L1:=N8 (M:=model prog w) kin X.ob;refine wK afA.plain akr ?_;refine afA.check _ _ _ _ _ _ _ _ akq (aks _ _ _) ?_;unfold dN.«getset_descriptor.__get__» descrGet;rw[PySem.W.dga_obj];refine au (aK ?_);unfold descrGetter descrCheckInstance descrNameAndClass O8;simp only[ako]
 repeat lk
 show#[YG _ tb_g%,?_];refine vX akp ?_;unfold dN.«object.__class__» shownTypeOf
 repeat lk
 exact h
theorem Nm{M:Model}{nameV:Value}{Q:Unit->Shared->Prop}(kin:K.In s.heap)(X:DW K C)(he:s.heap.get? e=some o)(hc:o.cls=.ref C)(hq:Q () s):
  wpAny M A (Oo "BaseException.__getattribute__" #[[.ref e,nameV],[]]) Q E s:=by
 obtain⟨hh,g,dr,t,os⟩:=s;have L0:=iW (M:=M) he hc;have L1:=N8 (M:=M) kin X.ex;have L2:qK M hh (O8 (.ref e) (.type "BaseException")) true:=L0.andThen L1;have hk:XD "BaseException.__getattribute__" = some .slot:=by decide +kernel
 have hsp:splitId "BaseException.__getattribute__" = some ("BaseException","__getattribute__"):=by decide +kernel
 have ha:=F.args_bexc_ga (.ref e) nameV;simp only[Oo,hk,hsp];refine au (L2.at ?_)
 repeat (first|wp_step|lk)
 all_goals exact hq
theorem acD{tk:Tok}{Q:aeo->Shared->Prop}(kin:K.In s.heap)(X:DW K C)(he:s.heap.get? e=some o)(hc:o.cls=.ref C)(hq:Q (.done (.ret (.ref C))) s):
  wpAny (model prog w) A (dN.«object.__getattribute__» #[[.ref e,.str "__class__" tk],[]]) Q E s:=by
 obtain⟨hh,g,dr,t,os⟩:=s;have L0:=iW (M:=model prog w) he hc;have L1:=Bx (e:=e) (M:=model prog w) kin X;unfold dN.«object.__getattribute__»;refine au (aK (a:=(Value.ref e,[Value.str "__class__" tk])) ?_);dsimp only;refine au (aK (a:=("__class__" : Str)) ?_);refine au (L0.at ?_);refine au (L1.at ?_);dsimp only;unfold bindTo;refine au (iy (lR ?_));exact Ld kin X he hc (aK hq)
theorem alO{tk:Tok}{Q:Value->Shared->Prop}(kin:K.In s.heap)(X:DW K C)(he:s.heap.get? e=some o)(hc:o.cls=.ref C)(hq:Q (.ref C) s):
  wpAny (model prog w) A (Ph (.ref e) (.str "__class__" tk) false) Q E s:=by
 obtain⟨hh,g,dr,t,os⟩:=s;have L0:=iW (M:=model prog w) he hc;have L1:=GX (M:=model prog w) kin X.ga;have L2:=GX (M:=model prog w) kin X.gt;have hx2:(Value.builtin "BaseException.__getattribute__" == Value.builtin "object.__getattribute__")=false:=by decide +kernel
 have hb:=F.attr_ValueError.ga.bind (.ref e);unfold Ph;refine iy (au (L0.at (au (L1.at ?_))));dsimp only;rw[hx2,Ai,if_neg cM];unfold ad5 hookBefore;rw[if_pos (show X4 (Value.ref C)=true from rfl)];refine au (L2.at ?_);refine au (Oz (iy ?_));unfold ad3;rw[aeE,if_neg cM];unfold aec;rw[hb];refine au (aK ?_);refine lR (wK F.attr_ValueError.ga.plain F.entry_bexc_ga (Nm kin X he hc (acD kin X he hc ?_)))
 repeat (first|exact hq|wp_step|lk)
theorem ahb{Q:Option Value->Shared->Prop}(kin:K.In s.heap)(X:DW K C)(he:s.heap.get? e=some o)(hc:o.cls=.ref C)(hq:Q (some (.ref C)) { s with toks:=s.toks+1 }):
  wpAny (model prog w) A (getAttr? (.ref e) "__class__") Q E s:=by
 obtain⟨hh,g,dr,t,os⟩:=s;unfold getAttr? getAttrBy?;refine au (aen (au (Oz ?_)));exact alO (s:=#[hh,g,dr,t+1,os]) kin X he hc (aK hq)
theorem Vc(X:DW K C):PySem.W.KitX K (.ref e) (.ref C) (fun h=>∃o,h.get? e=some o/\o.cls=.ref C) where
 ty:=fun _ _ _ ⟨_,he,hc⟩=>iW he hc
 it:=fun _ _ kin _=>(adL kin (Jk (K:=K) (C:=C) (B:=C) (r:=true) X.se X.ob X.ty)).2.1
 ne:=fun h tp dd its n sl kin htp=>by
  refine Bool.eq_false_iff.mpr fun q=>?_;have e1:C=tp:=ak5 (beq_iff_eq.mp q);subst e1;have k:=X.ob;unfold jm Oh at k;split at k
  ·rename_i ho;have z:=(kin _ _ ho).symm.trans htp;cases z
  ·cases k
 ca:=fun kin ⟨_,he,hc⟩ k=>ahb kin X he hc k
end
section
variable{X:Cx}
def ajA(K:aF):List V->Hp->VK->Prop:=fun xs H Q=>∃e C dd c cv b,xs=[.ref e,c]/\H e=some (xJ e C dd)/\DW K C/\RelV c cv/\(∀u,RelV c u->u=cv)/\nF K (.ref C) cv=some b/\Q (.bl b) H
theorem acE:fU X (.builtin "isinstance") (ajA X.K):=by
 walk_at "w"
 obtain⟨e,C,dd,c,cv,b,rfl,he,xc,rc,inj,k,q⟩:=h;obtain⟨u,w',rfl,ru,rw'⟩:=vals2 r;obtain rfl:=inj w' rw';obtain rfl:u=Value.ref e:=ru;obtain⟨⟨o,p1,p2,_⟩,_,_⟩:=(show cA X.prog X.w H s.heap e (xJ e C dd)from I.hok e _ he);exact rY (Vc xc) I.kIn ⟨o,p1,p2⟩ k (fun z=>nomatch z) fun tk=>⟨.bl b,H,I.tok tk,rfl,q⟩
def ahc(K:aF):List V->Hp->VK->Prop:=fun xs H Q=>∃(e C tp:Addr)(dd:Option Addr)(cs:List Addr)(b:Bool),xs=[.ref e,.ref tp]/\H e=some (xJ e C dd)/\DW K C/\H tp=some (.tup (cs.map V.ref))/\Xk K (.ref C) (cs.map Value.ref)=some b/\Q (.bl b) H
theorem Np:∀{cs:List Addr}{us:List Value},Vals (cs.map V.ref) us->us=cs.map Value.ref
 |[],_,.nil=>rfl
 |_::_,_,.cons r t=>by rw[dM,<-Np t];cases r;rfl
theorem ZF:fU X (.builtin "isinstance") (ahc X.K):=by
 walk_at "w"
 obtain⟨e,C,tp,dd,cs,b,rfl,he,xc,ht,k,q⟩:=h;obtain⟨u,w',rfl,ru,rw'⟩:=vals2 r;obtain rfl:u=Value.ref e:=ru;obtain rfl:w'=Value.ref tp:=rw';obtain⟨⟨o,p1,p2,_⟩,_,_⟩:=(show cA X.prog X.w H s.heap e (xJ e C dd)from I.hok e _ he);obtain⟨_,its,rv,⟨oc,od,odt,osl⟩,ho,hcl,n,hd⟩:=(show cA X.prog X.w H s.heap tp (.tup (cs.map V.ref))from I.hok tp _ ht);have hi:=Np rv;subst hi;simp only at hcl hd;subst hcl hd;exact PySem.W.kia_tup (Vc xc) I.kIn ⟨o,p1,p2⟩ ho k (fun z=>nomatch z) fun tk=>⟨.bl b,H,I.tok tk,rfl,q⟩
end
end L2
namespace L2
open PySem PySem.Spec PyProof.Rows
section
variable{X:Cx}{k:Addr}{o e:Expr}{es:List Expr}{to:TE}{t:TA}{name:Str}{apos cpos:Pos}{T id:String}{r:V->List V->Hp->VK->Prop}
theorem alP(pa:XQ T)(slot:Slot T name id)(hty:Hx (.builtin id)=pure (.type "method_descriptor"))(hm:MtR (X.marked k) id r)(ho:PE (X.marked k) o to)(ha:PA (X.marked k) (e::es) t)
  (hbase:rZ o name X.env (eval o X.env)=eval o X.env:=by rfl)
  (hfew:((dz cpos (bh (e::es) X.env)).all (fun x=>!x.1) && (z9 cpos (zY [] X.env)).all (fun x=>x.1.isSome)
   && decide ((e::es).length+([]:List lU).length+(if ([]:List lU).isEmpty then 0 else 1)<30))=true:=by rfl)
  (hline:(apos.endLine == cpos.line)=true:=by rfl) (hs:bh (e::es) X.env=(false,eval e X.env)::bh es X.env:=by rfl) (hplain:(dz cpos (bh es X.env)).any (·.1)=false:=by rfl):
  PE (X.marked k) (.Call (.Attribute o name apos) (e::es) [] cpos) (tBM X.K T r to t):=jy pa slot hty hm ho ha hbase hfew hline hs hplain
theorem Vd:fU (X.marked k) (.builtin "isinstance") (ahc X.K):=ZF
theorem JB:fU (X.marked k) (.builtin "isinstance") (ajA X.K):=acE
end
abbrev acF(vs:List Value):Obj:={ cls:=.type "tuple",data:=.seq vs.toArray }
abbrev Q8(C t:Addr)(dd:Option Addr):Obj:={ cls:=.ref C,dict:=dd,data:=.fields [.ref t,.none,.none,.none,.bool false,.none].toArray }
abbrev Ve(h:Heap)(C:Addr)(vs:List Value):Heap:=(h.push (acF vs)).push (Q8 C h.objs.size none)
structure XI(K:aF)(C f:Addr)(bmB:List Value)(newId:String):Prop where
 ob:∃nm q N bs bm hd sn sub ab col dd k0 k1 k2 k3 k5,K.lookup C=some (O6 nm q C N bs bm hd sn sub ab col dd k0 k1 k2 k3 k5 newId)/\Xi K bmB bm=true/\Xj K N=true/\cT K N "__init__" = some (some (.ref f))
section
variable{prog:aG}{w:World}{A:aN}{E:Value->Shared->Prop}{h:Heap}{g:Array X5}{d:Drawn}{t:Nat}{os:OsState}
variable{nm q:Str}{C N:Addr}{bs bm bmB:List Value}{hd:Bool}{sn:List Str}{sub:List Value}{ab:Bool}{col:Option Bool}{dd:Option Addr}{k0 k1 k2 k3 k5:Option Value}{B newId initId:String}
theorem ZG(F:Hl B newId initId bmB)(T:OwnTail h bmB bm){mN:Str->Option Value}{vs:List Value}{f:Addr}{o:Obj}{Q:Fin->Shared->Prop}
  (hC:h.get? C=some (O6 nm q C N bs bm hd sn sub ab col dd k0 k1 k2 k3 k5 newId)) (hn:h.Ns N mN) (hi:mN "__init__" = some (.ref f)) (ho:h.get? f=some o) (hc:o.cls=.type "function") (few:vs.length<=sizeLine)
  (hq:wpAny (model prog w) A (call (.ref f) (.ref (h.objs.size+1)::vs)) (fun r s'=>r=.none/\Q (.done (.ret (.ref (h.objs.size+1)))) s') E #[Ve h C vs,g,d,t,os]):
  wpAny (model prog w) A (dN.«type.__call__» #[.ref C::vs,[]]) Q E #[h,g,d,t,os]:=by
 repeat (first|with_reducible refine Hg hC ?_|with_reducible refine wpAny_madeBy_exc hC ?_|wp_step)
 refine codeAny_call_builtin_code (YG _ F.quiet) (wpAny_check_new_subT F T hC (codeAny_exc_new_subT F T hC ?_ few));show wpAny _ _ _ _ _ _;have up:∀b u,h.get? b=some u->(Ve h C vs).get? b=some u:=fun b u z=>cX _ (cX _ z);have hget:(Ve h C vs).get? (h.objs.size+1)=some (Q8 C h.objs.size none):=by heap_get
 have hC1:=up _ _ hC;have hcC:(Value.ref C::bm).contains (.ref C)=true:=by simp
 unfold O8
 repeat (first|with_reducible refine Hg hget ?_|(with_reducible refine adT hC1 ?_;rw[hcC])|wp_step)
 show wpAny _ _ (uc (.ref C) _) _ _ _;refine wpAny_typeLookup_tail hC1 (hn.keeps up) (T.keeps up) F.mroIs F.init.lookup ?_;rw[hi];refine iy (au ?_);unfold bindSpecial;refine au (wQ (T := "function") #[_,up _ _ ho,hc] ?_);rw[if_pos tb_g%];refine aK (au (cO hq (fun r s' zq=>?_) fun _ _ x=>x));obtain⟨e,z⟩:=zq;subst e
 wp_walk
 exact z
theorem xcall(F:Hl B newId initId bmB)(T:OwnTail h bmB bm){mN:Str->Option Value}{vs:List Value}{f:Addr}{o:Obj}{Q:Value->Shared->Prop}
  (hC:h.get? C=some (O6 nm q C N bs bm hd sn sub ab col dd k0 k1 k2 k3 k5 newId)) (hn:h.Ns N mN) (hi:mN "__init__" = some (.ref f)) (ho:h.get? f=some o) (hc:o.cls=.type "function") (few:vs.length<=sizeLine)
  (hq:wpAny (model prog w) (A.under (.builtin "type.__call__" #[.ref C::vs,[]])) (call (.ref f) (.ref (h.objs.size+1)::vs)) (fun r s'=>r=.none/\Q (.ref (h.objs.size+1)) s') E #[Ve h C vs,g,d,t,os]):
  wpAny (model prog w) A (call (.ref C) vs) Q E #[h,g,d,t,os]:=by
 have f1:=tc_lookup;have f2:=tc_bind (.ref C);have hT:(#[h,g,d,t,os]:Shared).TypeIs (.ref C) "type" := #[_,hC,rfl];refine lR (codeAny_of_tree ?_);show wpAny _ _ (callAny (.ref C) _) _ _ _
 repeat (any_goals (first|assumption|with_reducible refine Hg hC ?_|wp_step))
 show#[rfl,?_];exact codeAny_call_builtin_at (YG _ tb_g%) entry_typeCall (wpAny_check_type_call_sub hC (ZG F T hC hn hi ho hc few hq))
end
def rG(e C:Addr)(dd:Option Addr):HO:=.ext fun h=>∃t,h.get? e=some (Q8 C t dd)
structure XB(K:aF)(CB:Addr)(initId:String):Prop where
 sp:zQ K (.ref CB) "__getattribute__" = some (some (.builtin "type.__getattribute__"))
 rd:adH K CB (.type "type")=true
 fd:adI K (.ref CB) (.type "type") "__init__" = some (.val (.builtin initId))
def alQ(C:Addr)(ta:TA):TE:=fun σ H Q=>ta σ H fun vs H1=>∃e z,vs=[.ref e,.str z]/\H1 e=some (rG e C none)/\Q .non H1
section
variable{X:Cx}{C f CB:Addr}{bmB:List Value}{B newId initId:String}{x:Str}{np apos pos:Pos}{e₀ e₁:Expr}{ta:TA}
theorem ahd{H:Hp}{e:Addr}{o:HO}(q:H e=some o):upd H e o=H:=by
 funext b
 unfold upd;split
 ·rename_i z;rw[z];exact q.symm
 ·rfl
theorem Q9{P:aG}{w:World}{H:Hp}{h:Heap}{e C t:Addr}{dd:Option Addr}(q:h.get? e=some (Q8 C t dd)):cA P w H h e (rG e C dd):=#[#[t,q],#[_,q],fun _ _ ⟨t,r⟩ k=>#[t,k _ r]]
theorem ahe{pl:Sem Bool}(FB:Hl B newId initId bmB)(hx:XI X.K C f bmB newId)(hb:XB X.K CB initId)(hh:Od (.builtin initId)=true)(hg:Gl X x)(hm:X.mg x=some (.ref CB))(ha:PA X [e₀,e₁] ta)
  (hdb:(x == ("__debug__" : Str))=false:=by decide)
  (ht:eval (.Call (.Attribute (.Name x np) "__init__" apos) [e₀,e₁] [] pos) X.env=(do
   let ov <-eval (.Name x np) X.env
   standAt apos.atName
   let (f,first) <-Aa [ov] (getMethod ov "__init__" pl)
   callWith pos f first (dz pos (bh [e₀,e₁] X.env)) (z9 pos (zY [] X.env))):=by rfl)
  (he:bh [e₀,e₁] X.env=(false,eval e₀ X.env)::bh [e₁] X.env:=by rfl) (hpl:(dz pos (bh [e₁] X.env)).any (·.1)=false:=by rfl):
  PE X (.Call (.Attribute (.Name x np) "__init__" apos) [e₀,e₁] [] pos) (alQ C ta):=by
 walk_at "s"
 refine PySem.W.methodCall_KW (pl:=pl) (oF I hg hm ?_ hdb) ht;refine PySem.W.method_cls I.kIn hb.sp (PySem.W.cls_value I.kIn hb.rd hb.fd hh ?_);refine aeK (thn (ha pos pins _ σ H _ (I.tok _) h) fun us s1 zq=>?_) he hpl;obtain⟨vs,H1,I1,r1,e,z,ev,q,k⟩:=zq;subst ev;obtain⟨u,v,rfl,ru,rv⟩:=vals2 r1;obtain rfl:u=Value.ref e:=ru
 k_dat (tk,tk,v,z,rv) "A"
 obtain⟨⟨t,he⟩,_,_⟩:=(show cA X.prog X.w H1 s1.heap e (rG e C none)from I1.hok e _ q);obtain⟨nm,qn,N,bs,bm,hd,sn,sub,ab,col,dd,k0,k1,k2,k3,k5,lk,tl,ok,ni⟩:=hx.ob;have hC:=I1.kIn _ _ lk;have T:=Ob I1.kIn tl;have key:∀s2,s2={ s1 with heap:=(s1.heap.push (acF [.str z tk])).update e (Aq fun a=>a.setIfInBounds 0 (.ref s1.heap.objs.size)) }->EP X pins σ Q .none s2:=fun s2 e2=>by
  subst e2;have he1:(s1.heap.push (acF [.str z tk])).get? e=some (Q8 C t none):=cX _ he;have I2:=I1.kept (t':=s1.toks) (h':=s1.heap.push (acF [.str z tk])) fun b u r=>cX _ r;have I3:=I2.write (x:=e) (e:=e) (o:=rG e C none) (t':=s1.toks) (h':=(s1.heap.push (acF [.str z tk])).update e (Aq fun a=>a.setIfInBounds 0 (.ref s1.heap.objs.size))) (by rw[q];exact True.intro) (.inl rfl)
   (fun b u nb r=>(lY _ _ (aQ nb)).trans r) #[_,pU _ he1 rfl] (Q9 (t:=s1.heap.objs.size) (pU _ he1 rfl))
  rw[ahd q]at I3;show#[.non,H1,I3,rfl,k]
 obtain⟨hh,g,d,tt,os⟩:=s1;refine lR (wK FB.init.plain FB.initEntry (wpAny_check_init_subT FB T hC he rfl ?_))
 wp_walk
 exact key _ rfl
end
structure XS(K:aF)(C:Addr)(f:Str):Prop where
 sa:eE K (.ref C) "__setattr__" = some (some (.builtin "object.__setattr__"))
 na:bG K C f
 hd:tW K C=true
 ob:jm K C (.type "object")=some true
theorem Vf{h:Heap}{bmB l:List Value}(T:OwnTail h bmB l){self:Value}(hp:Pa self "__setattr__" bmB=pure ()):Pa self "__setattr__" l=pure ():=by
 induction T with
 |base=>exact hp
 |own _ _ _ _ ih=>rwa[refuseLoop_ref]
section
variable{X:Cx}{pins:List (Addr × Obj)}{σ:St}{H:Hp}{s:Shared}{e d C t:Addr}{fs:List (Str × V)}{h':Heap}
theorem Inv.xlaid{t':Nat}{mA:Str->Option Value}(I:Inv X pins σ H s)(q:H e=some (rG e C none))(hd:s.heap.objs.size<=d)(k:∀b o,b≠e->s.heap.get? b=some o->h'.get? b=some o)(he:h'.get? e=some (Q8 C t (some d)))
  (hn:h'.Ns1 d mA) (hf:∀f,qZ (fs.lookup f) (mA f)):Inv X pins σ (upd (upd H d (.xd fs)) e (rG e C (some d))) { s with heap:=h',toks:=t' }:=by
 have nd:H d=none:=I.hok.fresh hd;have ne:d≠e:=fun z=>by rw[z,q]at nd;cases nd
 have oth:∀{b:Addr},b≠e->b≠d->upd (upd H d (.xd fs)) e (rG e C (some d)) b=H b:=fun n1 n2=>by rw[ao n1,ao n2]
 have new:∀{b:Addr}{o:Obj},s.heap.get? b=some o->b≠d:=fun r z=>nH _ (cG (bA r) (z ▸ hd));have nt:∀{b:Addr}{o:HO},H b=some o->(∀φ,o≠.ext φ)->b≠e/\b≠d:=fun r n=>#[fun z=>by rw[z,q]at r;cases r;exact n _ rfl,fun z=>by rw[z,nd]at r;cases r];refine I.un #[fun b o r n _ _=>k b o (fun z=>by rw[z,q]at n;cases n) r,fun b o r n _ _=>#[o.slots,k b o (fun z=>by rw[z,q]at n;cases n) r],fun b o r n _=>?_,fun b o r _=>?_,fun b xs r=>?_,fun b o u r=>?_,fun b ps r=>#[#[],?_]] fun b o r=>?_
 ·rwa[oth (fun z=>by rw[z,q]at n;cases n) (new r)]
 ·by_cases z:b=e
  ·show#[_,z ▸ he]
  ·show#[o,k b o z r]
 ·obtain⟨a,c⟩:=nt r (fun _ z=>nomatch z);rwa[oth a c]
 ·obtain⟨a,c⟩:=nt r (fun _ z=>nomatch z);rwa[oth a c]
 ·obtain⟨a,c⟩:=nt r (fun _ z=>nomatch z);rw[oth a c,r,Array.append_empty]
 ·by_cases z:b=e
  ·subst z;rw[aj]at r;cases r;exact Q9 he
  ·rw[ao z]at r;by_cases y:b=d
   ·subst y;rw[aj]at r;cases r;show#[mA,hn,hf]
   ·rw[ao y]at r;refine(I.hok b o r).stay (fun c u hc p=>k c u ?_ p) (fun c p=>?_) fun c xs p=>?_
    ·rcases hc with rfl|hc
     ·exact z
     ·exact(nt hc (fun _ z=>nomatch z)).1
    ·obtain⟨a,g⟩:=nt p (fun _ z=>nomatch z);rwa[oth a g]
    ·obtain⟨a,g⟩:=nt p (fun _ z=>nomatch z);rwa[oth a g]
theorem xset{A:aN}{E:Value->Shared->Prop}{f:Str}{fI:Addr}{bmB:List Value}{newId:String}{y:V}{u:Value}{Q:Unit->Shared->Prop}(I:Inv X pins σ H s)(q:H e=some (rG e C none))(hx:XI X.K C fI bmB newId)(hs:XS X.K C f)
  (hp:∀self,Pa self "__setattr__" bmB=pure ()) (ry:RelV y u) (k:∀d s',H d=none->d≠e->Inv X pins σ (upd (upd H d (.xd [(f,y)])) e (rG e C (some d))) s'->Q () s'):wpAny (model X.prog X.w) A (setAttr (.ref e) f u) Q E s:=by
 obtain⟨⟨t,he⟩,_,_⟩:=(show cA X.prog X.w H s.heap e (rG e C none)from I.hok e _ q);obtain⟨nm,qn,N,bs,bm,hd,sn,sub,ab,col,dd,k0,k1,k2,k3,k5,lk,tl,ok,ni⟩:=hx.ob;have J:Xm s.heap e (Q8 C t none) C none:=#[he,rfl,rfl,trivial];have hC:=I.kIn _ _ lk;obtain⟨cd,hc,hdc⟩:=adG hs.hd;have ecd:cd.mro=.ref C::bm:=by
  unfold Oh at hc;rw[lk]at hc;cases hc;rfl
 have SF:=PySem.F.store_object;have K1:=I.kIn;have T:=Ob K1 tl;refine adD K1 J hs.sa (wK SF.slot.plain SF.entry (@PySem.W.check_slot (model X.prog X.w) _ _ { s with toks:=s.toks+1 } "object.__setattr__" "object" "__setattr__" (.ref e) [.str f s.toks,u] [] _ SF.kind SF.split (J.type.andThen (N8 K1 hs.ob)) (SF.args (.ref e) (.str f s.toks) u) ?_));have hm:qK (model X.prog X.w) s.heap (mroOf (.ref C)) cd.mro:=(Xe K1 hc).andThen .now;rw[PySem.W.osa_eq,refuse_eq];refine au (au (Ar (s:={ s with toks:=s.toks+1 }) J.type (au (Ar (s:={ s with toks:=s.toks+1 }) hm ?_))));rw[ecd,refuseLoop_ref,Vf T (hp _)];refine aK (au (Ar (s:={ s with toks:=s.toks+1 }) J.type (au (Ar (s:={ s with toks:=s.toks+1 }) (GX K1 hs.na) (au (aK ?_))))));have hxs:e≠s.heap.objs.size:=bZ (bA he);have he1:(s.heap.push pQ).get? e=some (Q8 C t none):=cX _ he;refine au (aK (au (au (ad7 he (au (Ar (s:={ s with toks:=s.toks+1 }) (Xe K1 hc) ?_))))));rw[hdc];refine au (wpAny_alloc' ?_);refine au (wpAny_update' he1 (aK ?_));have hgd:((s.heap.push pQ).update e fun o=>{ o with dict:=some s.heap.objs.size }).get? s.heap.objs.size=some pQ:=(aep _ _ _ _ hxs.symm).trans (aer rfl rfl);have hnd:((s.heap.push pQ).update e fun o=>{ o with dict:=some s.heap.objs.size }).Ns s.heap.objs.size (fun _=>none):=#[_,#[],_,hgd,rfl,fun _ he=>absurd he (by simp),fun _=>rfl];show wpAny _ _ (afm s.heap.objs.size (.str f s.toks) f u) _ _ _;unfold afm aj2;refine au (aK (au (ael (afB hnd) fun h' hn' hss=>?_)));obtain⟨oD,esD,epD,hoD,hdD,hcD⟩:=hn'.count (Within.cons f u Within.nil);refine au (adZ hoD (by rw[hdD];exact ad0 (bW hcD (by rw[cJ,N5,zX];lia))) ?_);refine aK (k s.heap.objs.size _ (I.hok.fresh (aO _)) hxs.symm (I.xlaid (t:=t) q (aO _) (fun b o n r=>(hss.2 b (bZ (bA r))).trans ((aep _ _ _ _ n).trans (cX _ r))) ((hss.2 e hxs).trans (pU _ he1 rfl)) hn' fun g=>?_));by_cases z:g=f
 ·subst z;simp only[tV,beq_self_eq_true,if_true];exact ry
 ·rw[if_neg z,aiF z];exact True.intro
end
def sXfld(C:Addr)(ta tv:TE)(f:Str):TS:=fun D σ H=>tv σ H fun y H1=>ta σ H1 fun x H2=>∃e,x=.ref e/\H2 e=some (rG e C none)/\∀d,H2 d=none->d≠e->D.nx σ (upd (upd H2 d (.xd [(f,y)])) e (rG e C (some d)))
theorem aiM{X:Cx}{o value:Expr}{f:Str}{pos pos':Pos}{ta tv:TE}{C fI:Addr}{bmB:List Value}{newId:String}(hx:XI X.K C fI bmB newId)(hs:XS X.K C f)(hp:∀self,Pa self "__setattr__" bmB=pure ())(ha:PE X o ta)(hv:PE X value tv)
  (hw:ug value (some (.Attribute o f pos')) pos.line X.env=pure false:=by rfl):PS X (.Assign [.Attribute o f pos'] value pos) (sXfld C ta tv f):=by
 walk_at "I"
 refine adM (thn (hv pins s σ H _ I h) fun u s1 ⟨y,H1,I1,ry,q⟩=>thn (ha pins s1 σ H1 _ I1 q) fun ov s2 zq=>?_) hw;obtain⟨x,H2,I2,rx,e,ex,ea,k⟩:=zq;subst ex;obtain rfl:ov=Value.ref e:=rx;exact xset I2 ea hx hs hp ry fun d s3 n1 n2 I3=>#[σ,_,I3,k d n1 n2]
def DX(H:Hp)(e:Addr):Hp:=fun b=>if b=e then none else H b
theorem yO{H:Hp}{e b:Addr}(n:b≠e):DX H e b=H b:=if_neg n
theorem vP{H:Hp}{e:Addr}:DX H e e=none:=if_pos rfl
theorem yP{H:Hp}{e b:Addr}{φ:Heap->Prop}{o:HO}(q:H e=some (.ext φ))(r:H b=some o)(n:∀φ,o≠.ext φ):DX H e b=some o:=by
 rwa[yO fun z=>?_];rw[z,q]at r;cases r;exact n _ rfl
theorem HOk.DX{P:aG}{w:World}{H:Hp}{h:Heap}{e:Addr}{φ:Heap->Prop}(x:HOk P w H h)(q:H e=some (.ext φ)):HOk P w (DX H e) h:=fun b o r=>by
 by_cases z:b=e
 ·rw[z,vP]at r;cases r
 ·rw[yO z]at r;exact(x b o r).stay (fun _ _ _ p=>p) (fun c p=>yP q p fun _ z=>nomatch z) fun c xs p=>yP q p fun _ z=>nomatch z
theorem Un.DX{fs:List Addr}{H0 H:Hp}{g h:Heap}{e:Addr}{φ:Heap->Prop}(u:Un fs [] H0 H g h)(q:H e=some (.ext φ)):Un fs [] H0 (DX H e) g h where
 keep:=u.keep
 slot:=u.slot
 free:=fun b o r n x=>by
  by_cases z:b=e
  ·rw[z,vP]
  ·rw[yO z];exact u.free b o r n x
 there:=u.there
 tups:=fun b xs r=>yP q (u.tups b xs r) fun _ z=>nomatch z
 rm:=fun b o v r=>yP q (u.rm b o v r) fun _ z=>nomatch z
 uH:=fun b ps r=>by
  obtain⟨m,p⟩:=u.uH b ps r;show#[m,yP q p fun _ z=>nomatch z]
theorem alR{M:Model}{A:aN}{E:Value->Shared->Prop}{s:Shared}{env:Env}{nm q:Str}{C N:Addr}{bs bm:List Value}{hd:Bool}{sn:List Str}{sub:List Value}{ab:Bool}{col:Option Bool}{dd:Option Addr}{k0 k1 k2 k3 k5:Option Value}{newId:String}
  {x:Sem Value} {Q:Flow->Shared->Prop} (hb:bm.contains (.type "BaseException")=true) (hh:A.handled=none)
  (h:wpAny M A x (fun v s1=>∃e t d,v=.ref e/\s1.heap.get? C=some (O6 nm q C N bs bm hd sn sub ab col dd k0 k1 k2 k3 k5 newId)/\s1.heap.get? e=some (Q8 C t d)/\E (.ref e) s1) E s):
  wpAny M A (raiseStmt env (some x) none) Q E s:=by
 have hcB:(Value.ref C::bm).contains (.type "BaseException")=true:=by rw[List.contains_cons,hb,Yi]
 unfold raiseStmt;refine au (cO h (fun v s1 zq=>?_) fun _ _ z=>z);obtain⟨e,t,d,ev,hC,he,hE⟩:=zq;subst ev;obtain⟨hp,g,dr,tk,os⟩:=s1
 repeat (first|with_reducible refine Hg he ?_|with_reducible refine Hg hC ?_|(with_reducible refine adT hC ?_;rw[hcB])|wp_step)
 exact wpAny_raiseNew_none hh hE
theorem aiN{K:aF}{h:Heap}{N:Addr}{m:Str->Option Value}{n:Str}{v:Value}(X:K.In h)(G:h.Ns N m)(e:cT K N n=some (some v)):m n=some v:=by
 obtain⟨o,es,ep,ho,hd,_,hf⟩:=G;unfold cT at e;split at e
 ·rename_i q;have z:=(X _ _ q).symm.trans ho;cases z;cases hd;split at e
  ·rename_i en he;cases e;rw[<-hf,nsFind,findBy,<-ae1,he];rfl
  ·split at e <;> cases e
 ·cases e
def aaW(C:Addr)(sp:Sp)(E:XK)(ta:TA):TS:=fun _ σ H=>ta σ H fun vs H1=>vs.length<=sizeLine/\∀e,H1 e=none->sp (.ref e::vs) (upd H1 e (rG e C none)) (fun v H2=>v=.non/\∃dd,H2 e=some (rG e C dd)/\E (.ref C) dd (DX H2 e)) E0
section
variable{P:aG}{w:World}{K:aF}{mg:Str->Option Value}{base:Heap}{N:List Str}{qual:Str}{scope:Scope}{f:Addr}{cd:Value}{A:aN}{outer:List Env}{s:Shared}{H:Hp}{E:XK}
theorem acG{e₀:Expr}{rest:List Expr}{x:Str}{np cpos pos:Pos}{ta:TA}{C fI:Addr}{bmB:List Value}{B newId initId:String}{k:Nat}{fd:FuncData}{ps:List Str}{sp:Sp}(FB:Hl B newId initId bmB)(hx:XI K C fI bmB newId)
  (hf:wI K (.ref fI)=some (.type "function")) (hk:lQ K (.ref C)=true) (F:nA P w K mg base CX0 k fI fd ps sp) (hb:Binds K fd ps []) (hr:fD (k+1) (jx (CXE P w) P w K mg base N qual scope f cd A outer s H E).A)
  (hg:Gl (jx (CXE P w) P w K mg base N qual scope f cd A outer s H E) x) (hm:mg x=some (.ref C)) (ha:PA (jx (CXE P w) P w K mg base N qual scope f cd A outer s H E) (e₀::rest) ta)
  (he:bh (e₀::rest) (jx (CXE P w) P w K mg base N qual scope f cd A outer s H E).env=(false,eval e₀ (jx (CXE P w) P w K mg base N qual scope f cd A outer s H E).env)::bh rest (jx (CXE P w) P w K mg base N qual scope f cd A outer s H E).env:=by rfl)
  (hpl:(dz cpos (bh rest (jx (CXE P w) P w K mg base N qual scope f cd A outer s H E).env)).any (·.1)=false:=by rfl) (hd:(x == ("__debug__" : Str))=false:=by decide):
  PS (jx (CXE P w) P w K mg base N qual scope f cd A outer s H E) (.Raise (some (.Call (.Name x np) (e₀::rest) [] cpos)) none pos) (aaW C sp E ta):=by
 intro pins s1 σ H1 D I h;obtain⟨nm,qn,N',bs,bm,hdc,sn,sub,ab,col,dd,k0,k1,k2,k3,k5,lk,tl,ok,ni⟩:=hx.ob;have hbm:bm.contains (.type "BaseException")=true:=(Ob I.kIn tl).hasType FB.hasBase;rw[arm_exec_Raise];refine au (Hj (alR (C:=C) (nm:=nm) (q:=qn) (N:=N') (bs:=bs) (bm:=bm) (hd:=hdc) (sn:=sn) (sub:=sub) (ab:=ab) (col:=col) (dd:=dd) (k0:=k0) (k1:=k1) (k2:=k2) (k3:=k3) (k5:=k5) (newId:=newId) hbm (I.ok.hd rfl) (au (cO (wpAny_Call_ofName (oF I hg hm ?_ hd)) (fun v s3 h3=>au (Hj (aK h3))) fun _ _ z=>z))));refine Oa (h₀:=base) I.ok.mod.kin hk (thn (ha cpos pins s1 σ H1 _ I h) fun us s2 ⟨vs,H2,I2,r,few,q⟩=>#[I2.kIn,?_]) he hpl;have hN:s2.heap.Ns N' (s2.heap.nsMap N'):=.of_isNs (PySem.W.isNs_of_in I2.kIn ok);obtain⟨oI,ho,hoc⟩:∃o,s2.heap.get? fI=some o/\o.cls=.type "function" := by
  obtain⟨o,h1,h2⟩:=f9.mp hf;show#[o,I2.kIn _ _ h1,h2]
 have ge:s.heap.get? (s2.heap.objs.size+1)=none:=Py (Nat.le_succ_of_le I2.sz);have I3:Inv (jx (CXE P w) P w K mg base N qual scope f cd A outer s H E) pins σ (upd H2 (s2.heap.objs.size+1) (rG (s2.heap.objs.size+1) C none)) { s2 with heap:=Ve s2.heap C us }:=
  (I2.kept (t':=s2.toks) (h':=s2.heap.push (acF us)) fun b u z=>cX _ z).laid (a:=s2.heap.objs.size+1) (o:=rG (s2.heap.objs.size+1) C none) (t':=s2.toks) (fun b u z=>cX _ z) (Ag (pW _ _)) (Q9 (t:=s2.heap.objs.size) (by heap_get))
 have hq:=q (s2.heap.objs.size+1) (I2.hok.fresh (xq _));have r2:Vals (V.ref (s2.heap.objs.size+1)::vs) (Value.ref (s2.heap.objs.size+1)::us):=.cons rfl r;have hl:(Value.ref (s2.heap.objs.size+1)::us++[]).length=ps.length:=by rw[pO,<-r2.length];exact F.len _ _ _ _ hq
 have hbb:=hb _ (Value.ref (s2.heap.objs.size+1)::us) I3.kIn hl;rw[pO]at hbb;refine xcall FB (Ob I2.kIn tl) (I2.kIn _ _ lk) hN (aiN I2.kIn hN ni) ho hoc (show us.length<=sizeLine by rwa[<-r.length]) ?_;refine lR (zW (F.run _ _ _ _ #[Value.ref (s2.heap.objs.size+1)::us,[]] _ _ _ E0 (hr.make C us []) (I3.env0.make C us []) hbb r2 hq) fun r s' hq'=>?_);generalize s2.heap.objs.size+1=e at *;cases r with
 |error ev=>exact Uk pins σ _ _ ev s' I3 hq'
 |ok fl =>
  cases fl with
  |next=>exact fP hq'
  |brk=>exact fP hq'
  |cont=>exact fP hq'
  |ret u =>
   obtain ⟨v,H4,I4,rv,ev,d4,q4,hE⟩:=I3.after hq';subst ev;obtain ⟨⟨t4,he4⟩,_,_⟩:=(show cA P w H4 s'.heap e (rG e C d4) from I4.hok e _ q4);show#[rv,e,t4,d4,rfl,I4.kIn _ _ lk,he4,?_];refine cO (uK (Jj _ _) (wpAny_leaving_firstW (base:=Bare s'.heap (eV qual scope s.heap.objs.size f cd::outer) [e]) (a0:=.ref t4) (Q:=fun _ s5=>∃ h',s5={ s' with heap:=h' }/\Heap.LeftW (Bare s'.heap (eV qual scope s.heap.objs.size f cd::outer) [e]) (eV qual scope s.heap.objs.size f cd::outer) e (.ref C) (.ref t4) s'.heap h')
    I4.ok.frames (gH I4.stack) rfl he4 (fun b o k=>wH _ k) (Dd _ (by simp)) rfl rfl rfl fun h' x=>#[h',rfl,x])) (fun _ s5 z=>?_) fun _ _ z=>z
   obtain⟨⟨h',rfl,x1,x2,x3,x4⟩,dk⟩:=z;have sub:∀b∈frs (eV qual scope s.heap.objs.size f cd::outer),b∈frs outer\/s.heap.get? b=none:=fun b hb=>by
    rcases aZ.mp (I4.Bc b hb)with z|z
    ·refine .inr ?_;rw[z];exact Py I.ok.above
    ·exact .inl z
   have fre:∀b∈frs (eV qual scope s.heap.objs.size f cd::outer),DX H4 e b=none:=fun b hb=>by
    unfold DX;split
    ·rfl
    ·exact I4.vI b hb
   obtain⟨r1,r2,T',r3⟩:=Bo (g:=s.heap) (H0:=H) (fs:=frs outer) (hid:=[e]) (l:=eV qual scope s.heap.objs.size f cd::outer) (I4.base.DX q4) (I4.hok.DX q4) I4.stack fre sub (fun b hb=>by obtain rfl:b=e:=(by simpa using hb);show#[vP,ge]) vP ge x1 x4 x3.at he4 rfl dk;show#[e,C,T',d4,_,_,rfl,I4.os,I4.bare,r1,r2,r3,hE]
theorem acH{n q:Str}{st:Stmt}{e₀:Expr}{rest:List Expr}{x:Str}{np cpos pos:Pos}{ta:TA}{C fI:Addr}{bmB:List Value}{B newId initId:String}{k:Nat}{fd:FuncData}{ps:List Str}{sp:Sp}(FB:Hl B newId initId bmB)(hx:XI K C fI bmB newId)
  (hk:lQ K (.ref C)=true) (hm:mg x=some (.ref C)) (F:Mg K C n q st fI fd ps/\nA P w K mg base CX0 k fI fd ps sp) (ha:PA (jx (CXE P w) P w K mg base N qual scope f cd A outer s H E) (e₀::rest) ta)
  (hr:fD (k+1) (jx (CXE P w) P w K mg base N qual scope f cd A outer s H E).A:=by exact fD.mono (by assumption) tb_g%) (hg:Gl (jx (CXE P w) P w K mg base N qual scope f cd A outer s H E) x:=by rfl)
  (he:bh (e₀::rest) (jx (CXE P w) P w K mg base N qual scope f cd A outer s H E).env=(false,eval e₀ (jx (CXE P w) P w K mg base N qual scope f cd A outer s H E).env)::bh rest (jx (CXE P w) P w K mg base N qual scope f cd A outer s H E).env:=by rfl)
  (hpl:(dz cpos (bh rest (jx (CXE P w) P w K mg base N qual scope f cd A outer s H E).env)).any (·.1)=false:=by rfl) (hd:(x == ("__debug__" : Str))=false:=by decide):
  PS (jx (CXE P w) P w K mg base N qual scope f cd A outer s H E) (.Raise (some (.Call (.Name x np) (e₀::rest) [] cpos)) none pos) (aaW C sp E ta):=
 acG FB hx (beq_iff_eq.mp F.1.m.fn) hk F.2 F.1.b hr hg hm ha he hpl hd
end
end L2
namespace L2
open PySem PySem.Spec PyProof.Rows PySem.Builtin PySem.Builtin.ObjectAttr
def ajB(K:aF)(ta:TE)(f:Str):TE:=fun σ H Q=>ta σ H fun x H1=>∃e C d fs v,x=.ref e/\H1 e=some (xJ e C (some d))/\H1 d=some (.xd fs)/\DW K C/\bG K C f/\tW K C=true/\fs.lookup f=some v/\Q v H1
section
variable{K:aF}{e C:Addr}{o:Obj}{prog:aG}{w:World}{A:aN}{E:Value->Shared->Prop}{s:Shared}{f:Str}{v:Value}
theorem ZJ{tk:Tok}{Q:aeo->Shared->Prop}(he:s.heap.get? e=some o)(hc:o.cls=.ref C)(L1:qK (model prog w) s.heap (find (.ref e) (.ref C) f) (.value v))(hq:Q (.done (.ret v)) s):
  wpAny (model prog w) A (dN.«object.__getattribute__» #[[.ref e,.str f tk],[]]) Q E s:=by
 obtain⟨hh,g,dr,t,os⟩:=s;have L0:=iW (M:=model prog w) he hc;unfold dN.«object.__getattribute__»;refine au (aK (a:=(Value.ref e,[Value.str f tk])) ?_);dsimp only;refine au (aK (a:=f) ?_);exact au (L0.at (au (L1.at (aK hq))))
theorem xget{expr:Bool}{Q:Value->Shared->Prop}(kin:K.In s.heap)(X:DW K C)(he:s.heap.get? e=some o)(hc:o.cls=.ref C)(L:qK (model prog w) s.heap (find (.ref e) (.ref C) f) (.value v))(hv:Od v=true)(hq:Q v { s with toks:=s.toks+1 }):
  wpAny (model prog w) A (Hv (.ref e) f expr) Q E s:=by
 obtain⟨hh,g,dr,t,os⟩:=s;have L0:=iW (M:=model prog w) he hc;have L1:=GX (M:=model prog w) kin X.ga;have L2:=GX (M:=model prog w) kin X.gt;have hx2:(Value.builtin "BaseException.__getattribute__" == Value.builtin "object.__getattribute__")=false:=by decide +kernel
 have hb:=F.attr_ValueError.ga.bind (.ref e);unfold Hv;refine au (aen ?_);unfold Ph;refine iy (au (L0.at (au (L1.at ?_))));dsimp only;rw[hx2,Ai,if_neg cM];unfold ad5 hookBefore;rw[if_pos (show X4 (Value.ref C)=true from rfl)];refine au (L2.at (au (Oz (iy ?_))));unfold ad3;rw[show(expr && X4 (Value.builtin "BaseException.__getattribute__"))=false from Ai _,if_neg cM];unfold aec;rw[hb];refine au (aK ?_);refine lR (wK F.attr_ValueError.ga.plain F.entry_bexc_ga (Nm (s:=#[hh,g,dr,t+1,os]) kin X he hc (ZJ (s:=#[hh,g,dr,t+1,os]) he hc L ?_)));show wpAny _ _ (handedOut v) _ _ _;rw[PySem.W.handedOut_of hv];exact aK hq
theorem aiO{X:Cx}{ex:Expr}{pos:Pos}{ta:TE}(he:PE X ex ta)(hb:rZ ex f X.env (eval ex X.env)=eval ex X.env):PE X (.Attribute ex f pos) (ajB X.K ta f):=by
 walk_at "s"
 refine aaA hb (thn (he pins s σ H _ I h) fun u s1 zq=>?_);obtain⟨x,H1,I1,rx,e,C,d,fs,v,ev,ee,ed,xc,na,hd,l,q⟩:=zq;subst ev;obtain rfl:u=Value.ref e:=rx;obtain⟨⟨o,o1,o2,o3,vs,o4⟩,_,_⟩:=(show cA X.prog X.w H1 s1.heap e (xJ e C (some d))from I1.hok e _ ee);obtain⟨mA,hn,r⟩:=(show cA X.prog X.w H1 s1.heap d (.xd fs)from I1.hok d _ ed);obtain⟨od,hod,hl⟩:=Mu hn;obtain⟨u,hu,ru⟩:=qZ.some_of (v:=v) (o:=mA f) (by rw[<-l];exact r f);have J:Xm s1.heap e o C (some od):=#[o1,o2,by unfold PySem.W.notCls;rw[o4],by rwa[o3]];exact xget I1.kIn xc o1 o2 (PySem.W.looks_find I1.kIn J (adC hd na rfl (by rw[hl,hu]))) (Mv ru) #[v,H1,I1.tok _,ru,q]
theorem ahf{X:Cx}{k:Addr}{ex:Expr}{pos:Pos}{ta:TE}(he:PE (X.marked k) ex ta)(hb:rZ ex f X.env (eval ex X.env)=eval ex X.env):PE (X.marked k) (.Attribute ex f pos) (ajB X.K ta f):=aiO he hb
end
end L2
namespace L2
open PySem PySem.Spec PyProof.Rows
end L2
--%DROP
set_option Elab.async false
set_option maxRecDepth 100000
set_option maxHeartbeats 4000000
namespace My
open PySem L2 MG
set_option genInjectivity false in
set_option genSizeOf false in
structure Ad where
 C'0:Addr
 C'1:Addr
 C'2:Addr
 C'3:Addr
 C'4:Addr
 C'5:Addr
 C'6:Addr
 C'7:Addr
 C'8:Addr
 C'9:Addr
 Qs:Addr
 Qt:Addr
 yQ:Addr
 Ra:FuncData
 wu:Addr
 Le:FuncData
 ahg:Addr
 ahh:FuncData
 alS:Addr
 alT:FuncData
 sW:Addr
 DY:FuncData
 sX:Addr
 Ea:FuncData
 uV:Addr
 JC:FuncData
 sY:Addr
 Eb:FuncData
 aiP:Addr
 aiQ:FuncData
 Rb:Addr
 Rf:FuncData
 acI:Addr
 acJ:FuncData
 f_row:Addr
 d_row:FuncData
 JD:Addr
 JF:FuncData
 Lf:Addr
 Lg:FuncData
 BJ:Addr
 BK:FuncData
 acK:Addr
 acL:FuncData
 uW:Addr
 JG:FuncData
 alU:Addr
 alV:FuncData
 Vg:Addr
 Vh:FuncData
 Rg:Addr
 Rh:FuncData
 JH:Addr
 JK:FuncData
 Vi:Addr
 Vj:FuncData
 ZL:Addr
 ZM:FuncData
 Vk:Addr
 Vl:FuncData
 ahi:Addr
 ahj:FuncData
 Ec:Addr
 Ed:FuncData
 BL:Addr
 BP:FuncData
 Rj:Addr
 Rm:FuncData
 yR:Addr
 yS:FuncData
 Lh:Addr
 Li:FuncData
 JL:Addr
 JM:FuncData
 Ro:Addr
 Rp:FuncData
 JN:Addr
 JQ:FuncData
 BR:Addr
 BW:FuncData
 Vm:Addr
 Vn:FuncData
 Ef:Addr
 Eh:FuncData
 Rr:Addr
 Rt:FuncData
 Lj:Addr
 Lp:FuncData
 Ei:Addr
 Ej:FuncData
 Vo:Addr
 Vp:FuncData
 Ek:Addr
 El:FuncData
 ahk:Addr
 ahl:FuncData
 Vq:Addr
 Vr:FuncData
 acM:Addr
 acN:FuncData
 ahm:Addr
 ahn:FuncData
 BX:Addr
 BZ:FuncData
 Em:Addr
 En:FuncData
 Eo:Addr
 Ep:FuncData
 JR:Addr
 JT:FuncData
 acO:Addr
 acP:FuncData
 ajC:Addr
 d_law:FuncData
structure Tx(K:aF)(mg:Str->Option Value)(A:Ad):Prop where
 mR:Cls K A.C'0
 aiR:mg "Rungs" = some (.ref A.C'0)
 abR:Mk K A.C'0 A.yQ
 aaX:bG K A.C'0 "room"
 Vs:bG K A.C'0 "total"
 Vt:bG K A.C'0 "over"
 Vu:bG K A.C'0 "under"
 Vv:bG K A.C'0 "turns"
 Vw:bG K A.C'0 "least"
 Vx:bG K A.C'0 "most"
 Vy:bG K A.C'0 "rungs"
 Lq:Cls K A.C'1
 aho:mg "Window" = some (.ref A.C'1)
 abS:Mk K A.C'1 A.wu
 aaY:bG K A.C'1 "room"
 aaZ:bG K A.C'1 "reach"
 Vz:bG K A.C'1 "clock"
 VB:bG K A.C'1 "boxes"
 JV:Cls K A.C'2
 ZP:mg "Distinct" = some (.ref A.C'2)
 abT:Mk K A.C'2 A.sW
 aa0:bG K A.C'2 "room"
 VD:bG K A.C'2 "arrivals"
 VF:bG K A.C'2 "level"
 VG:bG K A.C'2 "kept"
 JW:Cls K A.C'3
 ZQ:mg "Frequent" = some (.ref A.C'3)
 abU:Mk K A.C'3 A.sX
 aa1:bG K A.C'3 "room"
 VH:bG K A.C'3 "total"
 VJ:bG K A.C'3 "lost"
 VL:bG K A.C'3 "counts"
 cl'4:Cls K A.C'4
 acQ:mg "Balance" = some (.ref A.C'4)
 abV:Mk K A.C'4 A.uV
 ahp:bG K A.C'4 "span"
 VN:bG K A.C'4 "sums"
 qp:Cls K A.C'5
 ZR:mg "Keepsake" = some (.ref A.C'5)
 abW:Mk K A.C'5 A.sY
 aa2:bG K A.C'5 "room"
 aa3:bG K A.C'5 "reach"
 aa4:bG K A.C'5 "span"
 aa5:bG K A.C'5 "came"
 aa6:bG K A.C'5 "went"
 aa7:bG K A.C'5 "up"
 aa8:bG K A.C'5 "down"
 aa9:bG K A.C'5 "window"
 abb:bG K A.C'5 "seen"
 abd:bG K A.C'5 "balance"
 Nq:mg "BadText" = some (.ref A.C'6)
 Dq:mg "KeepError" = some (.ref A.C'7)
 Rv:mg "OutOfReach" = some (.ref A.C'8)
 acR:mg "TooFine" = some (.ref A.C'9)
 Rw:mg "TooManyOff" = some (.ref A.Qs)
 ahq:mg "Unlike" = some (.ref A.Qt)
 fQ:XI K A.C'6 A.uW [.type "ValueError",.type "Exception",.type "BaseException",.type "object"] "ValueError.__new__"
 iQ:lQ K (.ref A.C'6)=true
 xR:XS K A.C'6 "line"
 Rx:XB K A.C'7 "ValueError.__init__"
 xT:Catch K A.C'6 A.C'6
 rH:DW K A.C'6
 cD:nF K (.ref A.C'6) (.ref A.C'7)=some true
 cu:nF K (.ref A.C'6) (.type "ValueError")=some true
 iR:Xk K (.ref A.C'6) [(.ref A.C'8),(.ref A.C'9),(.ref A.Qs),(.ref A.Qt)]=some false
 rJ:Mg K A.C'0 "__init__" "Rungs.__init__" qQ A.yQ A.Ra Q1
 pG:Mg K A.C'1 "__init__" "Window.__init__" o9 A.wu A.Le Q13
 JX:Fg K mg "spread" Io A.ahg A.ahh ["thing"]
 ZV:Fg K mg "mark" YW A.alS A.alT ["thing"]
 jQ:Mg K A.C'2 "__init__" "Distinct.__init__" jE A.sW A.DY Q1
 jR:Mg K A.C'3 "__init__" "Frequent.__init__" jF A.sX A.Ea Q1
 mU:Mg K A.C'4 "__init__" "Balance.__init__" mq A.uV A.JC ["self","span"]
 jT:Mg K A.C'5 "__init__" "Keepsake.__init__" jG A.sY A.Eb Q14
 Ry:Fg K mg "_law_mix" Qq A.aiP A.aiQ Q15
 dF:Fg K mg "_law_far_back" qR A.Rb A.Rf []
 Ca:Fg K mg "figures" Aw A.acI A.acJ ["number"]
 ahr:Fg K mg "row" s_row A.f_row A.d_row ["numbers"]
 mV:Fg K mg "window_words" mD A.JD A.JF ["part"]
 pH:Fg K mg "rungs_words" pq A.Lf A.Lg ["part"]
 iY:Fg K mg "frequent_words" iI A.BJ A.BK ["part"]
 Cd:Fg K mg "written" Ay A.acK A.acL ["keepsake"]
 mW:Mg K A.C'6 "__init__" "BadText.__init__" mF A.uW A.JG ["self","line"]
 ZW:Fg K mg "need" YX A.alU A.alV ["holds","line"]
 uX:Fg K mg "number_of" ux A.Vg A.Vh Q3
 rK:Fg K mg "numbers_of" qT A.Rg A.Rh Q10
 mX:Fg K mg "sound_bounds" mG A.JH A.JK Q16
 uY:Fg K mg "bounds_of" uy A.Vi A.Vj Q10
 xU:Fg K mg "words_of" xr A.ZL A.ZM ["lines","line","name"]
 uZ:Fg K mg "signed_of" uz A.Vk A.Vl Q3
 JZ:Fg K mg "parted" Ip A.ahi A.ahj ["words"]
 jU:Fg K mg "rising_things" jH A.Ec A.Ed ["things"]
 iZ:Fg K mg "sound_frequent" iJ A.BL A.BP ["frequent","things"]
 rM:Fg K mg "sound_list" qU A.Rj A.Rm Q12
 gR:Fg K mg "stand_for_total" gO A.yR A.yS ["rungs"]
 pI:Fg K mg "sound_rungs" pA A.Lh A.Li ["rungs"]
 mY:Fg K mg "sound_places" mH A.JL A.JM Q11
 rO:Fg K mg "sound_sums" qW A.Ro A.Rp Q11
 mZ:Fg K mg "sound_window" mJ A.JN A.JQ Q11
 jc:Fg K mg "sound_distinct" iK A.BR A.BW ["distinct"]
 u9:Fg K mg "read_keep" uD A.Vm A.Vn Q10
 jV:Fg K mg "read_frequent" jJ A.Ef A.Eh ["frequent","words","line"]
 rP:Fg K mg "read_rungs" qX A.Rr A.Rt ["rungs","words","line"]
 pJ:Fg K mg "read_window" pB A.Lj A.Lp ["window","words","line"]
 jW:Fg K mg "read_distinct" jK A.Ei A.Ej ["distinct","words","line"]
 vd:Fg K mg "read_sums" uE A.Vo A.Vp Q17
 dW:Fg K mg "read_keepsake" jL A.Ek A.El ["text"]
 J0:Fg K mg "_law_text" Ir A.ahk A.ahl ["_law_plan_here"]
 vf:Fg K mg "_law_refused" uF A.Vq A.Vr ["_law_text_here","_law_line"]
 Ce:Fg K mg "_law_worse" Az A.acM A.acN Q19
 J4:Fg K mg "_law_plan" Iu A.ahm A.ahn ["_law_cells"]
 jd:Fg K mg "_law_moved_counts" iM A.BX A.BZ Q2
 jX:Fg K mg "_law_moved_rungs" jM A.Em A.En Q2
 jY:Fg K mg "_law_moved_boxes" jN A.Eo A.Ep Q2
 m5:Fg K mg "_law_moved_seen" mK A.JR A.JT Q2
 Cg:Fg K mg "_law_moved" Bb A.acO A.acP ["_law_plan_here","_law_cell"]
 ahs:Fg K mg "law" afU A.ajC A.d_law ["_law_script"]
 Rz:mg "ValueError" = none
 n_abs:mg "abs" = none
 abe:mg "all" = none
 alW:mg "bool" = none
 alX:mg "dict" = none
 ajD:mg "int" = none
 gU:mg "isinstance" = none
 ajE:mg "len" = none
 alY:mg "list" = none
 aht:mg "max" = none
 ajF:mg "min" = none
 RD:mg "range" = none
 xV:mg "reversed" = none
 yU:mg "sorted" = none
 ahu:mg "str" = none
 n_sum:mg "sum" = none
 ahv:mg "zip" = none
 acS:∃u,mg "FIGURES" = some u/\RelV (.str "0123456789") u
 RJ:∃u,mg "LEAST_ROOM" = some u/\RelV (.int 2) u
 aiS:∃u,mg "LINES" = some u/\RelV (.int 8) u
 ZX:∃u,mg "MOST" = some u/\RelV (.int 1152921504606846976) u
 J5:∃u,mg "MOST_FIGURES" = some u/\RelV (.int 60) u
 Er:∃u,mg "MOST_HALVINGS" = some u/\RelV (.int 60) u
 RK:∃u,mg "MOST_LEVEL" = some u/\RelV (.int 60) u
 RL:∃u,mg "MOST_REACH" = some u/\RelV (.int 1000000000) u
 VP:∃u,mg "MOST_ROOM" = some u/\RelV (.int 64) u
 VR:∃u,mg "MOST_SPAN" = some u/\RelV (.int 1000000000) u
 aiT:∃u,mg "PIECE" = some u/\RelV (.int 1000000000000000000000000000000) u
 Es:∃u,mg "PIECE_FIGURES" = some u/\RelV (.int 30) u
 ahw:∃u,mg "SPREAD" = some u/\RelV (.int 770093176312745717) u
 acT:nF K (.type "int") (.type "int")=some true
 Z0:nF K (.type "int") (.type "bool")=some false
variable{P:aG}{w:World}{K:aF}{mg:Str->Option Value}{base:Heap}{A:Ad}
local macro_rules | `(tactic| walk_at "sc") => `(tactic| exact ⟨rfl, rfl, rfl, by decide +kernel, rfl, by decide +kernel, by decide +kernel⟩)
theorem Lr:aJ Q1 Q1 (aA qQ):=by walk_at "sc"
theorem J6:aJ Q13 Q13 (aA o9):=by walk_at "sc"
theorem acU:aJ ["thing"] ["thing"] (aA Io):=by walk_at "sc"
theorem abf:aJ ["thing","rest","halvings"] ["thing"] (aA YW):=by walk_at "sc"
theorem Ci:aJ Q1 Q1 (aA jE):=by walk_at "sc"
theorem Cj:aJ Q1 Q1 (aA jF):=by walk_at "sc"
theorem Et:aJ ["self","span"] ["self","span"] (aA mq):=by walk_at "sc"
theorem Ck:aJ Q14 Q14 (aA jG):=by walk_at "sc"
theorem ahx:aJ Q15 Q15 (aA Qq):=by walk_at "sc"
theorem wz:aJ ["_law_way","_law_turn"] [] (aA qR):=by walk_at "sc"
theorem J7:aJ ["number","pieces","rest"] ["number"] (aA Aw):=by walk_at "sc"
theorem alZ:aJ ["numbers"] ["numbers"] (aA s_row):=by walk_at "sc"
theorem sZ:aJ ["part","numbers","box"] ["part"] (aA mD):=by walk_at "sc"
theorem vg:aJ ["part","numbers","words","things"] ["part"] (aA pq):=by walk_at "sc"
theorem oK:aJ ["part","numbers","thing"] ["part"] (aA iI):=by walk_at "sc"
theorem J8:aJ ["keepsake","lines"] ["keepsake"] (aA Ay):=by walk_at "sc"
theorem Eu:aJ ["self","line"] ["self","line"] (aA mF):=by walk_at "sc"
theorem aiU:aJ ["holds","line"] ["holds","line"] (aA YX):=by walk_at "sc"
theorem RM:aJ Q3 Q3 (aA ux):=by walk_at "sc"
theorem Lw:aJ Q10 Q10 (aA qT):=by walk_at "sc"
theorem Ew:aJ Q16 Q16 (aA mG):=by walk_at "sc"
theorem yV:aJ ["words","line","numbers"] Q10 (aA uy):=by walk_at "sc"
theorem Dr:aJ ["lines","line","name","words"] ["lines","line","name"] (aA xr):=by walk_at "sc"
theorem yW:aJ ["word","line","number"] Q3 (aA uz):=by walk_at "sc"
theorem Nr:aJ ["words","groups","word"] ["words"] (aA Ip):=by walk_at "sc"
theorem qt:aJ ["things","rising"] ["things"] (aA jH):=by walk_at "sc"
theorem gY:aJ ["frequent","things","counts"] ["frequent","things"] (aA iJ):=by walk_at "sc"
theorem Lx:aJ Q12 Q12 (aA qU):=by walk_at "sc"
theorem m6:aJ ["rungs","weight","things"] ["rungs"] (aA gO):=by walk_at "sc"
theorem J9:aJ ["rungs"] ["rungs"] (aA pA):=by walk_at "sc"
theorem tu:aJ ["window","ahead","first","last","weight"] Q11 (aA mH):=by walk_at "sc"
theorem wA:aJ ["window","newer","neighbour","first","last","weight"] Q11 (aA qW):=by walk_at "sc"
theorem Ey:aJ Q11 Q11 (aA mJ):=by walk_at "sc"
theorem oM:aJ ["distinct","fewest"] ["distinct"] (aA iK):=by walk_at "sc"
theorem yX:aJ ["words","line","numbers"] Q10 (aA uD):=by walk_at "sc"
theorem qu:aJ ["frequent","words","line","numbers","things"] ["frequent","words","line"] (aA jJ):=by walk_at "sc"
theorem wB:aJ ["rungs","words","line","groups","numbers"] ["rungs","words","line"] (aA qX):=by walk_at "sc"
theorem vh:aJ ["window","words","line","numbers"] ["window","words","line"] (aA pB):=by walk_at "sc"
theorem qw:aJ ["distinct","words","line","numbers"] ["distinct","words","line"] (aA jK):=by walk_at "sc"
theorem RN:aJ Q17 Q17 (aA uE):=by walk_at "sc"
theorem qy:aJ ["text","lines","keepsake"] ["text"] (aA jL):=by walk_at "sc"
theorem Nt:aJ ["_law_plan_here","_law_lines","_law_head","_law_words","_law_things"] ["_law_plan_here"] (aA Ir):=by walk_at "sc"
theorem lH:aJ ["_law_text_here","_law_line","_law_told","e"] ["_law_text_here","_law_line"] (aA uF):=by walk_at "sc"
theorem Ka:aJ ["_law_text_here","_law_line","_law_cell","_law_lines","_law_how"] Q19 (aA Az):=by walk_at "sc"
theorem lJ:aJ ["_law_cells","_law_some","_law_room","_law_plan_here","_law_lost","_law_k","_law_low","_law_total","_law_under","_law_first","_law_clock","_law_middle","_law_level","_law_way","_law_things"] ["_law_cells"] (aA Iu):=by walk_at "sc"
theorem oN:aJ ["_law_plan_here","_law_turn","_law_line","_law_room"] Q2 (aA iM):=by walk_at "sc"
theorem qz:aJ ["_law_plan_here","_law_turn","_law_line","_law_lists"] Q2 (aA jM):=by walk_at "sc"
theorem qC:aJ ["_law_plan_here","_law_turn","_law_line"] Q2 (aA jN):=by walk_at "sc"
theorem tD:aJ ["_law_plan_here","_law_turn","_law_line","_law_room","_law_low"] Q2 (aA mK):=by walk_at "sc"
theorem Kc:aJ ["_law_plan_here","_law_cell","_law_turn","_law_which","_law_far"] ["_law_plan_here","_law_cell"] (aA Bb):=by walk_at "sc"
theorem ahy:aJ ["_law_script","_law_first","_law_cells","_law_note","_law_cell","_law_plan_here","_law_line"] ["_law_script"] (aA afU):=by walk_at "sc"
seal PSs PS PE PA PT PW PG PGs PI PO PTs OpR IxR
set_option hygiene false in
local macro_rules | `(tactic| k_dat ([$xs,*], [$ys,*], [$zs,*]) "p") => `(tactic| (
 repeat' first | exact rfl $[| ((first | apply cpE | apply cpS | apply cpN);refine' $zs)]* $[| apply $xs]* | apply aP | apply dB | apply pv | apply iT | apply pf | apply yD | apply qg | apply aat | apply sS | apply psS | apply Y4 | apply Qx | apply ajj | apply alo | apply aaz | apply yE | apply agg | apply Uc | apply afX | apply QB | apply pgN | apply Ja | apply aau | apply af0 | apply TQ | apply alc | apply alg | apply pw_or | apply pw_or1 | apply pw_and | apply pw_and1 | apply pwB | apply afY | apply Y0 | apply ale | apply ald | apply pe_un | apply aie | apply aif | apply bY | apply alj | apply Qy | apply aav | apply Y6 | apply ajl | apply op_le | apply op_gt | apply ajm | apply T6 | apply ajk | apply aik | apply alm | apply ixG | apply aga | exact gi 0 | exact gi 1 | exact gi 2 | exact gi 3 | exact gi 4 | exact gi 5 | exact gi 6 | exact gi 7 | exact gi 8 | exact gi 9 | exact gi 10 | exact gi 11 | exact gi 12 | exact gi 13 | exact gi 14 | exact rfl | exact Jd _ | exact fun _=>rfl | exact fun _ _=>rfl | exact .inl rfl | exact .inr rfl | exact .inr (.inl rfl) | exact .inr (.inr rfl) | exact hr.mono tb_g% | exact agm hr | exact hr.units | decide +kernel | with_unfolding_all rfl $[| refine' $ys]* | refine' ali afF rfl ?_ ?_ ?_ | refine' af3 afF ?_ ?_ | refine' alf ?_ ?_ (setG tb_g%) | refine' cN MP (by rfl) T.ajE aed ?_ | refine' jy Dg aeU aeV Bj ?_ ?_))
local macro_rules | `(tactic| k_dat $a "h") => `(tactic| (
 first | show#[$a] | (rotate_left;k_dat $a "h")))
inductive Ex2 {a0 a1:Type} (P:a0->a1->Prop):Prop
 |k x0 x1:P x0 x1->Ex2 P
inductive Ex3 {a0 a1 a2:Type} (P:a0->a1->a2->Prop):Prop
 |k x0 x1 x2:P x0 x1 x2->Ex3 P
inductive Ex4 {a0 a1 a2 a3:Type} (P:a0->a1->a2->a3->Prop):Prop
 |k x0 x1 x2 x3:P x0 x1 x2 x3->Ex4 P
inductive Ex5 {a0 a1 a2 a3 a4:Type} (P:a0->a1->a2->a3->a4->Prop):Prop
 |k x0 x1 x2 x3 x4:P x0 x1 x2 x3 x4->Ex5 P
inductive Ex6 {a0 a1 a2 a3 a4 a5:Type} (P:a0->a1->a2->a3->a4->a5->Prop):Prop
 |k x0 x1 x2 x3 x4 x5:P x0 x1 x2 x3 x4 x5->Ex6 P
inductive Ex7 {a0 a1 a2 a3 a4 a5 a6:Type} (P:a0->a1->a2->a3->a4->a5->a6->Prop):Prop
 |k x0 x1 x2 x3 x4 x5 x6:P x0 x1 x2 x3 x4 x5 x6->Ex7 P
inductive Ex8 {a0 a1 a2 a3 a4 a5 a6 a7:Type} (P:a0->a1->a2->a3->a4->a5->a6->a7->Prop):Prop
 |k x0 x1 x2 x3 x4 x5 x6 x7:P x0 x1 x2 x3 x4 x5 x6 x7->Ex8 P
inductive vm (A0 A1 A2:Prop):Prop
 |k:A0->A1->A2->vm A0 A1 A2
inductive yZ (A0 A1 A2 A3:Prop):Prop
 |k:A0->A1->A2->A3->yZ A0 A1 A2 A3
inductive V0 (A0 A1 A2 A3 A4:Prop):Prop
 |k:A0->A1->A2->A3->A4->V0 A0 A1 A2 A3 A4
inductive V1 (A0 A1 A2 A3 A4 A5:Prop):Prop
 |k:A0->A1->A2->A3->A4->A5->V1 A0 A1 A2 A3 A4 A5
inductive acV (A0 A1 A2 A3 A4 A5 A6:Prop):Prop
 |k:A0->A1->A2->A3->A4->A5->A6->acV A0 A1 A2 A3 A4 A5 A6
inductive And8 (A0 A1 A2 A3 A4 A5 A6 A7:Prop):Prop
 |k:A0->A1->A2->A3->A4->A5->A6->A7->And8 A0 A1 A2 A3 A4 A5 A6 A7
set_option genSizeOf false
set_option genInjectivity false
theorem lX{Y:Cx}{b:List Stmt}{D:Ends}{σ:St}{H:Hp}(h:let X:=Y.nox;∃t,PSs X b t/\t D σ H):∃t,PSs Y.nox b t/\t D σ H:=h
theorem lq{t u:TS}{D:Ends}{σ:St}{H:Hp}(h:let u':=u;let D':=D;let σ':=σ;Dw t u' D' σ' H):Dw t u D σ H:=h
theorem lqn{t u:TS}{D:Ends}{r:VK}{b c:St->Hp->Prop}{σ:St}{H:Hp}(h:let u':=u;let D':=D;let σ':=σ;Dw t u' D' σ' H):Ends.nx #[Dw t u D,r,b,c] σ H:=h
theorem lqg{t u:TS}{i:Nat}{x:V}{D:Ends}{r:VK}{b c:St->Hp->Prop}{σ:St}{H:Hp}(h:let u':=u;let D':=D;let σ':=σ.set i (some x);Dw t u' D' σ' H):mO i x σ H (Ends.nx #[Dw t u D,r,b,c]):=h
theorem lrr{t u:TS}{D:Ends}{σ:St}{H:Hp}(h:let u':=u;let D':=D;Dw t u' D' σ H):Dw t u D σ H:=h
theorem lrg{t u:TS}{i:Nat}{x:V}{D:Ends}{r:VK}{b c:St->Hp->Prop}{σ:St}{H:Hp}(h:let u':=u;let D':=D;Dw t u' D' (σ.set i (some x)) H):mO i x σ H (Ends.nx #[Dw t u D,r,b,c]):=h
local macro_rules|`(tactic|k_dat $l "c")=>`(tactic|(refine $l ?_;intros))
structure Fd(K:aF)(C:Addr)(f:Str)(fs:List (Str × V))(v:V):Prop where
 c:Cls K C
 n:bG K C f
 l:fs.lookup f=some v
theorem rdG{K:aF}{Q:VK}{H:Hp}{a C dx:Addr}{fs:List (Str × V)}{f:Str}{v:V}(h:H a=some (.ins C dx fs))(d:Fd K C f fs v)(q:Q v H):rFld K f (.ref a) H Q:=rdF h d.c d.n d.l q
theorem nwA{G:Hp}{c:Addr}{o:HO}{P:Hp->Prop}(n:G c=none)(h:∀G',Same G G'->G' c=some o->P G'):∀G',upd G c o=G'->P G':=fun _ e=>e ▸ h _ (Same.new n) aj
theorem nbA{G:Hp}{c:Addr}{o:HO}{P:Hp->Prop}(h:∀G',But c G G'->G' c=some o->P G'):∀G',upd G c o=G'->P G':=fun _ e=>e ▸ h _ But.upd aj
theorem nsA{H G:Hp}{c:Addr}{o:HO}{P:Hp->Prop}(s:Same H G)(n:H c=none)(h:∀G',Same H G'->G' c=some o->P G'):∀G',upd G c o=G'->P G':=fun _ e=>e ▸ h _ (fun b o e=>by rw[ao (ak e n)];exact s b o e) aj
set_option hygiene false in
local macro_rules|`(tactic|k_dat ($a,$b,$c) "f")=>`(tactic|(refine ⟨$a,$b $c (fun vs H Q E h=>?_) (fun cdv B outer s H vs Q E hr h=>lX ?_)⟩;(repeat (cases h;rename_i h));subst_vars;rfl;intro X))
local macro_rules|`(tactic|k_dat ($l,$g:ident,$s:ident,$f:ident) "n")=>`(tactic|(generalize e:upd _ _ _=$g:ident;revert $g:ident e;refine $l ?_;intro $g:ident $s:ident $f:ident))
def ahz(K:aF):Sp:=fun vs H Q _=>Ex2 fun(a:Addr) (ns:List Int)=>yZ (vs=[.ref a]) (SqL K H a (ns.map V.int)) (ns.length<=63) (∀H',Q (.bl true) H')
theorem sq{t u:TS}{D:Ends}{σ:St}{H:Hp}(h:∀R:St->Hp->Prop,(∀σ H,u D σ H->R σ H)->t { D with nx:=R } σ H):Dw t u D σ H:=h (u D) fun _ _ z=>z
local macro_rules | `(tactic| walk_at "rec") => `(tactic| repeat first | rw [agS] | rw [aiD] | (rw [aiE ?h]; (case h => decide +kernel)))
def rg(aq aR bH aU aV aW bJ aX:V):List (Str × V):=[("room",aq),("total",aR),("over",bH),("under",aU),("turns",aV),("least",aW),("most",bJ),("rungs",aX)]
theorem abg{K:aF}{mg:Str->Option Value}{A:Ad}{aq aR bH aU aV aW bJ aX:V}(T:Tx K mg A):Fd K A.C'0 ("room" : Str) (rg aq aR bH aU aV aW bJ aX) aq:=#[T.mR,T.aaX,rfl]
theorem fX{K:aF}{mg:Str->Option Value}{A:Ad}{aq aR bH aU aV aW bJ aX:V}(T:Tx K mg A):Fd K A.C'0 ("total" : Str) (rg aq aR bH aU aV aW bJ aX) aR:=#[T.mR,T.Vs,rfl]
theorem RP{K:aF}{mg:Str->Option Value}{A:Ad}{aq aR bH aU aV aW bJ aX:V}(T:Tx K mg A):Fd K A.C'0 ("over" : Str) (rg aq aR bH aU aV aW bJ aX) bH:=#[T.mR,T.Vt,rfl]
theorem Kd{K:aF}{mg:Str->Option Value}{A:Ad}{aq aR bH aU aV aW bJ aX:V}(T:Tx K mg A):Fd K A.C'0 ("under" : Str) (rg aq aR bH aU aV aW bJ aX) aU:=#[T.mR,T.Vu,rfl]
theorem V2{K:aF}{mg:Str->Option Value}{A:Ad}{aq aR bH aU aV aW bJ aX:V}(T:Tx K mg A):Fd K A.C'0 ("turns" : Str) (rg aq aR bH aU aV aW bJ aX) aV:=#[T.mR,T.Vv,rfl]
theorem za{K:aF}{mg:Str->Option Value}{A:Ad}{aq aR bH aU aV aW bJ aX:V}(T:Tx K mg A):Fd K A.C'0 ("least" : Str) (rg aq aR bH aU aV aW bJ aX) aW:=#[T.mR,T.Vw,rfl]
theorem zc{K:aF}{mg:Str->Option Value}{A:Ad}{aq aR bH aU aV aW bJ aX:V}(T:Tx K mg A):Fd K A.C'0 ("most" : Str) (rg aq aR bH aU aV aW bJ aX) bJ:=#[T.mR,T.Vx,rfl]
theorem m7{K:aF}{mg:Str->Option Value}{A:Ad}{aq aR bH aU aV aW bJ aX:V}(T:Tx K mg A):Fd K A.C'0 ("rungs" : Str) (rg aq aR bH aU aV aW bJ aX) aX:=#[T.mR,T.Vy,rfl]
theorem al0(aq aR bH aU aV aW bJ aX:V):bM "rungs" aX (bM "most" bJ (bM "least" aW (bM "turns" aV (bM "under" aU (bM "over" bH (bM "total" aR (bM "room" aq [])))))))=rg aq aR bH aU aV aW bJ aX:=by
 unfold rg
 walk_at "rec"
theorem RQ(aq aR bH aU aV aW bJ aX y:V):bM "total" y (rg aq aR bH aU aV aW bJ aX)=rg aq y bH aU aV aW bJ aX:=by
 unfold rg
 walk_at "rec"
theorem V3(aq aR bH aU aV aW bJ aX y:V):bM "over" y (rg aq aR bH aU aV aW bJ aX)=rg aq aR y aU aV aW bJ aX:=by
 unfold rg
 walk_at "rec"
theorem RT(aq aR bH aU aV aW bJ aX y:V):bM "under" y (rg aq aR bH aU aV aW bJ aX)=rg aq aR bH y aV aW bJ aX:=by
 unfold rg
 walk_at "rec"
theorem RW(aq aR bH aU aV aW bJ aX y:V):bM "turns" y (rg aq aR bH aU aV aW bJ aX)=rg aq aR bH aU y aW bJ aX:=by
 unfold rg
 walk_at "rec"
theorem RX(aq aR bH aU aV aW bJ aX y:V):bM "least" y (rg aq aR bH aU aV aW bJ aX)=rg aq aR bH aU aV y bJ aX:=by
 unfold rg
 walk_at "rec"
theorem V4(aq aR bH aU aV aW bJ aX y:V):bM "most" y (rg aq aR bH aU aV aW bJ aX)=rg aq aR bH aU aV aW y aX:=by
 unfold rg
 walk_at "rec"
theorem RZ(aq aR bH aU aV aW bJ aX y:V):bM "rungs" y (rg aq aR bH aU aV aW bJ aX)=rg aq aR bH aU aV aW bJ y:=by
 unfold rg
 walk_at "rec"
def oV:Option Int->V
 |none=>.non
 |some i=>.int i
structure LL(H:Hp)(a:Addr)(bs:List Addr)(ls:RG.Ls):Prop where
 o:H a=some (.lst (bs.map V.ref))
 n:bs.length=ls.length
 e:∀(i:Nat)(b:Addr)(l:List Int),bs[i]? = some b->ls[i]? = some l->H b=some (.lst (l.map V.int))
 x:a∉bs
section
variable{H H':Hp}{a c:Addr}{bs:List Addr}{ls:RG.Ls}{m:List Int}{i:Nat}
theorem LL.same(h:LL H a bs ls)(s:Same H H'):LL H' a bs ls:=#[s _ _ h.o,h.n,fun i b l e1 e2=>s _ _ (h.e i b l e1 e2),h.x]
end
theorem LL.but{H H':Hp}{a p C e:Addr}{bs:List Addr}{ls:RG.Ls}{fs:List (Str × V)}(h:LL H a bs ls)(b:But p H H')(hp:H p=some (.ins C e fs)):LL H' a bs ls:=
 #[b _ _ h.o (v9 h.o hp (by intro z;cases z)),h.n,fun i c l e1 e2=>b _ _ (h.e i c l e1 e2) (v9 (h.e i c l e1 e2) hp (by intro z;cases z)),h.x]
def lo2:Option Int->Option Int->Option Int
 |none,b=>b
 |a,none=>a
 |some a,some b=>some (min a b)
def hi2:Option Int->Option Int->Option Int
 |none,b=>b
 |a,none=>a
 |some a,some b=>some (max a b)
def known(a b:Option Int)(i:Nat):List V:=(([a,b].take i).flatMap Option.toList).map V.int
def aiV(A:Ad):Sp:=fun vs H Q _=>Ex3 fun(p dx:Addr) (r:Int)=>vm (vs=[.ref p,.int r]) (H p=some (.ins A.C'0 dx [])) (∀(d:Addr)(H':Hp),H d=none->H' p=some (.ins A.C'0 dx (rg (.int r) (.int 0) (.int 0) (.int 0) (.int 0) .non .non (.ref d)))->H' d=some (.lst [])->But p H H'->Q .non H')
theorem Ly(T:Tx K mg A):FnM P w mg base T.rJ CX0 1 (aiV A):=by
 k_dat (T.rJ,T.rJ.ok,Lr) "f"
 ·obtain⟨p,dx,r,rfl,hp,q⟩:=h;show#[_,by k_dat ([],[],[]) "p",?_]
  k_dat lq "c"
  show#[_,rfl,_,rfl,p,_,dx,[],rfl,hp,T.mR,T.aaX,tb_g%,?_]
  k_dat (dx,aj,T.mR,T.Vs) "v"
  k_dat (dx,aj,T.mR,T.Vt) "v"
  k_dat (dx,aj,T.mR,T.Vu) "v"
  k_dat (dx,aj,T.mR,T.Vv) "v"
  k_dat (dx,aj,T.mR,T.Vw) "v"
  k_dat (dx,aj,T.mR,T.Vx) "v"
  rw[cV,cV,cV,cV,cV,cV]
  k_dat (d,hd) "t"
  have npd:p≠d:=fun z=>by rw[<-z,aj]at hd;cases hd
  rw[ao (aQ npd)]at hd;show#[_,rfl,p,_,dx,_,rfl,(by rw[ao npd];exact aj),T.mR,T.Vy,tb_g%,?_];refine q d _ hd (Ik aj (by rw[al0])) (by rw[ao (aQ npd),aj]) fun b o e hb=>?_;rwa[ao hb,ao (ak e hd),ao hb]
structure Rn(A:Ad)(H:Hp)(p dx a:Addr)(bs:List Addr)(r tt ov un tn:Int)(mi ma:Option Int)(ls:RG.Ls):Prop where
 o:H p=some (.ins A.C'0 dx (rg (.int r) (.int tt) (.int ov) (.int un) (.int tn) (oV mi) (oV ma) (.ref a)))
 l:LL H a bs ls
section
variable{A:Ad}{H H':Hp}{p dx a:Addr}{bs:List Addr}{r tt ov un tn:Int}{mi ma:Option Int}{ls:RG.Ls}
theorem Rn.same(h:Rn A H p dx a bs r tt ov un tn mi ma ls)(s:Same H H'):Rn A H' p dx a bs r tt ov un tn mi ma ls:=#[s _ _ h.o,h.l.same s]
theorem Rn.but{q C e:Addr}{fs:List (Str × V)}(h:Rn A H p dx a bs r tt ov un tn mi ma ls)(b:But q H H')(hq:H q=some (.ins C e fs))(n:p≠q):Rn A H' p dx a bs r tt ov un tn mi ma ls:=#[b _ _ h.o n,h.l.but b hq]
theorem Rn.new{d:Addr}(h1:H p=some (.ins A.C'0 dx (rg (.int r) (.int 0) (.int 0) (.int 0) (.int 0) .non .non (.ref d))))(h2:H d=some (.lst [])):Rn A H p dx d [] r 0 0 0 0 none none []:=
 #[h1,#[h2,rfl,fun i b l e=>by (cases i <;> cases e),fun z=>nomatch z]]
end
def wf(aq aM dR dU:V):List (Str × V):=[("room",aq),("reach",aM),("clock",dR),("boxes",dU)]
theorem abh{K:aF}{mg:Str->Option Value}{A:Ad}{aq aM dR dU:V}(T:Tx K mg A):Fd K A.C'1 ("room" : Str) (wf aq aM dR dU) aq:=#[T.Lq,T.aaY,rfl]
theorem ahA{K:aF}{mg:Str->Option Value}{A:Ad}{aq aM dR dU:V}(T:Tx K mg A):Fd K A.C'1 ("reach" : Str) (wf aq aM dR dU) aM:=#[T.Lq,T.aaZ,rfl]
theorem Ke{K:aF}{mg:Str->Option Value}{A:Ad}{aq aM dR dU:V}(T:Tx K mg A):Fd K A.C'1 ("clock" : Str) (wf aq aM dR dU) dR:=#[T.Lq,T.Vz,rfl]
theorem Kf{K:aF}{mg:Str->Option Value}{A:Ad}{aq aM dR dU:V}(T:Tx K mg A):Fd K A.C'1 ("boxes" : Str) (wf aq aM dR dU) dU:=#[T.Lq,T.VB,rfl]
theorem al1(aq aM dR dU:V):bM "boxes" dU (bM "clock" dR (bM "reach" aM (bM "room" aq [])))=wf aq aM dR dU:=by
 unfold wf
 walk_at "rec"
theorem R4(aq aM dR dU y:V):bM "clock" y (wf aq aM dR dU)=wf aq aM y dU:=by
 unfold wf
 walk_at "rec"
theorem R5(aq aM dR dU y:V):bM "boxes" y (wf aq aM dR dU)=wf aq aM dR y:=by
 unfold wf
 walk_at "rec"
abbrev Bp:=Addr × WN.Box
def bt(b:WN.Box):HO:=.tup [.int b.f,.int b.l,.int b.s]
structure Bxs(H:Hp)(l:Addr)(ps:List Bp):Prop where
 l:H l=some (.lst (ps.map fun p=>V.ref p.1))
 t:∀p∈ps,H p.1=some (bt p.2)
def bx(ps:List Bp):List WN.Box:=ps.map (·.2)
theorem rQ(ps:List Bp):(bx ps).length=ps.length:=aB _
theorem Bxs.same{H H':Hp}{l:Addr}{ps:List Bp}(h:Bxs H l ps)(s:Same H H'):Bxs H' l ps:=#[s _ _ h.l,fun p m=>s _ _ (h.t p m)]
theorem Bxs.but{H H':Hp}{l q C e:Addr}{fs:List (Str × V)}{ps:List Bp}(h:Bxs H l ps)(s:But q H H')(hq:H q=some (.ins C e fs)):Bxs H' l ps:=
 #[s _ _ h.l (v9 h.l hq (by intro z;cases z)),fun p m=>s _ _ (h.t p m) (v9 (h.t p m) hq (by intro z;cases z))]
theorem aiW{ps:List Bp}{i:Nat}{y:V}(h:(ps.map fun p=>V.ref p.1)[i]? = some y):∃p,ps[i]? = some p/\y=V.ref p.1:=by
 rw[cB]at h;cases e:ps[i]? with
 |none=>rw[e]at h;cases h
 |some z=>rw[e]at h;show#[z,rfl,(bK h).symm]
def Kg(room edge:Int)(bs:List WN.Box):List WN.Box:=(WN.settled room (bs.filter fun b=>decide (edge<b.l)).reverse).reverse
def aiX(A:Ad):Sp:=fun vs H Q _=>Ex4 fun(p dx:Addr) (r k:Int)=>vm (vs=[.ref p,.int r,.int k]) (H p=some (.ins A.C'1 dx [])) (∀(d:Addr)(H':Hp),H d=none->H' p=some (.ins A.C'1 dx (wf (.int r) (.int k) (.int 0) (.ref d)))->H' d=some (.lst [])->But p H H'->Q .non H')
theorem Kl(T:Tx K mg A):FnM P w mg base T.pG CX0 1 (aiX A):=by
 k_dat (T.pG,T.pG.ok,J6) "f"
 ·obtain⟨p,dx,r,k,rfl,hp,q⟩:=h;show#[_,by k_dat ([],[],[]) "p",?_];show#[_,rfl,_,rfl,p,_,dx,[],rfl,hp,T.Lq,T.aaY,tb_g%,?_];show#[_,rfl,_,rfl,p,_,dx,_,rfl,aj,T.Lq,T.aaZ,tb_g%,?_]
  k_dat (dx,aj,T.Lq,T.Vz) "v"
  rw[cV,cV]
  k_dat (d,hd) "t"
  have npd:p≠d:=fun z=>by rw[<-z,aj]at hd;cases hd
  rw[ao (aQ npd)]at hd;show#[_,rfl,p,_,dx,_,rfl,(by rw[ao npd];exact aj),T.Lq,T.VB,tb_g%,?_];refine q d _ hd (Ik aj (by rw[al1])) (by rw[ao (aQ npd),aj]) fun b o e hb=>?_;rwa[ao hb,ao (ak e hd),ao hb]
structure Wn(A:Ad)(H:Hp)(p dx l:Addr)(r k c:Int)(ps:List Bp):Prop where
 o:H p=some (.ins A.C'1 dx (wf (.int r) (.int k) (.int c) (.ref l)))
 b:Bxs H l ps
theorem Wn.same{A:Ad}{H H':Hp}{p dx l:Addr}{r k c:Int}{ps:List Bp}(h:Wn A H p dx l r k c ps)(s:Same H H'):Wn A H' p dx l r k c ps:=#[s _ _ h.o,h.b.same s]
theorem Wn.but{A:Ad}{H H':Hp}{p dx l q C e:Addr}{fs:List (Str × V)}{r k c:Int}{ps:List Bp}(h:Wn A H p dx l r k c ps)(s:But q H H')(hq:H q=some (.ins C e fs))(n:p≠q):Wn A H' p dx l r k c ps:=#[s _ _ h.o n,h.b.but s hq]
open MK
def ahB:Sp:=fun vs H Q _=>∃n:Int,vs=[.int n]/\Q (.int (n*770093176312745717 % 1152921504606846976)) H
theorem acW(T:Tx K mg A):FnK P w base T.JX CX0 1 ahB:=by
 k_dat (T.JX,T.JX.ok,acU) "f"
 ·obtain⟨n,rfl,q⟩:=h;obtain⟨_,Ko,Kq⟩:=T.ZX;obtain⟨_,ahC,ahD⟩:=T.ahw;show#[_,by k_dat ([],[],[cW (v:=.int 770093176312745717) rfl ahC ahD,cW (v:=.int 1152921504606846976) rfl Ko Kq]) "p",?_];show#[_,rfl,_,_,rfl,rfl,gk tb_g% tb_g%,_,_,rfl,rfl,(by show(0:Int)<1152921504606846976;decide),q]
def Cm(r:Int)(h:Nat):Prop:=(r=0/\h=60)\/K8 r h
theorem Cm.uniq{r:Int}{h k:Nat}(a:Cm r h)(b:Cm r k):h=k:=by
 rcases a with⟨a,rfl⟩|a
 ·rcases b with⟨_,rfl⟩|b
  ·rfl
  ·exact absurd a b.ne
 ·rcases b with⟨b,rfl⟩|b
  ·exact absurd b a.ne
  ·exact a.uniq b
def al2:Sp:=fun vs H Q _=>∃n:Int,vs=[.int n]/\∀h:Nat,Cm (n*770093176312745717 % 1152921504606846976) h->Q (.int h) H
def restOf(σ:St)(_:Hp):Nat:=match σ with
 |[_,some (.int x),_]=>x.toNat
 |_=>0
theorem aiY(T:Tx K mg A):FnK P w base T.ZV CX0 2 al2:=by
 k_dat (T.ZV,T.ZV.ok,abf) "f"
 ·obtain⟨n,rfl,q⟩:=h;obtain⟨_,Ez,EY⟩:=T.Er;show#[_,by k_dat ([],[abf.nd,aC (acW T) ?_],[cW (v:=.int 60) rfl Ez EY]) "p",?_];show#[_,rfl,n,rfl,?_];have z0:=qP (n*770093176312745717) (show(1152921504606846976:Int)≠0 by decide);have z1:=Dk (n*770093176312745717) (show(0:Int)<1152921504606846976 by decide);generalize n*770093176312745717 % 1152921504606846976=r at q z0 z1
  k_dat lqg "c"
  show#[_,rfl,rfl,_,rfl,aY (fun h=>?_) (fun h=>?_)]
  ·have e:V.int r=V.int 0:=of_decide_eq_true h;exact q 60 (.inl #[V.int.inj e,rfl])
  ·have ne:r≠0:=fun z=>h (decide_eq_true (congrArg V.int z));refine T5 (fun σ H'=>Ex2 fun(x:Int) (i:Nat)=>vm (σ=[some (.int n),some (.int x),some (.int (i:Int))]) (To r x i) (H'=H)) restOf #[r,0,rfl,#[by simp,ne],rfl] ?_
    (by rintro σ H Q Q' hq ⟨v,e,i,j,e1,e2,h,sc,k,e3,q⟩;show#[v,e,i,j,e1,e2,h,sc,k,e3,hq _ _ q])
   rintro σ H' ⟨x,i,rfl,ht,rfl⟩;show#[_,rfl,_,_,rfl,rfl,(by show(0:Int)<2;decide),rfl,_,rfl,aY (fun h=>?_) (fun h=>?_)]
   ·k_dat lq "c"
    have e:x % 2=0:=V.int.inj (of_decide_eq_true h);have hx:=ht.lt (by lia) z1;show#[_,rfl,_,_,rfl,rfl,#[by decide,by decide],_,rfl,_,_,rfl,rfl,#[x / 2,i+1,?_,ht.step e,rfl],?_]
    ·rw[show((i+1:Nat):Int)=(i:Int)+1 by lia];rfl
    ·show(x / 2).toNat<x.toNat;lia
   ·have e:¬ x % 2=0:=fun z=>h (decide_eq_true (congrArg V.int z));show#[_,rfl,q i (.inr (ht.stop e))]
def df(aq bD cP d9:V):List (Str × V):=[("room",aq),("arrivals",bD),("level",cP),("kept",d9)]
theorem abj{K:aF}{mg:Str->Option Value}{A:Ad}{aq bD cP d9:V}(T:Tx K mg A):Fd K A.C'2 ("room" : Str) (df aq bD cP d9) aq:=#[T.JV,T.aa0,rfl]
theorem vo{K:aF}{mg:Str->Option Value}{A:Ad}{aq bD cP d9:V}(T:Tx K mg A):Fd K A.C'2 ("arrivals" : Str) (df aq bD cP d9) bD:=#[T.JV,T.VD,rfl]
theorem vQ{K:aF}{mg:Str->Option Value}{A:Ad}{aq bD cP d9:V}(T:Tx K mg A):Fd K A.C'2 ("level" : Str) (df aq bD cP d9) cP:=#[T.JV,T.VF,rfl]
theorem zf{K:aF}{mg:Str->Option Value}{A:Ad}{aq bD cP d9:V}(T:Tx K mg A):Fd K A.C'2 ("kept" : Str) (df aq bD cP d9) d9:=#[T.JV,T.VG,rfl]
theorem al3(aq bD cP d9:V):bM "kept" d9 (bM "level" cP (bM "arrivals" bD (bM "room" aq [])))=df aq bD cP d9:=by
 unfold df
 walk_at "rec"
theorem Fb(aq bD cP d9 y:V):bM "arrivals" y (df aq bD cP d9)=df aq y cP d9:=by
 unfold df
 walk_at "rec"
theorem R6(aq bD cP d9 y:V):bM "level" y (df aq bD cP d9)=df aq bD y d9:=by
 unfold df
 walk_at "rec"
theorem V5(aq bD cP d9 y:V):bM "kept" y (df aq bD cP d9)=df aq bD cP y:=by
 unfold df
 walk_at "rec"
def aiZ(A:Ad):Sp:=fun vs H Q _=>Ex3 fun(p dx:Addr) (r:Int)=>vm (vs=[.ref p,.int r]) (H p=some (.ins A.C'2 dx [])) (∀(d:Addr)(H':Hp),H d=none->H' p=some (.ins A.C'2 dx (df (.int r) (.int 0) (.int 0) (.ref d)))->H' d=some (.lst [])->But p H H'->Q .non H')
theorem Cp(T:Tx K mg A):FnM P w mg base T.jQ CX0 1 (aiZ A):=by
 k_dat (T.jQ,T.jQ.ok,Ci) "f"
 ·obtain⟨p,dx,r,rfl,hp,q⟩:=h;show#[_,by k_dat ([],[],[]) "p",?_];show#[_,rfl,_,rfl,p,_,dx,[],rfl,hp,T.JV,T.aa0,tb_g%,?_]
  k_dat (dx,aj,T.JV,T.VD) "v"
  k_dat (dx,aj,T.JV,T.VF) "v"
  rw[cV,cV]
  k_dat (d,hd) "t"
  have npd:p≠d:=fun z=>by rw[<-z,aj]at hd;cases hd
  rw[ao (aQ npd)]at hd;show#[_,rfl,p,_,dx,_,rfl,(by rw[ao npd];exact aj),T.JV,T.VG,tb_g%,?_];refine q d _ hd (Ik aj (by rw[al3])) (by rw[ao (aQ npd),aj]) fun b o e hb=>?_;rwa[ao hb,ao (ak e hd),ao hb]
theorem abk:∀(n:Nat)(r:Int),r.natAbs<=n->r≠0->∃h,K8 r h
 |0,r,h,h0=>absurd (show r=0 by lia) h0
 |n+1,r,h,h0=>by
  by_cases e:r % 2=1
  ·show#[0,r,by simp,e]
  ·obtain⟨k,m,e1,e2⟩:=abk n (r / 2) (by lia) (by lia);show#[k+1,m,?_,e2];rw[Yz,<-Ie,<-e1];lia
theorem abl(k:Int):∃h,Cm (k*770093176312745717 % 1152921504606846976) h:=by
 by_cases e:k*770093176312745717 % 1152921504606846976=0
 ·show#[60,.inl #[e,rfl]]
 ·obtain⟨h,hh⟩:=abk _ _ (aO _) e;show#[h,.inr hh]
noncomputable def mkOf(k:Int):Int:=(afv (abl k):Nat)
theorem mk_eq{k:Int}{h:Nat}(m:Cm (k*770093176312745717 % 1152921504606846976) h):(h:Int)=mkOf k:=by
 rw[m.uniq (afu (abl k))];rfl
noncomputable def up(v:Int)(ks:List Int):List Int:=ks.filter fun z=>decide (v<=mkOf z)
theorem al4{v:Int}{ks:List Int}(h:∀z∈ks,v<=mkOf z):up v ks=ks:=by
 unfold up;rw[List.filter_eq_self];exact fun z hz=>decide_eq_true (h z hz)
def srt(ns:List Int):List Int:=ns.mergeSort fun a b=>decide (a<=b)
theorem iV:∀{xs ys:List Int},xs.Perm ys->xs.Pairwise (· <= ·)->ys.Pairwise (· <= ·)->xs=ys
 |[],ys,p,_,_=>by rw[ady.mp p]
 |x::xs,[],p,_,_=>absurd p (by simp)
 |x::xs,y::ys,p,h1,h2=>by
  have a1:=tO.mp h1;have a2:=tO.mp h2;have e:x=y:=by
   have m1:x∈y::ys:=p.mem_iff.mp bV;have m2:y∈x::xs:=p.mem_iff.mpr bV;rcases aZ.mp m1 with z|z
   ·exact z
   ·rcases aZ.mp m2 with z'|z'
    ·exact z'.symm
    ·exact ae8 (a1.1 y z') (a2.1 x z)
  subst e;rw[iV (afz p) a1.2 a2.2]
theorem jB(ns:List Int):(srt ns).Perm ns:=WR _ _
theorem Jo(ns:List Int):(srt ns).Pairwise (· <= ·):=by
 have:=WD (le:=fun a b:Int=>decide (a<=b)) (fun a b c h1 h2=>by simp only[decide_eq_true_eq]at *; lia) (fun a b=>by simp only[PL,decide_eq_true_eq];lia) ns;exact this.imp fun h=>of_decide_eq_true h
theorem Zm{ns ms:List Int}(p:ms.Perm ns)(h:ms.Pairwise (· <= ·)):ms=srt ns:=iV (p.trans (jB ns).symm) h (Jo ns)
theorem yI(ns:List Int):(srt ns).length=ns.length:=(jB ns).length_eq
theorem aaJ{z:Int}{ns:List Int}:z∈srt ns↔z∈ns:=(jB ns).mem_iff
structure Dn(A:Ad)(H:Hp)(p dx l:Addr)(r n v:Int)(ks:List Int):Prop where
 o:H p=some (.ins A.C'2 dx (df (.int r) (.int n) (.int v) (.ref l)))
 l:H l=some (.lst (ks.map V.int))
theorem Dn.same{A:Ad}{H H':Hp}{p dx l:Addr}{r n v:Int}{ks:List Int}(h:Dn A H p dx l r n v ks)(s:Same H H'):Dn A H' p dx l r n v ks:=#[s _ _ h.o,s _ _ h.l]
theorem Dn.but{A:Ad}{H H':Hp}{p dx l q C e:Addr}{fs:List (Str × V)}{r n v:Int}{ks:List Int}(h:Dn A H p dx l r n v ks)(s:But q H H')(hq:H q=some (.ins C e fs))(m:p≠q):Dn A H' p dx l r n v ks:=#[s _ _ h.o m,s _ _ h.l (v9 h.l hq (by intro z;cases z))]
def Lvl(r v v':Int)(ks:List Int):Prop:=v<=v'/\((up v' ks).length:Int)<=r/\∀w,v<=w->w<v'->r<((up w ks).length:Int)
def came(C:List Int)(k:Int):List Int:=if k∈C then C else C++[k]
def Least(r v:Int)(C:List Int):Prop:=0<=v/\((up v C).length:Int)<=r/\∀w,0<=w->w<v->r<((up w C).length:Int)
def fl(r t l:Int)(d:Addr):List (Str × V):=[("room",.int r),("total",.int t),("lost",.int l),("counts",.ref d)]
theorem abm{K:aF}{mg:Str->Option Value}{A:Ad}{r t l:Int}{d:Addr}(T:Tx K mg A):Fd K A.C'3 ("room" : Str) (fl r t l d) (.int r):=#[T.JW,T.aa1,rfl]
theorem V6{K:aF}{mg:Str->Option Value}{A:Ad}{r t l:Int}{d:Addr}(T:Tx K mg A):Fd K A.C'3 ("total" : Str) (fl r t l d) (.int t):=#[T.JW,T.VH,rfl]
theorem abn{K:aF}{mg:Str->Option Value}{A:Ad}{r t l:Int}{d:Addr}(T:Tx K mg A):Fd K A.C'3 ("lost" : Str) (fl r t l d) (.int l):=#[T.JW,T.VJ,rfl]
theorem Cq{K:aF}{mg:Str->Option Value}{A:Ad}{r t l:Int}{d:Addr}(T:Tx K mg A):Fd K A.C'3 ("counts" : Str) (fl r t l d) (.ref d):=#[T.JW,T.VL,rfl]
theorem ne1:¬ (("room" : Str) = "total"):=by decide +kernel
theorem ne2:¬ (("room" : Str) = "lost"):=by decide +kernel
theorem ne3:¬ (("room" : Str) = "counts"):=by decide +kernel
theorem ne4:¬ (("total" : Str) = "lost"):=by decide +kernel
theorem ne5:¬ (("total" : Str) = "counts"):=by decide +kernel
theorem ne6:¬ (("lost" : Str) = "counts"):=by decide +kernel
theorem R7(f:Str)(v:V)(r:List (Str × V))(u:V):bM f v ((f,u)::r)=(f,v)::r:=by unfold bM;rw[if_pos rfl]
theorem gn{f g:Str}(h:¬ g=f)(v:V)(r:List (Str × V))(u:V):bM f v ((g,u)::r)=(g,u)::bM f v r:=by rw[bM,if_neg h]
theorem al5(r t l:Int)(d:Addr):bM "counts" (.ref d) (bM "lost" (.int l) (bM "total" (.int t) (bM "room" (.int r) [])))=fl r t l d:=by
 unfold fl;rw [show bM "room" (.int r) []=[(("room" : Str),V.int r)] from rfl,gn ne1,show bM "total" (.int t) []=[(("total" : Str),V.int t)] from rfl,gn ne2,gn ne4,
  show bM "lost" (.int l) []=[(("lost" : Str),V.int l)] from rfl,gn ne3,gn ne5,gn ne6]
 rfl
theorem ai0(r t l y:Int)(d:Addr):bM "total" (.int y) (fl r t l d)=fl r y l d:=by
 unfold fl;rw[gn ne1,R7]
theorem ai1(r t l y:Int)(d:Addr):bM "lost" (.int y) (fl r t l d)=fl r t y d:=by
 unfold fl;rw[gn ne2,gn ne4,R7]
theorem ai2(r t l:Int)(d e:Addr):bM "counts" (.ref e) (fl r t l d)=fl r t l e:=by
 unfold fl;rw[gn ne3,gn ne5,gn ne6,R7]
def al6(A:Ad):Sp:=fun vs H Q _=>Ex3 fun(p dx:Addr) (r:Int)=>vm (vs=[.ref p,.int r]) (H p=some (.ins A.C'3 dx [])) (∀(d:Addr)(H':Hp),H d=none->H' p=some (.ins A.C'3 dx (fl r 0 0 d))->H' d=some (.dK (emb []))->But p H H'->Q .non H')
theorem Cr(T:Tx K mg A):FnM P w mg base T.jR CX0 1 (al6 A):=by
 k_dat (T.jR,T.jR.ok,Cj) "f"
 ·obtain⟨p,dx,r,rfl,hp,k⟩:=h;show#[_,by k_dat ([agj],[],[]) "p",?_];show#[_,rfl,_,rfl,p,_,dx,[],rfl,hp,T.JW,T.aa1,tb_g%,?_]
  k_dat (dx,aj,T.JW,T.VH) "v"
  k_dat (dx,aj,T.JW,T.VJ) "v"
  rw[cV,cV];intro d hd;have npd:p≠d:=fun z=>by rw[<-z,aj]at hd;cases hd
  rw[ao (aQ npd)]at hd;show#[_,rfl,p,_,dx,_,rfl,(by rw[ao npd];exact aj),T.JW,T.VL,tb_g%,?_];refine k d _ hd (Ik aj (by rw[al5])) (by rw[ao (aQ npd),aj];rfl) fun b o e hb=>?_;rwa[ao hb,ao (ak e hd),ao hb]
def bf(bU rR:V):List (Str × V):=[("span",bU),("sums",rR)]
theorem ai3{K:aF}{mg:Str->Option Value}{A:Ad}{bU rR:V}(T:Tx K mg A):Fd K A.C'4 ("sums" : Str) (bf bU rR) rR:=#[T.cl'4,T.VN,rfl]
theorem al7(bU rR:V):bM "sums" rR (bM "span" bU [])=bf bU rR:=by
 unfold bf
 walk_at "rec"
theorem V7(bU rR y:V):bM "sums" y (bf bU rR)=bf bU y:=by
 unfold bf
 walk_at "rec"
structure Q4 where
 a:Int
 b:Int
 c:Int
 d:Int
def L4(q:Q4):List Int:=[q.a,q.b,q.c,q.d]
def addQ(q p:Q4):Q4:=#[q.a+p.a,q.b+p.b,q.c+p.c,q.d+p.d]
def pwQ(t w:Int):Q4:=#[w,w*t,w*t*t,w*t*t*t]
def abo:Q4:=#[0,0,0,0]
structure Bn(A:Ad)(H:Hp)(p dx l:Addr)(s:Int)(q:Q4):Prop where
 o:H p=some (.ins A.C'4 dx (bf (.int s) (.ref l)))
 l:H l=some (.lst ((L4 q).map V.int))
theorem Bn.same{A:Ad}{H H':Hp}{p dx l:Addr}{s:Int}{q:Q4}(h:Bn A H p dx l s q)(z:Same H H'):Bn A H' p dx l s q:=#[z _ _ h.o,z _ _ h.l]
theorem Bn.but{A:Ad}{H H':Hp}{p dx l x C e:Addr}{fs:List (Str × V)}{s:Int}{q:Q4}(h:Bn A H p dx l s q)(z:But x H H')(hq:H x=some (.ins C e fs))(m:p≠x):Bn A H' p dx l s q:=#[z _ _ h.o m,z _ _ h.l (v9 h.l hq (by intro z;cases z))]
def ai4(A:Ad):Sp:=fun vs H Q _=>Ex3 fun(p dx:Addr) (s:Int)=>vm (vs=[.ref p,.int s]) (H p=some (.ins A.C'4 dx [])) (∀(d:Addr)(H':Hp),H d=none->Bn A H' p dx d s abo->But p H H'->Q .non H')
theorem Fe(T:Tx K mg A):FnM P w mg base T.mU CX0 1 (ai4 A):=by
 k_dat (T.mU,T.mU.ok,Et) "f"
 ·obtain⟨p,dx,sp,rfl,hp,q⟩:=h;show#[_,by k_dat ([],[],[]) "p",?_];show#[_,rfl,_,rfl,p,_,dx,[],rfl,hp,T.cl'4,T.ahp,tb_g%,?_]
  k_dat (d,hd) "t"
  have npd:p≠d:=fun z=>by rw[<-z,aj]at hd;cases hd
  rw[ao (aQ npd)]at hd;show#[_,rfl,p,_,dx,_,rfl,(by rw[ao npd];exact aj),T.cl'4,T.VN,tb_g%,?_];refine q d _ hd #[Ik aj (by rw[al7]),by rw[ao (aQ npd),aj];rfl] fun b o e hb=>?_;rwa[ao hb,ao (ak e hd),ao hb]
def kf(aq aM bU cY cZ jZ dh bN dj bC:V):List (Str × V):=[("room",aq),("reach",aM),("span",bU),("came",cY),("went",cZ),("up",jZ),("down",dh),("window",bN),("seen",dj),("balance",bC)]
theorem ai5{K:aF}{mg:Str->Option Value}{A:Ad}{aq aM bU cY cZ jZ dh bN dj bC:V}(T:Tx K mg A):Fd K A.C'5 ("room" : Str) (kf aq aM bU cY cZ jZ dh bN dj bC) aq:=#[T.qp,T.aa2,rfl]
theorem ahE{K:aF}{mg:Str->Option Value}{A:Ad}{aq aM bU cY cZ jZ dh bN dj bC:V}(T:Tx K mg A):Fd K A.C'5 ("reach" : Str) (kf aq aM bU cY cZ jZ dh bN dj bC) aM:=#[T.qp,T.aa3,rfl]
theorem ai6{K:aF}{mg:Str->Option Value}{A:Ad}{aq aM bU cY cZ jZ dh bN dj bC:V}(T:Tx K mg A):Fd K A.C'5 ("span" : Str) (kf aq aM bU cY cZ jZ dh bN dj bC) bU:=#[T.qp,T.aa4,rfl]
theorem abp{K:aF}{mg:Str->Option Value}{A:Ad}{aq aM bU cY cZ jZ dh bN dj bC:V}(T:Tx K mg A):Fd K A.C'5 ("came" : Str) (kf aq aM bU cY cZ jZ dh bN dj bC) cY:=#[T.qp,T.aa5,rfl]
theorem abq{K:aF}{mg:Str->Option Value}{A:Ad}{aq aM bU cY cZ jZ dh bN dj bC:V}(T:Tx K mg A):Fd K A.C'5 ("went" : Str) (kf aq aM bU cY cZ jZ dh bN dj bC) cZ:=#[T.qp,T.aa6,rfl]
theorem ajG{K:aF}{mg:Str->Option Value}{A:Ad}{aq aM bU cY cZ jZ dh bN dj bC:V}(T:Tx K mg A):Fd K A.C'5 ("up" : Str) (kf aq aM bU cY cZ jZ dh bN dj bC) jZ:=#[T.qp,T.aa7,rfl]
theorem abr{K:aF}{mg:Str->Option Value}{A:Ad}{aq aM bU cY cZ jZ dh bN dj bC:V}(T:Tx K mg A):Fd K A.C'5 ("down" : Str) (kf aq aM bU cY cZ jZ dh bN dj bC) dh:=#[T.qp,T.aa8,rfl]
theorem Nu{K:aF}{mg:Str->Option Value}{A:Ad}{aq aM bU cY cZ jZ dh bN dj bC:V}(T:Tx K mg A):Fd K A.C'5 ("window" : Str) (kf aq aM bU cY cZ jZ dh bN dj bC) bN:=#[T.qp,T.aa9,rfl]
theorem Gg{K:aF}{mg:Str->Option Value}{A:Ad}{aq aM bU cY cZ jZ dh bN dj bC:V}(T:Tx K mg A):Fd K A.C'5 ("seen" : Str) (kf aq aM bU cY cZ jZ dh bN dj bC) dj:=#[T.qp,T.abb,rfl]
theorem Kr{K:aF}{mg:Str->Option Value}{A:Ad}{aq aM bU cY cZ jZ dh bN dj bC:V}(T:Tx K mg A):Fd K A.C'5 ("balance" : Str) (kf aq aM bU cY cZ jZ dh bN dj bC) bC:=#[T.qp,T.abd,rfl]
theorem al8(aq aM bU cY cZ jZ dh bN dj bC:V):bM "balance" bC (bM "seen" dj (bM "window" bN (bM "down" dh (bM "up" jZ (bM "went" cZ (bM "came" cY (bM "span" bU (bM "reach" aM (bM "room" aq [])))))))))=kf aq aM bU cY cZ jZ dh bN dj bC:=by
 unfold kf
 walk_at "rec"
structure Fq where
 (p dx d:Addr) (t l:Int) (c:Tab)
structure Rs where
 (dx a:Addr) (bs:List Addr) (r tt ov un tn:Int) (mi ma:Option Int) (ls:RG.Ls)
abbrev RnX(A:Ad)(H:Hp)(p:Addr)(x:Rs):Prop:=Rn A H p x.dx x.a x.bs x.r x.tt x.ov x.un x.tn x.mi x.ma x.ls
structure Ru where
 (p:Addr) (x:Rs)
structure Wi where
 (p dx l:Addr) (c:Int) (ps:List Bp)
structure Di where
 (p dx l:Addr) (n v:Int) (C:List Int)
structure Ba where
 (p dx l:Addr) (q:Q4)
structure KS where
 (k dk:Addr) (room:Nat) (reach span:Int) (cm wn:Fq) (up dn:Ru) (wi:Wi) (di:Di) (ba:Ba)
structure pK(A:Ad)(H:Hp)(room:Nat)(f:Fq):Prop where
 o:H f.p=some (.ins A.C'3 f.dx (fl room f.t f.l f.d))
 d:H f.d=some (.dK (emb f.c))
theorem pK.same{A:Ad}{H H':Hp}{room:Nat}{f:Fq}(h:pK A H room f)(s:Same H H'):pK A H' room f:=#[s _ _ h.o,s _ _ h.d]
theorem pK.but{A:Ad}{H H':Hp}{room:Nat}{f:Fq}{q C e:Addr}{fs:List (Str × V)}(h:pK A H room f)(s:L2.But q H H')(hq:H q=some (.ins C e fs))(n:f.p≠q):pK A H' room f:=
 #[s _ _ h.o n,s _ _ h.d (v9 h.d hq (by intro z;cases z))]
def KS.all(x:KS):List Addr:=[x.k,x.cm.p,x.wn.p,x.up.p,x.dn.p,x.wi.p,x.di.p,x.ba.p]
structure Kp(A:Ad)(H:Hp)(x:KS):Prop where
 o:H x.k=some (.ins A.C'5 x.dk (kf (.int x.room) (.int x.reach) (.int x.span) (.ref x.cm.p) (.ref x.wn.p) (.ref x.up.p) (.ref x.dn.p) (.ref x.wi.p) (.ref x.di.p) (.ref x.ba.p)))
 cm:pK A H x.room x.cm
 wn:pK A H x.room x.wn
 up:RnX A H x.up.p x.up.x
 dn:RnX A H x.dn.p x.dn.x
 wi:Wn A H x.wi.p x.wi.dx x.wi.l x.room x.reach x.wi.c x.wi.ps
 di:Dn A H x.di.p x.di.dx x.di.l x.room x.di.n x.di.v (srt (My.up x.di.v x.di.C))
 ba:Bn A H x.ba.p x.ba.dx x.ba.l x.span x.ba.q
 nd:x.all.Nodup
theorem Kp.same{A:Ad}{H H':Hp}{x:KS}(h:Kp A H x)(s:Same H H'):Kp A H' x:=#[s _ _ h.o,h.cm.same s,h.wn.same s,h.up.same s,h.dn.same s,h.wi.same s,h.di.same s,h.ba.same s,h.nd]
structure Ap(x:KS):Prop where
 k1:x.k≠x.cm.p
 k2:x.k≠x.wn.p
 k3:x.k≠x.up.p
 k4:x.k≠x.dn.p
 k5:x.k≠x.wi.p
 k6:x.k≠x.di.p
 k7:x.k≠x.ba.p
 c2:x.cm.p≠x.wn.p
 c3:x.cm.p≠x.up.p
 c4:x.cm.p≠x.dn.p
 c5:x.cm.p≠x.wi.p
 c6:x.cm.p≠x.di.p
 c7:x.cm.p≠x.ba.p
 w3:x.wn.p≠x.up.p
 w4:x.wn.p≠x.dn.p
 w5:x.wn.p≠x.wi.p
 w6:x.wn.p≠x.di.p
 w7:x.wn.p≠x.ba.p
 u4:x.up.p≠x.dn.p
 u5:x.up.p≠x.wi.p
 u6:x.up.p≠x.di.p
 u7:x.up.p≠x.ba.p
 d5:x.dn.p≠x.wi.p
 d6:x.dn.p≠x.di.p
 d7:x.dn.p≠x.ba.p
 i6:x.wi.p≠x.di.p
 i7:x.wi.p≠x.ba.p
 s7:x.di.p≠x.ba.p
theorem Kp.ap{A:Ad}{H:Hp}{x:KS}(h:Kp A H x):Ap x:=by
 have n:=h.nd;unfold KS.all at n;simp only[fK,aZ,cC,or_false,not_or,zO,and_true,not_false_eq_true]at n;obtain⟨⟨k1,k2,k3,k4,k5,k6,k7⟩,⟨c2,c3,c4,c5,c6,c7⟩,⟨w3,w4,w5,w6,w7⟩,⟨u4,u5,u6,u7⟩,⟨d5,d6,d7⟩,⟨i6,i7⟩,s7⟩:=n;show#[k1,k2,k3,k4,k5,k6,k7,c2,c3,c4,c5,c6,c7,w3,w4,w5,w6,w7,u4,u5,u6,u7,d5,d6,d7,i6,i7,s7]
open MK
def KS.pts(x:KS):List Addr:=[x.cm.p,x.wn.p,x.up.p,x.dn.p,x.wi.p,x.di.p,x.ba.p]
structure Pp(A:Ad)(H:Hp)(x:KS):Prop where
 cm:pK A H x.room x.cm
 wn:pK A H x.room x.wn
 up:RnX A H x.up.p x.up.x
 dn:RnX A H x.dn.p x.dn.x
 wi:Wn A H x.wi.p x.wi.dx x.wi.l x.room x.reach x.wi.c x.wi.ps
 di:Dn A H x.di.p x.di.dx x.di.l x.room x.di.n x.di.v (srt (My.up x.di.v x.di.C))
 ba:Bn A H x.ba.p x.ba.dx x.ba.l x.span x.ba.q
 nd:x.pts.Nodup
theorem Kp.pp{A:Ad}{H:Hp}{x:KS}(h:Kp A H x):Pp A H x:=#[h.cm,h.wn,h.up,h.dn,h.wi,h.di,h.ba,(fK.mp h.nd).2]
theorem Kp.nk{A:Ad}{H:Hp}{x:KS}(h:Kp A H x):x.k∉x.pts:=(fK.mp h.nd).1
section
variable{A:Ad}{H H':Hp}{x:KS}
theorem Pp.kp(h:Pp A H x)(o:H x.k=some (.ins A.C'5 x.dk (kf (.int x.room) (.int x.reach) (.int x.span) (.ref x.cm.p) (.ref x.wn.p) (.ref x.up.p) (.ref x.dn.p) (.ref x.wi.p) (.ref x.di.p) (.ref x.ba.p))))(n:x.k∉x.pts):Kp A H x:=
 #[o,h.cm,h.wn,h.up,h.dn,h.wi,h.di,h.ba,fK.mpr #[n,h.nd]]
theorem Pp.but{q C e:Addr}{fs:List (Str × V)}(h:Pp A H x)(b:L2.But q H H')(hq:H q=some (.ins C e fs))(n:q∉x.pts):Pp A H' x:=by
 unfold KS.pts at n;simp only[aZ,cC,or_false,not_or]at n;obtain⟨n1,n2,n3,n4,n5,n6,n7⟩:=n;show#[h.cm.but b hq (aQ n1),h.wn.but b hq (aQ n2),h.up.but b hq (aQ n3),h.dn.but b hq (aQ n4),h.wi.but b hq (aQ n5),h.di.but b hq (aQ n6),h.ba.but b hq (aQ n7),h.nd]
structure Ap7(x:KS):Prop where
 c:x.cm.p≠x.wn.p/\x.cm.p≠x.up.p/\x.cm.p≠x.dn.p/\x.cm.p≠x.wi.p/\x.cm.p≠x.di.p/\x.cm.p≠x.ba.p
 w:x.wn.p≠x.up.p/\x.wn.p≠x.dn.p/\x.wn.p≠x.wi.p/\x.wn.p≠x.di.p/\x.wn.p≠x.ba.p
 u:x.up.p≠x.dn.p/\x.up.p≠x.wi.p/\x.up.p≠x.di.p/\x.up.p≠x.ba.p
 d:x.dn.p≠x.wi.p/\x.dn.p≠x.di.p/\x.dn.p≠x.ba.p
 i:x.wi.p≠x.di.p/\x.wi.p≠x.ba.p
 s:x.di.p≠x.ba.p
theorem Pp.ap(h:Pp A H x):Ap7 x:=by
 have n:=h.nd;unfold KS.pts at n;simp only[fK,aZ,cC,or_false,not_or,zO,and_true,not_false_eq_true]at n;obtain⟨c,w,u,d,i,s⟩:=n;show#[c,w,u,d,i,s]
theorem Pp.setC(h:Pp A H x){f:Fq}(e:f.p=x.cm.p)(b:L2.But x.cm.p H H')(hf:pK A H' x.room f):Pp A H' { x with cm:=f }:=by
 have a:=h.ap;have q:=h.cm.o;obtain ⟨a1,a2,a3,a4,a5,a6⟩:=a.c;show#[hf,h.wn.but b q (aQ a1),h.up.but b q (aQ a2),h.dn.but b q (aQ a3),h.wi.but b q (aQ a4),h.di.but b q (aQ a5),h.ba.but b q (aQ a6),by
  show [f.p,x.wn.p,x.up.p,x.dn.p,x.wi.p,x.di.p,x.ba.p].Nodup;rw [e];exact h.nd]
theorem Pp.setW(h:Pp A H x){f:Fq}(e:f.p=x.wn.p)(b:L2.But x.wn.p H H')(hf:pK A H' x.room f):Pp A H' { x with wn:=f }:=by
 have a:=h.ap;have q:=h.wn.o;obtain ⟨a2,a3,a4,a5,a6⟩:=a.w;show#[h.cm.but b q a.c.1,hf,h.up.but b q (aQ a2),h.dn.but b q (aQ a3),h.wi.but b q (aQ a4),h.di.but b q (aQ a5),h.ba.but b q (aQ a6),by
  show [x.cm.p,f.p,x.up.p,x.dn.p,x.wi.p,x.di.p,x.ba.p].Nodup;rw [e];exact h.nd]
theorem Pp.setU(h:Pp A H x){f:Ru}(e:f.p=x.up.p)(b:L2.But x.up.p H H')(hf:RnX A H' f.p f.x):Pp A H' { x with up:=f }:=by
 have a:=h.ap;have q:=h.up.o;obtain ⟨a3,a4,a5,a6⟩:=a.u;show#[h.cm.but b q a.c.2.1,h.wn.but b q a.w.1,hf,h.dn.but b q (aQ a3),h.wi.but b q (aQ a4),h.di.but b q (aQ a5),h.ba.but b q (aQ a6),by
  show [x.cm.p,x.wn.p,f.p,x.dn.p,x.wi.p,x.di.p,x.ba.p].Nodup;rw [e];exact h.nd]
theorem Pp.setD(h:Pp A H x){f:Ru}(e:f.p=x.dn.p)(b:L2.But x.dn.p H H')(hf:RnX A H' f.p f.x):Pp A H' { x with dn:=f }:=by
 have a:=h.ap;have q:=h.dn.o;obtain ⟨a4,a5,a6⟩:=a.d;show#[h.cm.but b q a.c.2.2.1,h.wn.but b q a.w.2.1,h.up.but b q a.u.1,hf,h.wi.but b q (aQ a4),h.di.but b q (aQ a5),h.ba.but b q (aQ a6),by
  show [x.cm.p,x.wn.p,x.up.p,f.p,x.wi.p,x.di.p,x.ba.p].Nodup;rw [e];exact h.nd]
theorem Pp.setI(h:Pp A H x){f:Wi}(e:f.p=x.wi.p)(b:L2.But x.wi.p H H')(hf:Wn A H' f.p f.dx f.l x.room x.reach f.c f.ps):Pp A H' { x with wi:=f }:=by
 have a:=h.ap;have q:=h.wi.o;show#[h.cm.but b q a.c.2.2.2.1,h.wn.but b q a.w.2.2.1,h.up.but b q a.u.2.1,h.dn.but b q a.d.1,hf,h.di.but b q (aQ a.i.1),h.ba.but b q (aQ a.i.2),by
  show [x.cm.p,x.wn.p,x.up.p,x.dn.p,f.p,x.di.p,x.ba.p].Nodup;rw [e];exact h.nd]
theorem Pp.setS(h:Pp A H x){f:Di}(e:f.p=x.di.p)(b:L2.But x.di.p H H')(hf:Dn A H' f.p f.dx f.l x.room f.n f.v (srt (My.up f.v f.C))):Pp A H' { x with di:=f }:=by
 have a:=h.ap;have q:=h.di.o;show#[h.cm.but b q a.c.2.2.2.2.1,h.wn.but b q a.w.2.2.2.1,h.up.but b q a.u.2.2.1,h.dn.but b q a.d.2.1,h.wi.but b q a.i.1,hf,h.ba.but b q (aQ a.s),by
  show [x.cm.p,x.wn.p,x.up.p,x.dn.p,x.wi.p,f.p,x.ba.p].Nodup;rw [e];exact h.nd]
theorem Pp.setB(h:Pp A H x){f:Ba}(e:f.p=x.ba.p)(b:L2.But x.ba.p H H')(hf:Bn A H' f.p f.dx f.l x.span f.q):Pp A H' { x with ba:=f }:=by
 have a:=h.ap;have q:=h.ba.o;show#[h.cm.but b q a.c.2.2.2.2.2,h.wn.but b q a.w.2.2.2.2,h.up.but b q a.u.2.2.2,h.dn.but b q a.d.2.2,h.wi.but b q a.i.2,h.di.but b q a.s,hf,by
  show [x.cm.p,x.wn.p,x.up.p,x.dn.p,x.wi.p,x.di.p,f.p].Nodup;rw [e];exact h.nd]
structure Far(A:Ad)(ps:List Addr)(H H':Hp):Prop where
 pb:∀b o,H b=some o->b∉ps->H' b=some o
 py:∀y:KS,Pp A H y->(∀b∈y.pts,b∉ps)->Pp A H' y
end
def FS(room:Nat)(th w:Int)(f g:Fq):Prop:=∃cut,alz room (put f.c th (low f.c th+w)) g.c cut/\g.t=f.t+w/\g.l=f.l+cut
structure RS(th w:Int)(f g:Rs):Prop where
 r:g.r=f.r
 tt:g.tt=f.tt+w
 mi:g.mi=lo2 f.mi (some th)
 ma:g.ma=hi2 f.ma (some th)
 st:RG.Stl f.r 0 f.tn f.ov f.un (RG.ajx th f.ls w.toNat) g.ls g.tn g.ov g.un
def WS(room:Nat)(reach c:Int)(bs:List WN.Box)(g:Wi):Prop:=g.c=c/\bx g.ps=Kg room (c-reach) bs
def DS(room:Nat)(th:Int)(f g:Di):Prop:=g.n=f.n+1/\g.C=came f.C th/\Lvl room f.v g.v (came f.C th)
structure SB(x x':KS):Prop where
 room:x'.room=x.room
 reach:x'.reach=x.reach
 span:x'.span=x.span
 pts:x'.pts=x.pts
 k:x'.k=x.k
 dk:x'.dk=x.dk
structure SP(th w:Int)(x x':KS):Prop where
 sb:SB x x'
 cm:FS x.room th w x.cm x'.cm
 wn:x'.wn=x.wn
 up:RS th w x.up.x x'.up.x
 dn:x'.dn=x.dn
 wi:WS x.room x.reach (x.wi.c+1) (bx x.wi.ps++[#[x.wi.c+1,x.wi.c+1,w]]) x'.wi
 di:DS x.room th x.di x'.di
 ba:x'.ba.q=if th<x.span then addQ x.ba.q (pwQ th w)else x.ba.q
structure ST(th w:Int)(x x':KS):Prop where
 sb:SB x x'
 cm:x'.cm=x.cm
 wn:FS x.room th w x.wn x'.wn
 up:x'.up=x.up
 dn:RS th w x.dn.x x'.dn.x
 wi:WS x.room x.reach (x.wi.c+1) (bx x.wi.ps) x'.wi
 di:x'.di=x.di
 ba:x'.ba.q=if th<x.span then addQ x.ba.q (pwQ th (-w))else x.ba.q
structure SI(w:Int)(x x':KS):Prop where
 sb:SB x x'
 cm:x'.cm=x.cm
 wn:x'.wn=x.wn
 up:x'.up=x.up
 dn:x'.dn=x.dn
 wi:WS x.room x.reach (x.wi.c+w) (bx x.wi.ps) x'.wi
 di:x'.di=x.di
 ba:x'.ba=x.ba
structure EF(f g:Fq):Prop where
 t:f.t=g.t
 l:f.l=g.l
 c:f.c=g.c
structure ER(f g:Rs):Prop where
 r:f.r=g.r
 tt:f.tt=g.tt
 ov:f.ov=g.ov
 un:f.un=g.un
 tn:f.tn=g.tn
 mi:f.mi=g.mi
 ma:f.ma=g.ma
 ls:f.ls=g.ls
structure EW(f g:Wi):Prop where
 c:f.c=g.c
 b:bx f.ps=bx g.ps
structure ED(f g:Di):Prop where
 n:f.n=g.n
 v:f.v=g.v
 C:f.C=g.C
structure Eqp(x y:KS):Prop where
 room:x.room=y.room
 reach:x.reach=y.reach
 span:x.span=y.span
 cm:EF x.cm y.cm
 wn:EF x.wn y.wn
 up:ER x.up.x y.up.x
 dn:ER x.dn.x y.dn.x
 wi:EW x.wi y.wi
 di:ED x.di y.di
 ba:x.ba.q=y.ba.q
structure Gf(room:Nat)(f:Fq)(n:Nat):Prop where
 ok:∃W,Ok room f.c f.t f.l W
 t:f.t<=1000000000000*n
 k:f.c.length<=n
structure Gr(room:Nat)(f:Rs)(n:Nat):Prop where
 r:f.r=room
 g:RG.Good f.r f.tt f.ov f.un f.ls
 t:f.tt<=1000000000000*n
 sm:room<=15\/∀l∈f.ls,l.length<=n
structure Kh(x:KS)(n:Nat):Prop where
 r2:2<=x.room
 r64:x.room<=64
 rr:x.room<=15\/x.room=64
 cm:Gf x.room x.cm n
 wn:Gf x.room x.wn n
 up:Gr x.room x.up.x n
 dn:Gr x.room x.dn.x n
 wl:x.wi.ps.length<=n
 dl:Least x.room x.di.v x.di.C
 dc:x.di.C.length<=n
 few:n<=63
def R0(room:Nat):Rs:=#[0,0,[],room,0,0,0,0,none,none,[]]
def K0(room:Nat)(reach span:Int):KS:=#[0,0,room,reach,span,#[0,0,0,0,0,[]],#[0,0,0,0,0,[]],#[0,R0 room],#[0,R0 room],#[0,0,0,0,[]],#[0,0,0,0,0,[]],#[0,0,0,abo]]
open MK
def KS.ems(x:KS):List Addr:=x.up.x.a::x.dn.x.a::x.wi.l::x.di.l::(x.up.x.bs++x.dn.x.bs)
theorem Far.none{A:Ad}{H H1:Hp}{ps:List Addr}(f:Far A ps H H1)(lv:∀b∈ps,H1 b≠Option.none){c:Addr}(n:H1 c=Option.none):H c=Option.none:=by
 cases e:H c with
 |none=>rfl
 |some o =>
  exfalso;by_cases m:c∈ps
  ·exact lv c m n
  ·rw[f.pb c o e m]at n;cases n
open MK
structure Cs(H G:Hp)(k C dk:Addr)(fs:List (Str × V))(ps:List Addr):Prop where
 o:G k=some (.ins C dk fs)
 b:But k H G
 fr:∀p∈ps,H p=none
 lv:∀p∈ps,G p≠none
 nd:(k::ps).Nodup
structure Sta(k:Addr)(P:Hp->Prop):Prop where
 s:∀{G I:Hp},P G->Same G I->P I
 b:∀{G I:Hp}{C e:Addr} {fs:List (Str × V)},P G->But k G I->G k=some (.ins C e fs)->P I
theorem Sta.and{k:Addr}{P R:Hp->Prop}(a:Sta k P)(b:Sta k R):Sta k fun G=>P G/\R G:=#[fun h s=>#[a.s h.1 s,b.s h.2 s],fun h s o=>#[a.b h.1 s o,b.b h.2 s o]]
section
variable{H G I:Hp}{k C dk p dx X:Addr}{fs fs':List (Str × V)}{ps:List Addr}
theorem Cs.s(n:G p=none)(m:G dx=none)(bt:But p (upd (upd G dx (.own p)) p (.ins X dx [])) I):Same G I:=fun b o e=>bt b o (by rwa[ao (ak e n),ao (ak e m)]) (ak e n)
theorem Cs.free(h:Cs H G k C dk fs ps){d:Addr}(y:(upd (upd G dx (.own p)) p (.ins X dx [])) d=none):H d=none:=by
 have np:d≠p:=fun z=>by rw[z,aj]at y;cases y
 rw[ao np]at y;have nq:d≠dx:=fun z=>by rw[z,aj]at y;cases y
 rw[ao nq]at y;exact uR h.b y (aQ (ak h.o y))
theorem Cs.next{α:Type}{R:α->Hp->Prop}{σ:α}(h:Cs H G k C dk fs ps)(n:G p=none)(m:G dx=none)(bt:But p (upd (upd G dx (.own p)) p (.ins X dx [])) I)(lv:I p≠none)
  (q:∀J,Cs H J k C dk fs' (ps++[p])->p≠k->(∀{P:Hp->Prop},Sta k P->P I->P J)->(∀{P:Hp->Prop},Sta k P->P G->P J)->R σ J):R σ (upd I k (.ins C dk fs')):=by
 have s:=Cs.s n m bt;have o:=s _ _ h.o;have nk:p≠k:=aQ (ak h.o n);have u:But k I (upd I k (.ins C dk fs')):=But.upd;have np:p∉ps:=fun z=>h.lv p z n;have nd:=fK.mp h.nd;refine q _ #[aj,(h.b.trans (s.but k)).trans u,fun b mb=>?_,fun b mb=>?_,fK.mpr #[fun z=>?_,WY.mpr #[nd.2,fK.mpr #[cC,zO],fun a ma b mb=>?_]]] nk (fun S z=>S.b z u o) (fun S z=>S.b (S.s z s) u o)
 ·rcases dX.mp mb with z|z
  ·exact h.fr b z
  ·rw[eY.mp z];exact uR h.b n nk
 ·rcases dX.mp mb with z|z
  ·rw[ao fun y=>nd.1 (by rwa[<-y])];intro y;exact h.lv b z (s.free y)
  ·rwa[eY.mp z,ao nk]
 ·rcases dX.mp z with z|z
  ·exact nd.1 z
  ·exact nk (eY.mp z).symm
 ·rw[eY.mp mb];exact fun z=>np (by rwa[<-z])
end
def ai7(A:Ad):Sp:=fun vs H Q _=>Ex5 fun(k dk:Addr) (room:Nat) (reach span:Int)=>V1 (vs=[.ref k,.int room,.int reach,.int span]) (H k=some (.ins A.C'5 dk [])) (2<=room) (room<=64) (room % 2=0) (∀(x:KS)(H':Hp),Kp A H' x->Eqp x (K0 room reach span)->x.k=k->(∀b∈x.pts,H b=none)->(∀b∈x.ems,H b=none)->But k H H'->Q .non H')
theorem pK.sta{A:Ad}{room:Nat}{f:Fq}{k:Addr}(n:f.p≠k):Sta k fun G=>pK A G room f:=#[fun h s=>h.same s,fun h b o=>h.but b o n]
theorem RnX.sta{A:Ad}{p:Addr}{x:Rs}{k:Addr}(n:p≠k):Sta k fun G=>RnX A G p x:=#[fun h s=>h.same s,fun h b o=>h.but b o n]
theorem Cu(T:Tx K mg A):FnM P w mg base T.jT CX0 3 (ai7 A):=by
 k_dat (T.jT,T.jT.ok,Ck) "f"
 ·obtain⟨k,dk,room,reach,span,rfl,hk,r2,r64,ev,q⟩:=h;show#[_,by k_dat ([],[ql T.abU T.ZQ (Cr T) ?_,ql T.abR T.aiR (Ly T) ?_,ql T.abS T.aho (Kl T) ?_,ql T.abT T.ZP (Cp T) ?_,ql T.abV T.acQ (Fe T) ?_],[]) "p",?_];refine sq fun R hR=>#[_,rfl,_,rfl,k,_,dk,[],rfl,hk,T.qp,T.aa2,tb_g%,hR _ _ ?_];refine sq fun R hR=>#[_,rfl,_,rfl,k,_,dk,_,rfl,aj,T.qp,T.aa3,tb_g%,hR _ _ ?_];refine sq fun R hR=>#[_,rfl,_,rfl,k,_,dk,_,rfl,aj,T.qp,T.aa4,tb_g%,?_];rw[cV,cV]
  k_dat (nbA,G,zG,fG) "n"
  have C0:Cs H G k A.C'5 dk _ []:=⟨fG,zG,(fun b m=>nomatch m),(fun b m=>nomatch m),fK.mpr ⟨cC,zO⟩⟩;refine hR _ _ (sq fun R hR=>⟨_,rfl,fun p1 dx1 n m _=>⟨p1,dx1,(room:Int),rfl,aj,fun d1 I _ e g bt=>⟨rfl,_,rfl,k,_,dk,_,rfl,(Cs.s n m bt) _ _ C0.o,T.qp,T.aa5,tb_g%,C0.next n m bt (fun z=>by rw[e]at z;cases z) fun G1 C1 nk kI kG=>hR _ _ ?_⟩⟩⟩)
  k_dat lq "c"
  have S:=pK.sta (A:=A) (room:=room) (f:=#[p1,dx1,d1,0,0,[]]) nk;have F:=kI S #[e,g];refine sq fun R hR=>#[_,rfl,fun p2 dx2 n m _=>#[p2,dx2,(room:Int),rfl,aj,fun d2 I _ e g bt=>#[rfl,_,rfl,k,_,dk,_,rfl,(Cs.s n m bt) _ _ C1.o,T.qp,T.aa6,tb_g%,C1.next n m bt (fun z=>by rw[e]at z;cases z) fun G2 C2 nk kI kG=>hR _ _ ?_]]]
  k_dat lq "c"
  have S':=pK.sta (A:=A) (room:=room) (f:=⟨p2,dx2,d2,0,0,[]⟩) nk;replace F:=And.intro (kG S F) (kI S' ⟨e,g⟩);replace S:=S.and S';refine sq fun R hR=>⟨_,rfl,fun p3 dx3 n m _=>⟨p3,dx3,(room:Int),rfl,aj,fun d3 I hd e g bt=>⟨rfl,_,rfl,k,_,dk,_,rfl,(Cs.s n m bt) _ _ C2.o,T.qp,T.aa7,tb_g%,C2.next n m bt (fun z=>by rw[e]at z;cases z) fun G3 C3 nk kI kG=>hR _ _ ?_⟩⟩⟩;have v3:=C2.free hd;have S':=RnX.sta (A:=A) (x:=⟨dx3,d3,[],room,0,0,0,0,none,none,[]⟩) nk;replace F:=And.intro (kG S F) (kI S' (Rn.new e g));replace S:=S.and S';refine sq fun R hR=>⟨_,rfl,fun p4 dx4 n m _=>⟨p4,dx4,(room:Int),rfl,aj,fun d4 I hd e g bt=>⟨rfl,_,rfl,k,_,dk,_,rfl,(Cs.s n m bt) _ _ C3.o,T.qp,T.aa8,tb_g%,C3.next n m bt (fun z=>by rw[e]at z;cases z) fun G4 C4 nk kI kG=>hR _ _ ?_⟩⟩⟩;have v4:=C3.free hd;have S':=RnX.sta (A:=A) (x:=⟨dx4,d4,[],room,0,0,0,0,none,none,[]⟩) nk;replace F:=And.intro (kG S F) (kI S' (Rn.new e g));replace S:=S.and S';refine sq fun R hR=>⟨_,rfl,_,rfl,fun p5 dx5 n m _=>⟨p5,dx5,(room:Int),reach,rfl,aj,fun d5 I hd e g bt=>⟨rfl,_,rfl,k,_,dk,_,rfl,(Cs.s n m bt) _ _ C4.o,T.qp,T.aa9,tb_g%,C4.next n m bt (fun z=>by rw[e]at z;cases z) fun G5 C5 nk kI kG=>hR _ _ ?_⟩⟩⟩;have v5:=C4.free hd;have S':=(⟨fun h s=>h.same s,fun h b o=>h.but b o nk⟩:Sta k fun G=>Wn A G p5 dx5 d5 room reach 0 []);replace F:=And.intro (kG S F) (kI S' ⟨e,⟨g,fun _ h=>(nomatch h)⟩⟩);replace S:=S.and S';refine sq fun R hR=>⟨_,rfl,fun p6 dx6 n m _=>⟨p6,dx6,(room:Int),rfl,aj,fun d6 I hd e g bt=>⟨rfl,_,rfl,k,_,dk,_,rfl,(Cs.s n m bt) _ _ C5.o,T.qp,T.abb,tb_g%,C5.next n m bt (fun z=>by rw[e]at z;cases z) fun G6 C6 nk kI kG=>hR _ _ ?_⟩⟩⟩;have v6:=C5.free hd;have S':=(⟨fun h s=>h.same s,fun h b o=>h.but b o nk⟩:Sta k fun G=>Dn A G p6 dx6 d6 room 0 0 (srt (My.up 0 [])));replace F:=And.intro (kG S F) (kI S' ⟨e,by rwa[show srt (My.up 0 [])=[]from vV.mp (yI _)]⟩);replace S:=S.and S';refine⟨_,rfl,fun p7 dx7 n m _=>⟨p7,dx7,span,rfl,aj,fun d7 I _ e bt=>⟨rfl,_,rfl,k,_,dk,_,rfl,(Cs.s n m bt) _ _ C6.o,T.qp,T.abd,tb_g%,C6.next n m bt (fun z=>by rw[e.o]at z;cases z) fun G7 C7 nk kI kG=>?_⟩⟩⟩;have S':=(⟨fun h s=>h.same s,fun h b o=>h.but b o nk⟩:Sta k fun G=>Bn A G p7 dx7 d7 span abo);replace F:=And.intro (kG S F) (kI S' e);obtain⟨⟨⟨⟨⟨⟨F1,F2⟩,F3⟩,F4⟩,F5⟩,F6⟩,F7⟩:=F;have o7:=C7.o;rw[al8]at o7;refine q ⟨k,dk,room,reach,span,⟨p1,dx1,d1,0,0,[]⟩,⟨p2,dx2,d2,0,0,[]⟩,⟨p3,⟨dx3,d3,[],room,0,0,0,0,none,none,[]⟩⟩,⟨p4,⟨dx4,d4,[],room,0,0,0,0,none,none,[]⟩⟩,⟨p5,dx5,d5,0,[]⟩,⟨p6,dx6,d6,0,0,[]⟩,⟨p7,dx7,d7,abo⟩⟩ G7 ⟨o7,F1,F2,F3,F4,F5,F6,F7,C7.nd⟩
   #[rfl,rfl,rfl,#[rfl,rfl,rfl],#[rfl,rfl,rfl],#[rfl,rfl,rfl,rfl,rfl,rfl,rfl,rfl],#[rfl,rfl,rfl,rfl,rfl,rfl,rfl,rfl],#[rfl,rfl],#[rfl,rfl,rfl],rfl] rfl C7.fr (fun b m=>?_) C7.b
  unfold KS.ems at m;simp only[aZ,dX,cC,or_false]at m;rcases m with rfl|rfl|rfl|rfl;all_goals assumption
open MK
def spMix:Sp:=fun vs H Q _=>Ex3 fun(c f p:Int)=>V0 (vs=[.int c,.int f,.int p]) (0<f) (f<2 ^ 64) (0<p) (Q (.int (c*f % p)) H)
theorem V8(T:Tx K mg A):FnK P w base T.Ry CX0 1 spMix:=by
 k_dat (T.Ry,T.Ry.ok,ahx) "f"
 ·obtain⟨c,f,p,rfl,f0,f1,p0,q⟩:=h;show#[_,by k_dat ([],[],[]) "p",?_];show#[_,rfl,_,rfl,_,_,rfl,rfl,gk (by lia) f1,_,rfl,_,_,rfl,rfl,p0,q]
def g8:Nat->Int
 |0=>770093176312745717
 |n+1=>g8 n*(2-770093176312745717*g8 n) % 1152921504606846976
theorem Z1:∀n,0<=g8 n/\g8 n<1152921504606846976
 |0=>by decide
 |_+1=>#[qP _ tb_g%,Dk _ tb_g%]
def spFar:Sp:=fun vs H Q _=>vs=[]/\Q (.int (g8 5)) H
theorem wC(T:Tx K mg A):FnK P w base T.dF CX0 1 spFar:=by
 k_dat (T.dF,T.dF.ok,wz) "f"
 ·obtain⟨rfl,q⟩:=h;show#[_,by k_dat ([],[wz.nd,Ms rfl T.RD ?_],[]) "p",?_]
  k_dat lq "c"
  show#[5,rfl,by decide,by decide,?_];refine Mt (fun i σ G=>∃(y:Option V),σ=[some (.int (g8 i)),y]/\G=H) #[none,rfl,rfl] ?_ ?_
  ·rintro i σ G hi ⟨y,rfl,rfl⟩;have:=Z1 i;show#[_,rfl,_,rfl,_,_,rfl,rfl,pD tb_g% tb_g%,_,_,rfl,rfl,_,_,rfl,rfl,pD (by lia) (by lia),_,_,rfl,rfl,(by show(0:Int)<1152921504606846976;decide),_,rfl,rfl]
  ·rintro σ G ⟨y,rfl,rfl⟩;show#[_,rfl,q]
structure R3 where
 (kd th w:Int)
structure R3.ok(r:R3):Prop where
 k0:0<=r.kd
 k2:r.kd<=2
 t0:0<=r.th
 t1:r.th<1152921504606846976
 w1:1<=r.w
 w2:r.w<=1000000000000
open MK
def al9(σ:St)(_:Hp):Nat:=match σ with
 |[_,_,some (.int x)]=>x.toNat
 |_=>0
theorem log2_small{k:Nat}{i:Int}(h:i.natAbs<2 ^ k)(hk:0<k):i.natAbs.log2<k:=by
 by_cases z:i.natAbs=0
 ·rwa[z]
 ·exact(aeC z).mpr h
theorem abt(css:List (List Char)):bQ (aD "") ((css.map Dec.tx).reverse)=Dec.tx css.reverse.flatten:=by
 rw[<-wG,show aD "" = (#[#[]]:Str) by decide +kernel];exact Dec.join_none _
theorem ahF(css:List (List Char)):((css.map Dec.tx).map (·.length)).sum=css.reverse.flatten.length:=by
 rw[List.length_flatten,wG,adx,fM];exact congrArg List.sum (Dc fun c _=>Dec.rF c)
def spFig:Sp:=fun vs H Q _=>∃(n:Int),vm (vs=[.int n]) (n.natAbs<2 ^ 1000) (∀H',Same H H'->Q (.str (aD (toString n))) H')
theorem Ks(T:Tx K mg A):FnK P w base T.Ca CX0 1 spFig:=by
 k_dat (T.Ca,T.Ca.ok,J7) "f"
 ·obtain⟨n,rfl,hn,q⟩:=h;obtain⟨_,ai8,ai9⟩:=T.aiT;obtain⟨_,Fi,Fj⟩:=T.Es;show#[_,by k_dat ([agZ],[J7.nd,cN acB (by rfl) T.n_abs ajT ?_,vK rA (by rfl) T.ahu Yk ?_,jy uq PySem.F.slot_str_zfill PySem.F.type_str_zfill agY ?_ ?_,Zw T.xV ?_ ?_ rfl],[cW (v:=.int 1000000000000000000000000000000) rfl ai8 ai9,cW (v:=.int 30) rfl Fi Fj]) "p",?_]
  k_dat lq "c"
  k_dat (L,hL) "t"
  k_dat (nwA hL,H1,s1,f1) "n"
  have f1:H1 L=some (.lst (([]:List (List Char)).map fun c=>V.str (Dec.tx c))):=f1;show#[_,rfl,n,rfl,?_];have e:(if n<0 then -n else n)=(n.natAbs:Int):=by split <;> lia
  rw[e]
  k_dat lqg "c"
  have pE:(1000000000000000000000000000000:Nat)=10 ^ 30:=by decide
  refine T5 (fun σ G=>Ex2 fun(ps:List (List Char)) (m:Nat)=>V1 (σ=[some (.int n),some (.ref L),some (.int (m:Int))]) (G L=some (.lst (ps.map fun c=>V.str (Dec.tx c)))) (Same H G) (Dec.dg n.natAbs=Dec.dg m++ps.reverse.flatten) (ps.length<1000) (m*2 ^ ps.length<=n.natAbs)) al9 #[[],n.natAbs,rfl,f1,s1,by simp,by decide,by simp] ?_
   (fun σ H Q Q' hq ⟨v,e,i,j,e1,e2,k,e3,q⟩=>#[v,e,i,j,e1,e2,k,e3,hq _ _ q])
  rintro σ G ⟨ps,m,rfl,gL,sG,ed,lp,mp⟩;show#[_,rfl,_,_,rfl,rfl,_,rfl,aY (fun h=>?_) (fun h=>?_)]
  ·k_dat lq "c"
   have h:1000000000000000000000000000000<=m:=by have:=of_decide_eq_true h;lia
   show#[_,rfl,.inl #[rfl,_,.inl (.inl gL)],?_];show#[_,rfl,_,_,rfl,rfl,(by show(0:Int)<1000000000000000000000000000000;decide),(m:Int) % 1000000000000000000000000000000,rfl,?_,?_]
   ·have e2:(2:Nat) ^ 100=1267650600228229401496703205376:=by decide
    exact j6 (log2_small (k:=100) (by lia) tb_g%) tb_g%
   have ei:(m:Int) % 1000000000000000000000000000000=((m % 10 ^ 30:Nat):Int):=by rw[<-pE];lia
   have eq:(m:Int) / 1000000000000000000000000000000=((m / 10 ^ 30:Nat):Int):=by rw[<-pE];lia
   have ml:m % 10 ^ 30<10 ^ 30:=Nat.mod_lt _ tb_g%;have zt:Qa (aD (toString ((m:Int) % 1000000000000000000000000000000))) 30=Dec.tx (Dec.pad 30 (m % 10 ^ 30)):=by rw[ei,Dec.lG];exact Dec.agX tb_g% ml
   show#[rfl,_,30,rfl,rfl,by decide,?_];rw[zt];show#[L,_,_,rfl,rfl,gL,aL (by rw[aB];lia),?_];have m1:0<m / 10 ^ 30:=Nat.div_pos (by rwa[<-pE]) tb_g%;have lt2:m / 10 ^ 30*2<=m:=by rw[<-pE];lia
   have p2:m / 10 ^ 30*2 ^ (ps.length+1)<=n.natAbs:=by
    have e2:2 ^ (ps.length+1)=2*2 ^ ps.length:=by rw[Ah,Nat.mul_comm]
    rw[e2,<-Yd];exact bW (aev _ lt2) mp
   show#[_,rfl,_,_,rfl,rfl,#[by decide,by decide],#[ps++[Dec.pad 30 (m % 10 ^ 30)],m / 10 ^ 30,by rw[<-eq];rfl,?_,fun b o e=>?_,?_,?_,by rwa[cj]],?_]
   ·rw[bB];exact aj
   ·rw[ao (ak e hL)];exact sG b o e
   ·have:=Dec.U0 m1 30 tb_g% ml;rw[show m / 10 ^ 30*10 ^ 30+m % 10 ^ 30=m from Nat.div_add_mod' _ _]at this;rw[ed,WT,this,fH];rfl
   ·rw[cj];show ps.length+1<1000;rcases oY (ps.length+1) 1000 with z|z
    ·exact z
    ·have h1:=PB (show 0<2 by decide) z;have h2:=aev (2 ^ (ps.length+1)) m1;lia
   ·show((m:Int) / 1000000000000000000000000000000).toNat<(m:Int).toNat;lia
  ·k_dat lqn "c"
   have cl:(Dec.dg n.natAbs).length<=400:=Dec.rE 400 tb_g% (j6 hn tb_g%);show#[_,rfl,.inl #[rfl,_,.inl (.inl gL)],_,rfl,(m:Int),rfl,?_,?_]
   ·have:m<=n.natAbs:=bW (Nat.le_mul_of_pos_right _ (Nat.two_pow_pos _)) mp;exact j6 (log2_small (k:=1000) (by lia) tb_g%) tb_g%
   rw[Dec.lG];show#[L,_,_,rfl,rfl,gL,aL (by rw[aB];lia),?_]
   k_dat (nsA sG hL,G2,s2,fG2) "n"
   have g2:G2 L=some (.lst ((ps++[Dec.dg m]).map fun c=>V.str (Dec.tx c))):=by rwa[bB]
   have fl:(ps++[Dec.dg m]).reverse.flatten=Dec.dg n.natAbs:=by rw[ed,WT];rfl
   have ll:(ps++[Dec.dg m]).length<=1000:=by rw[cj];show ps.length+1<=1000;lia
   generalize ps++[Dec.dg m]=css at g2 fl ll;show#[_,rfl,_,_,rfl,rfl,_,rfl,aY (fun h0=>?_) (fun h0=>?_)]
   ·have h0:n<0:=of_decide_eq_true h0;show#[_,rfl,.inl #[rfl,_,.inl (.inl g2)],L,_,_,rfl,rfl,g2,aL (by rw[aB];lia),?_]
    k_dat (nsA s2 hL,G3,s3,fG3) "n"
    have g3:G3 L=some (.lst (((css++[['-']]).map Dec.tx).map V.str)):=by
     rw[fG3,show aD "-" = Dec.tx ['-'] by decide +kernel,bB,bB,fM];rfl
    have e1:(css++[['-']]).reverse.flatten = '-'::Dec.dg n.natAbs:=by rw[WT,<-fl];rfl
    show#[aD "",rfl,_,rfl,L,(css++[['-']]).map Dec.tx,rfl,.inl (.inl g3),by decide +kernel,?_,?_]
    ·rw[ahF,e1,aB,cj];show(Dec.dg n.natAbs).length+1+(css.length+1)<=1048576;lia
    ·rw[abt,e1,<-Dec.yL (by lia),show -(n.natAbs:Int)=n by lia];exact q _ s3
   ·have h0:¬ n<0:=fun z=>h0 (decide_eq_true z);show#[aD "",rfl,_,rfl,L,css.map Dec.tx,rfl,.inl (.inl (by rw[g2,fM];rfl)),by decide +kernel,?_,?_]
    ·rw[ahF,fl,aB];lia
    ·rw[abt,fl,<-Dec.lG,show(n.natAbs:Int)=n by lia];exact q _ s2
open MK
def sI(n:Int):Str:=aD (toString n)
theorem ama{n:Int}(h:n.natAbs<2 ^ 1000):(sI n).length<=401:=by
 have cl:(Dec.dg n.natAbs).length<=400:=Dec.rE 400 tb_g% (j6 h tb_g%);unfold sI;by_cases z:n<0
 ·rw[show n = -(n.natAbs:Int) by lia,Dec.yL (by lia),Dec.rF];show(Dec.dg n.natAbs).length+1<=401;lia
 ·rw[show n=(n.natAbs:Int) by lia,Dec.lG,Dec.rF];lia
theorem Cv:∀{ns:List Int},(∀n∈ns,n.natAbs<2 ^ 1000)->((ns.map sI).map (·.length)).sum<=401*ns.length
 |[],_=>aO _
 |n::ns,h=>by
  have h1:=ama (h n bV);have h2:=Cv fun k m=>h k (cR n m);rw[dM,dM,oR,cJ];lia
def spRow:Sp:=fun vs H Q _=>Ex2 fun(a:Addr) (ns:List Int)=>V0 (vs=[.ref a]) (H a=some (.lst (ns.map V.int))) ((∀n∈ns,n.natAbs<2 ^ 1000)) (ns.length<=900) (∀H',Same H H'->Q (.str (bQ (aD " ") (ns.map sI))) H')
theorem R8(T:Tx K mg A):FnK P w base T.ahr CX0 2 spRow:=by
 k_dat (T.ahr,T.ahr.ok,alZ) "f"
 ·obtain⟨a,ns,rfl,ha,hb,hn,q⟩:=h;show#[_,by k_dat ([eZ],[jy uq Dh Ak yM ?_ ?_],[fV [] ["number"] [] ?_ (fun _ _ _ _=>eO) (fun _ _ _ _=>(aC (Ks T) (aP (pv 0) dB)))]) "p",?_];show#[rfl,_,rfl,a,rfl,#[_,.inl (.inl ha)],fun D hD=>?_];refine eX (K:=K) (a:=a) (xs:=ns.map V.int) (fun i ys G=>ys=(ns.take i).map (fun n=>V.str (sI n))/\G D=some (.lst ys)/\Same H G) #[rfl,aj,Same.new hD] ?_ ?_ ?_ ?_
  ·rintro i ys G hi ⟨rfl,gD,sG⟩;show#[.inl (.inl (sG _ _ ha)),gD,aL ?_];rw[aB,fJ];lia
  ·rintro i ys G x hx ⟨rfl,gD,sG⟩;obtain⟨n,hi,rfl⟩:=int_at hx;show#[_,rfl,n,rfl,hb n (mv hi),fun G1 s1=>?_];show#[s1 _ _ gD,?_,aj,fun b o e=>?_]
   ·rw[iu,hi,bB];rfl
   ·rw[ao (ak e hD)];exact s1 _ _ (sG b o e)
  ·rintro ys G ⟨rfl,gD,sG⟩;rw[aB,lM]at gD;have sm:=Cv hb;show#[aD " ",D,ns.map sI,rfl,rfl,.inl (.inl (by rw[gD,fM];rfl)),by decide +kernel,?_,q _ sG];rw[aB];lia
  ·rintro σ H R R' hr ⟨v,e,n,en,hn,q⟩;show#[v,e,n,en,hn,fun H1 s1=>hr _ _ (q H1 s1)]
open MK
def bI(b:WN.Box):List Int:=[b.f,b.l,b.s]
def amb(A:Ad):Sp:=fun vs H Q _=>Ex7 fun(p dx l:Addr) (r k c:Int) (ps:List Bp)=>V0 (vs=[.ref p]) (Wn A H p dx l r k c ps) ((∀n∈c::(bx ps).flatMap bI,n.natAbs<2 ^ 1000)) (ps.length<=200) (∀H',Same H H'->Q (.str (bQ (aD " ") ((c::(bx ps).flatMap bI).map sI))) H')
theorem xW:∀bs:List WN.Box,(bs.flatMap bI).length=3*bs.length
 |[]=>rfl
 |b::bs=>by rw[tQ,cj,xW bs,cJ];show 3+_=_;lia
theorem Fl(T:Tx K mg A):FnK P w base T.mV CX0 3 (amb A):=by
 k_dat (T.mV,T.mV.ok,sZ) "f"
 ·obtain⟨p,dx,l,r,k,c,ps,rfl,hW,hb,hn,q⟩:=h;show#[_,by k_dat ([eZ],[sZ.nd,jy Dg HW HX Zx ?_ ?_,aC (R8 T) ?_],[]) "p",?_]
  k_dat lq "c"
  show#[_,rfl,rdG hW.o (Ke T) #[tb_g%,fun L hL=>?_]]
  k_dat (nwA hL,H1,s1,f1) "n"
  have f1:H1 L=some (.lst ((c::(bx (ps.take 0)).flatMap bI).map V.int)):=f1;have W1:=hW.same s1;show#[_,rfl,rdG W1.o (Kf T) #[l,rfl,#[_,.inl (.inl W1.b.l)],jw (K:=K) (a:=l) (xs:=ps.map fun p=>V.ref p.1) (fun i σ G=>∃(y:Option V),vm (σ=[some (.ref p),some (.ref L),y]) (G L=some (.lst ((c::(bx (ps.take i)).flatMap bI).map V.int))) (Same H G)) #[none,rfl,f1,s1] (fun i σ G _ ⟨_,_,_,s⟩=>.inl (.inl (s _ _ hW.b.l))) ?_ ?_]]
  ·rintro i v σ G hi ⟨y,rfl,gL,sG⟩;obtain⟨b,hi',rfl⟩:=aiW hi;have ht:=sG _ _ (hW.b.t b (mv hi'));have li:i<ps.length:=(fO.mp hi').1;have ll:(c::(bx (ps.take i)).flatMap bI).length<=900:=by
    rw[cJ,xW,rQ,fJ];lia
   show#[_,rfl,.inl #[rfl,_,.inl (.inl gL)],_,rfl,L,b.1,_,[.int b.2.f,.int b.2.l,.int b.2.s],rfl,rfl,gL,.inl (.inl ht),?_,?_]
   ·have:=aL (n:=903) tb_g%;rw[aB];show _+3<=_;lia
   show#[_,rfl,?_,fun b o e=>?_]
   ·rw[aj,iu,hi'];unfold bx;rw[bB,zL,<-GD,bB];rfl
   ·rw[ao (ak e hL)];exact sG b o e
  ·rintro σ G ⟨y,rfl,gL,sG⟩;rw[aB,lM]at gL;show#[_,rfl,L,_,rfl,gL,hb,by rw[cJ,xW,rQ];lia,fun H' s'=>q _ (sG.trans s')]
open MK
def rN(f:Rs):List Int:=[f.tt,f.ov,f.un,f.tn]++(f.mi.toList++f.ma.toList)
def rW(ls:RG.Ls):List Str:=ls.flatMap fun l=>aD "/" :: l.map sI
def Km(f:Rs):Prop:=(f.tt=0/\f.mi=none/\f.ma=none)\/(f.tt≠0/\∃a b,f.mi=some a/\f.ma=some b)
theorem aja{ls:RG.Ls}{i:Nat}{l:List Int}(h:ls[i]? = some l):rW (ls.take (i+1))=rW (ls.take i)++(aD "/" :: l.map sI):=by
 unfold rW;rw[iu,h,zL];simp
theorem share1{α:Type}(C:α->Prop){G:α->Prop}{R:Prop}(f:(∀x,C x->G x)->R)(k:∀x,C x->G x):R:=f k
theorem vp:∀{ls:RG.Ls},(∀l∈ls,l.length<=64)->(rW ls).length<=65*ls.length
 |[],_=>aO _
 |l::ls,h=>by
  have h1:=h l bV;have h2:=vp fun k m=>h k (cR l m);have e:rW (l::ls)=(aD "/" :: l.map sI)++rW ls:=by unfold rW;rw[tQ]
  rw[e,cj,cJ,aB,cJ];lia
theorem sI_20{n:Int}(h:n.natAbs<10 ^ 20):(sI n).length<=21:=by
 have cl:(Dec.dg n.natAbs).length<=20:=Dec.rE 20 tb_g% h;unfold sI;by_cases z:n<0
 ·rw[show n = -(n.natAbs:Int) by lia,Dec.yL (by lia),Dec.rF];show(Dec.dg n.natAbs).length+1<=21;lia
 ·rw[show n=(n.natAbs:Int) by lia,Dec.lG,Dec.rF];lia
theorem V9:∀{ns:List Int},(∀n∈ns,n.natAbs<10 ^ 20)->((ns.map sI).map (·.length)).sum<=21*ns.length
 |[],_=>aO _
 |n::ns,h=>by
  have h1:=sI_20 (h n bV);have h2:=V9 fun k m=>h k (cR n m);rw[dM,dM,oR,cJ];lia
theorem R9:∀{ls:RG.Ls},(∀l∈ls,l.length<=64)->(∀l∈ls,∀n∈l,n.natAbs<10 ^ 20)->((rW ls).map (·.length)).sum<=1400*ls.length
 |[],_,_=>aO _
 |l::ls,h,g=>by
  have h1:=h l bV;have h2:=R9 (fun k m=>h k (cR l m)) fun k m=>g k (cR l m);have h3:=V9 (g l bV);have h4:(aD "/").length=1:=by decide +kernel
  have e:rW (l::ls)=(aD "/" :: l.map sI)++rW ls:=by unfold rW;rw[tQ]
  rw[e,bB,zN,dM,oR,cJ,h4];lia
theorem Cw{n:Nat}(h:n<=9000):n<sizeLine:=um h tb_g%
theorem uO(sep:Str):∀(ts:List Str),(bQ sep ts).length<=(ts.map (·.length)).sum+ts.length*sep.length:=by
 intro ts;show(Qm sep ts).length<=_;have key:∀(us:List Str)(acc:Array Nat),(us.foldl (fun acc p=>acc++sep.cps++p.cps) acc).size=acc.size+(us.map (·.length)).sum+us.length*sep.length:=by
  intro us
  induction us with
  |nil=>intro acc;simp
  |cons u us ih =>
   intro acc;rw[GQ,ih,Yv,Yv,dM,oR,cJ,aeA];show acc.size+sep.length+u.length+_+_=_;lia
 unfold Qm;show Array.size _<=_;rw[key];cases ts with
 |nil=>exact aO _
 |cons t ts =>
  show t.length+_+_<=_;rw[dM,oR,cJ,aeA];show t.length+(ts.map (·.length)).sum+ts.length*sep.length<=_;lia
def amc(A:Ad):Sp:=fun vs H Q _=>Ex2 fun(p:Addr) (f:Rs)=>And8 (vs=[.ref p]) (RnX A H p f) (Km f) ((∀n∈rN f,n.natAbs<2 ^ 1000)) ((∀l∈f.ls,∀n∈l,n.natAbs<10 ^ 20)) (f.ls.length<=60) ((∀l∈f.ls,l.length<=64)) (∀H',Same H H'->Q (.str (bQ (aD " ") (bQ (aD " ") ((rN f).map sI)::rW f.ls))) H')
theorem Ku(T:Tx K mg A):FnK P w base T.pH CX0 3 (amc A):=by
 k_dat (T.pH,T.pH.ok,vg) "f"
 ·obtain⟨p,f,rfl,hR,km,hb,hl,h60,h64,q⟩:=h;show#[_,by k_dat ([eZ],[vg.nd,jy Dg HW HX vL ?_ ?_,aC (R8 T) ?_,jy uq Dh Ak yM ?_ ?_],[fV [] ["thing"] [] ?_ (fun _ _ _ _=>eO) (fun _ _ _ _=>(aC (Ks T) (aP (pv 0) dB)))]) "p",?_]
  k_dat lq "c"
  show#[_,rfl,rdG hR.o (fX T) #[_,rfl,rdG hR.o (RP T) #[_,rfl,rdG hR.o (Kd T) #[_,rfl,rdG hR.o (V2 T) #[tb_g%,fun L hL=>?_]]]]]
  k_dat (nwA hL,H1,s1,f1) "n"
  k_dat lqg "c"
  have R1:=hR.same s1;show#[_,rfl,rdG R1.o (fX T) #[rfl,_,rfl,?_]];apply share1 (fun G:Hp=>G L=some (.lst ((rN f).map V.int))/\Same H G)
  ·intro key;rcases km with⟨k0,k1,k2⟩|⟨k0,a,b,k1,k2⟩
   ·refine Jh (by rw[k0]) ?_;exact key H1 #[by rw[f1];unfold rN;rw[k1,k2];rfl,s1]
   ·rw[decide_eq_false (fun y=>k0 (V.int.inj y))];refine jP #[_,rfl,.inl #[rfl,_,.inl (.inl f1)],_,rfl,rdG R1.o (za T) #[_,rfl,rdG R1.o (zc T) #[tb_g%,fun M hM=>?_]]];have sM:=Same.new (o:=.lst [oV f.mi,oV f.ma]) hM;show#[L,M,_,_,rfl,rfl,sM _ _ f1,aj,by show 4+2<=sizeLine;decide,?_];have g2:(upd (upd H1 M (.lst [oV f.mi,oV f.ma])) L (.lst ([.int f.tt,.int f.ov,.int f.un,.int f.tn]++[oV f.mi,oV f.ma]))) L=some (.lst ((rN f).map V.int)):=by rw[aj];unfold rN;rw[k1,k2];rfl
    have s2:Same H (upd (upd H1 M (.lst [oV f.mi,oV f.ma])) L (.lst ([.int f.tt,.int f.ov,.int f.un,.int f.tn]++[oV f.mi,oV f.ma]))):=fun b o e=>by rw[ao (ak e hL)];exact(s1.trans sM) b o e
    generalize upd (upd H1 M (.lst [oV f.mi,oV f.ma])) L (.lst ([.int f.tt,.int f.ov,.int f.un,.int f.tn]++[oV f.mi,oV f.ma]))=G2 at g2 s2 ⊢
    k_dat lqn "c"
    exact key G2 #[g2,s2]
  intro G ⟨gL,sG⟩;have n6:(rN f).length<=6:=by
   unfold rN;cases f.mi <;> cases f.ma <;> simp
  show#[_,rfl,L,rN f,rfl,gL,hb,by lia,fun G1 t1=>#[tb_g%,fun W hW=>?_]]
  k_dat lqg "c"
  have e0:(bQ (aD " ") ((rN f).map sI)).length<=3000:=by
   have h1:=uO (aD " ") ((rN f).map sI);have h2:=Cv hb;have h3:(aD " ").length=1:=by decide +kernel
   rw[aB,h3]at h1;lia
  generalize bQ (aD " ") ((rN f).map sI)=t0 at q e0 ⊢
  k_dat (nwA hW,G2,zG2,f2) "n"
  have s2:=(sG.trans t1).trans zG2;have f2:G2 W=some (.lst ((t0::rW (f.ls.take 0)).map V.str)):=f2;have vW:H W=none:=(sG.trans t1).free hW;have R2:=hR.same s2;show#[_,rfl,rdG R2.o (m7 T) #[f.a,rfl,#[_,.inl (.inl R2.l.o)],jw (K:=K) (a:=f.a) (xs:=f.bs.map V.ref) (fun i σ G=>∃(y:Option V),vm (σ=[some (.ref p),some (.ref L),some (.ref W),y]) (G W=some (.lst ((t0::rW (f.ls.take i)).map V.str))) (Same H G)) #[none,rfl,f2,s2] (fun i σ G _ ⟨_,_,_,s⟩=>.inl (.inl (s _ _ hR.l.o))) ?_ ?_]]
  ·rintro i v σ G hi ⟨y,rfl,gW,sG⟩;rw[cB]at hi;cases eb:f.bs[i]? with
   |none=>rw[eb]at hi;cases hi
   |some b =>
    rw[eb]at hi;obtain rfl:=bK hi;have li:i<f.ls.length:=by rw[<-hR.l.n];exact(fO.mp eb).1
    have el:=dH li;have hb':=hR.l.e i b _ eb el;have ml:=W4 li;generalize f.ls[i]=l at el hb' ml;have tl:=vp (ls:=f.ls.take i) fun k m=>h64 k (Gw m);rw[fJ]at tl;have l64:=h64 l ml;show#[_,rfl,.inl #[rfl,_,.inl (.inl gW)],W,_,_,rfl,rfl,gW,Cw (by rw[aB,cJ];lia),?_]
    k_dat (nsA sG vW,G3,s3,fG3) "n"
    have g3:G3 W=some (.lst ((t0::rW (f.ls.take i)++[aD "/"]).map V.str)):=by rw[fG3,bB];rfl
    show#[_,rfl,.inl #[rfl,_,.inl (.inl g3)],_,rfl,b,rfl,#[_,.inl (.inl (s3 _ _ hb'))],fun D hD=>?_];refine eX (K:=K) (a:=b) (xs:=l.map V.int) (fun j ys J=>ys=(l.take j).map (fun n=>V.str (sI n))/\J D=some (.lst ys)/\Same G3 J) #[rfl,aj,Same.new hD] ?_ ?_ ?_ ?_
    ·rintro j ys J hj ⟨rfl,gD,sJ⟩;show#[.inl (.inl (sJ _ _ (s3 _ _ hb'))),gD,aL ?_];rw[aB,fJ];lia
    ·rintro j ys J x hx ⟨rfl,gD,sJ⟩;obtain⟨n,hj,rfl⟩:=int_at hx;show#[_,rfl,n,rfl,j6 (hl l ml n (mv hj)) tb_g%,fun J1 t1=>?_];show#[t1 _ _ gD,?_,aj,fun b o e=>?_]
     ·rw[iu,hj,bB];rfl
     ·rw[ao (ak e hD)];exact t1 _ _ (sJ b o e)
    ·rintro ys J ⟨rfl,gD,sJ⟩;rw[aB,lM]at gD;show#[W,D,_,_,rfl,rfl,sJ _ _ g3,gD,fu (Cw (by rw[aB,cj,cJ,aB];show(rW (f.ls.take i)).length+1+1+l.length<=9000;lia)),?_];show#[_,rfl,?_,fun b o e=>?_]
     ·rw[aj,aja el];simp only[bB,dM,fM,GD,fH,zP,GF];rfl
     ·rw[ao (ak e vW)];exact sJ _ _ (s3 b o e)
    ·rintro σ H R R' hr ⟨v,e,n,en,hn,q⟩;show#[v,e,n,en,hn,fun H1 s1=>hr _ _ (q H1 s1)]
  ·rintro σ G ⟨y,rfl,gW,sG⟩;rw[aB,hR.l.n,lM]at gW;have h1:=R9 h64 hl;have h2:=vp h64;show#[rfl,_,rfl,aD " ",W,t0::rW f.ls,rfl,rfl,.inl (.inl gW),by decide +kernel,?_,q _ sG];rw[dM,oR,cJ];lia
open MK
def gK(c:Tab):Tab:=c.mergeSort fun a b=>decide (a.1<=b.1)
theorem lK(c:Tab):(gK c).Perm c:=WR _ _
theorem abu(c:Tab):(gK c).Pairwise fun a b:Int × Int=>a.1<=b.1:=by
 have:=WD (le:=fun a b:Int × Int=>decide (a.1<=b.1)) (fun a b c h1 h2=>by simp only[decide_eq_true_eq]at *; lia) (fun a b=>by simp only[PL,decide_eq_true_eq];lia) c;exact this.imp fun h=>of_decide_eq_true h
def pN(c:Tab):List Int:=c.flatMap fun p=>[p.1,p.2]
theorem xX:∀c:Tab,(pN c).length=2*c.length
 |[]=>rfl
 |p::c=>by
  have e:pN (p::c)=[p.1,p.2]++pN c:=by unfold pN;rw[tQ]
  rw[e,cj,xX c,cJ (a:=p)];show 2+2*c.length=2*(c.length+1);lia
theorem ajb{c:Tab}{i:Nat}{p:Int × Int}(h:c[i]? = some p):pN (c.take (i+1))=pN (c.take i)++[p.1,p.2]:=by
 unfold pN;rw[iu,h,zL];simp
def fN(f:Fq):List Int:=[f.t,f.l]++pN (gK f.c)
def amd(A:Ad):Sp:=fun vs H Q _=>Ex2 fun(f:Fq) (room:Nat)=>V1 (vs=[.ref f.p]) (pK A H room f) ((keys f.c).Nodup) (f.c.length<=63) ((∀n∈fN f,n.natAbs<2 ^ 1000)) (∀H',Same H H'->Q (.str (bQ (aD " ") ((fN f).map sI))) H')
theorem zj(T:Tx K mg A):FnK P w base T.iY CX0 3 (amd A):=by
 k_dat (T.iY,T.iY.ok,oK) "f"
 ·obtain⟨f,room,rfl,hF,nd,ln,hb,q⟩:=h;show#[_,by k_dat ([eZ],[oK.nd,cN (lF rfl) (by rfl) T.yU Qc ?_,jy Dg HW HX vL ?_ ?_,aC (R8 T) ?_],[]) "p",?_]
  k_dat lq "c"
  show#[_,rfl,rdG hF.o (V6 T) #[_,rfl,rdG hF.o (abn T) #[tb_g%,fun L hL=>?_]]]
  k_dat (nwA hL,H1,s1,f1) "n"
  have f1:H1 L=some (.lst (([f.t,f.l]++pN ((gK f.c).take 0)).map V.int)):=f1;have F1:=hF.same s1;have kl:(keys f.c).length=f.c.length:=aB _;show#[_,rfl,rdG F1.o (Cq T) (.inl #[f.d,_,keys f.c,rfl,.inl F1.d,agq _,by lia,fun l ns' hl pm so=>?_])];obtain rfl:ns'=keys (gK f.c):=iV (pm.trans ((lK f.c).map _).symm) so (zM.mpr (abu f.c))
  k_dat (nwA hl,H2,zH2,k2) "n"
  have s2:=s1.trans zH2;have g2:=zH2 _ _ f1;have nl:l≠L:=aQ (ak f1 hl);have pl:=(lK f.c).length_eq;show#[l,rfl,#[_,.inl (.inl k2)],jw (K:=K) (a:=l) (xs:=(keys (gK f.c)).map V.int) (fun i σ G=>∃(y:Option V),yZ (σ=[some (.ref f.p),some (.ref L),y]) (G L=some (.lst (([f.t,f.l]++pN ((gK f.c).take i)).map V.int))) (Same H G) (G l=some (.lst ((keys (gK f.c)).map V.int)))) #[none,rfl,g2,s2,k2] (fun i σ G _ ⟨_,_,_,_,k⟩=>.inl (.inl k)) ?_ ?_]
  ·rintro i v σ G hi ⟨y,rfl,gL,sG,kG⟩;obtain⟨k,hk,rfl⟩:=int_at hi;obtain⟨z,hz,rfl⟩:∃z,(gK f.c)[i]? = some z/\z.1=k:=by
    unfold keys at hk;rw[cB]at hk;cases e:(gK f.c)[i]? with
    |none=>rw[e]at hk;cases hk
    |some z=>rw[e]at hk;show#[z,rfl,bK hk]
   have mz:z∈f.c:=(lK f.c).mem_iff.mp (mv hz);have FG:=hF.same sG;have li:i<(gK f.c).length:=(fO.mp hz).1;show#[_,rfl,.inl #[rfl,_,.inl (.inl gL)],_,rfl,_,rfl,rdG FG.o (Cq T) #[_,rfl,aju (.inl FG.d) (agr (Dp nd mz)) #[tb_g%,fun M hM=>?_]]];have sM:=Same.new (o:=.lst [.int z.1,.int z.2]) hM;show#[L,M,_,_,rfl,rfl,sM _ _ gL,aj,fu (aL (by rw[aB,cj,xX,fJ];show 2+_+2<=1000;lia)),?_];show#[_,rfl,?_,fun b o e=>?_,?_]
   ·rw[aj,ajb hz,<-fH,bB (l₂:=[z.1,z.2])];rfl
   ·rw[ao (ak e hL)];exact sM _ _ (sG b o e)
   ·rw[ao nl];exact sM _ _ kG
  ·rintro σ G ⟨y,rfl,gL,sG,_⟩;rw[aB,show(keys (gK f.c)).length=(gK f.c).length from aB _,lM]at gL;show#[_,rfl,L,fN f,rfl,gL,hb,by unfold fN;rw[cj,xX];show 2+_<=900;lia,fun H' s'=>q _ (sG.trans s')]
open MK
def cL(s:Str):List Nat:=s.cps.toList
abbrev sp1:Str:=aD " "
theorem ahG{a b:Str}(h:cL a=cL b):a=b:=by
 cases a;cases b;exact congrArg Str.mk (Am.mp h)
theorem ame(a b:Str):cL (a++b)=cL a++cL b:=Al
abbrev fm(ts:List Str):List Nat:=ts.flatMap fun u=>cL sp1++cL u
theorem vR(t:Str)(ts:List Str):cL (bQ sp1 (t::ts))=cL t++fm ts:=by
 have key:∀(us:List Str)(acc:Array Nat),(us.foldl (fun acc p=>acc++sp1.cps++p.cps) acc).toList=acc.toList++fm us:=by
  intro us
  induction us with
  |nil=>intro acc;simp
  |cons u us ih =>
   intro acc;rw[GQ,ih,Al,Al,fH,fH];show _=_++((u::us).flatMap _);rw[tQ,fH];rfl
 exact key ts t.cps
def ln(h:Str)(ts:List Str):Str:=bQ sp1 (h::ts)
theorem oO{a b:Str}(e:cL a=cL b++cL sp1){ts:List Str}(n:ts≠[]):a++bQ sp1 ts=ln b ts:=by
 obtain⟨t,us,rfl⟩:=Nv n;apply ahG;unfold ln;rw[ame,vR,vR,e,fm,fm,tQ];simp only[fH]
theorem ahH{ts:List Str}(n:ts≠[])(us:List Str):bQ sp1 (bQ sp1 ts::us)=bQ sp1 (ts++us):=by
 obtain⟨t,vs,rfl⟩:=Nv n;apply ahG;rw[vR,vR,GD,vR,fm,fm,fm,zL,fH]
theorem abv:sp1.length=1:=by decide +kernel
theorem j4{h:Str}{ts:List Str}{k:Nat}(hh:h.length<=16)(hs:(ts.map (·.length)).sum+ts.length<=k):(ln h ts).length<=17+k:=by
 have h1:=uO sp1 (h::ts);rw[abv,dM,oR,cJ]at h1;unfold ln;lia
def rT(f:Rs):List Str:=(rN f).map sI++rW f.ls
noncomputable def m9 (x:KS):List Str:=[ln (aD "keep") (([x.room,x.reach,x.span]:List Int).map sI),ln (aD "came") ((fN x.cm).map sI),ln (aD "went") ((fN x.wn).map sI),ln (aD "up") (rT x.up.x),ln (aD "down") (rT x.dn.x),
 ln (aD "window") ((x.wi.c::(bx x.wi.ps).flatMap bI).map sI),ln (aD "seen") (([x.di.n,x.di.v]++srt (My.up x.di.v x.di.C)).map sI),ln (aD "sums") ((L4 x.ba.q).map sI)]
open MK
abbrev Th(z:Int):Prop:=0<=z/\z<1152921504606846976
theorem Th.big{z:Int}(h:Th z):z.natAbs<2 ^ 1000:=j6 (show z.natAbs<1152921504606846976 by have:=h.1;have:=h.2;lia) tb_g%
structure Gu(f:Rs)(n:Nat):Prop where
 km:Km f
 mi:∀z,f.mi=some z->Th z
 ma:∀z,f.ma=some z->Th z
 ls:∀l∈f.ls,∀z∈l,Th z
 t0:0<=f.tn
 tn:f.tn<=60*n
structure Wb(c:Int)(n:Nat)(bs:List WN.Box):Prop where
 b:∀b∈bs,0<=b.f/\b.f<=c/\0<=b.l/\b.l<=c/\0<=b.s
 s:WN.sum bs<=1000000000000*n
structure Nb(x:KS)(n:Nat):Prop where
 rc:Th x.reach
 sn:Th x.span/\x.span<=1000000000
 cm:∀k∈keys x.cm.c,Th k
 wn:∀k∈keys x.wn.c,Th k
 up:Gu x.up.x n
 dn:Gu x.dn.x n
 c0:0<=x.wi.c
 c1:x.wi.c<=1000000000000*n
 wi:Wb x.wi.c n (bx x.wi.ps)
 dn0:0<=x.di.n
 dn1:x.di.n<=n
 dv:x.di.v<=61
 dc:∀z∈x.di.C,Th z
 ba:∀z∈L4 x.ba.q,z.natAbs<=n*10 ^ 40
theorem Cy{c room:Int}:∀(os:List WN.Box)(S:Int)(b:WN.Box),(∀o∈b::os,0<=o.f/\o.f<=c/\0<=o.l/\o.l<=c/\0<=o.s)->∀o∈WN.settle room S b os,0<=o.f/\o.f<=c/\0<=o.l/\o.l<=c/\0<=o.s
 |[],S,b,h=>h
 |o::os,S,b,h=>by
  rw[WN.uP];have h1:=h b bV;have h2:=h o (cR _ bV);split
  ·refine Cy os _ _ fun p m=>?_
   walk_at "G"
   ·show#[h2.1,h2.2.1,h1.2.2.1,h1.2.2.2.1,by show 0<=b.s+o.s;lia]
   ·exact h p (cR _ (cR _ m))
  ·intro p m
   walk_at "G"
   ·exact h1
   ·exact Cy os _ _ (fun q m=>h q (cR _ m)) p m
theorem sum_filter{p:WN.Box->Bool}:∀{bs:List WN.Box},(∀b∈bs,0<=b.s)->WN.sum (bs.filter p)<=WN.sum bs
 |[],_=>jq _
 |b::bs,h=>by
  have h1:=h b bV;have h2:=sum_filter (p:=p) fun o m=>h o (cR b m);rw[List.filter_cons];split
  ·rw[WN.sum_cons,WN.sum_cons];lia
  ·rw[WN.sum_cons];lia
theorem abw(bs:List WN.Box):WN.sum bs.reverse=WN.sum bs:=by
 unfold WN.sum;rw[wG];exact List.sum_reverse_int _
theorem Wb.settled{c:Int}{n:Nat}{bs:List WN.Box}(h:Wb c n bs)(room e:Int):Wb c n (Kg room e bs):=by
 have hf:∀b∈(bs.filter fun b=>decide (e<b.l)).reverse,0<=b.f/\b.f<=c/\0<=b.l/\b.l<=c/\0<=b.s:=fun b m=>h.b b ((W6.mp (W5.mp m)).1);have s1:=sum_filter (p:=fun b=>decide (e<b.l)) (bs:=bs) fun b m=>(h.b b m).2.2.2.2;have s2:=h.s;unfold Kg;rw[<-abw]at s1;generalize (bs.filter fun b=>decide (e<b.l)).reverse=os at hf s1;show#[fun b m=>?_,by rw[abw,WN.Ux];lia];rw[W5]at m;cases os with
 |nil=>exact nomatch m
 |cons o os=>exact Cy os _ _ hf b m
open MK
theorem Ds{a b:Str}(h1:a.length<=16)(h2:b.length<=200000):a.length+b.length<=sizeLine:=bW (show _<=200016 by lia) tb_g%
theorem Sg{f:Rs}(hb:∀n∈rN f,n.natAbs<2 ^ 1000)(hl:∀l∈f.ls,∀n∈l,n.natAbs<10 ^ 20)(h60:f.ls.length<=60)(h64:∀l∈f.ls,l.length<=64):((rT f).map (·.length)).sum+(rT f).length<=95000:=by
 have n6:(rN f).length<=6:=by
  unfold rN;cases f.mi <;> cases f.ma <;> simp
 have h1:=Cv hb;have h2:=R9 h64 hl;have h3:=vp h64;unfold rT;rw[bB,zN,cj,aB];lia
theorem ajH(f:Rs):rT f≠[]:=by unfold rT rN;exact iw _ _
theorem ajI(f:Rs):bQ sp1 (bQ sp1 ((rN f).map sI)::rW f.ls)=bQ sp1 (rT f):=ahH (by unfold rN;exact iw _ _) _
theorem je{ns:List Int}(hb:∀n∈ns,n.natAbs<2 ^ 1000)(h:ns.length<=200):((ns.map sI).map (·.length)).sum+(ns.map sI).length<=95000:=by
 have:=Cv hb;rw[aB];lia
theorem Dt{ts:List Str}(h:(ts.map (·.length)).sum+ts.length<=95000):(bQ sp1 ts).length<=200000:=by
 have:=uO sp1 ts;rw[abv]at this;lia
structure Kx(x:KS):Prop where
 k:∀z∈([x.room,x.reach,x.span]:List Int),z.natAbs<2 ^ 1000
 cm:(keys x.cm.c).Nodup
 cl:x.cm.c.length<=63
 cn:∀z∈fN x.cm,z.natAbs<2 ^ 1000
 wn:(keys x.wn.c).Nodup
 wl:x.wn.c.length<=63
 ws:∀z∈fN x.wn,z.natAbs<2 ^ 1000
 u1:Km x.up.x
 u2:∀z∈rN x.up.x,z.natAbs<2 ^ 1000
 u3:∀l∈x.up.x.ls,∀z∈l,z.natAbs<10 ^ 20
 u4:x.up.x.ls.length<=60
 u5:∀l∈x.up.x.ls,l.length<=64
 d1:Km x.dn.x
 d2:∀z∈rN x.dn.x,z.natAbs<2 ^ 1000
 d3:∀l∈x.dn.x.ls,∀z∈l,z.natAbs<10 ^ 20
 d4:x.dn.x.ls.length<=60
 d5:∀l∈x.dn.x.ls,l.length<=64
 i1:∀z∈x.wi.c::(bx x.wi.ps).flatMap bI,z.natAbs<2 ^ 1000
 i2:x.wi.ps.length<=63
 s1:∀z∈[x.di.n,x.di.v]++srt (My.up x.di.v x.di.C),z.natAbs<2 ^ 1000
 s2:(srt (My.up x.di.v x.di.C)).length<=64
 b:∀z∈L4 x.ba.q,z.natAbs<2 ^ 1000
 tt:0<=x.up.x.tt/\0<=x.dn.x.tt
theorem Kx.Sh{f:Fq}(h:f.c.length<=63):(fN f).length<=200:=by
 unfold fN;rw[cj,xX,(lK f.c).length_eq];show 2+_<=_;lia
theorem Kx.ahI{x:KS}(h:Kx x):(x.wi.c::(bx x.wi.ps).flatMap bI).length<=200:=by
 have:=h.i2;rw[cJ,xW,rQ];lia
theorem Kx.Z2{x:KS}(h:Kx x):([x.di.n,x.di.v]++srt (My.up x.di.v x.di.C)).length<=200:=by
 have:=h.s2;rw[cj];show 2+_<=_;lia
theorem Kx.sum{x:KS}(h:Kx x):((m9 x).map (·.length)).sum+(m9 x).length<=1048576:=by
 have a0:=j4 (h:=aD "keep") tb_g% (je h.k tb_g%);have a1:=j4 (h:=aD "came") tb_g% (je h.cn (Kx.Sh h.cl));have a2:=j4 (h:=aD "went") tb_g% (je h.ws (Kx.Sh h.wl));have a3:=j4 (h:=aD "up") tb_g% (Sg h.u2 h.u3 h.u4 h.u5);have a4:=j4 (h:=aD "down") tb_g% (Sg h.d2 h.d3 h.d4 h.d5);have a5:=j4 (h:=aD "window") tb_g% (je h.i1 h.ahI);have a6:=j4 (h:=aD "seen") tb_g% (je h.s1 h.Z2);have a7:=j4 (h:=aD "sums") tb_g% (je h.b tb_g%);unfold m9;simp only[dM,zP,oR,List.sum_nil,cJ,N5]at *;lia
def amg(A:Ad):Sp:=fun vs H Q _=>∃(x:KS),yZ (vs=[.ref x.k]) (Kp A H x) (Kx x) (∀H',Same H H'->Q (.str (bQ (aD "\n") (m9 x))) H')
theorem Z4(T:Tx K mg A):FnK P w base T.Cd CX0 4 (amg A):=by
 k_dat (T.Cd,T.Cd.ok,J8) "f"
 ·obtain⟨x,rfl,hK,hx,q⟩:=h;show#[_,by (k_dat ([hdA],[J8.nd,aC (R8 T) ?_,aC (zj T) ?_,aC (Ku T) ?_,aC (Fl T) ?_,jy uq Dh Ak yM ?_ ?_],[]) "p"; k_dat fj "h"; k_dat fj "h"; k_dat fj "h"; k_dat fj "h"; k_dat fj "h"; k_dat fj "h"; k_dat fj "h"; k_dat rB "h"; k_dat fj "h"),?_];show#[_,rfl,rdG hK.o (ai5 T) #[_,rfl,rdG hK.o (ahE T) #[_,rfl,rdG hK.o (ai6 T) #[tb_g%,fun l hl=>?_]]]];show#[l,[x.room,x.reach,x.span],rfl,aj,hx.k,tb_g%,fun H1 t1=>#[_,_,rfl,rfl,Ds tb_g% (Dt (je hx.k tb_g%)),?_]];have s1:=(Same.new (o:=.lst [.int x.room,.int x.reach,.int x.span]) hl).trans t1;clear t1 hl;show#[_,rfl,rdG (s1 _ _ hK.o) (abp T) #[x.cm,x.room,rfl,hK.cm.same s1,hx.cm,hx.cl,hx.cn,fun H2 t2=>#[_,_,rfl,rfl,Ds tb_g% (Dt (je hx.cn (Kx.Sh hx.cl))),?_]]];have s2:=s1.trans t2;show#[_,rfl,rdG (s2 _ _ hK.o) (abq T) #[x.wn,x.room,rfl,hK.wn.same s2,hx.wn,hx.wl,hx.ws,fun H3 t3=>#[_,_,rfl,rfl,Ds tb_g% (Dt (je hx.ws (Kx.Sh hx.wl))),?_]]];have s3:=s2.trans t3;show#[_,rfl,rdG (s3 _ _ hK.o) (ajG T) #[x.up.p,x.up.x,rfl,hK.up.same s3,hx.u1,hx.u2,hx.u3,hx.u4,hx.u5,fun H4 t4=>?_]];have s4:=s3.trans t4;rw[ajI];show#[_,_,rfl,rfl,Ds tb_g% (Dt (Sg hx.u2 hx.u3 hx.u4 hx.u5)),?_];show#[_,rfl,rdG (s4 _ _ hK.o) (abr T) #[x.dn.p,x.dn.x,rfl,hK.dn.same s4,hx.d1,hx.d2,hx.d3,hx.d4,hx.d5,fun H5 t5=>?_]];have s5:=s4.trans t5;rw[ajI];show#[_,_,rfl,rfl,Ds tb_g% (Dt (Sg hx.d2 hx.d3 hx.d4 hx.d5)),?_];show#[_,rfl,rdG (s5 _ _ hK.o) (Nu T) #[x.wi.p,x.wi.dx,x.wi.l,x.room,x.reach,x.wi.c,x.wi.ps,rfl,hK.wi.same s5,hx.i1,by have:=hx.i2;lia,fun H6 t6=>#[_,_,rfl,rfl,Ds tb_g% (Dt (je hx.i1 hx.ahI)),?_]]];have s6:=s5.trans t6;have D6:=hK.di.same s6;show#[_,rfl,rdG (s6 _ _ hK.o) (Gg T) (rdG D6.o (vo T) #[_,rfl,rdG (s6 _ _ hK.o) (Gg T) (rdG D6.o (vQ T) #[tb_g%,fun m hm=>?_])])]
  k_dat (nwA hm,H7,t7,f7) "n"
  have s7:=s6.trans t7;have D7:=D6.same t7;show#[_,rfl,rdG (s7 _ _ hK.o) (Gg T) (rdG D7.o (zf T) #[m,x.di.l,_,_,rfl,rfl,f7,D7.l,?_,fun k hk=>?_])]
  ·have:=aL (n:=66) tb_g%;have:=hx.s2;rw[aB];show 2+_<=_;lia
  have t8:=Same.new (o:=.lst ([.int x.di.n,.int x.di.v]++(srt (My.up x.di.v x.di.C)).map V.int)) hk;show#[k,[x.di.n,x.di.v]++srt (My.up x.di.v x.di.C),rfl,by rw[aj,bB];rfl,hx.s1,by have:=hx.Z2;lia,fun H8 t9=>#[_,_,rfl,rfl,Ds tb_g% (Dt (je hx.s1 hx.Z2)),?_]];have s8:=s7.trans (t8.trans t9);have B8:=hK.ba.same s8;show#[_,rfl,rdG (s8 _ _ hK.o) (Kr T) (rdG B8.o (ai3 T) #[x.ba.l,L4 x.ba.q,rfl,B8.l,hx.b,tb_g%,fun H9 t10=>#[_,_,rfl,rfl,Ds tb_g% (Dt (je hx.b tb_g%)),?_]])];have s9:=s8.trans t10;have e0:=oO (a:=aD "keep ") (b:=aD "keep") tb_g% (ts:=([x.room,x.reach,x.span]:List Int).map sI) (iw _ _);have e1:=oO (a:=aD "came ") (b:=aD "came") tb_g% (ts:=(fN x.cm).map sI) (by unfold fN;exact iw _ _);have e2:=oO (a:=aD "went ") (b:=aD "went") tb_g% (ts:=(fN x.wn).map sI) (by unfold fN;exact iw _ _);have e3:=oO (a:=aD "up ") (b:=aD "up") tb_g% (ts:=rT x.up.x) (ajH _);have e4:=oO (a:=aD "down ") (b:=aD "down") tb_g% (ts:=rT x.dn.x) (ajH _);have e5:=oO (a:=aD "window ") (b:=aD "window") tb_g% (ts:=(x.wi.c::(bx x.wi.ps).flatMap bI).map sI) (iw _ _);have e6:=oO (a:=aD "seen ") (b:=aD "seen") tb_g% (ts:=([x.di.n,x.di.v]++srt (My.up x.di.v x.di.C)).map sI) (iw _ _);have e7:=oO (a:=aD "sums ") (b:=aD "sums") tb_g% (ts:=(L4 x.ba.q).map sI) (iw _ _)
  k_dat (L,hL) "t"
  show#[rfl,_,rfl,aD "\n",L,m9 x,rfl,rfl,.inl (.inl ?_),by decide +kernel,hx.sum,q _ (s9.trans (Same.new hL))];rw[aj];unfold m9;rw[<-e0,<-e1,<-e2,<-e3,<-e4,<-e5,<-e6,<-e7];rfl
open MK
def spBI(A:Ad):Sp:=fun vs H Q _=>Ex2 fun(e:Addr) (n:Int)=>vm (vs=[.ref e,.int n]) (H e=some (rG e A.C'6 none)) (∀d,H d=none->d≠e->Q .non (upd (upd H d (.xd [("line",.int n)])) e (rG e A.C'6 (some d))))
theorem Fo(T:Tx K mg A):FnM P w mg base T.mW CX0 4 (spBI A):=by
 k_dat (T.mW,T.mW.ok,Eu) "f"
 ·obtain ⟨e,n,rfl,he,q⟩:=h;show#[_,(qg (Qx (ahe aeT T.fQ T.Rx rfl rfl T.Dq (aP (pv 0) (aP afX dB))))
   (yD (aiM T.fQ T.xR PySem.F.store_ValueError.passes (pv 0) (pv 1)))),?_]
  show#[_,rfl,e,_,rfl,he,_,rfl,_,rfl,e,rfl,he,q]
def Bt(A:Ad)(l:Int)(E:XK)(R:Hp->Prop):Prop:=∀d H',R H'->H' d=some (.xd [("line",.int l)])->E (.ref A.C'6) (some d) H'
theorem Bt.imp{A:Ad}{l:Int}{E:XK}{R S:Hp->Prop}(h:Bt A l E R)(f:∀H,S H->R H):Bt A l E S:=fun d H' r e=>h d H' (f H' r) e
theorem Bt.same{A:Ad}{l:Int}{E:XK}{H G:Hp}(h:Bt A l E (Same H))(s:Same H G):Bt A l E (Same G):=h.imp fun _ r=>s.trans r
def amh(A:Ad):Sp:=fun vs H Q E=>Ex2 fun(n:Int) (b:Bool)=>vs=[.bl b,.int n]/\cond b (Q .non H) (Bt A n E (Same H))
theorem jk(T:Tx K mg A):FnK P w base T.ZW (CXE P w) 6 (amh A):=by
 k_dat (T.ZW,T.ZW.okE,aiU) "g"
 ·obtain⟨_,_,rfl,_⟩:=h;rfl
 ·obtain⟨n,b,rfl,q⟩:=h;show#[_,by k_dat ([],[acH aeT T.fQ T.iQ T.Nq (Fo T) ?_],[]) "p",?_];cases b with
  |true=>show#[_,rfl,true,rfl,q]
  |false =>
   show#[_,rfl,false,rfl,_,rfl,tb_g%,fun e he=>#[e,n,rfl,aj,fun d nd ne=>#[rfl,some d,aj,q d _ (fun b o z=>?_) ?_]]]
   ·rw[ao ne]at nd;have n1:=ak z he;rwa[yO n1,ao n1,ao (ak z nd),ao n1]
   ·rw[yO ne,ao ne,aj]
def gw(c:List Nat):Bool:=decide (1<=c.length/\c.length<=60) && (c.all fun x=>decide (48<=x/\x<=57)) && (c == [48] || c.head? != some 48)
structure Bw(w:Str):Prop where
 l:w.length<=1000
 g:gw w.cps.toList=false
theorem gw_dg{n:Nat}(hn:n<10 ^ 60):gw (Dec.tx (Dec.dg n)).cps.toList=true:=by
 have hl:=Dec.rE 60 tb_g% hn;have h0:0<(Dec.dg n).length:=ado.mpr (Dec.aaS n);unfold gw;rw[Dec.oH,aB,decide_eq_true (by lia),aeF,show(((Dec.dg n).map lZ).all fun x=>decide (48<=x/\x<=57))=true from qI.mpr fun c m=>decide_eq_true (Dec.QZ n c m),aeF];rcases Hy n with z|z
 ·subst z;rfl
 ·obtain⟨c,r,ec,hc⟩:=Dec.aiJ z;rw[ec];simp;exact .inr (by lia)
theorem ajc{c:Nat}(h:¬ (48<=c/\c<=57)):qO (aD "0123456789") #[[c].toArray]=false:=by
 show(!(ajZ _ _ 0 _ 1).isEmpty)=false;rw[StrLaws.found_one,show(aD "0123456789").cps.toList=[48,49,50,51,52,53,54,55,56,57] by decide +kernel];refine decide_eq_false fun m=>?_
 k_dat m "d"
 rcases m with m|m|m|m|m|m|m|m|m|m <;> (rw[m]at h;exact h tb_g%)
def spNum(A:Ad):Sp:=fun vs H Q E=>(∃(n:Nat)(l:Int),vs=[.str (Dec.tx (Dec.dg n)),.int l]/\n<10 ^ 60/\∀H',Same H H'->Q (.int n) H')\/∃(w:Str)(l:Int),vs=[.str w,.int l]/\Bw w/\Bt A l E (Same H)
theorem z48:aD "0" = #[[48].toArray]:=by decide +kernel
theorem zm(T:Tx K mg A):FnK P w base T.uX (CXE P w) 7 (spNum A):=by
 k_dat (T.uX,T.uX.okE,RM) "g"
 ·rcases h with⟨_,_,rfl,_⟩|⟨_,_,rfl,_⟩ <;> rfl
 ·obtain⟨w,l,rfl,lw,key⟩:∃(w:Str)(l:Int),vs=[.str w,.int l]/\w.length<=1000/\((gw w.cps.toList=false->Bt A l E (Same H))/\(gw w.cps.toList=true->∃n:Int,PySem.intText? w=some n/\∀H',Same H H'->Q (.int n) H')):=by
   rcases h with⟨n,l,rfl,hn,q⟩|⟨w,l,rfl,b,q⟩
   ·have hl:=Dec.rE 60 tb_g% hn;show#[_,l,rfl,by rw[Dec.rF];lia,fun z=>?_,fun _=>#[n,Dec.alK (by lia),q]];rw[gw_dg hn]at z;cases z
   ·show#[w,l,rfl,b.l,fun _=>q,fun z=>by rw[b.g]at z;cases z]
  obtain⟨_,acX,acY⟩:=T.acS;obtain⟨_,Kv,Kw⟩:=T.J5;show#[_,by k_dat ([T7,alM,als,pe_or],[cN (vO rfl) (by rfl) T.abe Qd ?_,aC (jk T) ?_,vK Zy (by rfl) T.ajD aeP ?_],[cW (v:=.int 60) rfl Kv Kw,fV [] ["sign"] [] ?_ (fun _ _ _ _=>eO) (fun _ _ _ _=>(yE ag3 (pv 0) (cW (v:=.str "0123456789") rfl acX acY) (by with_unfolding_all rfl)))]) "p",?_];have sz:w.length<=sizeLine:=bW lw (show 1000<=sizeLine by decide);show#[_,rfl,.inl #[_,_,rfl,#[sz,rfl],?_]];show#[_,_,rfl,rfl,_,rfl,?_];have lc:w.cps.toList.length=w.length:=yq;have gl:¬ (1<=w.length/\w.length<=60)->gw w.cps.toList=false:=fun z=>by
   unfold gw;rw[decide_eq_false (by rwa[lc])];rfl
  by_cases c1:1<=w.length
  ·rw[if_pos (decide_eq_true (by lia))];show#[_,_,rfl,rfl,_,rfl,?_];by_cases c2:w.length<=60
   ·rw[if_pos (decide_eq_true (by lia))];show#[_,rfl,_,rfl,fun D hD=>?_];refine ag7 (fun i ys H1=>i<=w.cps.size/\ys=((w.cps.toList.take i).map fun c=>V.bl (qO (aD "0123456789") #[[c].toArray]))/\Same H H1/\H1 D=some (.lst ys)) ?_ ?_ ?_ ?_ ?_
    ·show#[cU _,rfl,Same.new hD,aj]
    ·intro i ys H1 hi ⟨_,e,_,d⟩;show#[d,?_];rw[e,aB,fJ,lc];exact um (show min i w.length<=60 by lia) tb_g%
    ·intro i ys H1 c hc ⟨hi,e,sm,d⟩;show#[_,rfl,_,_,rfl,rfl,d,(Ia.mp hc).1,?_,fun b u g=>by rw[ao (ak g hD)];exact sm b u g,aj];rw[e,iu,Qh,hc,bB];rfl
    ·intro ys H1 ⟨_,e,sm,d⟩;have e:ys=(w.cps.toList.map fun c=>qO (aD "0123456789") #[[c].toArray]).map V.bl:=by
      rw[e,Gj (by rw[lc];exact aO _),fM];rfl
     show#[D,_,rfl,.inl (.inl (by rwa[<-e])),?_];by_cases c3:∀c∈w.cps.toList,48<=c/\c<=57
     ·rw [show (w.cps.toList.map fun c=>qO (aD "0123456789") #[[c].toArray]).all id=true from qI.mpr fun b m=>by
       obtain ⟨c,mc,rfl⟩:=fL.mp m;exact Dec.aiI (c3 c mc)]
      show#[_,rfl,l,true,rfl,?_];have ga:(w.cps.toList.all fun x=>decide (48<=x/\x<=57))=true:=qI.mpr fun c m=>decide_eq_true (c3 c m);have ge:gw w.cps.toList=(w.cps.toList == [48] || w.cps.toList.head? != some 48):=by
       unfold gw;rw[decide_eq_true (by rw[lc];show#[c1,c2]),ga];rfl
      obtain⟨c,r,el⟩:∃c r,w.cps.toList=c::r:=Nv fun z=>by rw[z]at lc;simp at lc;lia
      have wt:∀G,Same H G->gw w.cps.toList=true->(tRet (tCB (fun xs H Q=>∃z n,xs=[V.str z]/\z.length<=640/\PySem.intText? z=some n/\Q (V.int n) H) (aaB (TJ 0) agb))) { nx:=fun _ H'=>Q V.non H',rt:=Q } [some (V.str w),some (.int l)] G:=fun G s z=>by
       obtain⟨n,h1,h2⟩:=key.2 z;show#[_,rfl,_,_,rfl,by lia,h1,h2 G s]
      show#[_,rfl,rfl,_,rfl,?_];by_cases c4:w=aD "0"
      ·rw[if_pos (decide_eq_true (by rw[c4]))];show#[_,rfl,l,true,rfl,wt H1 sm (by rw[c4,z48];decide +kernel)]
      ·rw[if_neg (by rw[decide_eq_false (fun e=>c4 (V.str.inj e))];exact cM)];have n48:(w.cps.toList == [48])=false:=beq_eq_false_iff_ne.mpr fun z=>c4 (by rw[z48];cases w;exact congrArg Str.mk (Am.mp z));have i0:atI (w.cps.toList) 0=some c:=by rw[el];simp[atI,ixN]
       by_cases c5:c=48
       ·show#[_,rfl,_,_,c,rfl,rfl,sz,i0,rfl,_,rfl,l,false,by rw[c5,z48,decide_eq_true rfl];rfl,(key.1 ?_).same sm];rw[ge,n48,el,c5];rfl
       ·have ne2:¬ V.str #[[c].toArray]=V.str (aD "0"):=fun e=>by
         rw[z48]at e;injection e with e;have e:[c]=[48]:=congrArg (fun s:Str=>s.cps.toList) e;injection e with e1 _;exact c5 e1
        show#[_,rfl,_,_,c,rfl,rfl,sz,i0,rfl,_,rfl,l,true,by rw[decide_eq_false ne2];rfl,wt H1 sm ?_];rw[ge,n48,el];simp[c5]
     ·obtain⟨c,mc,nc⟩:∃c,c∈w.cps.toList/\¬ (48<=c/\c<=57):=by
       simpa using c3
      rw[show(w.cps.toList.map fun c=>qO (aD "0123456789") #[[c].toArray]).all id=false from adu.mpr #[_,WW (f:=fun c=>qO (aD "0123456789") #[[c].toArray]) mc,by show ¬ _=true;rw[ajc nc];exact cM]];show#[_,rfl,l,false,rfl,(key.1 ?_).same sm];unfold gw;rw[show(w.cps.toList.all fun x=>decide (48<=x/\x<=57))=false from adu.mpr #[c,mc,by simpa using nc],Ai];rfl
    ·rintro σ H Q Q' m ⟨v,e,a,b,e1,e2,q⟩;show#[v,e,a,b,e1,e2,m _ _ q]
   ·rw[if_neg (by rw[decide_eq_false (by lia)];exact cM)];show#[_,rfl,l,false,rfl,key.1 (gl (by lia))]
  ·rw[if_neg (by rw[decide_eq_false (by lia)];exact cM)];show#[_,rfl,tL #[_,rfl,l,false,rfl,key.1 (gl (by lia))]]
def wN(n:Nat):V:=.str (Dec.tx (Dec.dg n))
def Bl(H:Hp)(a:Addr):Prop:=∃(ns:List Nat)(w:Str)(rest:List V),H a=some (.lst (ns.map wN++.str w::rest))/\(∀n∈ns,n<10 ^ 60)/\ns.length<=900/\Bw w
def ami (A:Ad):Sp:=fun vs H Q E=>(∃ (a:Addr) (ns:List Nat) (l:Int),vs=[.ref a,.int l]/\H a=some (.lst (ns.map wN))/\(∀ n∈ns,n<10 ^ 60)/\ns.length<=900 /\
 ∀ D H',H D=none->Same H H'->H' D=some (.lst (ns.map fun n:Nat=>V.int n))->Q (.ref D) H')\/∃ (a:Addr) (l:Int),vs=[.ref a,.int l]/\Bl H a/\Bt A l E (Same H)
theorem fB(T:Tx K mg A):FnK P w base T.rK (CXE P w) 8 (ami A):=by
 k_dat (T.rK,T.rK.okE,Lw) "g"
 ·rcases h with⟨_,_,_,rfl,_⟩|⟨_,_,rfl,_⟩ <;> rfl
 ·obtain⟨a,ns,tl,l,rfl,ha,hb,hn,q⟩:∃(a:Addr)(ns:List Nat)(tl:List V)(l:Int),vs=[.ref a,.int l]/\H a=some (.lst (ns.map wN++tl))/\(∀n∈ns,n<10 ^ 60)/\ns.length<=900/\((tl=[]/\∀D H',H D=none->Same H H'->H' D=some (.lst (ns.map fun n:Nat=>V.int n))->Q (.ref D) H')\/∃w r,tl=.str w::r/\Bw w/\Bt A l E (Same H)):=by
   rcases h with⟨a,ns,l,rfl,ha,hb,hn,q⟩|⟨a,l,rfl,⟨ns,w,r,ha,hb,hn,bw⟩,q⟩
   ·show#[a,ns,[],l,rfl,by rwa[pO],hb,hn,.inl #[rfl,q]]
   ·show#[a,ns,_,l,rfl,ha,hb,hn,.inr #[w,r,rfl,bw,q]]
  show#[_,by k_dat ([eZ],[],[Bu xwUp [("line",s.heap.objs.size+1)] Q3 [1] ?_ (fun _ _ _ _=>eO) (fun _ _ _ _=>(aC (zm T) (aP (pv 0) (aP (pv 1) dB))))]) "p",?_];show#[_,rfl,a,rfl,#[_,.inl (.inl ha)],fun D hD=>?_];refine eX (K:=K) (a:=a) (xs:=ns.map wN++tl) (fun i ys G=>i<=ns.length/\ys=(ns.take i).map (fun n:Nat=>V.int n)/\G D=some (.lst ys)/\Same H G) #[cU _,rfl,aj,Same.new hD] ?_ ?_ ?_ ?_
  ·rintro i ys G hi ⟨_,rfl,gD,sG⟩;show#[.inl (.inl (sG _ _ ha)),gD,aL ?_];rw[aB,fJ];lia
  ·rintro i ys G x hx ⟨il,rfl,gD,sG⟩;by_cases lt:i<ns.length
   ·rw[Gn (by rw[aB];exact lt),cB,f9]at hx;obtain⟨n,hi,rfl⟩:=hx;show#[_,rfl,_,rfl,.inl #[n,l,rfl,hb n (mv hi),fun G1 s1=>?_]];show#[s1 _ _ gD,lt,?_,aj,fun b o e=>?_]
    ·rw[iu,hi,bB];rfl
    ·rw[ao (ak e hD)];exact s1 _ _ (sG b o e)
   ·obtain rfl:i=ns.length:=by lia
    rw[Gm (by rw[aB];exact aO _),aB,HB]at hx;rcases q with⟨rfl,_⟩|⟨w,r,rfl,bw,q⟩
    ·cases hx
    ·obtain rfl:=bK hx;show#[_,rfl,_,rfl,.inr #[w,l,rfl,bw,q.same sG]]
  ·rintro ys G ⟨il,rfl,gD,sG⟩;rcases q with⟨rfl,q⟩|⟨w,r,rfl,_⟩
   ·rw[pO,aB,lM]at gD;exact q D G hD sG gD
   ·rw[cj,aB,cJ]at il;lia
  ·rintro σ H R R' hr ⟨v,e,w,e2,h⟩;show#[v,e,w,e2,h.imp (fun h=>?_) id];obtain⟨n,l,en,hn,q⟩:=h;show#[n,l,en,hn,fun H1 s1=>hr _ _ (q H1 s1)]
def Bd(r c s:Int):Prop:=r % 2=0/\2<=r/\r<=64/\1<=c/\c<=1000000000/\1<=s/\s<=1000000000
def spSb:Sp:=fun vs H Q _=>Ex3 fun(r c s:Int)=>vs=[.int r,.int c,.int s]/\∀b:Bool,(b=true↔Bd r c s)->Q (.bl b) H
theorem Fp(T:Tx K mg A):FnK P w base T.mX CX0 1 spSb:=by
 k_dat (T.mX,T.mX.ok,Ew) "f"
 ·obtain⟨r,c,p,rfl,q⟩:=h;have no:¬ Bd r c p->Q (.bl false) H:=fun h=>q false #[fun z=>nJ z,fun z=>absurd z h];obtain⟨_,Sq,Ss⟩:=T.RJ;obtain⟨_,Sv,Sw⟩:=T.RL;obtain⟨_,Wa,Wc⟩:=T.VP;obtain⟨_,Wd,Wf⟩:=T.VR;show#[_,by k_dat ([T7],[],[cW (v:=.int 2) rfl Sq Ss,cW (v:=.int 64) rfl Wa Wc,cW (v:=.int 1000000000) rfl Sv Sw,cW (v:=.int 1000000000) rfl Wd Wf]) "p",?_];by_cases h1:r % 2=0;rotate_left
  ·show#[_,rfl,_,_,rfl,rfl,(show(0:Int)<2 by decide),rfl,_,rfl,aY (fun _=>jP (no fun h=>h1 h.1)) fun z=>absurd (by rw[decide_eq_false fun e=>h1 (V.int.inj e)];rfl) z]
  k_dat lq "c"
  show#[_,rfl,_,_,rfl,rfl,(show(0:Int)<2 by decide),rfl,_,rfl,Jh (show V.int (r % 2)=V.int 0 by rw[h1]) ?_];show#[_,rfl,_,_,rfl,rfl,_,rfl,aY (fun e=>jP (no fun h=>absurd (of_decide_eq_true e) (by have:=h.2.1;lia))) fun h2=>?_];show#[_,rfl,_,_,rfl,rfl,_,rfl,aY (fun e=>no fun h=>absurd (of_decide_eq_true e) (by have:=h.2.2.1;lia)) fun h3=>?_];have h2:¬ r<2:=fun z=>h2 (decide_eq_true z);have h3:¬ 64<r:=fun z=>h3 (decide_eq_true z);show#[_,rfl,_,_,rfl,rfl,_,rfl,?_];by_cases h4:1<=c;rotate_left
  ·rw[if_neg (by rw[decide_eq_false h4];exact cM)];show#[_,rfl,tL (no fun h=>h4 h.2.2.2.1)]
  rw[if_pos (decide_eq_true h4)];show#[_,_,rfl,rfl,_,rfl,?_];by_cases h5:c<=1000000000;rotate_left
  ·rw[if_neg (by rw[decide_eq_false h5];exact cM)];exact no fun h=>h5 h.2.2.2.2.1
  rw[if_pos (decide_eq_true h5)];show#[_,rfl,_,_,rfl,rfl,_,rfl,?_];by_cases h6:1<=p;rotate_left
  ·rw[if_neg (by rw[decide_eq_false h6];exact cM)];exact no fun h=>h6 h.2.2.2.2.2.1
  rw[if_pos (decide_eq_true h6)];show#[_,_,rfl,rfl,?_];exact q (decide (p<=1000000000)) #[fun z=>#[h1,by lia,by lia,h4,h5,h6,of_decide_eq_true z],fun z=>decide_eq_true z.2.2.2.2.2.2]
def spBo(A:Ad):Sp:=fun vs H Q E=>Ex5 fun(a:Addr) (l:Int) (r c p:Nat)=>yZ (vs=[.ref a,.int l]) (H a=some (.lst [wN r,wN c,wN p])) ((r<10 ^ 60/\c<10 ^ 60/\p<10 ^ 60)) (((Bd r c p/\∀D H',H D=none->Same H H'->H' D=some (.lst [.int r,.int c,.int p])->Q (.ref D) H')\/¬ Bd r c p/\Bt A l E (Same H)))
theorem Sx(T:Tx K mg A):FnK P w base T.uY (CXE P w) 9 (spBo A):=by
 k_dat (T.uY,T.uY.okE,yV) "g"
 ·obtain⟨_,_,_,_,_,rfl,_⟩:=h;rfl
 ·obtain⟨a,l,r,c,p,rfl,ha,⟨hr0,hc,hp⟩,h⟩:=h;show#[_,by k_dat ([],[yV.nd,aC (fB T) ?_,aC (Fp T) ?_,aC (jk T) ?_],[]) "p",?_];show#[_,rfl,_,rfl,.inl #[a,[r,c,p],l,rfl,ha,fun n m=>?_,(show 3<=900 by decide),fun D G hD sG gD=>?_]]
  ·have m:n=r\/n=c\/n=p:=by simpa using m
   rcases m with rfl|rfl|rfl <;> assumption
  have gD:G D=some (.lst [.int r,.int c,.int p]):=gD;have sD:SqL K G D [.int r,.int c,.int p]:=.inl (.inl gD);show#[_,rfl,cQ sD ?_];show#[rfl,_,rfl,?_];refine aY (fun _=>?_) fun e=>absurd (decide_eq_true rfl) e;show#[_,rfl,aH sD rfl ?_];show#[_,rfl,aH sD rfl ?_];show#[_,rfl,aH sD rfl ?_];show#[r,c,p,rfl,fun b hb=>#[_,rfl,l,b,rfl,?_]];rcases h with⟨h,q⟩|⟨h,q⟩
  ·obtain rfl:=hb.mpr h;show#[_,rfl,q D G hD sG gD]
  ·cases b
   ·exact q.same sG
   ·exact absurd (hb.mp rfl) h
def spWo(A:Ad):Sp:=fun vs H Q E=>Ex4 fun(a:Addr) (ls:List Str) (k:Nat) (nm:Str)=>yZ (vs=[.ref a,.int (k+1:Nat),.str nm]) (H a=some (.lst (ls.map V.str))) (ls.length<=900) (((∃(ln hd:Str)(ws:List Str),ls[k]? = some ln/\oZ ln (aD " ")=hd::ws/\ln.length<=1048576/\(hd=nm->∀D H',H D=none->Same H H'->H' D=some (.lst (ws.map V.str))->Q (.ref D) H')/\(hd≠nm->Bt A (k+1:Nat) E (Same H)))\/(ls.length<=k/\Bt A (k+1:Nat) E (Same H))))
theorem Wg(T:Tx K mg A):FnK P w base T.xU (CXE P w) 7 (spWo A):=by
 k_dat (T.xU,T.xU.okE,Dr) "g"
 ·obtain⟨_,_,_,_,rfl,_⟩:=h;rfl
 ·obtain⟨a,ls,k,nm,rfl,ha,few,h⟩:=h;have sa:SqL K H a (ls.map V.str):=.inl (.inl ha);show#[_,by k_dat ([],[Dr.nd,aC (jk T) ?_,jy uq Yo Yp Js ?_ ?_],[]) "p",?_];rcases h with⟨ln,hd,ws,hk,sp,le,q,qx⟩|⟨lk,q⟩
  ·have lt:=(fO.mp hk).1;show#[_,rfl,_,rfl,cQ sa ?_];have c1:decide (((k+1:Nat):Int)<=((ls.map V.str).length:Nat))=true:=decide_eq_true (by rw[aB];lia);show#[_,_,rfl,rfl,_,rfl,(k+1:Nat),true,by show[V.bl (decide (((k+1:Nat):Int)<=((ls.map V.str).length:Nat))),V.int (k+1:Nat)]=_;rw[c1],?_];have c2:atI (ls.map V.str) (((k+1:Nat):Int)-1)=some (.str ln):=by
    rw[show((k+1:Nat):Int)-1=(k:Nat) by lia];exact bR (by rw[cB,hk];rfl)
   show#[_,rfl,_,rfl,_,_,rfl,rfl,aH sa c2 ?_];show#[rfl,_,_,rfl,rfl,by decide +kernel,le,fun D hD=>?_];rw[sp];have sD:SqL K (upd H D (.lst ((hd::ws).map V.str))) D ((hd::ws).map V.str):=.inl (.inl aj);show#[_,rfl,aH sD (v:=.str hd) (bR (j:=0) rfl) ?_];by_cases z:hd=nm
   ·refine⟨_,rfl,rfl,_,rfl,(k+1:Nat),true,by rw[z,decide_eq_true rfl];rfl,?_⟩;refine⟨_,rfl,1,rfl,D,_,rfl,sD,fun p hp=>?_⟩;refine q z p _ (by cases e:H p with|none=>rfl|some o=>rw[Same.new hD p o e]at hp;cases hp) ((Same.new hD).trans (Same.new hp)) ?_;rw[aj,show pC ((hd::ws).map V.str) (some 1) none=ws.map V.str by simp[pC,HT.sIx];rw[<-aB (f:=V.str) (as:=ws),lM]]
   ·show#[_,rfl,rfl,_,rfl,(k+1:Nat),false,by rw[decide_eq_false fun e=>z (V.str.inj e)];rfl,(qx z).same (Same.new hD)]
  ·show#[_,rfl,_,rfl,cQ sa ?_];have c1:decide (((k+1:Nat):Int)<=((ls.map V.str).length:Nat))=false:=decide_eq_false (by rw[aB];lia);show#[_,_,rfl,rfl,_,rfl,(k+1:Nat),false,by show[V.bl (decide (((k+1:Nat):Int)<=((ls.map V.str).length:Nat))),V.int (k+1:Nat)]=_;rw[c1],q]
open MK
theorem Wh{n:Nat}{c:Nat}{r:List Nat}(h:(Dec.tx (Dec.dg n)).cps.toList=c::r):48<=c/\c<=57:=Dec.QZ n c (by rw[<-Dec.oH,h];exact bV)
theorem wN_ne{n:Nat}{c:Nat}(hc:c<48):¬ Dec.tx (Dec.dg n)=#[[c].toArray]:=fun e=>by
 have:=(Wh (n:=n) (c:=c) (r:=[]) (by rw[e])).1;lia
theorem Ky{z:Str}{c d:Nat}{r:List Nat}(h:z.cps.toList=c::r):Aj z #[[d].toArray]=decide (c=d):=by
 have e:z=#[(c::r).toArray]:=by
  cases z with
  |mk cps=>show Str.mk cps=_;rw[<-h,ae0]
 rw[e];have:((c::r).toArray.extract 0 1 == [d].toArray)=decide (c=d):=by
  rw[show(c::r).toArray.extract 0 1=[c].toArray by apply Am.mp;simp];by_cases g:c=d
  ·subst g;simp
  ·simp[g]
 exact(congrArg (fun b=>_ && b) this).trans (by simp[adA])
theorem z45:aD "-" = #[[45].toArray]:=by decide +kernel
theorem Wj{α:Type}:∀l:List α,(dY l.length).filterMap (fun i=>l[i]?)=l
 |[]=>rfl
 |a::l=>by
  rw[cJ,adi,yh];show a::_=_;rw[NP];exact congrArg (a :: ·) (Wj l)
theorem sl_ix(k:Nat):aj0 (some 1) none 1 (k+1)=(dY k).map (· + 1):=by
 show O9 (max 0 (min (if(1:Int)<0 then 1+((k+1:Nat):Int)else 1) ((k+1:Nat):Int))) ((k+1:Nat):Int) 1=_;rw[if_neg tb_g%,show max 0 (min 1 ((k+1:Nat):Int))=1 by lia];unfold O9;dsimp only;have e:(if(1:Int)>0 then(if(1:Int)<((k+1:Nat):Int)then(((k+1:Nat):Int)-1+1-1) / 1 else 0)else(if(1:Int)>((k+1:Nat):Int)then(1-((k+1:Nat):Int)-1-1) / (-1)else 0)).toNat=k:=by
  rw[if_pos tb_g%];split
  ·lia
  ·lia
 rw[e];exact Dc fun a _=>by lia
theorem Wk(c:Nat)(t:List Nat):HS #[(c::t).toArray] (some 1) none=#[t.toArray]:=by
 unfold HS;rw[show(#[(c::t).toArray]:Str).length=t.length+1 from rfl,sl_ix,aB,pL,if_neg (by simp)];have e:(fun x:Nat=>(c::t).toArray[x]?) ∘ (· + 1)=fun x:Nat=>t[x]?:=by
  funext x
  show(c::t).toArray[x+1]? = _;rw[adl,WK]
 rw[NP,e,Wj]
theorem acZ(cs:List Char):HS (Dec.tx ('-'::cs)) (some 1) none=Dec.tx cs:=Wk _ _
def Bz(w:Str):Prop:=(Aj w (aD "-")=false/\Bw w)\/∃t:List Nat,w=#[(45::t).toArray]/\(Bw #[t.toArray]\/t=[48])
def spSg(A:Ad):Sp:=fun vs H Q E=>Ex2 fun(w:Str) (l:Int)=>vs=[.str w,.int l]/\((∃n:Int,w=sI n/\n.natAbs<10 ^ 60/\∀H',Same H H'->Q (.int n) H')\/Bz w/\Bt A l E (Same H))
theorem Sy(T:Tx K mg A):FnK P w base T.uZ (CXE P w) 8 (spSg A):=by
 k_dat (T.uZ,T.uZ.okE,yW) "g"
 ·obtain⟨_,_,rfl,_⟩:=h;rfl
 ·obtain⟨w,l,rfl,h⟩:=h;show#[_,by k_dat ([alN],[yW.nd,jy uq PySem.F.slot_str_startswith PySem.F.type_str_startswith K9 ?_ ?_,aC (zm T) ?_,aC (jk T) ?_],[]) "p",?_];rcases h with⟨n,rfl,hn,q⟩|⟨h,q⟩;rotate_left
  ·rcases h with⟨st,bw⟩|⟨t,rfl,h⟩
   ·show#[_,rfl,rfl,_,_,rfl,rfl,false,by rw[st],?_];show#[_,rfl,_,rfl,.inr #[w,l,rfl,bw,q]]
   have st:Aj #[(45::t).toArray] (aD "-")=true:=by
    rw[z45,Ky (c:=45) (r:=t) rfl];rfl
   have lt:t.length<=1000:=by
    rcases h with h|rfl
    ·exact h.l
    ·decide
   show#[_,rfl,rfl,_,_,rfl,rfl,true,by rw[st],?_];show#[_,rfl,1,rfl,_,rfl,?_,?_]
   ·exact bW (show t.length+1<=1001 by lia) tb_g%
   rw[Wk];rcases h with h|rfl
   ·show#[_,rfl,.inr #[_,l,rfl,h,q]]
   ·show#[_,rfl,.inl #[0,l,rfl,by decide,fun H1 s1=>?_]];show#[_,rfl,rfl,_,rfl,l,false,rfl,q.same s1]
  k_dat lrr "c"
  by_cases z:n<0
  ·have e:sI n=Dec.tx ('-'::Dec.dg n.natAbs):=by
    unfold sI;rw[show n = -(n.natAbs:Int) by lia,Dec.yL (by lia),Int.natAbs_neg,ae6]
   have hl:=Dec.rE 60 tb_g% hn;rw[e];have st:Aj (Dec.tx ('-'::Dec.dg n.natAbs)) (aD "-")=true:=by
    rw[z45,Ky (c:=45) (r:=(Dec.dg n.natAbs).map lZ) (by rw[Dec.oH];rfl)];rfl
   show#[_,rfl,rfl,_,_,rfl,rfl,true,by rw[st],?_];show#[_,rfl,1,rfl,_,rfl,?_,?_]
   ·rw[Dec.rF];exact bW (show(Dec.dg n.natAbs).length+1<=61 by lia) tb_g%
   rw[acZ];show#[_,rfl,.inl #[n.natAbs,l,rfl,hn,fun H1 s1=>?_]];have ne:¬ (n.natAbs:Int)=0:=by lia
   show#[_,rfl,rfl,_,rfl,l,true,by rw[decide_eq_false (fun w=>ne (V.int.inj w))];rfl,?_];show#[_,rfl,_,rfl,?_];have e2:-(n.natAbs:Int)=n:=by lia
   show Q (.int (-(n.natAbs:Int))) H1;rw[e2];exact q H1 s1
  ·have e:sI n=Dec.tx (Dec.dg n.natAbs):=by
    unfold sI;rw[show n=(n.natAbs:Int) by lia,Dec.lG,ae6]
   rw[e];cases h:(Dec.tx (Dec.dg n.natAbs)).cps.toList with
   |nil=>rw[Dec.oH]at h;exact absurd (Nz.mp h) (Dec.aaS _)
   |cons c r =>
    have hc:=Wh h;have st:Aj (Dec.tx (Dec.dg n.natAbs)) (aD "-")=false:=by rw[z45,Ky h,decide_eq_false (by lia)]
    show#[_,rfl,rfl,_,_,rfl,rfl,false,by rw[st],?_];show#[_,rfl,_,rfl,.inl #[n.natAbs,l,rfl,hn,fun H1 s1=>?_]];rw[show((n.natAbs:Nat):Int)=n by lia];exact q H1 s1
abbrev sl1:Str:=aD "/"
def prt(cur:List Str):List Str->List (List Str)
 |[]=>[cur]
 |w::ws=>if w=sl1 then cur::prt [] ws else prt (cur++[w]) ws
theorem Wl{hs:List Str}(h:∀w∈hs,w≠sl1):∀(cur ws:List Str),prt cur (hs++ws)=prt (cur++hs) ws:=by
 induction hs with
 |nil=>intro cur ws;rw[pO];rfl
 |cons w hs ih =>
  intro cur ws;show(if w=sl1 then _ else prt (cur++[w]) (hs++ws))=_;rw[if_neg (h w bV),ih (fun u m=>h u (cR _ m)),fH];rfl
theorem Kz:∀(gs:List (List Str)),(∀g∈gs,∀w∈g,w≠sl1)->∀cur,prt cur (gs.flatMap fun g=>sl1::g)=cur::gs
 |[],_,cur=>rfl
 |g::gs,h,cur=>by
  rw[tQ,GD];show(if sl1=sl1 then cur::prt [] (g++_)else _)=_;rw[if_pos rfl,Wl (h g bV),GF,Kz gs fun k m=>h k (cR _ m)]
def spPt:Sp:=fun vs H Q _=>Ex2 fun(a:Addr) (ws:List Str)=>yZ (vs=[.ref a]) (H a=some (.lst (ws.map V.str))) (ws.length<=9000) (∀(G:Addr) (ds:List (Addr × List Str)) (H':Hp),Same H H'->H' G=some (.lst (ds.map fun d=>V.ref d.1))->(∀d∈ds,H' d.1=some (.lst (d.2.map V.str)))->ds.map (·.2)=prt [] ws->Q (.ref G) H')
structure Pt(H J:Hp)(G:Addr)(ws:List Str)(i:Nat)(gs:List (Addr × List Str))(d:Addr)(cur:List Str):Prop where
 s:Same H J
 g:J G=some (.lst ((gs++[(d,cur)]).map fun d=>V.ref d.1))
 e:∀g∈gs++[(d,cur)],J g.1=some (.lst (g.2.map V.str))/\g.1≠G
 n:∀g∈gs,g.1≠d
 f:H d=none
 p:gs.map (·.2)++prt cur (ws.drop i)=prt [] ws
 l:cur.length<=i/\gs.length<=i
theorem ac0(T:Tx K mg A):FnK P w base T.JZ CX0 1 spPt:=by
 k_dat (T.JZ,T.JZ.ok,Nr) "f"
 ·obtain⟨a,ws,rfl,ha,hn,q⟩:=h;show#[_,by k_dat ([eZ],[Nr.nd],[]) "p",?_];show#[tb_g%,fun D hD=>#[tb_g%,fun G hG=>?_]];have s1:=Same.new (o:=.lst []) hD;have d1:(upd H D (.lst [])) D=some (.lst []):=aj;generalize upd H D (.lst [])=H1 at s1 d1 hG ⊢
  k_dat lrg "c"
  have nG:H G=none:=s1.free hG;have ne:D≠G:=ak d1 hG
  k_dat (nwA hG,H2,zH2,fH2) "n"
  have P0:Pt H H2 G ws 0 [] D []:=⟨s1.trans zH2,fH2,fun g m=>by rw[eY.mp m];exact⟨zH2 _ _ d1,ne⟩,(fun g m=>nomatch m),hD,by rw[W8];rfl,aO _,aO _⟩;refine⟨_,rfl,a,rfl,⟨_,.inl (.inl (P0.s _ _ ha))⟩,jw (K:=K) (a:=a) (xs:=ws.map V.str) (fun i σ J=>Ex4 fun(y:Option V) (gs:List (Addr × List Str)) (d:Addr) (cur:List Str)=>σ=[some (.ref a),some (.ref G),y]/\Pt H J G ws i gs d cur) ⟨none,[],D,[],rfl,P0⟩ (fun i σ J _ h=>by obtain⟨_,_,_,_,_,P⟩:=h;exact .inl (.inl (P.s _ _ ha))) ?_ ?_⟩
  ·rintro i v σ J hi ⟨y,gs,d,cur,rfl,P⟩;rw[cB,f9]at hi;obtain⟨w,hi,rfl⟩:=hi;have li:i<ws.length:=(fO.mp hi).1;have dr:ws.drop i=w::ws.drop (i+1):=by
    rw[Gp li];congr 1;exact(fO.mp hi).2
   have pp:=P.p;rw[dr]at pp;have ml:(d,cur)∈gs++[(d,cur)]:=j5 _ bV;have dJ:J d=some (.lst (cur.map V.str)):=(P.e _ ml).1;have dG:d≠G:=(P.e _ ml).2;show#[_,rfl,rfl,_,rfl,aY (fun e=>?_) (fun e=>?_)]
   ·have e:w=sl1:=by
     have e:=of_decide_eq_true e;injection e
    have pp:gs.map (·.2)++(cur::prt [] (ws.drop (i+1)))=prt [] ws:=by rw[<-pp];show _=_++(if w=sl1 then _ else _);rw[if_pos e]
    show#[_,rfl,.inl #[rfl,_,.inl (.inl P.g)],tb_g%,fun D2 hD2=>?_];have s2:=Same.new (o:=.lst []) hD2;show#[G,_,_,rfl,rfl,s2 _ _ P.g,Cw (by rw[aB,cj];show gs.length+1<=9000;have:=P.l;lia),?_];have nD2:D2≠G:=aQ (ak P.g hD2);show#[_,gs++[(d,cur)],D2,[],rfl,fun b o e=>by rw[ao (ak e nG)];exact s2 _ _ (P.s b o e),by rw[aj,bB (l₁:=gs++[(d,cur)]) (l₂:=[(D2,[])])];rfl,fun g m=>?_,fun g m=>ak (P.e g m).1 hD2,P.s.free hD2,?_,cU _,by rw[cj];show gs.length+1<=i+1;have:=P.l;lia]
    ·walk_at "C"
     ·have:=P.e g m;show#[by rw[ao this.2];exact s2 _ _ this.1,this.2]
     ·rw[eY.mp m];show#[by rw[ao nD2];exact aj,nD2]
    ·rw[bB,fH];exact pp
   ·have e:¬ w=sl1:=fun z=>e (decide_eq_true (congrArg V.str z));have pp:gs.map (·.2)++prt (cur++[w]) (ws.drop (i+1))=prt [] ws:=by rw[<-pp];show _=_++(if w=sl1 then _ else _);rw[if_neg e]
    have la:atI ((gs++[(d,cur)]).map fun d=>V.ref d.1) (-1)=some (.ref d):=by
     unfold atI ixN;rw[aB,cj,if_neg (by lia),if_pos (by show -((gs.length+1:Nat):Int) <= -1;lia)];show((gs++[(d,cur)]).map fun d=>V.ref d.1)[((-1:Int)+((gs.length+1:Nat):Int)).toNat]? = _;rw[show((-1:Int)+((gs.length+1:Nat):Int)).toNat=gs.length by lia,cB,Gm (aO _),HB];rfl
    show#[_,rfl,_,rfl,aH (.inl (.inl P.g)) (v:=.ref d) la #[.inl #[rfl,_,.inl (.inl dJ)],_,rfl,d,_,_,rfl,rfl,dJ,Cw (by rw[aB];have:=P.l;lia),?_]];show#[_,gs,d,cur++[w],rfl,fun b o e=>by rw[ao (ak e P.f)];exact P.s b o e,?_,fun g m=>?_,P.n,P.f,pp,by rw[cj];show cur.length+1<=i+1;have:=P.l;lia,by have:=P.l;lia]
    ·rw[ao (aQ dG)];have:=P.g;rw[bB]at this ⊢;exact this
    ·walk_at "C"
     ·have:=P.e g (zK _ m);show#[by rw[ao (P.n g m)];exact this.1,this.2]
     ·rw[eY.mp m];show#[by rw[aj,bB];rfl,dG]
  ·rintro σ J ⟨y,gs,d,cur,rfl,P⟩;have pp:=P.p;rw[aB,NQ]at pp;show#[_,rfl,q G (gs++[(d,cur)]) J P.s P.g (fun g m=>(P.e g m).1) ?_];rw[bB];exact pp
open MK
theorem cut1(xs:List V):pC xs (some 1) none=xs.drop 1:=by
 cases xs with
 |nil=>rfl
 |cons x xs =>
  simp[pC,HT.sIx]
def adj(xs:List Int):List Bool:=List.zipWith (fun x y=>decide (x<y)) xs (xs.drop 1)
theorem abx:∀xs:List Int,(adj xs).all id=true↔xs.Pairwise (· < ·)
 |[]=>#[fun _=>.nil,fun _=>rfl]
 |[x]=>#[fun _=>List.pairwise_singleton _ _,fun _=>rfl]
 |x::y::r=>by
  have ih:=abx (y::r);have e:adj (x::y::r)=decide (x<y)::adj (y::r):=rfl;rw[e,W9,HF,ih];show#[fun⟨h1,h2⟩=>tO.mpr #[fun z m=>?_,h2],fun h=>#[decide_eq_true ((tO.mp h).1 y bV),(tO.mp h).2]];have h1:x<y:=of_decide_eq_true h1
  walk_at "G"
  ·exact h1
  ·have:=(tO.mp h2).1 z m;lia
def Ri(xs:List Int):Prop:=xs.Pairwise (· < ·)/\∀x∈xs,x<1152921504606846976
def spRi:Sp:=fun vs H Q _=>Ex2 fun(a:Addr) (xs:List Int)=>yZ (vs=[.ref a]) (H a=some (.lst (xs.map V.int))) (xs.length<=900) (∀(b:Bool)(H':Hp),(b=true↔Ri xs)->Same H H'->Q (.bl b) H')
theorem qD(T:Tx K mg A):FnK P w base T.jU CX0 1 spRi:=by
 k_dat (T.jU,T.jU.ok,qt) "f"
 ·obtain⟨a,xs,rfl,ha,ln,q⟩:=h;obtain⟨_,Ko,Kq⟩:=T.ZX;show#[_,by k_dat ([],[qt.nd,alG rfl T.ahv ?_,cN (vO rfl) (by rfl) T.abe Qd ?_,yJ false T.aht ?_ ?_ rfl],[aco (g:=(gTup K 2 (IW (mO 0) (IW (mO 1) gNil)))) 2 [] ["one","other"] [] (fun _ _ _ _=>af0 rfl (Ja (vJ (i:=0) (show(["one","other"]:List Str).Nodup by decide +kernel) rfl (Or.inl rfl)) (Ja (vJ (i:=1) (show(["one","other"]:List Str).Nodup by decide +kernel) rfl (Or.inl rfl)) aau))) ?_ (fun _ _ _ _=>eO) (fun _ _ _ _=>(yE ajl (pv 0) (pv 1) (Jd _))),cW (v:=.int 1152921504606846976) rfl Ko Kq]) "p",?_];show#[_,rfl,_,rfl,1,rfl,a,_,rfl,.inl (.inl ha),fun p hp=>?_];rw[cut1,<-Xb]
  k_dat (nwA hp,H1,s1,e1) "n"
  show#[a,p,_,_,rfl,s1 _ _ ha,e1,fun D hD=>?_];refine acr (xs:=xs.map V.int) (ys:=(xs.drop 1).map V.int) (fun i zs H2=>i<=xs.length/\zs=((adj xs).take i).map V.bl/\H2 D=some (.lst zs)/\Same H1 H2) #[cU _,rfl,aj,Same.new hD] ?_ ?_ ?_ (Zt 0 1) (vN (dO 0) (dO 1))
  ·rintro i zs H2 ⟨il,rfl,f,s2⟩;show#[s2 _ _ (s1 _ _ ha),s2 _ _ e1,f,aL (by rw[aB,fJ];lia)]
  ·rintro i zs H2 u v t ws hu hv ⟨il,rfl,f,s2⟩ ht hw;obtain⟨x,hx,rfl⟩:=int_at hu;obtain⟨y,hy,rfl⟩:=int_at hv;obtain⟨w0,w1,rfl⟩:∃w0 w1,ws=[w0,w1]:=#[_,_,List.eq_getElem_of_length_eq_two ws hw];have s3:Same H2 (upd H2 t (.tup [.int x,.int y])):=Same.new ht;have lx:=(fO.mp hx).1;show#[t,_,rfl,.inl (.inl aj),rfl,_,_,rfl,_,_,rfl,rfl,#[[some (.int x),some (.int y)],rfl,rfl],_,rfl,_,rfl,_,_,rfl,rfl,s3 _ _ f,lx,?_,aj,fun b o e=>by rw[ao (ak e hD)];exact s3 _ _ (s2 _ _ e)];show((adj xs).take i).map V.bl++[V.bl (decide (x<y))]=_;have e:(adj xs)[i]? = some (decide (x<y)):=by
    unfold adj;rw[List.getElem?_zipWith,hx,hy]
   rw[iu,e,bB];rfl
  ·rintro zs H2 ⟨_,rfl,f,s2⟩;have le:(adj xs).take (min (xs.map V.int).length ((xs.drop 1).map V.int).length)=adj xs:=Gj (by unfold adj;rw[List.length_zipWith,aB,aB];exact aO _);rw[le]at f;show#[D,adj xs,rfl,.inl (.inl f),?_];have key:=abx xs;generalize (adj xs).all id=b at key ⊢;show#[_,rfl,_,rfl,?_];cases b
   ·exact tL (q false _ #[fun z=>nJ z,fun z=>key.mpr z.1] (s1.trans s2))
   refine jP ?_;show#[_,rfl,a,xs,rfl,.inl (.inl (s2 _ _ (s1 _ _ ha))),fun v hv=>?_];obtain⟨m,rfl,hm⟩:∃m:Int,v=.int m/\(m<1152921504606846976↔∀x∈xs,x<1152921504606846976):=by
    rcases hv with⟨z,e⟩|⟨m,e,mm,mx⟩
    ·show#[0,e,fun _ x mx=>?_,fun _=>by decide];rw[z]at mx;cases mx
    ·show#[m,e,fun h x hx=>?_,fun h=>h m mm];have:x<=m:=by simpa using mx x hx
     lia
   show#[_,_,rfl,rfl,?_];exact q (decide (m<1152921504606846976)) _ #[fun z=>#[key.mp rfl,hm.mp (of_decide_eq_true z)],fun z=>decide_eq_true (hm.mpr z.2)] (s1.trans s2)
def SF(room:Nat)(t l:Int)(ks vs:List Int):Prop:=Ri ks/\ks.length<=room/\(∀v∈vs,1<=v)/\vs.sum+((room:Int)+1)*l<=t
def spSF(A:Ad):Sp:=fun vs H Q _=>Ex4 fun(f:Fq) (a:Addr) (room:Nat) (ks:List Int)=>acV (vs=[.ref f.p,.ref a]) (pK A H room f) (H a=some (.lst (ks.map V.int))) ((∀k∈ks,k∈keys f.c)) (ks.length<=900) (room<=64) (∀(b:Bool)(H':Hp),(b=true↔SF room f.t f.l ks (ks.map (low f.c)))->Same H H'->Q (.bl b) H')
theorem ahJ{c:Tab}{k:Int}(h:k∈keys c):jz (emb c) (Sum.inl k:Key)=some (.int (low c k)):=by
 rw[Um];obtain⟨v,e⟩:=Yj.mp ((Dz c k).mpr h);unfold low;rw[e];rfl
theorem zp(T:Tx K mg A):FnK P w base T.iZ CX0 2 (spSF A):=by
 k_dat (T.iZ,T.iZ.ok,gY) "f"
 ·obtain⟨f,a,room,ks,rfl,hf,ha,hk,l9,r64,q⟩:=h;have o:=hf.o;show#[_,by k_dat ([eZ],[gY.nd,aC (qD T) ?_,yJ true T.ajF ?_ ?_ rfl,cN (acs rfl) (by rfl) T.n_sum ajU ?_],[Uv 2 gY.nd [("frequent",s.heap.objs.size+1)] ["thing","frequent"] [0] (te:=(tOp (Ul K) (af9 K _ "counts") _)) ?_ (fun _ _ _ _=>eO) (fun _ _ _ _=>(Uc (ixG tb_g%) (pf 1) (pv 0) (fun _ _=>rfl)))]) "p",?_]
  k_dat lq "c"
  show#[_,rfl,a,rfl,#[_,.inl (.inl ha)],fun D hD=>?_];refine eX (K:=K) (a:=a) (xs:=ks.map V.int) (fun i ys G=>ys=((ks.take i).map (low f.c)).map V.int/\G D=some (.lst ys)/\Same H G) #[rfl,aj,Same.new hD] ?_ ?_ ?_ (aaM (UW (dO 1)) (dO 0))
  ·rintro i ys G hi ⟨rfl,gD,sG⟩;show#[.inl (.inl (sG _ _ ha)),gD,aL (by rw[aB,aB,fJ];lia)]
  ·rintro i ys G x hx ⟨rfl,gD,sG⟩;obtain⟨k,hi,rfl⟩:=int_at hx;show#[_,rfl,rdG (sG _ _ o) (Cq T) #[_,rfl,aju (.inl (sG _ _ hf.d)) (ahJ (hk k (mv hi))) #[gD,?_,aj,fun b o e=>by rw[ao (ak e hD)];exact sG b o e]]];rw[iu,hi,bB,bB];rfl
  ·rintro ys G ⟨rfl,gD,sG⟩;rw[aB,lM]at gD;show#[_,rfl,a,ks,rfl,sG _ _ ha,l9,fun b G2 hb s2=>#[_,rfl,?_]];have s02:=sG.trans s2;have o2:=s02 _ _ o;have D2:=s2 _ _ gD;cases b
   ·exact jP (q false _ #[fun z=>nJ z,fun z=>hb.mpr z.1] s02)
   refine tL ?_;show#[_,rfl,cQ (.inl (.inl (s02 _ _ ha))) #[_,rfl,rdG o2 (abm T) #[_,_,rfl,rfl,_,rfl,aY (fun e=>?_) fun e=>?_]]]
   ·have e:=of_decide_eq_true e;rw[aB]at e;refine q false _ #[fun z=>nJ z,fun z=>?_] s02;have:=z.2.1;lia
   have e:¬ (((ks.map V.int).length:Int)>(room:Int)):=fun z=>e (decide_eq_true z);rw[aB]at e;show#[_,rfl,D,ks.map (low f.c),rfl,.inl (.inl D2),fun v hv=>?_];obtain⟨m,rfl,hm⟩:∃m:Int,v=.int m/\(1<=m↔∀v∈ks.map (low f.c),1<=v):=by
    rcases hv with⟨z,e⟩|⟨m,e,mm,mn⟩
    ·show#[1,e,fun _ x mx=>?_,fun _=>by decide];rw[z]at mx;cases mx
    ·show#[m,e,fun h x hx=>?_,fun h=>h m mm];have:m<=x:=by simpa using mn x hx
     lia
   show#[_,_,rfl,rfl,_,rfl,aY (fun g=>?_) fun g=>q false _ #[fun z=>nJ z,fun z=>absurd (decide_eq_true (hm.mpr z.2.2.1)) g] s02];have g:=of_decide_eq_true g;show#[_,rfl,D,ks.map (low f.c),rfl,.inl (.inl D2),?_];show#[_,rfl,rdG o2 (abm T) #[_,_,rfl,rfl,_,rfl,rdG o2 (abn T) #[_,_,rfl,rfl,pD (by lia) (by lia),_,_,rfl,rfl,_,rfl,rdG o2 (V6 T) #[_,_,rfl,rfl,?_]]]];exact q (decide ((ks.map (low f.c)).sum+((room:Int)+1)*f.l<=f.t)) _ #[fun z=>#[hb.mp rfl,by lia,hm.mp g,of_decide_eq_true z],fun z=>decide_eq_true z.2.2.2] s02
def SL(r lo hi:Int)(l:List Int):Prop:=(l.length:Int)<=r/\l.Pairwise (· <= ·)/\∀z∈l,lo<=z/\z<=hi
def spSL(A:Ad):Sp:=fun vs H Q _=>Ex6 fun(a p:Addr) (x:Rs) (l:List Int) (lo hi:Int)=>acV (vs=[.ref a,.ref p]) (RnX A H p x) (H a=some (.lst (l.map V.int))) (x.r<64) (x.mi=some lo) (x.ma=some hi) (∀(b:Bool)(H':Hp),(b=true↔SL x.r lo hi l)->Same H H'->Q (.bl b) H')
theorem Lz(T:Tx K mg A):FnK P w base T.rM CX0 1 (spSL A):=by
 k_dat (T.rM,T.rM.ok,Lx) "f"
 ·obtain⟨a,p,x,l,lo,hi,rfl,hx,ha,r64,e1,e2,q⟩:=h;have o:=hx.o;rw[e1,e2]at o;show#[_,by k_dat ([alH],[cN (lF rfl) (by rfl) T.yU Qc ?_,yJ true T.ajF ?_ ?_ rfl,yJ false T.aht ?_ ?_ rfl],[]) "p",?_];refine sq fun R hR=>?_;have no:∀G,Same H G->¬ SL x.r lo hi l->Q (.bl false) G:=fun G sG h=>q false G #[fun z=>nJ z,fun z=>absurd z h] sG;show#[_,rfl,cQ (.inl (.inl ha)) #[_,rfl,rdG o (abg T) #[_,_,rfl,rfl,_,rfl,aY (fun z=>jP (no _ (Same.refl H) fun h=>?_)) fun z=>?_]]]
  ·have z:=of_decide_eq_true z;rw[aB]at z;have:=h.1;lia
  have z:¬ (x.r<((l.map V.int).length:Int)):=fun y=>z (decide_eq_true y);rw[aB]at z;show#[_,rfl,_,rfl,.inr #[a,l,rfl,.inl (.inl ha),by lia,fun D l' hD pm sd'=>?_]];have s1:=Same.new (o:=.lst (l'.map V.int)) hD;show#[a,D,l,l',rfl,rfl,.inl (.inl (s1 _ _ ha)),.inl (.inl aj),pm.length_eq.symm,_,rfl,?_];have o1:=s1 _ _ o;have a1:=s1 _ _ ha;generalize upd H D (.lst (l'.map V.int))=H1 at s1 o1 a1 ⊢;by_cases sd:l.Pairwise (· <= ·);rotate_left
  ·rw[decide_eq_false fun e=>sd (by rwa[e])];exact jP (no _ s1 fun h=>sd h.2.1)
  rw[decide_eq_true (RG.iV pm.symm sd sd')];refine tL (hR _ _ ?_);show#[_,rfl,_,rfl,rdG o1 (za T) #[a,l,rfl,.inl (.inl a1),fun v hv=>?_]];obtain⟨m,rfl,hm⟩:∃m:Int,v=.int m/\(lo<=m↔∀z∈l,lo<=z):=by
   rcases hv with⟨z,e⟩|⟨m,e,mm,mn⟩
   ·show#[lo,e,fun _ x mx=>?_,fun _=>jq _];rw[z]at mx;cases mx
   ·show#[m,e,fun h x hx=>?_,fun h=>h m mm];have:m<=x:=by simpa using mn x hx
    lia
  show#[_,rfl,rdG o1 (za T) #[_,_,rfl,rfl,_,rfl,aY (fun g=>?_) fun g=>no _ s1 fun h=>g (decide_eq_true (hm.mpr fun z m=>(h.2.2 z m).1))]];have g:=hm.mp (of_decide_eq_true g);show#[_,rfl,_,rfl,rdG o1 (zc T) #[a,l,rfl,.inl (.inl a1),fun v hv=>?_]];obtain⟨k,rfl,hk⟩:∃m:Int,v=.int m/\(m<=hi↔∀z∈l,z<=hi):=by
   rcases hv with⟨z,e⟩|⟨m,e,mm,mx⟩
   ·show#[hi,e,fun _ x mx=>?_,fun _=>jq _];rw[z]at mx;cases mx
   ·show#[m,e,fun h x hx=>?_,fun h=>h m mm];have:x<=m:=by simpa using mx x hx
    lia
  show#[_,rfl,rdG o1 (zc T) #[_,_,rfl,rfl,?_]];exact q (decide (k<=hi)) _ #[fun y=>#[by lia,sd,fun z m=>#[g z m,hk.mp (of_decide_eq_true y) z m]],fun y=>decide_eq_true (hk.mpr fun z m=>(y.2.2 z m).2)] s1
def spSt(A:Ad):Sp:=fun vs H Q _=>Ex2 fun(p:Addr) (x:Rs)=>yZ (vs=[.ref p]) (RnX A H p x) (x.ls.length<=900) (Q (.bl (decide ((RG.val x.ls:Int)=x.tt))) H)
theorem Wm:∀(ls:RG.Ls)(i:Nat),RG.val (ls.drop i)<=RG.val ls
 |_,0=>aO _
 |[],_+1=>aO _
 |l::ls,i+1=>by
  have:=Wm ls i;show RG.val (ls.drop i)<=l.length+2*RG.val ls;lia
theorem xY(T:Tx K mg A):FnK P w base T.gR CX0 1 (spSt A):=by
 k_dat (T.gR,T.gR.ok,m6) "f"
 ·obtain⟨p,x,rfl,hx,ln,q⟩:=h;have o:=hx.o;have n:=hx.l.n;show#[_,by k_dat ([],[m6.nd,agJ rfl T.xV ?_],[]) "p",?_]
  k_dat lq "c"
  show#[_,rfl,rdG o (m7 T) #[x.a,_,rfl,.inl (.inl hx.l.o),aaK (K:=K) (a:=x.a) (xs:=x.bs.map V.ref) (fun i σ G=>∃(y:Option V),vm (σ=[some (.ref p),some (.int (RG.val (x.ls.drop (x.ls.length-i)):Nat)),y]) (i<=x.ls.length) (G=H)) #[none,by rw[aeB,NQ];rfl,cU _,rfl] (fun i σ G _ h=>by obtain⟨_,_,_,e⟩:=h;rw[e];exact .inl (.inl hx.l.o)) ?_ ?_]]
  ·rintro i v σ G hi ⟨y,rfl,il,rfl⟩;have li:i<x.ls.length:=by
    have:=(fO.mp hi).1;rwa[Gy,aB,n]at this
   rw[WL (by rw[aB,n];exact li),aB,n,cB,f9]at hi;obtain⟨b,hb,rfl⟩:=hi;have lj:x.ls.length-1-i<x.ls.length:=by lia
   have hl:=dH lj;have hB:=hx.l.e _ b _ hb hl;have e:RG.val (x.ls.drop (x.ls.length-(i+1)))=(x.ls[x.ls.length-1-i]).length+2*RG.val (x.ls.drop (x.ls.length-i)):=by
    rw[show x.ls.length-(i+1)=x.ls.length-1-i by lia,Gp lj,show x.ls.length-1-i+1=x.ls.length-i by lia];rfl
   have le:=Wm x.ls (x.ls.length-(i+1));show#[_,rfl,_,_,rfl,rfl,gk tb_g% tb_g%,_,rfl,cQ (.inl (.inl hB)) #[_,_,rfl,rfl,?_]];have ew:(RG.val (x.ls.drop (x.ls.length-i)):Int)*2+(((x.ls[x.ls.length-1-i]).map V.int).length:Int)=(RG.val (x.ls.drop (x.ls.length-(i+1))):Nat):=by
    rw[aB];lia
   try dsimp -proj only
   rw[ew];show#[_,rfl,_,rfl,rdG o (fX T) #[_,_,rfl,rfl,_,rfl,aY (fun z=>by have z:=of_decide_eq_true z;rwa[decide_eq_false (by lia)]at q) fun _=>#[_,rfl,li,rfl]]]
  ·rintro σ G ⟨y,rfl,_,rfl⟩;rw[aB,n,HB,W8];show#[_,rfl,_,rfl,rdG o (fX T) #[rfl,?_]];rwa[show decide (V.int (RG.val x.ls:Nat)=V.int x.tt)=decide ((RG.val x.ls:Int)=x.tt)from decide_eq_decide.mpr #[V.int.inj,congrArg _]]
def Sro(x:Rs):Prop:=(x.tt=0->x.ls=[]/\x.ov=0/\x.un=0/\x.tn=0)/\(x.tt≠0->x.ls≠[]/\RG.Full x.ls/\∃lo hi,x.mi=some lo/\x.ma=some hi/\lo<=hi/\hi<1152921504606846976/\(RG.val x.ls:Int)=x.tt/\(∀l∈x.ls,SL x.r lo hi l)/\(x.ov+x.un)*x.r<=x.tt*((x.ls.length:Int)-1))
def spSRu(A:Ad):Sp:=fun vs H Q _=>Ex2 fun(p:Addr) (x:Rs)=>V1 (vs=[.ref p]) (RnX A H p x) (x.ls.length<=900) ((0<=x.r/\x.r<64)) ((x.tt≠0->∃lo hi,x.mi=some lo/\x.ma=some hi)) (∀(b:Bool)(H':Hp),(b=true↔Sro x)->Same H H'->Q (.bl b) H')
theorem KC(T:Tx K mg A):FnK P w base T.pI CX0 2 (spSRu A):=by
 k_dat (T.pI,T.pI.ok,J9) "f"
 ·obtain⟨p,x,rfl,hx,l9,r0,nn,q⟩:=h;have o:=hx.o;have n:=hx.l.n;have no:∀G,Same H G->¬ Sro x->Q (.bl false) G:=fun G sG h=>q false G #[fun z=>nJ z,fun z=>absurd z h] sG;obtain⟨_,Ko,Kq⟩:=T.ZX;show#[_,by (k_dat ([hdE,eZ],[aC (xY T) ?_,cN (vO rfl) (by rfl) T.abe Qd ?_],[cW (v:=.int 1152921504606846976) rfl Ko Kq,fV [("rungs",s.heap.objs.size+1)] Q12 [0] ?_ (fun _ _ _ _=>eO) (fun _ _ _ _=>(aC (Lz T) (aP (pv 0) (aP (pv 1) dB))))]) "p"; k_dat T6 "h"; k_dat (Zu hr.units) "h"; k_dat T6 "h"; k_dat T6 "h"; k_dat T6 "h"; k_dat (Zu hr.units) "h"; k_dat (Zu hr.units) "h"),?_];refine sq fun R hR=>#[_,rfl,rdG o (fX T) #[rfl,_,rfl,aY (fun h=>?_) (fun h=>hR _ _ ?_)]]
  ·have h:x.tt=0:=V.int.inj (of_decide_eq_true h);have im:Sro x↔(x.ls=[]/\x.ov=0/\x.un=0/\x.tn=0):=#[fun z=>z.1 h,fun z=>#[fun _=>z,fun k=>absurd h k]];show#[_,rfl,rdG o (m7 T) #[tb_g%,fun D hD=>?_]]
   k_dat (nwA hD,H1,s1,eD) "n"
   have l1:=s1 _ _ hx.l.o;have o1:=s1 _ _ o;by_cases ne:x.ls=[];rotate_left
   ·exact .inr #[x.a,D,_,_,rfl,rfl,.inl (.inl l1),.inl (.inl eD),by rw[aB,n];exact fun z=>ne (vV.mp z),_,rfl,tL (no _ s1 fun z=>ne (im.mp z).1)]
   rw[vV.mp (n.trans (by rw[ne];rfl))]at l1;refine .inl ⟨1,x.a,D,rfl,rfl,by decide,.lst (xs:=[]) (ys:=[]) (.inl (.inl l1)) (.inl (.inl eD)) rfl (fun i x y h=>nomatch h),_,rfl,jP ?_⟩;refine⟨_,rfl,rdG o1 (RP T) ⟨rfl,_,rfl,aY (fun g1=>?_) fun g=>no _ s1 fun z=>g (decide_eq_true (congrArg V.int (im.mp z).2.1))⟩⟩;refine⟨_,rfl,rdG o1 (Kd T) ⟨rfl,_,rfl,aY (fun g2=>?_) fun g=>no _ s1 fun z=>g (decide_eq_true (congrArg V.int (im.mp z).2.2.1))⟩⟩;exact⟨_,rfl,rdG o1 (V2 T) ⟨rfl,q (decide (V.int x.tn=V.int 0)) _ ⟨fun z=>im.mpr ⟨ne,V.int.inj (of_decide_eq_true g1),V.int.inj (of_decide_eq_true g2),V.int.inj (of_decide_eq_true z)⟩,fun z=>decide_eq_true (congrArg V.int (im.mp z).2.2.2)⟩ s1⟩⟩
  have h:x.tt≠0:=fun z=>h (decide_eq_true (congrArg V.int z));obtain ⟨lo,hi,e1,e2⟩:=nn h;rw [e1,e2] at o;have im:Sro x↔(x.ls≠[]/\RG.Full x.ls/\lo<=hi/\hi<1152921504606846976/\(RG.val x.ls:Int)=x.tt/\(∀ l∈x.ls,SL x.r lo hi l)/\(x.ov+x.un)*x.r<=x.tt*((x.ls.length:Int)-1)):=#[fun z=>by
   obtain ⟨a,b,lo',hi',f1,f2,r⟩:=z.2 h;obtain rfl:=bK (e1.symm.trans f1);obtain rfl:=bK (e2.symm.trans f2);show#[a,b,r],fun z=>#[fun k=>absurd k h,fun _=>#[z.1,z.2.1,lo,hi,e1,e2,z.2.2]]]
  refine sq fun R hR=>#[_,rfl,rdG o (m7 T) #[tb_g%,fun D hD=>?_]]
  k_dat (nwA hD,H1,s1,eD) "n"
  have l1:=s1 _ _ hx.l.o;have o1:=s1 _ _ o;by_cases ne:x.ls=[]
  ·rw[vV.mp (n.trans (by rw[ne];rfl))]at l1;exact .inl #[1,x.a,D,rfl,rfl,by decide,.lst (xs:=[]) (ys:=[]) (.inl (.inl l1)) (.inl (.inl eD)) rfl (fun i x y h=>nomatch h),_,rfl,jP (jP (no _ s1 fun z=>(im.mp z).1 ne))]
  have pos:0<x.ls.length:=ado.mpr ne;refine .inr #[x.a,D,_,_,rfl,rfl,.inl (.inl l1),.inl (.inl eD),by rw[aB,n];show x.ls.length≠0;lia,_,rfl,tL ?_];obtain⟨b,hb⟩:∃b,x.bs[x.ls.length-1]? = some b:=#[_,dH (by lia)];have hl:=dH (show x.ls.length-1<x.ls.length by lia);have hB:=s1 _ _ (hx.l.e _ b _ hb hl);have la:atI (x.bs.map V.ref) (-1)=some (.ref b):=by
   unfold atI ixN;rw[aB,n,if_neg (by lia),if_pos (by lia)];show(x.bs.map V.ref)[((-1:Int)+(x.ls.length:Int)).toNat]? = _;rw[show((-1:Int)+(x.ls.length:Int)).toNat=x.ls.length-1 by lia,cB,hb];rfl
  show#[_,rfl,rdG o1 (m7 T) #[_,rfl,aH (.inl (.inl l1)) la #[tb_g%,fun D2 hD2=>?_]]]
  k_dat (nwA hD2,H2,s2,eD2) "n"
  replace hB:=s2 _ _ hB;have o2:=s2 _ _ o1;replace s1:=s1.trans s2;have gl:x.ls.getLast? = some x.ls[x.ls.length-1]:=by rw[List.getLast?_eq_getElem?,hl]
  by_cases le:x.ls[x.ls.length-1]=[]
  ·rw[le]at hB;exact .inl #[1,b,D2,rfl,rfl,by decide,.lst (xs:=[]) (ys:=[]) (.inl (.inl hB)) (.inl (.inl eD2)) rfl (fun i x y h=>nomatch h),_,rfl,jP (no _ s1 fun z=>(im.mp z).2.1 _ gl le)]
  refine .inr #[b,D2,_,_,rfl,rfl,.inl (.inl hB),.inl (.inl eD2),by rw[aB];exact fun z=>le (vV.mp z),_,rfl,tL (hR _ _ (sq fun R hR=>?_))];have fl:RG.Full x.ls:=fun a ha=>by
   obtain rfl:=bK (gl.symm.trans ha);exact le
  clear hB l1 s2 o1 eD eD2;have X2:=hx.same s1;show#[_,rfl,rdG o2 (za T) #[_,rfl,rdG o2 (zc T) #[_,_,rfl,rfl,_,rfl,aY (fun z=>jP (no _ s1 fun y=>?_)) fun z1=>?_]]]
  ·have z:hi<lo:=of_decide_eq_true z;have:=(im.mp y).2.2.1;lia
  have z1:¬ hi<lo:=fun z=>z1 (decide_eq_true z);show#[_,rfl,rdG o2 (zc T) #[_,_,rfl,rfl,_,rfl,aY (fun z=>jP (no _ s1 fun y=>?_)) fun z2=>?_]]
  ·have z:1152921504606846976<=hi:=of_decide_eq_true z;have:=(im.mp y).2.2.2.1;lia
  have z2:¬ 1152921504606846976<=hi:=fun z=>z2 (decide_eq_true z);show#[_,rfl,p,x,rfl,X2,l9,?_];by_cases v:(RG.val x.ls:Int)=x.tt;rotate_left
  ·rw[decide_eq_false v];show#[_,rfl,jP (no _ s1 fun y=>v (im.mp y).2.2.2.2.1)]
  rw[decide_eq_true v];show#[_,rfl,tL (hR _ _ (sq fun R hR=>?_))];show#[_,rfl,rdG o2 (m7 T) #[x.a,rfl,#[_,.inl (.inl X2.l.o)],fun C hC=>?_]];refine eX (K:=K) (a:=x.a) (xs:=x.bs.map V.ref) (fun i ys G=>i<=x.ls.length/\(∃cs:List Bool,ys=cs.map V.bl/\cs.length=i/\(cs.all id=true↔∀l∈x.ls.take i,SL x.r lo hi l))/\G C=some (.lst ys)/\Same H2 G) #[cU _,#[[],rfl,rfl,fun _ _ m=>(nomatch m),fun _=>rfl],aj,Same.new hC] ?_ ?_ ?_ ?_
  ·rintro i ys G hi ⟨il,⟨cs,rfl,lc,_⟩,gC,sG⟩;show#[.inl (.inl (sG _ _ X2.l.o)),gC,aL (by rw[aB];lia)]
  ·rintro i ys G v hv ⟨il,⟨cs,rfl,lc,ic⟩,gC,sG⟩;rw[cB,f9]at hv;obtain⟨b,hb,rfl⟩:=hv;have li:i<x.ls.length:=by rw[<-n];exact(fO.mp hb).1
   have hl:=dH li;have X3:=X2.same sG;show#[_,rfl,_,rfl,b,p,x,x.ls[i],lo,hi,rfl,X3,X3.l.e i b _ hb hl,r0.2,e1,e2,fun c G1 hc sG1=>#[sG1 _ _ gC,li,#[cs++[c],by rw[bB];rfl,by rw[cj,lc];rfl,?_],aj,fun b o e=>by rw[ao (ak e hC)];exact sG1 _ _ (sG b o e)]];rw[List.all_append,HF,ic,iu,hl];have hc:([c].all id=true)↔SL x.r lo hi x.ls[i]:=by rw[<-hc];simp
   rw[hc];simp only[Option.toList_some,dX,eY];show#[fun z l m=>m.elim (z.1 l) fun e=>by rw[e];exact z.2,fun z=>#[fun l m=>z l (.inl m),z _ (.inr rfl)]]
  ·rintro ys G ⟨_,⟨cs,rfl,lc,ic⟩,gC,sG⟩;rw[aB,n,lM]at ic;show#[C,cs,rfl,.inl (.inl gC),?_];have s3:=s1.trans sG;have o3:=sG _ _ o2;have X3:=X2.same sG;cases hcs:cs.all id with
   |false=>show#[_,rfl,jP (no _ s3 fun y=>nJ (hcs.symm.trans (ic.mpr (im.mp y).2.2.2.2.2.1)))]
   |true =>
    show#[_,rfl,tL (hR _ _ ?_)];show#[_,rfl,rdG o3 (RP T) #[_,rfl,rdG o3 (Kd T) #[_,_,rfl,rfl,_,rfl,rdG o3 (abg T) #[_,_,rfl,rfl,gk (by lia) (by lia),_,rfl,rdG o3 (fX T) #[_,rfl,rdG o3 (m7 T) (cQ (.inl (.inl X3.l.o)) #[_,_,rfl,rfl,_,_,rfl,rfl,gk (by rw[aB,n];lia) (by rw[aB,n];lia),_,_,rfl,rfl,?_])]]]]];rw[aB,n];exact q (decide ((x.ov+x.un)*x.r<=x.tt*((x.ls.length:Int)-1))) _ #[fun z=>im.mpr #[ne,fl,by lia,by lia,v,ic.mp hcs,of_decide_eq_true z],fun z=>decide_eq_true (im.mp z).2.2.2.2.2.2] s3
  ·rintro σ H R R' hq ⟨v,e,w,e2,a,p,x,l,lo,hi,en,h1,h2,h3,h4,h5,q⟩;show#[v,e,w,e2,a,p,x,l,lo,hi,en,h1,h2,h3,h4,h5,fun b H' i s=>hq _ _ (q b H' i s)]
open MK
def Pl(c k:Int):Int->List WN.Box->Prop
 |_,[]=>True
 |a,b::r=>a<b.f/\b.f<=b.l/\1<=b.s/\b.l<=c/\c-k<b.l/\Pl c k b.l r
def Su(r:Int):Int->Int->List WN.Box->Prop
 |_,_,[]=>True
 |nw,nb,b::q=>(b.f=b.l\/b.s*r<=nw)/\nw-nb<(b.s+nb)*r/\Su r (nw+b.s) b.s q
theorem ajJ{ps:List Bp}{i:Nat}{v:V}(h:(ps.map fun p=>V.ref p.1)[i]? = some v):∃p,ps[i]? = some p/\v=.ref p.1:=by
 rw[cB,f9]at h;obtain⟨p,hp,rfl⟩:=h;show#[p,hp,rfl]
theorem aby{ps:List Bp}{i:Nat}{p:Bp}(h:ps[i]? = some p):(bx ps).drop i=p.2::(bx ps).drop (i+1):=by
 have l:=(fO.mp h).1;have e:(bx ps)[i]? = some p.2:=by unfold bx;rw[cB,h];rfl
 rw[Gp (by rwa[rQ])];congr 1;exact(fO.mp e).2
def spPla(A:Ad):Sp:=fun vs H Q _=>Ex7 fun(p dx l:Addr) (r k c:Int) (ps:List Bp)=>vm (vs=[.ref p]) (Wn A H p dx l r k c ps) (∀b:Bool,(b=true↔Pl c k 0 (bx ps))->Q (.bl b) H)
theorem Ft(T:Tx K mg A):FnK P w base T.mY CX0 1 (spPla A):=by
 k_dat (T.mY,T.mY.ok,tu) "f"
 ·obtain⟨p,dx,l,r,k,c,ps,rfl,hw,q⟩:=h;have o:=hw.o;show#[_,by k_dat ([eZ],[tu.nd],[]) "p",?_];show#[_,rfl,rdG o (Kf T) #[l,rfl,#[_,.inl (.inl hw.b.l)],jw (K:=K) (a:=l) (xs:=ps.map fun p=>V.ref p.1) (fun i σ G=>Ex4 fun(a:Int) (y2 y3 y4:Option V)=>vm (σ=[some (.ref p),some (.int a),y2,y3,y4]) ((Pl c k a ((bx ps).drop i)↔Pl c k 0 (bx ps))) (G=H)) #[0,none,none,none,rfl,Iff.rfl,rfl] (fun i σ G _ h=>by obtain⟨_,_,_,_,_,_,e⟩:=h;rw[e];exact .inl (.inl hw.b.l)) ?_ ?_]]
  ·rintro i v σ G hi ⟨a,y2,y3,y4,rfl,pa,rfl⟩;obtain⟨b,hb,rfl⟩:=ajJ hi;rw[aby hb]at pa;have no:¬ Pl c k a (b.2::(bx ps).drop (i+1))->Q (.bl false) G:=fun h=>q false #[fun z=>nJ z,fun z=>absurd (pa.mpr z) h];have ht:=hw.b.t b (mv hb);unfold bt at ht;show#[b.1,_,rfl,.inl (.inl ht),rfl,_,_,rfl,_,_,rfl,_,_,rfl,rfl,?_];refine sq fun R hR=>?_;show#[_,rfl,_,rfl,_,_,rfl,rfl,_,rfl,aY (fun z=>jP (no fun h=>absurd (of_decide_eq_true z) (by have:=h.1;lia))) fun z1=>?_];show#[_,rfl,_,rfl,_,_,rfl,rfl,_,rfl,aY (fun z=>jP (no fun h=>absurd (of_decide_eq_true z) (by have:=h.2.1;lia))) fun z2=>?_];show#[_,rfl,_,_,rfl,rfl,_,rfl,aY (fun z=>no fun h=>absurd (of_decide_eq_true z) (by have:=h.2.2.1;lia)) fun z3=>hR _ _ (sq fun R hR=>?_)];show#[_,rfl,_,rfl,rdG o (Ke T) #[_,_,rfl,rfl,_,rfl,aY (fun z=>jP (no fun h=>absurd (of_decide_eq_true z) (by have:=h.2.2.2.1;lia))) fun z4=>?_]];show#[_,rfl,_,rfl,rdG o (Ke T) #[_,rfl,rdG o (ahA T) #[_,_,rfl,rfl,_,_,rfl,rfl,_,rfl,aY (fun z=>no fun h=>absurd (of_decide_eq_true z) (by have:=h.2.2.2.2.1;lia)) fun z5=>hR _ _ ?_]]];have z1:¬ b.2.f<=a:=fun z=>z1 (decide_eq_true z);have z2:¬ b.2.l<b.2.f:=fun z=>z2 (decide_eq_true z);have z3:¬ b.2.s<1:=fun z=>z3 (decide_eq_true z);have z4:¬ c<b.2.l:=fun z=>z4 (decide_eq_true z);have z5:¬ b.2.l<=c-k:=fun z=>z5 (decide_eq_true z);show#[_,rfl,_,_,_,_,rfl,#[fun h=>pa.mp #[by lia,by lia,by lia,by lia,by lia,h],fun h=>(pa.mpr h).2.2.2.2.2],rfl]
  ·rintro σ G ⟨a,y2,y3,y4,rfl,pa,rfl⟩;rw[aB,<-rQ,NQ]at pa;exact q true #[fun _=>pa.mp trivial,fun _=>rfl]
def spSum(A:Ad):Sp:=fun vs H Q _=>Ex7 fun(p dx l:Addr) (r k c:Int) (ps:List Bp)=>V0 (vs=[.ref p]) (Wn A H p dx l r k c ps) (0<=r) (r<=64) (∀b:Bool,(b=true↔Su r 0 0 (bx ps).reverse)->Q (.bl b) H)
theorem LC(T:Tx K mg A):FnK P w base T.rO CX0 1 (spSum A):=by
 k_dat (T.rO,T.rO.ok,wA) "f"
 ·obtain⟨p,dx,l,r,k,c,ps,rfl,hw,r0,r64,q⟩:=h;have o:=hw.o;show#[_,by k_dat ([],[wA.nd,agJ rfl T.xV ?_],[]) "p",?_];show#[_,rfl,rdG o (Kf T) #[l,_,rfl,.inl (.inl hw.b.l),aaK (K:=K) (a:=l) (xs:=ps.map fun b:Bp=>V.ref b.1) (fun i σ G=>Ex5 fun(nw nb:Int) (y3 y4 y5:Option V)=>vm (σ=[some (.ref p),some (.int nw),some (.int nb),y3,y4,y5]) ((Su r nw nb ((bx ps).reverse.drop i)↔Su r 0 0 (bx ps).reverse)) (G=H)) #[0,0,none,none,none,rfl,Iff.rfl,rfl] (fun i σ G _ h=>by obtain⟨_,_,_,_,_,_,_,e⟩:=h;rw[e];exact .inl (.inl hw.b.l)) ?_ ?_]]
  ·rintro i v σ G hi ⟨nw,nb,y3,y4,y5,rfl,sa,rfl⟩;rw[<-wG]at hi;obtain⟨b,hb,rfl⟩:=ajJ hi;have e:=aby hb;rw[show bx ps.reverse=(bx ps).reverse from wG]at e;rw[e]at sa;have no:¬ Su r nw nb (b.2::(bx ps).reverse.drop (i+1))->Q (.bl false) G:=fun h=>q false #[fun z=>nJ z,fun z=>absurd (sa.mpr z) h];have ht:=hw.b.t b (W5.mp (mv hb));unfold bt at ht;show#[b.1,_,rfl,.inl (.inl ht),rfl,_,_,rfl,_,_,rfl,_,_,rfl,rfl,?_]
   k_dat lq "c"
   refine sq fun R hR=>?_;have K1:(b.2.f=b.2.l\/b.2.s*r<=nw)->R [some (.ref p),some (.int nw),some (.int nb),some (.int b.2.f),some (.int b.2.l),some (.int b.2.s)] G:=fun c1=>hR _ _ (by
    show#[_,rfl,_,rfl,_,_,rfl,rfl,_,rfl,rdG o (abh T) #[_,_,rfl,rfl,gk (by lia) (by lia),_,rfl,_,rfl,_,_,rfl,rfl,_,_,rfl,rfl,_,rfl,aY (fun z=>no fun h=>absurd (of_decide_eq_true z) (by show ¬ (b.2.s+nb)*r<=nw-nb;have:=h.2.1;lia)) fun z=>?_]];have z:¬ (b.2.s+nb)*r<=nw-nb:=fun y=>z (decide_eq_true y);show#[_,rfl,_,rfl,_,_,rfl,rfl,_,rfl,_,_,_,_,_,rfl,#[fun h=>sa.mp #[c1,by lia,h],fun h=>(sa.mpr h).2.2],rfl])
   by_cases c0:b.2.f=b.2.l
   ·show#[_,rfl,_,rfl,rfl,_,rfl,Jh (congrArg V.int c0) (K1 (.inl c0))]
   show#[_,rfl,_,rfl,rfl,_,rfl,aY (fun _=>?_) fun z=>absurd (by rw[decide_eq_false fun e=>c0 (V.int.inj e)];rfl) z];show#[_,rfl,_,rfl,rdG o (abh T) #[_,_,rfl,rfl,gk (by lia) (by lia),_,rfl,_,_,rfl,rfl,_,rfl,aY (fun z=>no fun h=>absurd (of_decide_eq_true z) (by show ¬ b.2.s*r>nw;have:=h.1.resolve_left c0;lia)) fun z=>K1 (.inr (by have z:¬ b.2.s*r>nw:=fun y=>z (decide_eq_true y);lia))]]
  ·rintro σ G ⟨nw,nb,y3,y4,y5,rfl,sa,rfl⟩;rw[aB,<-rQ,<-Gy,NQ]at sa;exact q true #[fun _=>sa.mp trivial,fun _=>rfl]
def spSW(A:Ad):Sp:=fun vs H Q _=>Ex7 fun(p dx l:Addr) (r k c:Int) (ps:List Bp)=>V0 (vs=[.ref p]) (Wn A H p dx l r k c ps) (0<=r) (r<=64) (∀b:Bool,(b=true↔(Pl c k 0 (bx ps)/\Su r 0 0 (bx ps).reverse))->Q (.bl b) H)
theorem Fv(T:Tx K mg A):FnK P w base T.mZ CX0 2 (spSW A):=by
 k_dat (T.mZ,T.mZ.ok,Ey) "f"
 ·obtain⟨p,dx,l,r,k,c,ps,rfl,hw,r0,r64,q⟩:=h;show#[_,by k_dat ([],[aC (Ft T) ?_,aC (LC T) ?_],[]) "p",?_];show#[_,rfl,p,dx,l,r,k,c,ps,rfl,hw,fun b hb=>#[_,rfl,?_]];cases b
  ·exact tL (q false #[fun z=>nJ z,fun z=>hb.mpr z.1])
  ·exact jP #[_,rfl,p,dx,l,r,k,c,ps,rfl,hw,r0,r64,fun d hd=>q d #[fun z=>#[hb.mp rfl,hd.mp z],fun z=>hd.mpr z.2]]
def Sdi(r n v:Int)(ks:List Int):Prop:=v<=60/\Ri ks/\(ks.length:Int)<=r/\(∀k∈ks,v<=mkOf k)/\(v=0->(ks.length:Int)<=n)/\(v≠0->r+1<=n)
def spSD(A:Ad):Sp:=fun vs H Q _=>Ex7 fun(p dx l:Addr) (r n v:Int) (ks:List Int)=>yZ (vs=[.ref p]) (Dn A H p dx l r n v ks) (ks.length<=900) (∀(b:Bool)(H':Hp),(b=true↔Sdi r n v ks)->Same H H'->Q (.bl b) H')
theorem zu(T:Tx K mg A):FnK P w base T.jc CX0 3 (spSD A):=by
 k_dat (T.jc,T.jc.ok,oM) "f"
 ·obtain⟨p,dx,l,r,n,v,ks,rfl,hd,l9,q⟩:=h;have o:=hd.o;have hl:=hd.l;have no:∀G,Same H G->¬ Sdi r n v ks->Q (.bl false) G:=fun G sG h=>q false G #[fun z=>nJ z,fun z=>absurd z h] sG;obtain⟨_,SJ,SM⟩:=T.RK;show#[_,by k_dat ([eZ,IV],[oM.nd,aC (qD T) ?_,cN (vO rfl) (by rfl) T.abe Qd ?_],[cW (v:=.int 60) rfl SJ SM,fV [("distinct",s.heap.objs.size+1)] ["thing","distinct"] [0] (te:=(tOp _ _ (af9 K _ "level"))) ?_ (fun _ _ _ _=>eO) (fun _ _ _ _=>(yE ajm (aC (aiY T) (aP (pv 0) dB)) (pf 1) (Jd _)))]) "p",?_];refine sq fun R hR=>#[_,rfl,rdG o (vQ T) #[_,_,rfl,rfl,_,rfl,aY (fun z=>jP (no _ (Same.refl H) fun h=>absurd (of_decide_eq_true z) (by have:=h.1;lia))) fun z1=>?_]];have z1:¬ 60<v:=fun z=>z1 (decide_eq_true z);show#[_,rfl,rdG o (zf T) #[l,ks,rfl,hl,l9,fun b H1 hb s1=>#[_,rfl,?_]]];cases b
  ·exact jP (jP (no _ s1 fun h=>nJ (hb.mpr h.2.1)))
  have hb:=hb.mp rfl;refine tL ?_;have o1:=s1 _ _ o;have l1:=s1 _ _ hl;show#[_,rfl,rdG o1 (zf T) (cQ (.inl (.inl l1)) #[_,rfl,rdG o1 (abj T) #[_,_,rfl,rfl,_,rfl,aY (fun z=>no _ s1 fun h=>absurd (of_decide_eq_true z) (by rw[aB];have:=h.2.2.1;lia)) fun z2=>hR _ _ (sq fun R hR=>?_)]])];have z2:¬ r<((ks.map V.int).length:Int):=fun z=>z2 (decide_eq_true z);rw[aB]at z2;show#[_,rfl,rdG o1 (zf T) #[l,rfl,#[_,.inl (.inl l1)],fun D hD=>?_]];refine eX (K:=K) (a:=l) (xs:=ks.map V.int) (fun i ys G=>i<=ks.length/\ys=(ks.take i).map (fun k=>V.bl (decide (mkOf k>=v)))/\G D=some (.lst ys)/\Same H1 G) #[cU _,rfl,aj,Same.new hD] ?_ ?_ ?_ ?_
  ·walk_at "J"
   show#[.inl (.inl (sG _ _ l1)),gD,aL (by rw[aB,fJ];lia)]
  ·rintro i ys G x hx ⟨il,rfl,gD,sG⟩;obtain⟨k,hi,rfl⟩:=int_at hx;have li:=(fO.mp hi).1;show#[_,rfl,k,rfl,fun h mh=>#[_,rfl,rdG (sG _ _ o1) (vQ T) #[_,_,rfl,rfl,gD,li,?_,aj,fun b o e=>by rw[ao (ak e hD)];exact sG b o e]]];show _++[V.bl (decide ((h:Int)>=v))]=_;rw[iu,hi,bB,mk_eq mh];rfl
  ·rintro ys G ⟨_,rfl,gD,sG⟩;have o2:=sG _ _ o1;have s2:=s1.trans sG;rw[aB,lM]at gD;show#[D,ks.map fun k=>decide (mkOf k>=v),rfl,.inl (.inl (by rwa[fM])),?_];have key:(ks.map fun k=>decide (mkOf k>=v)).all id=true↔∀k∈ks,v<=mkOf k:=by
    rw[List.all_map,qI];show#[fun h k m=>of_decide_eq_true (h k m),fun h k m=>decide_eq_true (h k m)]
   cases hcs:(ks.map fun k=>decide (mkOf k>=v)).all id with
   |false=>show#[_,rfl,jP (no _ s2 fun h=>nJ (hcs.symm.trans (key.mpr h.2.2.2.1)))]
   |true =>
    have mk:=key.mp hcs;show#[_,rfl,tL (hR _ _ ?_)];show#[_,rfl,rdG o2 (vQ T) #[rfl,_,rfl,aY (fun z=>?_) (fun z=>?_)]]
    ·have z:v=0:=V.int.inj (of_decide_eq_true z);show#[_,rfl,rdG o2 (zf T) (cQ (.inl (.inl (sG _ _ l1))) ?_)];show#[_,rfl,rdG o2 (vo T) #[_,rfl,_,_,rfl,rfl,?_]];refine q (decide (n>=((ks.map V.int).length:Int))) _ #[fun y=>?_,fun y=>decide_eq_true (by rw[aB];exact y.2.2.2.2.1 z)] s2;have y:=of_decide_eq_true y;rw[aB]at y;show#[by lia,hb,by lia,mk,fun _=>y,fun w=>absurd z w]
    ·have z:v≠0:=fun e=>z (decide_eq_true (congrArg V.int e));show#[_,rfl,rdG o2 (abj T) #[_,_,rfl,rfl,?_]];show#[_,rfl,rdG o2 (vo T) #[_,rfl,_,_,rfl,rfl,?_]];exact q (decide (n>=r+1)) _ #[fun y=>#[by lia,hb,by lia,mk,fun w=>absurd w z,fun _=>of_decide_eq_true y],fun y=>decide_eq_true (y.2.2.2.2.2 z)] s2
  ·exact vN (by rintro σ H R R' hq ⟨v,e,c,ec,q⟩;show#[v,e,c,ec,fun h mh=>hq _ _ (q h mh)]) (UW (dO 1))
open MK
theorem SN{α β:Type}(f:α->β):∀l:List α,(dY l.length).filterMap (fun i=>l[i]?.map f)=l.map f
 |[]=>rfl
 |a::l=>by
  rw[cJ,adi,yh];show f a::_=_;rw[NP];exact congrArg (f a :: ·) (SN f l)
theorem ahK{α:Type}{xs:List α}{k lo:Nat}{m:Nat}(hb:(iC (some (lo:Int)) none (some (k:Int)) xs.length)=(min (lo:Int) xs.length,(xs.length:Int),(k:Int)))(k0:0<k)
  (hc:(if min (lo:Int) xs.length<xs.length then((xs.length:Int)-min (lo:Int) xs.length+k-1) / k else 0).toNat=m) (hm:0<m->(lo:Int)<=xs.length):uQ k xs (some (lo:Int)) none=(dY m).filterMap fun j=>xs[lo+k*j]?:=by
 unfold uQ;rw[hb];unfold O9;dsimp only;rw[if_pos (by lia),hc,NP];have fm:∀(ks:List Nat)(f g:Nat->Option α),(∀k∈ks,f k=g k)->ks.filterMap f=ks.filterMap g:=by
  intro ks f g
  induction ks with
  |nil=>intro _;rfl
  |cons k r ih =>
   intro h;rw[yh,yh,h k bV,ih fun j hj=>h j (cR _ hj)]
 refine fm _ _ _ fun j hj=>?_;have hj:=pP.mp hj;have h1:=hm (by lia);show xs[(min (lo:Int) xs.length+k*(j:Int)).toNat]? = _;rw[show min (lo:Int) xs.length=lo by lia,show((lo:Int)+k*(j:Int)).toNat=lo+k*j by rw[<-Int.natCast_mul];lia]
theorem ajK{α:Type}{xs:List α}{lo m:Nat}(h:xs.length=2+2*m)(hl:lo=2\/lo=3):uQ 2 xs (some (lo:Int)) none=(dY m).filterMap fun j=>xs[lo+2*j]?:=by
 refine ahK (k:=2) ?_ tb_g% ?_ (by lia)
 ·rcases hl with rfl|rfl <;> simp[iC] <;> lia
 ·split
  ·rcases hl with rfl|rfl <;> lia
  ·rcases hl with rfl|rfl <;> lia
theorem cut_3{α:Type}{xs:List α}{lo m:Nat}(h:xs.length=1+3*m)(hl:lo=1\/lo=2\/lo=3):uQ 3 xs (some (lo:Int)) none=(dY m).filterMap fun j=>xs[lo+3*j]?:=by
 refine ahK (k:=3) ?_ tb_g% ?_ (by lia)
 ·rcases hl with rfl|rfl|rfl <;> simp[iC] <;> lia
 ·split
  ·rcases hl with rfl|rfl|rfl <;> lia
  ·rcases hl with rfl|rfl|rfl <;> lia
theorem ahL:∀(c:Tab)(j:Nat),(pN c)[2*j]? = c[j]?.map (·.1)/\(pN c)[2*j+1]? = c[j]?.map (·.2)
 |[],j=>#[rfl,rfl]
 |p::c,0=>#[rfl,rfl]
 |p::c,j+1=>ahL c j
theorem Wo:∀(a c:Tab),(keys (a++c)).Nodup->((keys c).zip ((vals c).map V.int)).foldl (fun d p=>putK d (Sum.inl p.1:Key) p.2) (emb a)=emb (a++c)
 |a,[],_=>by rw[pO];rfl
 |a,p::c,h=>by
  have e:a++p::c=(a++[(p.1,p.2)])++c:=by rw[fH];rfl
  have hp:p.1∉keys a:=by
   unfold keys at h ⊢;rw[bB,WY]at h;intro m;exact h.2.2 p.1 m p.1 bV rfl
  show((keys c).zip ((vals c).map V.int)).foldl _ (putK (emb a) (Sum.inl p.1) (.int p.2))=_;rw[Uo,aaI hp,e];exact Wo (a++[(p.1,p.2)]) c (by rwa[<-e])
theorem nj{ns:List Int}(h:∀n∈ns,0<=n):(ns.map uw).map wN=ns.map fun n=>V.str (sI n):=by
 rw[fM];refine Dc fun n m=>?_;show V.str (Dec.tx (Dec.dg n.toNat))=V.str (sI n);rw[<-Dec.lG,yr (h n m)];rfl
theorem vq{ns:List Int}(h:∀n∈ns,0<=n):((ns.map uw).map fun n:Nat=>V.int n)=ns.map V.int:=by
 rw[fM];exact Dc fun n m=>congrArg V.int (yr (h n m))
def spRK(A:Ad):Sp:=fun vs H Q E=>Ex5 fun(a:Addr) (l:Int) (r c p:Nat)=>yZ (vs=[.ref a,.int l]) (H a=some (.lst [wN r,wN c,wN p])) ((r<10 ^ 60/\c<10 ^ 60/\p<10 ^ 60)) (((Bd r c p/\∀(x:KS)(H':Hp),Kp A H' x->Eqp x (K0 r c p)->(∀b∈x.all,H b=none)->(∀b∈x.ems,H b=none)->Same H H'->Q (.ref x.k) H')\/¬ Bd r c p/\Bt A l E (Same H)))
theorem SQ(T:Tx K mg A):FnK P w base T.u9 (CXE P w) 10 (spRK A):=by
 k_dat (T.u9,T.u9.okE,yX) "g"
 ·obtain⟨_,_,_,_,_,rfl,_⟩:=h;rfl
 ·obtain⟨a,l,r,c,p,rfl,ha,hn,h⟩:=h;show#[_,by k_dat ([],[yX.nd,aC (Sx T) ?_,ql T.abW T.ZR (Cu T) ?_],[]) "p",?_];rcases h with⟨h,q⟩|h;rotate_left
  ·show#[_,rfl,_,rfl,a,l,r,c,p,rfl,ha,hn,.inr h]
  show#[_,rfl,_,rfl,a,l,r,c,p,rfl,ha,hn,.inl #[h,fun D G hD sG gD=>?_]];obtain⟨h1,h2,h3,_⟩:=h;have sD:SqL K G D [.int r,.int c,.int p]:=.inl (.inl gD);show#[_,rfl,aH sD (v:=.int r) rfl #[_,rfl,aH sD (v:=.int c) rfl #[_,rfl,aH sD (v:=.int p) rfl fun k dk n1 n2 n3=>#[k,dk,r,c,p,rfl,aj,by lia,by lia,by lia,fun y H2 kp eqy ek hpts hems bt=>#[rfl,?_]]]]];have up2:Same G (upd (upd G dk (.own k)) k (.ins A.C'5 dk [])):=fun b o e=>by rwa[ao (ak e n1),ao (ak e n2)]
  rw [<- ek];exact q y H2 kp eqy (fun b m=>by
   rcases aZ.mp (show b∈y.k::y.pts from m)with z|z
   ·rw[z,ek];exact sG.free n1
   ·exact sG.free (up2.free (hpts b z))) (fun b m=>sG.free (up2.free (hems b m))) (sG.trans fun b o e=>bt b o (up2 b o e) (ak e n1))
theorem ig{H:Hp}{p C e D:Addr}{fs:List (Str × V)}{vs:List V}{o:HO}(hp:H p=some (.ins C e fs))(hD:H D=some (.lst vs)):(upd H p o) D=some (.lst vs):=by
 rwa[ao (v9 hD hp (by intro z;cases z))]
theorem zx{ns:List Int}(h:∀n∈ns,0<=n/\n<10 ^ 60):∀n∈ns.map uw,n<10 ^ 60:=fun n m=>by
 obtain⟨k,mk,rfl⟩:=fL.mp m;have:=h k mk;lia
abbrev SFc(room:Nat)(t l:Int)(c:Tab):Prop:=SF room t l (keys c) (vals c)
theorem Wq:∀(c a:Tab),∃c',((keys c).zip ((vals c).map V.int)).foldl (fun d p=>putK d (Sum.inl p.1:Key) p.2) (emb a)=emb c'/\∀k,k∈keys a\/k∈keys c->k∈keys c'
 |[],a=>#[a,rfl,fun k h=>h.elim id fun m=>nomatch m]
 |p::c,a=>by
  obtain⟨c',e,h⟩:=Wq c (put a p.1 p.2);show#[c',?_,fun k m=>h k ?_]
  ·show((keys c).zip ((vals c).map V.int)).foldl _ (putK (emb a) (Sum.inl p.1) (.int p.2))=_;rwa[Uo]
  ·rcases m with m|m
   ·exact .inl ((yH _ _ _ _).mpr (.inr m))
   ·rcases aZ.mp (show k∈p.1::keys c from m)with e|m
    ·exact .inl ((yH _ _ _ _).mpr (.inl e))
    ·exact .inr m
def spRF(A:Ad):Sp:=fun vs H Q E=>Ex7 fun(f:Fq) (a:Addr) (ln:Int) (c:Tab) (t l:Int) (room:Nat)=>acV (vs=[.ref f.p,.ref a,.int ln]) (pK A H room f) (H a=some (.lst (([t,l]++pN c).map fun n=>V.str (sI n)))) ((∀n∈[t,l]++pN c,0<=n/\n<10 ^ 60)) (c.length<=400) (room<=64) (((SFc room t l c/\∀d H',pK A H' room #[f.p,f.dx,d,t,l,c]->But f.p H H'->Q .non H')\/¬ SFc room t l c/\Bt A ln E (But f.p H)))
theorem Cz(T:Tx K mg A):FnK P w base T.jV (CXE P w) 9 (spRF A):=by
 k_dat (T.jV,T.jV.okE,qu) "g"
 ·obtain⟨_,_,_,_,_,_,_,rfl,_⟩:=h;rfl
 ·obtain⟨f,a,l,c,t0,l0,room,rfl,hf,ha,hn,lr,r64,q⟩:=h;show#[_,by k_dat ([M7],[qu.nd,aC (fB T) ?_,aC (jk T) ?_,Zz rfl rfl T.alX rfl T.ahv ?_,aC (zp T) ?_],[]) "p",?_];have n0:∀n∈[t0,l0]++pN c,0<=n:=fun n m=>(hn n m).1;have nl:([t0,l0]++pN c).length=2+2*c.length:=by rw[cj,xX];rfl
  obtain⟨c',ec,hk,eqc⟩:∃c',zPut (keys c) ((vals c).map V.int)=emb c'/\(∀k∈keys c,k∈keys c')/\((keys c).Nodup->c'=c):=by
   by_cases nd:(keys c).Nodup
   ·show#[c,Wo [] c nd,fun _ m=>m,fun _=>rfl]
   ·obtain⟨c',e,h⟩:=Wq c [];show#[c',e,fun k m=>h k (.inr m),fun z=>absurd z nd]
  show#[_,rfl,_,rfl,.inl #[a,([t0,l0]++pN c).map uw,l,rfl,by rwa[nj n0],zx hn,by rw[aB,nl];lia,fun D G hD sG gD=>?_]];rw[vq n0]at gD
  k_dat lqg "c"
  have sD:SqL K G D (([t0,l0]++pN c).map V.int):=.inl (.inl gD);have vl:((([t0,l0]++pN c).map V.int).length:Int)=2+2*(c.length:Int):=by rw[aB,nl];lia
  show#[_,rfl,cQ sD #[_,_,rfl,rfl,_,rfl,aY (fun _=>?_) fun z=>absurd (decide_eq_true (by lia)) z]];show#[_,rfl,cQ sD #[_,_,rfl,rfl,(by show(0:Int)<2;decide),rfl,_,rfl,l,true,?_,?_]]
  ·rw[decide_eq_true (congrArg V.int (show((([t0,l0]++pN c).map V.int).length:Int) % 2=0 by rw[vl];lia))];rfl
  have o:=sG _ _ hf.o;have b:=sG.but f.p;show#[_,rfl,aH sD (v:=.int t0) (bR (j:=0) rfl) #[_,rfl,f.p,_,f.dx,_,rfl,o,T.JW,T.VH,tb_g%,?_]];rw[ai0];have g1:=ig (o:=.ins A.C'3 f.dx (fl room t0 f.l f.d)) o gD;show#[_,rfl,aH (.inl (.inl g1)) (v:=.int l0) (bR (j:=1) rfl) #[_,rfl,f.p,_,f.dx,_,rfl,aj,T.JW,T.VJ,tb_g%,?_]];rw[cV,ai1];have g2:=ig (o:=.ins A.C'3 f.dx (fl room t0 l0 f.d)) o gD;have o2:(upd G f.p (.ins A.C'3 f.dx (fl room t0 l0 f.d))) f.p=some (.ins A.C'3 f.dx (fl room t0 l0 f.d)):=aj;replace b:=b.trans (But.upd (p:=f.p) (H:=G) (o:=.ins A.C'3 f.dx (fl room t0 l0 f.d)));generalize upd G f.p (.ins A.C'3 f.dx (fl room t0 l0 f.d))=G2 at g2 o2 b ⊢;have c2:uQ 2 (([t0,l0]++pN c).map V.int) (some 2) none=(keys c).map V.int:=by
   rw[show(some 2:Option Int)=some ((2:Nat):Int)from rfl,ajK (m:=c.length) (by rwa[aB]) (.inl rfl)];have e:(fun j=>((([t0,l0]++pN c).map V.int)[2+2*j]?:Option V))=fun j=>c[j]?.map fun p=>V.int p.1:=by
    funext j
    rw[cB,show 2+2*j=2*j+1+1 by lia];show((pN c)[2*j]?).map V.int=_;rw[(ahL c j).1,HN];rfl
   rw[e,SN];unfold keys;rw[fM];rfl
  have c3:uQ 2 (([t0,l0]++pN c).map V.int) (some 3) none=(vals c).map V.int:=by
   rw[show(some 3:Option Int)=some ((3:Nat):Int)from rfl,ajK (m:=c.length) (by rwa[aB]) (.inr rfl)];have e:(fun j=>((([t0,l0]++pN c).map V.int)[3+2*j]?:Option V))=fun j=>c[j]?.map fun p=>V.int p.2:=by
    funext j
    rw[cB,show 3+2*j=2*j+1+1+1 by lia];show((pN c)[2*j+1]?).map V.int=_;rw[(ahL c j).2,HN];rfl
   rw[e,SN];unfold vals;rw[fM];rfl
  show#[_,rfl,2,rfl,2,rfl,2,rfl,by decide,D,_,rfl,.inl (.inl g2),fun t ht=>?_];rw[c2]
  k_dat (nwA ht,G3,sT,t2) "n"
  show#[_,rfl,_,rfl,3,rfl,2,rfl,2,rfl,by decide,D,_,rfl,.inl (.inl (sT _ _ g2)),fun u hu=>?_];rw[c3]
  k_dat (nwA hu,G4,sU,u2) "n"
  show#[t,u,keys c,_,rfl,sU _ _ t2,u2,by rw[aB];unfold keys vals;rw[aB,aB],fun d hd=>?_];rw[ec]
  k_dat (nwA hd,G5,sE,d2) "n"
  have s5:=sT.trans (sU.trans sE);show#[_,rfl,f.p,_,f.dx,_,rfl,s5 _ _ o2,T.JW,T.VL,tb_g%,?_];rw [ai2];have o6:pK A (upd G5 f.p (.ins A.C'3 f.dx (fl room t0 l0 d))) room #[f.p,f.dx,d,t0,l0,c']:=#[aj,by
   show (upd G5 f.p _) d=some (.dK (emb c'));rw [ao (v9 d2 (s5 _ _ o2) (by intro z;cases z))];exact d2]
  have t6:=ig (o:=.ins A.C'3 f.dx (fl room t0 l0 d)) (s5 _ _ o2) ((sU.trans sE) _ _ t2);replace b:=(b.trans (s5.but f.p)).trans (But.upd (p:=f.p) (H:=G5) (o:=.ins A.C'3 f.dx (fl room t0 l0 d)));generalize upd G5 f.p (.ins A.C'3 f.dx (fl room t0 l0 d))=G6 at o6 t6 b ⊢;have lk:(keys c).length<=900:=by unfold keys;rw[aB];lia
  show#[_,rfl,_,rfl,#[f.p,f.dx,d,t0,l0,c'],t,room,keys c,rfl,o6,t6,hk,lk,r64,fun b1 H' hb s'=>#[_,rfl,l,b1,rfl,?_]];have fwd:Ri (keys c)->c'=c/\(keys c).map (low c')=vals c:=fun h=>by
   have nd:(keys c).Nodup:=h.1.imp fun h e=>by lia
   obtain rfl:=eqc nd;show#[rfl,?_];unfold keys vals;rw[fM];exact Dc fun p m=>xH nd m
  rcases q with⟨h,q⟩|⟨h,q⟩
  ·obtain⟨rfl,lv⟩:=fwd h.1;obtain rfl:b1=true:=hb.mpr (by rwa[lv]);exact q d H' (o6.same s') (b.trans (s'.but f.p))
  ·cases b1
   ·exact q.imp fun _ s2=>b.trans ((s'.trans s2).but f.p)
   ·have y:=hb.mp rfl;rw[(fwd y.1).2]at y;exact absurd y h
theorem share{α:Type}(C:α->Prop){G:α->Prop}{R:Prop}(f:(∀x,C x->G x)->R)(k:∀x,C x->G x):R:=f k
theorem ajL(n:Int)(h:0<=n):sI n≠sl1:=by
 unfold sI;rw[show n=(n.toNat:Int) by lia,Dec.lG,show sl1=#[[47].toArray] by decide +kernel];exact wN_ne tb_g%
structure Rl(y:Rs):Prop where
 n:∀n∈rN y,0<=n/\n<10 ^ 60
 l:∀l∈y.ls,(∀n∈l,0<=n/\n<10 ^ 60)/\l.length<=900
 z:y.tt=0->y.mi=none/\y.ma=none
 f:(rT y).length<=9000
 s:Sro y
 k:y.ls.length<=900
theorem Z6{y:Rs}(hn:∀n∈rN y,0<=n/\n<10 ^ 60)(hl:∀l∈y.ls,(∀n∈l,0<=n/\n<10 ^ 60)/\l.length<=900):prt [] (rT y)=(rN y).map sI::y.ls.map (·.map sI):=by
 unfold rT rW;have f1:∀w∈(rN y).map sI,w≠sl1:=fun w m=>by
  obtain⟨n,mn,rfl⟩:=fL.mp m;exact ajL n (hn n mn).1
 have e:(y.ls.flatMap fun l=>aD "/" :: l.map sI)=(y.ls.map (·.map sI)).flatMap fun g=>sl1::g:=by rw[List.flatMap_map]
 rw[Wl f1,GF,e,Kz];intro g m w mw;obtain⟨l,ml,rfl⟩:=fL.mp m;obtain⟨n,mn,rfl⟩:=fL.mp mw;exact ajL n ((hl l ml).1 n mn).1
theorem Rl.prt{y:Rs}(h:Rl y):prt [] (rT y)=(rN y).map sI::y.ls.map (·.map sI):=Z6 h.n h.l
def rgO(A:Ad)(x:Rs)(y:Rs)(a:Addr):HO:=.ins A.C'0 x.dx (rg (.int x.r) (.int y.tt) (.int y.ov) (.int y.un) (.int y.tn) (oV y.mi) (oV y.ma) (.ref a))
structure Rq(y:Rs):Prop where
 l:∀l∈y.ls,(∀n∈l,0<=n/\n<10 ^ 60)/\l.length<=900
 z:y.tt=0->y.mi=none/\y.ma=none
 w:y.tt≠0->∃lo hi,y.mi=some lo/\y.ma=some hi
 k:y.ls.length<=900
theorem Rl.rq{y:Rs}(h:Rl y):Rq y:=#[h.l,h.z,fun z=>by obtain⟨_,_,lo,hi,a,b,_⟩:=h.s.2 z;show#[lo,hi,a,b],h.k]
def spRR(A:Ad):Sp:=fun vs H Q E=>Ex6 fun(p:Addr) (x:Rs) (a:Addr) (l:Int) (ws:List Str) (y:Rs)=>And8 (vs=[.ref p,.ref a,.int l]) (RnX A H p x) ((x.mi=none/\x.ma=none)) (H a=some (.lst (ws.map V.str))) (ws.length<=9000) (prt [] ws=(rN y).map sI::y.ls.map (·.map sI)) ((∀n∈rN y,0<=n/\n<10 ^ 60)) (((y.tt=0/\(rN y).length≠4/\Bt A l E (But p H))\/y.r=x.r/\(0<=x.r/\x.r<64)/\Rq y/\((Sro y/\∀d bs H',H d=none->(∀b∈bs,H b=none)->RnX A H' p #[x.dx,d,bs,y.r,y.tt,y.ov,y.un,y.tn,y.mi,y.ma,y.ls]->But p H H'->Q .non H')\/¬ Sro y/\Bt A l E (But p H))))
theorem LQ(T:Tx K mg A):FnK P w base T.rP (CXE P w) 9 (spRR A):=by
 k_dat (T.rP,T.rP.okE,wB) "g"
 ·obtain⟨_,_,_,_,_,_,rfl,_⟩:=h;rfl
 ·obtain⟨p,x,a,l,ws,y,rfl,hx,⟨e1,e2⟩,ha,lw,e0,Ln,h⟩:=h;show#[_,by k_dat ([IV,eZ],[wB.nd,aC (ac0 T) ?_,aC (fB T) ?_,aC (jk T) ?_,aC (KC T) ?_],[Bu xwUp [("line",s.heap.objs.size+1)] ["group","line"] [2] ?_ (fun _ _ _ _=>eO) (fun _ _ _ _=>(aC (fB T) (aP (pv 0) (aP (pv 1) dB))))]) "p",?_];show#[_,rfl,a,ws,rfl,ha,lw,fun G0 ds H1 s1 g1 d1 ep=>?_];have n0:∀n∈rN y,0<=n:=fun n m=>(Ln n m).1;have nle:(rN y).length<=6:=by
   unfold rN;cases y.mi <;> cases y.ma <;> (show _<=6;simp)
  rw[e0]at ep
  k_dat lqg "c"
  obtain⟨⟨D0,w0⟩,ds,rfl⟩:∃z zs,ds=z::zs:=by
   cases ds with
   |nil=>cases ep
   |cons z zs=>show#[z,zs,rfl]
  rw[dM]at ep;injection ep with ew ep;have ew:w0=(rN y).map sI:=ew;subst ew;have hD0:H1 D0=some (.lst ((rN y).map fun n=>V.str (sI n))):=by
   have:=d1 (D0,(rN y).map sI) bV;rwa[fM]at this
  show#[_,rfl,aH (.inl (.inl g1)) (v:=.ref D0) (bR (j:=0) rfl) #[_,rfl,.inl #[D0,(rN y).map uw,l,rfl,by rwa[nj n0],zx Ln,by rw[aB];lia,fun D G hD sG gD=>?_]]];rw[vq n0]at gD;have sD:SqL K G D ((rN y).map V.int):=.inl (.inl gD);have l4:4<=(rN y).length:=by unfold rN;rw[cj];show 4<=4+_;lia
  show#[_,rfl,cQ sD #[_,_,rfl,rfl,_,rfl,l,true,?_,?_]]
  ·show[V.bl (decide ((((rN y).map V.int).length:Int)>=4)),_]=_;rw[decide_eq_true (by rw[aB];lia)]
  have g1:=sG _ _ g1;have s1:=s1.trans sG;have o:=s1 _ _ hx.o;rw[e1,e2]at o;have b:=s1.but p;show#[_,rfl,aH (.inl (.inl gD)) (v:=.int y.tt) (bR (j:=0) rfl) #[_,rfl,p,_,x.dx,_,rfl,o,T.mR,T.Vs,tb_g%,?_]];rw[RQ];show#[_,rfl,aH (.inl (.inl (ig o gD))) (v:=.int y.ov) (bR (j:=1) rfl) #[_,rfl,p,_,x.dx,_,rfl,aj,T.mR,T.Vt,tb_g%,?_]];rw[cV,V3];show#[_,rfl,aH (.inl (.inl (ig o gD))) (v:=.int y.un) (bR (j:=2) rfl) #[_,rfl,p,_,x.dx,_,rfl,aj,T.mR,T.Vu,tb_g%,?_]];rw[cV,RT];show#[_,rfl,aH (.inl (.inl (ig o gD))) (v:=.int y.tn) (bR (j:=3) rfl) #[_,rfl,p,_,x.dx,_,rfl,aj,T.mR,T.Vv,tb_g%,?_]];rw[cV,RW]
  k_dat lqn "c"
  have nz:(upd G p (rgO A x {y with mi:=none,ma:=none} x.a)) p=some (rgO A x {y with mi:=none,ma:=none} x.a):=aj;have k1:=ig (o:=rgO A x {y with mi:=none,ma:=none} x.a) o g1;have k2:∀d∈ds,(upd G p (rgO A x {y with mi:=none,ma:=none} x.a)) d.1=some (.lst (d.2.map V.str)):=fun d m=>ig o (sG _ _ (d1 d (cR _ m)));have k3:=ig (o:=rgO A x {y with mi:=none,ma:=none} x.a) o gD;replace b:=b.trans (But.upd (p:=p) (H:=G) (o:=rgO A x {y with mi:=none,ma:=none} x.a));generalize hG2:upd G p (rgO A x {y with mi:=none,ma:=none} x.a)=G2 at nz k1 k2 k3 b;refine(show upd G p (.ins A.C'0 x.dx (rg (.int x.r) (.int y.tt) (.int y.ov) (.int y.un) (.int y.tn) (oV none) (oV none) (.ref x.a)))=G2 from hG2) ▸ ?_;rcases h with⟨h0,r5,q⟩|⟨er,rx,L,out⟩
  ·show#[_,rfl,cQ (.inl (.inl k3)) #[_,rfl,rdG nz (fX T) #[rfl,_,rfl,aY (fun _=>#[rfl,_,rfl,l,false,?_,q.imp fun _ s'=>b.trans (s'.but p)]) fun z=>absurd (decide_eq_true (congrArg V.int h0)) z]]];rw[decide_eq_false (by rw[aB];intro z;exact r5 (ak6 (V.int.inj z)))];rfl
  apply share (fun G3=>G3 p=some (rgO A x y x.a)/\But p H G3/\G3 G0=some (.lst (.ref D0::ds.map fun d=>V.ref d.1))/\∀d∈ds,G3 d.1=some (.lst (d.2.map V.str)))
  ·intro key;by_cases h0:y.tt=0
   ·have zz:=L.z h0;have rl:((((rN y).map V.int).length:Nat):Int)=4:=by unfold rN;rw[zz.1,zz.2];rfl
    show#[_,rfl,cQ (.inl (.inl k3)) #[_,rfl,rdG nz (fX T) #[rfl,_,rfl,aY (fun _=>#[rfl,_,rfl,l,true,?_,?_]) fun z=>absurd (decide_eq_true (congrArg V.int h0)) z]]]
    ·rw[decide_eq_true (congrArg V.int rl)];rfl
    k_dat lqn "c"
    show#[_,rfl,rdG nz (fX T) #[rfl,_,rfl,Jh (congrArg V.int h0) ?_]];have ey:rgO A x {y with mi:=none,ma:=none} x.a=rgO A x y x.a:=by
     unfold rgO;rw[zz.1,zz.2]
    exact key G2 #[ey ▸ nz,b,k1,k2]
   ·obtain⟨lo,hi,m1,m2⟩:=L.w h0;have rn:rN y=[y.tt,y.ov,y.un,y.tn,lo,hi]:=by unfold rN;rw[m1,m2];rfl
    rw[rn]at k3;show#[_,rfl,cQ (.inl (.inl k3)) #[_,rfl,rdG nz (fX T) #[rfl,_,rfl,aY (fun z=>absurd (V.int.inj (of_decide_eq_true z)) h0) fun _=>#[rfl,_,rfl,l,true,rfl,?_]]]];show#[_,rfl,rdG nz (fX T) #[rfl,_,rfl,aY (fun _=>?_) fun z=>absurd (by rw[decide_eq_false (fun e=>h0 (V.int.inj e))];rfl) z]];show#[_,rfl,aH (.inl (.inl k3)) (v:=.int lo) (bR (j:=4) rfl) #[_,rfl,p,_,x.dx,_,rfl,nz,T.mR,T.Vw,tb_g%,?_]];rw[RX];show#[_,rfl,aH (.inl (.inl (ig nz k3))) (v:=.int hi) (bR (j:=5) rfl) #[_,rfl,p,_,x.dx,_,rfl,aj,T.mR,T.Vx,tb_g%,?_]];rw[cV,V4];have ey:HO.ins A.C'0 x.dx (rg (.int x.r) (.int y.tt) (.int y.ov) (.int y.un) (.int y.tn) (.int lo) (.int hi) (.ref x.a))=rgO A x y x.a:=by
     unfold rgO;rw[m1,m2];rfl
    rw[ey];exact key _ #[aj,b.trans But.upd,ig nz k1,fun d m=>ig nz (k2 d m)]
  ·rintro G3 ⟨o3,b3,q1,q2⟩;show#[_,rfl,1,rfl,G0,_,rfl,.inl (.inl q1),fun t ht=>?_];rw[show pC (V.ref D0::ds.map fun d=>V.ref d.1) (some 1) none=ds.map fun d=>V.ref d.1 from Jp (n:=1) (by rw[cJ];lia)]
   k_dat (nwA ht,G4,sT,t2) "n"
   show#[t,rfl,#[_,.inl (.inl t2)],fun d hd=>?_];have dl:ds.length=y.ls.length:=by
    have:=congrArg lO ep;rwa[aB,aB]at this
   replace b3:=b3.trans (sT.but p);refine eX (K:=K) (a:=t) (xs:=ds.map fun d=>V.ref d.1) (fun i ys J=>∃(bs:List Addr),V1 (ys=bs.map V.ref) ((bs.length=i/\i<=y.ls.length)) ((∀(j:Nat)(b:Addr)(l:List Int),bs[j]? = some b->y.ls[j]? = some l->J b=some (.lst (l.map V.int)))) ((∀b∈bs,b≠d/\G4 b=none)) (J d=some (.lst ys)) (Same G4 J)) #[[],rfl,#[rfl,cU _],fun j b l e=>by (rw[W0]at e;cases e),fun _ m=>(nomatch m),aj,Same.new hd] ?_ ?_ ?_ ?_
   ·rintro i ys J hi ⟨bs,rfl,lb,cb,nb,gJ,sJ⟩;have:=L.k;show#[.inl (.inl (sJ _ _ t2)),gJ,aL (by rw[aB];lia)]
   ·rintro i ys J v hv ⟨bs,rfl,⟨lb,il⟩,cb,nb,gJ,sJ⟩;rw[cB]at hv;obtain⟨g,hg,rfl⟩:=f9.mp hv;have mg:=mv hg;have eg:(y.ls[i]?).map (·.map sI)=some g.2:=by
     have:=congrArg (·[i]?) ep;simp only[cB,hg,Option.map_some]at this;exact this.symm
    have lt:i<y.ls.length:=by rw[<-dl];exact(fO.mp hg).1
    obtain⟨k,hk,ek⟩:∃k,y.ls[i]? = some k/\g.2=k.map sI:=by
     obtain⟨k,hk,ek⟩:=f9.mp eg;show#[k,hk,ek.symm]
    have Lk:=L.l k (mv hk);have z0:∀n∈k,0<=n:=fun n m=>(Lk.1 n m).1;have gg:=(sT.trans sJ) _ _ (q2 g mg);rw[ek,fM]at gg;show#[_,rfl,_,rfl,.inl #[g.1,k.map uw,l,rfl,by rwa[nj z0],zx Lk.1,by rw[aB];exact Lk.2,fun D2 J2 hD2 s2 g2=>?_]];rw[vq z0]at g2;have nd:D2≠d:=fun z=>by rw[z,gJ]at hD2;cases hD2
    show#[s2 _ _ gJ,bs++[D2],by rw[bB];rfl,#[by rw[cj,lb];rfl,lt],fun j b l e1 e2=>?_,fun b m=>?_,aj,fun b o e=>?_]
    ·by_cases hj:j<bs.length
     ·rw[Gn hj]at e1;rw[ao (nb b (mv e1)).1];exact s2 _ _ (cb j b l e1 e2)
     ·rw[Gm (by lia)]at e1;have ji:j=i:=by
       have:=(fO.mp e1).1;have:([D2]:List Addr).length=1:=rfl;lia
      rw[show j-bs.length=0 by lia]at e1;rw[ji]at e2;have e1:D2=b:=bK e1;rw[hk]at e2;obtain⟨rfl⟩:=bK e2;rwa[<-e1,ao nd]
    ·walk_at "C"
     ·exact nb b m
     ·rw[eY.mp m];show#[nd,sJ.free hD2]
    ·rw[ao (ak e hd)];exact s2 _ _ (sJ _ _ e)
   ·rintro ys J ⟨bs,rfl,⟨lb,il⟩,cb,nb,gJ,sJ⟩;rw[aB,dl]at lb il;have lb:bs.length=y.ls.length:=lb;have oJ:=(sT.trans sJ) _ _ o3
    k_dat (x.dx,oJ,T.mR,T.Vy) "v"
    rw[RZ];have R:RnX A (upd J p (rgO A x y d)) p #[x.dx,d,bs,y.r,y.tt,y.ov,y.un,y.tn,y.mi,y.ma,y.ls]:=#[by rw[er];exact aj,ig oJ gJ,lb,fun i b l e1 e2=>ig oJ (cb i b l e1 e2),fun m=>(nb d m).1 rfl];have b4:=b3;have hf:∀c,G4 c=none->H c=none:=fun c hc=>uR b4 hc fun z=>by
     rw[z,sT _ _ o3]at hc;cases hc
    replace b:=(b4.trans (sJ.but p)).trans (But.upd (p:=p) (H:=J) (o:=rgO A x y d));show#[_,rfl,p,_,rfl,R,L.k,by rwa[er],L.w,fun b1 H' hb s'=>#[_,rfl,l,b1,rfl,?_]];rcases out with⟨S,q⟩|⟨S,q⟩
    ·obtain rfl:=hb.mpr S;exact q d bs H' (hf d hd) (fun b m=>hf b (nb b m).2) (R.same s') (b.trans (s'.but p))
    ·cases b1
     ·exact q.imp fun _ s2=>b.trans ((s'.trans s2).but p)
     ·exact absurd (hb.mp rfl) S
   ·rintro σ H R R' hq ⟨v,e,w,e2,h⟩;show#[v,e,w,e2,h.imp (fun h=>?_) id];obtain⟨a,ns,l,en,h1,h2,h3,q⟩:=h;show#[a,ns,l,en,h1,h2,h3,fun D H' hD s hH=>hq _ _ (q D H' hD s hH)]
open MK
theorem abz:∀(bs:List WN.Box)(j:Nat),(bs.flatMap bI)[3*j]? = bs[j]?.map (·.f)/\(bs.flatMap bI)[3*j+1]? = bs[j]?.map (·.l)/\(bs.flatMap bI)[3*j+2]? = bs[j]?.map (·.s)
 |[],_=>#[rfl,rfl,rfl]
 |_::_,0=>#[rfl,rfl,rfl]
 |_::bs,j+1=>abz bs j
theorem Z7{c:Int}{bs:List WN.Box}{k:Nat}{f:WN.Box->Int}(hk:k=1\/k=2\/k=3)(h:∀j,(bs.flatMap bI)[3*j+(k-1)]? = bs[j]?.map f):uQ 3 ((c::bs.flatMap bI).map V.int) (some (k:Int)) none=bs.map fun b=>V.int (f b):=by
 rw[cut_3 (m:=bs.length) (by rw[aB,cJ,xW];lia) hk];have e:(fun j=>(((c::bs.flatMap bI).map V.int)[k+3*j]?:Option V))=fun j=>bs[j]?.map fun b=>V.int (f b):=by
  funext j
  rw[cB,show k+3*j=3*j+(k-1)+1 by lia,WK,h,HN];rfl
 rw[e,SN]
theorem ahM:∀bs:List WN.Box,aaV (bs.map fun b=>V.int b.f) (bs.map fun b=>V.int b.l) (bs.map fun b=>V.int b.s)=bs.map fun b=>[.int b.f,.int b.l,.int b.s]
 |[]=>rfl
 |_::bs=>congrArg (_ :: ·) (ahM bs)
theorem abA{α β γ:Type}(f:α->γ):∀(l:List α)(m:List β),l.length=m.length->(l.zip m).map (fun p=>f p.1)=l.map f
 |[],_,_=>rfl
 |_::_,[],h=>nomatch h
 |a::l,b::m,h=>congrArg (f a :: ·) (abA f l m (Ii h))
theorem abB{α β:Type}:∀(l:List α)(m:List β),l.length=m.length->(l.zip m).map (·.2)=m
 |[],[],_=>rfl
 |[],_::_,h=>nomatch h
 |_::_,[],h=>nomatch h
 |_::l,b::m,h=>congrArg (b :: ·) (abB l m (Ii h))
def spRW(A:Ad):Sp:=fun vs H Q E=>Ex8 fun(p a:Addr) (l:Int) (dx l0:Addr) (r k c0:Int)=>Ex3 fun(c:Int) (ps:List Bp) (bs:List WN.Box)=>And8 (vs=[.ref p,.ref a,.int l]) (Wn A H p dx l0 r k c0 ps) (H a=some (.lst ((c::bs.flatMap bI).map fun n=>V.str (sI n)))) ((∀n∈c::bs.flatMap bI,0<=n/\n<10 ^ 60)) (bs.length<=200) (0<=r) (r<=64) ((((Pl c k 0 bs/\Su r 0 0 bs.reverse)/\∀d ps' H',bx ps'=bs->H d=none->(∀p∈ps',H p.1=none)->Wn A H' p dx d r k c ps'->But p H H'->Q .non H')\/¬ (Pl c k 0 bs/\Su r 0 0 bs.reverse)/\Bt A l E (But p H)))
theorem KD(T:Tx K mg A):FnK P w base T.pJ (CXE P w) 9 (spRW A):=by
 k_dat (T.pJ,T.pJ.okE,vh) "g"
 ·obtain⟨_,_,_,_,_,_,_,_,_,_,_,rfl,_⟩:=h;rfl
 ·obtain⟨p,a,l,dx,l0,r,k,c0,c,ps,bs,rfl,hw,ha,hn,few,r0,r64,q⟩:=h;show#[_,by k_dat ([M7],[vh.nd,aC (fB T) ?_,aC (jk T) ?_,Vb rfl rfl T.alY rfl T.ahv ?_,aC (Fv T) ?_],[]) "p",?_];have n0:∀n∈c::bs.flatMap bI,0<=n:=fun n m=>(hn n m).1;have nl:(c::bs.flatMap bI).length=1+3*bs.length:=by rw[cJ,xW];lia
  show#[_,rfl,_,rfl,.inl #[a,(c::bs.flatMap bI).map uw,l,rfl,by rwa[nj n0],zx hn,by rw[aB,nl];lia,fun D G hD sG gD=>?_]];rw[vq n0]at gD;have sD:SqL K G D ((c::bs.flatMap bI).map V.int):=.inl (.inl gD);show#[_,rfl,cQ sD #[_,_,rfl,rfl,(by show(0:Int)<3;decide),rfl,_,rfl,l,true,?_,?_]]
  ·rw[decide_eq_true (congrArg V.int (show((((c::bs.flatMap bI).map V.int).length:Nat):Int) % 3=1 by rw[aB,nl];lia))];rfl
  have o:=sG _ _ hw.o;have b:=sG.but p;show#[_,rfl,aH sD (v:=.int c) (bR (j:=0) rfl) #[_,rfl,p,_,dx,_,rfl,o,T.Lq,T.Vz,tb_g%,?_]];rw[R4];have g1:=ig (o:=.ins A.C'1 dx (wf (.int r) (.int k) (.int c) (.ref l0))) o gD;have o1:(upd G p (.ins A.C'1 dx (wf (.int r) (.int k) (.int c) (.ref l0)))) p=_:=aj;replace b:=b.trans (But.upd (p:=p) (H:=G) (o:=.ins A.C'1 dx (wf (.int r) (.int k) (.int c) (.ref l0))));generalize upd G p (.ins A.C'1 dx (wf (.int r) (.int k) (.int c) (.ref l0)))=G1 at g1 o1 b ⊢;show#[_,rfl,1,rfl,3,rfl,3,rfl,by decide,D,_,rfl,.inl (.inl g1),fun t ht=>?_];rw[show uQ 3 ((c::bs.flatMap bI).map V.int) (some 1) none=bs.map fun b=>V.int b.f from Z7 (k:=1) (.inl rfl) fun j=>(abz bs j).1]
  k_dat (nwA ht,G2,sT,t2) "n"
  show#[_,rfl,2,rfl,3,rfl,3,rfl,by decide,D,_,rfl,.inl (.inl (sT _ _ g1)),fun u hu=>?_];rw[show uQ 3 ((c::bs.flatMap bI).map V.int) (some 2) none=bs.map fun b=>V.int b.l from Z7 (k:=2) (.inr (.inl rfl)) fun j=>(abz bs j).2.1]
  k_dat (nwA hu,G3,sU,u2) "n"
  show#[_,rfl,3,rfl,3,rfl,3,rfl,by decide,D,_,rfl,.inl (.inl (sU _ _ (sT _ _ g1))),fun v hv=>?_];rw[show uQ 3 ((c::bs.flatMap bI).map V.int) (some 3) none=bs.map fun b=>V.int b.s from Z7 (k:=3) (.inr (.inr rfl)) fun j=>(abz bs j).2.2]
  k_dat (nwA hv,G4,sV,v2) "n"
  show#[t,u,v,_,_,_,rfl,sV _ _ (sU _ _ t2),sV _ _ u2,v2,by rw[aB,aB],by rw[aB,aB],fun d ts hd ht nt lt=>?_];rw[ahM];rw[aB]at lt;have s4:=sT.trans (sU.trans sV);have hf:∀e,G4 e=none->H e=none:=fun e he=>uR (b.trans (s4.but p)) he fun z=>by
   rw[z,s4 _ _ o1]at he;cases he
  have sE:Same G4 (upd (DR G4 ts (bs.map fun b=>[.int b.f,.int b.l,.int b.s])) d (.lst (ts.map V.ref))):=fun e o he=>by
   rwa[ao (ak he hd),Jy fun m=>by rw[(ht e m).1]at he;cases he]
  have d2:Bxs (upd (DR G4 ts (bs.map fun b=>[.int b.f,.int b.l,.int b.s])) d (.lst (ts.map V.ref))) d (ts.zip bs):=by
   show#[by rw[abA V.ref _ _ lt];exact aj,fun z m=>?_];obtain⟨i,hi⟩:=Gx m;rw[Gq]at hi;rw[ao (ht z.1 (mv hi.1)).2];exact aaU nt hi.1 (by rw[cB,hi.2];rfl)
  generalize upd (DR G4 ts (bs.map fun b=>[.int b.f,.int b.l,.int b.s])) d (.lst (ts.map V.ref))=G5 at sE d2 ⊢;have o5:=(s4.trans sE) _ _ o1
  k_dat (dx,o5,T.Lq,T.VB) "v"
  rw[R5]
  k_dat (nbA,G6,zG6,fG6) "n"
  have W:Wn A G6 p dx d r k c (ts.zip bs):=#[fG6,d2.but zG6 o5];replace b:=(b.trans ((s4.trans sE).but p)).trans zG6;have eb:bx (ts.zip bs)=bs:=abB _ _ lt;show#[_,rfl,p,dx,d,r,k,c,_,rfl,W,r0,r64,fun b1 hb=>#[_,rfl,l,b1,rfl,?_]];rw[eb]at hb;rcases q with⟨h,q⟩|⟨h,q⟩
  ·obtain rfl:=hb.mpr h;exact q d _ G6 eb (hf d hd) (fun z m=>hf _ (ht z.1 (NZ m).1).1) W b
  ·cases b1
   ·exact q.imp fun _ s2=>b.trans (s2.but p)
   ·exact absurd (hb.mp rfl) h
def spRD(A:Ad):Sp:=fun vs H Q E=>Ex8 fun(p a:Addr) (l:Int) (dx l0:Addr) (r n0 v0:Int)=>Ex4 fun(n v:Int) (ks0 ks:List Int)=>V1 (vs=[.ref p,.ref a,.int l]) (Dn A H p dx l0 r n0 v0 ks0) (H a=some (.lst (([n,v]++ks).map fun n=>V.str (sI n)))) ((∀m∈[n,v]++ks,0<=m/\m<10 ^ 60)) (ks.length<=400) (((Sdi r n v ks/\∀d H',H d=none->Dn A H' p dx d r n v ks->But p H H'->Q .non H')\/¬ Sdi r n v ks/\Bt A l E (But p H)))
theorem CG(T:Tx K mg A):FnK P w base T.jW (CXE P w) 9 (spRD A):=by
 k_dat (T.jW,T.jW.okE,qw) "g"
 ·obtain⟨_,_,_,_,_,_,_,_,_,_,_,_,rfl,_⟩:=h;rfl
 ·obtain⟨p,a,l,dx,l0,r,n1,v1,n,v,ks0,ks,rfl,hd,ha,hn,lr,q⟩:=h;show#[_,by k_dat ([],[qw.nd,aC (fB T) ?_,aC (jk T) ?_,aC (zu T) ?_],[]) "p",?_];have n0:∀m∈[n,v]++ks,0<=m:=fun m h=>(hn m h).1;have nl:([n,v]++ks).length=2+ks.length:=by rw[cj];rfl
  show#[_,rfl,_,rfl,.inl #[a,([n,v]++ks).map uw,l,rfl,by rwa[nj n0],zx hn,by rw[aB,nl];lia,fun D G hD sG gD=>?_]];rw[vq n0]at gD;have sD:SqL K G D (([n,v]++ks).map V.int):=.inl (.inl gD);show#[_,rfl,cQ sD #[_,_,rfl,rfl,_,rfl,l,true,?_,?_]]
  ·show[V.bl (decide ((((([n,v]++ks).map V.int).length:Nat):Int)>=2)),_]=_;rw[decide_eq_true (by rw[aB,nl];lia)]
  have o:=sG _ _ hd.o;have b:=sG.but p;show#[_,rfl,aH sD (v:=.int n) (bR (j:=0) rfl) #[_,rfl,p,_,dx,_,rfl,o,T.JV,T.VD,tb_g%,?_]];rw[Fb];show#[_,rfl,aH (.inl (.inl (ig o gD))) (v:=.int v) (bR (j:=1) rfl) #[_,rfl,p,_,dx,_,rfl,aj,T.JV,T.VF,tb_g%,?_]];rw[cV,R6];have g1:=ig (o:=.ins A.C'2 dx (df (.int r) (.int n) (.int v) (.ref l0))) o gD;have o1:(upd G p (.ins A.C'2 dx (df (.int r) (.int n) (.int v) (.ref l0)))) p=_:=aj;replace b:=b.trans (But.upd (p:=p) (H:=G) (o:=.ins A.C'2 dx (df (.int r) (.int n) (.int v) (.ref l0))));generalize upd G p (.ins A.C'2 dx (df (.int r) (.int n) (.int v) (.ref l0)))=G1 at g1 o1 b ⊢;show#[_,rfl,2,rfl,D,_,rfl,.inl (.inl g1),fun d hd=>?_];rw[show pC (([n,v]++ks).map V.int) (some 2) none=ks.map V.int from Jp (n:=2) (by rw[aB,nl];lia)];have nd:H d=none:=uR b hd fun z=>by rw[z,o1]at hd;cases hd
  k_dat (nwA hd,G2,sE,d2) "n"
  have o2:=sE _ _ o1
  k_dat (dx,o2,T.JV,T.VG) "v"
  rw[V5];have W:Dn A (upd G2 p (.ins A.C'2 dx (df (.int r) (.int n) (.int v) (.ref d)))) p dx d r n v ks:=#[aj,ig o2 d2];replace b:=(b.trans (sE.but p)).trans (But.upd (p:=p) (H:=G2) (o:=.ins A.C'2 dx (df (.int r) (.int n) (.int v) (.ref d))));generalize upd G2 p (.ins A.C'2 dx (df (.int r) (.int n) (.int v) (.ref d)))=G3 at W b ⊢;show#[_,rfl,p,dx,d,r,n,v,ks,rfl,W,by lia,fun b1 H' hb s'=>#[_,rfl,l,b1,rfl,?_]];rcases q with⟨h,q⟩|⟨h,q⟩
  ·obtain rfl:=hb.mpr h;exact q d H' nd (W.same s') (b.trans (s'.but p))
  ·cases b1
   ·exact q.imp fun _ s2=>b.trans ((s'.trans s2).but p)
   ·exact absurd (hb.mp rfl) h
def spRB(A:Ad):Sp:=fun vs H Q E=>Ex3 fun(p a:Addr) (l:Int)=>vs=[.ref p,.ref a,.int l]/\((∃ws:List V,H a=some (.lst ws)/\ws.length≠4/\Bt A l E (Same H))\/∃(dx l0:Addr)(sp:Int)(q0 q:Q4),H a=some (.lst ((L4 q).map fun n=>V.str (sI n)))/\(∀n∈L4 q,n.natAbs<10 ^ 60)/\Bn A H p dx l0 sp q0/\∀d H',H d=none->Bn A H' p dx d sp q->But p H H'->Q .non H')
theorem SX(T:Tx K mg A):FnK P w base T.vd (CXE P w) 9 (spRB A):=by
 k_dat (T.vd,T.vd.okE,RN) "g"
 ·obtain⟨_,_,_,rfl,_⟩:=h;rfl
 ·obtain⟨p,a,l,rfl,h⟩:=h;show#[_,by k_dat ([eZ],[aC (jk T) ?_],[Bu xwUp [("line",s.heap.objs.size+1)] Q3 [2] ?_ (fun _ _ _ _=>eO) (fun _ _ _ _=>(aC (Sy T) (aP (pv 0) (aP (pv 1) dB))))]) "p",?_];rcases h with⟨ws,ha,n4,q⟩|⟨dx,l0,sp,q0,q4,ha,hn,hb,q⟩
  ·show#[_,rfl,cQ (.inl (.inl ha)) #[rfl,_,rfl,l,false,?_,q]];rw[decide_eq_false (by intro z;have:=V.int.inj z;lia)];rfl
  have sa:SqL K H a ((L4 q4).map fun n=>V.str (sI n)):=.inl (.inl ha);have l4:((L4 q4).map fun n=>V.str (sI n)).length=4:=rfl;show#[_,rfl,cQ sa #[rfl,_,rfl,l,true,by rw[l4];rfl,?_]];show#[_,rfl,a,rfl,#[_,sa],fun D hD=>?_];refine eX (K:=K) (a:=a) (xs:=(L4 q4).map fun n=>V.str (sI n)) (fun i ys G=>ys=((L4 q4).take i).map V.int/\G D=some (.lst ys)/\Same H G) #[rfl,aj,Same.new hD] ?_ ?_ ?_ ?_
  ·rintro i ys G hi ⟨rfl,gD,sG⟩;show#[.inl (.inl (sG _ _ ha)),gD,aL (by rw[aB,fJ];exact bW (Nat.min_le_right _ _) (show 4<=1000 by decide))]
  ·rintro i ys G x hx ⟨rfl,gD,sG⟩;rw[cB]at hx;obtain⟨n,hi,rfl⟩:=f9.mp hx;show#[_,rfl,_,rfl,_,l,rfl,.inl #[n,rfl,hn n (mv hi),fun G1 s1=>#[s1 _ _ gD,by rw[iu,hi,bB];rfl,aj,fun b o e=>?_]]];rw[ao (ak e hD)];exact s1 _ _ (sG b o e)
  ·rintro ys G ⟨rfl,gD,sG⟩;have gD:G D=some (.lst ((L4 q4).map V.int)):=gD;have o:=sG _ _ hb.o
   k_dat (dx,o,T.cl'4,T.VN) "v"
   rw[V7];exact q D _ hD #[aj,ig o gD] ((sG.but p).trans But.upd)
  ·rintro σ H R R' hr ⟨v,e,w,e2,z,l,en,h⟩;show#[v,e,w,e2,z,l,en,h.imp (fun h=>?_) id];obtain⟨n,e,hn,q⟩:=h;show#[n,e,hn,fun H1 s1=>hr _ _ (q H1 s1)]
open MK
abbrev nl1:Str:=aD "\n"
theorem amj:sp1=#[[32].toArray]:=by decide +kernel
theorem amk:nl1=#[[10].toArray]:=by decide +kernel
structure Gb(t:Str):Prop where
 s:32∉cL t
 n:10∉cL t
theorem ajM{cs:List Char}(h:∀c∈cs.map lZ,45<=c):Gb (Dec.tx cs):=by
 have k:∀c,c<45->c∉cL (Dec.tx cs):=fun c hc m=>by
  unfold cL at m;rw[Dec.oH]at m;have:=h c m;lia
 show#[k 32 tb_g%,k 10 tb_g%]
theorem gb_i(n:Int):Gb (sI n):=by
 have g:∀m:Nat,∀c∈(Dec.dg m).map lZ,45<=c:=fun m c h=>by
  have:=Dec.QZ m c h;lia
 unfold sI;by_cases z:n<0
 ·rw[show n = -(n.natAbs:Int) by lia,Dec.yL (by lia)];refine ajM fun c m=>?_;rw[dM]at m
  walk_at "G"
  ·decide
  ·exact g _ c m
 ·rw[show n=(n.toNat:Int) by lia,Dec.lG];exact ajM (g _)
theorem Du{ns:List Int}:∀u∈ns.map sI,Gb u:=fun u m=>by
 obtain⟨n,_,rfl⟩:=fL.mp m;exact gb_i n
abbrev Zs:=List (Str × List Str)
def lns(zs:Zs):List Str:=zs.map fun z=>ln z.1 z.2
noncomputable def zsK(x:KS):Zs:=[(aD "keep",([x.room,x.reach,x.span]:List Int).map sI),(aD "came",(fN x.cm).map sI),(aD "went",(fN x.wn).map sI),(aD "up",rT x.up.x),(aD "down",rT x.dn.x),(aD "window",(x.wi.c::(bx x.wi.ps).flatMap bI).map sI),(aD "seen",([x.di.n,x.di.v]++srt (My.up x.di.v x.di.C)).map sI),(aD "sums",(L4 x.ba.q).map sI)]
theorem lk(x:KS):m9 x=lns (zsK x):=rfl
def Gz(zs:Zs):Prop:=∀z∈zs,(∀u∈z.1::z.2,Gb u)/\z.1.length<=16/\(z.2.map (·.length)).sum+z.2.length<=96000
theorem zl0{zs:Zs}(gz:Gz zs){k:Nat}{z:Str × List Str}(h:zs[k]? = some z):oZ (bQ sp1 (z.1::z.2)) sp1=z.1::z.2/\(bQ sp1 (z.1::z.2)).length<=1048576:=by
 obtain⟨g1,g2,g3⟩:=gz z (mv h);show#[by rw[amj];exact Jt (iw _ _) fun u m=>(g1 u m).s,?_];have:=j4 g2 g3;unfold ln at this;lia
theorem abC{zs:Zs}(g:Gz zs)(ne:zs≠[]):oZ (bQ nl1 (lns zs)) nl1=lns zs:=by
 rw[amk];refine Jt (fun e=>ne (Nz.mp e)) fun t m=>?_;obtain⟨z,mz,rfl⟩:=fL.mp m;have g1:=(g z mz).1;show 10∉cL (bQ sp1 (z.1::z.2));rw[vR];intro m
 walk_at "C"
 ·exact(g1 _ bV).n m
 ·obtain⟨u,mu,m⟩:=NT.mp m
  walk_at "C"
  ·exact absurd m tb_g%
  ·exact(g1 u (cR _ mu)).n m
theorem text_len{zs:Zs}(g:Gz zs)(h:zs.length<=9):(bQ nl1 (lns zs)).length<=1048576:=by
 have h1:=uO nl1 (lns zs);have h2:nl1.length=1:=by decide +kernel
 have h3:∀zs:Zs,Gz zs->((lns zs).map (·.length)).sum<=96017*zs.length:=by
  intro zs
  induction zs with
  |nil=>intro _;exact aO _
  |cons z zs ih =>
   intro g;have k1:=ih fun y m=>g y (cR _ m);have k2:=j4 (g z bV).2.1 (g z bV).2.2;show(ln z.1 z.2).length+((lns zs).map (·.length)).sum<=96017*(zs.length+1);lia
 have h4:=h3 zs g;have h5:(lns zs).length=zs.length:=aB _;rw[h2,h5]at h1;lia
structure Sf(room:Nat)(f:Fq):Prop where
 n:∀n∈fN f,0<=n/\n<10 ^ 60
 s:SFc room f.t f.l (gK f.c)
structure Sd(x:KS):Prop where
 kx:Kx x
 k:Bd x.room x.reach x.span
 k8:x.room<64
 cm:Sf x.room x.cm
 wn:Sf x.room x.wn
 up:Rl x.up.x
 ur:x.up.x.r=x.room
 dn:Rl x.dn.x
 dr:x.dn.x.r=x.room
 wn1:∀n∈x.wi.c::(bx x.wi.ps).flatMap bI,0<=n/\n<10 ^ 60
 wp:Pl x.wi.c x.reach 0 (bx x.wi.ps)/\Su x.room 0 0 (bx x.wi.ps).reverse
 dn1:∀n∈[x.di.n,x.di.v]++srt (My.up x.di.v x.di.C),0<=n/\n<10 ^ 60
 ds:Sdi x.room x.di.n x.di.v (srt (My.up x.di.v x.di.C))
 ba:∀n∈L4 x.ba.q,n.natAbs<10 ^ 60
noncomputable def rdK(x:KS):KS:={ x with cm:={ x.cm with c:=gK x.cm.c },wn:={ x.wn with c:=gK x.wn.c } }
theorem mm{ns:List Int}{H:Hp}{a:Addr}(h:H a=some (.lst ((ns.map sI).map V.str))):H a=some (.lst (ns.map fun n=>V.str (sI n))):=by
 rwa[fM]at h
theorem d8{H G J:Hp}{p:Addr}(s:Same H G)(n:H p=none)(b:But p G J):Same H J:=fun c o e=>b c o (s c o e) (ak e n)
theorem vU{zs:Zs}(gz:Gz zs){k:Nat}{z:Str × List Str}(h:zs[k]? = some z):(lns zs)[k]? = some (bQ sp1 (z.1::z.2))/\oZ (bQ sp1 (z.1::z.2)) sp1=z.1::z.2/\(bQ sp1 (z.1::z.2)).length<=1048576:=
 #[by unfold lns;rw[cB,h];rfl,zl0 gz h]
abbrev N6(ns:List Int):Prop:=∀n∈ns,0<=n/\n<10 ^ 60
def Fk(ws:List Str):Prop:=∃a b c:Int,ws=[a,b,c].map sI/\N6 [a,b,c]/\¬ Bd a b c
def Ff(r:Nat)(ws:List Str):Prop:=∃(c:Tab)(t l:Int),ws=([t,l]++pN c).map sI/\N6 ([t,l]++pN c)/\c.length<=400/\¬ SFc r t l c
def Fr(r:Nat)(ws:List Str):Prop:=∃y:Rs,ws=rT y/\ws.length<=9000/\N6 (rN y)/\(∀l∈y.ls,N6 l/\l.length<=900)/\y.ls.length<=900/\((y.tt=0/\(rN y).length≠4)\/y.r=r/\(y.tt=0->y.mi=none/\y.ma=none)/\(y.tt≠0->∃lo hi,y.mi=some lo/\y.ma=some hi)/\¬ Sro y)
def Fx(r:Nat)(k:Int)(ws:List Str):Prop:=∃(c:Int)(bs:List WN.Box),ws=(c::bs.flatMap bI).map sI/\N6 (c::bs.flatMap bI)/\bs.length<=200/\¬ (Pl c k 0 bs/\Su r 0 0 bs.reverse)
def Fdi(r:Nat)(ws:List Str):Prop:=∃(n v:Int)(ks:List Int),ws=([n,v]++ks).map sI/\N6 ([n,v]++ks)/\ks.length<=400/\¬ Sdi r n v ks
def Fw(r:Nat)(k:Int):Nat->List Str->Prop
 |0,ws=>Fk ws
 |1,ws=>Ff r ws
 |2,ws=>Ff r ws
 |3,ws=>Fr r ws
 |4,ws=>Fr r ws
 |5,ws=>Fx r k ws
 |6,ws=>Fdi r ws
 |7,ws=>ws.length≠4
 |_,_=>False
structure Fau(y:KS)(k:Nat)(zs:Zs):Prop where
 p:∀i,i<k->zs[i]? = (zsK y)[i]?
 l:k<8
 f:∃z z0,zs[k]? = some z/\(zsK y)[k]? = some z0/\z.1=z0.1/\Fw y.room y.reach k z.2
def Ou(y:KS)(zs:Zs)(G:Prop)(B:Nat->Prop)(n:Nat):Prop:=(zs=zsK y/\G)\/∃k,n<=k/\Fau y k zs/\B k
theorem Ou.step{y:KS}{zs:Zs}{G:Prop}{B:Nat->Prop}{n:Nat}(h:Ou y zs G B n):(zs[n]? = (zsK y)[n]? /\ Ou y zs G B (n+1))\/((∃z z0,zs[n]? = some z/\(zsK y)[n]? = some z0/\z.1=z0.1/\Fw y.room y.reach n z.2)/\B n):=by
 rcases h with⟨rfl,g⟩|⟨k,nk,f,b⟩
 ·exact .inl #[rfl,.inl #[rfl,g]]
 ·by_cases lt:n<k
  ·exact .inl #[f.p n lt,.inr #[k,lt,f,b]]
  ·obtain rfl:k=n:=by lia
   exact .inr #[f.f,b]
theorem Ou.last{y:KS}{zs:Zs}{G:Prop}{B:Nat->Prop}(h:Ou y zs G B 8):zs=zsK y/\G:=by
 rcases h with h|⟨k,nk,f,b⟩
 ·exact h
 ·have:=f.l;lia
theorem ajN{r:Nat}{a b:Int}(h1:0<=a)(h2:0<=b):Bd (r:Int) (a.toNat:Int) (b.toNat:Int)↔Bd r a b:=by rw[yr h1,yr h2]
def spRd(A:Ad):Sp:=fun vs H Q E=>Ex2 fun(zs:Zs) (y:KS)=>V0 (vs=[.str (bQ nl1 (lns zs))]) (Gz zs) ((zs≠[]/\zs.length<=9)) (Sd y) (Ou y zs (∀(x:KS)(H':Hp),Kp A H' x->Eqp x (rdK y)->(∀b∈x.all,H b=none)->(∀b∈x.ems,H b=none)->Same H H'->Q (.ref x.k) H') (fun k=>Bt A (k+1:Nat) E (Same H)) 0)
theorem qF(T:Tx K mg A):FnK P w base T.dW (CXE P w) 11 (spRd A):=by
 k_dat (T.dW,T.dW.okE,qy) "g"
 ·obtain⟨_,_,rfl,_⟩:=h;rfl
 ·obtain⟨zs,y,rfl,gz,⟨nz,l9⟩,S,ou⟩:=h;have few:(lns zs).length<=900:=by unfold lns;rw[aB];lia
  have r8:=S.k8;have lk:∀f:Fq,Sf y.room f->(gK f.c).length<=400:=fun f s=>by
   have:=s.s.2.1;unfold keys at this;rw[aB]at this;lia
  obtain⟨_,ajd,aje⟩:=T.aiS;show#[_,by k_dat ([],[qy.nd,jy uq Yo Yp Js ?_ ?_,aC (Wg T) ?_,aC (SQ T) ?_,aC (Cz T) ?_,aC (LQ T) ?_,aC (KD T) ?_,aC (CG T) ?_,aC (SX T) ?_,aC (jk T) ?_],[cW (v:=.int 8) rfl ajd aje]) "p",?_];refine sq fun R hR=>#[_,rfl,rfl,_,_,rfl,rfl,by decide +kernel,text_len gz l9,fun D hD=>?_];rw[abC gz nz]
  k_dat (nwA hD,H1,s0,lD) "n"
  refine hR _ _ (sq fun R hR=>#[_,rfl,D,lns zs,0,aD "keep",rfl,lD,few,?_]);obtain⟨S1,S2,S3,S4,S5,S6,S7⟩:=S.k
  walk_at "o"
  rotate_left
  ·have bt:=bt.same s0;have wa:=vU gz ez;obtain rfl:=bK e0
   walk_at "l"
   obtain⟨a,b,c,ew,hn,nb⟩:=fw;rw[ew]at wJ;have a0:=hn a (by simp);have b0:=hn b (by simp);have c0:=hn c (by simp);show#[W,1,a.toNat,b.toNat,c.toNat,rfl,?_,#[by lia,by lia,by lia],.inr #[fun z=>nb ?_,bt.same sJ]]
   ·exact(mm wJ).trans (congrArg (fun l=>some (HO.lst l)) (nj (ns:=[a,b,c]) (fun n m=>(hn n m).1)).symm)
   ·rwa[ajN b0.1 c0.1,yr a0.1]at z
  have wa:=vU gz e
  walk_at "k"
  clear wa e;show#[W,1,y.room,y.reach.toNat,y.span.toNat,rfl,?_,#[by lia,by lia,by lia],.inl #[(ajN (by lia) (by lia)).mpr S.k,fun x G kG eq0 fr _ sG=>?_]]
  ·exact(mm wJ).trans (congrArg (fun l=>some (HO.lst l)) (nj (ns:=[(y.room:Int),y.reach,y.span]) (by simp;lia)).symm)
  have fr:=fun b m=>sJ.free (fr b m);replace sG:=sJ.trans sG;clear sJ nW wJ;obtain⟨k,dk,room,reach,span,cm,wn,up,dn,wi,di,ba⟩:=x;obtain rfl:room=y.room:=eq0.room;obtain rfl:reach=y.reach:=eq0.reach.trans (yr (by lia));obtain rfl:span=y.span:=eq0.span.trans (yr (by lia));obtain⟨-,-,-,-,-,eu,ed,-,-,-⟩:=eq0;have eur:up.x.r=y.room:=eu.r;have edr:dn.x.r=y.room:=ed.r;have rxu:0<=up.x.r/\up.x.r<64:=by rw[eur];lia
  have rxd:0<=dn.x.r/\dn.x.r<64:=by rw[edr];lia
  refine hR _ _ (sq fun R hR=>#[_,rfl,rdG kG.o (abp T) #[_,rfl,D,lns zs,1,aD "came",rfl,sG _ _ lD,few,?_]])
  walk_at "o"
  rotate_left
  ·skip
   have wa:=vU gz ez;obtain rfl:=bK e0
   walk_at "l"
   have kJ:=kG.same sJ
   k_dat (cm.p,1) "i"
   obtain⟨c,t,l,ew,hn,cl,nb⟩:=fw;rw[ew]at wJ;show#[cm,W,2,c,t,l,y.room,rfl,kJ.cm,mm wJ,hn,cl,by lia,.inr #[nb,btB]]
  have wa:=vU gz e
  walk_at "k"
  clear wa e;have kJ:=kG.same sJ;show#[cm,W,2,gK y.cm.c,y.cm.t,y.cm.l,y.room,rfl,kJ.cm,mm wJ,S.cm.n,lk _ S.cm,by lia,.inl #[S.cm.s,fun d G2 hF bF=>?_]]
  k_dat 1 "q"
  have kG2:=(kJ.pp.setC (f:=#[cm.p,cm.dx,d,y.cm.t,y.cm.l,gK y.cm.c]) rfl bF hF).kp (bF _ _ kJ.o (Kp.ap kJ).k1) kJ.nk
  skip
  clear kG sG kJ sJ wJ nW bF hF;have kG:=kG2;have sG:=sG2;clear kG2 sG2;dsimp only at kG;refine hR _ _ (sq fun R hR=>#[_,rfl,rdG kG.o (abq T) #[_,rfl,D,lns zs,2,aD "went",rfl,sG _ _ lD,few,?_]])
  walk_at "o"
  rotate_left
  ·skip
   have wa:=vU gz ez;obtain rfl:=bK e0
   walk_at "l"
   have kJ:=kG.same sJ
   k_dat (wn.p,2) "i"
   obtain⟨c,t,l,ew,hn,cl,nb⟩:=fw;rw[ew]at wJ;show#[wn,W,3,c,t,l,y.room,rfl,kJ.wn,mm wJ,hn,cl,by lia,.inr #[nb,btB]]
  have wa:=vU gz e
  walk_at "k"
  clear wa e;have kJ:=kG.same sJ;show#[wn,W,3,gK y.wn.c,y.wn.t,y.wn.l,y.room,rfl,kJ.wn,mm wJ,S.wn.n,lk _ S.wn,by lia,.inl #[S.wn.s,fun d G2 hF bF=>?_]]
  k_dat 2 "q"
  have kG2:=(kJ.pp.setW (f:=#[wn.p,wn.dx,d,y.wn.t,y.wn.l,gK y.wn.c]) rfl bF hF).kp (bF _ _ kJ.o (Kp.ap kJ).k2) kJ.nk
  skip
  clear kG sG kJ sJ wJ nW bF hF;have kG:=kG2;have sG:=sG2;clear kG2 sG2;dsimp only at kG;refine hR _ _ (sq fun R hR=>#[_,rfl,rdG kG.o (ajG T) #[_,rfl,D,lns zs,3,aD "up",rfl,sG _ _ lD,few,?_]])
  walk_at "o"
  rotate_left
  ·skip
   have wa:=vU gz ez;obtain rfl:=bK e0
   walk_at "l"
   have kJ:=kG.same sJ
   k_dat (up.p,3) "i"
   obtain⟨w,ew,l9,hn,hl,k9,h⟩:=fw;show#[up.p,up.x,W,4,z.2,w,rfl,kJ.up,#[eu.mi,eu.ma],wJ,l9,by rw[ew];exact Z6 hn hl,hn,h.elim (fun h=>.inl #[h.1,h.2,btB]) fun h=>.inr #[h.1.trans eur.symm,rxu,#[hl,h.2.1,h.2.2.1,k9],.inr #[h.2.2.2,btB]]]
  have wa:=vU gz e
  walk_at "k"
  clear wa e;have kJ:=kG.same sJ;show#[up.p,up.x,W,4,rT y.up.x,y.up.x,rfl,kJ.up,#[eu.mi,eu.ma],wJ,S.up.f,S.up.prt,S.up.n,.inr #[S.ur.trans eur.symm,rxu,S.up.rq,.inl #[S.up.s,fun du bu G2 nd nb hF bF=>?_]]]
  k_dat 3 "q"
  have kG2:=(kJ.pp.setU (f:=#[up.p,#[up.x.dx,du,bu,y.up.x.r,y.up.x.tt,y.up.x.ov,y.up.x.un,y.up.x.tn,y.up.x.mi,y.up.x.ma,y.up.x.ls]]) rfl bF hF).kp (bF _ _ kJ.o (Kp.ap kJ).k3) kJ.nk;have nu:=And.intro ((sG.trans sJ).free nd) fun b m=>(sG.trans sJ).free (nb b m);clear kG sG kJ sJ wJ nW bF nd nb hF;have kG:=kG2;have sG:=sG2;clear kG2 sG2;dsimp only at kG;refine hR _ _ (sq fun R hR=>#[_,rfl,rdG kG.o (abr T) #[_,rfl,D,lns zs,4,aD "down",rfl,sG _ _ lD,few,?_]])
  walk_at "o"
  rotate_left
  ·skip
   have wa:=vU gz ez;obtain rfl:=bK e0
   walk_at "l"
   have kJ:=kG.same sJ
   k_dat (dn.p,4) "i"
   obtain⟨w,ew,l9,hn,hl,k9,h⟩:=fw;show#[dn.p,dn.x,W,5,z.2,w,rfl,kJ.dn,#[ed.mi,ed.ma],wJ,l9,by rw[ew];exact Z6 hn hl,hn,h.elim (fun h=>.inl #[h.1,h.2,btB]) fun h=>.inr #[h.1.trans edr.symm,rxd,#[hl,h.2.1,h.2.2.1,k9],.inr #[h.2.2.2,btB]]]
  have wa:=vU gz e
  walk_at "k"
  clear wa e;have kJ:=kG.same sJ;show#[dn.p,dn.x,W,5,rT y.dn.x,y.dn.x,rfl,kJ.dn,#[ed.mi,ed.ma],wJ,S.dn.f,S.dn.prt,S.dn.n,.inr #[S.dr.trans edr.symm,rxd,S.dn.rq,.inl #[S.dn.s,fun dd bd G2 nd nb hF bF=>?_]]]
  k_dat 4 "q"
  have kG2:=(kJ.pp.setD (f:=#[dn.p,#[dn.x.dx,dd,bd,y.dn.x.r,y.dn.x.tt,y.dn.x.ov,y.dn.x.un,y.dn.x.tn,y.dn.x.mi,y.dn.x.ma,y.dn.x.ls]]) rfl bF hF).kp (bF _ _ kJ.o (Kp.ap kJ).k4) kJ.nk;have nv:=And.intro ((sG.trans sJ).free nd) fun b m=>(sG.trans sJ).free (nb b m);clear kG sG kJ sJ wJ nW bF nd nb hF;have kG:=kG2;have sG:=sG2;clear kG2 sG2;dsimp only at kG;refine hR _ _ (sq fun R hR=>#[_,rfl,rdG kG.o (Nu T) #[_,rfl,D,lns zs,5,aD "window",rfl,sG _ _ lD,few,?_]])
  walk_at "o"
  rotate_left
  ·skip
   have wa:=vU gz ez;obtain rfl:=bK e0
   walk_at "l"
   have kJ:=kG.same sJ
   k_dat (wi.p,5) "i"
   obtain⟨c,bs,ew,hn,fb,nb⟩:=fw;rw[ew]at wJ;show#[wi.p,W,6,wi.dx,wi.l,y.room,y.reach,wi.c,c,wi.ps,bs,rfl,kJ.wi,mm wJ,hn,fb,by lia,by lia,.inr #[nb,btB]]
  have wa:=vU gz e
  walk_at "k"
  clear wa e;have kJ:=kG.same sJ;show#[wi.p,W,6,wi.dx,wi.l,y.room,y.reach,wi.c,y.wi.c,wi.ps,bx y.wi.ps,rfl,kJ.wi,mm wJ,S.wn1,by rw[rQ];have:=S.kx.i2;lia,by lia,by lia,.inl #[S.wp,fun dw ps G2 eW nd nb hF bF=>?_]]
  k_dat 5 "q"
  have kG2:=(kJ.pp.setI (f:=#[wi.p,wi.dx,dw,y.wi.c,ps]) rfl bF hF).kp (bF _ _ kJ.o (Kp.ap kJ).k5) kJ.nk;have nw:=(sG.trans sJ).free nd;clear kG sG kJ sJ wJ nW bF nd nb hF;have kG:=kG2;have sG:=sG2;clear kG2 sG2;dsimp only at kG;refine hR _ _ (sq fun R hR=>#[_,rfl,rdG kG.o (Gg T) #[_,rfl,D,lns zs,6,aD "seen",rfl,sG _ _ lD,few,?_]])
  walk_at "o"
  rotate_left
  ·skip
   have wa:=vU gz ez;obtain rfl:=bK e0
   walk_at "l"
   have kJ:=kG.same sJ
   k_dat (di.p,6) "i"
   obtain⟨n,v,ks,ew,hn,fk,nb⟩:=fw;rw[ew]at wJ;show#[di.p,W,7,di.dx,di.l,y.room,di.n,di.v,n,v,_,ks,rfl,kJ.di,mm wJ,hn,fk,.inr #[nb,btB]]
  have wa:=vU gz e
  walk_at "k"
  clear wa e;have kJ:=kG.same sJ;show#[di.p,W,7,di.dx,di.l,y.room,di.n,di.v,y.di.n,y.di.v,_,_,rfl,kJ.di,mm wJ,S.dn1,by have:=S.ds.2.2.1;lia,.inl #[S.ds,fun ds G2 nd hF bF=>?_]]
  k_dat 6 "q"
  have kG2:=(kJ.pp.setS (f:=#[di.p,di.dx,ds,y.di.n,y.di.v,y.di.C]) rfl bF hF).kp (bF _ _ kJ.o (Kp.ap kJ).k6) kJ.nk;have nx:=(sG.trans sJ).free nd;clear kG sG kJ sJ wJ nW bF nd hF;have kG:=kG2;have sG:=sG2;clear kG2 sG2;dsimp only at kG;refine hR _ _ (sq fun R hR=>#[_,rfl,rdG kG.o (Kr T) #[_,rfl,D,lns zs,7,aD "sums",rfl,sG _ _ lD,few,?_]])
  walk_at "o"
  rotate_left
  ·skip
   have wa:=vU gz ez;obtain rfl:=bK e0
   walk_at "l"
   have kJ:=kG.same sJ
   k_dat (ba.p,7) "i"
   show#[ba.p,W,8,rfl,.inl #[_,wJ,by rwa[aB],bt.same (s0.trans (sG.trans sJ))]]
  have wa:=vU gz e
  walk_at "k"
  clear wa e;have kJ:=kG.same sJ;show#[ba.p,W,8,rfl,.inr #[ba.dx,ba.l,y.span,ba.q,y.ba.q,mm wJ,S.ba,kJ.ba,fun d G2 nd hF bF=>?_]]
  k_dat 7 "q"
  have kG2:=(kJ.pp.setB (f:=#[ba.p,ba.dx,d,y.ba.q]) rfl bF hF).kp (bF _ _ kJ.o (Kp.ap kJ).k7) kJ.nk
  skip
  clear kG sG kJ sJ wJ nW bF nd hF;have kG:=kG2;have sG:=sG2;clear kG2 sG2;dsimp only at kG;obtain ⟨rfl,q⟩:=ou.last;refine hR _ _ #[_,rfl,cQ (.inl (.inl (sG _ _ lD))) #[rfl,_,_,rfl,rfl,9,true,rfl,_,rfl,?_]];have fin:=q _ _ kG #[rfl,rfl,rfl,#[rfl,rfl,rfl],#[rfl,rfl,rfl],#[rfl,rfl,rfl,rfl,rfl,rfl,rfl,rfl],#[rfl,rfl,rfl,rfl,rfl,rfl,rfl,rfl],#[rfl,eW],#[rfl,rfl,rfl],rfl] (fun b m=>s0.free (fr b m)) (fun b m=>s0.free (by
   have m:b∈du::dd::dw::ds::(bu++bd):=m;simp only[aZ,dX]at m;rcases m with rfl|rfl|rfl|rfl|m|m
   ·exact nu.1
   ·exact nv.1
   ·exact nw
   ·exact nx
   ·exact nu.2 b m
   ·exact nv.2 b m)) (s0.trans sG)
  exact fin
open MK
structure Nk(x:KS):Prop where
 c:(keys x.cm.c).Nodup
 w:(keys x.wn.c).Nodup
theorem ahN{x y:KS}(e:Eqp x y):m9 x=m9 y:=by
 unfold m9 fN rT rN;rw[e.room,e.reach,e.span,e.cm.t,e.cm.l,e.cm.c,e.wn.t,e.wn.l,e.wn.c,e.up.tt,e.up.ov,e.up.un,e.up.tn,e.up.mi,e.up.ma,e.up.ls,e.dn.tt,e.dn.ov,e.dn.un,e.dn.tn,e.dn.mi,e.dn.ma,e.dn.ls,e.wi.c,e.wi.b,e.di.n,e.di.v,e.di.C,e.ba]
structure Bs where
 (n:Nat) (re sp lo m:Int) (w:Nat->Int) (wt low:Int) (e:Nat) (un tn fi:Int) (v j:Nat) (q:Q4)
structure Wr(b:Bs):Prop where
 n:b.n=2\/b.n=4\/b.n=6\/b.n=8
 re:100<=b.re/\b.re<=999
 sp:1<=b.sp/\b.sp<=1000000000
 lo:0<=b.lo/\b.lo<=4
 m:1<=b.m/\b.m<=1000000
 w:∀k,1<=b.w k/\b.w k<=9
 wt:0<=b.wt/\b.wt<10 ^ 60
 low:0<=b.low/\b.low<1000000000
 e:b.n<=b.e+1/\b.e<=b.n
 un:0<=b.un/\b.un<=((b.e:Int)+2*b.n) / b.n
 tn:0<=b.tn/\b.tn<=6
 fi:1<=b.fi/\b.fi<=50
 v:b.v<40
 j:b.j<1000
 q:∀n∈L4 b.q,n.natAbs<10 ^ 60
namespace Bs
def c(b:Bs):Tab:=(dY b.n).map fun k:Nat=>((k:Int)*b.m,b.w k)
def T(b:Bs):Int:=(vals b.c).sum+((b.n:Int)+1)*b.lo
def tt(b:Bs):Int:=b.e+2*b.n
def ov(b:Bs):Int:=b.tt / b.n-b.un
def hi(b:Bs):Int:=b.low+3*b.n-3
def l0(b:Bs):List Int:=(dY b.e).map fun k:Nat=>b.low+(k:Int) / 2
def l1(b:Bs):List Int:=(dY b.n).map fun k:Nat=>b.low+3*(k:Int)
def ck(b:Bs):Int:=b.fi+b.re-1
def md(b:Bs):Int:=90 / b.n
def bs(b:Bs):List WN.Box:=[#[b.fi,b.fi,90],#[b.fi+2,b.fi+4,b.md],#[b.fi+5,b.fi+5,40],#[b.ck,b.ck,50]]
def th(b:Bs)(k:Nat):Int:=(1+2*((b.j:Int)+k))*2 ^ b.v*g8 5 % 1152921504606846976
def ks(b:Bs):List Int:=srt ((dY b.n).map b.th)
def na(b:Bs):Int:=if 0<b.v then b.n+1 else b.n
def R(b:Bs):Rs:=#[0,0,[],b.n,b.tt,b.ov,b.un,b.tn,some b.low,some b.hi,[b.l0,b.l1]]
def y(b:Bs):KS:=#[0,0,b.n,b.re,b.sp,#[0,0,0,b.T,b.lo,b.c],#[0,0,0,b.wt,0,[]],#[0,b.R],#[0,#[0,0,[],b.n,0,0,0,0,none,none,[]]],#[0,0,0,b.ck,b.bs.map fun x=>(0,x)],#[0,0,0,b.na,b.v,b.ks],#[0,0,0,b.q]]
end Bs
structure Pz where
 (kp cm wn up dn wi se su:List Int) (ul dl:List (List Int))
def Pz.zs(P:Pz):Zs:=[(aD "keep",P.kp.map sI),(aD "came",P.cm.map sI),(aD "went",P.wn.map sI),(aD "up",P.up.map sI++rW P.ul),(aD "down",P.dn.map sI++rW P.dl),(aD "window",P.wi.map sI),(aD "seen",P.se.map sI),(aD "sums",P.su.map sI)]
def Bs.pz(b:Bs):Pz:=#[[b.n,b.re,b.sp],[b.T,b.lo]++pN b.c,[b.wt,0],[b.tt,b.ov,b.un,b.tn,b.low,b.hi],[0,0,0,0],b.ck::b.bs.flatMap bI,[b.na,b.v]++b.ks,L4 b.q,[b.l0,b.l1],[]]
theorem far5:g8 5*770093176312745717 % 1152921504606846976=1:=by decide +kernel
theorem spr(x:Int):x*g8 5 % 1152921504606846976*770093176312745717 % 1152921504606846976=x % 1152921504606846976:=by
 rw[YB (x*g8 5 % 1152921504606846976),ae5 (x*g8 5) (afc _),<-YB (x*g8 5),Ie,YB x,far5,afd,ae5 x (afc _)]
theorem ahO{o:Int}{v:Nat}(ho:o % 2=1)(h0:0<=o)(h1:o<4000)(hv:v<=40):mkOf (o*2 ^ v*g8 5 % 1152921504606846976)=v:=by
 have p:(2:Int) ^ v<=1099511627776:=by
  have:=PB (n:=2) tb_g% hv;have e:((2 ^ v:Nat):Int)=2 ^ v:=by rw[ae9];rfl
  rw[<-e];exact YC.mpr this
 have p0:(0:Int)<2 ^ v:=Qj tb_g%;have b1:o*2 ^ v<=4000*1099511627776:=Ao tb_g% p tb_g% tb_g%;have b0:0<=o*2 ^ v:=Ib h0 tb_g%;refine(mk_eq (h:=v) ?_).symm;rw[spr,ae7 b0 tb_g%];exact .inr #[o,rfl,ho]
set_option linter.unusedSectionVars false
theorem zy:gK []=[]:=by unfold gK;exact List.mergeSort_nil
section
variable{b:Bs}(h:Wr b)
include h
theorem aml{i k:Nat}(hi:i<b.n)(hk:k<b.n)(e:b.th i=b.th k):i=k:=by
 have hn:=h.n;have hj:=h.j;have p:(2:Int) ^ b.v<=1099511627776:=by
  have:=PB (n:=2) tb_g% (fu h.v);have e:((2 ^ b.v:Nat):Int)=2 ^ b.v:=by rw[ae9];rfl
  rw[<-e];exact YC.mpr this
 have p0:(0:Int)<2 ^ b.v:=Qj tb_g%;have key:∀k:Nat,k<b.n->b.th k*770093176312745717 % 1152921504606846976=(1+2*((b.j:Int)+k))*2 ^ b.v:=fun k hk=>by
  unfold Bs.th;rw[spr,ae7 (Ib tb_g% tb_g%)];have:(1+2*((b.j:Int)+k))*2 ^ b.v<=4000*1099511627776:=Ao tb_g% p tb_g% tb_g%;omega
 have k1:=key i hi;rw[e,key k hk]at k1;have:=ae3 tb_g% k1;omega
theorem ahP(k:Nat)(hk:k<b.n):mkOf (b.th k)=b.v:=ahO tb_g% tb_g% (by have:=h.n;have:=h.j;omega) (by have:=h.v;omega)
theorem ahQ(k:Nat):0<=b.th k/\b.th k<1152921504606846976:=#[qP _ tb_g%,Dk _ tb_g%]
theorem KH{z:Int}(m:z∈b.ks):∃k,k<b.n/\z=b.th k:=by
 obtain⟨k,mk,e⟩:=fL.mp (aaJ.mp m);show#[k,pP.mp mk,e.symm]
theorem gF:b.ks.length=b.n:=by unfold Bs.ks;rw[yI,aB,pL]
theorem ks_lt:b.ks.Pairwise (· < ·):=by
 have nd:b.ks.Nodup:=(jB _).nodup_iff.mpr (ade.mpr (zM.mpr ((Nx (n:=b.n)).imp_of_mem fun {a c} ma mc l e=>by
  have:=aml h (pP.mp ma) (pP.mp mc) e;omega)))
 exact((Jo _).and nd).imp fun⟨h1,h2⟩=>by omega
theorem abD:srt (My.up b.v b.ks)=b.ks:=by
 rw[al4 fun z m=>by obtain⟨k,hk,rfl⟩:=KH h m;rw[ahP h k hk];exact jq _];exact(Zm (akn _) (Jo _)).symm
theorem amm:keys b.c=(dY b.n).map fun k:Nat=>(k:Int)*b.m:=by unfold keys Bs.c;rw[fM];rfl
theorem amn:vals b.c=(dY b.n).map b.w:=by unfold vals Bs.c;rw[fM];rfl
theorem c_lt:(keys b.c).Pairwise (· < ·):=by
 rw[amm h];exact zM.mpr (Nx.imp fun {i k} l=>Int.mul_lt_mul_of_pos_right (Int.ofNat_lt.mpr l) (by have:=h.m;omega))
theorem c_nd:(keys b.c).Nodup:=ade.mpr ((c_lt h).imp fun l e=>by omega)
theorem abE:gK b.c=b.c:=by
 refine akm (le:=fun a c:Int × Int=>a.1<=c.1) (fun p q m1 m2 h1 h2=>?_) (abu b.c) ((zM.mp (c_lt h)).imp fun l=>by omega) (lK b.c);have m1:=(lK b.c).mem_iff.mp m1;have k:p.1=q.1:=by omega
 refine mj k ?_;rw[<-xH (c_nd h) m1,<-xH (c_nd h) m2,k]
theorem wD:b.c.length=b.n:=by unfold Bs.c;rw[aB,pL]
theorem c_bd{p:Int × Int}(m:p∈b.c):(0<=p.1/\p.1<=7000000)/\1<=p.2/\p.2<=9:=by
 obtain⟨k,mk,rfl⟩:=fL.mp m;have hk:=pP.mp mk;have hm:=h.m;have hn:=h.n;show#[#[Ib tb_g% tb_g%,?_],h.w k];exact Int.le_trans (Ao (show(k:Int)<=7 by omega) hm.2 tb_g% tb_g%) tb_g%
theorem pN_bd{c:Tab}{P:Int->Prop}(hc:∀p∈c,P p.1/\P p.2):∀z∈pN c,P z:=fun z m=>by
 obtain⟨p,mp,m⟩:=NT.mp m
 k_dat m "d"
 walk_at "H"
 ·exact(hc p mp).1
 ·exact(hc p mp).2
theorem c_sum:0<=(vals b.c).sum/\(vals b.c).sum<=72/\(b.n:Int)<=(vals b.c).sum:=by
 have key:∀k:Nat,(k:Int)<=((dY k).map b.w).sum/\((dY k).map b.w).sum<=9*k:=fun k=>by
  induction k with
  |zero=>show#[by simp,by simp]
  |succ k ih =>
   have:=h.w k;rw[GR,bB,zN];show _<=_+[b.w k].sum/\_+[b.w k].sum<=_;rw[show[b.w k].sum=b.w k by simp];omega
 have k:=key b.n;have hn:=h.n;rw[amn h];omega
theorem Z8:2<=b.T/\b.T<=108:=by
 have:=c_sum h;have hn:=h.n;have hl:=h.lo;unfold Bs.T;have:0<=((b.n:Int)+1)*b.lo:=Ib tb_g% tb_g%;have:((b.n:Int)+1)*b.lo<=9*4:=Ao tb_g% tb_g% tb_g% tb_g%;omega
theorem c_n6:N6 ([b.T,b.lo]++pN b.c):=fun z m=>by
 walk_at "C"
 ·have:=Z8 h;have:=h.lo
  k_dat m "d"
  rcases m with rfl|rfl <;> omega
 ·exact pN_bd h (P:=fun z=>0<=z/\z<10 ^ 60) (fun p mp=>by have:=c_bd h mp;omega) z m
theorem qG:2<=b.tt / b.n/\b.tt / b.n<=3/\b.tt / b.n*b.n<=b.tt/\b.tt<b.tt / b.n*b.n+b.n/\5<=b.tt/\b.tt<=24:=by
 have he:=h.e;unfold Bs.tt;rcases h.n with e|e|e|e <;> rw[e]at he ⊢ <;> omega
theorem amo{z:Int}(m:z∈b.l0):b.low<=z/\z<=b.hi:=by
 obtain⟨k,mk,rfl⟩:=fL.mp m;have hk:=pP.mp mk;have he:=h.e;have hn:=h.n;unfold Bs.hi;omega
theorem amq{z:Int}(m:z∈b.l1):b.low<=z/\z<=b.hi:=by
 obtain⟨k,mk,rfl⟩:=fL.mp m;have hk:=pP.mp mk;unfold Bs.hi;omega
theorem ahR:b.l0.length=b.e:=by unfold Bs.l0;rw[aB,pL]
theorem vA:b.l1.length=b.n:=by unfold Bs.l1;rw[aB,pL]
theorem l0_pw:b.l0.Pairwise (· <= ·):=zM.mpr (Nx.imp fun {i k} l=>by omega)
theorem l1_pw:b.l1.Pairwise (· <= ·):=zM.mpr (Nx.imp fun {i k} l=>by omega)
theorem R_n6:N6 (rN b.R):=fun z m=>by
 have t:=qG h;have u:=h.un;have tn:=h.tn;have lw:=h.low;have hn:=h.n;have m:z∈[b.tt,b.tt / b.n-b.un,b.un,b.tn,b.low,b.low+3*b.n-3]:=m;have u2:b.un<=b.tt / b.n:=u.2
 k_dat m "d"
 rcases m with rfl|rfl|rfl|rfl|rfl|rfl <;> omega
theorem S8{l:List Int}(m:l∈[b.l0,b.l1]):l.length<=b.n/\l.Pairwise (· <= ·)/\∀z∈l,b.low<=z/\z<=b.hi:=by
 k_dat m "d"
 walk_at "H"
 ·show#[by rw[ahR h];exact h.e.2,l0_pw h,fun z m=>amo h m]
 ·show#[by rw[vA h];exact aO _,l1_pw h,fun z m=>amq h m]
theorem qH:b.low+3<=b.hi/\b.hi<1000000100:=by
 have lw:=h.low;have hn:=h.n;unfold Bs.hi;omega
theorem R_l6:∀l∈b.R.ls,N6 l/\l.length<=900:=fun l m=>by
 have:=S8 h m;have hn:=h.n;have hb:=qH h;have lw:=h.low;show#[fun z mz=>by have:=this.2.2 z mz;omega,by omega]
theorem l1_ne:b.l1≠[]:=fun e=>by
 have:=vA h;rw[e]at this;have hn:=h.n;simp at this;omega
theorem ajO:(RG.val [b.l0,b.l1]:Int)=b.tt:=by
 show((b.l0.length+2*(b.l1.length+2*0):Nat):Int)=_;rw[ahR h,vA h];unfold Bs.tt;omega
theorem R_sro:Sro b.R:=by
 have t:=qG h;have hb:=qH h;show#[fun e=>absurd (show b.tt=0 from e) tb_g%,fun _=>#[iw _ _,fun l e=>?_,b.low,b.hi,rfl,rfl,by omega,by omega,ajO h,fun l m=>#[?_,(S8 h m).2],?_]]
 ·obtain rfl:=bK (show some b.l1=some l from e);exact l1_ne h
 ·show(l.length:Int)<=b.n;exact YC.mpr (S8 h m).1
 ·show(b.tt / b.n-b.un+b.un)*b.n<=b.tt*(2-1);rw[Int.sub_add_cancel];omega
theorem abF:N6 (b.ck::b.bs.flatMap bI):=fun z m=>by
 have f:=h.fi;have r:=h.re;have hn:=h.n;have m:z∈[b.fi+b.re-1,b.fi,b.fi,90,b.fi+2,b.fi+4,90 / (b.n:Int),b.fi+5,b.fi+5,40,b.fi+b.re-1,b.fi+b.re-1,50]:=m;have d:0<=90 / (b.n:Int)/\90 / (b.n:Int)<=45:=by rcases hn with e|e|e|e <;> rw[e] <;> decide
 k_dat m "d"
 rcases m with rfl|rfl|rfl|rfl|rfl|rfl|rfl|rfl|rfl|rfl|rfl|rfl|rfl <;> omega
theorem bs_pl:Pl b.ck b.re 0 b.bs:=by
 have f:=h.fi;have r:=h.re;have d:1<=b.md:=by unfold Bs.md;rcases h.n with e|e|e|e <;> rw[e] <;> decide
 unfold Bs.ck;show#[by show 0<b.fi;omega,jq _,by show(1:Int)<=90;decide,by show b.fi<=_;omega,by show _<b.fi;omega,by show b.fi<b.fi+2;omega,by show b.fi+2<=b.fi+4;omega,d,by show b.fi+4<=_;omega,by show _<b.fi+4;omega,by show b.fi+4<b.fi+5;omega,jq _,by show(1:Int)<=40;decide,by show b.fi+5<=_;omega,by show _<b.fi+5;omega,by show b.fi+5<b.ck;unfold Bs.ck;omega,jq _,by show(1:Int)<=50;decide,jq _,by show _<b.ck;unfold Bs.ck;omega,trivial]
theorem bs_su:Su b.n 0 0 b.bs.reverse:=by
 show Su b.n 0 0 [#[b.ck,b.ck,50],#[b.fi+5,b.fi+5,40],#[b.fi+2,b.fi+4,b.md],#[b.fi,b.fi,90]];unfold Bs.md;rcases h.n with e|e|e|e <;> rw[e] <;> show#[.inl rfl,by dsimp only;decide,.inl rfl,by dsimp only;decide,.inr (by dsimp only;decide),by dsimp only;decide,.inl rfl,by dsimp only;decide,trivial]
theorem ahS:N6 ([b.na,(b.v:Int)]++b.ks):=fun z m=>by
 have hn:=h.n;have hv:=h.v
 walk_at "C"
 ·k_dat m "d"
  walk_at "H"
  ·unfold Bs.na;split <;> omega
  ·omega
 ·obtain⟨k,_,rfl⟩:=KH h m;have:=ahQ h k;omega
theorem amr:Sdi b.n b.na b.v b.ks:=by
 have hv:=h.v;show#[by omega,#[ks_lt h,fun z m=>?_],by rw[gF h];exact jq _,fun z m=>?_,fun e=>?_,fun e=>?_]
 ·obtain⟨k,_,rfl⟩:=KH h m;exact(ahQ h k).2
 ·obtain⟨k,hk,rfl⟩:=KH h m;rw[ahP h k hk];exact jq _
 ·unfold Bs.na;rw[gF h,if_neg tb_g%];exact jq _
 ·unfold Bs.na;rw[if_pos tb_g%];exact jq _
theorem xZ{ns:List Int}(g:N6 ns):∀z∈ns,z.natAbs<2 ^ 1000:=fun z m=>j6 (show z.natAbs<10 ^ 60 by have:=g z m;omega) tb_g%
theorem ac1:b.pz.zs=zsK b.y:=by
 unfold Pz.zs zsK;show[_,_,_,_,_,_,_,_]=[_,(_,(fN #[0,0,0,b.T,b.lo,b.c]).map sI),(_,(fN #[0,0,0,b.wt,0,[]]).map sI),_,_,(_,(b.ck::(bx (b.bs.map fun x=>(0,x))).flatMap bI).map sI),(_,([b.na,(b.v:Int)]++srt (My.up b.v b.ks)).map sI),_];unfold fN;dsimp only;rw[abE h,abD h,zy];rfl
theorem ahT:Sd b.y:=by
 have hn:=h.n;have r:=h.re;have s:=h.sp;have wt:=h.wt;have n0:N6 [(b.n:Int),b.re,b.sp]:=fun z m=>by
  k_dat m "d"
  rcases m with rfl|rfl|rfl <;> omega
 have w6:N6 (fN #[0,0,0,b.wt,0,[]]):=fun z m=>by
  unfold fN at m;rw[zy]at m;have m:z∈[b.wt,0]:=m
  k_dat m "d"
  rcases m with rfl|rfl <;> omega
 have c6:N6 (fN #[0,0,0,b.T,b.lo,b.c]):=by
  unfold fN;dsimp only;rw[abE h];exact c_n6 h
 have d6:N6 (rN #[0,0,[],b.n,0,0,0,0,none,none,[]]):=fun z m=>by
  have m:z∈[(0:Int),0,0,0]:=m
  k_dat m "d"
  rcases m with rfl|rfl|rfl|rfl <;> decide
 have s6:N6 ([b.na,(b.v:Int)]++srt (My.up b.v b.ks)):=by rw[abD h];exact ahS h
 have t:=qG h;have hb:=qH h;have lw:=h.low;have rT0:(rT b.R).length<=9000:=by
  have h2:=vp (ls:=b.R.ls) fun l m=>by have:=(S8 h m).1;omega
  unfold rT;rw[cj,aB];have:(rN b.R).length=6:=rfl;have:b.R.ls.length=2:=rfl;omega
 refine⟨⟨xZ h n0,c_nd h,?_,xZ h c6,zO,tb_g%,xZ h w6,?_,xZ h (R_n6 h),fun l m z mz=>?_,tb_g%,fun l m=>?_,?_,xZ h d6,fun l m=>(nomatch m),tb_g%,fun l m=>(nomatch m),xZ h (abF h),tb_g%,xZ h s6,?_,fun z m=>j6 (h.q z m) tb_g%,by show 0<=b.tt;omega,jq _⟩,?_,by show b.n<64;omega,⟨c6,?_⟩,⟨w6,?_⟩,⟨R_n6 h,R_l6 h,fun e=>absurd (show b.tt=0 from e) tb_g%,rT0,R_sro h,tb_g%⟩,rfl,⟨d6,fun l m=>(nomatch m),fun _=>⟨rfl,rfl⟩,tb_g%,⟨fun _=>⟨rfl,rfl,rfl,rfl⟩,fun e=>absurd rfl e⟩,tb_g%⟩,rfl,abF h,⟨bs_pl h,bs_su h⟩,s6,?_,h.q⟩
 ·show b.c.length<=63;rw[wD h];omega
 ·exact .inr #[fun e=>absurd (show b.tt=0 from e) tb_g%,_,_,rfl,rfl]
 ·have:=(S8 h m).2.2 z mz;exact cG (show z.natAbs<1000000100 by omega) tb_g%
 ·have:=(S8 h m).1;omega
 ·exact .inl #[rfl,rfl,rfl]
 ·show(srt (My.up b.v b.ks)).length<=64;rw[abD h,gF h];omega
 ·show Bd b.n b.re b.sp;show#[by omega,by omega,by omega,by omega,by omega,by omega,by omega]
 ·show SF b.n b.T b.lo (keys (gK b.c)) (vals (gK b.c));rw[abE h];show#[#[c_lt h,fun z m=>?_],?_,fun z m=>?_,jq _]
  ·obtain⟨p,mp,rfl⟩:=fL.mp m;have:=(c_bd h mp).1;omega
  ·unfold keys;rw[aB,wD h];exact aO _
  ·obtain⟨p,mp,rfl⟩:=fL.mp m;exact(c_bd h mp).2.1
 ·show SF b.n b.wt 0 (keys (gK [])) (vals (gK []));rw[zy];show SF b.n b.wt 0 [] [];show#[#[.nil,fun _ m=>(nomatch m)],cU _,fun _ m=>(nomatch m),by simp;omega]
 ·show Sdi b.n b.na b.v (srt (My.up b.v b.ks));rw[abD h];exact amr h
end
open MK
structure Ws(P:Pz):Prop where
 l:∀l∈[P.kp,P.cm,P.wn,P.wi,P.se,P.su],l.length<=200/\∀z∈l,z.natAbs<2 ^ 1000
 u:∀l∈[P.up,P.dn],l.length<=6/\∀z∈l,z.natAbs<2 ^ 1000
 v:∀ls∈[P.ul,P.dl],ls.length<=60/\(∀l∈ls,l.length<=64)/\∀l∈ls,∀z∈l,z.natAbs<10 ^ 20
theorem gb_w{us:List Int}{ls:List (List Int)}:∀u∈us.map sI++rW ls,Gb u:=fun u m=>by
 walk_at "C"
 ·exact Du u m
 ·obtain⟨l,_,m⟩:=NT.mp m
  walk_at "G"
  ·show#[by decide +kernel,by decide +kernel]
  ·exact Du u m
theorem Ws.gz{P:Pz}(h:Ws P):Gz P.zs:=by
 have c:∀s∈[aD "keep",aD "came",aD "went",aD "up",aD "down",aD "window",aD "seen",aD "sums"],s.length<=16/\32∉cL s/\10∉cL s:=by decide +kernel
 have l1:∀{l},l∈[P.kp,P.cm,P.wn,P.wi,P.se,P.su]->((l.map sI).map (·.length)).sum+(l.map sI).length<=95000:=fun {l} m=>je (h.l l m).2 (h.l l m).1;have l2:∀{l ls},l∈[P.up,P.dn]->ls∈[P.ul,P.dl]->((l.map sI++rW ls).map (·.length)).sum+(l.map sI++rW ls).length<=95000:=fun {l ls} m1 m2=>by
  have u:=h.u l m1;have v:=h.v ls m2;have h1:=Cv u.2;have h2:=R9 v.2.1 v.2.2;have h3:=vp v.2.1;rw[bB,zN,cj,aB];omega
 have g:∀z∈P.zs,(∀u∈z.2,Gb u)/\(z.2.map (·.length)).sum+z.2.length<=95000:=by
  intro z m;unfold Pz.zs at m
  k_dat m "d"
  rcases m with rfl|rfl|rfl|rfl|rfl|rfl|rfl|rfl
  ·show#[Du,l1 (by simp)]
  ·show#[Du,l1 (by simp)]
  ·show#[Du,l1 (by simp)]
  ·show#[gb_w,l2 (by simp) (by simp)]
  ·show#[gb_w,l2 (by simp) (by simp)]
  ·show#[Du,l1 (by simp)]
  ·show#[Du,l1 (by simp)]
  ·show#[Du,l1 (by simp)]
 intro z m;have cz:=c _ (WW (f:=(·.1)) m);show#[fun u mu=>?_,cz.1,bW (g z m).2 tb_g%];rcases aZ.mp mu with rfl|mu
 ·show#[cz.2.1,cz.2.2]
 ·exact(g z m).1 u mu
structure Bad(k:Nat)(P:Pz):Prop where
 ok:Ws P
 f:∃y,Sd y/\Fau y k P.zs
theorem lt10{n:Nat}(h:n<10 ^ 60):n<2 ^ 1000:=j6 h tb_g%
theorem N6.big{ns:List Int}(g:N6 ns):∀z∈ns,z.natAbs<2 ^ 1000:=fun z m=>lt10 (show z.natAbs<10 ^ 60 by have:=g z m;omega)
theorem Gh(c:Tab):∀t l:Int,([t,l]++pN c).length=2+2*c.length:=fun t l=>by rw[cj,xX];rfl
section
variable{b:Bs}(h:Wr b)
include h
theorem LR:Ws b.pz:=by
 have hn:=h.n;have e:=h.e;have s:=ahT h;have lw:=h.low;have hb:=qH h;show#[fun l m=>?_,fun l m=>?_,fun ls m=>?_]
 ·have m:l∈[[(b.n:Int),b.re,b.sp],[b.T,b.lo]++pN b.c,[b.wt,0],b.ck::b.bs.flatMap bI,[b.na,(b.v:Int)]++b.ks,L4 b.q]:=m
  k_dat m "d"
  rcases m with rfl|rfl|rfl|rfl|rfl|rfl
  ·show#[tb_g%,s.kx.k]
  ·show#[by rw[Gh,wD h];omega,(c_n6 h).big]
  ·show#[tb_g%,N6.big fun z m=>?_];have wt:=h.wt
   k_dat m "d"
   rcases m with rfl|rfl <;> omega
  ·show#[tb_g%,(abF h).big]
  ·show#[by rw[cj,gF h];show 2+b.n<=200;omega,(ahS h).big]
  ·show#[tb_g%,s.kx.b]
 ·have m:l∈[rN b.R,[0,0,0,0]]:=m
  k_dat m "d"
  walk_at "H"
  ·show#[tb_g%,(R_n6 h).big]
  ·show#[tb_g%,fun z m=>by simp only[aZ,cC,or_false,or_self]at m;rw[m];decide +kernel]
 ·have m:ls∈[[b.l0,b.l1],[]]:=m
  k_dat m "d"
  walk_at "H"
  ·show#[tb_g%,fun l m=>by have:=(S8 h m).1;omega,fun l m z mz=>by have:=(S8 h m).2.2 z mz;exact cG (show z.natAbs<1000000100 by omega) tb_g%]
  ·show#[by decide,fun l m=>(nomatch m),fun l m=>(nomatch m)]
theorem vB{P:Pz}{k:Nat}(ok:Ws P)(k8:k<8)(e:P.zs.take k=b.pz.zs.take k){z z0:Str × List Str}(ez:P.zs[k]? = some z)(e0:b.pz.zs[k]? = some z0)(en:z.1=z0.1)(fw:Fw b.n b.re k z.2):Bad k P:=by
 show#[ok,b.y,ahT h,fun i hi=>?_,k8,z,z0,ez,by rwa[<-ac1 h],en,fw];rw[<-ac1 h,<-Gs hi,e,Gs hi]
theorem CJ{t l:Int}{c:Tab}(n6:N6 ([t,l]++pN c))(lc:c.length<=20)(no:¬ SFc b.n t l c):Bad 1 { b.pz with cm:=[t,l]++pN c }:=by
 have o:=LR h;refine vB h #[fun x m=>?_,o.u,o.v] tb_g% rfl rfl rfl rfl #[c,t,l,rfl,n6,by omega,no];by_cases e:x=[t,l]++pN c
 ·rw[e];show#[by rw[Gh];omega,n6.big]
 ·exact o.l x (by
   simp only[aZ,cC,or_false]at m ⊢;rcases m with rfl|m|m
   ·exact .inl rfl
   ·exact absurd m e
   ·exact .inr (.inr m))
theorem ams{t l:Int}(n6:N6 [t,l])(no:¬ (((b.n:Int)+1)*l<=t)):Bad 2 { b.pz with wn:=[t,l] }:=by
 have o:=LR h;refine vB h #[fun x m=>?_,o.u,o.v] tb_g% rfl rfl rfl rfl #[[],t,l,rfl,n6,by decide,fun z=>no (by have y:([]:List Int).sum+((b.n:Int)+1)*l<=t:=z.2.2.2;simpa using y)];by_cases e:x=[t,l]
 ·rw[e];show#[tb_g%,n6.big]
 ·exact o.l x (by
   simp only[aZ,cC,or_false]at m ⊢;rcases m with rfl|rfl|m|m
   ·exact .inl rfl
   ·exact .inr (.inl rfl)
   ·exact absurd m e
   ·exact .inr (.inr (.inr m)))
theorem amt{t o u n lo hi:Int}{ls:List (List Int)}(n6:N6 [t,o,u,n,lo,hi])(l6:∀l∈ls,N6 l)(l4:ls.length<=4)(ll:∀l∈ls,l.length<=20)(lb:∀l∈ls,∀z∈l,z.natAbs<10 ^ 20)(t0:t≠0)(no:¬ Sro #[0,0,[],b.n,t,o,u,n,some lo,some hi,ls]):Bad 3 { b.pz with up:=[t,o,u,n,lo,hi],ul:=ls }:=by
 have ok:=LR h;have l9:([t,o,u,n,lo,hi].map sI++rW ls).length<=9000:=by
  have:=vp (ls:=ls) fun l m=>bW (ll l m) tb_g%;rw[cj,aB];show 6+_<=9000;omega
 refine vB h #[ok.l,fun x m=>?_,fun x m=>?_] tb_g% rfl rfl rfl rfl #[#[0,0,[],b.n,t,o,u,n,some lo,some hi,ls],rfl,l9,n6,fun l m=>#[l6 l m,bW (ll l m) tb_g%],bW l4 tb_g%,.inr #[rfl,fun e=>absurd e t0,fun _=>#[lo,hi,rfl,rfl],no]]
 ·k_dat m "d"
  walk_at "H"
  ·show#[tb_g%,n6.big]
  ·exact ok.u _ (by simp)
 ·k_dat m "d"
  walk_at "H"
  ·show#[by omega,fun l m=>bW (ll l m) tb_g%,lb]
  ·exact ok.v _ (by simp)
theorem S9{ns:List Int}{y:Rs}(e:ns=rN y)(n6:N6 ns)(l6:ns.length<=6)(el:y.ls=[])(no:(y.tt=0/\ns.length≠4)\/y.r=b.n/\(y.tt=0/\y.mi=none/\y.ma=none)/\¬ Sro y):Bad 4 { b.pz with dn:=ns }:=by
 have ok:=LR h;subst e;refine vB h #[ok.l,fun x m=>?_,ok.v] tb_g% rfl rfl rfl rfl #[y,?_,?_,n6,by rw[el];exact fun l m=>(nomatch m),by rw[el];decide,?_]
 ·k_dat m "d"
  walk_at "H"
  ·exact ok.u _ (by simp)
  ·show#[l6,n6.big]
 ·show(rN y).map sI++rW []=rT y;unfold rT;rw[el]
 ·show((rN y).map sI++rW []).length<=9000;rw[cj,aB];show _+0<=9000;omega
 ·exact no.imp id fun⟨a,⟨b1,b2,b3⟩,c⟩=>#[a,fun _=>#[b2,b3],fun z=>absurd b1 z,c]
theorem amu{c:Int}{bs:List WN.Box}(n6:N6 (c::bs.flatMap bI))(lb:bs.length<=20)(no:¬ (Pl c b.re 0 bs/\Su b.n 0 0 bs.reverse)):Bad 5 { b.pz with wi:=c::bs.flatMap bI }:=by
 have o:=LR h;refine vB h #[fun x m=>?_,o.u,o.v] tb_g% rfl rfl rfl rfl #[c,bs,rfl,n6,by omega,no];by_cases e:x=c::bs.flatMap bI
 ·rw[e];show#[by rw[cJ,xW];omega,n6.big]
 ·exact o.l x (by
   simp only[aZ,cC,or_false]at m ⊢;rcases m with rfl|rfl|rfl|m|m
   ·exact .inl rfl
   ·exact .inr (.inl rfl)
   ·exact .inr (.inr (.inl rfl))
   ·exact absurd m e
   ·exact .inr (.inr (.inr (.inr m))))
theorem yc{n v:Int}{ks:List Int}(n6:N6 ([n,v]++ks))(lk:ks.length<=20)(no:¬ Sdi b.n n v ks):Bad 6 { b.pz with se:=[n,v]++ks }:=by
 have o:=LR h;refine vB h #[fun x m=>?_,o.u,o.v] tb_g% rfl rfl rfl rfl #[n,v,ks,rfl,n6,by omega,no];by_cases e:x=[n,v]++ks
 ·rw[e];show#[by rw[cj];show 2+_<=_;omega,n6.big]
 ·exact o.l x (by
   simp only[aZ,cC,or_false]at m ⊢;rcases m with rfl|rfl|rfl|rfl|m|m
   ·exact .inl rfl
   ·exact .inr (.inl rfl)
   ·exact .inr (.inr (.inl rfl))
   ·exact .inr (.inr (.inr (.inl rfl)))
   ·exact absurd m e
   ·exact .inr (.inr (.inr (.inr (.inr m)))))
theorem Z9{ns:List Int}(n6:N6 ns)(l4:ns.length≠4)(l9:ns.length<=9):Bad 7 { b.pz with su:=ns }:=by
 have o:=LR h;refine vB h #[fun x m=>?_,o.u,o.v] tb_g% rfl rfl rfl rfl (show(ns.map sI).length≠4 by rwa[aB]);by_cases e:x=ns
 ·rw[e];show#[by omega,n6.big]
 ·exact o.l x (by
   simp only[aZ,cC,or_false]at m ⊢;rcases m with rfl|rfl|rfl|rfl|rfl|m
   ·exact .inl rfl
   ·exact .inr (.inl rfl)
   ·exact .inr (.inr (.inl rfl))
   ·exact .inr (.inr (.inr (.inl rfl)))
   ·exact .inr (.inr (.inr (.inr (.inl rfl))))
   ·exact absurd m e)
theorem ajP{x y z:Int}(n6:N6 [x,y,z]):Ws { b.pz with kp:=[x,y,z] }:=by
 have o:=LR h;show#[fun w m=>?_,o.u,o.v]
 k_dat m "d"
 rcases m with rfl|m
 ·show#[tb_g%,n6.big]
 ·exact o.l w (by simp only[aZ,cC,or_false];exact .inr m)
theorem aac{x y z:Int}(n6:N6 [x,y,z])(no:¬ Bd x y z):Bad 0 { b.pz with kp:=[x,y,z] }:=
 vB h (ajP h n6) tb_g% rfl rfl rfl rfl #[x,y,z,rfl,n6,no]
theorem amv:Bad 5 { b.pz with kp:=[b.n,b.re-1,b.sp] }:=by
 have s:=ahT h;have hn:=h.n;have r:=h.re;have p:=h.sp;have n6:N6 [(b.n:Int),b.re-1,b.sp]:=fun z m=>by
  k_dat m "d"
  rcases m with rfl|rfl|rfl <;> omega
 have w6:N6 ((0:Int)::(bx []).flatMap bI):=fun z m=>by
  have m:z∈[(0:Int)]:=m;rw[eY.mp m];decide
 show#[ajP h n6,{ b.y with reach:=b.re-1,wi:=#[0,0,0,0,[]] },#[{ s.kx with k:=n6.big,i1:=w6.big,i2:=by show 0<=63;decide },#[by show(b.n:Int) % 2=0;omega,by show 2<=(b.n:Int);omega,by show(b.n:Int)<=64;omega,by show 1<=b.re-1;omega,by show b.re-1<=1000000000;omega,p.1,p.2],s.k8,s.cm,s.wn,s.up,s.ur,s.dn,s.dr,w6,#[trivial,trivial],s.dn1,s.ds,s.ba],?_];have e:({ b.pz with kp:=[(b.n:Int),b.re-1,b.sp] }:Pz).zs.take 5=(zsK { b.y with reach:=b.re-1,wi:=#[0,0,0,0,[]] }).take 5:=by
  have:=congrArg (fun l=>(l.take 5).drop 1) (ac1 h);exact congrArg (fun l=>(aD "keep",[(b.n:Int),b.re-1,b.sp].map sI)::l) this
 show#[fun i hi=>?_,by decide,_,_,rfl,rfl,rfl,b.ck,b.bs,rfl,abF h,tb_g%,fun z=>?_]
 ·rw[<-Gs hi,e,Gs hi]
 ·have z:b.ck-(b.re-1)<b.fi:=z.1.2.2.2.2.1;unfold Bs.ck at z;omega
end
open MK
def Own(H0 H:Hp)(L:List (Addr × HO)):Prop:=Same H0 H/\(L.map (·.1)).Nodup/\∀p∈L,H p.1=some p.2/\H0 p.1=none
theorem nd_ix{l:List Addr}{i j:Nat}{a:Addr}(nd:l.Nodup)(h1:l[i]? = some a)(h2:l[j]? = some a):i=j:=by
 obtain⟨l1,e1⟩:=fO.mp h1;obtain⟨l2,e2⟩:=fO.mp h2;rcases aew i j with g|g|g
 ·exact absurd (e1.trans e2.symm) (adg.mp nd i j l1 l2 g)
 ·exact g
 ·exact absurd (e2.trans e1.symm) (adg.mp nd j i l2 l1 g)
theorem ahU:∀{l:List Addr}{i:Nat}{n:Addr},l.Nodup->n∉l->(l.set i n).Nodup
 |[],_,_,_,_=>.nil
 |a::r,0,n,nd,h=>fK.mpr #[fun m=>h (cR _ m),(fK.mp nd).2]
 | a::r,i+1,n,nd,h=>fK.mpr #[fun m=>by
   rcases Mi m with m|e
   ·exact(fK.mp nd).1 m
   ·exact h (by rw [e];exact bV),ahU (fK.mp nd).2 fun m=>h (cR _ m)]
section
variable{H0 H H':Hp}{L L':List (Addr × HO)}{a n:Addr}{o o':HO}{i:Nat}
theorem Own.at(h:Own H0 H L)(i:Nat)(e:L[i]? = some (a,o)):H a=some o:=(h.2.2 _ (mv e)).1
theorem Own.same(h:Own H0 H L)(s:Same H H'):Own H0 H' L:=#[h.1.trans s,h.2.1,fun p m=>#[s _ _ (h.2.2 p m).1,(h.2.2 p m).2]]
theorem Own.new(h:Own H0 H L)(hn:H n=none):Own H0 (upd H n o) ((n,o)::L):=by
 have no:∀p∈L,p.1≠n:=fun p m z=>by
  have:=(h.2.2 p m).1;rw[z,hn]at this;cases this
 show#[h.1.trans (Same.new hn),fK.mpr #[fun m=>?_,h.2.1],fun p m=>?_]
 ·obtain⟨p,mp,e⟩:=fL.mp m;exact no p mp e
 ·walk_at "G"
  ·show#[aj,h.1.free hn]
  ·show#[by rw[ao (no p m)];exact(h.2.2 p m).1,(h.2.2 p m).2]
theorem Own.sub(h:Own H0 H L)(s:L'.Sublist L):Own H0 H L':=#[h.1,ak1 (s.map _) h.2.1,fun p m=>h.2.2 p (s.subset m)]
theorem Own.set(h:Own H0 H L)(i:Nat)(e:L[i]? = some (a,o))(e':L.set i (a,o')=L'):Own H0 (upd H a o') L':=by
 subst e';have ml:=mv e;have ha:=h.2.2 _ ml;have ea:∀p∈L,p.1=a->p=(a,o):=fun p m z=>by
  have:=(h.2.2 p m).1;rw[z,ha.1]at this;exact mj z (bK this).symm
 have em:(L.set i (a,o')).map (·.1)=L.map (·.1):=by
  rw[lN];refine List.ext_getElem? fun j=>?_;by_cases ij:i=j
  ·subst ij;rw[Gv (by rw[aB];exact(fO.mp e).1),cB,e];rfl
  ·rw[Gk ij]
 show#[fun c u z=>?_,by rw[em];exact h.2.1,fun p m=>?_]
 ·rw[ao (ak z ha.2)];exact h.1 c u z
 ·by_cases z:p.1=a
  ·rw[z,aj];show#[congrArg some ?_,ha.2];obtain⟨j,hj⟩:=Gx m;by_cases ij:i=j
   ·subst ij;rw[Gv (fO.mp e).1]at hj;exact(congrArg afl (bK hj))
   ·rw[Gk ij]at hj;have e1:(L.map (·.1))[j]? = some a:=by rw[cB,hj,<-z];rfl
    have e2:(L.map (·.1))[i]? = some a:=by rw[cB,e];rfl
    exact absurd (nd_ix h.2.1 e2 e1) ij
  ·rw[ao z];rcases Mi m with m|m
   ·exact h.2.2 p m
   ·rw[m]at z;exact absurd rfl z
theorem Own.put(h:Own H0 H L)(hn:H n=none)(i:Nat)(e':L.set i (n,o')=L'):Own H0 (upd H n o') L':=by
 subst e';have no:∀p∈L,p.1≠n:=fun p m z=>by
  have:=(h.2.2 p m).1;rw[z,hn]at this;cases this
 show#[h.1.trans (Same.new hn),?_,fun p m=>?_]
 ·rw[lN];exact ahU h.2.1 (fun m=>by obtain⟨p,mp,e⟩:=fL.mp m;exact no p mp e)
 ·rcases Mi m with m|rfl
  ·show#[by rw[ao (no p m)];exact(h.2.2 p m).1,(h.2.2 p m).2]
  ·show#[aj,h.1.free hn]
end
def fnd:List Str->Str->Option Nat
 |[],_=>none
 |a::r,n=>if a=n then some 0 else(fnd r n).map (· + 1)
def mkD:List Str->List V->List (Key × V)
 |n::ns,v::vs=>(Sum.inr n,v)::mkD ns vs
 |_,_=>[]
theorem bL:∀{ns:List Str}{vs:List V}{nm:Str}(i:Nat){v:V},fnd ns nm=some i->vs[i]? = some v->jz (mkD ns vs) (Sum.inr nm:Key)=some v
 |[],_,_,_,_,h,_=>nomatch h
 |a::r,[],_,_,_,_,h=>by rw[W0]at h;cases h
 |a::r,x::vs,nm,i,v,h,hv=>by
  show jz ((Sum.inr a,x)::mkD r vs) _=_;unfold fnd at h;by_cases e:a=nm
  ·rw[if_pos e]at h;obtain rfl:=bK h;obtain rfl:=bK hv;rw[e];exact aiG ..
  ·rw[if_neg e]at h;obtain⟨j,hj,rfl⟩:=f9.mp h;rw[aaP (QW e)];exact bL j hj hv
theorem ahV:∀{ns:List Str}{vs:List V}{nm:Str},fnd ns nm=none->((mkD ns vs).any fun kv=>decide (kv.1=Sum.inr nm))=false
 |[],_,_,_=>rfl
 |a::r,[],_,_=>rfl
 |a::r,x::vs,nm,h=>by
  unfold fnd at h;by_cases e:a=nm
  ·rw[if_pos e]at h;cases h
  ·rw[if_neg e]at h;show(decide ((Sum.inr a:Key)=Sum.inr nm) || _)=false;rw[decide_eq_false (QW e),Yh];exact ahV (Option.map_eq_none_iff.mp h)
theorem abG{nm:Str}{v:V}:∀{ns:List Str}{vs:List V},ns.length=vs.length->mkD ns vs++[(Sum.inr nm,v)]=mkD (ns++[nm]) (vs++[v])
 |[],[],_=>rfl
 |a::r,x::vs,h=>congrArg (_ :: ·) (abG (Ii h))
theorem gq{ns:List Str}{vs:List V}{nm:Str}{v:V}(h:fnd ns nm=none)(l:ns.length=vs.length):putK (mkD ns vs) (Sum.inr nm:Key) v=mkD (ns++[nm]) (vs++[v]):=by
 unfold putK;rw[if_neg (by rw[ahV h];exact cM)];exact abG l
theorem abH:∀{ns:List Str}{vs:List V}{nm:Str}{v:V},nm∉ns->DG (mkD ns vs) (Sum.inr nm) v=mkD ns vs
 |[],_,_,_,_=>rfl
 |_::_,[],_,_,_=>rfl
 |a::r,x::vs,nm,v,h=>by
  show DG ((Sum.inr a,x)::mkD r vs) _ _=_;rw[aaQ (QW fun e=>h (by rw[e];exact bV)),abH fun m=>h (cR _ m)];rfl
theorem abI:∀{ns:List Str}{vs:List V}{nm:Str}{v:V}{i:Nat},ns.Nodup->fnd ns nm=some i->DG (mkD ns vs) (Sum.inr nm) v=mkD ns (vs.set i v)
 |[],_,_,_,_,_,h=>nomatch h
 |a::r,[],_,_,_,_,_=>rfl
 |a::r,x::vs,nm,v,i,nd,h=>by
  obtain⟨na,nr⟩:=fK.mp nd;show DG ((Sum.inr a,x)::mkD r vs) _ _=_;unfold fnd at h;by_cases e:a=nm
  ·rw[if_pos e]at h;obtain rfl:=bK h;rw[e,aiH,abH (by rw[<-e];exact na)];rfl
  ·rw[if_neg e]at h;obtain⟨j,hj,rfl⟩:=f9.mp h;rw[aaQ (QW e),abI nr hj];rfl
theorem zA{ns:List Str}{vs:List V}{nm:Str}{v w:V}{i:Nat}(nd:ns.Nodup)(h:fnd ns nm=some i)(hw:vs[i]? = some w):putK (mkD ns vs) (Sum.inr nm:Key) v=mkD ns (vs.set i v):=by
 rw[acz (bL i h hw),abI nd h]
def NS:List Str:=["keep","came","went","up lists","up","down","down lists","window","seen","spare","sums"]
theorem Wt:NS.Nodup:=by decide +kernel
structure Ax where
 (kp cm wn ul up dn dl wi se su:Addr) (bs:List Addr)
def dvs(x:Ax)(s:Int):List V:=[.ref x.kp,.ref x.cm,.ref x.wn,.ref x.ul,.ref x.up,.ref x.dn,.ref x.dl,.ref x.wi,.ref x.se,.int s,.ref x.su]
abbrev li(l:List Int):HO:=.lst (l.map V.int)
def LP(d:Addr)(x:Ax)(s:Int)(P:Pz):List (Addr × HO):=(d,.dK (mkD NS (dvs x s)))::(x.kp,li P.kp)::(x.cm,li P.cm)::(x.wn,li P.wn)::(x.ul,.lst (x.bs.map V.ref))::(x.up,li P.up)::(x.dn,li P.dn)::(x.dl,.lst [])::(x.wi,li P.wi)::(x.se,li P.se)::(x.su,li P.su)::x.bs.zip (P.ul.map li)
def At1(H:Hp)(kvs:List (Key × V))(nm:Str)(l:List Int):Prop:=∃a,jz kvs (Sum.inr nm:Key)=some (.ref a)/\H a=some (li l)
def At2(H:Hp)(kvs:List (Key × V))(nm:Str)(ls:List (List Int)):Prop:=∃(a:Addr)(bs:List Addr),jz kvs (Sum.inr nm:Key)=some (.ref a)/\H a=some (.lst (bs.map V.ref))/\bs.length=ls.length/\∀(i:Nat)(b:Addr)(l:List Int),bs[i]? = some b->ls[i]? = some l->H b=some (li l)
structure Pd(H:Hp)(kvs:List (Key × V))(P:Pz):Prop where
 kp:At1 H kvs "keep" P.kp
 cm:At1 H kvs "came" P.cm
 wn:At1 H kvs "went" P.wn
 up:At1 H kvs "up" P.up
 ul:At2 H kvs "up lists" P.ul
 dn:At1 H kvs "down" P.dn
 dl:At2 H kvs "down lists" P.dl
 wi:At1 H kvs "window" P.wi
 se:At1 H kvs "seen" P.se
 su:At1 H kvs "sums" P.su
def PdH(H:Hp)(d:Addr)(P:Pz):Prop:=∃kvs,H d=some (.dK kvs)/\Pd H kvs P
theorem Own.pd{H0 H:Hp}{d:Addr}{x:Ax}{s:Int}{P:Pz}(h:Own H0 H (LP d x s P))(e:x.bs.length=P.ul.length)(e0:P.dl=[]):PdH H d P:=by
 show#[_,h.at 0 rfl,#[_,bL 0 tb_g% rfl,h.at 1 rfl],#[_,bL 1 tb_g% rfl,h.at 2 rfl],#[_,bL 2 tb_g% rfl,h.at 3 rfl],#[_,bL 4 tb_g% rfl,h.at 5 rfl],#[_,x.bs,bL 3 tb_g% rfl,h.at 4 rfl,e,fun i b l h1 h2=>?_],#[_,bL 5 tb_g% rfl,h.at 6 rfl],#[_,[],bL 6 tb_g% rfl,h.at 7 rfl,by rw[e0];rfl,fun i b l h1=>?_],#[_,bL 7 tb_g% rfl,h.at 8 rfl],#[_,bL 8 tb_g% rfl,h.at 9 rfl],#[_,bL 10 tb_g% rfl,h.at 10 rfl]]
 ·refine h.at (11+i) ?_;show(_::_::_::_::_::_::_::_::_::_::_::x.bs.zip (P.ul.map li))[11+i]? = _;rw[show 11+i=i+1+1+1+1+1+1+1+1+1+1+1 by omega];simp only[WK];rw[Gq];show#[h1,by rw[cB,h2];rfl]
 ·rw[W0]at h1;cases h1
open MK
def Ent(H:Hp)(kvs:List (Key × V))(nm:Str)(z:Str × List Str):Prop:=∃l:List Int,At1 H kvs nm l/\(l.length<=200/\∀n∈l,n.natAbs<2 ^ 1000) /\
 ((inV (.str nm) [.str "up",.str "down"]=false/\z=(nm,l.map sI))\/(inV (.str nm) [.str "up",.str "down"]=true/\nm.length<=16/\∃ls:List (List Int),At2 H kvs (nm++aD " lists") ls/\(ls.length<=60/\(∀l∈ls,l.length<=64)/\∀l∈ls,∀n∈l,n.natAbs<10 ^ 20)/\z=(nm,l.map sI++rW ls)))
def hds:List Str:=["keep","came","went","up","down","window","seen","sums"]
theorem amw{H:Hp}{kvs:List (Key × V)}{P:Pz}(h:Pd H kvs P)(o:Ws P){i:Nat}{nm:Str}(e:hds[i]? = some nm):∃z,P.zs[i]? = some z/\Ent H kvs nm z:=by
 have i8:i<8:=(fO.mp e).1;have pl:∀{l:List Int}{nm:Str},At1 H kvs nm l->l∈[P.kp,P.cm,P.wn,P.wi,P.se,P.su]->inV (.str nm) [.str "up",.str "down"]=false->Ent H kvs nm (nm,l.map sI):=fun a m f=>#[_,a,o.l _ m,.inl #[f,rfl]];rcases(show i=0\/i=1\/i=2\/i=3\/i=4\/i=5\/i=6\/i=7 by omega)with rfl|rfl|rfl|rfl|rfl|rfl|rfl|rfl <;> obtain rfl:=bK e <;> show#[_,rfl,?_]
 ·exact pl h.kp (by simp) tb_g%
 ·exact pl h.cm (by simp) tb_g%
 ·exact pl h.wn (by simp) tb_g%
 ·show#[_,h.up,#[bW (o.u _ (by simp)).1 tb_g%,(o.u _ (by simp)).2],.inr #[by decide +kernel,by decide +kernel,_,by rw[show(("up" : Str)++aD " lists") = "up lists" by decide +kernel];exact h.ul,o.v _ (by simp),rfl]]
 ·show#[_,h.dn,#[bW (o.u _ (by simp)).1 tb_g%,(o.u _ (by simp)).2],.inr #[by decide +kernel,by decide +kernel,_,by rw[show(("down" : Str)++aD " lists") = "down lists" by decide +kernel];exact h.dl,o.v _ (by simp),rfl]]
 ·exact pl h.wi (by simp) tb_g%
 ·exact pl h.se (by simp) tb_g%
 ·exact pl h.su (by simp) tb_g%
def spTex(A:Ad):Sp:=fun vs H Q _=>Ex2 fun(d:Addr) (P:Pz)=>yZ (vs=[.ref d]) (PdH H d P) (Ws P) (∀H',Same H H'->Q (.str (bQ nl1 (lns P.zs))) H')
theorem ac2(T:Tx K mg A):FnK P w base T.J0 CX0 1 (spTex A):=by
 k_dat (T.J0,T.J0.ok,Nt) "f"
 ·obtain⟨d,P,rfl,⟨kvs,hd,hP⟩,ok,q⟩:=h;show#[_,by (k_dat ([hdA,eZ,inG],[Nt.nd,jy uq Dh Ak yM ?_ ?_],[fV [] ["_law_number"] [] ?_ (fun _ _ _ _=>eO) (fun _ _ _ _=>(vK rA (by rfl) T.ahu Yk (aP (pv 0) dB))),fV [] ["_law_thing"] [] ?_ (fun _ _ _ _=>eO) (fun _ _ _ _=>(vK rA (by rfl) T.ahu Yk (aP (pv 0) dB)))]) "p"; k_dat rB "h"; k_dat fj "h"; k_dat rB "h"; k_dat rB "h"),?_]
  k_dat (Ln,hLn) "t"
  k_dat (nwA hLn,H1,s1,e1) "n"
  have e1:H1 Ln=some (.lst (((lns P.zs).take 0).map V.str)):=e1
  k_dat (Z,hZ) "t"
  have s2:=Same.new (o:=.lst (hds.map V.str)) hZ;have z2:(upd H1 Z (.lst (hds.map V.str))) Z=some (.lst (hds.map V.str)):=aj;have e2:=s2 _ _ e1;refine(show ∀G,upd H1 Z (.lst (hds.map V.str))=G->_ from fun G hG=>?_) _ rfl;subst hG;show#[Z,rfl,#[_,.inl (.inl z2)],?_];generalize upd H1 Z (.lst (hds.map V.str))=H2 at s2 z2 e2 ⊢;have nL:=hLn;refine jw (K:=K) (a:=Z) (xs:=hds.map V.str) (fun i σ G=>Ex3 fun(y2 y3 y4:Option V)=>yZ (σ=[some (.ref d),some (.ref Ln),y2,y3,y4]) (G Ln=some (.lst (((lns P.zs).take i).map V.str))) (Same H G) (G Z=some (.lst (hds.map V.str)))) #[none,none,none,rfl,e2,s1.trans s2,z2] (fun i σ G _ ⟨_,_,_,_,_,_,g⟩=>.inl (.inl g)) ?_ ?_
  ·rintro i v σ G hi ⟨y2,y3,y4,rfl,gL,sG,gZ⟩;rw[cB,f9]at hi;obtain⟨nm,hn,rfl⟩:=hi;obtain⟨z,hz,l,⟨a,va,ha⟩,⟨l2,lb⟩,hE⟩:=amw hP ok hn;refine sq fun R hR=>#[_,rfl,tb_g%,fun W1 hW1=>?_]
   k_dat (nwA hW1,G1,t1,w1) "n"
   have a1:=(sG.trans t1) _ _ ha;show#[_,rfl,_,rfl,gb (.inl ((sG.trans t1) _ _ hd)) va #[a,rfl,#[_,.inl (.inl a1)],fun D hD=>?_]];refine eX (K:=K) (a:=a) (xs:=l.map V.int) (fun i ys G=>ys=((l.take i).map sI).map V.str/\G D=some (.lst ys)/\Same G1 G) #[rfl,aj,Same.new hD] ?_ ?_ ?_ ?_
   ·rintro i ys G hi ⟨rfl,gD,sG⟩;show#[.inl (.inl (sG _ _ a1)),gD,aL (by rw[aB,aB,fJ];omega)]
   ·rintro i ys G v hv ⟨rfl,gD,sG⟩;obtain⟨n,hi,rfl⟩:=int_at hv;show#[_,rfl,n,rfl,j6 (log2_small (k:=1000) (lb n (mv hi)) tb_g%) tb_g%,gD,?_,aj,fun b o e=>by rw[ao (ak e hD)];exact sG b o e];rw[iu,hi,bB,bB];rfl
   rotate_left
   ·exact aaO (fun vs H Q Q' hq ⟨i,a,b,c⟩=>#[i,a,b,hq _ _ c]) (M8 (dO 0) UJ)
   rintro ys G2 ⟨rfl,gD,t2⟩;rw[aB,lM]at gD;show#[W1,D,_,_,rfl,rfl,t2 _ _ w1,gD,fu (aL (by rw[aB,aB];show 1+_<=_;omega)),fun W hW=>?_]
   k_dat (nwA hW,G3,t3,fG3) "n"
   have w3:G3 W=some (.lst ((nm::(l.map sI++rW [])).map V.str)):=by rw[fG3,show rW []=[]from rfl,pO];rfl
   have s3:=t1.trans (t2.trans t3);have gz:=ok.gz z (mv hz);have i8:i<8:=(fO.mp hn).1;refine hR _ _ (sq fun R hR=>?_);have fin:∀(W':Addr)(G':Hp)(ws:List Str)(y:Option V),z=(nm,ws)->G' W'=some (.lst ((nm::ws).map V.str))->Same G G'->R [some (.ref d),some (.ref Ln),some (.str nm),some (.ref W'),y] G':=fun W' G' ws y ez hW' sG'=>by
    subst ez;have gL':=sG' _ _ gL;refine hR _ _ #[_,rfl,.inl #[rfl,_,.inl (.inl gL')],rfl,_,rfl,aD " ",W',nm::ws,rfl,rfl,.inl (.inl hW'),by decide +kernel,?_,Ln,_,_,rfl,rfl,gL',aL (by rw[aB,fJ];omega),?_]
    ·have:=gz.2;rw[dM,oR,cJ];dsimp only at this;omega
    ·show#[_,_,_,rfl,?_,fun b o e=>by rw[ao (ak e nL)];exact(sG.trans sG') b o e,by rw[ao (fun z=>by rw[z,e1]at hZ;cases hZ)];exact sG' _ _ gZ];have el:(lns P.zs)[i]? = some (ln nm ws):=by unfold lns;rw[cB,hz];rfl
     rw[aj,iu,el,bB];rfl
   show#[_,rfl,tb_g%,fun p hp=>?_];have t4:=Same.new (o:=.lst [.str "up",.str "down"]) hp;refine .inl #[p,_,rfl,.inl (.inl (.inl aj)),rfl,rfl,_,rfl,?_];have w4:=t4 _ _ w3;have s4:=s3.trans t4;refine(show ∀G4,upd G3 p (.lst [.str "up",.str "down"])=G4->_ from fun G4 h4=>?_) _ rfl;rw[h4]at t4 w4 s4 ⊢;clear h4;show(if inV (.str nm) [.str "up",.str "down"]=true then _ else _);rcases hE with⟨f,ez⟩|⟨f,n16,ls,⟨a',bs,va',ha',lbs,hb⟩,⟨l60,l64,l20⟩,ez⟩
   ·rw[f];exact tL (fin W _ _ _ (by rw[ez,show rW []=[]from rfl,pO]) w4 s4)
   rw[f];refine jP ?_;have sH:=sG.trans s4;show#[_,rfl,_,rfl,nm,aD " lists",rfl,rfl,bW (Nat.add_le_add n16 (show(aD " lists").length<=6 by decide +kernel)) tb_g%,gb (.inl (sH _ _ hd)) va' #[a',rfl,#[_,.inl (.inl (sH _ _ ha'))],?_]];refine jw (K:=K) (a:=a') (xs:=bs.map V.ref) (fun j σ G5=>Ex2 fun(W':Addr) (y:Option V)=>vm (σ=[some (.ref d),some (.ref Ln),some (.str nm),some (.ref W'),y]) (G5 W'=some (.lst ((nm::(l.map sI++rW (ls.take j))).map V.str))) (Same G4 G5)) #[W,y4,rfl,w4,Same.refl _] (fun j σ G5 _ ⟨_,_,_,_,s⟩=>.inl (.inl (s _ _ (sH _ _ ha')))) ?_ ?_
   ·rintro j v σ G5 hj ⟨W',y,rfl,hW',s5⟩;rw[cB,f9]at hj;obtain⟨b,hj,rfl⟩:=hj;have lj:j<ls.length:=by rw[<-lbs];exact(fO.mp hj).1
    have hk:=dH lj;generalize ls[j]=k at hk;have mk:=mv hk;have kb:∀n∈k,n.natAbs<2 ^ 1000:=fun n m=>j6 (l20 k mk n m) tb_g%;have k64:=l64 k mk;have hB:=(sH.trans s5) _ _ (hb j b k hj hk);have rl:=vp (ls:=ls.take j) fun l m=>l64 l (Gw m);rw[fJ]at rl;show#[_,rfl,tb_g%,fun p1 hp1=>?_];have u1:=Same.new (o:=.lst [.str "/"]) hp1;show#[W',p1,_,_,rfl,rfl,u1 _ _ hW',aj,fu (Cw (by rw[aB,cJ,cj,aB];show _+1<=_;omega)),fun W2 hW2=>?_];generalize upd G5 p1 (.lst [.str "/"])=G6 at u1 hW2 ⊢
    k_dat (nwA hW2,G7,u2,w2) "n"
    have b7:=(u1.trans u2) _ _ hB;show#[_,rfl,b,rfl,#[_,.inl (.inl b7)],fun D2 hD2=>?_];refine eX (K:=K) (a:=b) (xs:=k.map V.int) (fun i ys G=>ys=((k.take i).map sI).map V.str/\G D2=some (.lst ys)/\Same G7 G) #[rfl,aj,Same.new hD2] ?_ ?_ ?_ ?_
    ·rintro i ys G hi ⟨rfl,gD,sG⟩;show#[.inl (.inl (sG _ _ b7)),gD,aL (by rw[aB,aB,fJ];omega)]
    ·rintro i ys G v hv ⟨rfl,gD,sG⟩;obtain⟨n,hi,rfl⟩:=int_at hv;show#[_,rfl,n,rfl,j6 (log2_small (k:=1000) (kb n (mv hi)) tb_g%) tb_g%,gD,?_,aj,fun b o e=>by rw[ao (ak e hD2)];exact sG b o e];rw[iu,hi,bB,bB];rfl
    rotate_left
    ·exact aaO (fun vs H Q Q' hq ⟨i,a,b,c⟩=>#[i,a,b,hq _ _ c]) (M8 (dO 0) UJ)
    rintro ys G8 ⟨rfl,gD2,u3⟩;rw[aB,lM]at gD2;show#[W2,D2,_,_,rfl,rfl,u3 _ _ w2,gD2,fu (Cw (by rw[cj,aB,cJ,cj,aB,aB,aB];show _+1+_<=_;omega)),fun W3 hW3=>?_];show#[W3,_,rfl,?_,s5.trans (u1.trans (u2.trans (u3.trans (Same.new hW3))))];rw[aj,iu,hk];show some (HO.lst _)=some (HO.lst ((nm::(l.map sI++rW (ls.take j++[k]))).map V.str));unfold rW;rw[zL,adk];simp only[bB,dM,fH,GD,GF]
   ·rintro σ G5 ⟨W',y,rfl,hW',s5⟩;rw[aB,lbs,lM]at hW';exact fin W' _ _ _ ez hW' (s4.trans s5)
  ·rintro σ G ⟨y2,y3,y4,rfl,gL,sG,gZ⟩;have e:(lns P.zs).take (hds.map V.str).length=lns P.zs:=Gj tb_g%;rw[e]at gL;have tl:((lns P.zs).map (·.length)).sum+(lns P.zs).length<=1048576:=by
    have h3:∀zs:Zs,Gz zs->((lns zs).map (·.length)).sum+(lns zs).length<=96018*zs.length:=by
     intro zs
     induction zs with
     |nil=>intro _;exact aO _
     |cons z zs ih =>
      intro g;have k1:=ih fun y m=>g y (cR _ m);have k2:=j4 (g z bV).2.1 (g z bV).2.2;show(ln z.1 z.2).length+((lns zs).map (·.length)).sum+((lns zs).length+1)<=96018*(zs.length+1);omega
    exact bW (h3 _ ok.gz) (by show 96018*8<=_;decide)
   show#[rfl,_,rfl,aD "\n",Ln,lns P.zs,rfl,rfl,.inl (.inl gL),by decide +kernel,tl,q _ sG]
open MK
def spRef(A:Ad):Sp:=fun vs H Q _=>Ex3 fun(zs:Zs) (y:KS) (k:Nat)=>V1 (vs=[.str (bQ nl1 (lns zs)),.int (k+1:Nat)]) (Gz zs) ((zs≠[]/\zs.length<=9)) (Sd y) (Fau y k zs) (∀H',Same H H'->Q (.bl true) H')
theorem Tc(T:Tx K mg A):FnK P w base T.vf CX0 12 (spRef A):=by
 k_dat (T.vf,T.vf.ok,lH) "f"
 ·obtain ⟨zs,y,k,rfl,gz,nz,S,F,q⟩:=h;show#[_,(qg (psS 2 lH.nd (QB dB))
   (qg (aix (i:=3) (B:=A.C'6) rfl rfl rfl T.Nq lH.nd rfl rfl (aiw (qF T).2 tb_g% rfl T.dW.g T.dW.kp T.dW.b .nil (aP (pv 0) dB)) (fun _=>(qg (psS 2 lH.nd (QB (aP (ahf (pv 3) rfl) (aP (cN JB (by rfl) T.gU Tr (aP (pv 3) (aP (cW (v:=.ref A.C'7) (by rfl) T.Dq (by rfl)) dB))) (aP (cN JB (by rfl) T.gU Tr (aP (pv 3) (aP (Qw (v:=.ty "ValueError") rfl T.Rz PyProof.Rows.Boot.«ValueError» rfl) dB))) dB)))))
   (yD (Qx (alP Dg aeU aeV Bj (pv 2) (aP (cN Vd (by rfl) T.gU Tr (aP (pv 3) (aP (alp (aP (cW (v:=.ref A.C'8) (by rfl) T.Rv (by rfl)) (aP (cW (v:=.ref A.C'9) (by rfl) T.acR (by rfl)) (aP (cW (v:=.ref A.Qs) (by rfl) T.Rw (by rfl)) (aP (cW (v:=.ref A.Qt) (by rfl) T.ahq (by rfl)) dB))))) dB))) dB)))))))
   (qg (ajj (PW.pt (pw_or (aaz ajk (cN MP (by rfl) T.ajE aed (aP (pv 2) dB)) iT (Jd _)) (pw_or (afY (Y0 (cN call_isinstance (by rfl) T.gU Tr (aP (Uc (ixG (agm hr)) (pv 2) iT (fun _ _=>rfl)) (aP (Qw (v:=.ty "int") rfl T.ajD aeP rfl) dB))))) (pw_or1 (Y0 (cN call_isinstance (by rfl) T.gU Tr (aP (Uc (ixG (agm hr)) (pv 2) iT (fun _ _=>rfl)) (aP (Qw (v:=.ty "bool") rfl T.alW ajS rfl) dB)))))))) (yD (Y4 TQ)) aat)
   (yD (Y4 (yE (agP hr.units) (pv 2) (QB (aP (pv 1) (aP TQ (aP TQ (aP TQ dB))))) (Jd _))))))),?_]
  k_dat (D,hD) "t"
  k_dat (nwA hD,H1,s1,fH1) "n"
  show#[_,rfl,zs,y,rfl,gz,nz,S,.inr #[k,cU _,F,fun d H2 s2 x2=>#[A.C'6,rfl,T.xT,fun e he=>?_]]];have ne:d≠e:=ak x2 he;have s3:=s2.trans (Same.new (o:=xJ e A.C'6 (some d)) he);have ee:(upd H2 e (xJ e A.C'6 (some d))) e=some (xJ e A.C'6 (some d)):=aj;have xd:(upd H2 e (xJ e A.C'6 (some d))) d=some (.xd [("line",.int (k+1:Nat))]):=by rwa[ao ne]
  generalize upd H2 e (xJ e A.C'6 (some d))=H3 at s3 ee xd ⊢;show#[_,rfl,e,A.C'6,d,_,_,rfl,ee,xd,T.rH,T.xR.na,T.xR.hd,rfl,?_];show#[_,rfl,#[e,A.C'6,_,_,_,true,rfl,ee,T.rH,rfl,(fun _ h=>h),T.cD,?_]];show#[_,rfl,#[e,A.C'6,_,_,_,true,rfl,ee,T.rH,rfl,(fun _ h=>h),T.cu,?_]]
  k_dat (L,hL) "t"
  k_dat (nwA hL,H4,s4,l4) "n"
  show#[_,rfl,.inl #[rfl,_,.inl (.inl l4)],_,rfl,tb_g%,fun tp htp=>?_]
  k_dat (nwA htp,H5,s5,t5) "n"
  show#[e,A.C'6,tp,_,[A.C'8,A.C'9,A.Qs,A.Qt],false,rfl,s5 _ _ (s4 _ _ ee),T.rH,t5,T.iR,?_];show#[L,_,_,rfl,rfl,s5 _ _ l4,tb_g%,?_];have nL:H3 L=none:=hL;have s6:Same H3 (upd H5 L (.lst ([.int (k+1:Nat),.bl true,.bl true]++[.bl false]))):=fun b o z=>by rw[ao (ak z nL)];exact s5 _ _ (s4 b o z)
  have l6:(upd H5 L (.lst ([.int (k+1:Nat),.bl true,.bl true]++[.bl false]))) L=some (.lst [.int (k+1:Nat),.bl true,.bl true,.bl false]):=aj;generalize upd H5 L (.lst ([.int (k+1:Nat),.bl true,.bl true]++[.bl false]))=H6 at s6 l6 ⊢;have sL:SqL K H6 L [.int (k+1:Nat),.bl true,.bl true,.bl false]:=.inl (.inl l6);show#[_,rfl,cQ sL #[rfl,_,rfl,Jh rfl ?_]];show#[_,rfl,aH sL (v:=.int (k+1:Nat)) rfl (ags T.acT #[_,rfl,tL ?_])];show#[_,rfl,aH sL (v:=.int (k+1:Nat)) rfl (ags T.Z0 #[_,rfl,tL ?_])];show#[_,rfl,_,rfl,tb_g%,fun M hM=>?_];have s7:=Same.new (o:=.lst [.int (k+1:Nat),.bl true,.bl true,.bl false]) hM;show#[1,L,M,rfl,rfl,by decide,.lst (.inl (.inl (s7 _ _ l6))) (.inl (.inl aj)) rfl (fun i x y h1 h2=>?_),q _ (s1.trans (s3.trans (s6.trans s7)))];obtain rfl:=bK (h1.symm.trans h2);have m:=mv h1
  k_dat m "d"
  rcases m with rfl|rfl|rfl|rfl <;> exact .flat rfl
def wrs:Zs:=[(aD "",[]),(aD "x",[]),(aD "sums",[aD "1",aD "2",aD "3",aD "4"]),(aD "sums",[aD "1",aD "2",aD "x",aD "4"]),(aD "sums",[aD "1",aD "2",aD "3"]),(aD "Sums",[aD "1",aD "2",aD "3",aD "4"]),(aD "seen",[aD "0",aD "0",aD "",aD ""])]
theorem aad{z:Str × List Str}(m:z∈wrs):(∀u∈z.1::z.2,Gb u)/\z.1.length<=16/\(z.2.map (·.length)).sum+z.2.length<=96000:=by
 have c:∀z∈wrs,(∀u∈z.1::z.2,32∉cL u/\10∉cL u)/\z.1.length<=16/\(z.2.map (·.length)).sum+z.2.length<=96000:=by decide +kernel
 show#[fun u mu=>#[((c z m).1 u mu).1,((c z m).1 u mu).2],(c z m).2]
theorem amx:lns wrs=[aD "",aD "x",aD "sums 1 2 3 4",aD "sums 1 2 x 4",aD "sums 1 2 3",aD "Sums 1 2 3 4",aD "seen 0 0  "]:=by decide +kernel
theorem yd(i:Nat){t:Str}(h:[aD "",aD "x",aD "sums 1 2 3 4",aD "sums 1 2 x 4",aD "sums 1 2 3",aD "Sums 1 2 3 4",aD "seen 0 0  "][i]? = some t):∃z,z∈wrs/\t=ln z.1 z.2:=by
 rw[<-amx]at h;unfold lns at h;rw[cB]at h;obtain⟨z,hz,e⟩:=f9.mp h;show#[z,mv hz,e.symm]
def spWor:Sp:=fun vs H Q _=>Ex3 fun(zs:Zs) (k:Nat) (c:Int)=>V0 (vs=[.str (bQ nl1 (lns zs)),.int (k+1:Nat),.int c]) (Gz zs) (zs.length=8) (k<8) (∀(zs':Zs)(H':Hp),Gz zs'->(zs'≠[]/\zs'.length<=9)->(∀i,i<=k->zs'[i]? = zs[i]?)->Same H H'->Q (.str (bQ nl1 (lns zs'))) H')
theorem aae(T:Tx K mg A):FnK P w base T.Ce CX0 1 spWor:=by
 k_dat (T.Ce,T.Ce.ok,Ka) "f"
 ·obtain⟨zs,k,c,rfl,gz,z8,k8,q⟩:=h;have nz:zs≠[]:=fun e=>by rw[e]at z8;cases z8
  have l8:(lns zs).length=8:=by unfold lns;rwa[aB]
  show#[_,by k_dat ([],[Ka.nd,jy uq Yo Yp Js ?_ ?_,alv Dg PySem.F.slot_list_pop PySem.F.type_list_pop alw ?_,jy uq Dh Ak yM ?_ ?_],[]) "p",?_];refine sq fun R hR=>#[_,rfl,rfl,_,_,rfl,rfl,by decide +kernel,text_len gz tb_g%,fun D hD=>?_];rw[abC gz nz]
  k_dat (nwA hD,H1,s1,d1) "n"
  refine hR _ _ (sq fun R hR=>#[_,rfl,_,_,rfl,rfl,(by show(0:Int)<6;decide),?_]);have fin:∀(zs':Zs)(G:Hp)(h:Int),Gz zs'->(zs'≠[]/\zs'.length<=9)->(∀i,i<=k->zs'[i]? = zs[i]?)->Same H G->G D=some (.lst ((lns zs').map V.str))->tRet (tBM K "str" (rJoin K) (tC (V.str (aD "\n"))) (aaB (TJ 3) agb)) { nx:=fun _ H'=>Q V.non H',rt:=Q } [some (.str (bQ nl1 (lns zs))),some (.int (k+1:Nat)),some (.int c),some (.ref D),some (.int h)] G:=fun zs' G h g n e sG gD=>by
   have tl:((lns zs').map (·.length)).sum+(lns zs').length<=1048576:=by
    have h3:∀zs:Zs,Gz zs->((lns zs).map (·.length)).sum+(lns zs).length<=96018*zs.length:=by
     intro zs
     induction zs with
     |nil=>intro _;exact aO _
     |cons z zs ih =>
      intro g;have k1:=ih fun y m=>g y (cR _ m);have k2:=j4 (g z bV).2.1 (g z bV).2.2;show(ln z.1 z.2).length+((lns zs).map (·.length)).sum+((lns zs).length+1)<=96018*(zs.length+1);omega
    have:=h3 _ g;have:=n.2;omega
   show#[rfl,_,rfl,aD "\n",D,lns zs',rfl,rfl,.inl (.inl gD),by decide +kernel,tl,q zs' _ g n e sG]
  have c6:c % 6=0\/c % 6=1\/c % 6=2\/c % 6=3\/4<=c % 6:=by omega
  have same:∀i,i<=k->zs[i]? = zs[i]?:=fun _ _=>rfl;refine hR _ _ (sq fun R hR=>?_);rcases c6 with h0|h0|h0|h0|h0
  ·skip
   have jj:c / 6 % 3=0\/c / 6 % 3=1\/c / 6 % 3=2:=by omega
   obtain⟨t,z,et,mz,ez⟩:∃(t:Str)(z:Str × List Str),atI [V.str (aD ""),V.str (aD "x"),V.str (aD "sums 1 2 3 4")] (c / 6 % 3)=some (.str t)/\z∈wrs/\t=ln z.1 z.2:=by
    rcases jj with e|e|e <;> rw[e]
    ·obtain⟨z,m,e⟩:=yd 0 rfl;show#[_,z,rfl,m,e]
    ·obtain⟨z,m,e⟩:=yd 1 rfl;show#[_,z,rfl,m,e]
    ·obtain⟨z,m,e⟩:=yd 2 rfl;show#[_,z,rfl,m,e]
   have gz9:=aad mz;show#[_,rfl,rfl,_,rfl,aY (fun _=>?_) fun e=>absurd (decide_eq_true (congrArg V.int h0)) e];show#[_,rfl,.inl #[rfl,_,.inl (.inl d1)],tb_g%,fun p hp=>?_];have s2:=Same.new (o:=.lst [.str (aD ""),.str (aD "x"),.str (aD "sums 1 2 3 4")]) hp;show#[_,rfl,_,_,rfl,rfl,#[by decide,by decide],_,_,rfl,rfl,(by show(0:Int)<3;decide),aH (.inl (.inl aj)) et #[D,_,_,rfl,rfl,s2 _ _ d1,aL (by rw[aB,l8];decide),?_]];generalize upd H1 p (.lst [.str (aD ""),.str (aD "x"),.str (aD "sums 1 2 3 4")])=H2 at s2 ⊢;have el:(lns zs).map V.str++[V.str t]=(lns (zs++[z])).map V.str:=by unfold lns;rw[bB,bB,ez];rfl
   rw[el]
   walk_at "a"
   walk_at "a"
   walk_at "a"
   refine hR _ _ (fin (zs++[z]) _ _ (fun y m=>?_) #[by simp,by rw[cj,z8];show 8+1<=9;decide] (fun i hi=>by rw[Gn tb_g%]) (fun b o e=>by rw[ao (ak e hD)];exact s2 _ _ (s1 b o e)) aj)
   walk_at "C"
   ·exact gz y m
   ·rwa[eY.mp m]
  ·show#[_,rfl,rfl,_,rfl,aY (fun e=>absurd (V.int.inj (of_decide_eq_true e)) tb_g%) fun _=>?_];refine hR _ _ (sq fun R hR=>#[_,rfl,rfl,_,rfl,aY (fun _=>?_) fun e=>absurd (decide_eq_true (congrArg V.int h0)) e]);show#[_,rfl,_,_,rfl,rfl,_,rfl,aY (fun l=>?_) fun _=>?_]
   ·have l:((k+1:Nat):Int)<8:=of_decide_eq_true l;show#[_,rfl,.inl #[rfl,_,.inl (.inl d1)],D,_,_,rfl,rfl,d1,dH (by rw[aB,l8];decide),?_];rw[show((lns zs).map V.str).dropLast=(lns zs.dropLast).map V.str by unfold lns;rw[adv,adv]]
    walk_at "a"
    walk_at "a"
    refine hR _ _ (fin zs.dropLast _ _ (fun y m=>gz y (List.dropLast_subset _ m)) #[fun e=>?_,by rw[WM,z8];decide] (fun i hi=>?_) (fun b o e=>by rw[ao (ak e hD)];exact s1 b o e) aj)
    ·have:=congrArg lO e;rw[WM,z8]at this;cases this
    ·rw[List.getElem?_dropLast,if_pos tb_g%]
   ·skip
    walk_at "a"
    walk_at "a"
    exact hR _ _ (fin zs _ _ gz #[nz,by omega] same s1 d1)
  ·show#[_,rfl,rfl,_,rfl,aY (fun e=>absurd (V.int.inj (of_decide_eq_true e)) tb_g%) fun _=>?_]
   walk_at "a"
   refine hR _ _ (sq fun R hR=>#[_,rfl,rfl,_,rfl,aY (fun _=>?_) fun e=>absurd (decide_eq_true (congrArg V.int h0)) e]);show#[_,rfl,_,_,rfl,rfl,_,rfl,aY (fun l=>?_) fun _=>?_]
   ·have l:((k+1:Nat):Int)<8:=of_decide_eq_true l;have jj:c / 6 % 3=0\/c / 6 % 3=1\/c / 6 % 3=2:=by omega
    obtain⟨t,z,et,mz,ez⟩:∃(t:Str)(z:Str × List Str),atI [V.str (aD "sums 1 2 x 4"),V.str (aD "sums 1 2 3"),V.str (aD "Sums 1 2 3 4")] (c / 6 % 3)=some (.str t)/\z∈wrs/\t=ln z.1 z.2:=by
     rcases jj with e|e|e <;> rw[e]
     ·obtain⟨z,m,e⟩:=yd 3 rfl;show#[_,z,rfl,m,e]
     ·obtain⟨z,m,e⟩:=yd 4 rfl;show#[_,z,rfl,m,e]
     ·obtain⟨z,m,e⟩:=yd 5 rfl;show#[_,z,rfl,m,e]
    have gz9:=aad mz
    k_dat (p,hp) "t"
    have s2:=Same.new (o:=.lst [.str (aD "sums 1 2 x 4"),.str (aD "sums 1 2 3"),.str (aD "Sums 1 2 3 4")]) hp;show#[_,rfl,_,_,rfl,rfl,#[by decide,by decide],_,_,rfl,rfl,(by show(0:Int)<3;decide),aH (.inl (.inl aj)) et #[_,rfl,.inl #[D,_,7,7,rfl,rfl,s2 _ _ d1,by rw[aB,l8];rfl,?_]]];generalize upd H1 p (.lst [.str (aD "sums 1 2 x 4"),.str (aD "sums 1 2 3"),.str (aD "Sums 1 2 3 4")])=H2 at s2 ⊢;rw[show((lns zs).map V.str).set 7 (.str t)=(lns (zs.set 7 z)).map V.str by unfold lns;rw[lN,lN,ez]]
    walk_at "a"
    refine hR _ _ (fin (zs.set 7 z) _ _ (fun y m=>?_) #[fun e=>nz ?_,by rw[GJ];omega] (fun i hi=>by rw[Gk tb_g%]) (fun b o e=>by rw[ao (ak e hD)];exact s2 _ _ (s1 b o e)) aj)
    ·rcases Mi m with m|rfl
     ·exact gz y m
     ·exact gz9
    ·have:=congrArg lO e;rw[GJ]at this;exact vV.mp this
   ·skip
    walk_at "a"
    exact hR _ _ (fin zs _ _ gz #[nz,by omega] same s1 d1)
  ·show#[_,rfl,rfl,_,rfl,aY (fun e=>absurd (V.int.inj (of_decide_eq_true e)) tb_g%) fun _=>?_]
   walk_at "a"
   walk_at "a"
   refine hR _ _ (sq fun R hR=>#[_,rfl,rfl,_,rfl,aY (fun _=>?_) fun e=>absurd (decide_eq_true (congrArg V.int h0)) e]);show#[_,rfl,_,_,rfl,rfl,_,rfl,aY (fun l=>?_) fun _=>?_]
   ·have l:((k+1:Nat):Int)<7:=of_decide_eq_true l;obtain⟨z,mz,ez⟩:=yd 6 rfl;show#[_,rfl,.inl #[D,_,6,6,rfl,rfl,d1,by rw[aB,l8];rfl,?_]];rw[ez,show((lns zs).map V.str).set 6 (.str (ln z.1 z.2))=(lns (zs.set 6 z)).map V.str by unfold lns;rw[lN,lN]];refine hR _ _ (fin (zs.set 6 z) _ _ (fun y m=>?_) #[fun e=>nz ?_,by rw[GJ];omega] (fun i hi=>by rw[Gk tb_g%]) (fun b o e=>by rw[ao (ak e hD)];exact s1 b o e) aj)
    ·rcases Mi m with m|rfl
     ·exact gz y m
     ·exact aad mz
    ·have:=congrArg lO e;rw[GJ]at this;exact vV.mp this
   ·exact hR _ _ (fin zs _ _ gz #[nz,by omega] same s1 d1)
  ·show#[_,rfl,rfl,_,rfl,aY (fun e=>absurd (V.int.inj (of_decide_eq_true e)) tb_g%) fun _=>?_]
   walk_at "a"
   walk_at "a"
   walk_at "a"
   exact hR _ _ (fin zs _ _ gz #[nz,by omega] same s1 d1)
theorem eight{l:List Int}(h:l.length=8):∃a b c d e f g i,l=[a,b,c,d,e,f,g,i]:=by
 rcases l with _|⟨a,_|⟨b,_|⟨c,_|⟨d,_|⟨e,_|⟨f,_|⟨g,_|⟨i,_|⟨j,l⟩⟩⟩⟩⟩⟩⟩⟩⟩;all_goals first|show#[a,b,c,d,e,f,g,i,rfl]|(simp at h)
theorem Own.ins{H0 H:Hp}{L L':List (Addr × HO)}{n:Addr}{o:HO}(h:Own H0 H L)(hn:H n=none)(k:Nat)(e:L.take k++(n,o)::L.drop k=L'):Own H0 (upd H n o) L':=by
 have g:=h.new (o:=o) hn;have p:L'.Perm ((n,o)::L):=by
  rw[<-e];refine List.perm_middle.trans ?_;rw[List.take_append_drop]
 show#[g.1,(p.map _).nodup_iff.mpr g.2.1,fun q m=>g.2.2 q (p.mem_iff.mp m)]
theorem Own.step{P:Hp->Prop}{H0 H:Hp}{L L':List (Addr × HO)}{a:Addr}{o o':HO}(h:Own H0 H L)(i:Nat)(e:L[i]? = some (a,o))(e':L.set i (a,o')=L')(k:∀F,Own H0 F L'->P F):P (upd H a o'):=k _ (h.set i e e')
theorem Own.del{H0 H:Hp}{L L':List (Addr × HO)}(h:Own H0 H L)(i:Nat)(e:L.eraseIdx i=L'):Own H0 H L':=h.sub (e ▸ List.eraseIdx_sublist L i)
theorem Own.got{H0 F J:Hp}{L L':List (Addr × HO)}{n:Addr}{o:HO}(h:Own H0 F L)(s:Same F J)(hn:F n=none)(ho:J n=some o)(k:Nat)(e:L.take k++(n,o)::L.drop k=L'):Own H0 J L':=by
 have g:=h.ins (o:=o) hn k e;show#[h.1.trans s,g.2.1,fun p m=>#[?_,(g.2.2 p m).2]];rw[<-e]at m
 walk_at "C"
 ·exact s _ _ (h.2.2 p (Gw m)).1
 ·walk_at "G"
  ·exact ho
  ·exact s _ _ (h.2.2 p (WQ m)).1
theorem ixL{n j:Nat}(h:j<n):ixN n (j:Int)=some j:=by
 unfold ixN;rw[if_pos tb_g%,if_pos tb_g%,Yx]
theorem Td(c:Tab)(p:Int × Int):pN (c++[p])=pN c++[p.1,p.2]:=by
 unfold pN;rw[zL,adk]
def cI(m:Int)(w:Nat->Int)(i:Nat):Tab:=(dY i).map fun k:Nat=>((k:Int)*m,w k)
theorem abJ(m:Int)(w:Nat->Int)(i:Nat):cI m w (i+1)=cI m w i++[((i:Int)*m,w i)]:=by
 unfold cI;rw[GR,bB];rfl
def sI9(m:Int)(w:Nat->Int)(i:Nat):Int:=(vals (cI m w i)).sum
theorem ahW(m:Int)(w:Nat->Int)(i:Nat):sI9 m w (i+1)=sI9 m w i+w i:=by
 unfold sI9 vals;rw[abJ,bB,zN];simp
theorem amy(m:Int)(w:Nat->Int)(i:Nat):(pN (cI m w i)).length=2*i:=by
 rw[xX];unfold cI;rw[aB,pL]
open MK
def spPln:Sp:=fun vs H Q _=>Ex2 fun(z:Addr) (cs:List Int)=>yZ (vs=[.ref z]) (H z=some (.lst (cs.map V.int))) (cs.length<=8) (∀(d:Addr)(x:Ax)(s:Int)(b:Bs)(H':Hp),Wr b->Own H H' (LP d x s b.pz)->x.bs.length=2->(0<=s/\s<1152921504606846976)->Q (.ref d) H')
theorem ac3(T:Tx K mg A):FnK P w base T.J4 CX0 2 spPln:=by
 k_dat (T.J4,T.J4.ok,lJ) "f"
 ·obtain⟨z,cs,rfl,hz,l8,q⟩:=h;show#[_,by (k_dat ([hdA,ain,agk,alk,IV,Y7],[lJ.nd,Jb (i:=1) lJ.nd rfl (Or.inr rfl) ?_,aio ?_ rfl rfl (iw _ _) tb_g%,Ms rfl T.RD ?_,jy Dg HW HX vL ?_ ?_,ah8 ?_ ?_ agT ?_ alh set_list,Jb (i:=6) lJ.nd rfl (Or.inr rfl) ?_,Jb (i:=12) lJ.nd rfl (Or.inr rfl) ?_,T8 (wC T).2 tb_g% rfl T.dF.g T.dF.kp T.dF.b .nil Uk,Jb (i:=13) lJ.nd rfl (Or.inr rfl) ?_,cN (lF rfl) (by rfl) T.yU Qc ?_,eZ ?_],[fV [] ["_law_cell"] [] ?_ (fun _ _ _ _=>eO) (fun _ _ _ _=>(aC (V8 T) (aP (pv 0) (aP iT (aP iT dB))))),fV [("_law_low",s.heap.objs.size+1+1)] ["_law_k","_law_low"] [6] ?_ (fun _ _ _ _=>eO) (fun _ _ _ _=>(sS bY (pv 1) (sS aav (pv 0) iT))),fV [("_law_low",s.heap.objs.size+1+1)] ["_law_k","_law_low"] [6] ?_ (fun _ _ _ _=>eO) (fun _ _ _ _=>(sS bY (pv 1) (sS Qy iT (pv 0)))),fV [("_law_way",s.heap.objs.size+1+3),("_law_some",s.heap.objs.size+1),("_law_level",s.heap.objs.size+1+2)] ["_law_k","_law_way","_law_level","_law_some"] [13,12,1] (te:=(tOp _ (tOp _ (tOp _ (tOp _ _ (tOp _ _ (tOp _ (tOp _ (tOp (Ul K) _ _) _) _))) _) _) _)) ?_ (fun _ _ _ _=>eO) (fun _ _ _ _=>(sS Y6 (sS Qy (sS Y7 (sS bY iT (sS Qy iT (sS bY (sS Y6 (Uc (ixG tb_g%) (pv 3) iT (fun _ _=>rfl)) iT) (pv 0)))) (pv 2)) (pv 1)) iT))]) "p"; k_dat rB "h"; k_dat bY "h"; k_dat bY "h"; k_dat bY "h"; k_dat bY "h"; k_dat bY "h"; k_dat bY "h"; k_dat bY "h"; k_dat bY "h"; k_dat bY "h"; k_dat bY "h"; k_dat bY "h"; k_dat bY "h"; k_dat bY "h"; k_dat bY "h"; k_dat bY "h"; k_dat bY "h"; k_dat bY "h"; k_dat bY "h"; k_dat rB "h"; k_dat bY "h"; k_dat bY "h"; k_dat bY "h"),?_];refine sq fun R hR=>#[_,rfl,tb_g%,fun p hp=>?_]
  k_dat (nwA hp,H1,s1,e1) "n"
  show#[z,p,_,_,rfl,rfl,s1 _ _ hz,e1,fu (aL (by rw[aB];show _+8<=_;omega)),fun c hc=>?_]
  k_dat (nwA hc,H2,zH2,fH2) "n"
  have s2:=s1.trans zH2;have c2:H2 c=some (.lst ((cs++[3,1,4,1,5,9,2,6]).map V.int)):=by rw[fH2,bB];rfl
  show#[8,rfl,c,_,rfl,.inl (.inl c2),fun t ht=>?_];obtain⟨ms,em,m8⟩:∃ms:List Int,pC ((cs++[3,1,4,1,5,9,2,6]).map V.int) none (some 8)=ms.map V.int/\ms.length=8:=by
   show#[(cs++[3,1,4,1,5,9,2,6]).take 8,?_,?_]
   ·unfold pC;rw[show HT.sIx _ _ (some (8:Int))=_ from HT.Ga _ _ 8,HT.Ua,W8,Xa,aeB,aey (by rw[aB,cj];show 8<=_+8;omega)]
   ·rw[fJ,cj];show min 8 (_+8)=8;omega
  rw[em]
  k_dat (nwA ht,H3,zH3,t3) "n"
  have s3:=s2.trans zH3;show#[t,rfl,#[_,.inl (.inl t3)],fun D hD=>?_];refine eX (K:=K) (a:=t) (xs:=ms.map V.int) (fun i ys G=>ys=((ms.take i).map fun c=>c*48271 % 2147483647).map V.int/\G D=some (.lst ys)/\Same H3 G) #[rfl,aj,Same.new hD] ?_ ?_ ?_ ?_
  ·rintro i ys G hi ⟨rfl,gD,sG⟩;show#[.inl (.inl (sG _ _ t3)),gD,aL (by rw[aB,aB,fJ];omega)]
  ·rintro i ys G v hv ⟨rfl,gD,sG⟩;obtain⟨c,hi,rfl⟩:=int_at hv;show#[_,rfl,c,48271,2147483647,rfl,by decide,by decide,by decide,gD,?_,aj,fun b o e=>by rw[ao (ak e hD)];exact sG b o e];rw[iu,hi,bB,bB];rfl
  rotate_left
  ·rintro σ H R R' hq ⟨v,e,c,f,p,e2,h1,h2,h3,q⟩;show#[v,e,c,f,p,e2,h1,h2,h3,hq _ _ q]
  rintro ys G ⟨rfl,gD,sG⟩;rw[aB,lM]at gD;obtain⟨a0,a1,a2,a3,a4,a5,a6,a7,ea⟩:=eight (l:=ms.map fun c=>c*48271 % 2147483647) (by rwa[aB]);have bd:∀x∈[a0,a1,a2,a3,a4,a5,a6,a7],0<=x/\x<2147483647:=fun x m=>by
   rw[<-ea]at m;obtain⟨c,_,rfl⟩:=fL.mp m;show#[qP _ tb_g%,Dk _ tb_g%]
  rw[ea]at gD;have b0:=bd a0 (by simp);have b1:=bd a1 (by simp);have b2:=bd a2 (by simp);have b3:=bd a3 (by simp);have b4:=bd a4 (by simp);have b5:=bd a5 (by simp);have b6:=bd a6 (by simp);have b7:=bd a7 (by simp);have nD:H D=none:=s3.free hD;have O0:Own H G [(D,.lst [.int a0,.int a1,.int a2,.int a3,.int a4,.int a5,.int a6,.int a7])]:=⟨s3.trans sG,fK.mpr ⟨(fun m=>nomatch m),.nil⟩,fun p m=>by rw[eY.mp m];exact⟨gD,nD⟩⟩;clear bd ea gD sG s3 t3 s2 c2 s1 e1 hp hc ht hD em m8 hz l8;have hS:=O0.at 0 rfl;refine hR _ _ (sq fun R hR=>⟨_,rfl,aH (.inl (.inl hS)) (v:=.int a0) rfl ⟨_,_,rfl,rfl,(by show(0:Int)<4;decide),_,_,rfl,rfl,gk tb_g% tb_g%,_,_,rfl,rfl,?_⟩⟩);obtain⟨n,en,hn⟩:∃n:Nat,2+a0 % 4*2=(n:Int)/\(n=2\/n=4\/n=6\/n=8):=⟨(2+a0 % 4*2).toNat,by omega,by omega⟩;rw[en];refine hR [some (.ref z),some (.ref D),some (.int n),none,none,none,none,none,none,none,none,none,none,none,none] _ (sq fun R hR=>?_);intro d hd;have O1:=O0.ins (o:=.dK []) hd 1 rfl;generalize upd G d (.dK [])=G1 at O1 ⊢;dsimp only[QK];refine⟨_,rfl,_,rfl,aH (.inl (.inl (O1.at 0 rfl))) (v:=.int a1) rfl ⟨_,_,rfl,rfl,(by show(0:Int)<900;decide),_,_,rfl,rfl,_,rfl,aH (.inl (.inl (O1.at 0 rfl))) (v:=.int a2) rfl ⟨_,_,rfl,rfl,(by show(0:Int)<1000000000;decide),_,_,rfl,rfl,tb_g%,fun kp hkp=>?_⟩⟩⟩;have O2:=O1.ins (o:=.lst [.int n,.int (100+a1 % 900),.int (1+a2 % 1000000000)]) hkp 2 rfl;generalize upd G1 kp (.lst [.int n,.int (100+a1 % 900),.int (1+a2 % 1000000000)])=G2 at O2 ⊢;refine⟨O2.at 1 rfl,[(Sum.inr ("keep" : Str),.ref kp)],rfl,tb_g%,?_⟩;refine O2.step (o':=.dK (mkD ["keep"] [.ref kp])) 1 rfl rfl fun J O3=>?_;clear O0 O1 O2 hS hd hkp;refine hR [some (.ref z),some (.ref D),some (.int n),some (.ref d),none,none,none,none,none,none,none,none,none,none,none] _ (sq fun R hR=>⟨_,rfl,aH (.inl (.inl (O3.at 0 rfl))) (v:=.int a3) rfl ⟨_,_,rfl,rfl,(by show(0:Int)<5;decide),?_⟩⟩);refine hR [some (.ref z),some (.ref D),some (.int n),some (.ref d),some (.int (a3 % 5)),none,none,none,none,none,none,none,none,none,none] _ (sq fun R hR=>⟨_,rfl,tb_g%,fun cm hcm=>?_⟩);have O4:=O3.ins (o:=.lst [.int 0,.int (a3 % 5)]) hcm 3 rfl;generalize upd J cm (.lst [.int 0,.int (a3 % 5)])=J1 at O4 ⊢;refine⟨_,rfl,fW (O4.at 1 rfl) tb_g% ?_⟩;rw[gq tb_g% rfl];refine O4.step (o':=.dK (mkD ["keep","came"] [.ref kp,.ref cm])) 1 rfl rfl fun J2 O5=>?_;clear O3 O4 hcm;generalize hlo:a3 % 5=lo at O5 ⊢;obtain⟨m,em⟩:∃m:Int,m=1+a4 % 1000000:=⟨_,rfl⟩;obtain⟨w,ew⟩:∃w:Nat->Int,∀k:Nat,w k=1+(a5+k) % 9:=⟨_,fun _=>rfl⟩;have n9:n<=8:=by omega
  refine hR [some (.ref z),some (.ref D),some (.int n),some (.ref d),some (.int lo),none,none,none,none,none,none,none,none,none,none] _ (sq fun R hR=>#[_,rfl,n,rfl,by omega,by omega,?_]);refine Mt (fun i σ F=>∃(y:Option V),vm (σ=[some (.ref z),some (.ref D),some (.int n),some (.ref d),some (.int lo),y,none,none,none,none,none,none,none,none,none]) (i<=n) (Own H F [(D,.lst [.int a0,.int a1,.int a2,.int a3,.int a4,.int a5,.int a6,.int a7]),(d,.dK (mkD ["keep","came"] [.ref kp,.ref cm])),(kp,.lst [.int n,.int (100+a1 % 900),.int (1+a2 % 1000000000)]),(cm,li ([sI9 m w i,lo]++pN (cI m w i)))])) #[none,rfl,cU _,O5] ?_ ?_
  ·rintro i σ F hi ⟨y,rfl,il,OF⟩;rw[Qi];have hdF:=OF.at 1 rfl;have hcF:=OF.at 3 rfl;have hsF:=OF.at 0 rfl;refine sq fun R hR=>#[_,rfl,gb (.inl hdF) (bL 1 tb_g% rfl) #[.inl #[rfl,_,.inl (.inl hcF)],_,rfl,_,rfl,aH (.inl (.inl hsF)) (v:=.int a4) rfl #[_,_,rfl,rfl,(by show(0:Int)<1000000;decide),_,_,rfl,rfl,_,_,rfl,rfl,gk tb_g% tb_g%,_,rfl,aH (.inl (.inl hsF)) (v:=.int a5) rfl #[_,rfl,_,_,rfl,rfl,_,_,rfl,rfl,(by show(0:Int)<9;decide),_,_,rfl,rfl,tb_g%,fun p hp=>?_]]]];show#[cm,p,_,_,rfl,rfl,(Same.new hp) _ _ hcF,aj,fu (aL (by rw[aB,cj,amy];show 2+_+2<=_;omega)),?_];have OF1:=OF.same (Same.new (o:=.lst [.int ((i:Int)*(1+a4 % 1000000)),.int (1+(a5+(i:Int)) % 9)]) hp);generalize upd F p (.lst [.int ((i:Int)*(1+a4 % 1000000)),.int (1+(a5+(i:Int)) % 9)])=F1 at OF1 ⊢;rw[show([sI9 m w i,lo]++pN (cI m w i)).map V.int++[V.int ((i:Int)*(1+a4 % 1000000)),V.int (1+(a5+(i:Int)) % 9)]=([sI9 m w i,lo]++pN (cI m w (i+1))).map V.int by rw[abJ,Td,<-fH,bB (l₁:=_++_),em,ew];rfl];refine OF1.step (P:=fun J=>R [some (.ref z),some (.ref D),some (.int n),some (.ref d),some (.int lo),some (.int (i:Int)),none,none,none,none,none,none,none,none,none] J) (o':=li ([sI9 m w i,lo]++pN (cI m w (i+1)))) 3 rfl rfl fun J OJ=>?_;refine hR _ _ #[_,rfl,gb (.inl (OJ.at 1 rfl)) (bL 1 tb_g% rfl) #[cm,_,0,_,rfl,rfl,OJ.at 3 rfl,rfl,_,rfl,aH (.inl (.inl (OJ.at 0 rfl))) (v:=.int a5) rfl #[_,rfl,_,_,rfl,rfl,_,_,rfl,rfl,(by show(0:Int)<9;decide),_,_,rfl,rfl,_,_,rfl,rfl,cm,_,0,0,rfl,rfl,OJ.at 3 rfl,ixL (by rw[aB,cj];show 0<2+_;omega),?_]]];show#[_,rfl,hi,?_];have e:((([sI9 m w i,lo]++pN (cI m w (i+1))).map V.int).set 0 (V.int (sI9 m w i+(1+(a5+(i:Int)) % 9))))=([sI9 m w (i+1),lo]++pN (cI m w (i+1))).map V.int:=by rw[ahW,ew];rfl
   rw[e];exact OJ.set 3 rfl rfl
  rintro σ F ⟨y,rfl,_,OF⟩;clear O5;have e0:hlo=hlo:=rfl;refine hR _ _ (sq fun R hR=>#[_,rfl,gb (.inl (OF.at 1 rfl)) (bL 1 tb_g% rfl) #[cm,_,0,_,rfl,rfl,OF.at 3 rfl,rfl,_,rfl,_,_,rfl,rfl,_,rfl,_,_,rfl,rfl,pD tb_g% tb_g%,_,_,rfl,rfl,cm,_,0,0,rfl,rfl,OF.at 3 rfl,ixL (by rw[aB,cj];show 0<2+_;omega),?_]]);refine OF.step (P:=fun J=>R [some (.ref z),some (.ref D),some (.int n),some (.ref d),some (.int lo),y,none,none,none,none,none,none,none,none,none] J) (o':=li ([sI9 m w n+((n:Int)+1)*lo,lo]++pN (cI m w n))) 3 rfl rfl fun J OJ=>?_;clear OF;generalize hT:sI9 m w n+((n:Int)+1)*lo=T at OJ;refine hR _ _ (sq fun R hR=>?_);refine(show(∀(wn:Addr)(wt:Int)(F:Hp),(0<=wt/\wt<10 ^ 60)->Own H F [(D,.lst [.int a0,.int a1,.int a2,.int a3,.int a4,.int a5,.int a6,.int a7]),(d,.dK (mkD Q18 [.ref kp,.ref cm,.ref wn])),(kp,.lst [.int n,.int (100+a1 % 900),.int (1+a2 % 1000000000)]),(cm,li ([T,lo]++pN (cI m w n))),(wn,li [wt,0])]->R [some (.ref z),some (.ref D),some (.int n),some (.ref d),some (.int lo),y,none,none,none,none,none,none,none,none,none] F)->_ from fun key=>?_) ?_
  ·k_dat (p1,hp1) "t"
   have O1:=OJ.ins (o:=.lst [.int 0,.int 0]) hp1 4 rfl;generalize upd J p1 (.lst [.int 0,.int 0])=J1 at O1 ⊢;show#[_,_,rfl,rfl,#[by decide,by decide,by decide],_,_,rfl,rfl,_,rfl,aH (.inl (.inl (O1.at 0 rfl))) (v:=.int a4) rfl #[_,_,rfl,rfl,tb_g%,fun p2 hp2=>?_]];have e60:(10:Int) ^ (60:Int).toNat=10 ^ 60:=rfl;rw[e60];have O2:=O1.ins (o:=.lst [.int (10 ^ 60-1-a4),.int 0]) hp2 5 rfl;generalize upd J1 p2 (.lst [.int (10 ^ 60-1-a4),.int 0])=J2 at O2 ⊢
   k_dat (p3,hp3) "t"
   k_dat (nwA hp3,J3,zJ3,h3) "n"
   have O3:=O2.same zJ3;show#[_,rfl,aH (.inl (.inl (O3.at 0 rfl))) (v:=.int a6) rfl #[_,_,rfl,rfl,(by show(0:Int)<2;decide),?_]];rcases(show a6 % 2=0\/a6 % 2=1 by omega)with e|e
   ·rw[e];refine aH (.inl (.inl h3)) (v:=.ref p1) rfl #[_,rfl,fW (O3.at 1 rfl) tb_g% ?_];rw[gq tb_g% rfl];exact O3.step (o':=.dK (mkD Q18 [.ref kp,.ref cm,.ref p1])) 1 rfl rfl fun F OF=>key p1 0 F tb_g% (OF.del 5 rfl)
   ·rw[e];refine aH (.inl (.inl h3)) (v:=.ref p2) rfl #[_,rfl,fW (O3.at 1 rfl) tb_g% ?_];rw[gq tb_g% rfl];exact O3.step (o':=.dK (mkD Q18 [.ref kp,.ref cm,.ref p2])) 1 rfl rfl fun F OF=>key p2 (10 ^ 60-1-a4) F tb_g% (OF.del 4 rfl)
  intro wn wt F hwt OF;clear OJ;refine hR _ _ (sq fun R hR=>#[_,rfl,aH (.inl (.inl (OF.at 0 rfl))) (v:=.int a6) rfl #[_,_,rfl,rfl,(by show(0:Int)<1000000000;decide),?_]]);generalize hlow:a6 % 1000000000=low;refine hR [some (.ref z),some (.ref D),some (.int n),some (.ref d),some (.int lo),y,some (.int low),none,none,none,none,none,none,none,none] _ (sq fun R hR=>?_);obtain⟨e,ee,he⟩:∃e:Nat,(n:Int)-a0 / 4 % 2=(e:Int)/\(n<=e+1/\e<=n):=#[((n:Int)-a0 / 4 % 2).toNat,by omega,by omega];show#[_,rfl,_,rfl,aH (.inl (.inl (OF.at 0 rfl))) (v:=.int a0) rfl #[_,_,rfl,rfl,#[by decide,by decide],_,_,rfl,rfl,(by show(0:Int)<2;decide),_,_,rfl,rfl,?_]];rw[ee];show#[e,rfl,by omega,by omega,fun b0 hb0=>?_];refine xK (n:=e) (fun i ys G=>i<=e/\ys=((dY i).map fun k:Nat=>low+(k:Int) / 2).map V.int/\G b0=some (.lst ys)/\Same F G) #[cU _,rfl,aj,Same.new hb0] ?_ ?_ ?_ ?_
  ·walk_at "J"
   show#[gD,aL (by rw[aB,aB,pL];omega)]
  ·walk_at "J"
   rw[Qi];show#[_,rfl,_,rfl,_,_,rfl,rfl,#[by decide,by decide],_,_,rfl,rfl,gD,hi,?_,aj,fun b o e=>by rw[ao (ak e hb0)];exact sG b o e];rw[GR,bB,bB];rfl
  rotate_left
  ·exact vN (dO 1) (rD (dO 0) (xO _))
  rintro ys J1 ⟨_,rfl,gD,sG⟩;have O1:=OF.got sG hb0 gD 5 rfl;clear OF;show#[_,rfl,n,rfl,by omega,by omega,fun b1 hb1=>?_];refine xK (n:=n) (fun i ys G=>i<=n/\ys=((dY i).map fun k:Nat=>low+3*(k:Int)).map V.int/\G b1=some (.lst ys)/\Same J1 G) #[cU _,rfl,aj,Same.new hb1] ?_ ?_ ?_ ?_
  ·walk_at "J"
   show#[gD,aL (by rw[aB,aB,pL];omega)]
  ·walk_at "J"
   rw[Qi];show#[_,rfl,_,rfl,_,_,rfl,rfl,pD tb_g% tb_g%,_,_,rfl,rfl,gD,hi,?_,aj,fun b o e=>by rw[ao (ak e hb1)];exact sG b o e];rw[GR,bB,bB];rfl
  rotate_left
  ·exact vN (dO 1) (rD (xO _) (dO 0))
  rintro ys J2 ⟨_,rfl,gD2,sG2⟩;have O2:=O1.got sG2 hb1 gD2 6 rfl;clear O1 gD sG gD2 sG2 hb0 hb1
  k_dat (ul,hul) "t"
  have O3:=O2.ins (o:=.lst [.ref b0,.ref b1]) hul 5 rfl;generalize upd J2 ul (.lst [.ref b0,.ref b1])=J3 at O3 ⊢;show#[_,rfl,fW (O3.at 1 rfl) tb_g% ?_];rw[gq tb_g% rfl];refine O3.step (o':=.dK (mkD ["keep","came","went","up lists"] [.ref kp,.ref cm,.ref wn,.ref ul])) 1 rfl rfl fun F1 P1=>?_;clear O2 O3 hul;refine hR [some (.ref z),some (.ref D),some (.int n),some (.ref d),some (.int lo),y,some (.int low),none,none,none,none,none,none,none,none] _ (sq fun R hR=>?_);show#[_,rfl,gb (.inl (P1.at 1 rfl)) (bL 3 tb_g% rfl) (aH (.inl (.inl (P1.at 5 rfl))) (v:=.ref b0) rfl (cQ (.inl (.inl (P1.at 6 rfl))) #[_,rfl,_,_,rfl,rfl,pD tb_g% tb_g%,_,_,rfl,rfl,?_]))];rw[aB,aB,pL];have dn0:0<=((e:Int)+2*n) / n:=Yy tb_g% tb_g%;generalize ht:(e:Int)+2*(n:Int)=tt at dn0 ⊢;refine hR [some (.ref z),some (.ref D),some (.int n),some (.ref d),some (.int lo),y,some (.int low),some (.int tt),none,none,none,none,none,none,none] _ (sq fun R hR=>#[_,rfl,aH (.inl (.inl (P1.at 0 rfl))) (v:=.int a7) rfl #[_,rfl,_,rfl,_,_,rfl,rfl,#[by omega,by omega],_,_,rfl,rfl,_,_,rfl,rfl,(by show 0<tt / (n:Int)+1;omega),?_]]);have hun:0<=a7 % (tt / n+1)/\a7 % (tt / n+1)<=tt / n:=#[qP _ tb_g%,by have:=Dk a7 (show 0<tt / (n:Int)+1 by omega);omega];generalize a7 % (tt / (n:Int)+1)=un at hun ⊢;refine hR [some (.ref z),some (.ref D),some (.int n),some (.ref d),some (.int lo),y,some (.int low),some (.int tt),some (.int un),none,none,none,none,none,none] _ (sq fun R hR=>?_);show#[_,rfl,_,rfl,_,rfl,_,_,rfl,rfl,#[by omega,by omega],_,rfl,_,_,rfl,rfl,_,rfl,_,rfl,aH (.inl (.inl (P1.at 0 rfl))) (v:=.int a7) rfl #[_,_,rfl,rfl,(by show(0:Int)<7;decide),_,rfl,_,rfl,_,rfl,_,_,rfl,rfl,pD tb_g% tb_g%,_,_,rfl,rfl,_,_,rfl,rfl,tb_g%,fun up hup=>?_]];have P2:=P1.ins (o:=.lst [.int tt,.int (tt / n-un),.int un,.int (a7 % 7),.int low,.int (low+3*n-3)]) hup 6 rfl;generalize upd F1 up (.lst [.int tt,.int (tt / n-un),.int un,.int (a7 % 7),.int low,.int (low+3*n-3)])=F2 at P2 ⊢;show#[_,rfl,fW (P2.at 1 rfl) tb_g% ?_];rw[gq tb_g% rfl];refine P2.step (o':=.dK (mkD ["keep","came","went","up lists","up"] [.ref kp,.ref cm,.ref wn,.ref ul,.ref up])) 1 rfl rfl fun F3 P3=>?_;clear P1 P2 hup;refine hR _ _ (sq fun R hR=>#[tb_g%,fun dn hdn=>?_]);have P4:=P3.ins (o:=.lst [.int 0,.int 0,.int 0,.int 0]) hdn 7 rfl;generalize upd F3 dn (.lst [.int 0,.int 0,.int 0,.int 0])=F4 at P4 ⊢;show#[_,rfl,fW (P4.at 1 rfl) tb_g% ?_];rw[gq tb_g% rfl];refine P4.step (o':=.dK (mkD ["keep","came","went","up lists","up","down"] [.ref kp,.ref cm,.ref wn,.ref ul,.ref up,.ref dn])) 1 rfl rfl fun F5 P5=>?_;clear P3 P4 hdn;refine hR _ _ (sq fun R hR=>#[tb_g%,fun dl hdl=>?_]);have P6:=P5.ins (o:=.lst []) hdl 8 rfl;generalize upd F5 dl (.lst [])=F6 at P6 ⊢;show#[_,rfl,fW (P6.at 1 rfl) tb_g% ?_];rw[gq tb_g% rfl];refine P6.step (o':=.dK (mkD ["keep","came","went","up lists","up","down","down lists"] [.ref kp,.ref cm,.ref wn,.ref ul,.ref up,.ref dn,.ref dl])) 1 rfl rfl fun F7 P7=>?_;clear P5 P6 hdl;refine hR _ _ (sq fun R hR=>#[_,rfl,aH (.inl (.inl (P7.at 0 rfl))) (v:=.int a1) rfl #[_,_,rfl,rfl,#[by decide,by decide],_,_,rfl,rfl,(by show(0:Int)<50;decide),_,_,rfl,rfl,?_]]);generalize hfi:1+a1 / 900 % 50=fi;refine hR [some (.ref z),some (.ref D),some (.int n),some (.ref d),some (.int lo),y,some (.int low),some (.int tt),some (.int un),some (.int fi),none,none,none,none,none] _ (sq fun R hR=>#[_,rfl,_,rfl,gb (.inl (P7.at 1 rfl)) (bL 0 tb_g% rfl) (aH (.inl (.inl (P7.at 2 rfl))) (v:=.int (100+a1 % 900)) rfl #[_,_,rfl,rfl,_,_,rfl,rfl,?_])]);generalize hck:fi+(100+a1 % 900)-1=ck;refine hR [some (.ref z),some (.ref D),some (.int n),some (.ref d),some (.int lo),y,some (.int low),some (.int tt),some (.int un),some (.int fi),some (.int ck),none,none,none,none] _ (sq fun R hR=>#[_,rfl,_,_,rfl,rfl,#[by omega,by omega],?_]);generalize hmd:(90:Int) / (n:Int)=md;refine hR [some (.ref z),some (.ref D),some (.int n),some (.ref d),some (.int lo),y,some (.int low),some (.int tt),some (.int un),some (.int fi),some (.int ck),some (.int md),none,none,none] _ (sq fun R hR=>#[_,rfl,_,rfl,_,rfl,_,rfl,_,_,rfl,rfl,_,rfl,_,_,rfl,rfl,_,rfl,_,rfl,_,_,rfl,rfl,_,rfl,_,_,rfl,rfl,_,rfl,_,rfl,tb_g%,fun wi hwi=>?_]);have P8:=P7.ins (o:=.lst [.int ck,.int fi,.int fi,.int 90,.int (fi+2),.int (fi+4),.int md,.int (fi+5),.int (fi+5),.int 40,.int ck,.int ck,.int 50]) hwi 9 rfl;generalize upd F7 wi (.lst [.int ck,.int fi,.int fi,.int 90,.int (fi+2),.int (fi+4),.int md,.int (fi+5),.int (fi+5),.int 40,.int ck,.int ck,.int 50])=F8 at P8 ⊢;show#[_,rfl,fW (P8.at 1 rfl) tb_g% ?_];rw[gq tb_g% rfl];refine P8.step (o':=.dK (mkD ["keep","came","went","up lists","up","down","down lists","window"] [.ref kp,.ref cm,.ref wn,.ref ul,.ref up,.ref dn,.ref dl,.ref wi])) 1 rfl rfl fun F9 P9=>?_;clear P7 P8 hwi;refine hR _ _ (sq fun R hR=>#[_,rfl,aH (.inl (.inl (P9.at 0 rfl))) (v:=.int a2) rfl #[_,_,rfl,rfl,(by show(0:Int)<40;decide),?_]]);obtain⟨v,ev,hv⟩:∃v:Nat,a2 % 40=(v:Int)/\v<40:=#[(a2 % 40).toNat,by omega,by omega];rw[ev];obtain⟨j,ej,hj⟩:∃j:Nat,a3 % 1000=(j:Int)/\j<1000:=#[(a3 % 1000).toNat,by omega,by omega];refine hR [some (.ref z),some (.ref D),some (.int n),some (.ref d),some (.int lo),y,some (.int low),some (.int tt),some (.int un),some (.int fi),some (.int ck),some (.int md),some (.int (v:Int)),none,none] _ (sq fun R hR=>#[rfl,?_]);have fb:=Z1 5;refine hR [some (.ref z),some (.ref D),some (.int n),some (.ref d),some (.int lo),y,some (.int low),some (.int tt),some (.int un),some (.int fi),some (.int ck),some (.int md),some (.int (v:Int)),some (.int (g8 5)),none] _ (sq fun R hR=>#[_,rfl,n,rfl,by omega,by omega,fun c1 hc1=>?_]);refine xK (n:=n) (fun i ys G=>i<=n/\ys=((dY i).map fun k:Nat=>(1+2*((j:Int)+k))*2 ^ v*g8 5 % 1152921504606846976).map V.int/\G c1=some (.lst ys)/\Same F9 G) #[cU _,rfl,aj,Same.new hc1] ?_ ?_ ?_ ?_
  ·walk_at "J"
   show#[gD,aL (by rw[aB,aB,pL];omega)]
  ·walk_at "J"
   rw[Qi];show#[_,rfl,aH (.inl (.inl (sG _ _ (P9.at 0 rfl)))) (v:=.int a3) rfl #[_,_,rfl,rfl,(by show(0:Int)<1000;decide),_,rfl,_,_,rfl,rfl,_,_,rfl,rfl,pD tb_g% tb_g%,_,_,rfl,rfl,_,rfl,_,_,rfl,rfl,#[by omega,by omega,by omega],_,rfl,_,_,rfl,rfl,gk tb_g% tb_g%,_,_,rfl,rfl,(by show(0:Int)<1152921504606846976;decide),gD,hi,?_,aj,fun b o e=>by rw[ao (ak e hc1)];exact sG b o e]];rw[GR,bB,bB,ej];rfl
  rotate_left
  ·exact rD (rD (rD (vN (xO _) (rD (xO _) (vN (rD (aaM (dO 3) (xO _)) (xO _)) (dO 0)))) (dO 2)) (dO 1)) (xO _)
  rintro ys G ⟨_,rfl,gD,sG⟩;refine .inr #[c1,_,rfl,.inl (.inl gD),by rw[aB,pL];omega,fun tg l' h3 pm sd=>?_];obtain rfl:=Zm pm sd;generalize hks:((dY n).map fun k:Nat=>(1+2*((j:Int)+k))*2 ^ v*g8 5 % 1152921504606846976)=ks;rw[hks]at pm sd gD;have kl:(srt ks).length=n:=by rw[yI,<-hks,aB,pL]
  k_dat (nwA h3,F10,zF10,tgF) "n"
  have P10:=P9.same (sG.trans zF10);clear P9 gD sG h3 hc1 pm sd;refine hR [some (.ref z),some (.ref D),some (.int n),some (.ref d),some (.int lo),y,some (.int low),some (.int tt),some (.int un),some (.int fi),some (.int ck),some (.int md),some (.int (v:Int)),some (.int (g8 5)),some (.ref tg)] _ (sq fun R hR=>?_);refine(show(∀(se:Addr)(F:Hp),Own H F [(D,.lst [.int a0,.int a1,.int a2,.int a3,.int a4,.int a5,.int a6,.int a7]),(d,.dK (mkD ["keep","came","went","up lists","up","down","down lists","window","seen"] [.ref kp,.ref cm,.ref wn,.ref ul,.ref up,.ref dn,.ref dl,.ref wi,.ref se])),(kp,.lst [.int n,.int (100+a1 % 900),.int (1+a2 % 1000000000)]),(cm,li ([T,lo]++pN (cI m w n))),(wn,li [wt,0]),(ul,.lst [.ref b0,.ref b1]),(up,.lst [.int tt,.int (tt / n-un),.int un,.int (a7 % 7),.int low,.int (low+3*n-3)]),(dn,.lst [.int 0,.int 0,.int 0,.int 0]),(dl,.lst []),(wi,.lst [.int ck,.int fi,.int fi,.int 90,.int (fi+2),.int (fi+4),.int md,.int (fi+5),.int (fi+5),.int 40,.int ck,.int ck,.int 50]),(se,li ([if 0<v then(n:Int)+1 else n,(v:Int)]++srt ks)),(b0,li ((dY e).map fun k:Nat=>low+(k:Int) / 2)),(b1,li ((dY n).map fun k:Nat=>low+3*(k:Int)))]->R [some (.ref z),some (.ref D),some (.int n),some (.ref d),some (.int lo),y,some (.int low),some (.int tt),some (.int un),some (.int fi),some (.int ck),some (.int md),some (.int (v:Int)),some (.int (g8 5)),some (.ref tg)] F)->_ from fun key=>?_) ?_
  ·have fin:∀(x:Int)(p:Addr)(hp:F10 p=none),x=(if 0<v then(n:Int)+1 else n)->∀se,(upd F10 p (.lst [.int x,.int (v:Int)])) se=none->R [some (.ref z),some (.ref D),some (.int n),some (.ref d),some (.int lo),y,some (.int low),some (.int tt),some (.int un),some (.int fi),some (.int ck),some (.int md),some (.int (v:Int)),some (.int (g8 5)),some (.ref tg)] (upd (upd (upd F10 p (.lst [.int x,.int (v:Int)])) se (.lst ([.int x,.int (v:Int)]++(srt ks).map V.int))) d (.dK (mkD ["keep","came","went","up lists","up","down","down lists","window","seen"] [.ref kp,.ref cm,.ref wn,.ref ul,.ref up,.ref dn,.ref dl,.ref wi,.ref se]))):=fun x p hp ex se hse=>by
    subst ex;have P11:=(P10.same (Same.new (o:=.lst [.int (if 0<v then(n:Int)+1 else n),.int (v:Int)]) hp)).ins (o:=li ([if 0<v then(n:Int)+1 else n,(v:Int)]++srt ks)) hse 10 rfl;exact P11.step (P:=fun F=>R [some (.ref z),some (.ref D),some (.int n),some (.ref d),some (.int lo),y,some (.int low),some (.int tt),some (.int un),some (.int fi),some (.int ck),some (.int md),some (.int (v:Int)),some (.int (g8 5)),some (.ref tg)] F) (o':=.dK (mkD ["keep","came","went","up lists","up","down","down lists","window","seen"] [.ref kp,.ref cm,.ref wn,.ref ul,.ref up,.ref dn,.ref dl,.ref wi,.ref se])) 1 rfl rfl fun F OF=>key se F OF
   by_cases h0:0<v
   ·show#[_,rfl,_,_,rfl,rfl,_,rfl,aY (fun _=>?_) fun z=>absurd (decide_eq_true (by show(v:Int)>0;omega)) z];show#[_,rfl,_,_,rfl,rfl,_,rfl,tb_g%,fun p hp=>#[_,rfl,p,tg,_,_,rfl,rfl,aj,(Same.new hp) _ _ tgF,fu (aL (by rw[aB,kl];show 2+n<=_;omega)),fun se hse=>#[_,rfl,fW ((Same.new hse) _ _ ((Same.new hp) _ _ (P10.at 1 rfl))) tb_g% ?_]]];rw[gq tb_g% rfl];exact fin _ p hp (if_pos h0).symm se hse
   ·show#[_,rfl,_,_,rfl,rfl,_,rfl,aY (fun z=>absurd (of_decide_eq_true z) (by show ¬ (v:Int)>0;omega)) fun _=>?_];show#[_,rfl,_,rfl,tb_g%,fun p hp=>#[_,rfl,p,tg,_,_,rfl,rfl,aj,(Same.new hp) _ _ tgF,fu (aL (by rw[aB,kl];show 2+n<=_;omega)),fun se hse=>#[_,rfl,fW ((Same.new hse) _ _ ((Same.new hp) _ _ (P10.at 1 rfl))) tb_g% ?_]]];rw[gq tb_g% rfl];exact fin _ p hp (if_neg h0).symm se hse
  intro se F OF;clear P10 tgF;refine hR _ _ (sq fun R hR=>#[_,rfl,aH (.inl (.inl (OF.at 0 rfl))) (v:=.int a3) rfl #[_,_,rfl,rfl,(by show(0:Int)<1000;decide),_,rfl,_,_,rfl,rfl,_,_,rfl,rfl,pD tb_g% tb_g%,_,_,rfl,rfl,_,rfl,_,_,rfl,rfl,#[by omega,by omega,by omega],_,rfl,_,_,rfl,rfl,gk tb_g% tb_g%,_,_,rfl,rfl,(by show(0:Int)<1152921504606846976;decide),_,rfl,fW (OF.at 1 rfl) tb_g% ?_]]);rw[gq tb_g% rfl];obtain⟨sp,es,hs⟩:∃sp:Int,(1+2*(a3 % 1000+(n:Int)))*2 ^ ((v:Int)).toNat*g8 5 % 1152921504606846976=sp/\(0<=sp/\sp<1152921504606846976):=#[_,rfl,qP _ tb_g%,Dk _ tb_g%];rw[es];refine OF.step (o':=.dK (mkD ["keep","came","went","up lists","up","down","down lists","window","seen","spare"] [.ref kp,.ref cm,.ref wn,.ref ul,.ref up,.ref dn,.ref dl,.ref wi,.ref se,.int sp])) 1 rfl rfl fun F1 O1=>?_;clear OF es;refine hR _ _ (sq fun R hR=>#[_,rfl,aH (.inl (.inl (O1.at 0 rfl))) (v:=.int a4) rfl #[_,rfl,aH (.inl (.inl (O1.at 0 rfl))) (v:=.int a5) rfl #[_,rfl,_,_,rfl,rfl,_,rfl,aH (.inl (.inl (O1.at 0 rfl))) (v:=.int a6) rfl #[_,_,rfl,rfl,#[by decide,by decide,by decide],_,_,rfl,rfl,_,_,rfl,rfl,#[by decide,by decide,by decide],_,_,rfl,rfl,tb_g%,fun p hp=>?_]]]]);have e60:(10:Int) ^ (60:Int).toNat=10 ^ 60:=rfl;rw[e60]
  k_dat (nwA hp,F2,zF2,hp2) "n"
  have O2:=O1.same zF2;obtain⟨x4,e4,h4⟩:∃x4:Int,atI [V.int a6,V.int (10 ^ 60-1),V.int (1-10 ^ 60)] (a6 / 2 % 3)=some (.int x4)/\x4.natAbs<10 ^ 60:=by
   rcases(show a6 / 2 % 3=0\/a6 / 2 % 3=1\/a6 / 2 % 3=2 by omega)with e|e|e <;> rw[e]
   ·show#[a6,rfl,by omega]
   ·show#[10 ^ 60-1,rfl,by omega]
   ·show#[1-10 ^ 60,rfl,by omega]
  show#[_,rfl,aH (.inl (.inl (O2.at 0 rfl))) (v:=.int a6) rfl #[_,_,rfl,rfl,#[by decide,by decide],_,_,rfl,rfl,(by show(0:Int)<3;decide),aH (.inl (.inl hp2)) e4 #[tb_g%,fun su hsu=>?_]]];have O3:=O2.ins (o:=li [a4,-a5-1,0,x4]) hsu 11 rfl;refine(show ∀J,upd F2 su (li [a4,-a5-1,0,x4])=J->_ from fun J eJ=>?_) _ rfl;rw[eJ]at O3;show#[_,rfl,fW (O3.at 1 rfl) tb_g% ?_];rw[gq tb_g% rfl];refine O3.step (o':=.dK (mkD ["keep","came","went","up lists","up","down","down lists","window","seen","spare","sums"] [.ref kp,.ref cm,.ref wn,.ref ul,.ref up,.ref dn,.ref dl,.ref wi,.ref se,.int sp,.ref su])) 1 rfl rfl fun F3 O4=>?_;clear O1 O2 O3 hp2 hsu eJ;refine hR _ _ #[_,rfl,q d #[kp,cm,wn,ul,up,dn,dl,wi,se,su,[b0,b1]] sp #[n,100+a1 % 900,1+a2 % 1000000000,lo,m,w,wt,low,e,un,a7 % 7,fi,v,j,#[a4,-a5-1,0,x4]] F3 #[hn,by show 100<=100+a1 % 900/\100+a1 % 900<=999;omega,by show 1<=1+a2 % 1000000000/\1+a2 % 1000000000<=1000000000;omega,by show 0<=lo/\lo<=4;omega,by show 1<=m/\m<=1000000;omega,fun k=>by show 1<=w k/\w k<=9;rw[ew];omega,hwt,by show 0<=low/\low<1000000000;omega,he,by show 0<=un/\un<=((e:Int)+2*n) / n;rwa[ht],by show 0<=a7 % 7/\a7 % 7<=6;omega,by show 1<=fi/\fi<=50;omega,hv,hj,fun x mx=>?_] ?_ rfl hs]
  ·have mx:x∈[a4,-a5-1,0,x4]:=mx
   k_dat mx "d"
   rcases mx with rfl|rfl|rfl|rfl <;> omega
  ·subst hT ht hck hmd hks;exact O4.del 0 rfl
open MK
theorem ac4{t l:Int}{c:Tab}(ht:0<=t/\t<10 ^ 60)(hl:0<=l/\l<10 ^ 60)(hc:∀p∈c,(0<=p.1/\p.1<10 ^ 60)/\0<=p.2/\p.2<10 ^ 60):N6 ([t,l]++pN c):=fun z m=>by
 walk_at "C"
 ·k_dat m "d"
  walk_at "H"
  ·exact ht
  ·exact hl
 ·obtain⟨p,mp,m⟩:=NT.mp m
  k_dat m "d"
  walk_at "H"
  ·exact(hc p mp).1
  ·exact(hc p mp).2
theorem CN{α:Type}:∀{l:List α},2<=l.length->∃a b r,l=a::b::r
 |a::b::r,_=>#[a,b,r,rfl]
 |[],h=>absurd h (by show ¬ 2<=0;decide)
 |[_],h=>absurd h (by show ¬ 2<=1;decide)
theorem abK{α:Type}{l:List α}(h:1<=l.length):∃r a,l=r++[a]:=by
 rcases List.eq_nil_or_concat l with e|⟨r,a,e⟩
 ·rw[e]at h;exact absurd h (by show ¬ 1<=0;decide)
 ·show#[r,a,by rw[e];simp]
theorem abL{α:Type}(r s:List α)(a x:α):(r++a::s).set r.length x=r++x::s:=by
 rw[adn _ _ (aO _),HB];rfl
section
variable{b:Bs}(h:Wr b)
include h
theorem cb6:∀p∈b.c,(0<=p.1/\p.1<10 ^ 60)/\0<=p.2/\p.2<10 ^ 60:=fun p m=>by
 have:=c_bd h m;omega
theorem mc0:Bad 1 { b.pz with cm:=[b.T-1,b.lo]++pN b.c }:=by
 have t:=Z8 h;have l:=h.lo;have hn:=h.n;refine CJ h (ac4 tb_g% tb_g% (cb6 h)) (by rw[wD h];omega) fun z=>?_;have z:b.T<=b.T-1:=z.2.2.2;omega
theorem mc1:Bad 1 { b.pz with cm:=[b.T,b.lo+1]++pN b.c }:=by
 have t:=Z8 h;have l:=h.lo;have hn:=h.n;refine CJ h (ac4 tb_g% tb_g% (cb6 h)) (by rw[wD h];omega) fun z=>?_;have z:(vals b.c).sum+((b.n:Int)+1)*(b.lo+1)<=(vals b.c).sum+((b.n:Int)+1)*b.lo:=z.2.2.2;rw[Int.mul_add]at z;omega
theorem mc2:Bad 1 { b.pz with cm:=([b.T,b.lo]++pN b.c).set 3 0 }:=by
 have t:=Z8 h;have l:=h.lo;have hn:=h.n;have cl:=wD h;have cb:=cb6 h;obtain⟨p,q,r,e⟩:=CN (l:=b.c) tb_g%;rw[e]at cb cl;rw[e];refine CJ h (c:=(p.1,0)::q::r) (ac4 tb_g% tb_g% fun y m=>?_) (by show(p::q::r).length<=20;omega) fun z=>?_
 ·walk_at "G"
  ·show#[(cb p bV).1,by show(0:Int)<=0;decide,by show(0:Int)<_;decide]
  ·exact cb y (cR _ m)
 ·have:=z.2.2.1 0 bV;omega
theorem mc3:∃k:Int,([b.T,b.lo]++pN b.c)[2]? = some k/\Bad 1 { b.pz with cm:=([b.T,b.lo]++pN b.c).set 4 k }:=by
 have t:=Z8 h;have l:=h.lo;have hn:=h.n;have cl:=wD h;have cb:=cb6 h;obtain⟨p,q,r,e⟩:=CN (l:=b.c) tb_g%;rw[e]at cb cl;rw[e];show#[p.1,rfl,CJ h (c:=p::(p.1,q.2)::r) (ac4 tb_g% tb_g% fun y m=>?_) (by show(p::q::r).length<=20;omega) fun z=>?_]
 ·have c0:=cb p bV;have c1:=cb q (by simp)
  walk_at "G"
  ·exact c0
  ·walk_at "G"
   ·show#[c0.1,c1.2]
   ·exact cb y (by simp[m])
 ·have:p.1<p.1:=(tO.mp z.1.1).1 p.1 bV;omega
theorem mc4:Bad 1 { b.pz with cm:=([b.T,b.lo]++pN b.c).set (2*b.n) 1152921504606846976 }:=by
 have t:=Z8 h;have l:=h.lo;have hn:=h.n;have cl:=wD h;have cb:=cb6 h;obtain⟨r,p,e⟩:=abK (l:=b.c) tb_g%;rw[e]at cb cl;rw[cj]at cl;have cl:r.length+1=b.n:=cl;rw[e,Td,<-fH,show 2*b.n=([b.T,b.lo]++pN r).length by rw[Gh];omega,abL];have e2:([b.T,b.lo]++pN r)++[1152921504606846976,p.2]=[b.T,b.lo]++pN (r++[(1152921504606846976,p.2)]):=by rw[Td,fH]
 rw[e2];refine CJ h (ac4 tb_g% tb_g% fun y m=>?_) (by rw[cj];show r.length+1<=20;omega) fun z=>?_
 ·walk_at "C"
  ·exact cb y (zK _ m)
  ·rw[eY.mp m];show#[#[by show(0:Int)<=1152921504606846976;decide,by show(1152921504606846976:Int)<10 ^ 60;decide],(cb p (by simp)).2]
 ·have:=z.1.2 1152921504606846976 (WW (f:=fun p:Int × Int=>p.1) (j5 r (eY.mpr rfl)));omega
theorem mc5:Bad 1 { b.pz with cm:=([b.T+1,b.lo]++pN b.c)++[1152921504606846975,1] }:=by
 have t:=Z8 h;have l:=h.lo;have hn:=h.n;have cl:=wD h;have cb:=cb6 h;rw[show([b.T+1,b.lo]++pN b.c)++[1152921504606846975,1]=[b.T+1,b.lo]++pN (b.c++[(1152921504606846975,1)]) by rw[Td,fH]];refine CJ h (ac4 tb_g% tb_g% fun y m=>?_) (by rw[cj,cl];show b.n+1<=20;omega) fun z=>?_
 ·walk_at "C"
  ·exact cb y m
  ·rw[eY.mp m];show#[#[by decide,by decide],by decide,by decide]
 ·have:=z.2.1;unfold keys at this;rw[aB,cj,cl]at this;have:b.n+1<=b.n:=this;omega
theorem mc6:Bad 2 { b.pz with wn:=[(b.n:Int),1] }:=by
 have hn:=h.n;refine ams h (fun z m=>?_) tb_g%
 k_dat m "d"
 rcases m with rfl|rfl <;> omega
theorem mup{t o u lo hi:Int}{ls:List (List Int)}(n6:0<=t/\t<100/\0<=o/\o<100/\0<=u/\u<100/\0<=lo/\lo<10 ^ 60/\0<=hi/\hi<10 ^ 60)(t0:t≠0)(l4:ls.length<=4)(ll:∀l∈ls,l.length<=20)(lb:∀l∈ls,∀z∈l,0<=z/\z<1000000100)(no:¬ Sro #[0,0,[],b.n,t,o,u,b.tn,some lo,some hi,ls]):Bad 3 { b.pz with up:=[t,o,u,b.tn,lo,hi],ul:=ls }:=by
 have tn:=h.tn;refine amt h (fun z m=>?_) (fun l m z mz=>by have:=lb l m z mz;omega) l4 ll (fun l m z mz=>cG (show z.natAbs<1000000100 by have:=lb l m z mz;omega) tb_g%) t0 no
 k_dat m "d"
 rcases m with rfl|rfl|rfl|rfl|rfl|rfl <;> omega
theorem lsb:∀l∈[b.l0,b.l1],l.length<=8/\∀z∈l,0<=z/\z<1000000100:=fun l m=>by
 have r:=S8 h m;have hb:=qH h;have lw:=h.low;have hn:=h.n;show#[by omega,fun z mz=>by have:=r.2.2 z mz;omega]
theorem amz:b.low∈b.l1:=fL.mpr #[0,pP.mpr (by have:=h.n;omega),by show b.low+3*0=b.low;omega]
theorem hi_l1:b.hi∈b.l1:=fL.mpr #[b.n-1,pP.mpr (by have:=h.n;omega),by have:=h.n;unfold Bs.hi;omega]
theorem zB:0<=b.ov/\b.ov<=3/\0<=b.un/\b.un<=3/\b.ov+b.un=b.tt / b.n:=by
 have t:=qG h;have u:=h.un;have u2:b.un<=b.tt / b.n:=u.2;unfold Bs.ov;omega
theorem ac5{t o u lo hi:Int}(n6:0<=t/\t<100/\0<=o/\o<100/\0<=u/\u<100/\0<=lo/\lo<10 ^ 60/\0<=hi/\hi<10 ^ 60)(t0:t≠0)(no:¬ Sro #[0,0,[],b.n,t,o,u,b.tn,some lo,some hi,[b.l0,b.l1]]):Bad 3 { b.pz with up:=[t,o,u,b.tn,lo,hi] }:=
 mup h (ls:=[b.l0,b.l1]) n6 t0 tb_g% (fun l m=>bW (lsb h l m).1 tb_g%) (fun l m=>(lsb h l m).2) no
theorem mr0:Bad 3 { b.pz with up:=[b.tt+1,b.ov,b.un,b.tn,b.low,b.hi] }:=by
 have t:=qG h;have o:=zB h;have hb:=qH h;have lw:=h.low;refine ac5 h tb_g% tb_g% fun z=>?_;obtain⟨_,_,lo,hi,_,_,_,_,v,_⟩:=z.2 (show b.tt+1≠0 by omega);have:=ajO h;have v:(RG.val [b.l0,b.l1]:Int)=b.tt+1:=v;omega
theorem mr1:Bad 3 { b.pz with up:=[b.tt,b.ov+1,b.un,b.tn,b.low,b.hi] }:=by
 have t:=qG h;have o:=zB h;have hb:=qH h;have lw:=h.low;refine ac5 h tb_g% tb_g% fun z=>?_;obtain⟨_,_,lo,hi,_,_,_,_,_,_,v⟩:=z.2 (show b.tt≠0 by omega);have v:(b.ov+1+b.un)*b.n<=b.tt*(2-1):=v;rw[show b.ov+1+b.un=b.tt / b.n+1 by omega,Qk]at v;omega
theorem mr2:Bad 3 { b.pz with up:=[b.tt,b.ov,b.un+b.n,b.tn,b.low,b.hi] }:=by
 have t:=qG h;have o:=zB h;have hb:=qH h;have lw:=h.low;have hn:=h.n;refine ac5 h tb_g% tb_g% fun z=>?_;obtain⟨_,_,lo,hi,_,_,_,_,_,_,v⟩:=z.2 (show b.tt≠0 by omega);have v:(b.ov+(b.un+b.n))*b.n<=b.tt*(2-1):=v;rw[show b.ov+(b.un+(b.n:Int))=b.tt / b.n+b.n by omega,Qk]at v;have:(b.n:Int)*1<=(b.n:Int)*b.n:=Yw tb_g% tb_g%;omega
theorem mr3:Bad 3 { b.pz with up:=[b.tt,b.ov,b.un,b.tn,b.low+1,b.hi] }:=by
 have t:=qG h;have o:=zB h;have hb:=qH h;have lw:=h.low;refine ac5 h tb_g% tb_g% fun z=>?_;obtain⟨_,_,lo,hi,e1,_,_,_,_,v,_⟩:=z.2 (show b.tt≠0 by omega);obtain rfl:=bK e1;have:=((v b.l1 (by simp)).2.2 b.low (amz h)).1;omega
theorem mr4:Bad 3 { b.pz with up:=[b.tt,b.ov,b.un,b.tn,b.low,b.hi-1] }:=by
 have t:=qG h;have o:=zB h;have hb:=qH h;have lw:=h.low;refine ac5 h tb_g% tb_g% fun z=>?_;obtain⟨_,_,lo,hi,_,e2,_,_,_,v,_⟩:=z.2 (show b.tt≠0 by omega);obtain rfl:=bK e2;have:=((v b.l1 (by simp)).2.2 b.hi (hi_l1 h)).2;omega
theorem mr5:Bad 3 { b.pz with up:=[b.tt,b.ov,b.un,b.tn,b.low,1152921504606846976] }:=by
 have t:=qG h;have o:=zB h;have lw:=h.low;refine ac5 h tb_g% tb_g% fun z=>?_;obtain⟨_,_,lo,hi,_,e2,_,v,_⟩:=z.2 (show b.tt≠0 by omega);obtain rfl:=bK e2;omega
theorem mr6:Bad 3 { b.pz with ul:=[b.l0,b.l1,[]] }:=by
 have t:=qG h;have o:=zB h;have hb:=qH h;have lw:=h.low;refine mup h (ls:=[b.l0,b.l1,[]]) tb_g% (show b.tt≠0 by omega) tb_g% (fun l m=>?_) (fun l m=>?_) fun z=>?_
 ·by_cases e:l=[]
  ·rw[e];decide
  ·exact bW (lsb h l (by simpa[e]using m)).1 tb_g%
 ·by_cases e:l=[]
  ·rw[e];exact fun _ m=>(nomatch m)
  ·exact(lsb h l (by simpa[e]using m)).2
 ·exact(z.2 (show b.tt≠0 by omega)).2.1 [] rfl rfl
theorem mr7:Bad 3 { b.pz with ul:=[b.l0,b.l1.drop 1++b.l1.take 1] }:=by
 have t:=qG h;have o:=zB h;have hb:=qH h;have lw:=h.low;have hn:=h.n;have sb:∀z∈b.l1.drop 1++b.l1.take 1,z∈b.l1:=fun z m=>by
  walk_at "C"
  ·exact WQ m
  ·exact Gw m
 have ln:(b.l1.drop 1++b.l1.take 1).length=b.n:=by
  rw[cj,GC,fJ,vA h];omega
 refine mup h (ls:=[b.l0,b.l1.drop 1++b.l1.take 1]) tb_g% (show b.tt≠0 by omega) tb_g% (fun l m=>?_) (fun l m=>?_) fun z=>?_
 ·k_dat m "d"
  walk_at "H"
  ·exact bW (lsb h _ (by simp)).1 tb_g%
  ·omega
 ·k_dat m "d"
  walk_at "H"
  ·exact(lsb h _ (by simp)).2
  ·exact fun z mz=>(lsb h b.l1 (by simp)).2 z (sb z mz)
 ·obtain⟨_,_,lo,hi,_,_,_,_,_,v,_⟩:=z.2 (show b.tt≠0 by omega);have pw:=(v (b.l1.drop 1++b.l1.take 1) (cR _ (eY.mpr rfl))).2.1;obtain⟨p,q,r,e⟩:=CN (l:=b.l1) (by rw[vA h];omega);have e0:b.l1[0]? = some (b.low+3*((0:Nat):Int)):=by unfold Bs.l1;rw[cB,adp tb_g%];rfl
  have e1:b.l1[1]? = some (b.low+3*((1:Nat):Int)):=by unfold Bs.l1;rw[cB,adp tb_g%];rfl
  rw[e]at e0 e1 pw;obtain rfl:=bK e0;obtain rfl:=bK e1;have pw:((b.low+3*((1:Nat):Int))::(r++[b.low+3*((0:Nat):Int)])).Pairwise (· <= ·):=pw;have:=(tO.mp pw).1 (b.low+3*((0:Nat):Int)) (j5 _ (eY.mpr rfl));omega
theorem mr8:∃k:Int,atI b.l1 (-1)=some k/\Bad 3 { b.pz with up:=[b.tt+2,b.ov,b.un,b.tn,b.low,b.hi],ul:=[b.l0,b.l1++[k]] }:=by
 have t:=qG h;have o:=zB h;have hb:=qH h;have lw:=h.low;have hn:=h.n;have ll:=vA h;obtain⟨k,ek⟩:∃k,b.l1[b.n-1]? = some k:=#[_,dH tb_g%];have mk:=mv ek;show#[k,?_,?_]
 ·unfold atI ixN;rw[ll,if_neg tb_g%,if_pos tb_g%];show b.l1[((-1:Int)+(b.n:Int)).toNat]? = _;rwa[show((-1:Int)+(b.n:Int)).toNat=b.n-1 by omega]
 refine mup h (ls:=[b.l0,b.l1++[k]]) tb_g% tb_g% tb_g% (fun l m=>?_) (fun l m=>?_) fun z=>?_
 ·k_dat m "d"
  walk_at "H"
  ·exact bW (lsb h _ (by simp)).1 tb_g%
  ·rw[cj,ll];show b.n+1<=20;omega
 ·k_dat m "d"
  walk_at "H"
  ·exact(lsb h _ (by simp)).2
  ·intro z mz;rcases dX.mp mz with mz|mz
   ·exact(lsb h b.l1 (by simp)).2 z mz
   ·rw[eY.mp mz];exact(lsb h b.l1 (by simp)).2 k mk
 ·obtain⟨_,_,lo,hi,_,_,_,_,_,v,_⟩:=z.2 (show b.tt+2≠0 by omega);have:=(v (b.l1++[k]) (by simp)).1;rw[cj,ll]at this;have:((b.n+1:Nat):Int)<=b.n:=this;omega
theorem mr9{ns:List Int}(hs:ns∈[[0,0,0,1],[0,1,0,0],[0,0,1,0],[0,0,0,0,1,1]]):Bad 4 { b.pz with dn:=ns }:=by
 k_dat hs "d"
 rcases hs with rfl|rfl|rfl|rfl
 ·exact S9 h (y:=#[0,0,[],b.n,0,0,0,1,none,none,[]]) rfl (by unfold N6;decide) tb_g% rfl (.inr #[rfl,#[rfl,rfl,rfl],fun z=>by cases (z.1 rfl).2.2.2])
 ·exact S9 h (y:=#[0,0,[],b.n,0,1,0,0,none,none,[]]) rfl (by unfold N6;decide) tb_g% rfl (.inr #[rfl,#[rfl,rfl,rfl],fun z=>by cases (z.1 rfl).2.1])
 ·exact S9 h (y:=#[0,0,[],b.n,0,0,1,0,none,none,[]]) rfl (by unfold N6;decide) tb_g% rfl (.inr #[rfl,#[rfl,rfl,rfl],fun z=>by cases (z.1 rfl).2.2.1])
 ·exact S9 h (y:=#[0,0,[],b.n,0,0,0,0,some 1,some 1,[]]) rfl (by unfold N6;decide) tb_g% rfl (.inl #[rfl,by decide])
include h
theorem Dv:11<=b.md/\b.md<=45/\b.md*b.n<=90/\90<b.md*b.n+b.n:=by
 unfold Bs.md;rcases h.n with e|e|e|e <;> rw[e] <;> decide
theorem bw{c p q r s t u v w x y z a:Int}(n6:N6 [c,p,q,r,s,t,u,v,w,x,y,z,a])(no:¬ (Pl c b.re 0 [#[p,q,r],#[s,t,u],#[v,w,x],#[y,z,a]]/\Su b.n 0 0 [#[y,z,a],#[v,w,x],#[s,t,u],#[p,q,r]])):Bad 5 { b.pz with wi:=[c,p,q,r,s,t,u,v,w,x,y,z,a] }:=
 amu h (bs:=[#[p,q,r],#[s,t,u],#[v,w,x],#[y,z,a]]) n6 tb_g% no
theorem mw0:Bad 5 { b.pz with wi:=[b.ck-1,b.fi,b.fi,90,b.fi+2,b.fi+4,b.md,b.fi+5,b.fi+5,40,b.ck,b.ck,50] }:=by
 have f:=h.fi;have r:=h.re;have m:=Dv h;have hn:=h.n
 walk_at "F"
 ·unfold Bs.ck at mz
  k_dat mz "d"
  rcases mz with rfl|rfl|rfl|rfl|rfl|rfl|rfl|rfl|rfl|rfl|rfl|rfl|rfl <;> omega
 have:b.ck<=b.ck-1:=z.1.2.2.2.2.2.2.2.2.2.2.2.2.2.2.2.2.2.2.1;omega
theorem mw1:Bad 5 { b.pz with wi:=[b.ck+1,b.fi,b.fi,90,b.fi+2,b.fi+4,b.md,b.fi+5,b.fi+5,40,b.ck,b.ck,50] }:=by
 have f:=h.fi;have r:=h.re;have m:=Dv h;have hn:=h.n
 walk_at "F"
 ·unfold Bs.ck at mz
  k_dat mz "d"
  rcases mz with rfl|rfl|rfl|rfl|rfl|rfl|rfl|rfl|rfl|rfl|rfl|rfl|rfl <;> omega
 have:b.ck+1-b.re<b.fi:=z.1.2.2.2.2.1;unfold Bs.ck at this;omega
theorem mw2:Bad 5 { b.pz with wi:=[b.ck,b.fi,b.fi,90,b.fi+2,b.fi+4,b.md+1,b.fi+5,b.fi+5,40,b.ck,b.ck,50] }:=by
 have f:=h.fi;have r:=h.re;have m:=Dv h;have hn:=h.n
 walk_at "F"
 ·unfold Bs.ck at mz
  k_dat mz "d"
  rcases mz with rfl|rfl|rfl|rfl|rfl|rfl|rfl|rfl|rfl|rfl|rfl|rfl|rfl <;> omega
 have y:b.fi+2=b.fi+4\/(b.md+1)*b.n<=0+50+40:=z.2.2.2.2.2.1;have y:=y.resolve_left tb_g%;rw[Qk]at y;omega
theorem mw3:Bad 5 { b.pz with wi:=[b.ck,b.fi,b.fi,1,b.fi+2,b.fi+4,1,b.fi+5,b.fi+5,40,b.ck,b.ck,50] }:=by
 have f:=h.fi;have r:=h.re;have m:=Dv h;have hn:=h.n
 walk_at "F"
 ·unfold Bs.ck at mz
  k_dat mz "d"
  rcases mz with rfl|rfl|rfl|rfl|rfl|rfl|rfl|rfl|rfl|rfl|rfl|rfl|rfl <;> omega
 have y:0+50+40+1-1<(1+1)*(b.n:Int):=z.2.2.2.2.2.2.2.2.1;omega
theorem mw4:Bad 5 { b.pz with wi:=[b.ck,b.fi,b.fi,90,b.fi,b.fi+4,b.md,b.fi+5,b.fi+5,40,b.ck,b.ck,50] }:=by
 have f:=h.fi;have r:=h.re;have m:=Dv h;have hn:=h.n
 walk_at "F"
 ·unfold Bs.ck at mz
  k_dat mz "d"
  rcases mz with rfl|rfl|rfl|rfl|rfl|rfl|rfl|rfl|rfl|rfl|rfl|rfl|rfl <;> omega
 have y:b.fi<b.fi:=z.1.2.2.2.2.2.1;omega
theorem mw5:Bad 5 { b.pz with wi:=[b.ck,0,b.fi,1,b.fi+2,b.fi+4,b.md,b.fi+5,b.fi+5,40,b.ck,b.ck,50] }:=by
 have f:=h.fi;have r:=h.re;have m:=Dv h;have hn:=h.n
 walk_at "F"
 ·unfold Bs.ck at mz
  k_dat mz "d"
  rcases mz with rfl|rfl|rfl|rfl|rfl|rfl|rfl|rfl|rfl|rfl|rfl|rfl|rfl <;> omega
 have y:(0:Int)<0:=z.1.1;omega
theorem mw6:Bad 5 { b.pz with wi:=[b.ck,b.fi,b.fi,90,b.fi+2,b.fi+4,b.md,b.fi+5,b.fi+5-1,40,b.ck,b.ck,50] }:=by
 have f:=h.fi;have r:=h.re;have m:=Dv h;have hn:=h.n
 walk_at "F"
 ·unfold Bs.ck at mz
  k_dat mz "d"
  rcases mz with rfl|rfl|rfl|rfl|rfl|rfl|rfl|rfl|rfl|rfl|rfl|rfl|rfl <;> omega
 have y:b.fi+5<=b.fi+5-1:=z.1.2.2.2.2.2.2.2.2.2.2.2.1;omega
theorem mw7:Bad 5 { b.pz with wi:=[b.ck,b.fi,b.fi,90,b.fi+2,b.fi+4,b.md,b.fi+5,b.fi+5,40,b.ck,b.ck,0] }:=by
 have f:=h.fi;have r:=h.re;have m:=Dv h;have hn:=h.n
 walk_at "F"
 ·unfold Bs.ck at mz
  k_dat mz "d"
  rcases mz with rfl|rfl|rfl|rfl|rfl|rfl|rfl|rfl|rfl|rfl|rfl|rfl|rfl <;> omega
 have y:(1:Int)<=0:=z.1.2.2.2.2.2.2.2.2.2.2.2.2.2.2.2.2.2.1;omega
theorem KJ:2<=b.na/\b.na<=9/\(b.v≠0->b.na=b.n+1)/\(b.v=0->b.na=b.n):=by
 have hn:=h.n;unfold Bs.na;split <;> omega
theorem aaf{n v:Int}{ks:List Int}(hn:0<=n/\n<10 ^ 60)(hv:0<=v/\v<10 ^ 60)(hk:∀k∈ks,0<=k/\k<10 ^ 60):N6 ([n,v]++ks):=fun z m=>by
 walk_at "C"
 ·k_dat m "d"
  walk_at "H"
  ·exact hn
  ·exact hv
 ·exact hk z m
theorem kb6:∀k∈b.ks,0<=k/\k<10 ^ 60:=fun k m=>ahS h k (j5 _ m)
theorem ms0:Bad 6 { b.pz with se:=[b.na-1,(b.v:Int)]++b.ks }:=by
 have a:=KJ h;have v:=h.v;have hn:=h.n;refine yc h (aaf h tb_g% tb_g% (kb6 h)) (by rw[gF h];omega) fun z=>?_;by_cases e:b.v=0
 ·have:=z.2.2.2.2.1 tb_g%;rw[gF h]at this;omega
 ·have:=z.2.2.2.2.2 tb_g%;omega
theorem ms1:Bad 6 { b.pz with se:=[b.na,61]++b.ks }:=by
 have a:=KJ h;have hn:=h.n;refine yc h (aaf h tb_g% tb_g% (kb6 h)) (by rw[gF h];omega) fun z=>?_;have:=z.1;omega
theorem ms2:∃k:Int,([b.na,(b.v:Int)]++b.ks)[3]? = some k/\Bad 6 { b.pz with se:=([b.na,(b.v:Int)]++b.ks).set 2 k }:=by
 have a:=KJ h;have v:=h.v;have hn:=h.n;have kl:=gF h;have kb:=kb6 h;obtain⟨p,q,r,e⟩:=CN (l:=b.ks) tb_g%;rw[e]at kl kb;rw[e];show#[q,rfl,yc h (ks:=q::q::r) (aaf h tb_g% tb_g% fun k m=>kb k ?_) (by show(p::q::r).length<=20;omega) fun z=>?_]
 ·walk_at "G"
  ·simp
  ·exact cR _ m
 ·have:=(tO.mp z.2.1.1).1 q bV;omega
theorem ms3:Bad 6 { b.pz with se:=([b.na,(b.v:Int)]++b.ks).set (b.n+1) 1152921504606846976 }:=by
 have a:=KJ h;have v:=h.v;have hn:=h.n;have kl:=gF h;have kb:=kb6 h;obtain⟨r,p,e⟩:=abK (l:=b.ks) tb_g%;rw[e]at kl kb;rw[cj]at kl;have kl:r.length+1=b.n:=kl;rw[e,<-fH,show b.n+1=([b.na,(b.v:Int)]++r).length by rw[cj];show _=2+r.length;omega,abL,fH];refine yc h (ks:=r++[1152921504606846976]) (aaf h tb_g% tb_g% fun k m=>?_) (by rw[cj];show r.length+1<=20;omega) fun z=>?_
 ·walk_at "C"
  ·exact kb k (zK _ m)
  ·rw[eY.mp m];decide
 ·have:=z.2.1.2 1152921504606846976 (by simp);omega
theorem ms4(v0:0<b.v):Bad 6 { b.pz with se:=[b.na,(b.v:Int),3*2 ^ (b.v-1)*g8 5 % 1152921504606846976] }:=by
 have a:=KJ h;have v:=h.v;have hn:=h.n;refine yc h (ks:=[3*2 ^ (b.v-1)*g8 5 % 1152921504606846976]) (aaf h tb_g% tb_g% fun k m=>?_) tb_g% fun z=>?_
 ·rw[eY.mp m];have h1:=qP (3*2 ^ (b.v-1)*g8 5) (show(1152921504606846976:Int)≠0 by decide);have h2:=Dk (3*2 ^ (b.v-1)*g8 5) (show(0:Int)<1152921504606846976 by decide);omega
 ·have:=z.2.2.2.1 _ bV;rw[ahO tb_g% tb_g% tb_g% tb_g%]at this;omega
theorem ms5:Bad 6 { b.pz with se:=[b.na,(b.v:Int)+1]++b.ks }:=by
 have a:=KJ h;have v:=h.v;have hn:=h.n;have kl:=gF h;obtain⟨p,q,r,e⟩:=CN (l:=b.ks) tb_g%;refine yc h (aaf h tb_g% tb_g% (kb6 h)) (by rw[kl];omega) fun z=>?_;have mp:p∈b.ks:=by rw[e];exact bV
 have:=z.2.2.2.1 p mp;obtain⟨k,hk,rfl⟩:=KH h mp;rw[ahP h k hk]at this;omega
theorem ms6{s:Int}(hs:0<=s/\s<1152921504606846976){l:List Int}(p:l.Perm (b.ks++[s])):Bad 6 { b.pz with se:=[b.na+1,(b.v:Int)]++l }:=by
 have a:=KJ h;have v:=h.v;have hn:=h.n;have kl:l.length=b.n+1:=by rw[p.length_eq,cj,gF h];rfl
 refine yc h (aaf h tb_g% tb_g% fun k m=>?_) tb_g% fun z=>?_
 ·rcases dX.mp (p.mem_iff.mp m)with m|m
  ·exact kb6 h k m
  ·rw[eY.mp m];omega
 ·have:=z.2.2.1;omega
theorem ms7{ns:List Int}(hs:ns∈[[1,2,3],[1,2,3,4,5],[]]):Bad 7 { b.pz with su:=ns }:=by
 k_dat hs "d"
 rcases hs with rfl|rfl|rfl
 ·exact Z9 h (by unfold N6;decide) tb_g% tb_g%
 ·exact Z9 h (by unfold N6;decide) tb_g% tb_g%
 ·exact Z9 h (by unfold N6;decide) tb_g% tb_g%
theorem mk0{x:Int}(hx:x=0\/x=1\/x=3\/x=66):Bad 0 { b.pz with kp:=[x,b.re,b.sp] }:=by
 have r:=h.re;have s:=h.sp;refine aac h (fun z m=>?_) fun z=>?_
 ·k_dat m "d"
  rcases m with rfl|rfl|rfl <;> omega
 ·obtain⟨z1,z2,z3,_⟩:=z;omega
theorem mk1{x:Int}(hx:x=0\/x=1000000001):Bad 0 { b.pz with kp:=[(b.n:Int),x,b.sp] }:=by
 have hn:=h.n;have s:=h.sp;refine aac h (fun z m=>?_) fun z=>?_
 ·k_dat m "d"
  rcases m with rfl|rfl|rfl <;> omega
 ·obtain⟨_,_,_,z1,z2,_⟩:=z;omega
theorem mk2{x:Int}(hx:x=0\/x=1000000001):Bad 0 { b.pz with kp:=[(b.n:Int),b.re,x] }:=by
 have hn:=h.n;have r:=h.re;refine aac h (fun z m=>?_) fun z=>?_
 ·k_dat m "d"
  rcases m with rfl|rfl|rfl <;> omega
 ·obtain⟨_,_,_,_,_,z1,z2⟩:=z;omega
end
open MK
def Mvd(H0:Hp)(d:Addr)(Q:VK):Prop:=∀(k:Nat)(P:Pz)(F:Hp),Bad k P->PdH F d P->Same H0 F->Q (.int (k+1:Nat)) F
def spMv(m:Int):Sp:=fun vs H Q _=>Ex6 fun(H0:Hp) (d:Addr) (x:Ax) (s:Int) (b:Bs) (t:Int)=>acV (vs=[.ref d,.int t]) (Wr b) (Own H0 H (LP d x s b.pz)) (x.bs.length=2) ((0<=s/\s<1152921504606846976)) ((0<=t/\t<m)) (Mvd H0 d Q)
theorem zE(T:Tx K mg A):FnK P w base T.jd CX0 1 (spMv 7):=by
 k_dat (T.jd,T.jd.ok,oN) "f"
 ·obtain⟨H0,d,⟨kp,cm,wn,ul,up,dn,dl,wi,se,su,bs⟩,s,b,t,rfl,h,O,lb,hs,ht,q⟩:=h;have hc:H cm=some (li ([b.T,b.lo]++pN b.c)):=O.at 2 rfl;have cl:(([b.T,b.lo]++pN b.c).map V.int).length=2+2*b.n:=by rw[aB,Gh,wD h]
  have hn:=h.n;show#[_,by k_dat ([],[oN.nd,jy Dg HW HX vL ?_ ?_],[]) "p",?_];refine sq fun R hR=>#[_,rfl,gb (.inl (O.at 0 rfl)) (bL 1 tb_g% rfl) ?_];refine hR [some (.ref d),some (.int t),some (.ref cm),none] _ (sq fun R hR=>#[_,rfl,gb (.inl (O.at 0 rfl)) (bL 0 tb_g% rfl) (aH (.inl (.inl (O.at 1 rfl))) (v:=.int b.n) rfl ?_)]);refine hR [some (.ref d),some (.int t),some (.ref cm),some (.int b.n)] _ (sq fun R hR=>?_);have fin:∀(l:List Int)(F:Hp),Bad 1 { b.pz with cm:=l }->Own H0 F (LP d #[kp,cm,wn,ul,up,dn,dl,wi,se,su,bs] s { b.pz with cm:=l })->R [some (.ref d),some (.int t),some (.ref cm),some (.int b.n)] F:=fun l F bad o=>hR _ _ (q 1 _ F bad (o.pd lb rfl) o.1)
  k_dat h0 "b"
  ·show#[_,rfl,aH (.inl (.inl hc)) (v:=.int b.T) (bR (j:=0) rfl) #[_,_,rfl,rfl,_,rfl,.inl #[cm,_,0,0,rfl,rfl,hc,ixL (j:=0) (by rw[cl];omega),?_]]];exact O.step (o':=li ([b.T-1,b.lo]++pN b.c)) 2 rfl rfl fun F o=>fin _ F (mc0 h) o
  have h0:t≠0:=fun e=>h0 (decide_eq_true (congrArg V.int e))
  k_dat h1 "b"
  ·show#[_,rfl,aH (.inl (.inl hc)) (v:=.int b.lo) (bR (j:=1) rfl) #[_,_,rfl,rfl,_,rfl,.inl #[cm,_,1,1,rfl,rfl,hc,ixL (j:=1) (by rw[cl];omega),?_]]];exact O.step (o':=li ([b.T,b.lo+1]++pN b.c)) 2 rfl rfl fun F o=>fin _ F (mc1 h) o
  have h1:t≠1:=fun e=>h1 (decide_eq_true (congrArg V.int e))
  k_dat h2 "b"
  ·show#[_,rfl,.inl #[cm,_,3,3,rfl,rfl,hc,ixL (j:=3) (by rw[cl];omega),?_]];have e:(([b.T,b.lo]++pN b.c).map V.int).set 3 (.int 0)=(([b.T,b.lo]++pN b.c).set 3 0).map V.int:=lN.symm;rw[e];exact O.step (o':=li (([b.T,b.lo]++pN b.c).set 3 0)) 2 rfl rfl fun F o=>fin _ F (mc2 h) o
  have h2:t≠2:=fun e=>h2 (decide_eq_true (congrArg V.int e))
  k_dat h3 "b"
  ·obtain⟨k,ek,bad⟩:=mc3 h;show#[_,rfl,aH (.inl (.inl hc)) (v:=.int k) (bR (j:=2) (by rw[cB,ek];rfl)) #[_,rfl,.inl #[cm,_,4,4,rfl,rfl,hc,ixL (j:=4) (by rw[cl];omega),?_]]];have e:(([b.T,b.lo]++pN b.c).map V.int).set 4 (.int k)=(([b.T,b.lo]++pN b.c).set 4 k).map V.int:=lN.symm;rw[e];exact O.step (o':=li (([b.T,b.lo]++pN b.c).set 4 k)) 2 rfl rfl fun F o=>fin _ F bad o
  have h3:t≠3:=fun e=>h3 (decide_eq_true (congrArg V.int e))
  k_dat h4 "b"
  ·show#[_,rfl,_,rfl,_,_,rfl,rfl,pD tb_g% tb_g%,.inl #[cm,_,2*(b.n:Int),2*b.n,rfl,rfl,hc,?_,?_]]
   ·have:=ixL (n:=(([b.T,b.lo]++pN b.c).map V.int).length) (j:=2*b.n) (by rw[cl];omega);rwa[show((2*b.n:Nat):Int)=2*(b.n:Int) by omega]at this
   have e:(([b.T,b.lo]++pN b.c).map V.int).set (2*b.n) (.int 1152921504606846976)=(([b.T,b.lo]++pN b.c).set (2*b.n) 1152921504606846976).map V.int:=lN.symm;rw[e];exact O.step (o':=li (([b.T,b.lo]++pN b.c).set (2*b.n) 1152921504606846976)) 2 rfl rfl fun F o=>fin _ F (mc4 h) o
  have h4:t≠4:=fun e=>h4 (decide_eq_true (congrArg V.int e))
  k_dat h5 "b"
  ·refine sq fun R2 hR2=>#[_,rfl,.inl #[rfl,_,.inl (.inl hc)],tb_g%,fun p hp=>?_]
   k_dat (nwA hp,H1,zH1,hp1) "n"
   have O1:=O.same zH1;have hc1:H1 cm=some (li ([b.T,b.lo]++pN b.c)):=O1.at 2 rfl;show#[cm,p,_,_,rfl,rfl,hc1,hp1,fu (aL (by rw[cl];show _+2<=_;omega)),?_];have e:([b.T,b.lo]++pN b.c).map V.int++[.int 1152921504606846975,.int 1]=(([b.T,b.lo]++pN b.c)++[1152921504606846975,1]).map V.int:=by rw[bB (l₂:=[1152921504606846975,1])];rfl
   rw[e];refine O1.step (P:=fun F=>R2 [some (.ref d),some (.int t),some (.ref cm),some (.int b.n)] F) (o':=li (([b.T,b.lo]++pN b.c)++[1152921504606846975,1])) 2 rfl rfl fun F o=>hR2 _ _ ?_;have o:Own H0 F (LP d #[kp,cm,wn,ul,up,dn,dl,wi,se,su,bs] s { b.pz with cm:=([b.T,b.lo]++pN b.c)++[1152921504606846975,1] }):=o;show#[_,rfl,aH (.inl (.inl (o.at 2 rfl))) (v:=.int b.T) (bR (j:=0) rfl) #[_,_,rfl,rfl,_,rfl,.inl #[cm,_,0,0,rfl,rfl,o.at 2 rfl,ixL (j:=0) (by rw[aB];exact Ye _),?_]]];exact o.step (o':=li (([b.T+1,b.lo]++pN b.c)++[1152921504606846975,1])) 2 rfl rfl fun F o=>fin _ F (mc5 h) o
  refine sq fun R2 hR2=>#[_,rfl,tb_g%,fun p hp=>#[_,rfl,fW ((Same.new hp) _ _ (O.at 0 rfl)) tb_g% ?_]];rw[zA Wt (i:=2) tb_g% rfl];have O1:=O.put (o':=li [(b.n:Int),1]) hp 3 rfl;refine O1.step (P:=fun F=>R2 [some (.ref d),some (.int t),some (.ref cm),some (.int b.n)] F) (L':=LP d #[kp,cm,p,ul,up,dn,dl,wi,se,su,bs] s { b.pz with wn:=[(b.n:Int),1] }) 0 rfl rfl fun F o=>hR2 _ _ ?_;exact q 2 _ F (mc6 h) (o.pd lb rfl) o.1
open MK
theorem Own.swap{H0 F J:Hp}{L L':List (Addr × HO)}{n:Addr}{o':HO}(h:Own H0 F L)(s:Same F J)(hn:F n=none)(ho:J n=some o')(i:Nat)(e':L.set i (n,o')=L'):Own H0 J L':=by
 subst e';have g:=h.put hn (o':=o') i rfl;show#[h.1.trans s,g.2.1,fun p m=>#[?_,(g.2.2 p m).2]];rcases Mi m with m|rfl
 ·exact s _ _ (h.2.2 p m).1
 ·exact ho
theorem cutt1(xs:List V):pC xs none (some 1)=xs.take 1:=by
 cases xs with
 |nil=>rfl
 |cons x xs=>simp[pC,HT.sIx]
theorem CP(T:Tx K mg A):FnK P w base T.jX CX0 1 (spMv 13):=by
 k_dat (T.jX,T.jX.ok,qz) "f"
 ·obtain⟨H0,d,⟨kp,cm,wn,ul,up,dn,dl,wi,se,su,bs⟩,s,b,t,rfl,h,O,lb,hs,ht,q⟩:=h;obtain⟨b0,b1,rfl⟩:∃b0 b1,bs=[b0,b1]:=by
   obtain⟨b0,b1,r,e⟩:=CN (l:=bs) (Ag lb.symm);have lb:bs.length=2:=lb;rw[e]at lb;show#[b0,b1,by rw[e,vV.mp (Ii (Ii lb))]]
  have hu:H up=some (li [b.tt,b.ov,b.un,b.tn,b.low,b.hi]):=O.at 5 rfl;have hl:H ul=some (.lst [.ref b0,.ref b1]):=O.at 4 rfl;have hb1:H b1=some (li b.l1):=O.at 12 rfl;have hn:=h.n;show#[_,by (k_dat ([hdA],[qz.nd],[]) "p"; k_dat bY "h"; k_dat bY "h"; k_dat bY "h"; k_dat bY "h"; k_dat rB "h"; k_dat bY "h"),?_];refine sq fun R hR=>#[_,rfl,gb (.inl (O.at 0 rfl)) (bL 4 tb_g% rfl) ?_];refine hR [some (.ref d),some (.int t),some (.ref up),none] _ (sq fun R hR=>#[_,rfl,gb (.inl (O.at 0 rfl)) (bL 3 tb_g% rfl) ?_]);refine hR [some (.ref d),some (.int t),some (.ref up),some (.ref ul)] _ (sq fun R hR=>?_);have fin:∀(l:List Int)(bs:List Addr) (ls:List (List Int)) (F:Hp),Bad 3 { b.pz with up:=l,ul:=ls }->bs.length=ls.length->Own H0 F (LP d #[kp,cm,wn,ul,up,dn,dl,wi,se,su,bs] s { b.pz with up:=l,ul:=ls })->R [some (.ref d),some (.int t),some (.ref up),some (.ref ul)] F:=fun l bs ls F bad e o=>hR _ _ (q 3 _ F bad (o.pd e rfl) o.1)
  k_dat h0 "b"
  ·k_dat (hu,b.tt,up,0) "j"
   exact O.step (o':=li [b.tt+1,b.ov,b.un,b.tn,b.low,b.hi]) 5 rfl rfl fun F o=>fin _ _ [b.l0,b.l1] F (mr0 h) rfl o
  have h0:t≠0:=fun e=>h0 (decide_eq_true (congrArg V.int e))
  k_dat h1 "b"
  ·k_dat (hu,b.ov,up,1) "j"
   exact O.step (o':=li [b.tt,b.ov+1,b.un,b.tn,b.low,b.hi]) 5 rfl rfl fun F o=>fin _ _ [b.l0,b.l1] F (mr1 h) rfl o
  have h1:t≠1:=fun e=>h1 (decide_eq_true (congrArg V.int e))
  k_dat h2 "b"
  ·show#[_,rfl,aH (.inl (.inl hu)) (v:=.int b.un) rfl #[_,rfl,gb (.inl (O.at 0 rfl)) (bL 0 tb_g% rfl) (aH (.inl (.inl (O.at 1 rfl))) (v:=.int b.n) rfl #[_,_,rfl,rfl,_,rfl,.inl #[up,_,2,2,rfl,rfl,hu,rfl,?_]])]];exact O.step (o':=li [b.tt,b.ov,b.un+b.n,b.tn,b.low,b.hi]) 5 rfl rfl fun F o=>fin _ _ [b.l0,b.l1] F (mr2 h) rfl o
  have h2:t≠2:=fun e=>h2 (decide_eq_true (congrArg V.int e))
  k_dat h3 "b"
  ·k_dat (hu,b.low,up,4) "j"
   exact O.step (o':=li [b.tt,b.ov,b.un,b.tn,b.low+1,b.hi]) 5 rfl rfl fun F o=>fin _ _ [b.l0,b.l1] F (mr3 h) rfl o
  have h3:t≠3:=fun e=>h3 (decide_eq_true (congrArg V.int e))
  k_dat h4 "b"
  ·k_dat (hu,b.hi,up,5) "j"
   exact O.step (o':=li [b.tt,b.ov,b.un,b.tn,b.low,b.hi-1]) 5 rfl rfl fun F o=>fin _ _ [b.l0,b.l1] F (mr4 h) rfl o
  have h4:t≠4:=fun e=>h4 (decide_eq_true (congrArg V.int e))
  k_dat h5 "b"
  ·show#[_,rfl,.inl #[up,_,5,5,rfl,rfl,hu,rfl,?_]];exact O.step (o':=li [b.tt,b.ov,b.un,b.tn,b.low,1152921504606846976]) 5 rfl rfl fun F o=>fin _ _ [b.l0,b.l1] F (mr5 h) rfl o
  have h5:t≠5:=fun e=>h5 (decide_eq_true (congrArg V.int e))
  k_dat h6 "b"
  ·show#[_,rfl,.inl #[rfl,_,.inl (.inl hl)],tb_g%,fun e he=>?_];have O1:=O.ins (o:=.lst []) he 13 rfl;show#[ul,_,_,rfl,rfl,(Same.new he) _ _ hl,tb_g%,?_];exact O1.step (P:=fun F=>R [some (.ref d),some (.int t),some (.ref up),some (.ref ul)] F) (L':=LP d #[kp,cm,wn,ul,up,dn,dl,wi,se,su,[b0,b1,e]] s { b.pz with ul:=[b.l0,b.l1,[]] }) 4 rfl rfl fun F o=>fin [b.tt,b.ov,b.un,b.tn,b.low,b.hi] _ [b.l0,b.l1,[]] F (mr6 h) rfl o
  have h6:t≠6:=fun e=>h6 (decide_eq_true (congrArg V.int e))
  k_dat h7 "b"
  ·show#[_,rfl,aH (.inl (.inl hl)) (v:=.ref b1) rfl #[1,rfl,b1,_,rfl,.inl (.inl hb1),fun p hp=>?_]];rw[cut1,<-Xb]
   k_dat (nwA hp,H1,s1,f1) "n"
   show#[_,rfl,aH (.inl (.inl (s1 _ _ hl))) (v:=.ref b1) rfl #[1,rfl,b1,_,rfl,.inl (.inl (s1 _ _ hb1)),fun p2 hp2=>?_]];rw[cutt1,<-Xa]
   k_dat (nwA hp2,H2,s2,f2) "n"
   have ll:=vA h;show#[p,p2,_,_,rfl,rfl,s2 _ _ f1,f2,fu (aL (by rw[aB,aB,GC,fJ,ll];omega)),fun n hn2=>?_];rw[<-bB];have O1:=(O.same (s1.trans s2)).put (o':=li (b.l1.drop 1++b.l1.take 1)) hn2 12 rfl;show#[_,rfl,.inl #[ul,_,1,1,rfl,rfl,(Same.new hn2) _ _ ((s1.trans s2) _ _ hl),rfl,?_]];exact O1.step (P:=fun F=>R [some (.ref d),some (.int t),some (.ref up),some (.ref ul)] F) (L':=LP d #[kp,cm,wn,ul,up,dn,dl,wi,se,su,[b0,n]] s { b.pz with ul:=[b.l0,b.l1.drop 1++b.l1.take 1] }) 4 rfl rfl fun F o=>fin [b.tt,b.ov,b.un,b.tn,b.low,b.hi] _ [b.l0,b.l1.drop 1++b.l1.take 1] F (mr7 h) rfl o
  have h7:t≠7:=fun e=>h7 (decide_eq_true (congrArg V.int e))
  k_dat h8 "b"
  ·obtain⟨k,ek,bad⟩:=mr8 h;have ll:=vA h;have ek:atI (b.l1.map V.int) (-1)=some (.int k):=by
    unfold atI at ek ⊢;rw[aB];cases hx:ixN b.l1.length (-1)with
    |none=>rw[hx]at ek;cases ek
    |some j =>
     rw[hx]at ek;show(b.l1.map V.int)[j]? = _;rw[cB,show b.l1[j]? = some k from ek];rfl
   refine sq fun R2 hR2=>#[_,rfl,aH (.inl (.inl hl)) (v:=.ref b1) rfl #[.inl #[rfl,_,.inl (.inl hb1)],_,rfl,aH (.inl (.inl hl)) (v:=.ref b1) rfl #[_,rfl,aH (.inl (.inl hb1)) ek #[b1,_,_,rfl,rfl,hb1,aL (by rw[aB,ll];omega),?_]]]];rw[show b.l1.map V.int++[V.int k]=(b.l1++[k]).map V.int by rw[bB];rfl];refine O.step (P:=fun F=>R2 [some (.ref d),some (.int t),some (.ref up),some (.ref ul)] F) (L':=LP d #[kp,cm,wn,ul,up,dn,dl,wi,se,su,[b0,b1]] s { b.pz with ul:=[b.l0,b.l1++[k]] }) 12 rfl rfl fun F o=>hR2 _ _ ?_;have hu:F up=some (li [b.tt,b.ov,b.un,b.tn,b.low,b.hi]):=o.at 5 rfl
   k_dat (hu,b.tt,up,0) "j"
   exact o.step (L':=LP d #[kp,cm,wn,ul,up,dn,dl,wi,se,su,[b0,b1]] s { b.pz with up:=[b.tt+2,b.ov,b.un,b.tn,b.low,b.hi],ul:=[b.l0,b.l1++[k]] }) 5 rfl rfl fun F o=>fin _ _ _ F bad rfl o
  have h8:t≠8:=fun e=>h8 (decide_eq_true (congrArg V.int e));refine sq fun R2 hR2=>#[tb_g%,fun p1 hp1=>?_]
  k_dat (nwA hp1,H1,s1,f1) "n"
  k_dat (p2,hp2) "t"
  k_dat (nwA hp2,H2,s2,f2) "n"
  k_dat (p3,hp3) "t"
  k_dat (nwA hp3,H3,s3,f3) "n"
  k_dat (p4,hp4) "t"
  k_dat (nwA hp4,H4,s4,f4) "n"
  k_dat (p5,hp5) "t"
  k_dat (nwA hp5,H5,s5,f5) "n"
  have ss:=s1.trans (s2.trans (s3.trans (s4.trans s5)));have g1:=(s2.trans (s3.trans (s4.trans s5))) _ _ f1;have g2:=(s3.trans (s4.trans s5)) _ _ f2;have g3:=(s4.trans s5) _ _ f3;have g4:=s5 _ _ f4;obtain⟨p,ns,ei,np,hp,mn⟩:∃(p:Addr)(ns:List Int),atI [V.ref p1,V.ref p2,V.ref p3,V.ref p4] (t % 4)=some (.ref p)/\H p=none/\H5 p=some (li ns)/\ns∈[[0,0,0,1],[0,1,0,0],[0,0,1,0],[0,0,0,0,1,1]]:=by
   rcases(show t % 4=0\/t % 4=1\/t % 4=2\/t % 4=3 by omega)with e|e|e|e <;> rw[e]
   ·show#[p1,[0,0,0,1],rfl,hp1,g1,by simp]
   ·show#[p2,[0,1,0,0],rfl,s1.free hp2,g2,by simp]
   ·show#[p3,[0,0,1,0],rfl,(s1.trans s2).free hp3,g3,by simp]
   ·show#[p4,[0,0,0,0,1,1],rfl,(s1.trans (s2.trans s3)).free hp4,g4,by simp]
  have O1:=O.swap ss np hp 6 rfl;show#[_,rfl,_,_,rfl,rfl,(by show(0:Int)<4;decide),aH (.inl (.inl f5)) ei #[_,rfl,fW (O1.at 0 rfl) tb_g% ?_]];rw[zA Wt (i:=5) tb_g% rfl];refine O1.step (P:=fun F=>R2 [some (.ref d),some (.int t),some (.ref up),some (.ref ul)] F) (L':=LP d #[kp,cm,wn,ul,up,p,dl,wi,se,su,[b0,b1]] s { b.pz with dn:=ns }) 0 rfl rfl fun F o=>hR2 _ _ ?_;exact q 4 _ F (mr9 h mn) (o.pd rfl rfl) o.1
open MK
theorem CQ(T:Tx K mg A):FnK P w base T.jY CX0 1 (spMv 9):=by
 k_dat (T.jY,T.jY.ok,qC) "f"
 ·obtain⟨H0,d,⟨kp,cm,wn,ul,up,dn,dl,wi,se,su,bs⟩,s,b,t,rfl,h,O,lb,hs,ht,q⟩:=h;have hw:H wi=some (li [b.ck,b.fi,b.fi,90,b.fi+2,b.fi+4,b.md,b.fi+5,b.fi+5,40,b.ck,b.ck,50]):=O.at 8 rfl;show#[_,by k_dat ([],[qC.nd],[]) "p",?_];refine sq fun R hR=>#[_,rfl,gb (.inl (O.at 0 rfl)) (bL 7 tb_g% rfl) ?_];refine hR [some (.ref d),some (.int t),some (.ref wi)] _ (sq fun R hR=>?_);have fin:∀(l:List Int)(F:Hp),Bad 5 { b.pz with wi:=l }->Own H0 F (LP d #[kp,cm,wn,ul,up,dn,dl,wi,se,su,bs] s { b.pz with wi:=l })->R [some (.ref d),some (.int t),some (.ref wi)] F:=fun l F bad o=>hR _ _ (q 5 _ F bad (o.pd lb rfl) o.1)
  k_dat h0 "b"
  ·k_dat (hw,b.ck,wi,0) "j"
   exact O.step (o':=li [b.ck-1,b.fi,b.fi,90,b.fi+2,b.fi+4,b.md,b.fi+5,b.fi+5,40,b.ck,b.ck,50]) 8 rfl rfl fun F o=>fin _ F (mw0 h) o
  have h0:t≠0:=fun e=>h0 (decide_eq_true (congrArg V.int e))
  k_dat h1 "b"
  ·k_dat (hw,b.ck,wi,0) "j"
   exact O.step (o':=li [b.ck+1,b.fi,b.fi,90,b.fi+2,b.fi+4,b.md,b.fi+5,b.fi+5,40,b.ck,b.ck,50]) 8 rfl rfl fun F o=>fin _ F (mw1 h) o
  have h1:t≠1:=fun e=>h1 (decide_eq_true (congrArg V.int e))
  k_dat h2 "b"
  ·k_dat (hw,b.md,wi,6) "j"
   exact O.step (o':=li [b.ck,b.fi,b.fi,90,b.fi+2,b.fi+4,b.md+1,b.fi+5,b.fi+5,40,b.ck,b.ck,50]) 8 rfl rfl fun F o=>fin _ F (mw2 h) o
  have h2:t≠2:=fun e=>h2 (decide_eq_true (congrArg V.int e))
  k_dat h3 "b"
  ·refine sq fun R2 hR2=>#[_,rfl,.inl #[wi,_,3,3,rfl,rfl,hw,rfl,?_]];refine O.step (P:=fun F=>R2 [some (.ref d),some (.int t),some (.ref wi)] F) (o':=li [b.ck,b.fi,b.fi,1,b.fi+2,b.fi+4,b.md,b.fi+5,b.fi+5,40,b.ck,b.ck,50]) 8 rfl rfl fun F o=>hR2 _ _ ?_;have hw:F wi=some (li [b.ck,b.fi,b.fi,1,b.fi+2,b.fi+4,b.md,b.fi+5,b.fi+5,40,b.ck,b.ck,50]):=o.at 8 rfl;show#[_,rfl,.inl #[wi,_,6,6,rfl,rfl,hw,rfl,?_]];exact o.step (o':=li [b.ck,b.fi,b.fi,1,b.fi+2,b.fi+4,1,b.fi+5,b.fi+5,40,b.ck,b.ck,50]) 8 rfl rfl fun F o=>fin _ F (mw3 h) o
  have h3:t≠3:=fun e=>h3 (decide_eq_true (congrArg V.int e))
  k_dat h4 "b"
  ·show#[_,rfl,aH (.inl (.inl hw)) (v:=.int b.fi) rfl #[_,rfl,.inl #[wi,_,4,4,rfl,rfl,hw,rfl,?_]]];exact O.step (o':=li [b.ck,b.fi,b.fi,90,b.fi,b.fi+4,b.md,b.fi+5,b.fi+5,40,b.ck,b.ck,50]) 8 rfl rfl fun F o=>fin _ F (mw4 h) o
  have h4:t≠4:=fun e=>h4 (decide_eq_true (congrArg V.int e))
  k_dat h5 "b"
  ·refine sq fun R2 hR2=>#[_,rfl,.inl #[wi,_,1,1,rfl,rfl,hw,rfl,?_]];refine O.step (P:=fun F=>R2 [some (.ref d),some (.int t),some (.ref wi)] F) (o':=li [b.ck,0,b.fi,90,b.fi+2,b.fi+4,b.md,b.fi+5,b.fi+5,40,b.ck,b.ck,50]) 8 rfl rfl fun F o=>hR2 _ _ ?_;have hw:F wi=some (li [b.ck,0,b.fi,90,b.fi+2,b.fi+4,b.md,b.fi+5,b.fi+5,40,b.ck,b.ck,50]):=o.at 8 rfl;show#[_,rfl,.inl #[wi,_,3,3,rfl,rfl,hw,rfl,?_]];exact o.step (o':=li [b.ck,0,b.fi,1,b.fi+2,b.fi+4,b.md,b.fi+5,b.fi+5,40,b.ck,b.ck,50]) 8 rfl rfl fun F o=>fin _ F (mw5 h) o
  have h5:t≠5:=fun e=>h5 (decide_eq_true (congrArg V.int e))
  k_dat h6 "b"
  ·show#[_,rfl,aH (.inl (.inl hw)) (v:=.int (b.fi+5)) rfl #[_,_,rfl,rfl,_,rfl,.inl #[wi,_,8,8,rfl,rfl,hw,rfl,?_]]];exact O.step (o':=li [b.ck,b.fi,b.fi,90,b.fi+2,b.fi+4,b.md,b.fi+5,b.fi+5-1,40,b.ck,b.ck,50]) 8 rfl rfl fun F o=>fin _ F (mw6 h) o
  have h6:t≠6:=fun e=>h6 (decide_eq_true (congrArg V.int e))
  k_dat h7 "b"
  ·show#[_,rfl,.inl #[wi,_,12,12,rfl,rfl,hw,rfl,?_]];exact O.step (o':=li [b.ck,b.fi,b.fi,90,b.fi+2,b.fi+4,b.md,b.fi+5,b.fi+5,40,b.ck,b.ck,0]) 8 rfl rfl fun F o=>fin _ F (mw7 h) o
  have hk:H kp=some (li [(b.n:Int),b.re,b.sp]):=O.at 1 rfl;show#[_,rfl,gb (.inl (O.at 0 rfl)) (bL 0 tb_g% rfl) (aH (.inl (.inl hk)) (v:=.int b.re) rfl #[_,_,rfl,rfl,_,rfl,gb (.inl (O.at 0 rfl)) (bL 0 tb_g% rfl) (.inl #[kp,_,1,1,rfl,rfl,hk,rfl,?_])])];exact O.step (L':=LP d #[kp,cm,wn,ul,up,dn,dl,wi,se,su,bs] s { b.pz with kp:=[(b.n:Int),b.re-1,b.sp] }) 1 rfl rfl fun F o=>hR _ _ (q 5 _ F (amv h) (o.pd lb rfl) o.1)
open MK
theorem cut2{xs:List V}(h:2<=xs.length):pC xs (some 2) none=xs.drop 2:=Jp (n:=2) h
theorem Fy(T:Tx K mg A):FnK P w base T.m5 CX0 2 (spMv 10):=by
 k_dat (T.m5,T.m5.ok,tD) "f"
 ·obtain⟨H0,d,⟨kp,cm,wn,ul,up,dn,dl,wi,se,su,bs⟩,s,b,t,rfl,h,O,lb,hs,ht,q⟩:=h;have hw:H se=some (li ([b.na,(b.v:Int)]++b.ks)):=O.at 9 rfl;have kl:(([b.na,(b.v:Int)]++b.ks).map V.int).length=2+b.n:=by rw[aB,cj,gF h];rfl
  have hn:=h.n;have hv:=h.v;show#[_,by (k_dat ([hdA,Y7],[tD.nd,T8 (wC T).2 tb_g% rfl T.dF.g T.dF.kp T.dF.b .nil Uk,cN (lF rfl) (by rfl) T.yU Qc ?_],[]) "p"; k_dat bY "h"; k_dat bY "h"; k_dat rB "h"; k_dat bY "h"; k_dat rB "h"),?_];refine sq fun R hR=>#[_,rfl,gb (.inl (O.at 0 rfl)) (bL 8 tb_g% rfl) ?_];refine hR [some (.ref d),some (.int t),some (.ref se),none,none] _ (sq fun R hR=>#[_,rfl,gb (.inl (O.at 0 rfl)) (bL 0 tb_g% rfl) (aH (.inl (.inl (O.at 1 rfl))) (v:=.int b.n) rfl ?_)]);refine hR [some (.ref d),some (.int t),some (.ref se),some (.int b.n),none] _ (sq fun R hR=>?_);have fin:∀(sa:Addr)(l:List Int)(y:Option V)(F:Hp),Bad 6 { b.pz with se:=l }->Own H0 F (LP d #[kp,cm,wn,ul,up,dn,dl,wi,sa,su,bs] s { b.pz with se:=l })->R [some (.ref d),some (.int t),some (.ref se),some (.int b.n),y] F:=fun sa l y F bad o=>hR _ _ (q 6 _ F bad (o.pd lb rfl) o.1)
  k_dat h0 "b"
  ·show#[_,rfl,aH (.inl (.inl hw)) (v:=.int b.na) (bR (j:=0) rfl) #[_,_,rfl,rfl,_,rfl,.inl #[se,_,0,0,rfl,rfl,hw,ixL (j:=0) (by rw[kl];omega),?_]]];exact O.step (o':=li ([b.na-1,(b.v:Int)]++b.ks)) 9 rfl rfl fun F o=>fin _ _ _ F (ms0 h) o
  have h0:t≠0:=fun e=>h0 (decide_eq_true (congrArg V.int e))
  k_dat h1 "b"
  ·show#[_,rfl,.inl #[se,_,1,1,rfl,rfl,hw,ixL (j:=1) (by rw[kl];omega),?_]];exact O.step (o':=li ([b.na,61]++b.ks)) 9 rfl rfl fun F o=>fin _ _ _ F (ms1 h) o
  have h1:t≠1:=fun e=>h1 (decide_eq_true (congrArg V.int e))
  k_dat h2 "b"
  ·obtain⟨k,ek,bad⟩:=ms2 h;show#[_,rfl,aH (.inl (.inl hw)) (v:=.int k) (bR (j:=3) (by rw[cB,ek];rfl)) #[_,rfl,.inl #[se,_,2,2,rfl,rfl,hw,ixL (j:=2) (by rw[kl];omega),?_]]];have e:(([b.na,(b.v:Int)]++b.ks).map V.int).set 2 (.int k)=(([b.na,(b.v:Int)]++b.ks).set 2 k).map V.int:=lN.symm;rw[e];exact O.step (o':=li (([b.na,(b.v:Int)]++b.ks).set 2 k)) 9 rfl rfl fun F o=>fin _ _ _ F bad o
  have h2:t≠2:=fun e=>h2 (decide_eq_true (congrArg V.int e))
  k_dat h3 "b"
  ·show#[_,rfl,_,rfl,_,_,rfl,rfl,.inl #[se,_,(b.n:Int)+1,b.n+1,rfl,rfl,hw,?_,?_]]
   ·exact ixL (n:=(([b.na,(b.v:Int)]++b.ks).map V.int).length) (j:=b.n+1) (by rw[kl];omega)
   have e:(([b.na,(b.v:Int)]++b.ks).map V.int).set (b.n+1) (.int 1152921504606846976)=(([b.na,(b.v:Int)]++b.ks).set (b.n+1) 1152921504606846976).map V.int:=lN.symm;rw[e];exact O.step (o':=li (([b.na,(b.v:Int)]++b.ks).set (b.n+1) 1152921504606846976)) 9 rfl rfl fun F o=>fin _ _ _ F (ms3 h) o
  have h3:t≠3:=fun e=>h3 (decide_eq_true (congrArg V.int e));have up1:∀y:Option V,(ab0 (tOp (rI0 fun i j=>V.int (i+j)) (tOp (Ul K) (TJ 2) (tC (V.int 1))) (tC (V.int 1))) (gSub (TJ 2) (tC (V.int 1)) agn)) { nx:=R,rt:=Q } [some (.ref d),some (.int t),some (.ref se),some (.int b.n),y] H:=fun y=>by
   show#[_,rfl,aH (.inl (.inl hw)) (v:=.int b.v) (bR (j:=1) rfl) #[_,_,rfl,rfl,_,rfl,.inl #[se,_,1,1,rfl,rfl,hw,ixL (j:=1) (by rw[kl];omega),?_]]];exact O.step (o':=li ([b.na,(b.v:Int)+1]++b.ks)) 9 rfl rfl fun F o=>fin _ _ _ F (ms5 h) o
  by_cases h4:t=4
  ·by_cases v0:0<b.v
   ·show#[_,rfl,rfl,_,rfl,aY (fun _=>?_) fun z=>absurd (decide_eq_true (congrArg V.int h4)) z];show#[_,rfl,aH (.inl (.inl hw)) (v:=.int b.v) (bR (j:=1) rfl) #[_,_,rfl,rfl,_,rfl,aY (fun _=>?_) fun z=>absurd (decide_eq_true (by show(b.v:Int)>0;omega)) z]];refine sq fun R2 hR2=>#[_,rfl,aH (.inl (.inl hw)) (v:=.int b.v) (bR (j:=1) rfl) #[_,_,rfl,rfl,_,_,rfl,rfl,#[by omega,by omega,by decide],rfl,?_]];have fb:=Z1 5;show#[_,_,rfl,rfl,gk tb_g% tb_g%,_,_,rfl,rfl,(by show(0:Int)<1152921504606846976;decide),?_];rw[show((b.v:Int)-1).toNat=b.v-1 by omega];refine hR2 [some (.ref d),some (.int t),some (.ref se),some (.int b.n),some (.int (3*2 ^ (b.v-1)*g8 5 % 1152921504606846976))] _ ?_;show#[_,rfl,aH (.inl (.inl hw)) (v:=.int b.na) (bR (j:=0) rfl) #[_,rfl,aH (.inl (.inl hw)) (v:=.int b.v) (bR (j:=1) rfl) #[_,rfl,tb_g%,fun p hp=>#[_,rfl,fW ((Same.new hp) _ _ (O.at 0 rfl)) tb_g% ?_]]]];rw[zA Wt (i:=8) tb_g% rfl];have O1:=O.put (o':=li [b.na,(b.v:Int),3*2 ^ (b.v-1)*g8 5 % 1152921504606846976]) hp 9 rfl;exact O1.step (P:=fun F=>R [some (.ref d),some (.int t),some (.ref se),some (.int b.n),some (.int (3*2 ^ (b.v-1)*g8 5 % 1152921504606846976))] F) (L':=LP d #[kp,cm,wn,ul,up,dn,dl,wi,p,su,bs] s { b.pz with se:=[b.na,(b.v:Int),3*2 ^ (b.v-1)*g8 5 % 1152921504606846976] }) 0 rfl rfl fun F o=>fin _ _ _ F (ms4 h v0) o
   ·show#[_,rfl,rfl,_,rfl,aY (fun _=>?_) fun z=>absurd (decide_eq_true (congrArg V.int h4)) z];show#[_,rfl,aH (.inl (.inl hw)) (v:=.int b.v) (bR (j:=1) rfl) #[_,_,rfl,rfl,_,rfl,aY (fun z=>absurd (of_decide_eq_true z) (by show ¬ (b.v:Int)>0;omega)) fun _=>?_]];show#[_,rfl,rfl,_,rfl,aY (fun _=>jP (up1 _)) fun z=>absurd (decide_eq_true (congrArg V.int h4)) z]
  show#[_,rfl,rfl,_,rfl,aY (fun z=>absurd (V.int.inj (of_decide_eq_true z)) h4) fun _=>?_];show#[_,rfl,rfl,_,rfl,aY (fun z=>absurd (V.int.inj (of_decide_eq_true z)) h4) fun _=>?_];show#[_,rfl,rfl,_,rfl,aY (fun _=>up1 _) fun h5=>?_];have h5:t≠5:=fun e=>h5 (decide_eq_true (congrArg V.int e))
  k_dat h6 "b"
  ·show#[_,rfl,aH (.inl (.inl hw)) (v:=.int b.na) (bR (j:=0) rfl) #[_,_,rfl,rfl,_,rfl,aH (.inl (.inl hw)) (v:=.int b.v) (bR (j:=1) rfl) #[tb_g%,fun p1 hp1=>?_]]]
   k_dat (nwA hp1,H1,s1,f1) "n"
   show#[_,rfl,2,rfl,se,_,rfl,.inl (.inl (s1 _ _ hw)),fun p2 hp2=>?_];have ec:pC (([b.na,(b.v:Int)]++b.ks).map V.int) (some 2) none=b.ks.map V.int:=by rw[cut2 (by rw[kl];omega)];rfl
   rw[ec]
   k_dat (nwA hp2,H2,s2,f2) "n"
   show#[_,rfl,gb (.inl ((s1.trans s2) _ _ (O.at 0 rfl))) (bL 9 tb_g% rfl) #[tb_g%,fun p3 hp3=>?_]]
   k_dat (nwA hp3,H3,s3,f3) "n"
   show#[p2,p3,_,_,rfl,rfl,s3 _ _ f2,f3,fu (aL (by rw[aB,gF h];show b.n+1<=_;omega)),fun p4 hp4=>?_];rw[show b.ks.map V.int++[V.int s]=(b.ks++[s]).map V.int by rw[bB];rfl]
   k_dat (nwA hp4,H4,s4,f4) "n"
   refine .inr #[p4,_,rfl,.inl (.inl f4),by rw[cj,gF h];show b.n+1<64;omega,fun p5 l' hp5 pm sd=>?_]
   k_dat (nwA hp5,H5,s5,f5) "n"
   have ss:=s1.trans (s2.trans (s3.trans (s4.trans s5)));have ll:l'.length=b.n+1:=by rw[pm.length_eq,cj,gF h];rfl
   show#[p1,p5,_,_,rfl,rfl,(s2.trans (s3.trans (s4.trans s5))) _ _ f1,f5,fu (aL (by rw[aB,ll];show 2+_<=_;omega)),fun n hn2=>#[_,rfl,fW ((Same.new hn2) _ _ (ss _ _ (O.at 0 rfl))) tb_g% ?_]];rw[zA Wt (i:=8) tb_g% rfl];have O1:=(O.same ss).put (o':=li ([b.na+1,(b.v:Int)]++l')) hn2 9 rfl;exact O1.step (P:=fun F=>R [some (.ref d),some (.int t),some (.ref se),some (.int b.n),none] F) (L':=LP d #[kp,cm,wn,ul,up,dn,dl,wi,n,su,bs] s { b.pz with se:=[b.na+1,(b.v:Int)]++l' }) 0 rfl rfl fun F o=>fin _ _ _ F (ms6 h hs pm) o
  have h6:t≠6:=fun e=>h6 (decide_eq_true (congrArg V.int e));refine sq fun R2 hR2=>#[tb_g%,fun p1 hp1=>?_]
  k_dat (nwA hp1,H1,s1,f1) "n"
  k_dat (p2,hp2) "t"
  k_dat (nwA hp2,H2,s2,f2) "n"
  k_dat (p3,hp3) "t"
  k_dat (nwA hp3,H3,s3,f3) "n"
  k_dat (p4,hp4) "t"
  k_dat (nwA hp4,H4,s4,f4) "n"
  have ss:=s1.trans (s2.trans (s3.trans s4));obtain⟨p,ns,ei,np,hp,mn⟩:∃(p:Addr)(ns:List Int),atI [V.ref p1,V.ref p2,V.ref p3] (t % 3)=some (.ref p)/\H p=none/\H4 p=some (li ns)/\ns∈[[1,2,3],[1,2,3,4,5],[]]:=by
   rcases(show t % 3=0\/t % 3=1\/t % 3=2 by omega)with e|e|e <;> rw[e]
   ·show#[p1,[1,2,3],rfl,hp1,(s2.trans (s3.trans s4)) _ _ f1,by simp]
   ·show#[p2,[1,2,3,4,5],rfl,s1.free hp2,(s3.trans s4) _ _ f2,by simp]
   ·show#[p3,[],rfl,(s1.trans s2).free hp3,s4 _ _ f3,by simp]
  have O1:=O.swap ss np hp 10 rfl;show#[_,rfl,_,_,rfl,rfl,(by show(0:Int)<3;decide),aH (.inl (.inl f4)) ei #[_,rfl,fW (O1.at 0 rfl) tb_g% ?_]];rw[zA Wt (i:=10) tb_g% rfl];refine O1.step (P:=fun F=>R2 [some (.ref d),some (.int t),some (.ref se),some (.int b.n),none] F) (L':=LP d #[kp,cm,wn,ul,up,dn,dl,wi,se,p,bs] s { b.pz with su:=ns }) 0 rfl rfl fun F o=>hR2 _ _ ?_;exact q 7 _ F (ms7 h mn) (o.pd lb rfl) o.1
theorem aag{l:List Int}(k:Int)(h:0<l.length):∃x,x∈l/\atI (l.map V.int) (k % (l.length:Int))=some (.int x):=by
 have h1:=qP k (show(l.length:Int)≠0 by omega);have h2:=Dk k (show 0<(l.length:Int) by omega);obtain⟨j,ej⟩:∃j:Nat,k % (l.length:Int)=(j:Int):=#[_,(yr h1).symm];have hj:j<l.length:=by omega
 show#[l[j],W4 _,?_];rw[ej];exact bR (by rw[cB,dH hj];rfl)
def ajf:Sp:=fun vs H Q _=>Ex6 fun(H0:Hp) (d:Addr) (x:Ax) (s:Int) (b:Bs) (c:Int)=>acV (vs=[.ref d,.int c]) (Wr b) (Own H0 H (LP d x s b.pz)) (x.bs.length=2) ((0<=s/\s<1152921504606846976)) (0<=c) (Mvd H0 d Q)
theorem aah(T:Tx K mg A):FnK P w base T.Cg CX0 3 ajf:=by
 k_dat (T.Cg,T.Cg.ok,Kc) "f"
 ·obtain⟨H0,d,x,s,b,c,rfl,h,O,lb,hs,hc,q⟩:=h;show#[_,by k_dat ([],[Kc.nd,aC (zE T) ?_,aC (CP T) ?_,aC (CQ T) ?_,aC (Fy T) ?_],[]) "p",?_];refine sq fun R hR=>#[_,rfl,_,_,rfl,rfl,#[by decide,by decide],?_];refine hR [some (.ref d),some (.int c),some (.int (c / 5)),none,none] _ (sq fun R hR=>#[_,rfl,_,_,rfl,rfl,(by show(0:Int)<5;decide),rfl,_,rfl,aY (fun _=>?_) fun h0=>hR _ _ ?_])
  ·show#[_,rfl,_,rfl,_,_,rfl,rfl,(by show(0:Int)<7;decide),H0,d,x,s,b,c / 5 % 7,rfl,h,O,lb,hs,by omega,q]
  refine sq fun R hR=>#[_,rfl,_,_,rfl,rfl,(by show(0:Int)<5;decide),rfl,_,rfl,aY (fun _=>?_) fun h1=>hR _ _ ?_]
  ·show#[_,rfl,_,rfl,_,_,rfl,rfl,(by show(0:Int)<13;decide),H0,d,x,s,b,c / 5 % 13,rfl,h,O,lb,hs,by omega,q]
  refine sq fun R hR=>#[_,rfl,_,_,rfl,rfl,(by show(0:Int)<5;decide),rfl,_,rfl,aY (fun _=>?_) fun h2=>hR _ _ ?_]
  ·show#[_,rfl,_,rfl,_,_,rfl,rfl,(by show(0:Int)<9;decide),H0,d,x,s,b,c / 5 % 9,rfl,h,O,lb,hs,by omega,q]
  refine sq fun R hR=>#[_,rfl,_,_,rfl,rfl,(by show(0:Int)<5;decide),rfl,_,rfl,aY (fun _=>?_) fun h3=>hR _ _ ?_]
  ·show#[_,rfl,_,rfl,_,_,rfl,rfl,(by show(0:Int)<10;decide),H0,d,x,s,b,c / 5 % 10,rfl,h,O,lb,hs,by omega,q]
  clear h0 h1 h2 h3;generalize ht:c / 5=t;refine sq fun R hR=>#[_,rfl,_,_,rfl,rfl,(by show(0:Int)<3;decide),?_];have wb:t % 3=0\/t % 3=1\/t % 3=2:=by omega
  generalize t % 3=w at wb ⊢;refine hR [some (.ref d),some (.int c),some (.int t),some (.int w),none] _ (sq fun R hR=>?_)
  k_dat (p1,hp1) "t"
  have s1:=Same.new (o:=li [0,1,3,66]) hp1;have f1:(upd H p1 (li [0,1,3,66])) p1=some (li [0,1,3,66]):=aj;refine(show ∀H1,upd H p1 (li [0,1,3,66])=H1->_ from fun H1 e1=>?_) _ rfl;rw[e1]at s1 f1
  k_dat (p2,hp2) "t"
  have s2:=Same.new (o:=li [0,1000000001]) hp2;have f2:(upd H1 p2 (li [0,1000000001])) p2=some (li [0,1000000001]):=aj;refine(show ∀H2,upd H1 p2 (li [0,1000000001])=H2->_ from fun H2 e2=>?_) _ rfl;rw[e2]at s2 f2
  k_dat (p3,hp3) "t"
  have s3:=Same.new (o:=li [0,1000000001]) hp3;have f3:(upd H2 p3 (li [0,1000000001])) p3=some (li [0,1000000001]):=aj;refine(show ∀H3,upd H2 p3 (li [0,1000000001])=H3->_ from fun H3 e3=>?_) _ rfl;rw[e3]at s3 f3
  k_dat (p4,hp4) "t"
  k_dat (nwA hp4,H4,s4,f4) "n"
  have O1:=O.same (s1.trans (s2.trans (s3.trans s4)));have g1:=(s2.trans (s3.trans s4)) _ _ f1;have g2:=(s3.trans s4) _ _ f2;have g3:=s4 _ _ f3;have hk:H4 x.kp=some (li [(b.n:Int),b.re,b.sp]):=O1.at 1 rfl;clear s1 f1 e1 s2 f2 e2 s3 f3 e3 s4;show#[_,rfl,?_];rcases wb with rfl|rfl|rfl
  ·skip
   refine aH (.inl (.inl f4)) (v:=.ref p1) rfl ?_;refine hR [some (.ref d),some (.int c),some (.int t),some (.int 0),some (.ref p1)] _ (sq fun R hR=>?_);obtain⟨y,my,ey⟩:=aag (l:=[0,1,3,66]) (t / 3) tb_g%;show#[_,rfl,_,rfl,_,_,rfl,rfl,#[by decide,by decide],_,rfl,cQ (.inl (.inl g1)) #[_,_,rfl,rfl,(by show(0:Int)<4;decide),aH (.inl (.inl g1)) ey #[_,rfl,gb (.inl (O1.at 0 rfl)) (bL 0 tb_g% rfl) #[_,rfl,.inl #[x.kp,_,0,0,rfl,rfl,hk,rfl,?_]]]]];refine O1.step (P:=fun F=>R [some (.ref d),some (.int c),some (.int t),some (.int 0),some (.ref p1)] F) (L':=LP d x s { b.pz with kp:=[y,b.re,b.sp] }) 1 rfl rfl fun F o=>hR _ _ ?_;exact q 0 _ F (mk0 h (by simpa using my)) (o.pd lb rfl) o.1
  ·skip
   refine aH (.inl (.inl f4)) (v:=.ref p2) rfl ?_;refine hR [some (.ref d),some (.int c),some (.int t),some (.int 1),some (.ref p2)] _ (sq fun R hR=>?_);obtain⟨y,my,ey⟩:=aag (l:=[0,1000000001]) (t / 3) tb_g%;show#[_,rfl,_,rfl,_,_,rfl,rfl,#[by decide,by decide],_,rfl,cQ (.inl (.inl g2)) #[_,_,rfl,rfl,(by show(0:Int)<2;decide),aH (.inl (.inl g2)) ey #[_,rfl,gb (.inl (O1.at 0 rfl)) (bL 0 tb_g% rfl) #[_,rfl,.inl #[x.kp,_,1,1,rfl,rfl,hk,rfl,?_]]]]];refine O1.step (P:=fun F=>R [some (.ref d),some (.int c),some (.int t),some (.int 1),some (.ref p2)] F) (L':=LP d x s { b.pz with kp:=[(b.n:Int),y,b.sp] }) 1 rfl rfl fun F o=>hR _ _ ?_;exact q 0 _ F (mk1 h (by simpa using my)) (o.pd lb rfl) o.1
  ·skip
   refine aH (.inl (.inl f4)) (v:=.ref p3) rfl ?_;refine hR [some (.ref d),some (.int c),some (.int t),some (.int 2),some (.ref p3)] _ (sq fun R hR=>?_);obtain⟨y,my,ey⟩:=aag (l:=[0,1000000001]) (t / 3) tb_g%;show#[_,rfl,_,rfl,_,_,rfl,rfl,#[by decide,by decide],_,rfl,cQ (.inl (.inl g3)) #[_,_,rfl,rfl,(by show(0:Int)<2;decide),aH (.inl (.inl g3)) ey #[_,rfl,gb (.inl (O1.at 0 rfl)) (bL 0 tb_g% rfl) #[_,rfl,.inl #[x.kp,_,2,2,rfl,rfl,hk,rfl,?_]]]]];refine O1.step (P:=fun F=>R [some (.ref d),some (.int c),some (.int t),some (.int 2),some (.ref p3)] F) (L':=LP d x s { b.pz with kp:=[(b.n:Int),b.re,y] }) 1 rfl rfl fun F o=>hR _ _ ?_;exact q 0 _ F (mk2 h (by simpa using my)) (o.pd lb rfl) o.1
open MK
theorem Bs.read{b:Bs}(h:Wr b){x:KS}(e:Eqp x (rdK b.y)):Kx x/\m9 x=lns b.pz.zs:=by
 have s:=ahT h;have k:=s.kx;have c:gK b.y.cm.c=b.y.cm.c:=abE h;have w:gK b.y.wn.c=b.y.wn.c:=zy;have er:rdK b.y=b.y:=by
  unfold rdK;rw[c,w]
 rw[er]at e;show#[?_,?_]
 ·obtain⟨e1,e2,e3,⟨c1,c2,c3⟩,⟨w1,w2,w3⟩,eu,ed,⟨i1,i2⟩,⟨d1,d2,d3⟩,e9⟩:=e;show#[by rw[e1,e2,e3];exact k.k,by rw[c3];exact k.cm,by rw[c3];exact k.cl,by unfold fN;rw[c1,c2,c3];exact k.cn,by rw[w3];exact k.wn,by rw[w3];exact k.wl,by unfold fN;rw[w1,w2,w3];exact k.ws,by unfold Km;rw[eu.tt,eu.mi,eu.ma];exact k.u1,by unfold rN;rw[eu.tt,eu.ov,eu.un,eu.tn,eu.mi,eu.ma];exact k.u2,by rw[eu.ls];exact k.u3,by rw[eu.ls];exact k.u4,by rw[eu.ls];exact k.u5,by unfold Km;rw[ed.tt,ed.mi,ed.ma];exact k.d1,by unfold rN;rw[ed.tt,ed.ov,ed.un,ed.tn,ed.mi,ed.ma];exact k.d2,by rw[ed.ls];exact k.d3,by rw[ed.ls];exact k.d4,by rw[ed.ls];exact k.d5,by rw[i1,i2];exact k.i1,?_,by rw[d1,d2,d3];exact k.s1,by rw[d2,d3];exact k.s2,by rw[e9];exact k.b,by rw[eu.tt,ed.tt];exact k.tt];have:=congrArg lO i2;rw[rQ,rQ]at this;rw[this];exact k.i2
 ·rw[ahN e,lk,ac1 h]
theorem amA(T:Tx K mg A):FnK P w base T.ahs CX0 13 (ahz K):=by
 k_dat (T.ahs,T.ahs.ok,ahy) "f"
 ·obtain⟨a,ns,rfl,hS,hlen,q⟩:=h;show#[_,by k_dat ([],[ahy.nd,cN (ab4 rfl) (by rfl) T.aht ajV ?_,acy rfl T.RD ?_,aC (ac3 T) ?_,aC (ac2 T) ?_,aC (qF T) ?_,aC (Z4 T) ?_,aC (V8 T) ?_,aC (aah T) ?_,aC (aae T) ?_,aC (Tc T) ?_,eZ ?_],[]) "p",?_];refine sq fun R hR=>#[_,rfl,cQ hS #[_,_,rfl,?_]];obtain⟨M,eM,hM⟩:∃M:Int,(if((ns.map V.int).length:Int)>1 then((ns.map V.int).length:Int)else 1)=M/\(0<=M/\M<1000):=#[_,rfl,by rw[aB];split <;> omega];rw[eM];show#[0,M,8,rfl,#[by decide,by decide,by decide,by decide,by omega,by omega],?_];refine Zr (fun i σ G=>Ex6 fun(y1 y2 y3 y4 y5 y6:Option V)=>σ=[some (.ref a),y1,y2,y3,y4,y5,y6]/\Same H G) #[none,none,none,none,none,none,rfl,Same.refl H] ?_ ?_;rotate_left
  ·rintro σ G ⟨y1,y2,y3,y4,y5,y6,rfl,sG⟩;exact hR _ _ (q G)
  rintro i σ G hi ⟨y1,y2,y3,y4,y5,y6,rfl,sG⟩;obtain⟨f,ef⟩:∃f:Nat,(0:Int)+(i:Int)*8=(f:Int):=#[i*8,by omega];rw[ef];obtain⟨cs,ecs,lcs,_⟩:=agR ns (some (f:Int)) (some ((f:Int)+8));have l8:cs.length<=8:=by
   have:=congrArg lO ecs;rw[aB]at this;rw[<-this];unfold pC;rw[fJ,show(some ((f:Int)+8))=some (((f+8:Nat)):Int) by rw[Int.natCast_add];rfl,HT.Ga,HT.Ga];omega
  refine sq fun R hR=>#[_,rfl,_,rfl,_,rfl,_,rfl,_,_,rfl,rfl,_,rfl,a,_,rfl,sG.seq hS,fun z hz=>?_];rw[ecs]
  k_dat (nwA hz,G1,zG1,hz1) "n"
  have s1:=sG.trans zG1;refine hR [some (.ref a),some (.int f),some (.ref z),y3,y4,y5,y6] _ (sq fun R hR=>#[_,rfl,z,cs,rfl,hz1,l8,fun d x s b G2 ok O lx hs=>#[d,b.pz,rfl,O.pd lx rfl,LR ok,fun G3 s3=>?_]]);have s2:Same G1 G3:=O.1.trans s3;have hz3:=s2 _ _ hz1;have sH:=s1.trans s2;clear O s3;refine hR [some (.ref a),some (.int f),some (.ref z),some (.str (bQ nl1 (lns b.pz.zs))),y4,y5,y6] _ (sq fun R hR=>?_);have gz:=(LR ok).gz;have sd:=ahT ok;show#[_,rfl,b.pz.zs,b.y,rfl,gz,#[iw _ _,tb_g%],sd,.inl #[ac1 ok,fun x2 G4 k2 e2 _ _ s4=>?_]];obtain⟨kx2,l2⟩:=Bs.read ok e2;show#[x2,rfl,k2,kx2,fun G5 s5=>#[_,rfl,rfl,_,rfl,Jh (congrArg (fun l=>V.str (bQ (aD "\n") l)) l2) ?_]];have s35:=s4.trans s5;clear k2 e2 s4 s5 kx2 l2;refine hR _ _ (sq fun R hR=>?_);show#[_,rfl,z,rfl,#[_,.inl (.inl (s35 _ _ hz3))],jw (K:=K) (a:=z) (xs:=cs.map V.int) (fun j σ F=>Ex3 fun(y4 y5 y6:Option V)=>σ=[some (.ref a),some (.int f),some (.ref z),some (.str (bQ nl1 (lns b.pz.zs))),y4,y5,y6]/\Same G3 F) #[y4,y5,y6,rfl,s35] (fun j σ F _ ⟨_,_,_,_,s⟩=>.inl (.inl (s _ _ hz3))) ?_ ?_]
  ·rintro j v σ F hj ⟨y4,y5,y6,rfl,sF⟩;obtain⟨cell,_,rfl⟩:=int_at hj;refine sq fun R hR=>#[_,rfl,z,cs,rfl,sF _ _ hz3,l8,fun d x s b2 F1 ok2 O lx hs=>?_];refine hR [some (.ref a),some (.int f),some (.ref z),some (.str (bQ nl1 (lns b.pz.zs))),some (.int cell),some (.ref d),y6] _ (sq fun R hR=>?_);show#[_,rfl,_,rfl,cell,69621,2147483629,rfl,by decide,by decide,by decide,F,d,x,s,b2,_,rfl,ok2,O,lx,hs,qP _ tb_g%,fun k P F2 bad pd s2=>?_];obtain⟨y,sy,fau⟩:=bad.f;refine hR [some (.ref a),some (.int f),some (.ref z),some (.str (bQ nl1 (lns b.pz.zs))),some (.int cell),some (.ref d),some (.int (k+1:Nat))] _ ?_;show#[_,rfl,d,P,rfl,pd,bad.ok,fun F3 s3=>#[_,rfl,_,rfl,P.zs,k,cell,rfl,bad.ok.gz,rfl,fau.l,fun zs' F4 gz' nz' eq s4=>#[_,rfl,zs',y,k,rfl,gz',nz',sy,#[fun i hi=>(eq i tb_g%).trans (fau.p i hi),fau.l,?_],fun F5 s5=>#[_,rfl,tL ?_]]]]
   ·obtain⟨z,z0,e1,e2,e3,e4⟩:=fau.f;show#[z,z0,(eq k (aO _)).trans e1,e2,e3,e4]
   ·show#[_,_,_,rfl,sF.trans (s2.trans (s3.trans (s4.trans s5)))]
  ·rintro σ F ⟨y4,y5,y6,rfl,sF⟩;refine hR _ _ ?_;show#[_,rfl,b.pz.zs,b.y,rfl,gz,#[iw _ _,tb_g%],sd,.inl #[ac1 ok,fun x2 G4 k2 e2 _ _ s4=>?_]];obtain⟨kx2,l2⟩:=Bs.read ok e2;show#[x2,rfl,k2,kx2,fun G5 s5=>#[_,rfl,rfl,_,rfl,Jh (congrArg (fun l=>V.str (bQ (aD "\n") l)) l2) #[_,_,_,_,_,_,rfl,sH.trans (sF.trans (s4.trans s5))]]]
theorem bOf0{K:aF}{x q:Str}{st:Stmt}{f:Addr}{fd:FuncData}(F:Fun K x q st f fd)(h:∀(kV dc pm:Value)(an:Option Addr)(cd ct:Value),wU (iB x q (gM st) (fY st) (aA st) .none kV dc pm an cd ct) #[[],[]]=pure []):Binds K fd [] []:=
 F.binds fun _ _ _ _ _ _ us hl=>match us,hl with | [],_=>h _ _ _ _ _ _
theorem bOf1{K:aF}{x q:Str}{st:Stmt}{f:Addr}{fd:FuncData}{p0:Str}(F:Fun K x q st f fd)(h:∀(kV dc pm:Value)(an:Option Addr)(cd ct u0:Value),wU (iB x q (gM st) (fY st) (aA st) .none kV dc pm an cd ct) #[[u0],[]]=pure [(p0,u0)]):Binds K fd [p0] []:=
 F.binds fun _ _ _ _ _ _ us hl=>match us,hl with | [u0],_=>h _ _ _ _ _ _ u0
theorem bOf2{K:aF}{x q:Str}{st:Stmt}{f:Addr}{fd:FuncData}{p0 p1:Str}(F:Fun K x q st f fd)(h:∀(kV dc pm:Value)(an:Option Addr)(cd ct u0 u1:Value),wU (iB x q (gM st) (fY st) (aA st) .none kV dc pm an cd ct) #[[u0,u1],[]]=pure [(p0,u0),(p1,u1)]):Binds K fd [p0,p1] []:=
 F.binds fun _ _ _ _ _ _ us hl=>match us,hl with | [u0,u1],_=>h _ _ _ _ _ _ u0 u1
theorem bOf3{K:aF}{x q:Str}{st:Stmt}{f:Addr}{fd:FuncData}{p0 p1 p2:Str}(F:Fun K x q st f fd)(h:∀(kV dc pm:Value)(an:Option Addr)(cd ct u0 u1 u2:Value),wU (iB x q (gM st) (fY st) (aA st) .none kV dc pm an cd ct) #[[u0,u1,u2],[]]=pure [(p0,u0),(p1,u1),(p2,u2)]):Binds K fd [p0,p1,p2] []:=
 F.binds fun _ _ _ _ _ _ us hl=>match us,hl with | [u0,u1,u2],_=>h _ _ _ _ _ _ u0 u1 u2
theorem bOf4{K:aF}{x q:Str}{st:Stmt}{f:Addr}{fd:FuncData}{p0 p1 p2 p3:Str}(F:Fun K x q st f fd)(h:∀(kV dc pm:Value)(an:Option Addr)(cd ct u0 u1 u2 u3:Value),wU (iB x q (gM st) (fY st) (aA st) .none kV dc pm an cd ct) #[[u0,u1,u2,u3],[]]=pure [(p0,u0),(p1,u1),(p2,u2),(p3,u3)]):Binds K fd [p0,p1,p2,p3] []:=
 F.binds fun _ _ _ _ _ _ us hl=>match us,hl with | [u0,u1,u2,u3],_=>h _ _ _ _ _ _ u0 u1 u2 u3
theorem LK.fn{K:aF}{n q:Str}{s:Stmt}{f:Addr}(h:LK K n q s f):∃fd,Fun K n q s f fd:=by
 obtain⟨oc,od,an,sl,kV,dc,pm,cd,ct,l,c,k⟩:=h;show#[_,aly l c k]
noncomputable def fdOf{K:aF}{n q:Str}{s:Stmt}{f:Addr}(h:LK K n q s f):FuncData:=afv h.fn
theorem ac6{K:aF}{n q:Str}{s:Stmt}{f:Addr}(h:LK K n q s f):Fun K n q s f (fdOf h):=afu h.fn
theorem CK.cl{K:aF}{C:Addr}(h:CK K C):Cls K C:=#[h.1,h.2.1,h.2.2.1,h.2.2.2.1]
theorem CK.mk{K:aF}{C f:Addr}{q:Str}{s:Stmt}(h:CK K C)(m:MeK K C "__init__" q s f):Mk K C f:=#[h.2.2.2.2.1,m.1,m.2.1,h.2.2.2.2.2]
theorem MeK.mt{K:aF}{C f:Addr}{n q:Str}{s:Stmt}{fd:FuncData}(m:MeK K C n q s f)(F:Fun K n q s f fd):Meth K C n f:=#[m.1,m.2.1,F.kp]
theorem gOf{K:aF}{h:Heap}{mg:Str->Option Value}{x:Str}{st:Stmt}{f:Addr}{ps:List Str}(X:K.In h)(G:h.Ns bT mg)(a:GK K x st f)(b:Fun K x x st f (fdOf a.2)->Binds K (fdOf a.2) ps []:=by first|exact fun F=>bOf0 F (by intros;rfl)|exact fun F=>bOf1 F (by intros;rfl)|exact fun F=>bOf2 F (by intros;rfl)|exact fun F=>bOf3 F (by intros;rfl)):Fg K mg x st f (fdOf a.2) ps:=#[ac6 a.2,b (ac6 a.2),eU X G a.1]
theorem XJ.xi{K:aF}{C f:Addr}{bmB:List Value}{newId:String}(h:XJ K C bmB newId)(m:eE K (.ref C) "__init__" = some (some (.ref f))):XI K C f bmB newId:=by
 obtain⟨nm,q,N,bs,bm,hd,sn,sub,ab,col,dd,k0,k1,k2,k3,k5,l,t,o,i⟩:=h;show#[#[nm,q,N,bs,bm,hd,sn,sub,ab,col,dd,k0,k1,k2,k3,k5,l,t,o,i.trans m]]
theorem mOf{K:aF}{C:Addr}{x q:Str}{st:Stmt}{f:Addr}{ps:List Str}(a:MeK K C x q st f)(b:Fun K x q st f (fdOf a.2.2)->Binds K (fdOf a.2.2) ps []:=by first|exact fun F=>bOf2 F (by intros;rfl)|exact fun F=>bOf3 F (by intros;rfl)|exact fun F=>bOf4 F (by intros;rfl)):Mg K C x q st f (fdOf a.2.2) ps:=#[ac6 a.2.2,b (ac6 a.2.2),a.mt (ac6 a.2.2)]
def RR(w:World)(K:aF)(mg:Str->Option Value)(fa:Addr):Prop:=∃fd:FuncData,(∀(s:Shared)(v:Value),Ab s fd #[[v],[]] [("_law_script",v)])/\∀base:Heap,K.In base->base.Ns bT mg->nA Df.prog w K mg base CX0 13 fa fd ["_law_script"] (ahz K)
theorem all_mk:afV RR:=by
 intro w K h mg fa C'0 C'1 C'2 C'3 C'4 C'5 C'6 C'7 C'8 C'9 Qs Qt X G hfa aC'0 uG yu aC'1 pX vG aC'2 jr nP aC'3 jt nQ aC'4 mL qY aC'5 ju nR aC'6 aC'7 aC'8 aC'9 aap aaq fQ iQ nU nY nZ n8 jf jg jh eF eG eN j7 j8 j9 kh kj kE kO kW kY cD cu iR gk0 gk1 abR abS abT abU abV abW mk'6 zk Iv vH vZ kZ Tv FW aar Qu sO gP pY gh v7 lg v8 lA yw oh yx oA Tw FZ pZ gj Mp yC;obtain⟨⟨_,ahX⟩,⟨_,amB⟩,⟨_,ajg⟩,⟨_,Te⟩,⟨_,ac7⟩,⟨_,a_row⟩,⟨_,KN⟩,⟨_,Ma⟩,⟨_,CT⟩,⟨_,ac8⟩,⟨_,amC⟩,⟨_,Wu⟩,⟨_,Tf⟩,⟨_,KQ⟩,⟨_,Wv⟩,⟨_,aai⟩,⟨_,Ww⟩,⟨_,ahY⟩,⟨_,Fz⟩,⟨_,CV⟩,⟨_,Tg⟩,⟨_,zF⟩,⟨_,Mf⟩,⟨_,KR⟩,⟨_,Ti⟩,⟨_,KY⟩,⟨_,CW⟩,⟨_,Wx⟩,⟨_,FJ⟩,⟨_,Tj⟩,_⟩:=gk0;obtain⟨⟨_,Mh⟩,⟨_,FN⟩,⟨_,Wy⟩,⟨_,FP⟩,⟨_,ahZ⟩,⟨_,Wz⟩,⟨_,ac9⟩,⟨_,ah0⟩,⟨_,CZ⟩,⟨_,FQ⟩,⟨_,FT⟩,⟨_,KZ⟩,⟨_,ada⟩,⟨ajC,abM⟩,_⟩:=gk1;obtain⟨⟨_,zH⟩,_⟩:=abR;obtain⟨⟨_,wF⟩,_⟩:=abS;obtain⟨⟨_,tE⟩,_⟩:=abT;obtain⟨⟨_,tG⟩,_⟩:=abU;obtain⟨⟨_,vC⟩,_⟩:=abV;obtain⟨⟨_,tH⟩,_⟩:=abW;obtain⟨⟨_,vD⟩,_⟩:=mk'6;have e:=hfa.symm.trans (eU X G abM.1);cases e;obtain⟨aaX,Vs,Vt,Vu,Vv,Vw,Vx,Vy,_⟩:=yu;obtain⟨aaY,aaZ,Vz,VB,_⟩:=vG;obtain⟨aa0,VD,VF,VG,_⟩:=nP;obtain⟨aa1,VH,VJ,VL,_⟩:=nQ;obtain⟨ahp,VN,_⟩:=qY;obtain⟨aa2,aa3,aa4,aa5,aa6,aa7,aa8,aa9,abb,abd,_⟩:=nR;obtain⟨Tn,z_abs,z_all,amD,amE,z_int,Tq,z_len,amF,z_max,z_min,ajh,aaj,ah1,z_str,z_sum,z_zip,_⟩:=zk;have T:Tx K mg #[C'0,C'1,C'2,C'3,C'4,C'5,C'6,C'7,C'8,C'9,Qs,Qt,_,_,_,_,_,_,_,_,_,_,_,_,_,_,_,_,_,_,_,_,_,_,_,_,_,_,_,_,_,_,_,_,_,_,_,_,_,_,_,_,_,_,_,_,_,_,_,_,_,_,_,_,_,_,_,_,_,_,_,_,_,_,_,_,_,_,_,_,_,_,_,_,_,_,_,_,_,_,_,_,_,_,_,_,_,_,_,_,_,_,_,_,_,_,_,_,_,_,_,_,_,_]:=#[uG.cl,eU X G aC'0,uG.mk zH,aaX,Vs,Vt,Vu,Vv,Vw,Vx,Vy,pX.cl,eU X G aC'1,pX.mk wF,aaY,aaZ,Vz,VB,jr.cl,eU X G aC'2,jr.mk tE,aa0,VD,VF,VG,jt.cl,eU X G aC'3,jt.mk tG,aa1,VH,VJ,VL,mL.cl,eU X G aC'4,mL.mk vC,ahp,VN,ju.cl,eU X G aC'5,ju.mk tH,aa2,aa3,aa4,aa5,aa6,aa7,aa8,aa9,abb,abd,eU X G aC'6,eU X G aC'7,eU X G aC'8,eU X G aC'9,eU X G aap,eU X G aaq,fQ.xi vD.1,iQ,#[nU,nY,nZ,n8],#[jf,jg,jh],#[eF,eG,eN],#[j7,j8,j9,kW,kY,kh,kj,kO,kE],cD,cu,iR,mOf zH,mOf wF,gOf X G ahX,gOf X G amB,mOf tE,mOf tG,mOf vC,mOf tH,gOf X G ajg,gOf X G Te,gOf X G ac7,gOf X G a_row,gOf X G KN,gOf X G Ma,gOf X G CT,gOf X G ac8,mOf vD,gOf X G amC,gOf X G Wu,gOf X G Tf,gOf X G KQ,gOf X G Wv,gOf X G aai,gOf X G Ww,gOf X G ahY,gOf X G Fz,gOf X G CV,gOf X G Tg,gOf X G zF,gOf X G Mf,gOf X G KR,gOf X G Ti,gOf X G KY,gOf X G CW,gOf X G Wx,gOf X G FJ,gOf X G Tj,gOf X G Mh,gOf X G FN,gOf X G Wy,gOf X G FP,gOf X G ahZ,gOf X G Wz,gOf X G ac9,gOf X G ah0,gOf X G CZ,gOf X G FQ,gOf X G FT,gOf X G KZ,gOf X G ada,gOf X G abM,jl X G Tn,jl X G z_abs,jl X G z_all,jl X G amD,jl X G amE,jl X G z_int,jl X G Tq,jl X G z_len,jl X G amF,jl X G z_max,jl X G z_min,jl X G ajh,jl X G aaj,jl X G ah1,jl X G z_str,jl X G z_sum,jl X G z_zip,#[_,eU X G vH,_,rfl],#[_,eU X G kZ,_,rfl],#[_,eU X G FW,_,rfl],#[_,eU X G Qu,_,rfl],#[_,eU X G gP,_,rfl],#[_,eU X G gh,_,rfl],#[_,eU X G lg,_,rfl],#[_,eU X G lA,_,rfl],#[_,eU X G oh,_,rfl],#[_,eU X G oA,_,rfl],#[_,eU X G FZ,_,rfl],#[_,eU X G gj,_,rfl],#[_,eU X G yC,_,rfl],agt _ _ tb_g%,alA tb_g% tb_g% tb_g%];show#[fdOf abM.2,fun s v=>?_,fun base _ _=>(amA T).2];obtain⟨_,_,_,_,_,_,_,_,_,e,_⟩:=(ac6 abM.2).ex;rw[e];exact .of_eq rfl
theorem walk{q:aG}{loose:List Str}{XP:(Str->Option Value)->Heap->Prop}{YP:World->Heap->Prop}{d:Px}{K:Ac->aF}(hn:Df.most=some 63)(hdf:d.params.defaults=[])(hY:∀(w:World)(h:Heap),YP w h->(K w.params).In h)(F:∀(w:World)(mg:Str->Option Value)(fa:Addr)(h:Heap),(K w.params).In h->h.Ns bT mg->mg d.name=some (.ref fa)->RR w (K w.params) mg fa):Xn q loose XP YP Df.row.toRowW d [] (fun f vs=>O7 f vs):=
 L2.aip (n:=63) (k:=13) (x := "_law_script") (CX:=fun _=>CX0) (sp:=fun w=>ahz (K w.params)) hn tb_g% hdf #[rfl,by decide,by decide] hY F (fun _ _ a ns hl _ hS=>#[a,ns,rfl,hS,hl,fun _=>rfl]) fun _ _ _ _ _ z=>z
end My
theorem PySem.Challenge.cw_sketchbounds_k33_unsound_lines_holds : PySem.Challenge.rw_sketchbounds_k33_unsound_lines.Holds := by
  exact My.head My.RR My.all_mk My.walk

