import PyProof.Rows.All
import Wide.All
import Wide.FinOn
import Lean
import KE.KData
import KE.KDictList
import KE.KDictOf
import KE.KDictSum
import KE.KIsAll
import KE.KItem
import KE.KRevIter
import KE.KSortTup
import KE.KTreeO
import ObjForm.Claim3
import Open.Head
import Open.Row
import OpenK.KCall
import OpenK.KCls
import OpenK.KDescr
import OpenK.KFacts
import OpenK.KGet
import OpenK.KLine
import OpenK.KMake
import OpenK.KMore
import OpenK.KOps
import OpenK.KOwn
import OpenK.KRaise
import OpenK.KWalk
import OpenK.Peek
import OpenK.ZHead
import PyProof.AutoIntG2
import PyProof.EqAt
import PyProof.EqKinds
import PyProof.NeKinds
import PyProof.Rows.Range3
import PyProof.Rows.SumAny
import PyProof.TupleCall
import PyProof.ZipIter
import KE.RegKIsAll
import Open.Pieces
import PySem.Challenge.RW_sketchbounds_k29_questions_of_a_keepsake
set_option compiler.extract_closed false
set_option linter.defProp false
open List renaming length_map->bK,mem_cons_of_mem->gY,mem_cons_self->gq,getElem?_eq_some_iff->jK,getElem?_eq_getElem->jL,size_toArray->gH,mem_cons->cA,length_append->eV,mem_singleton->gZ,mem_append->gw,map_append->gA,append_assoc->jo,pairwise_cons->jM,length_take->jf,getElem?_map->jN,length_cons->jG,not_mem_nil->lN,mem_append_right->qK,map_cons->jg,length_set->mq,filter_append->qL,getElem?_append_right->zU,length_filter_le->vd,mem_or_eq_of_mem_set->zV,filter_cons_of_neg->zW,pairwise_append->xT,take_add_one->uJ,take_length->uK,getElem?_append_left->Gi,mem_map->oN,filter_cons_of_pos->Gj,map_map->pI,append_nil->vf,nodup_cons->vg,drop_eq_getElem_cons->Kw,extract_eq_take_drop->Kz,filterMap_cons->Ed,length->pJ,length_eq_zero_iff->KC,getElem?_set_ne->yj,take_of_length_le->Bv,length_reverse->yq,length_replicate->Bw,filter_cons->vh,sum_cons->rB,getElem?_set_self->Gk,getD_eq_getElem?_getD->Ma,reverse_cons->Bx,find?_cons->yr,pairwise_map->BJ,any_cons->vm,map_congr_left->Gm,length_drop->BK,filter_eq_nil_iff->Mf,mem_filter->BL,take_append_drop->Mi,getElem?_eq_none->Mj,mem_iff_getElem->Ml,mem_of_mem_drop->Mp,getElem?_eq_none_iff->Ut,pairwise_iff_getElem->Uu,mem_reverse->Gp,reverse_append->Mq,getElem?_cons_succ->Uv,drop_of_length_le->Uw,lookup->yt,length_filterMap_eq_countP->acU,replicate->Gq,all_eq_true->Mr,drop_length->Ms,map_reverse->Mt,mem_append_left->Ux,mem_of_mem_take->Uy,range->yu,drop_set_of_lt->Uz,take_succ_cons->UG,mem_filterMap->UJ,getElem?_replicate->acV,pairwise_mergeSort->acW,getLast?_cons_cons->acX,map_drop->Mu,lookup_cons->UL,getElem_mem->UW,cons_ne_nil->U0,reverse_singleton->acY,of_mem_zip->U3,map_nil->Mv,perm_append_comm->acZ,singleton_append->ac0,getElem?_reverse->ac1,filter_map->U4,reverse_reverse->ac2,mem_of_mem_tail->ac3,mem_range->U5,nodup_nil->U6,filter_eq_self->ac4,mergeSort_perm->ac5,drop_succ_cons->ac6,take_set_of_le->ac7,mem_map_of_mem->ac8,all_cons->U7,nil_perm->U8,take_nil->U9,filterMap_map->ac9,take_sublist->ada,nodup_append->adb,getElem_drop->ade,getElem_take->adf,reverse_perm->adg,perm_middle->adh,nil_append->adi,length_nil->adk,sum_append->adl,drop_drop->adn,drop_left->ado,drop_zero->adp,take_zero->adq,foldl->Va,map_id'->adt
open PySem.W renaming Frag->aW,mg_of->c7,kitOne->fJ,findIn->gJ,mroIn->iK,mg_none_of->vo,nsIn->m8,kia_one->uL,fnOf->qM,emptyDict->zX,keepIn->vp,typeIn->rC,instObj->vq,excIn->tM,specialIn->BP,plainGet->BR,hasDictIn->Gs,hideAll_none->Mw,looks_findIn->Mx,takesIn->Gu,of_hideAll->Mz,callWith_K->MF,Looks->BW,plainOver->MJ,codeIn->Gv,makesIn->MN,hideAll_get->Vb,plainGet_of->Vc,kdu_collect->Vd,looks_mroIn->Ve,isFn->Gx,lookIn->MP,kitCls->M5,methodObj->Vf,kdl_dict->Vg,cellsFrom_some->adu,takerIn->Vh,methodCall_KW->adv,KdlSrc->Vi,callWith_K0->adw,WalkO->Vj,clsIn->Vk,kitx_list->adx,kitx_dict->ady,handedIn->adz,kat_cons->adA,hideAll->adB,kitMeta->adC,kat_yes->adD,kit_cls->adE,kIn_of->ajT,kat_no->adF
open PySem renaming wpAny_bind->aR,wpAny_pure->bw,Program->aV,mainGlobals->fK,wpAny_mono->dW,Around->bJ,starEach->dH,wpAny_holding->mz,wpAny_Call_Name_kw->zY,boot_len->uM,compareOp->jO,sliceBounds->pK,wpAny_tryCatch->rD,wpAny_execs_nil->vA,mem_of_lookup->BX,plainId_quiet->tO,wpAny_passesOwn->yw,codeAny->gO,relabel->gP,codeAny_builtin->yx,wpAny_updateSeq->yC,Builtin->g8,wpAny_seqItems->yD,tupleKind_room_in1->Gy,argBest->jd,wpAny_letGo->tQ,wpAny_ite_split->BZ,sysModules->rE,wpAny_truthy_bool->Gz,foldedSetIterable->GC,attributeBase->yE,wpAny_newList->yF,wpAny_execs_cons->GD,wpAny_call_entry->GF,wpAny_comprehension_free->Vl,wpAny_rule->tR,importedModules->GJ,letOwnedTupleGo->GP,binaryOp->nM,intItems->nO,backTo->iD,wpAny_newObj_type->M6,bootBuiltins->Ca,codeAny_call_builtin->Vm,wpAny_pyIter_revIter->Vn,treeTable->vB,evalArgs_none->Vo,codeAny_mono->GQ,swapsWith->yG,assign->lR,assignEach->Cd,wpAny_assign_Name->Vp,wpAny_Assign_Name->Vq,wpAny_call->Ce,slot_list_getitem->Vr,wpAny_getItem_list_slice->adG,wpAny_Call_method->Vs,wpAny_standAt->M7,behindInMarks->M8,bindArgs->vC,keywordEach->GR,wpAny_attempt->M9,wpAny_eqBool_int->Vt,checkBuiltinCall->Vu,codeAny_compStart_list->adH,tupleKind->Cg,Result->nP,wpAny_specialOf->Vv,exec_Assign_Name_used->adI,builtinLookup_eq_fast->adJ,NameKind->yH,checkCount->GZ,wpAny_newFunctionEnv->adK,sizeLine_eq->Nb,intItems_at->Nf,slicePick->G9,nums_intItems->Vw,call_reversed_list->adL,call->Ng,Keyword->yI,valueAt->yJ,callerA->yK,Within->Vx,seqIndex_neg->Vy,wpAny_pyIter_zip->adM,backToKw->Hf,holding->Ci,getMethod->Nh,BindsTo->Cj,seqIndex_of->Vz,subscripted->VB,typeLookup_type->adN,method_meetsIn->adO,fastBuiltinMro->adP,newFunctionEnv->adQ,wpAny_newTuple->adR,builtinsNs->VD,wpAny_Name->VF,typeLookup->VG,closureFor->VH,isInstance->VJ,bltViewBooted->adS,intBits_le_64->adT,evalPart_none->adU,call_list_seq->adV,compEnvC->Ni,comprehension->adW,numAt_eq->Nj,Params->Ck,PassesOwn->VL,cellsFrom->VN,call_meetsIn->adX,DictEntry->VP,argsOk->Cm,iter_intList->adY,standAt->Nk,getItem->Nm,newList->Np,isTrue->Hg,IntMulOk->VR,Thread->Nq,DefRec->Nr,pyIter->Nt,typeOf->Nu
open PySem.Heap renaming get?_push_of_some->gK,lt_size->bR,get?_push_size->iC,get?_update_other->rY,get?_update_self->Cp,size_push->Cq,get?_push_ne->Nv,size_update->Nx,get?_none_of_le->V0,SameBut->Hh,get?_update_ne->adZ
open Nat renaming le_refl->cJ,lt_of_lt_of_le->fW,zero_le->bZ,ne_of_lt->cW,le_trans->fX,lt_succ_of_lt->xU,lt_irrefl->rZ,lt_of_le_of_lt->Ef,mul_le_mul_right->yL,pow_le_pow_right->Cr,le_of_lt->pL,pow_succ->pN,le_succ->nQ,lt_or_ge->vD,mul_assoc->yM,lt_succ_self->Hj,ne_of_gt->yN,strongRecOn->Hl,eq_zero_or_pos->Ny,mul_add->yO,zero_add->Cu,min_eq_left->Nz,add_assoc->NP,le_of_eq->NQ,mul_comm->NT,add_le_add->V1,mul_le_mul_left->ad0,le_succ_of_le->ad1,sub_self->V2,add_zero->V3,pow_zero->V4,log2_lt->V5,mul_le_mul->ad2,not_lt->V6,mul_zero->ad3,succ_pos->ad4
open Option.some renaming inj->cX
open PyProof.Rows renaming wpS_bind->aU,wpS_pure->aY,pendingOf->dX,wpS_forRange->mC,seqObj->cU,callWith_type1->KD,wpS_mono->gF,boot_sorted->Ho,boot_isinstance->NZ,wpS_modify->nR,getElem?_mirror_all->Hq,boot_list->N5,IntsAre->je,setArr->gb,pairsOf_size->vG,boot_max->N6,boot_sum->N7,entry_list_sort->Hr,failedOf->nT,pairsOf->lB,listUpdate_at->Cv,slot_list_sort->Hs,boot_min->V7,reverseSlice'_eq->N8,size_push'->yP,sortedHeap->yQ,seqEpoch_at->Cw,envOfC->lC,plain_sorted->Ht,entry_sorted->Hu,args_list_sort->Oa,wpS_get->pO,expectedOf->ad5,plainGoodE->ad6,plainGoodD->ad7,AllBare->rF,subscriptTail->Ob,kind_sorted->Hv,wpS_lift->vH,reverseSlice'->Oc,gallopOf->vI,subscriptTail_builtinR->ad8,args_sorted1->Od,drecsOf->ad9,sortedHeap_old->V8,pairsOf_toList->V9,mirror_perm->Oe,Constant_none->Wa,sortedHeap_at->Wb,sortedAll_old->Wc,floordiv_int->Wd,callWith_builtin1->ajU,sortedAll_at->Wf,mem_zip_self->Wg,getElem?_bubble->aea,get?_update_seq->aeb,callWith_kw->Wh,Subscript_->Wj,mirror->yR,Constant_bool->aec,boot_reversed->aed,boot_dict->ajV,listItems_at->aee,keyKind_ints->aef,collect_list->aeg,lt_int->ajW,kws_cons->Wk
open Array renaming length_toList->gU,getElem?_toList->pP,toList_append->uN,toList_extract->Cy,toList_reverse->Cz,perm_iff_toList_perm->Og,toList_push->Hw,size_reverse->Wl,size_map->Oh,size_setIfInBounds->aeh,getElem?_eq_none->aei,toArray_toList->aej,size_replicate->aek,size_extract->ael,toList->aem
open PySem.Challenge renaming rw_sketchbounds_k29_questions_of_a_keepsake->Eh,pw_sketchbounds_k29_questions_of_a_keepsake->ajX
open Ne renaming symm->aP
open Bool renaming false_ne_true->iM,false_eq_true->uO,not_eq_true'->yS,eq_iff_iff->Oi,not_eq_false'->Wm,and_eq_true->Wo,and_eq_true_iff->aen,or_eq_true->aeo,false_and->aep,false_or->aer
open Int renaming le_refl->fM,mul_le_mul_of_nonneg_right->zZ,le_trans->jH,emod_lt_of_pos->xV,le_of_lt->pQ,fdiv_eq_ediv_of_nonneg->Hx,natAbs_ediv_le_natAbs->Hy,pow_succ->nU,natCast_pow->tU,emod_nonneg->tV,not_lt->lU,natCast_add->vJ,zero_add->rH,mul_le_mul->vK,natAbs_mul->vL,mul_assoc->yU,mul_le_mul_of_nonneg_left->aes,add_mul->CG,natCast_mul->Oj,mul_fdiv_cancel->Wq,lt_of_le_of_lt->Wr,mul_neg_of_neg_of_pos->aeu,mul_comm->Ol,le_antisymm->Ws,ofNat_lt->Om,mul_ne_zero->Wt,mul_nonneg->Wu,mul_add->Oo,pow_pos->Oq,pow_add->Ot,toNat_of_nonneg->aev,mul_right_comm->aew,natAbs_sub_le->aex,le_of_eq->Wv,zero_mul->Ww,mul_one->Wx,one_mul->Wy,ediv_nonneg->aey,ne_of_gt->aez,lt_or_le->aeA,mul_zero->aeB
open PySem.PassesOwn renaming never->mD
open PySem.Builtin.Int renaming intBits->sy,intTooBig->aeC
open PySem.Obj renaming mapSeq->iQ
open PySem.F renaming slot_list_append->Ei,type_list_append->Ej,plainAttrs_list->Ek,excBase_ValueError->Ou,plainAttrs_dict->Wz,slot_dict_get->WD,slot_int_bit_length->aeD,slot_dict_values->aeE,args_dict_get_3->aeF,slot_dict_items->aeG,entry_dict_get->aeH
open False renaming elim->lO
open PySem.Calls renaming spliced_cons->yV,call_function_entry->Ov,spliced_nil->CJ,callWith_builtin->WK,evalArgs_plain->WL,Name_function_global->aeI
open PySem.Around renaming under_plainId->CN,under->WM
open PySem.Builtin.List renaming listExtendWith->Ow,listLengthHint->aeJ,listSameRef->aeK,listItems->aeL,listUpdate->ajY
open Option renaming map_eq_some_iff->Hz,isSome_iff_exists->aeM,isSome_map->WQ,bind_eq_some_iff->aeN,getD_none->aeO,map_some->aeP,map->aeQ
open List.Perm renaming append_left->Ox,cons_inv->WR,append_right->aeR,refl->aeS,of_eq->ajZ
open PyProof.Rows.SortSt renaming mk'->tW
open Prod renaming ext->nW
open PySem.SeqAt renaming EqAt->vM,notIn_tupleAt->aeT
open PySem.Builtin.Builtins renaming bindParams->aeU
open PySem.Str renaming ofString->HB,empty->WT
open PySem.SeqAt.EqAt renaming of_refs->WW,same->WX,int_str->aeV,str_int->aeW,none_bool->aj0,bool_none->aj1,bool_bool->aj2,none_int->aj3,none_str->aj4,bool_int->aj5,bool_str->aj6,int_none->aj7,int_bool->aj8,str_none->aj9,str_bool->akb,int_int->akc,str_str->akd
open PyProof renaming noPylong_of_log2->aeX
open PySem.Builtin.ObjectAttr renaming find->aeY,getOf->ake
open Array.Perm renaming refl->WY
open Classical renaming choose_spec->aeZ,choose->ae0
open PySem.W.Fast renaming te9446332074065402090->akf
open PySem.Paired renaming length->W2,snoc->W4
open PySem.Heap.IsSliceOf renaming new->ae1
open List.Nodup renaming sublist->ae2
open PySem.W.KF renaming slot_gs->ae3,owner_class->akg,entry_class->akh,type_class->aki,entry_gs->akj,args_gs->akk
open PySem.Walks renaming list->Oz
open PySem.Code renaming isFrame->W5,frames->ae4
open PySem.AutoIntG2 renaming int_bit_length_int_0->akl
open List.Sublist renaming map->ae5
open PySem.W.Looks renaming ld->ae6,here->akm
open PySem.SeqAt.RcAt renaming lists->ae7,lists_lengths->akn,tuples->ako
open Eq renaming trans->HD
open StateT renaming run_pure->ae8
open PySem.SeqAt.RcNeAt renaming lists_lengths->akp,tuples->akq,lists->akr
open PySem.EqNone renaming eq_none_none->aks,eq_none_bool->akt,eq_bool_none->aku,ne_none_none->akv,ne_none_bool->akx,ne_bool_none->aky,eq_none_int->akz,eq_none_str->akA,eq_int_none->akB,eq_str_none->akC,ne_none_int->akD,ne_none_str->akE,ne_int_none->akF,ne_str_none->akG
open PySem.EqMixed renaming eq_bool_str->akH,eq_str_bool->akI,ne_bool_str->akJ,ne_str_bool->akK,eq_int_str->akL,eq_str_int->akM,ne_int_str->akN,ne_str_int->akO
open PySem.Bind renaming checkArgs->ae9
open PySem.Value renaming isStrOf->afa,isInt->afb
open PySem.Builtin.Range renaming rangeSize->akP
open PySem.Heap.UpToSlots renaming of_keeps->akQ
open PySem.W.KatTups renaming cons->akR,nil->akS
open Sum.inl renaming inj->afc
open PySem.Within renaming cons->akT
open PySem.Heap.Ns1 renaming of_empty->akU
open PySem.DictEntry renaming refKey->akV
open PySem.IsL renaming update->akW
open PySem.Heap.DictOf renaming new->akX
open List.cons renaming injEq->akY,inj->akZ
open PySem.Value.ref renaming inj->ak0
set_option hygiene false
local macro_rules | `(term| tb_g%) => `(by first | decide +kernel | lia | exact hr.mono (by decide))
local macro_rules | `(tactic| k_dat ($x0,$x1:ident) "a") => `(tactic| (refine $x0:term $x1:ident (fun vs H Q E h=>?_) (fun cdv B outer s H vs Q E hr h=>?_)))
local macro_rules | `(tactic| k_dat ($x0:ident,$x1:ident) "b") => `(tactic| (extract_lets +onlyGivenNames -underBinder -merge $x0:ident;clear_value ($x1:ident :$x0:ident =_)))
local macro_rules | `(tactic| walk_at "c") => `(tactic| (try dsimp (config:={ zeta:=false }) only))
local macro_rules | `(tactic| walk_at "d") => `(tactic| (iterate 1 (extract_lets +onlyGivenNames -underBinder -merge zz;subst zz)))
local macro_rules | `(tactic| k_dat $x0:ident "e") => `(tactic| (refine ⟨_,rfl,rfl,_,rfl,cV (fun $x0:ident =>?_) (fun $x0:ident =>?_)⟩))
local macro_rules | `(tactic| k_dat ($x0:ident,$x1:ident,$x2:ident,$x3,$x4,$x5) "f") => `(tactic| (refine ⟨_,rfl,$x0:ident,_,$x1:ident,_,rfl,$x2:ident,$x3:term,$x4:term,(by show $x5:term<1000;decide),?_⟩))
local macro_rules | `(tactic| k_dat ($x0:ident,$x1:ident) "g") => `(tactic| (refine $x0:ident (by simpa using $x1:ident) ?_))
local macro_rules | `(tactic| walk_at "h") => `(tactic| (iterate 2 (extract_lets +onlyGivenNames -underBinder -merge zz;subst zz)))
local macro_rules | `(tactic| walk_at "i") => `(tactic| (iterate 9 (extract_lets +onlyGivenNames -underBinder -merge zz;subst zz)))
local macro_rules | `(tactic| k_dat $x0:ident "j") => `(tactic| (refine ⟨_,rfl,_,_,rfl,rfl,_,rfl,cV (fun $x0:ident =>?_) (fun $x0:ident =>?_)⟩))
local macro_rules | `(tactic| walk_at "k") => `(tactic| (intro X hP hw hK hc i pins s σ H E I hf st hg))
local macro_rules | `(tactic| walk_at "l") => `(tactic| (intro pins s σ H x y v u Q I rx ry h))
local macro_rules | `(tactic| k_dat $x0:ident "m") => `(tactic| (obtain ⟨f0,f1,f2,f3,f4,f5⟩:=hf $x0:ident (by simp)))
local macro_rules | `(tactic| walk_at "n") => `(tactic| (intro pins s σ H Q I h))
local macro_rules | `(tactic| walk_at "o") => `(tactic| (intro pins s σ H xs us Q I r h))
set_option hygiene true
set_option maxRecDepth 100000
namespace L2
open PySem
def inClass (s:Stmt) (j:Nat):Stmt:=match s with
 | .ClassDef _ _ _ body _ _ _ _ _ _ _=>body.getD j (.Pass ⟨0,0,0,0⟩)
 | _=>.Pass ⟨0,0,0,0⟩
def jT (s:Stmt):Arguments:=match s with
 | .FunctionDef _ a _ _ _ _ _ _ _ _=>a
 | _=>{ posonlyargs:=[],args:=[],vararg:=none,kwonlyargs:=[],kw_defaults:=[],kwarg:=none,defaults:=[] }
def jh (s:Stmt):List Stmt:=match s with
 | .FunctionDef _ _ b _ _ _ _ _ _ _=>b
 | _=>[]
def aG (s:Stmt):Scope:=match s with
 | .FunctionDef _ _ _ _ _ _ sc _ _ _=>sc
 | _=>{ kind:=.function,names:=[],isGenerator:=false,isCoroutine:=false }
end L2
namespace My
open PySem PySem.W PyProof.Rows
def qN (tb:String->Option g8) (p:aV) (w:World) (n₀:Nat) (ann:Option Value):Nat->SharedT->Nq->Option SharedT
 | 0,_,_=>none
 | n+1,s,t=>match through t with
  | true=>some s
  | false=>match stepOk n₀ ann t with
   | false=>none
   | true=>match stepT (denote tb) p w s t with
    | some (s',t')=>qN tb p w n₀ ann n s' t'
    | none=>none
theorem HF {tb:String->Option g8} {p:aV} {w:World} {n₀:Nat} {ann:Option Value}:∀ {n:Nat} {s s':SharedT} {t:Nq},qN tb p w n₀ ann n s t=some s'->topRun tb p w n₀ ann n s.abs t=some s'.abs
 | 0,_,_,_,h=>by cases h
 | n+1,s,s',t,h=>by
  unfold qN at h
  unfold topRun
  cases ht:through t with
  | true =>
   rw [ht] at h
   obtain rfl:=cX h
   rfl
  | false =>
   rw [ht] at h
   dsimp only at h ⊢
   cases hs:stepOk n₀ ann t with
   | false=>rw [hs] at h;cases h
   | true =>
    rw [hs] at h
    dsimp only at h ⊢
    cases hq:stepT (denote tb) p w s t with
    | none=>rw [hq] at h;cases h
    | some x =>
     obtain ⟨s2,t2⟩:=x
     rw [hq] at h
     rw [stepT_spec hq]
     exact HF h
def treeOf:List Obj->Nat->BT->Option BT
 | [],_,t=>some t
 | o::r,n,t=>match ((t.ins n o).get n).isSome with
  | true=>treeOf r (n+1) (t.ins n o)
  | false=>none
theorem KH {life:Life}:∀ {l:List Obj} {n:Nat} {t t':BT},treeOf l n t=some t'->absHeap t' (n+l.length) life=⟨((t.list n)++l).toArray,life⟩
 | [],n,t,t',h=>by
  obtain rfl:=cX h
  rw [vf];rfl
 | o::r,n,t,t',h=>by
  unfold treeOf at h
  cases g:((t.ins n o).get n).isSome with
  | false=>rw [g] at h;cases h
  | true =>
   rw [g] at h
   have e:=KH (life:=life) h
   rw [show n+(o::r).length=n+1+r.length by rw [jG];lia,e]
   have e2:=absHeap_ins (life:=life) g
   have e3:(t.ins n o).list (n+1)=t.list n++[o]:=by
    have:=congrArg (fun h:Heap=>h.objs.toList) e2
    simpa [absHeap,Heap.push] using this
   rw [e3,jo];rfl
def OD (h:Heap):Option BT:=treeOf h.objs.toList 0 .nil
theorem abx {h:Heap} {T:BT} (e:OD h=some T):absHeap T h.objs.size h.life=h:=by
 have:=KH (life:=h.life) e
 rw [Cu,gU] at this
 rw [this]
 show Heap.mk (([]++h.objs.toList).toArray) h.life=h
 rw [adi]
/-- the opening and the top -/
def aby (p:aV) (w:World) (N:Nat):Option (Shared × SharedT):=(fencedOpening vB p w N).bind fun s₀ =>
 match s₀.heap.isNs fK && s₀.gens.size == 0 with
 | true=>(OD s₀.heap).bind fun T=>(qN vB p w s₀.heap.objs.size (s₀.heap.nsMap fK "__annotations__") N ⟨T,s₀.heap.objs.size,s₀.heap.life,s₀.gens,s₀.drawn,s₀.toks,s₀.os⟩ (topStub p)).map fun s₁=>(s₀,s₁)
 | false=>none
def okT (p:aV) (x:Shared × SharedT):Bool:=staticsOk (GJ p.main.body) x.1.heap x.2.abs.heap && namesBound p x.2.abs.heap && gensDone x.2.abs && laidKept x.1.heap x.2.abs.heap
/-- what is told of it,look by look -/
abbrev CP (p q:aV) (Xt:Shared->Bool) (x:Shared × SharedT):=openSeen q [] (GJ p.main.body) Xt true x.2.abs
theorem ahH {p:aV} {w:World} {N:Nat} {x:Shared × SharedT} (h:aby p w N=some x) (ok:okT p x=true):openEnds vB p w N=some x.2.abs:=by
 unfold aby at h
 obtain ⟨s₀,e0,e1⟩:=aeN.mp h
 unfold openEnds
 rw [e0]
 show topFrom vB p w N s₀=_
 unfold topFrom
 cases g:(s₀.heap.isNs fK && s₀.gens.size == 0) with
 | false=>rw [g] at e1;cases e1
 | true =>
  rw [g] at e1
  dsimp only at e1 ⊢
  obtain ⟨T,eT,e2⟩:=aeN.mp e1
  obtain ⟨s₁,e3,e4⟩:=Hz.mp e2
  subst e4
  have r:=HF e3
  have ab:(SharedT.mk T s₀.heap.objs.size s₀.heap.life s₀.gens s₀.drawn s₀.toks s₀.os).abs=s₀:=by
   show Shared.mk (absHeap T s₀.heap.objs.size s₀.heap.life) _ _ _ _=s₀
   rw [abx eT]
  rw [ab] at r
  rw [r]
  show (match staticsOk (GJ p.main.body) s₀.heap s₁.abs.heap && namesBound p s₁.abs.heap && gensDone s₁.abs && laidKept s₀.heap s₁.abs.heap with
   | true=>some s₁.abs
   | false=>none)=_
  have ok':(staticsOk (GJ p.main.body) s₀.heap s₁.abs.heap && namesBound p s₁.abs.heap && gensDone s₁.abs && laidKept s₀.heap s₁.abs.heap)=true:=ok
  rw [ok']
/-- one look -/
def Look (p:aV) (N:Nat) {β:Type} (f:Shared × SharedT->β) (b:World->β):Prop:=∀ w:World,(aby p w N).map f=some (b w)
theorem Look.at {p:aV} {N:Nat} {β:Type} {f:Shared × SharedT->β} {b:World->β} (h:Look p N f b) {w:World} {x:Shared × SharedT} (e:aby p w N=some x):f x=b w:=by
 have:=h w
 rw [e] at this
 exact cX this
theorem ahI {p q:aV} {Xt:Shared->Bool} {α:Type} {Yf:Shared->α} {Ya:World->α} {N:Nat}
  (h0:Look p N (okT p) fun _=>true)
  (h1:Look p N (fun x=>(CP p q Xt x).1) fun _=>(openGood q []).1)
  (h2:Look p N (fun x=>(CP p q Xt x).2.1) fun _=>(openGood q []).2.1)
  (h3:Look p N (fun x=>(CP p q Xt x).2.2.1) fun _=>(openGood q []).2.2.1)
  (h4:Look p N (fun x=>(CP p q Xt x).2.2.2.1) fun _=>(openGood q []).2.2.2.1)
  (h5:Look p N (fun x=>(CP p q Xt x).2.2.2.2.1) fun _=>(openGood q []).2.2.2.2.1)
  (h6:Look p N (fun x=>(CP p q Xt x).2.2.2.2.2.1) fun _=>(openGood q []).2.2.2.2.2.1)
  (h7:Look p N (fun x=>(CP p q Xt x).2.2.2.2.2.2.1) fun _=>(openGood q []).2.2.2.2.2.2.1)
  (h8:Look p N (fun x=>(CP p q Xt x).2.2.2.2.2.2.2.1) fun _=>(openGood q []).2.2.2.2.2.2.2.1)
  (h9:Look p N (fun x=>(CP p q Xt x).2.2.2.2.2.2.2.2) fun _=>(openGood q []).2.2.2.2.2.2.2.2)
  (hY:Look p N (fun x=>Yf x.2.abs) Ya):LeftO p q [] Xt Yf Ya N:=fun w=>by
 obtain ⟨x,e,_⟩:=Hz.mp (h0 w)
 show (openEnds vB p w N).map _=_
 rw [ahH e (h0.at e)]
 show some (CP p q Xt x,Yf x.2.abs)=some (openGood q [],Ya w)
 have a:=hY.at e
 have b:CP p q Xt x=openGood q []:=nW (h1.at e) (nW (h2.at e) (nW (h3.at e) (nW (h4.at e) (nW (h5.at e) (nW (h6.at e) (nW (h7.at e) (nW (h8.at e) (h9.at e))))))))
 rw [b]
 exact congrArg some (nW rfl a)
/-- the objects at some places,read off the tree -/
def afd (s:SharedT):List Addr->Option (List (Option Obj))
 | []=>some []
 | a::r=>match Nat.blt a s.n with
  | true=>match s.tree.get a with
   | some o=>match afd s r with
    | some l=>some (alive o::l)
    | none=>none
   | none=>none
  | false=>none
theorem aah {s:SharedT}:∀ {as:List Addr} {l:List (Option Obj)},afd s as=some l->as.map s.abs.heap.get? = l
 | [],l,h=>cX h
 | a::r,l,h=>by
  unfold afd at h
  cases hb:Nat.blt a s.n with
  | false=>rw [hb] at h;cases h
  | true =>
   rw [hb] at h
   dsimp only at h
   cases ho:s.tree.get a with
   | none=>rw [ho] at h;cases h
   | some o =>
    rw [ho] at h
    dsimp only at h
    cases hl:afd s r with
    | none=>rw [hl] at h;cases h
    | some l2 =>
     rw [hl] at h
     obtain rfl:=cX h
     rw [jg,aah hl]
     exact congrArg (· :: l2) (abs_get (Nat.le_of_ble_eq_true hb) ho)
open PySem.W.Fast renaming tw10156331382660048174->ajh, te10156331382660048174->afe, tw6613529449190102663->aai, te6613529449190102663->W6, tw11892475500146522536->aaj, te11892475500146522536->W7, tw14364793385576792824->afg, te14364793385576792824->KJ, tw4187177175401517315->abz, te4187177175401517315->OJ
noncomputable def afh (w:World) (os:OsState):Shared:=⟨boot_heap w.params,Array.mk [],boot_drawn,boot_toks,os⟩
noncomputable def aak (p:aV) (w:World) (N:Nat) (s₀:Shared):Option (Shared × SharedT):=(OD s₀.heap).bind fun T=>(qN vB p w s₀.heap.objs.size (s₀.heap.nsMap fK "__annotations__") N ⟨T,s₀.heap.objs.size,s₀.heap.life,s₀.gens,s₀.drawn,s₀.toks,s₀.os⟩ (topStub p)).map fun s₁=>(s₀,s₁)
theorem ahJ (P:Ck):(boot_heap P).isNs fK=true:=by kernel_rfl
theorem abA {p:aV} {N:Nat} (e:opening p=plainProg p.main.scope.names) (hN:Nat.ble 600 N=true) (f:∀ s,fenceModules? p s=some s) (w:World):∃ os,aby p w N=aak p w N (afh w os):=by
 obtain ⟨s,hs,hv⟩:=Hz.mp (boot_open e hN f w)
 obtain ⟨h,g,d,k,os⟩:=s
 simp only [Prod.mk.injEq] at hv
 obtain ⟨rfl,rfl,rfl,rfl⟩:=hv
 refine ⟨os,?_⟩
 unfold aby
 rw [hs]
 show (match (boot_heap w.params).isNs fK && _ with | true=>aak p w N (afh w os) | false=>none)=_
 rw [ahJ]
 rfl
noncomputable def z8 (p:aV) (w:World) (n₀:Nat) (ann:Option Value):Nat->SharedT->Nq->Option SharedT
 | 0,_,_=>none
 | n+1,s,t=>match through t with
  | true=>some s
  | false=>match aai n₀ ann t with
   | false=>none
   | true=>match ajh (aaj afg) p w s t with
    | some (s',t')=>z8 p w n₀ ann n s' t'
    | none=>none
theorem HJ {p:aV} {w:World} {n₀:Nat} {ann:Option Value}:∀ {n:Nat} {s:SharedT} {t:Nq},qN vB p w n₀ ann n s t=z8 p w n₀ ann n s t
 | 0,_,_=>rfl
 | n+1,s,t=>by
  have ih:∀ s t,qN vB p w n₀ ann n s t=z8 p w n₀ ann n s t:=fun _ _=>HJ
  rw [KJ] at ih
  unfold qN z8
  rw [W6,afe,W7,KJ]
  cases through t with
  | true=>rfl
  | false =>
   dsimp only
   cases aai n₀ ann t with
   | false=>rfl
   | true =>
    dsimp only
    cases ajh (aaj afg) p w s t with
    | none=>rfl
    | some x=>exact ih _ _
noncomputable def afi (p:aV) (w:World) (N:Nat) (s₀:Shared):Option (Shared × SharedT):=(OD s₀.heap).bind fun T=>(z8 p w s₀.heap.objs.size (s₀.heap.nsMap fK "__annotations__") N ⟨T,s₀.heap.objs.size,s₀.heap.life,s₀.gens,s₀.drawn,s₀.toks,s₀.os⟩ (topStub p)).map fun s₁=>(s₀,s₁)
theorem afj {p:aV} {w:World} {N:Nat} {s₀:Shared}:aak p w N s₀=afi p w N s₀:=by
 unfold aak afi
 exact congrArg _ (funext fun T=>congrArg _ HJ)
/-- one look,at the quick run -/
def jq (p:aV) (N:Nat) {β:Type} (f:Shared × SharedT->β) (b:World->β):Prop:=∀ (w:World) (os:OsState),(afi p w N (afh w os)).map f=some (b w)
noncomputable abbrev sE (p q:aV) (Xt:Shared->Bool) (x:Shared × SharedT):=abz q [] (GJ p.main.body) Xt true x.2.abs
theorem ahK {p q:aV} {Xt:Shared->Bool}:CP p q Xt=sE p q Xt:=by
 funext x
 unfold CP sE
 rw [OJ]
structure Plain (p:aV) (N:Nat):Prop where
 op:opening p=plainProg p.main.scope.names
 n:Nat.ble 600 N=true
 fe:∀ s,fenceModules? p s=some s
theorem jq.look {p:aV} {N:Nat} {β:Type} {f:Shared × SharedT->β} {b:World->β} (h:jq p N f b) (P:Plain p N):Look p N f b:=fun w=>by
 obtain ⟨os,e⟩:=abA P.op P.n P.fe w
 rw [e,afj]
 exact h w os
/-- what is asked of each look,part by part (not as a part of the whole: the kernel would then hold the wholes against each other) -/
theorem afk {p q:aV} {Xt:Shared->Bool} {as:List Addr} {Ya:World->List (Option Obj)} {N:Nat} (P:Plain p N)
  (h0:jq p N (okT p) fun _=>true)
  (h1:jq p N (fun x=>(sE p q Xt x).1) fun _=>ad5 q)
  (h2:jq p N (fun x=>(sE p q Xt x).2.1) fun _=>adS)
  (h3:jq p N (fun x=>(sE p q Xt x).2.2.1) fun _=>true)
  (h4:jq p N (fun x=>(sE p q Xt x).2.2.2.1) fun _=>true)
  (h5:jq p N (fun x=>(sE p q Xt x).2.2.2.2.1) fun _=>pinGoodD (ad9 q))
  (h6:jq p N (fun x=>(sE p q Xt x).2.2.2.2.2.1) fun _=>ad6 q (looseW q []))
  (h7:jq p N (fun x=>(sE p q Xt x).2.2.2.2.2.2.1) fun _=>ad7 q [])
  (h8:jq p N (fun x=>(sE p q Xt x).2.2.2.2.2.2.2.1) fun _=>wideGood q)
  (h9:jq p N (fun x=>(sE p q Xt x).2.2.2.2.2.2.2.2) fun _=>clsGoodW q [])
  (hY:jq p N (fun x=>afd x.2 as) fun w=>some (Ya w)):LeftO p q [] Xt (fun s=>as.map s.heap.get?) Ya N:=by
 rw [<- ahK] at h1 h2 h3 h4 h5 h6 h7 h8 h9
 refine ahI (h0.look P) (h1.look P) (h2.look P) (h3.look P) (h4.look P) (h5.look P) (h6.look P) (h7.look P) (h8.look P) (h9.look P) fun w=>?_
 obtain ⟨x,e,_⟩:=Hz.mp (h0.look P w)
 rw [e]
 exact congrArg some (aah ((hY.look P).at e))
end My
namespace My
open PySem L2
def top (i:Nat):Stmt:=ajX.main.body.getD i (.Pass ⟨0,0,0,0⟩)
abbrev s'0:Stmt:=top 31
abbrev s'1:Stmt:=top 32
abbrev s'2:Stmt:=top 33
abbrev s'3:Stmt:=inClass (top 28) 3
abbrev s'4:Stmt:=inClass (top 28) 2
abbrev s'5:Stmt:=top 29
abbrev s'6:Stmt:=top 30
abbrev s'7:Stmt:=inClass (top 28) 0
abbrev s'8:Stmt:=inClass (top 28) 1
abbrev s'9:Stmt:=inClass (top 28) 4
abbrev s'10:Stmt:=inClass (top 28) 5
abbrev s'11:Stmt:=top 34
abbrev s'12:Stmt:=inClass (top 28) 6
abbrev s'13:Stmt:=top 37
abbrev s'14:Stmt:=inClass (top 36) 0
abbrev s'15:Stmt:=inClass (top 36) 3
abbrev s'16:Stmt:=inClass (top 36) 1
abbrev s'17:Stmt:=inClass (top 36) 2
abbrev s'18:Stmt:=inClass (top 36) 4
abbrev s'19:Stmt:=top 18
abbrev s'20:Stmt:=top 19
abbrev s'21:Stmt:=inClass (top 21) 0
abbrev s'22:Stmt:=top 22
abbrev s'23:Stmt:=inClass (top 21) 2
abbrev s'24:Stmt:=inClass (top 21) 1
abbrev s'25:Stmt:=inClass (top 21) 3
abbrev s'26:Stmt:=inClass (top 21) 4
abbrev s'27:Stmt:=inClass (top 24) 0
abbrev s'28:Stmt:=top 25
abbrev s'29:Stmt:=top 26
abbrev s'30:Stmt:=inClass (top 24) 2
abbrev s'31:Stmt:=inClass (top 24) 1
abbrev s'32:Stmt:=inClass (top 24) 3
abbrev s'33:Stmt:=inClass (top 24) 4
abbrev s'34:Stmt:=inClass (top 24) 5
abbrev s'35:Stmt:=top 7
abbrev s'36:Stmt:=inClass (top 6) 0
abbrev s'37:Stmt:=inClass (top 6) 1
abbrev s'38:Stmt:=inClass (top 6) 2
abbrev s'39:Stmt:=top 12
abbrev s'40:Stmt:=top 13
abbrev s'41:Stmt:=top 9
abbrev s'42:Stmt:=top 10
abbrev s'43:Stmt:=top 8
abbrev s'44:Stmt:=top 11
abbrev s'45:Stmt:=inClass (top 6) 3
abbrev s'46:Stmt:=inClass (top 39) 1
abbrev s'47:Stmt:=inClass (top 39) 2
abbrev s'48:Stmt:=inClass (top 39) 3
abbrev s'49:Stmt:=inClass (top 39) 0
abbrev s'50:Stmt:=top 41
abbrev s'51:Stmt:=top 42
abbrev s'52:Stmt:=top 43
abbrev s'53:Stmt:=top 44
abbrev s'54:Stmt:=top 45
abbrev s'55:Stmt:=top 47
abbrev s'56:Stmt:=top 46
abbrev s'57:Stmt:=inClass (top 39) 4
abbrev s'58:Stmt:=inClass (top 39) 5
abbrev s'59:Stmt:=inClass (top 39) 6
abbrev s'60:Stmt:=inClass (top 39) 7
abbrev s'61:Stmt:=inClass (top 39) 8
abbrev s'62:Stmt:=inClass (top 39) 9
abbrev s'63:Stmt:=inClass (top 39) 10
abbrev s'64:Stmt:=top 48
abbrev s'65:Stmt:=top 49
abbrev s'66:Stmt:=top 50
abbrev s'67:Stmt:=top 51
abbrev s'68:Stmt:=top 52
abbrev s'69:Stmt:=top 53
abbrev s'70:Stmt:=top 54
def LK (K:aW) (n q:Str) (s:Stmt) (f:Addr):Prop:=∃ (oc:Value) (od an:Option Addr) (sl:Array (Option Value)) (kV dc pm cd ct:Value),K.lookup f=some ⟨oc,od,.func (qM n q (jT s) (jh s) (aG s) .none kV dc pm an cd ct),sl⟩/\Gv K cd q=true/\vp K (.ref f)=true
def GK (K:aW) (n q:Str) (s:Stmt) (f:Addr):Prop:=m8 K fK n=some (some (.ref f))/\LK K n q s f
def MeK (K:aW) (C:Addr) (n q:Str) (s:Stmt) (f:Addr):Prop:=gJ K (.ref C) n=some (some (.ref f))/\Gx K (.ref f)=true/\LK K n q s f
def CK (K:aW) (C:Addr):Prop:=BR K C WT=true/\Gs K C=true/\MJ K C=true/\gJ K (.ref C) "__setattr__" = some (some (.builtin "object.__setattr__"))/\MN K C=true/\vp K (.ref C)=true
def NK (K:aW) (C:Addr):List Str->Prop
 | []=>True
 | f::r=>gJ K (.ref C) f=some none/\NK K C r
def ZK (K:aW):List Str->Prop
 | []=>True
 | n::r=>m8 K fK n=some none/\ZK K r
theorem LK.of {K:aW} {n q:Str} {s:Stmt} {f:Addr} {oc:Value} {od an:Option Addr} {sl:Array (Option Value)} {kV dc pm cd ct:Value} (l:K.lookup f=some ⟨oc,od,.func (qM n q (jT s) (jh s) (aG s) .none kV dc pm an cd ct),sl⟩) (c:Gv K cd q=true) (k:vp K (.ref f)=true):LK K n q s f:=⟨oc,od,an,sl,kV,dc,pm,cd,ct,l,c,k⟩
theorem GK.of {K:aW} {n q:Str} {s:Stmt} {f:Addr} (a:m8 K fK n=some (some (.ref f))) (l:LK K n q s f):GK K n q s f:=⟨a,l⟩
theorem MeK.of {K:aW} {C:Addr} {n q:Str} {s:Stmt} {f:Addr} (a:gJ K (.ref C) n=some (some (.ref f))) (i:Gx K (.ref f)=true) (l:LK K n q s f):MeK K C n q s f:=⟨a,i,l⟩
theorem CK.of {K:aW} {C:Addr} (a:BR K C WT=true) (b:Gs K C=true) (c:MJ K C=true) (d:gJ K (.ref C) "__setattr__" = some (some (.builtin "object.__setattr__"))) (e:MN K C=true) (f:vp K (.ref C)=true):CK K C:=⟨a,b,c,d,e,f⟩
theorem NK.nil {K:aW} {C:Addr}:NK K C []:=trivial
theorem NK.cons {K:aW} {C:Addr} {f:Str} {r:List Str} (a:gJ K (.ref C) f=some none) (b:NK K C r):NK K C (f::r):=⟨a,b⟩
theorem ZK.nil {K:aW}:ZK K []:=trivial
theorem ZK.cons {K:aW} {f:Str} {r:List Str} (a:m8 K fK f=some none) (b:ZK K r):ZK K (f::r):=⟨a,b⟩
abbrev fP:PySem.W.OpenRow:=Eh.row
def view:PySem.Program:={ fP.prog with main:={ fP.prog.main with body:=[top 1,top 2,top 3,top 4,top 6,top 7,top 8,top 9,top 10,top 11,top 12,top 13,top 15,top 16,top 17,top 18,top 19,top 21,top 22,top 24,top 25,top 26,top 28,top 29,top 30,top 31,top 32,top 33,top 34,top 36,top 37,top 39,top 41,top 42,top 43,top 44,top 45,top 46,top 47,top 48,top 49,top 50,top 51,top 52,top 53,top 54] } }
abbrev xW:Shared->Bool:=fun s=>PySem.W.xlAt view [] s && PySem.W.recOk fP.records s
set_option maxRecDepth 100000 in
set_option maxHeartbeats 0 in
theorem seeP:Plain fP.prog 20000:=⟨by kernel_rfl,by kernel_rfl,by intro s;kernel_rfl⟩
set_option maxRecDepth 100000 in
set_option maxHeartbeats 0 in
theorem seeW:Eh.wellSaid=true:=by
 rw [akf]
 kernel_rfl
set_option maxRecDepth 100000 in
set_option maxHeartbeats 0 in
theorem see0:jq fP.prog 20000 (okT fP.prog) (fun _=>true):=by intro w os;kernel_rfl
set_option maxRecDepth 100000 in
set_option maxHeartbeats 0 in
theorem see1:jq fP.prog 20000 (fun x=>(sE fP.prog view xW x).1) (fun _=>ad5 view):=by intro w os;kernel_rfl
set_option maxRecDepth 100000 in
set_option maxHeartbeats 0 in
theorem see2:jq fP.prog 20000 (fun x=>(sE fP.prog view xW x).2.1) (fun _=>adS):=by intro w os;kernel_rfl
set_option maxRecDepth 100000 in
set_option maxHeartbeats 0 in
theorem see3:jq fP.prog 20000 (fun x=>(sE fP.prog view xW x).2.2.1) (fun _=>true):=by intro w os;kernel_rfl
set_option maxRecDepth 100000 in
set_option maxHeartbeats 0 in
theorem see4:jq fP.prog 20000 (fun x=>(sE fP.prog view xW x).2.2.2.1) (fun _=>true):=by intro w os;kernel_rfl
set_option maxRecDepth 100000 in
set_option maxHeartbeats 0 in
theorem see5:jq fP.prog 20000 (fun x=>(sE fP.prog view xW x).2.2.2.2.1) (fun _=>pinGoodD (ad9 view)):=by intro w os;kernel_rfl
set_option maxRecDepth 100000 in
set_option maxHeartbeats 0 in
theorem see6:jq fP.prog 20000 (fun x=>(sE fP.prog view xW x).2.2.2.2.2.1) (fun _=>ad6 view (PySem.W.looseW view [])):=by intro w os;kernel_rfl
set_option maxRecDepth 100000 in
set_option maxHeartbeats 0 in
theorem see7:jq fP.prog 20000 (fun x=>(sE fP.prog view xW x).2.2.2.2.2.2.1) (fun _=>ad7 view []):=by intro w os;kernel_rfl
set_option maxRecDepth 100000 in
set_option maxHeartbeats 0 in
theorem see8:jq fP.prog 20000 (fun x=>(sE fP.prog view xW x).2.2.2.2.2.2.2.1) (fun _=>PySem.W.wideGood view):=by intro w os;kernel_rfl
set_option maxRecDepth 100000 in
set_option maxHeartbeats 0 in
theorem see9:jq fP.prog 20000 (fun x=>(sE fP.prog view xW x).2.2.2.2.2.2.2.2) (fun _=>PySem.W.clsGoodW view []):=by intro w os;kernel_rfl
def afl (R:World->aW->(Str->Option Value)->Addr->Prop):Prop:=∀ {w:World} {K:aW} {h:Heap} {mg:Str->Option Value} {fa dU jm jr iB qJ cG jy jt jz tX f'0 f'1 f'2 f'3 f'4 f'5 f'6 f'7 f'8 f'9 W8 W9 Xa Xb QX Xc Xd Xe Xf Xg Xh QZ Xi Xj Xk Xl Xm Q5 Xn Xo Xp Xq Xr Xu Xv Xw Q6 Xx Xy Xz XC XD XF XH XJ XM XQ XR XS Q7 X3 X4 X5 X6 X7 X8 Yb Yc Yd Ye Yg Yh Yi Yj Yk Yl Ym Yn Yo Yp abB:Addr} (X:K.In h) (G:h.Ns fK mg) (hfa:mg "law" = some (.ref fa))
  (aal:m8 K fK "Rungs" = some (some (.ref dU)))
  (vN:CK K dU)
  (z9:NK K dU ["room","total","over","under","turns","least","most","rungs"])
  (aam:m8 K fK "Window" = some (some (.ref jm)))
  (sH:CK K jm)
  (wQ:NK K jm ["room","reach","clock","boxes"])
  (aan:m8 K fK "Distinct" = some (some (.ref jr)))
  (m9:CK K jr)
  (qO:NK K jr ["room","arrivals","level","kept"])
  (aao:m8 K fK "Frequent" = some (some (.ref iB)))
  (ni:CK K iB)
  (qP:NK K iB ["room","total","lost","counts"])
  (aap:m8 K fK "Balance" = some (some (.ref qJ)))
  (pR:CK K qJ)
  (tY:NK K qJ ["span","sums"])
  (aaq:m8 K fK "Keepsake" = some (some (.ref cG)))
  (nj:CK K cG)
  (qQ:NK K cG ["room","reach","span","came","went","up","down","window","seen","balance"])
  (aar:m8 K fK "TooFine" = some (some (.ref jy)))
  (aas:m8 K fK "OutOfReach" = some (some (.ref jt)))
  (aat:m8 K fK "TooManyOff" = some (some (.ref jz)))
  (aau:m8 K fK "KeepError" = some (some (.ref tX)))
  (pH:tM K jy [.type "ValueError",.type "Exception",.type "BaseException",.type "object"] "ValueError.__new__" = true)
  (iH:tM K jt [.type "ValueError",.type "Exception",.type "BaseException",.type "object"] "ValueError.__new__" = true)
  (jA:tM K jz [.type "ValueError",.type "Exception",.type "BaseException",.type "object"] "ValueError.__new__" = true)
  (gB:iK K jy (.ref tX)=some true)
  (gC:iK K tX (.type "BaseException")=some true)
  (gD:rC K (.ref tX)=some (.type "type"))
  (eY:iK K jt (.ref tX)=some true)
  (eZ:iK K tX (.type "BaseException")=some true)
  (fj:rC K (.ref tX)=some (.type "type"))
  (fB:iK K jz (.ref tX)=some true)
  (fC:iK K tX (.type "BaseException")=some true)
  (fH:rC K (.ref tX)=some (.type "type"))
  (oR:gJ K (.ref jy) "__getattribute__" = some (some (.builtin "BaseException.__getattribute__")))
  (oU:gJ K (.ref jy) "__getattr__" = some none)
  (oW:gJ K (.ref jy) "__class__" = some (some (.builtin "object.__class__")))
  (oX:iK K jy (.type "BaseException")=some true)
  (oY:iK K jy (.type "object")=some true)
  (oZ:rC K (.ref jy)=some (.type "type"))
  (o8:iK K jy (.ref jy)=some true)
  (o9:BP K (.builtin "object.__class__") "__get__" = some (some (.builtin "getset_descriptor.__get__")))
  (pq:Gu K (.builtin "object.__class__")=some true)
  (jU:gJ K (.ref jt) "__getattribute__" = some (some (.builtin "BaseException.__getattribute__")))
  (jV:gJ K (.ref jt) "__getattr__" = some none)
  (jW:gJ K (.ref jt) "__class__" = some (some (.builtin "object.__class__")))
  (jX:iK K jt (.type "BaseException")=some true)
  (jY:iK K jt (.type "object")=some true)
  (jZ:rC K (.ref jt)=some (.type "type"))
  (j6:iK K jt (.ref jt)=some true)
  (j7:BP K (.builtin "object.__class__") "__get__" = some (some (.builtin "getset_descriptor.__get__")))
  (j8:Gu K (.builtin "object.__class__")=some true)
  (j9:gJ K (.ref jz) "__getattribute__" = some (some (.builtin "BaseException.__getattribute__")))
  (kj:gJ K (.ref jz) "__getattr__" = some none)
  (kE:gJ K (.ref jz) "__class__" = some (some (.builtin "object.__class__")))
  (kI:iK K jz (.type "BaseException")=some true)
  (kJ:iK K jz (.type "object")=some true)
  (kO:rC K (.ref jz)=some (.type "type"))
  (kW:iK K jz (.ref jz)=some true)
  (kY:BP K (.builtin "object.__class__") "__get__" = some (some (.builtin "getset_descriptor.__get__")))
  (kZ:Gu K (.builtin "object.__class__")=some true)
  (d9:fJ K (.ref jy) (.ref jy)=some true)
  (dB:fJ K (.ref jy) (.ref jt)=some false)
  (dD:fJ K (.ref jy) (.ref jz)=some false)
  (dF:fJ K (.ref jt) (.ref jy)=some false)
  (cP:fJ K (.ref jt) (.ref jt)=some true)
  (cQ:fJ K (.ref jt) (.ref jz)=some false)
  (dG:fJ K (.ref jz) (.ref jy)=some false)
  (cR:fJ K (.ref jz) (.ref jt)=some false)
  (cT:fJ K (.ref jz) (.ref jz)=some true)
  (a'0:GK K "with_thing" "with_thing" s'0 f'0)
  (a'1:GK K "left_behind" "left_behind" s'1 f'1)
  (a'2:GK K "risen" "risen" s'2 f'2)
  (a'3:MeK K dU "turn" "Rungs.turn" s'3 f'3)
  (a'4:MeK K dU "settle" "Rungs.settle" s'4 f'4)
  (a'5:GK K "lesser" "lesser" s'5 f'5)
  (a'6:GK K "greater" "greater" s'6 f'6)
  (a'7:MeK K dU "__init__" "Rungs.__init__" s'7 f'7)
  (a'8:MeK K dU "add" "Rungs.add" s'8 f'8)
  (a'9:MeK K dU "near" "Rungs.near" s'9 f'9)
  (Q8:MeK K dU "rank" "Rungs.rank" s'10 W8)
  (Yq:GK K "thing_at" "thing_at" s'11 W9)
  (Q9:MeK K dU "by_rank" "Rungs.by_rank" s'12 Xa)
  (Yr:GK K "joined" "joined" s'13 Xb)
  (O1:MeK K jm "__init__" "Window.__init__" s'14 QX)
  (Ra:MeK K jm "settle" "Window.settle" s'15 Xc)
  (Rb:MeK K jm "add" "Window.add" s'16 Xd)
  (Rf:MeK K jm "idle" "Window.idle" s'17 Xe)
  (Rg:MeK K jm "last" "Window.last" s'18 Xf)
  (Ys:GK K "spread" "spread" s'19 Xg)
  (Yt:GK K "mark" "mark" s'20 Xh)
  (O2:MeK K jr "__init__" "Distinct.__init__" s'21 QZ)
  (Yu:GK K "of_marks" "of_marks" s'22 Xi)
  (Rh:MeK K jr "settle" "Distinct.settle" s'23 Xj)
  (Ri:MeK K jr "add" "Distinct.add" s'24 Xk)
  (Rj:MeK K jr "exact" "Distinct.exact" s'25 Xl)
  (Rm:MeK K jr "bounds" "Distinct.bounds" s'26 Xm)
  (O3:MeK K iB "__init__" "Frequent.__init__" s'27 Q5)
  (Yv:GK K "cut_of" "cut_of" s'28 Xn)
  (Yw:GK K "lowered" "lowered" s'29 Xo)
  (Ro:MeK K iB "fit" "Frequent.fit" s'30 Xp)
  (Rp:MeK K iB "add" "Frequent.add" s'31 Xq)
  (Rq:MeK K iB "low" "Frequent.low" s'32 Xr)
  (Rr:MeK K iB "high" "Frequent.high" s'33 Xu)
  (Rt:MeK K iB "often" "Frequent.often" s'34 Xv)
  (Yx:GK K "with_row" "with_row" s'35 Xw)
  (O4:MeK K qJ "__init__" "Balance.__init__" s'36 Q6)
  (Rv:MeK K qJ "put" "Balance.put" s'37 Xx)
  (Rw:MeK K qJ "take" "Balance.take" s'38 Xy)
  (Yy:GK K "due_sums" "due_sums" s'39 Xz)
  (Yz:GK K "root" "root" s'40 XC)
  (YB:GK K "one_pair" "one_pair" s'41 XD)
  (YC:GK K "two_pairs" "two_pairs" s'42 XF)
  (YD:GK K "pairs_for" "pairs_for" s'43 XH)
  (YF:GK K "fits" "fits" s'44 XJ)
  (Rx:MeK K qJ "off" "Balance.off" s'45 XM)
  (Ry:MeK K cG "put" "Keepsake.put" s'46 XQ)
  (Rz:MeK K cG "take" "Keepsake.take" s'47 XR)
  (RB:MeK K cG "idle" "Keepsake.idle" s'48 XS)
  (O5:MeK K cG "__init__" "Keepsake.__init__" s'49 Q7)
  (YG:GK K "_law_mix" "_law_mix" s'50 X3)
  (YH:GK K "_law_far_back" "_law_far_back" s'51 X4)
  (YJ:GK K "_law_thing_by" "_law_thing_by" s'52 X5)
  (YK:GK K "_law_weight_by" "_law_weight_by" s'53 X6)
  (YL:GK K "_law_row_by" "_law_row_by" s'54 X7)
  (YM:GK K "_law_shape_by" "_law_shape_by" s'55 X8)
  (YQ:GK K "_law_done" "_law_done" s'56 Yb)
  (RD:MeK K cG "net" "Keepsake.net" s'57 Yc)
  (RJ:MeK K cG "ranked" "Keepsake.ranked" s'58 Yd)
  (RK:MeK K cG "often" "Keepsake.often" s'59 Ye)
  (RL:MeK K cG "by_rank" "Keepsake.by_rank" s'60 Yg)
  (RM:MeK K cG "last" "Keepsake.last" s'61 Yh)
  (RN:MeK K cG "distinct" "Keepsake.distinct" s'62 Yi)
  (RP:MeK K cG "off" "Keepsake.off" s'63 Yj)
  (YS:GK K "_law_asked" "_law_asked" s'64 Yk)
  (YT:GK K "_law_part_asked" "_law_part_asked" s'65 Yl)
  (YW:GK K "_law_told" "_law_told" s'66 Ym)
  (YX:GK K "_law_due_refused" "_law_due_refused" s'67 Yn)
  (YZ:GK K "_law_numbers" "_law_numbers" s'68 Yo)
  (Y0:GK K "_law_right" "_law_right" s'69 Yp)
  (J9:GK K "law" "law" s'70 abB)
  (zk:ZK K ["dict","isinstance","len","list","max","min","range","reversed","sorted","sum","zip"])
  {aav:Tok}
  (O6:m8 K fK "MOST" = some (some (.int 1152921504606846976 aav)))
  {sI:Tok}
  (lg:m8 K fK "MOST_HALVINGS" = some (some (.int 60 sI)))
  {KN:Tok}
  (Aa:m8 K fK "SPREAD" = some (some (.int 770093176312745717 KN))),
  R w K mg fa
end My
section
open PySem PySem.W PyProof.Rows L2
local macro_rules
  | `(tactic| o_head $H) => `(tactic|
    (refine holds_open (r := My.fP) (q := My.view) (loose := []) (N := 20000)
        (Xt := My.xW) (XP := XL My.view [])
        (Yf := Hook.obs $H) (Ya := Hook.val $H) (YP := Hook.says $H) ?hl (Hook.of $H) (Hook.keeps $H)
        (fun s e => xl_of s (aen.mp e).1) XL.keeps
        (by rfl) (by rfl) (by rfl)
        (fun s e => recFacts_of (aen.mp e).2) (by rfl)
        (by first | assumption | decide +kernel) tb_g%
        ⟨rfl, rfl, rfl, rfl, rfl, by decide +kernel⟩ ?hw ?hc;
     (case hl => exact My.afk My.seeP My.see0 My.see1 My.see2 My.see3 My.see4 My.see5 My.see6 My.see7 My.see8 My.see9 (by intro w os; kernel_rfl))))
local macro_rules
  | `(tactic| k_is) => `(tactic| first
    | (refine' My.LK.of ?lkl ?lkc ?lkk; (case lkl => k_is); (case lkc => k_is); (case lkk => k_is))
    | (refine' My.GK.of ?gka ?gkl; (case gka => k_is); (case gkl => k_is))
    | (refine' My.MeK.of ?mka ?mki ?mkl; (case mka => k_is); (case mki => k_is); (case mkl => k_is))
    | exact My.NK.nil
    | exact My.ZK.nil
    | (refine' My.NK.cons ?nka ?nkb; (case nka => k_is); (case nkb => k_is))
    | (refine' My.ZK.cons ?zka ?zkb; (case zka => k_is); (case zkb => k_is))
    | (refine' My.CK.of ?ck1 ?ck2 ?ck3 ?ck4 ?ck5 ?ck6; (case ck1 => k_is); (case ck2 => k_is); (case ck3 => k_is); (case ck4 => k_is); (case ck5 => k_is); (case ck6 => k_is))
    | fail)
open My in
set_option maxRecDepth 100000 in
set_option maxHeartbeats 0 in
theorem My.head (R:World->aW->(Str->Option Value)->Addr->Prop) (mk:My.afl R)
  (wk:∀ {q:aV} {loose:List Str} {XP:(Str->Option Value)->Heap->Prop} {YP:World->Heap->Prop} {d:Nr} {K:Ck->aW},Eh.most=some 63->d.params.defaults=[]->(∀ (w:World) (h:Heap),YP w h->(K w.params).In h)->(∀ (w:World) (mg:Str->Option Value) (fa:Addr) (h:Heap),(K w.params).In h->h.Ns fK mg->mg d.name=some (.ref fa)->R w (K w.params) mg fa)->Vj q loose XP YP Eh.row.toRowW d [] (fun f vs=>Ng f vs)):Eh.Holds:=by
 w_on;refine PySem.W.holds_law My.seeW fun said=>?_;k_head;(case hw=>w_witness2)
 k_fill
 refine wk rfl rfl (fun w h Y=>ajT Y) ?F
 case F =>
  intro w mg fa h KX G hmg
  refine' mk KX G hmg ?aal ?vN ?z9 ?aam ?sH ?wQ ?aan ?m9 ?qO ?aao ?ni ?qP ?aap ?pR ?tY ?aaq ?nj ?qQ ?aar ?aas ?aat ?aau ?pH ?iH ?jA ?gB ?gC ?gD ?eY ?eZ ?fj ?fB ?fC ?fH ?oR ?oU ?oW ?oX ?oY ?oZ ?o8 ?o9 ?pq ?jU ?jV ?jW ?jX ?jY ?jZ ?j6 ?j7 ?j8 ?j9 ?kj ?kE ?kI ?kJ ?kO ?kW ?kY ?kZ ?d9 ?dB ?dD ?dF ?cP ?cQ ?dG ?cR ?cT ?a'0 ?a'1 ?a'2 ?a'3 ?a'4 ?a'5 ?a'6 ?a'7 ?a'8 ?a'9 ?Q8 ?Yq ?Q9 ?Yr ?O1 ?Ra ?Rb ?Rf ?Rg ?Ys ?Yt ?O2 ?Yu ?Rh ?Ri ?Rj ?Rm ?O3 ?Yv ?Yw ?Ro ?Rp ?Rq ?Rr ?Rt ?Yx ?O4 ?Rv ?Rw ?Yy ?Yz ?YB ?YC ?YD ?YF ?Rx ?Ry ?Rz ?RB ?O5 ?YG ?YH ?YJ ?YK ?YL ?YM ?YQ ?RD ?RJ ?RK ?RL ?RM ?RN ?RP ?YS ?YT ?YW ?YX ?YZ ?Y0 ?J9 ?zk ?O6 ?lg ?Aa
  (case aal=>k_is)
  (case vN=>k_is)
  (case z9=>k_is)
  (case aam=>k_is)
  (case sH=>k_is)
  (case wQ=>k_is)
  (case aan=>k_is)
  (case m9=>k_is)
  (case qO=>k_is)
  (case aao=>k_is)
  (case ni=>k_is)
  (case qP=>k_is)
  (case aap=>k_is)
  (case pR=>k_is)
  (case tY=>k_is)
  (case aaq=>k_is)
  (case nj=>k_is)
  (case qQ=>k_is)
  (case aar=>k_is)
  (case aas=>k_is)
  (case aat=>k_is)
  (case aau=>k_is)
  (case pH=>k_exc)
  (case iH=>k_exc)
  (case jA=>k_exc)
  (case gB=>k_is)
  (case gC=>k_is)
  (case gD=>k_is)
  (case eY=>k_is)
  (case eZ=>k_is)
  (case fj=>k_is)
  (case fB=>k_is)
  (case fC=>k_is)
  (case fH=>k_is)
  (case oR=>k_is)
  (case oU=>k_is)
  (case oW=>k_is)
  (case oX=>k_is)
  (case oY=>k_is)
  (case oZ=>k_is)
  (case o8=>k_is)
  (case o9=>k_is)
  (case pq=>k_is)
  (case jU=>k_is)
  (case jV=>k_is)
  (case jW=>k_is)
  (case jX=>k_is)
  (case jY=>k_is)
  (case jZ=>k_is)
  (case j6=>k_is)
  (case j7=>k_is)
  (case j8=>k_is)
  (case j9=>k_is)
  (case kj=>k_is)
  (case kE=>k_is)
  (case kI=>k_is)
  (case kJ=>k_is)
  (case kO=>k_is)
  (case kW=>k_is)
  (case kY=>k_is)
  (case kZ=>k_is)
  (case d9=>kit_is)
  (case dB=>kit_is)
  (case dD=>kit_is)
  (case dF=>kit_is)
  (case cP=>kit_is)
  (case cQ=>kit_is)
  (case dG=>kit_is)
  (case cR=>kit_is)
  (case cT=>kit_is)
  (case a'0=>k_is)
  (case a'1=>k_is)
  (case a'2=>k_is)
  (case a'3=>k_is)
  (case a'4=>k_is)
  (case a'5=>k_is)
  (case a'6=>k_is)
  (case a'7=>k_is)
  (case a'8=>k_is)
  (case a'9=>k_is)
  (case Q8=>k_is)
  (case Yq=>k_is)
  (case Q9=>k_is)
  (case Yr=>k_is)
  (case O1=>k_is)
  (case Ra=>k_is)
  (case Rb=>k_is)
  (case Rf=>k_is)
  (case Rg=>k_is)
  (case Ys=>k_is)
  (case Yt=>k_is)
  (case O2=>k_is)
  (case Yu=>k_is)
  (case Rh=>k_is)
  (case Ri=>k_is)
  (case Rj=>k_is)
  (case Rm=>k_is)
  (case O3=>k_is)
  (case Yv=>k_is)
  (case Yw=>k_is)
  (case Ro=>k_is)
  (case Rp=>k_is)
  (case Rq=>k_is)
  (case Rr=>k_is)
  (case Rt=>k_is)
  (case Yx=>k_is)
  (case O4=>k_is)
  (case Rv=>k_is)
  (case Rw=>k_is)
  (case Yy=>k_is)
  (case Yz=>k_is)
  (case YB=>k_is)
  (case YC=>k_is)
  (case YD=>k_is)
  (case YF=>k_is)
  (case Rx=>k_is)
  (case Ry=>k_is)
  (case Rz=>k_is)
  (case RB=>k_is)
  (case O5=>k_is)
  (case YG=>k_is)
  (case YH=>k_is)
  (case YJ=>k_is)
  (case YK=>k_is)
  (case YL=>k_is)
  (case YM=>k_is)
  (case YQ=>k_is)
  (case RD=>k_is)
  (case RJ=>k_is)
  (case RK=>k_is)
  (case RL=>k_is)
  (case RM=>k_is)
  (case RN=>k_is)
  (case RP=>k_is)
  (case YS=>k_is)
  (case YT=>k_is)
  (case YW=>k_is)
  (case YX=>k_is)
  (case YZ=>k_is)
  (case Y0=>k_is)
  (case J9=>k_is)
  (case zk=>k_is)
  (case O6=>k_is)
  (case lg=>k_is)
  (case Aa=>k_is)
end
set_option Elab.async false
set_option linter.all false
set_option maxRecDepth 100000
namespace L2
open PySem PySem.Spec PyProof.Rows
noncomputable abbrev Key:=Sum Int Str
noncomputable def HN:Key->Value->Bool
 | .inl k,v=>afb k v
 | .inr x,v=>afa x v
noncomputable def keyH (w:World):Key->Int
 | .inl k=>hashInt k
 | .inr x=>hashStr w x
theorem gk:∀ {k:Key} {v:Value},HN k v=true->(∃ i t,k=Sum.inl i/\v=Value.int i t)\/(∃ x t,k=Sum.inr x/\v=Value.str x t)
 | .inl i,v,h=>by
  obtain ⟨t,e⟩:=Value.isInt_shape (k:=i) (v:=v) h
  exact .inl ⟨i,t,rfl,e⟩
 | .inr x,v,h=>by
  obtain ⟨t,e⟩:=Value.isStrOf_shape (x:=x) (v:=v) h
  exact .inr ⟨x,t,rfl,e⟩
theorem abC (i:Int) (t:Tok):HN (.inl i) (.int i t)=true:=by simp [HN,afb]
theorem abD (x:Str) (t:Tok):HN (.inr x) (.str x t)=true:=by simp [HN,afa]
theorem ak1 (a b:Int):decide ((Sum.inl a:Key)=Sum.inl b)=(a == b):=by
 by_cases e:a=b
 ·subst e;simp
 ·have h:¬ (Sum.inl a:Key)=Sum.inl b:=fun q=>e (afc q)
  rw [decide_eq_false h]
  exact (beq_eq_false_iff_ne.mpr e).symm
theorem ak2 (a b:Str):decide ((Sum.inr a:Key)=Sum.inr b)=decide (a=b):=by
 by_cases e:a=b
 ·subst e;simp
 ·have h:¬ (Sum.inr a:Key)=Sum.inr b:=fun q=>e (Sum.inr.inj q)
  rw [decide_eq_false h,decide_eq_false e]
theorem ak3 (a:Int) (b:Str):decide ((Sum.inl a:Key)=Sum.inr b)=false:=decide_eq_false (fun q=>nomatch q)
theorem ak4 (a:Str) (b:Int):decide ((Sum.inr a:Key)=Sum.inl b)=false:=decide_eq_false (fun q=>nomatch q)
noncomputable def dj (prog:aV) (w:World):PySem.KeyKind prog w Key where
 is:=HN
 hash:=keyH w
 inj:=fun v a b ha hb=>by
  rcases gk ha with ⟨i,t,rfl,rfl⟩ | ⟨x,t,rfl,rfl⟩
  ·rcases gk hb with ⟨j,u,rfl,e⟩ | ⟨y,u,rfl,e⟩
   ·injection e with e1 _;rw [e1]
   ·exact nomatch e
  ·rcases gk hb with ⟨j,u,rfl,e⟩ | ⟨y,u,rfl,e⟩
   ·exact nomatch e
   ·injection e with e1 _;rw [e1]
 byValue:=fun k v h=>by
  rcases gk h with ⟨i,t,rfl,rfl⟩ | ⟨x,t,rfl,rfl⟩ <;> rfl
 pyHash:=fun hv h=>by
  rcases gk hv with ⟨i,t,rfl,rfl⟩ | ⟨x,t,rfl,rfl⟩
  ·exact wpAny_pyHash_int h
  ·exact wpAny_pyHash_str h
 eqBool:=fun hu hv h=>by
  rcases gk hu with ⟨i,t,rfl,rfl⟩ | ⟨x,t,rfl,rfl⟩
  ·rcases gk hv with ⟨j,u,rfl,rfl⟩ | ⟨y,u,rfl,rfl⟩
   ·rw [ak1] at h;exact Vt h
   ·rw [ak3] at h;exact aeV i t y u _ _ _ _ h
  ·rcases gk hv with ⟨j,u,rfl,rfl⟩ | ⟨y,u,rfl,rfl⟩
   ·rw [ak4] at h;exact aeW x t j u _ _ _ _ h
   ·rw [ak2] at h;exact wpAny_eqBool_str h
 «strs» := fun k x t v h=>by
  rcases gk h with ⟨i,u,rfl,e⟩ | ⟨y,u,rfl,e⟩
  ·exact nomatch e
  ·injection e with e1 _
   subst e1
   cases v <;> rfl
theorem RQ (prog:aV) (w:World) (i:Int) (t:Tok):(dj prog w).is (.inl i) (.int i t)=true:=abC i t
theorem RT (prog:aV) (w:World) (x:Str) (t:Tok):(dj prog w).is (.inr x) (.str x t)=true:=abD x t
end L2
namespace L2
open PySem PySem.Spec PyProof.Rows
inductive V where
 | non | bl (b:Bool) | int (i:Int) | str (x:Str) | byt (b:Array UInt8) | flt (b:UInt64) | ref (a:Addr) | ty (n:String)
 deriving DecidableEq
noncomputable def RelV:V->Value->Prop
 | .non,u=>u=Value.none
 | .bl b,u=>u=Value.bool b
 | .int i,u=>∃ t,u=Value.int i t
 | .str x,u=>∃ t,u=Value.str x t
 | .byt b,u=>∃ t,u=Value.bytes b t
 | .flt b,u=>∃ t,u=Value.float b t
 | .ref a,u=>u=Value.ref a
 | .ty n,u=>u=Value.type n
noncomputable abbrev Vals:List V->List Value->Prop:=Paired RelV
theorem Vals.length {xs:List V} {us:List Value} (r:Vals xs us):xs.length=us.length:=W2 r
theorem Vals.get:∀ {xs:List V} {us:List Value} {i:Nat} {x:V},Vals xs us->xs[i]? = some x->∃ u,us[i]? = some u/\RelV x u
 | _,_,_,_,.nil,e=>by simp at e
 | _,_,0,_,.cons r _,e=>by simp at e;subst e;exact ⟨_,rfl,r⟩
 | _,_,i+1,x,.cons _ t,e=>by
  obtain ⟨u,h1,h2⟩:=Vals.get (i:=i) (x:=x) t (by simpa using e)
  exact ⟨u,by simpa using h1,h2⟩
theorem Vals.set {x:V} {u:Value} (r:RelV x u):∀ {xs:List V} {us:List Value} (i:Nat),Vals xs us->Vals (xs.set i x) (us.set i u)
 | _,_,_,.nil=>.nil
 | _,_,0,.cons _ t=>.cons r t
 | _,_,i+1,.cons q t=>.cons q (Vals.set r i t)
theorem Vals.append:∀ {xs ys:List V} {us ws:List Value},Vals xs us->Vals ys ws->Vals (xs++ys) (us++ws)
 | _,_,_,_,.nil,s=>s
 | _,_,_,_,.cons r t,s=>.cons r (Vals.append t s)
theorem Vals.take:∀ {xs:List V} {us:List Value} (n:Nat),Vals xs us->Vals (xs.take n) (us.take n)
 | _,_,0,_=>.nil
 | _,_,_+1,.nil=>.nil
 | _,_,n+1,.cons r t=>.cons r (Vals.take n t)
theorem Vals.drop:∀ {xs:List V} {us:List Value} (n:Nat),Vals xs us->Vals (xs.drop n) (us.drop n)
 | _,_,0,r=>r
 | _,_,_+1,.nil=>.nil
 | _,_,n+1,.cons _ t=>Vals.drop n t
theorem Vals.none_of:∀ {xs:List V} {us:List Value} {i:Nat},Vals xs us->xs[i]? = none->us[i]? = none:=fun {xs us i} r e=>by
 have h1:=r.length
 have h2:xs.length<=i:=Ut.mp e
 exact Ut.mpr tb_g%
noncomputable def uY:Option V->Option Value->Prop
 | some v,some u=>RelV v u
 | none,none=>True
 | _,_=>False
noncomputable def KV {κ:Type}:List (κ × V)->List (κ × Value)->Prop:=Paired fun (p:κ × V) (q:κ × Value)=>p.1=q.1/\RelV p.2 q.2
noncomputable def kV:Key->V
 | .inl i=>.int i
 | .inr x=>.str x
inductive HO where
 /-- a list -/
 | lst (xs:List V)
 /-- a tuple (never changes) -/
 | tup (xs:List V)
 /-- a dict whose keys are ints and texts;one whose keys are tuples of ints and texts (the empty one is both) -/
 | dK (kvs:List (Key × V)) | dT (kvs:List (List Key × V))
 /-- a set of ints: its members,its size -/
 | set (S:Int->Bool) (n:Nat)
 /-- an instance of the class at C,its dict at dx,its attributes -/
 | ins (C dx:Addr) (fs:List (Str × V))
 /-- the dict of the instance at x -/
 | own (x:Addr)
 /-- the dict of an exception -/
 | xd (fs:List (Str × V))
 /-- a bound method,f of x -/
 | met (f x:Addr)
 /-- a range object lo,lo+1,.. below hi -/
 | rng (lo hi:Int)
 /-- a thing that is known to the object (the script;a dict while a loop walks it): read,never written while it is so -/
 | frz (o:Obj) (u:HO)
 /-- a code object's table -/
 | tbl (ps:Array Value)
 /-- any other thing,by what is true of its one object (a def of one's own: SetO a S n:=HO.ext fun h=>..) -/
 | ext (φ:Heap->Prop)
noncomputable abbrev Hp:=Addr->Option HO
noncomputable def upd (H:Hp) (a:Addr) (o:HO):Hp:=fun b=>if b=a then some o else H b
theorem ak {H:Hp} {a:Addr} {o:HO}:upd H a o a=some o:=by unfold upd;rw [if_pos rfl]
theorem aB {H:Hp} {a b:Addr} {o:HO} (h:b≠a):upd H a o b=H b:=by unfold upd;rw [if_neg h]
theorem dw {H:Hp} {a:Addr} {o u:HO}:upd (upd H a o) a u=upd H a u:=by
 funext b;unfold upd;split <;> rfl
theorem jP {H:Hp} {a b:Addr} {o u:HO} (h:H a=some o) (h':H b=some u) (d:o≠u):a≠b:=by
 intro e;subst e;rw [h] at h';exact d (cX h')
theorem aq {H:Hp} {a b:Addr} {o:HO} (h:H a=some o) (h':H b=none):a≠b:=by
 intro e;subst e;rw [h] at h';cases h'
section
variable (P:aV) (w:World)
noncomputable def dO (H:Hp) (h:Heap) (a:Addr):HO->Prop
 | .lst xs=>xs.length<=sizeLine/\∃ (its:List Value) (n:Nat),Vals xs its/\h.get? a=some { cls:=.type "list",data:=.seq its.toArray n }
 | .tup xs=>xs.length<=sizeLine/\∃ its:List Value,Vals xs its/\IsTup h a its.toArray
 | .dK kvs=>kvs.length<=sizeLine/\(a == rE)=false/\∃ vs,KV kvs vs/\h.DictOf (dj P w) a vs
 | .dT kvs=>kvs.length<=sizeLine/\(a == rE)=false/\∃ xs:List (List Key × Addr × Value),
   Paired (fun (p:List Key × V) (q:List Key × Addr × Value)=>p.1=q.1/\H q.2.1=some (.tup (p.1.map kV))/\RelV p.2 q.2.2) kvs xs /\
   ∃ o es ep,h.get? a=some o/\o.ExactDict/\o.data = .dict es ep/\es.toList=xs.map (entryOfKey (Cg (dj P w)))/\(xs.map (·.1)).Nodup
 | .set S n=>h.SetOf (intKind P w) a S n
 | .ins C dx fs=>H dx=some (.own a)/\fs.length<=1000/\dx≠a/\h.get? a=some (vq C dx) /\
   ∃ mA,h.Ns1 dx mA/\(∀ f,uY (fs.lookup f) (mA f))/\Vx mA (fs.map (·.1))
 | .own _=>∃ o,h.get? a=some o
 | .xd fs=>∃ mA,h.Ns1 a mA/\∀ f,uY (fs.lookup f) (mA f)
 | .rng lo hi=>∃ t u v,h.get? a=some { cls:=.type "range",data:=.fields #[.int lo t,.int hi u,.int 1 v] }
 | .frz o u=>h.get? a=some o/\dO H h a u
 | .tbl ps=>h.get? a=some { cls:=.none,data:=.fields ps }
 | .met f x=>h.get? a=some (Vf (.ref f) (.ref x))
 | .ext φ=>φ h/\(∃ o,h.get? a=some o)/\∀ h1 h2:Heap,φ h1->(∀ o,h1.get? a=some o->h2.get? a=some o)->φ h2
noncomputable def HOk (H:Hp) (h:Heap):Prop:=∀ a o,H a=some o->dO P w H h a o
end
section
variable {P:aV} {w:World} {H H':Hp} {h h':Heap} {a:Addr} {o:HO}
theorem dO.lt (x:dO P w H h a o):a<h.objs.size:=by
 cases o with
 | lst xs=>obtain ⟨_,_,_,_,e⟩:=x;exact bR e
 | tup xs=>obtain ⟨_,_,_,p⟩:=x;exact p.lt
 | dK kvs=>obtain ⟨_,_,_,_,o,_,_,e,_⟩:=x;exact bR e
 | dT kvs=>obtain ⟨_,_,_,_,o,_,_,e,_⟩:=x;exact bR e
 | set S n=>obtain ⟨o,_,_,_,e,_⟩:=x;exact bR e
 | ins C dx fs=>obtain ⟨_,_,_,e,_⟩:=x;exact bR e
 | own y=>obtain ⟨_,e⟩:=x;exact bR e
 | xd fs=>obtain ⟨_,⟨_,_,_,e,_⟩,_⟩:=x;exact bR e
 | rng lo hi=>obtain ⟨_,_,_,e⟩:=x;exact bR e
 | frz ob u=>obtain ⟨e,_⟩:=x;exact bR e
 | tbl ps=>exact bR (show h.get? a=some _ from x)
 | met f y=>exact bR (show h.get? a=some _ from x)
 | ext φ=>obtain ⟨_,⟨_,e⟩,_⟩:=x;exact bR e
theorem Paired.mapP {α β:Type} {F G:α->β->Prop}:∀ {l₁:List α} {l₂:List β},Paired F l₁ l₂->(∀ a b,F a b->G a b)->Paired G l₁ l₂
 | _,_,.nil,_=>.nil
 | _,_,.cons r t,f=>.cons (f _ _ r) (Paired.mapP t f)
theorem dO.stay (x:dO P w H h a o) (k:∀ b u,(b=a\/H b=some (.own a))->h.get? b=some u->h'.get? b=some u)
  (ho:∀ b,H b=some (.own a)->H' b=some (.own a)) (ht:∀ b xs,H b=some (.tup xs)->H' b=some (.tup xs)):dO P w H' h' a o:=by
 induction o with
 | lst xs=>obtain ⟨z,its,n,r,e⟩:=x;exact ⟨z,its,n,r,k _ _ (.inl rfl) e⟩
 | tup xs=>obtain ⟨z,its,r,ob,e,c⟩:=x;exact ⟨z,its,r,ob,k _ _ (.inl rfl) e,c⟩
 | dK kvs=>obtain ⟨z,y,vs,r,ob,es,ep,e,c⟩:=x;exact ⟨z,y,vs,r,ob,es,ep,k _ _ (.inl rfl) e,c⟩
 | dT kvs =>
  obtain ⟨z,y,xs,r,ob,es,ep,e,c⟩:=x
  exact ⟨z,y,xs,Paired.mapP r fun p q z=>⟨z.1,ht _ _ z.2.1,z.2.2⟩,ob,es,ep,k _ _ (.inl rfl) e,c⟩
 | set S n=>obtain ⟨ob,es,ep,t,e,c⟩:=x;exact ⟨ob,es,ep,t,k _ _ (.inl rfl) e,c⟩
 | ins C dx fs =>
  obtain ⟨d,z,ne,e,mA,⟨od,es,ep,e2,c⟩,r⟩:=x
  exact ⟨ho _ d,z,ne,k _ _ (.inl rfl) e,mA,⟨od,es,ep,k _ _ (.inr d) e2,c⟩,r⟩
 | own y=>obtain ⟨ob,e⟩:=x;exact ⟨ob,k _ _ (.inl rfl) e⟩
 | xd fs=>obtain ⟨mA,⟨od,es,ep,e,c⟩,r⟩:=x;exact ⟨mA,⟨od,es,ep,k _ _ (.inl rfl) e,c⟩,r⟩
 | rng lo hi=>obtain ⟨t,u,v,e⟩:=x;exact ⟨t,u,v,k _ _ (.inl rfl) e⟩
 | frz ob u ih=>obtain ⟨e,q⟩:=x;exact ⟨k _ _ (.inl rfl) e,ih q⟩
 | tbl ps =>
  have e:h.get? a=some { cls:=.none,data:=.fields ps }:=x
  show h'.get? a=some { cls:=.none,data:=.fields ps }
  exact k a _ (.inl rfl) e
 | met f y =>
  have e:h.get? a=some (Vf (.ref f) (.ref y)):=x
  show h'.get? a=some (Vf (.ref f) (.ref y))
  exact k a _ (.inl rfl) e
 | ext φ=>obtain ⟨p,⟨o,e⟩,st⟩:=x;exact ⟨st _ _ p fun o q=>k _ _ (.inl rfl) q,⟨o,k _ _ (.inl rfl) e⟩,st⟩
theorem HOk.lt (x:HOk P w H h) (e:H a=some o):a<h.objs.size:=(x a o e).lt
theorem HOk.fresh (x:HOk P w H h) (e:h.objs.size<=a):H a=none:=by
 cases q:H a with
 | none=>rfl
 | some u=>exact absurd (fW (x.lt q) e) (rZ _)
theorem HOk.kept (x:HOk P w H h) (k:∀ b u,h.get? b=some u->h'.get? b=some u):HOk P w H h':=fun a o e =>
 (x a o e).stay (fun b u _ q=>k b u q) (fun _ q=>q) fun _ _ q=>q
theorem HOk.laid (x:HOk P w H h) (k:∀ b u,h.get? b=some u->h'.get? b=some u) (hp:h.objs.size<=a) (new:dO P w (upd H a o) h' a o):HOk P w (upd H a o) h':=fun b u e=>by
 have hn:=x.fresh hp
 by_cases hb:b=a
 ·subst hb;rw [ak] at e;cases e;exact new
 ·rw [aB hb] at e
  exact (x b u e).stay (fun c v _ q=>k c v q) (fun c q=>by rw [aB (aq q hn)];exact q) fun c xs q=>by rw [aB (aq q hn)];exact q
end
noncomputable def Rd (H:Hp) (a:Addr) (u:HO):Prop:=H a=some u\/∃ o,H a=some (.frz o u)
theorem Rd.ok {P:aV} {w:World} {H:Hp} {h:Heap} {a:Addr} {u:HO} (r:Rd H a u) (x:HOk P w H h):dO P w H h a u:=by
 rcases r with r | ⟨o,r⟩
 ·exact x a u r
 ·obtain ⟨_,q⟩:=x a _ r
  exact q
noncomputable def Mut:Option HO->Prop
 | some (.lst _)=>True
 | some (.dK _)=>True
 | some (.dT _)=>True
 | some (.set _ _)=>True
 | some (.ins _ _ _)=>True
 | some (.ext _)=>True
 | _=>False
section
variable {P:aV} {w:World} {H:Hp} {h h':Heap} {x e:Addr} {o':HO}
theorem HOk.write (ok:HOk P w H h) (mu:Mut (H x)) (he:e=x\/H e=some (.own x)) (k:∀ b u,b≠e->h.get? b=some u->h'.get? b=some u) (heo:∃ u,h'.get? e=some u)
  (new:dO P w (upd H x o') h' x o'):HOk P w (upd H x o') h':=fun b u q=>by
 have nown:∀ c y,H c=some (.own y)->c≠x:=fun c y r z=>by subst z;rw [r] at mu;exact mu
 have ntup:∀ c xs,H c=some (.tup xs)->c≠x:=fun c xs r z=>by subst z;rw [r] at mu;exact mu
 by_cases hb:b=x
 ·subst hb;rw [ak] at q;cases q;exact new
 ·rw [aB hb] at q
  by_cases hbe:b=e
  ·have q':H b=some (.own x):=by
    rcases he with z | z
    ·exact absurd (hbe.trans z) hb
    ·rw [hbe];exact z
   rw [q] at q';cases q'
   obtain ⟨v,hv⟩:=heo
   exact ⟨v,by rw [hbe];exact hv⟩
  ·refine (ok b u q).stay (fun c v hc r=>k c v ?_ r) (fun c r=>by rw [aB (nown c b r)];exact r) fun c xs r=>by rw [aB (ntup c xs r)];exact r
   rcases hc with rfl | hc
   ·exact hbe
   ·rintro rfl
    rcases he with z | z
    ·exact nown c b hc z
    ·rw [hc] at z;cases z;exact hb rfl
end
structure Un (fs ex:List Addr) (H H':Hp) (h h':Heap):Prop where
 keep:∀ b o,h.get? b=some o->H b=none->b∉fs->b∉ex->h'.get? b=some o
 slot:∀ b o,h.get? b=some o->H b=none->b∈fs->b∉ex->∃ sl,h'.get? b=some { o with slots:=sl }
 free:∀ b o,h.get? b=some o->H b=none->b∉ex->H' b=none
 there:∀ b o,h.get? b=some o->b∉ex->∃ o',h'.get? b=some o'
 tups:∀ b xs,H b=some (.tup xs)->H' b=some (.tup xs)
 uZ:∀ b o u,H b=some (.frz o u)->H' b=some (.frz o u)
 yW:∀ b ps,H b=some (.tbl ps)->∃ more,H' b=some (.tbl (ps++more))
section
variable {fs fs' ex ex':List Addr} {H H1 H2:Hp} {h h1 h2 h':Heap} {a x e:Addr} {o:HO}
theorem Un.any (u:Un fs ex H H1 h h1) {b:Addr} {ob:Obj} (q:h.get? b=some ob) (n:H b=none) (hx:b∉ex):∃ sl,h1.get? b=some { ob with slots:=sl }:=by
 by_cases hb:b∈fs
 ·exact u.slot b ob q n hb hx
 ·exact ⟨ob.slots,u.keep b ob q n hb hx⟩
theorem Un.kept (k:∀ b u,h.get? b=some u->h'.get? b=some u):Un fs ex H H h h' :=
 ⟨fun b ob q _ _ _=>k b ob q,fun b ob q _ _ _=>⟨ob.slots,k b ob q⟩,fun _ _ _ n _=>n,fun b ob q _=>⟨ob,k b ob q⟩,fun _ _ q=>q,fun _ _ _ q=>q,fun _ ps q=>⟨#[],by rw [q];simp⟩⟩
theorem Un.refl:Un fs ex H H h h:=Un.kept fun _ _ q=>q
theorem Un.laid (k:∀ b u,h.get? b=some u->h'.get? b=some u) (hp:h.objs.size<=a) (hn:H a=none):Un fs ex H (upd H a o) h h' where
 keep:=fun b u q _ _ _=>k b u q
 slot:=fun b u q _ _ _=>⟨u.slots,k b u q⟩
 free:=fun b u q n _=>by rw [aB (cW (fW (bR q) hp))];exact n
 there:=fun b u q _=>⟨u,k b u q⟩
 tups:=fun b xs q=>by rw [aB (aq q hn)];exact q
 uZ:=fun b u xs q=>by rw [aB (aq q hn)];exact q
 yW:=fun b ps q=>⟨#[],by rw [aB (aq q hn),q];simp⟩
theorem Un.write (mu:Mut (H x)) (he:e=x\/H e=some (.own x)) (k:∀ b u,b≠e->h.get? b=some u->h'.get? b=some u) (heo:∃ u,h'.get? e=some u):Un fs ex H (upd H x o) h h':=by
 have hx:∀ b,H b=none->b≠x:=fun b n z=>by subst z;rw [n] at mu;exact mu
 have hb:∀ b,H b=none->b≠e:=fun b n z=>by
  subst z
  rcases he with r | r
  ·exact hx b n r
  ·rw [n] at r;cases r
 have hm:∀ b u,H b=some u->¬ Mut (some u)->b≠x:=fun b u q nm z=>by subst z;rw [q] at mu;exact nm mu
 refine ⟨fun b u q n _ _=>k b u (hb b n) q,fun b u q n _ _=>⟨u.slots,k b u (hb b n) q⟩,fun b u q n _=>by rw [aB (hx b n)];exact n,fun b u q _=>?_,
  fun b xs q=>by rw [aB (hm b _ q fun z=>z)];exact q,fun b u xs q=>by rw [aB (hm b _ q fun z=>z)];exact q,fun b ps q=>⟨#[],by rw [aB (hm b _ q fun z=>z),q];simp⟩⟩
 by_cases hbe:b=e
 ·subst hbe;exact heo
 ·exact ⟨u,k b u hbe q⟩
end
noncomputable def trk (h:Heap) (H:Hp):List Addr:=(yu h.objs.size).filter fun a=>(H a).isSome
noncomputable def O7 (h:Heap) (H:Hp):Heap:=adB h (trk h H)
theorem abE (h:Heap) (H:Hp):(O7 h H).objs.size=h.objs.size:=PySem.W.hideAll_size _ _
theorem afm {h:Heap} {H:Hp} {b:Addr} {o:Obj} (e:h.get? b=some o) (n:H b=none):(O7 h H).get? b=some o :=
 Vb _ e fun hm=>by
  have q:(H b).isSome=true:=(BL.mp hm).2
  rw [n] at q;simp at q
theorem ahL {h:Heap} {H:Hp} {b:Addr} {o:Obj} (e:(O7 h H).get? b=some o):h.get? b=some o/\H b=none:=by
 have e':h.get? b=some o:=Mz (trk h H) e
 refine ⟨e',?_⟩
 cases q:H b with
 | none=>rfl
 | some x =>
  have hm:b∈trk h H:=BL.mpr ⟨U5.mpr (bR e'),by simp [q]⟩
  have z:(O7 h H).get? b=none:=Mw (trk h H) hm
  rw [z] at e;cases e
noncomputable def ahM (g h:Heap) (L:Addr):List (Addr × Obj):=(yu h.objs.size).filterMap fun a=>if a=L\/(g.get? a).isSome=true then none else (h.get? a).map fun o=>(a,o)
noncomputable def rest (g h:Heap) (L d:Addr):List (Addr × Obj):=(ahM g h L).filter fun p=>decide (p.1≠d)
end L2
namespace L2
open PySem PySem.Spec PyProof.Rows
structure Mod (K:aW) (mg:Str->Option Value) (base:Heap):Prop where
 kin:K.In base
 glob:base.Ns fK mg
 blt:∃ mb,base.Ns VD mb/\∀ x:Str,x ≠ "__name__" -> mb x=Ca x
 nolimit:base.NoLimit
structure Cx where
 prog:aV
 w:World
 K:aW
 mg:Str->Option Value
 base:Heap
 A:bJ
 N:List Str
 s₀:Shared
 H₀:Hp
 env:Env
 outer:List Env
 stack:List Env
 ex:List Addr
 fn:Str->Bool
 calm:Bool
 pn:List (Addr × Obj)
 xe:Value->Shared->Prop
noncomputable def frs (l:List Env):List Addr:=l.filterMap (·.frame)
noncomputable abbrev Cx.fs (X:Cx):List Addr:=frs X.outer
noncomputable def Vis (sc:Scope) (x:Str):Prop:=sc.names.lookup x=some .local\/sc.names.lookup x=some .cell\/sc.names.lookup x=some .free
noncomputable def Loc (sc:Scope) (x:Str):Prop:=sc.names.lookup x=some .local\/sc.names.lookup x=some .cell
noncomputable def Look (env:Env) (h:Heap) (m:Str->Option Value) (x:Str) (u:Value):Prop :=
 (env.kindOf x=some .local/\m x=some u)\/((env.kindOf x=some .cell\/env.kindOf x=some .free)/\∃ c,env.cells.lookup x=some c/\h.IsCell c (some u))
structure Cx.Ok (X:Cx):Prop where
 mod:Mod X.K X.mg X.base
 kind:X.env.scope.kind = .function
 glob:X.env.globals=fK
 blt:X.env.builtins=VD
 above:X.s₀.heap.objs.size<=X.env.locals
 inj:∀ x y c,X.env.cells.lookup x=some c->X.env.cells.lookup y=some c->x=y
 has:∀ x,(X.env.kindOf x=some .cell\/X.env.kindOf x=some .free)->∃ c,X.env.cells.lookup x=some c
 cab:∀ x c,X.fn x=true->X.env.cells.lookup x=some c->X.s₀.heap.objs.size<=c
 hd:X.calm=true->X.A.handled=none
 frames:X.A.frames=some X.stack
 stk:X.stack=X.outer\/(X.stack=X.env::X.outer/\X.env.frame=some X.env.locals)
 exf:∀ b∈X.ex,b≠X.env.locals/\∀ x c,X.env.cells.lookup x=some c->c≠b
 bs:∀ b o,X.base.get? b=some o->X.s₀.heap.get? b=some o/\X.H₀ b=none
 bsz:X.base.objs.size<=X.s₀.heap.objs.size
 RV:∀ b o,X.base.get? b=some o->b∉X.ex
 abF:∀ b∈X.ex,b∉X.fs
 yX:X.s₀.heap.FunFrames X.base X.outer
 frf:∀ b∈X.fs,X.H₀ b=none
structure Inv (X:Cx) (pins:List (Addr × Obj)) (σ:List (Option V)) (H:Hp) (s:Shared):Prop where
 ok:X.Ok
 os:s.os=X.s₀.os
 bare:rF s.gens
 base:Un X.fs X.ex X.H₀ H X.s₀.heap s.heap
 loc:∃ m,s.heap.Ns X.env.locals m/\∀ (i:Nat) (x:Str) (v:V),X.N[i]? = some x->σ[i]? = some (some v)->Vis X.env.scope x->∃ u,RelV v u/\Look X.env s.heap m x u
 cell:∀ x c,X.env.cells.lookup x=some c->∃ v,s.heap.IsCell c v
 free:H X.env.locals=none
 pU:∀ x c,X.env.cells.lookup x=some c->H c=none
 pin:∀ p∈X.pn++pins,s.heap.get? p.1=some p.2/\H p.1=none/\p.1≠X.env.locals/\p.1∉X.fs/\∀ v,p.2.data ≠ .cell v
 hok:HOk X.prog X.w H s.heap
 len:σ.length=X.N.length
section
variable {X:Cx} {pins:List (Addr × Obj)} {σ:List (Option V)} {H H':Hp} {s:Shared} {h':Heap}
theorem Cx.Ok.nofr (ok:X.Ok) {b:Addr} {o:Obj} (e:X.base.get? b=some o):b∉X.fs:=fun hb=>by
 have:=(ok.yX.mem hb).1
 rw [e] at this;cases this
theorem Inv.bs (I:Inv X pins σ H s):∀ b o,X.base.get? b=some o->s.heap.get? b=some o/\H b=none:=fun b o e =>
 ⟨I.base.keep b o (I.ok.bs b o e).1 (I.ok.bs b o e).2 (I.ok.nofr e) (I.ok.RV b o e),I.base.free b o (I.ok.bs b o e).1 (I.ok.bs b o e).2 (I.ok.RV b o e)⟩
theorem Inv.bk (I:Inv X pins σ H s):∀ b o,X.base.get? b=some o->s.heap.get? b=some o:=fun b o e=>(I.bs b o e).1
theorem Inv.mod (I:Inv X pins σ H s):Mod X.K X.mg X.base:=I.ok.mod
theorem Inv.kIn (I:Inv X pins σ H s):X.K.In s.heap:=I.ok.mod.kin.keeps I.bk
theorem Inv.nolimit (I:Inv X pins σ H s):s.heap.NoLimit:=I.ok.mod.nolimit.keeps I.bk
theorem Inv.lt (I:Inv X pins σ H s):X.env.locals<s.heap.objs.size:=let ⟨_,hn,_⟩:=I.loc;hn.lt
theorem Inv.sz (I:Inv X pins σ H s):X.s₀.heap.objs.size<=s.heap.objs.size:=fX I.ok.above (pL I.lt)
theorem Inv.nofs (I:Inv X pins σ H s) {a:Addr} (h:s.heap.objs.size<=a):a∉X.fs:=fun hb=>by
 obtain ⟨_,o,ho,_⟩:=I.ok.yX.mem hb
 exact absurd (fW (bR ho) (fX I.sz h)) (rZ _)
theorem Inv.cne (I:Inv X pins σ H s):∀ x c,X.env.cells.lookup x=some c->c≠X.env.locals:=fun x c e z=>by
 obtain ⟨v,o,ho,hd⟩:=I.cell x c e
 obtain ⟨m,⟨o',es,ep,ho',hd',_⟩,_⟩:=I.loc
 rw [z,ho'] at ho;cases ho;rw [hd'] at hd;cases hd
theorem Inv.yX (I:Inv X pins σ H s):s.heap.FunFrames X.base X.outer:=by
 have all:∀ (l:List Env),(∀ b∈frs l,b∈X.fs)->X.s₀.heap.FunFrames X.base l->s.heap.FunFrames X.base l:=by
  intro l
  induction l with
  | nil=>intro _ _;trivial
  | cons env r ih =>
   intro hs hl
   obtain ⟨hk,⟨L,o,hf,hn,ho,hd⟩,hr⟩:=hl
   have hL:L∈X.fs:=hs L (by unfold frs;rw [Ed,hf];exact gq)
   obtain ⟨sl,e⟩:=I.base.slot L o ho (I.ok.frf L hL) hL fun z=>I.ok.abF L z hL
   exact ⟨hk,⟨L,_,hf,hn,e,hd⟩,ih (fun b hb=>hs b (by unfold frs;rw [Ed,hf];exact gY _ hb)) hr⟩
 exact all X.outer (fun _ hb=>hb) I.ok.yX
theorem Inv.stack (I:Inv X pins σ H s):s.heap.FunFrames X.base X.stack:=by
 rcases I.ok.stk with e | ⟨e,hf⟩
 ·rw [e];exact I.yX
 ·rw [e]
  obtain ⟨m,hn,_⟩:=I.loc
  refine .cons (by rw [I.ok.kind];decide) hf hn ?_ I.yX
  exact V0 (fX I.ok.bsz I.ok.above)
theorem Inv.vO (I:Inv X pins σ H s):∀ b∈frs X.stack,b∈X.env.locals::X.fs:=fun b hb=>by
 rcases I.ok.stk with e | ⟨e,hf⟩
 ·rw [e] at hb;exact gY _ hb
 ·rw [e] at hb
  unfold frs at hb
  rw [Ed,hf] at hb
  exact hb
theorem Inv.wR (I:Inv X pins σ H s):∀ b∈frs X.stack,H b=none:=fun b hb=>by
 rcases cA.mp (I.vO b hb) with e | hb
 ·rw [e];exact I.free
 ·obtain ⟨_,o,ho,_⟩:=I.ok.yX.mem hb
  exact I.base.free b o ho (I.ok.frf b hb) fun z=>I.ok.abF b z hb
theorem Inv.step {g':Array GenState} {t':Nat} {d':Drawn} {ch:List Addr} (I:Inv X pins σ H s)
  (hch:∀ b∈ch,(b∈X.ex\/X.s₀.heap.objs.size<=b)/\b≠X.env.locals/\(∀ x c,X.env.cells.lookup x=some c->c≠b)/\∀ p∈X.pn++pins,p.1≠b)
  (keep:∀ b o,b≠X.env.locals->b∉X.fs->b∉ch->s.heap.get? b=some o->H b=none->h'.get? b=some o)
  (slot:∀ b o,b≠X.env.locals->b∈X.fs->b∉ch->s.heap.get? b=some o->H b=none->∃ sl,h'.get? b=some { o with slots:=sl }) (free:∀ b o,b∉ch->s.heap.get? b=some o->H b=none->H' b=none)
  (there:∀ b o,b∉ch->s.heap.get? b=some o->∃ o',h'.get? b=some o')
  (tups:∀ b xs,H b=some (.tup xs)->H' b=some (.tup xs)) (uZ:∀ b o u,H b=some (.frz o u)->H' b=some (.frz o u)) (yW:∀ b ps,H b=some (.tbl ps)->∃ more,H' b=some (.tbl (ps++more)))
  (ns:∀ m,s.heap.Ns X.env.locals m->h'.Ns X.env.locals m) (hok:HOk X.prog X.w H' h') (hg:rF g') :
  Inv X pins σ H' { s with heap:=h',gens:=g',drawn:=d',toks:=t' }:=by
 have neL:∀ b o,X.s₀.heap.get? b=some o->b≠X.env.locals:=fun b o e=>cW (fW (bR e) I.ok.above)
 have neC:∀ b o,X.s₀.heap.get? b=some o->b∉X.ex->b∉ch:=fun b o e hx hb=>by
  rcases (hch b hb).1 with z | z
  ·exact hx z
  ·exact absurd (fW (bR e) z) (rZ _)
 have cellK:∀ x c,X.env.cells.lookup x=some c->∀ v,s.heap.IsCell c v->h'.IsCell c v:=fun x c e v ⟨o,ho,hd⟩=>by
  have nch:c∉ch:=fun z=>(hch c z).2.2.1 x c e rfl
  by_cases hc:c∈X.fs
  ·obtain ⟨sl,q⟩:=slot c o (I.cne x c e) hc nch ho (I.pU x c e)
   exact ⟨_,q,hd⟩
  ·exact ⟨o,keep c o (I.cne x c e) hc nch ho (I.pU x c e),hd⟩
 refine ⟨I.ok,I.os,hg,⟨fun b o e n hb hx=>?_,fun b o e n hb hx=>?_,fun b o e n hx=>?_,fun b o e hx=>?_,fun b xs e=>tups b xs (I.base.tups b xs e),fun b o xs e=>uZ b o xs (I.base.uZ b o xs e),fun b ps e=>?_⟩,?_,fun x c e=>?_,?_,fun x c e=>?_,fun p hp=>?_,hok,I.len⟩
 ·exact keep b o (neL b o e) hb (neC b o e hx) (I.base.keep b o e n hb hx) (I.base.free b o e n hx)
 ·obtain ⟨sl,e1⟩:=I.base.slot b o e n hb hx
  obtain ⟨sl',e2⟩:=slot b _ (neL b o e) hb (neC b o e hx) e1 (I.base.free b o e n hx)
  exact ⟨sl',e2⟩
 ·obtain ⟨o',e1⟩:=I.base.there b o e hx
  exact free b o' (neC b o e hx) e1 (I.base.free b o e n hx)
 ·obtain ⟨o',e1⟩:=I.base.there b o e hx
  exact there b o' (neC b o e hx) e1
 ·obtain ⟨m1,e1⟩:=I.base.yW b ps e
  obtain ⟨m2,e2⟩:=yW b _ e1
  exact ⟨m1++m2,by rw [e2,Array.append_assoc]⟩
 ·obtain ⟨m,hn,hl⟩:=I.loc
  refine ⟨m,ns m hn,fun i x v e1 e2 e3=>?_⟩
  obtain ⟨u,r,l⟩:=hl i x v e1 e2 e3
  refine ⟨u,r,?_⟩
  rcases l with l | ⟨k,c,e,z⟩
  ·exact .inl l
  ·exact .inr ⟨k,c,e,cellK x c e _ z⟩
 ·obtain ⟨v,z⟩:=I.cell x c e
  exact ⟨v,cellK x c e v z⟩
 ·obtain ⟨m,⟨o,_,_,ho,_⟩,_⟩:=I.loc
  exact free _ o (fun z=>(hch _ z).2.1 rfl) ho I.free
 ·obtain ⟨v,o,ho,hd⟩:=I.cell x c e
  exact free c o (fun z=>(hch c z).2.2.1 x c e rfl) ho (I.pU x c e)
 ·obtain ⟨e,n,ne,nf,d⟩:=I.pin p hp
  have nch:p.1∉ch:=fun z=>(hch p.1 z).2.2.2 p hp rfl
  exact ⟨keep p.1 p.2 ne nf nch e n,free p.1 p.2 nch e n,ne,nf,d⟩
theorem Inv.un {t':Nat} (I:Inv X pins σ H s) (u:Un X.fs [] H H' s.heap h') (hok:HOk X.prog X.w H' h'):Inv X pins σ H' { s with heap:=h',toks:=t' }:=by
 obtain ⟨m,⟨o,es,ep,ho,r⟩,_⟩:=id I.loc
 obtain ⟨sl,hL⟩:=u.any ho I.free (by simp)
 exact I.step (g':=s.gens) (d':=s.drawn) (ch:=[]) (fun _ z=>nomatch z) (fun b o _ hb _ e n=>u.keep b o e n hb (by simp)) (fun b o _ hb _ e n=>u.slot b o e n hb (by simp)) (fun b o _ e n=>u.free b o e n (by simp)) (fun b o _ e=>u.there b o e (by simp)) u.tups u.uZ u.yW (fun m' hm=>by
  obtain ⟨o',es',ep',ho',r'⟩:=hm
  rw [ho] at ho';cases ho'
  exact ⟨_,es',ep',hL,r'⟩) hok I.bare
theorem Inv.call {g':Array GenState} {t':Nat} {d':Drawn} {ch:List Addr} (I:Inv X pins σ H s) (u:Un (frs X.stack) ch H H' s.heap h') (hok:HOk X.prog X.w H' h') (hg:rF g')
  (hch:∀ b∈ch,(b∈X.ex\/X.s₀.heap.objs.size<=b)/\b≠X.env.locals/\(∀ x c,X.env.cells.lookup x=some c->c≠b)/\∀ p∈X.pn++pins,p.1≠b) :
  Inv X pins σ H' { s with heap:=h',gens:=g',drawn:=d',toks:=t' }:=by
 obtain ⟨m,⟨o,es,ep,ho,r⟩,_⟩:=id I.loc
 obtain ⟨sl,hL⟩:=u.any ho I.free fun z=>(hch _ z).2.1 rfl
 exact I.step (ch:=ch) hch (fun b o hL hb hc e n=>u.keep b o e n (fun z=>(cA.mp (I.vO b z)).elim hL hb) hc) (fun b o _ _ hc e n=>u.any e n hc) (fun b o hc e n=>u.free b o e n hc) (fun b o hc e=>u.there b o e hc) u.tups u.uZ u.yW (fun m' hm=>by
  obtain ⟨o',es',ep',ho',r'⟩:=hm
  rw [ho] at ho';cases ho'
  exact ⟨_,es',ep',hL,r'⟩) hok hg
theorem Inv.turned {t':Nat} {it:Addr} (I:Inv X pins σ H s) (k:∀ b o,b≠it->s.heap.get? b=some o->h'.get? b=some o) (hn:H it=none) (hL:it≠X.env.locals)
  (h1:it∈X.ex\/X.s₀.heap.objs.size<=it) (h2:∀ x c,X.env.cells.lookup x=some c->c≠it) (h3:∀ p∈X.pn++pins,p.1≠it):Inv X pins σ H { s with heap:=h',toks:=t' }:=by
 have nit:∀ b u,H b=some u->b≠it:=fun b u e z=>by rw [z,hn] at e;cases e
 refine I.step (g':=s.gens) (d':=s.drawn) (ch:=[it]) (fun b hb=>?_) (fun b o _ _ hc e _=>k b o (fun z=>hc (by simp [z])) e) (fun b o _ _ hc e _=>⟨o.slots,k b o (fun z=>hc (by simp [z])) e⟩) (fun _ _ _ _ n=>n)
  (fun b o hc e=>⟨o,k b o (fun z=>hc (by simp [z])) e⟩) (fun _ _ e=>e) (fun _ _ _ e=>e) (fun b ps e=>⟨#[],by rw [e];simp⟩) (fun m hm=>?_) (fun b u e=>?_) I.bare
 ·have e:b=it:=by simpa using hb
  subst e
  exact ⟨h1,hL,h2,h3⟩
 ·obtain ⟨o,es,ep,ho,r⟩:=hm
  exact ⟨o,es,ep,k _ o (aP hL) ho,r⟩
 ·refine (I.hok b u e).stay (fun c v hc q=>k c v ?_ q) (fun _ q=>q) fun _ _ q=>q
  rcases hc with z | z
  ·rw [z];exact nit b u e
  ·exact nit c _ z
theorem Inv.tok (I:Inv X pins σ H s) (t:Nat):Inv X pins σ H { s with toks:=t }:=I.un (h':=s.heap) (t':=t) Un.refl I.hok
theorem Inv.kept {t':Nat} (I:Inv X pins σ H s) (k:∀ b u,s.heap.get? b=some u->h'.get? b=some u):Inv X pins σ H { s with heap:=h',toks:=t' }:=I.un (Un.kept k) (I.hok.kept k)
theorem Inv.laid {a:Addr} {o:HO} {t':Nat} (I:Inv X pins σ H s) (k:∀ b u,s.heap.get? b=some u->h'.get? b=some u) (hp:s.heap.objs.size<=a) (new:dO X.prog X.w (upd H a o) h' a o) :
  Inv X pins σ (upd H a o) { s with heap:=h',toks:=t' }:=I.un (Un.laid k hp (I.hok.fresh hp)) (I.hok.laid k hp new)
theorem Inv.write {x e:Addr} {o:HO} {t':Nat} (I:Inv X pins σ H s) (mu:Mut (H x)) (he:e=x\/H e=some (.own x)) (k:∀ b u,b≠e->s.heap.get? b=some u->h'.get? b=some u) (heo:∃ u,h'.get? e=some u)
  (new:dO X.prog X.w (upd H x o) h' x o):Inv X pins σ (upd H x o) { s with heap:=h',toks:=t' }:=I.un (Un.write mu he k heo) (I.hok.write mu he k heo new)
theorem Inv.aaw {aax:List (Addr × Obj)} (I:Inv X pins σ H s) (h:∀ p∈aax,s.heap.get? p.1=some p.2/\H p.1=none/\p.1≠X.env.locals/\p.1∉X.fs/\∀ v,p.2.data ≠ .cell v):Inv X aax σ H s :=
 ⟨I.ok,I.os,I.bare,I.base,I.loc,I.cell,I.free,I.pU,fun p hp=>(gw.mp hp).elim (fun z=>I.pin p (Ux _ z)) (h p),I.hok,I.len⟩
theorem HS {N:List Str} (hN:N.Nodup) {i j:Nat} {x:Str} (a:N[i]? = some x) (b:N[j]? = some x):i=j:=by
 obtain ⟨h1,e1⟩:=jK.mp a
 obtain ⟨h2,e2⟩:=jK.mp b
 exact (List.getElem_inj hN).mp (e1.trans e2.symm)
theorem CQ {M:Model} {A:bJ} {E:Value->Shared->Prop} {i:Nat} {x:Str} {v:V} {u:Value} {Q:Unit->Shared->Prop} (I:Inv X pins σ H s) (hN:X.N.Nodup) (hi:X.N[i]? = some x) (hx:Loc X.env.scope x) (r:RelV v u)
  (h:∀ s',Inv X pins (σ.set i (some v)) H s'->(∃ a,Hh a s.heap s'.heap/\(a=X.env.locals\/X.env.cells.lookup x=some a))->Q () s') (hf:X.fn x=true\/X.env.scope.names.lookup x=some .local:=by first | exact .inl rfl | exact .inr rfl | assumption):wpAny M A (storeName X.env x u) Q E s:=by
 obtain ⟨m,hn,hl⟩:=id I.loc
 have hcls:(X.env.scope.kind == .class || (X.env.scope.kind == .module && X.env.locals != X.env.globals))=false:=by rw [I.ok.kind];rfl
 have hiσ:i<σ.length:=by rw [I.len];exact (jK.mp hi).1
 have cne:=I.cne
 have tracked:∀ {a:Addr} {h':Heap},(∃ o,s.heap.get? a=some o/\H a=none)->Hh a s.heap h'->HOk X.prog X.w H h':=fun {a h'} ha hs b ob e=>by
  obtain ⟨_,_,hfree⟩:=ha
  refine (I.hok b ob e).stay (fun c w' hc q=>(hs.2 c ?_).trans q) (fun _ q=>q) fun _ _ q=>q
  rintro rfl
  rcases hc with rfl | hc
  ·rw [hfree] at e;cases e
  ·rw [hfree] at hc;cases hc
 rcases hx with hk | hk
 ·refine wpAny_storeName_local hk hn (fun h' hn' hs=>?_) hcls
  obtain ⟨oL,_,_,hoL,_⟩:=id hn
  refine h _ ⟨I.ok,I.os,I.bare,⟨fun b o e n hb hx=>?_,fun b o e n hb hx=>?_,I.base.free,fun b o e hx=>?_,I.base.tups,I.base.uZ,I.base.yW⟩,⟨_,hn',fun j y v' e1 e2 e3=>?_⟩,fun y c e=>?_,I.free,I.pU,fun p hp=>?_,tracked ⟨oL,hoL,I.free⟩ hs,by simpa using I.len⟩ ⟨_,hs,.inl rfl⟩
  ·exact (hs.2 b (cW (fW (bR e) I.ok.above))).trans (I.base.keep b o e n hb hx)
  ·obtain ⟨sl,e1⟩:=I.base.slot b o e n hb hx
   exact ⟨sl,(hs.2 b (cW (fW (bR e) I.ok.above))).trans e1⟩
  ·obtain ⟨o',e1⟩:=I.base.there b o e hx
   exact ⟨o',(hs.2 b (cW (fW (bR e) I.ok.above))).trans e1⟩
  ·by_cases hj:j=i
   ·subst hj
    rw [hi] at e1;cases e1
    rw [Gk hiσ] at e2
    cases e2
    exact ⟨u,r,.inl ⟨hk,by simp⟩⟩
   ·rw [yj (aP hj)] at e2
    obtain ⟨u',r',q⟩:=hl j y v' e1 e2 e3
    refine ⟨u',r',?_⟩
    rcases q with ⟨k,e⟩ | ⟨k,c,e,z⟩
    ·refine .inl ⟨k,?_⟩
     have:y≠x:=fun e=>hj (HS hN e1 (e ▸ hi))
     simp [this,e]
    ·exact .inr ⟨k,c,e,z.sameBut hs (cne y c e)⟩
  ·obtain ⟨w',z⟩:=I.cell y c e
   exact ⟨w',z.sameBut hs (cne y c e)⟩
  ·obtain ⟨e,n,ne,nf,d⟩:=I.pin p hp
   exact ⟨(hs.2 p.1 ne).trans e,n,ne,nf,d⟩
 ·have hfn:X.fn x=true:=by
   rcases hf with z | z
   ·exact z
   ·rw [z] at hk;cases hk
  obtain ⟨c,hc⟩:=I.ok.has x (.inl hk)
  obtain ⟨w',z⟩:=I.cell x c hc
  refine wpAny_storeName_cell I.ok.kind hk hc z (fun h' hc' hs=>?_)
  obtain ⟨oc,hoc,hocd⟩:=id z
  refine h { s with heap:=h' } ⟨I.ok,I.os,I.bare,⟨fun b o e n hb hx=>?_,fun b o e n hb hx=>?_,I.base.free,fun b o e hx=>?_,I.base.tups,I.base.uZ,I.base.yW⟩,⟨m,hn.sameBut hs (aP (cne x c hc)),fun j y v' e1 e2 e3=>?_⟩,fun y c' e=>?_,I.free,I.pU,fun p hp=>?_,tracked ⟨oc,hoc,I.pU x c hc⟩ hs,by simpa using I.len⟩ ⟨c,hs,.inr hc⟩
  ·exact (hs.2 b (cW (fW (bR e) (I.ok.cab x c hfn hc)))).trans (I.base.keep b o e n hb hx)
  ·obtain ⟨sl,e1⟩:=I.base.slot b o e n hb hx
   exact ⟨sl,(hs.2 b (cW (fW (bR e) (I.ok.cab x c hfn hc)))).trans e1⟩
  ·obtain ⟨o',e1⟩:=I.base.there b o e hx
   exact ⟨o',(hs.2 b (cW (fW (bR e) (I.ok.cab x c hfn hc)))).trans e1⟩
  ·by_cases hj:j=i
   ·subst hj
    rw [hi] at e1;cases e1
    rw [Gk hiσ] at e2
    cases e2
    exact ⟨u,r,.inr ⟨.inl hk,c,hc,hc'⟩⟩
   ·rw [yj (aP hj)] at e2
    obtain ⟨u',r',q⟩:=hl j y v' e1 e2 e3
    refine ⟨u',r',?_⟩
    rcases q with q | ⟨k,c',e,z'⟩
    ·exact .inl q
    ·refine .inr ⟨k,c',e,z'.sameBut hs ?_⟩
     rintro rfl
     exact hj (HS hN e1 (I.ok.inj _ _ _ e hc ▸ hi))
  ·by_cases hcc:c'=c
   ·subst hcc;exact ⟨_,hc'⟩
   ·obtain ⟨w2,z2⟩:=I.cell y c' e
    exact ⟨w2,z2.sameBut hs hcc⟩
  ·obtain ⟨e,n,ne,nf,d⟩:=I.pin p hp
   refine ⟨(hs.2 p.1 ?_).trans e,n,ne,nf,d⟩
   intro q
   rw [q,hoc] at e
   have q':oc=p.2:=cX e
   exact d w' (by rw [<- q'];exact hocd)
theorem vP {M:Model} {A:bJ} {E:Value->Shared->Prop} {i:Nat} {x:Str} {v:V} {u:Value} {Q:Unit->Shared->Prop} (I:Inv X pins σ H s) (hN:X.N.Nodup) (hi:X.N[i]? = some x) (hx:Loc X.env.scope x) (r:RelV v u)
  (h:∀ s',Inv X pins (σ.set i (some v)) H s'->Q () s') (hf:X.fn x=true\/X.env.scope.names.lookup x=some .local:=by first | exact .inl rfl | exact .inr rfl | assumption):wpAny M A (storeName X.env x u) Q E s :=
 CQ I hN hi hx r (fun s' I' _=>h s' I') hf
theorem Inv.call' {s':Shared} {ch:List Addr} (I:Inv X pins σ H s) (ho:s'.os=s.os) (u:Un (frs X.stack) ch H H' s.heap s'.heap) (hok:HOk X.prog X.w H' s'.heap) (hg:rF s'.gens)
  (hch:∀ b∈ch,(b∈X.ex\/X.s₀.heap.objs.size<=b)/\b≠X.env.locals/\(∀ x c,X.env.cells.lookup x=some c->c≠b)/\∀ p∈X.pn++pins,p.1≠b):Inv X pins σ H' s':=by
 obtain ⟨h',g',d',t',o'⟩:=s'
 have e:o'=s.os:=ho
 subst e
 exact I.call (g':=g') (t':=t') (d':=d') u hok hg hch
end
noncomputable abbrev XK:=Value->Option Addr->Hp->Prop
noncomputable abbrev St:=List (Option V)
noncomputable abbrev VK:=V->Hp->Prop
noncomputable abbrev TE:=St->Hp->VK->Prop
noncomputable abbrev TT:=St->Hp->(Bool->Hp->Prop)->Prop
noncomputable abbrev TA:=St->Hp->(List V->Hp->Prop)->Prop
structure Ends where
 nx:St->Hp->Prop
 rt:VK
 bk:St->Hp->Prop:=fun _ _=>False
 ct:St->Hp->Prop:=fun _ _=>False
noncomputable abbrev TS:=Ends->St->Hp->Prop
noncomputable def EP (X:Cx) (pins:List (Addr × Obj)) (σ:St) (Q:VK) (u:Value) (s':Shared):Prop:=∃ v H',Inv X pins σ H' s'/\RelV v u/\Q v H'
noncomputable def TP (X:Cx) (pins:List (Addr × Obj)) (σ:St) (Q:Bool->Hp->Prop) (b:Bool) (s':Shared):Prop:=∃ H',Inv X pins σ H' s'/\Q b H'
noncomputable def AP (X:Cx) (pins:List (Addr × Obj)) (σ:St) (Q:List V->Hp->Prop) (us:List Value) (s':Shared):Prop:=∃ vs H',Inv X pins σ H' s'/\Vals vs us/\Q vs H'
noncomputable def SP (X:Cx) (pins:List (Addr × Obj)) (D:Ends) (f:Flow) (s':Shared):Prop :=
 match f with
 | .next=>∃ σ' H',Inv X pins σ' H' s'/\D.nx σ' H'
 | .brk=>∃ σ' H',Inv X pins σ' H' s'/\D.bk σ' H'
 | .cont=>∃ σ' H',Inv X pins σ' H' s'/\D.ct σ' H'
 | .ret u=>∃ v σ' H',Inv X pins σ' H' s'/\RelV v u/\D.rt v H'
noncomputable def PE (X:Cx) (e:Expr) (t:TE):Prop :=
 ∀ (pins:List (Addr × Obj)) (s:Shared) (σ:St) (H:Hp) (Q:VK),Inv X pins σ H s->t σ H Q->wpAny (model X.prog X.w) X.A (eval e X.env) (EP X pins σ Q) X.xe s
noncomputable def PT (X:Cx) (e:Expr) (t:TT):Prop :=
 ∀ (pins:List (Addr × Obj)) (s:Shared) (σ:St) (H:Hp) (Q:Bool->Hp->Prop),Inv X pins σ H s->t σ H Q->wpAny (model X.prog X.w) X.A (Hg e X.env (eval e X.env)) (TP X pins σ Q) X.xe s
noncomputable def PW (X:Cx) (e:Expr) (t:TT):Prop :=
 ∀ (whole:Sem Value) (pins:List (Addr × Obj)) (s:Shared) (σ:St) (H:Hp) (Q:Bool->Hp->Prop),Inv X pins σ H s->t σ H Q->wpAny (model X.prog X.w) X.A (Hg e X.env whole) (TP X pins σ Q) X.xe s
theorem PW.pt {X:Cx} {e:Expr} {t:TT} (h:PW X e t):PT X e t:=h _
noncomputable def PA (X:Cx) (es:List Expr) (t:TA):Prop :=
 ∀ (pos:Pos) (pins:List (Addr × Obj)) (s:Shared) (σ:St) (H:Hp) (Q:List V->Hp->Prop),Inv X pins σ H s->t σ H Q->wpAny (model X.prog X.w) X.A (spliced (iD pos (dH es X.env))) (AP X pins σ Q) X.xe s
noncomputable def PS (X:Cx) (st:Stmt) (t:TS):Prop :=
 ∀ (pins:List (Addr × Obj)) (s:Shared) (σ:St) (H:Hp) (D:Ends),Inv X pins σ H s->t D σ H->wpAny (model X.prog X.w) X.A (exec st X.env) (SP X pins D) X.xe s
noncomputable def PSs (X:Cx) (st:List Stmt) (t:TS):Prop :=
 ∀ (pins:List (Addr × Obj)) (s:Shared) (σ:St) (H:Hp) (D:Ends),Inv X pins σ H s->t D σ H->wpAny (model X.prog X.w) X.A (execs st X.env) (SP X pins D) X.xe s
theorem thn {α:Type} {t:Sem α} {Q Q':α->Shared->Prop} {M:Model} {A:bJ} {E:Value->Shared->Prop} {s:Shared} (h:wpAny M A t Q E s) (hQ:∀ a s,Q a s->Q' a s):wpAny M A t Q' E s:=dW h hQ fun _ _ x=>x
end L2
namespace L2
open PySem PySem.Spec PyProof.Rows
section
variable {X:Cx}
@[reducible] noncomputable def tVar (i:Nat):TE:=fun σ H Q=>∃ v,σ[i]? = some (some v)/\Q v H
@[reducible] noncomputable def tC (v:V):TE:=fun _ H Q=>Q v H
theorem ak5 {i:Nat} {x:Str} {pos:Pos} (hN:X.N[i]? = some x) (hv:Vis X.env.scope x) (hd:(x == ("__debug__" : Str))=false:=by decide) (hcd:(x == ("__classdict__" : Str))=false:=by decide):PE X (.Name x pos) (tVar i):=by
 walk_at "n"
 obtain ⟨v,e,h⟩:=h
 obtain ⟨m,hn,hl⟩:=I.loc
 obtain ⟨u,r,l⟩:=hl i x v hN e hv
 have fin:EP X pins σ Q u s:=⟨v,H,I,r,h⟩
 rcases l with ⟨hk,hm⟩ | ⟨hk,c,hc,hcell⟩
 ·exact VF (wpAny_loadName_local I.ok.kind hk hn hm fin) hd
 ·rcases hk with hk | hk
  ·exact VF (wpAny_loadName_cell I.ok.kind hk hc hcell fin) hd
  ·exact VF (wpAny_loadName_free I.ok.kind hk hc hcell fin hcd) hd
theorem au {i j pos}:PE X (.Constant (.int i) j pos) (tC (.int i)):=fun _ _ _ H _ I h=>wpAny_Constant_int ⟨.int i,H,I.tok _,⟨_,rfl⟩,h⟩
theorem ji {b j pos}:PE X (.Constant (.bool b) j pos) (tC (.bl b)):=fun _ _ _ H _ I h=>aec ⟨.bl b,H,I,rfl,h⟩
theorem nY {j pos}:PE X (.Constant .none j pos) (tC .non):=fun _ _ _ H _ I h=>Wa ⟨.non,H,I,rfl,h⟩
theorem O8 {x j pos}:PE X (.Constant (.str x) j pos) (tC (.str x)):=fun _ _ _ H _ I h=>Calls.Constant_str ⟨.str x,H,I.tok _,⟨_,rfl⟩,h⟩
noncomputable def Gl (X:Cx) (x:Str):Prop:=X.env.kindOf x=some .globalImplicit
theorem tZ {E:Value->Shared->Prop} {pins:List (Addr × Obj)} {s:Shared} {σ:St} {H:Hp} {x:Str} {u:Value} {pos:Pos} {Q:Value->Shared->Prop} (I:Inv X pins σ H s) (hg:Gl X x) (hm:X.mg x=some u) (h:Q u s)
  (hd:(x == ("__debug__" : Str))=false:=by decide):wpAny (model X.prog X.w) X.A (eval (.Name x pos) X.env) Q E s :=
 aeI I.ok.kind hg (Calls.loadGlobal_global (by rw [I.ok.glob];exact I.mod.glob.keeps I.bk) hm h) hd
theorem pW {E:Value->Shared->Prop} {pins:List (Addr × Obj)} {s:Shared} {σ:St} {H:Hp} {x:Str} {u:Value} {pos:Pos} {Q:Value->Shared->Prop} (I:Inv X pins σ H s) (hg:Gl X x) (hm:X.mg x=none) (hv:Ca x=some u) (h:Q u s)
  (hn:x ≠ "__name__" := by decide) (hd:(x == ("__debug__" : Str))=false:=by decide):wpAny (model X.prog X.w) X.A (eval (.Name x pos) X.env) Q E s:=by
 obtain ⟨mb,h1,h2⟩:=I.mod.blt
 exact aeI I.ok.kind hg (Calls.loadGlobal_builtin (by rw [I.ok.glob];exact I.mod.glob.keeps I.bk) hm (by rw [I.ok.blt];exact h1.keeps I.bk) ((h2 x hn).trans hv) h) hd
theorem qR {x:Str} {v:V} {u:Value} {pos:Pos} (hg:Gl X x) (hm:X.mg x=some u) (r:RelV v u) (hd:(x == ("__debug__" : Str))=false:=by decide):PE X (.Name x pos) (tC v) :=
 fun _ _ _ H _ I h=>tZ I hg hm ⟨v,H,I,r,h⟩ hd
theorem ahN {x:Str} {v:V} {u:Value} {pos:Pos} (hg:Gl X x) (hm:X.mg x=none) (hv:Ca x=some u) (r:RelV v u) (hn:x ≠ "__name__" := by decide) (hd:(x == ("__debug__" : Str))=false:=by decide):PE X (.Name x pos) (tC v) :=
 fun _ _ _ H _ I h=>pW I hg hm hv ⟨v,H,I,r,h⟩ hn hd
variable {a b:Expr} {ta tb:TE} {pos:Pos}
@[reducible] noncomputable def tB (t:TE):TT:=fun σ H Q=>t σ H fun x H1=>∃ c,x = .bl c/\Q c H1
theorem HW {e:Expr} {t:TE} (h:PE X e t) (he:∀ whole,Hg e X.env whole=(do let v <- whole;Nk e.pos;Ci [v] (truthy v)):=by intro _;rfl):PT X e (tB t):=by
 intro pins s σ H Q I hw
 refine isTrue_plain (thn (h pins s σ H _ I hw) fun v s1 ⟨x,H1,I1,r1,q1⟩=>?_) (he _)
 obtain ⟨d,rfl,q⟩:=q1
 cases r1
 exact Gz ⟨H1,I1,q⟩
variable {tA tB':TT} {rest:List Expr}
@[reducible] noncomputable def tAnd (t u:TT):TT:=fun σ H Q=>t σ H fun c H1=>if c=true then u σ H1 Q else Q false H1
@[reducible] noncomputable def tOr (t u:TT):TT:=fun σ H Q=>t σ H fun c H1=>if c=true then Q true H1 else u σ H1 Q
@[reducible] noncomputable def tNot (t:TT):TT:=fun σ H Q=>t σ H fun c H1=>Q (!c) H1
theorem pw_and1 (ha:PT X a tA):PW X (.BoolOp .And [a] pos) tA:=by
 intro wh pins s σ H Q I h
 refine isTrue_and (thn (ha pins s σ H Q I h) fun c s1 e=>?_)
 cases c with
 | true=>exact isTrue_and_nil e
 | false=>exact e
theorem pw_or1 (ha:PT X a tA):PW X (.BoolOp .Or [a] pos) tA:=by
 intro wh pins s σ H Q I h
 refine isTrue_or (thn (ha pins s σ H Q I h) fun c s1 e=>?_)
 cases c with
 | false=>exact isTrue_or_nil e
 | true=>exact e
theorem pw_and (ha:PT X a tA) (hb:PW X (.BoolOp .And (b::rest) pos) tB'):PW X (.BoolOp .And (a::b::rest) pos) (tAnd tA tB'):=by
 intro wh pins s σ H Q I h
 refine isTrue_and (thn (ha pins s σ H _ I h) fun c s1 ⟨H1,I1,q1⟩=>?_)
 cases c with
 | true=>exact hb wh pins s1 σ H1 Q I1 q1
 | false=>exact ⟨H1,I1,q1⟩
theorem pw_or (ha:PT X a tA) (hb:PW X (.BoolOp .Or (b::rest) pos) tB'):PW X (.BoolOp .Or (a::b::rest) pos) (tOr tA tB'):=by
 intro wh pins s σ H Q I h
 refine isTrue_or (thn (ha pins s σ H _ I h) fun c s1 ⟨H1,I1,q1⟩=>?_)
 cases c with
 | true=>exact ⟨H1,I1,q1⟩
 | false=>exact hb wh pins s1 σ H1 Q I1 q1
theorem afn (ha:PT X a tA):PT X (.UnaryOp .Not a pos) (tNot tA):=by
 walk_at "n"
 exact isTrue_not (ha pins s σ H (fun c H1=>Q (!c) H1) I h)
@[reducible] noncomputable def tOrV (ta tb:TE):TE:=fun σ H Q=>ta σ H fun x H1=>∃ c,x = .bl c/\if c=true then Q (.bl true) H1 else tb σ H1 Q
theorem afo {op} {t:TE} (h:PE X a t):PE X (.BoolOp op [a] pos) t:=fun pins s σ H Q I hw=>BoolOp_one (h pins s σ H Q I hw)
theorem aji (ha:PE X a ta) (hb:PE X (.BoolOp .Or (b::rest) pos) tb):PE X (.BoolOp .Or (a::b::rest) pos) (tOrV ta tb):=by
 walk_at "n"
 refine BoolOp_or (thn (ha pins s σ H _ I h) fun v s1 ⟨x,H1,I1,r1,q1⟩=>?_)
 obtain ⟨c,rfl,q1⟩:=q1
 cases r1
 refine Gz ?_
 cases c with
 | false=>exact hb pins s1 σ H1 Q I1 q1
 | true=>exact ⟨.bl true,H1,I1,rfl,q1⟩
noncomputable def tIf (t:TT) (ta tb:TE):TE:=fun σ H Q=>t σ H fun c H1=>if c=true then ta σ H1 Q else tb σ H1 Q
theorem afp {c:Expr} (hc:PT X c tA) (ha:PE X a ta) (hb:PE X b tb):PE X (.IfExp c a b pos) (tIf tA ta tb):=by
 walk_at "n"
 refine wpAny_IfExp (thn (hc pins s σ H _ I h) fun d s1 ⟨H1,I1,q1⟩=>?_)
 cases d with
 | true=>exact ha pins s1 σ H1 Q I1 q1
 | false=>exact hb pins s1 σ H1 Q I1 q1
end
end L2
namespace L2
open PySem PySem.Spec PyProof.Rows
noncomputable def SqL (K:aW) (H:Hp) (a:Addr) (xs:List V):Prop :=
 Rd H a (.lst xs) \/
  ∃ (o:Obj) (its:Array Value) (n:Nat),K.lookup a=some o/\o.cls = .type "list" /\ o.dict=none/\o.data = .seq its n/\its.size<=sizeLine/\Vals xs its.toList
noncomputable def SqT (K:aW) (H:Hp) (a:Addr) (xs:List V):Prop :=
 Rd H a (.tup xs) \/
  ∃ (o:Obj) (its:Array Value) (n:Nat),K.lookup a=some o/\o.cls = .type "tuple" /\ o.data = .seq its n/\its.size<=sizeLine/\Vals xs its.toList
noncomputable def absV:Value->Option V
 | .none=>some .non
 | .bool b=>some (.bl b)
 | .int i _=>some (.int i)
 | .str x _=>some (.str x)
 | .bytes b _=>some (.byt b)
 | .float b _=>some (.flt b)
 | .ref a=>some (.ref a)
 | .type n=>some (.ty n)
 | _=>none
theorem RelV.abs {x:V} {u:Value} (r:RelV x u):absV u=some x:=by
 cases x with
 | non=>cases r;rfl
 | bl _=>cases r;rfl
 | int _=>obtain ⟨t,rfl⟩:=r;rfl
 | str _=>obtain ⟨t,rfl⟩:=r;rfl
 | byt _=>obtain ⟨t,rfl⟩:=r;rfl
 | flt _=>obtain ⟨t,rfl⟩:=r;rfl
 | ref _=>cases r;rfl
 | ty _=>cases r;rfl
theorem RelV.inj {x y:V} {u:Value} (r:RelV x u) (q:RelV y u):x=y:=cX (r.abs.symm.trans q.abs)
theorem Vals.inj:∀ {xs ys:List V} {us:List Value},Vals xs us->Vals ys us->xs=ys
 | _,_,_,.nil,.nil=>rfl
 | _,_,_,.cons r t,.cons r' t'=>by rw [r.inj r',Vals.inj t t']
section
variable {X:Cx} {pins:List (Addr × Obj)} {σ:St} {H:Hp} {s:Shared} {a:Addr} {xs ys:List V}
theorem Inv.list (I:Inv X pins σ H s) (h:SqL X.K H a xs):∃ its:List Value,Vals xs its/\PlainL s.heap a its.toArray/\xs.length<=sizeLine:=by
 rcases h with h | ⟨o,its,n,hk,hc,hd,hs,hz,r⟩
 ·obtain ⟨z,its,n,r,e⟩:=h.ok I.hok
  exact ⟨its,r,⟨_,n,e,rfl,rfl,rfl⟩,z⟩
 ·refine ⟨its.toList,r,⟨o,n,I.kIn a o hk,hc,hd,by simpa using hs⟩,?_⟩
  have e:=r.length
  simp only [gU] at e
  lia
theorem Inv.tuple (I:Inv X pins σ H s) (h:SqT X.K H a xs):∃ its:List Value,Vals xs its/\IsTup s.heap a its.toArray/\xs.length<=sizeLine:=by
 rcases h with h | ⟨o,its,n,hk,hc,hs,hz,r⟩
 ·obtain ⟨z,its,r,p⟩:=h.ok I.hok
  exact ⟨its,r,p,z⟩
 ·refine ⟨its.toList,r,⟨o,I.kIn a o hk,hc,n,by simpa using hs⟩,?_⟩
  have e:=r.length
  simp only [gU] at e
  lia
theorem Inv.RW (I:Inv X pins σ H s) (h:SqL X.K H a xs) (h':SqL X.K H a ys):xs=ys:=by
 obtain ⟨its,r,⟨o,n,e,_,_,d⟩,_⟩:=I.list h
 obtain ⟨its',r',⟨o',n',e',_,_,d'⟩,_⟩:=I.list h'
 rw [e] at e';cases e'
 rw [d] at d'
 injection d' with d1 _
 have:its=its':=by simpa using congrArg aem d1
 subst this
 exact r.inj r'
theorem Inv.abG (I:Inv X pins σ H s) (h:SqT X.K H a xs) (h':SqT X.K H a ys):xs=ys:=by
 obtain ⟨its,r,⟨o,e,_,n,d⟩,_⟩:=I.tuple h
 obtain ⟨its',r',⟨o',e',_,n',d'⟩,_⟩:=I.tuple h'
 rw [e] at e';cases e'
 rw [d] at d'
 injection d' with d1 _
 have:its=its':=by simpa using congrArg aem d1
 subst this
 exact r.inj r'
end
noncomputable abbrev Cx.wish (X:Cx) (E:Value->Shared->Prop):Cx:={ X with xe:=E }
noncomputable abbrev Cx.nox (X:Cx):Cx:=X.wish fun _ _=>False
theorem Cx.Ok.wish {X:Cx} (ok:X.Ok) (E:Value->Shared->Prop):(X.wish E).Ok :=
 ⟨ok.mod,ok.kind,ok.glob,ok.blt,ok.above,ok.inj,ok.has,ok.cab,ok.hd,ok.frames,ok.stk,ok.exf,ok.bs,ok.bsz,ok.RV,ok.abF,ok.yX,ok.frf⟩
theorem Cx.Ok.lV {X:Cx} {E:Value->Shared->Prop} (ok:(X.wish E).Ok):X.Ok :=
 ⟨ok.mod,ok.kind,ok.glob,ok.blt,ok.above,ok.inj,ok.has,ok.cab,ok.hd,ok.frames,ok.stk,ok.exf,ok.bs,ok.bsz,ok.RV,ok.abF,ok.yX,ok.frf⟩
section
variable {X:Cx} {pins:List (Addr × Obj)} {σ:St} {H:Hp} {s:Shared} {E:Value->Shared->Prop}
theorem Inv.wish (I:Inv X pins σ H s) (E:Value->Shared->Prop):Inv (X.wish E) pins σ H s:=⟨I.ok.wish E,I.os,I.bare,I.base,I.loc,I.cell,I.free,I.pU,I.pin,I.hok,I.len⟩
theorem Inv.lV (I:Inv (X.wish E) pins σ H s):Inv X pins σ H s:=⟨I.ok.lV,I.os,I.bare,I.base,I.loc,I.cell,I.free,I.pU,I.pin,I.hok,I.len⟩
theorem SP.lV {D:Ends} {f:Flow} {s':Shared} (h:SP (X.wish E) pins D f s'):SP X pins D f s':=by
 cases f with
 | next=>obtain ⟨σ',H',I,q⟩:=h;exact ⟨σ',H',I.lV,q⟩
 | brk=>obtain ⟨σ',H',I,q⟩:=h;exact ⟨σ',H',I.lV,q⟩
 | cont=>obtain ⟨σ',H',I,q⟩:=h;exact ⟨σ',H',I.lV,q⟩
 | ret u=>obtain ⟨v,σ',H',I,r,q⟩:=h;exact ⟨v,σ',H',I.lV,r,q⟩
theorem PE.nox {e:Expr} {t:TE} (h:PE X.nox e t):PE X e t:=fun pins s σ H Q I hw =>
 dW (h pins s σ H Q (I.wish _) hw) (fun _ _ ⟨v,H',I',r,q⟩=>⟨v,H',I'.lV,r,q⟩) fun _ _ z=>lO z
theorem PT.nox {e:Expr} {t:TT} (h:PT X.nox e t):PT X e t:=fun pins s σ H Q I hw =>
 dW (h pins s σ H Q (I.wish _) hw) (fun _ _ ⟨H',I',q⟩=>⟨H',I'.lV,q⟩) fun _ _ z=>lO z
theorem PSs.nox {st:List Stmt} {t:TS} (h:PSs X.nox st t):PSs X st t:=fun pins s σ H D I hw =>
 dW (h pins s σ H D (I.wish _) hw) (fun _ _ q=>q.lV) fun _ _ z=>lO z
end
section
variable {X:Cx} {st:Stmt} {rest:List Stmt} {t u:TS} {e:Expr} {te:TE} {pos:Pos}
@[reducible] noncomputable def tNext:TS:=fun D σ H=>D.nx σ H
@[reducible] noncomputable def tSeq (t u:TS):TS:=fun D σ H=>t { D with nx:=u D } σ H
theorem aZ:PSs X [] tNext:=fun _ _ σ H _ I h=>vA ⟨σ,H,I,h⟩
theorem ao (h1:PS X st t) (h2:PSs X rest u):PSs X (st::rest) (tSeq t u):=by
 intro pins s σ H D I h
 refine GD (thn (h1 pins s σ H { D with nx:=u D } I h) fun f s1 q=>?_)
 cases f with
 | next =>
  obtain ⟨σ',H',I',q⟩:=q
  exact h2 pins s1 σ' H' D I' q
 | ret v=>exact q
 | brk=>exact q
 | cont=>exact q
theorem aC (h1:PS X st t):PSs X [st] t:=by
 intro pins s σ H D I h
 refine GD (thn (h1 pins s σ H D I h) fun f s1 q=>?_)
 cases f with
 | next=>exact vA q
 | ret v=>exact q
 | brk=>exact q
 | cont=>exact q
theorem Inv.quiet {pins:List (Addr × Obj)} {σ:St} {H:Hp} {s:Shared} (I:Inv X pins σ H s):interactive X.env=false:=by simp [interactive,I.ok.kind]
@[reducible] noncomputable def tDrop (te:TE):TS:=fun D σ H=>te σ H fun _ H1=>D.nx σ H1
theorem cY (he:PE X e te) (hs:yG e none pos.line X.env=pure false:=by rfl):PS X (.Expr e pos) (tDrop te):=by
 intro pins s σ H D I h
 exact wpAny_Expr_any (thn (he pins s σ H _ I h) fun v s1 ⟨x,H1,I1,r1,q1⟩=>⟨σ,H1,I1,q1⟩) I.quiet hs
@[reducible] noncomputable def tRet (te:TE):TS:=fun D σ H=>te σ H D.rt
theorem aO (he:PE X e te):PS X (.Return (some e) pos) (tRet te):=by
 intro pins s σ H D I h
 exact wpAny_Return_some (thn (he pins s σ H _ I h) fun v s1 ⟨x,H1,I1,r1,q1⟩=>⟨x,σ,H1,I1,r1,q1⟩)
@[reducible] noncomputable def tIfS (c:TT) (t u:TS):TS:=fun D σ H=>c σ H fun b H1=>if b=true then t D σ H1 else u D σ H1
theorem cF {c:Expr} {a b:List Stmt} {tc:TT} (hc:PT X c tc) (ha:PSs X a t) (hb:PSs X b u):PS X (.If c a b pos) (tIfS tc t u):=by
 intro pins s σ H D I h
 refine wpAny_If (thn (hc pins s σ H _ I h) fun d s1 ⟨H1,I1,q1⟩=>?_)
 cases d with
 | true=>exact ha pins s1 σ H1 D I1 q1
 | false=>exact hb pins s1 σ H1 D I1 q1
end
noncomputable abbrev TG:=V->St->Hp->(St->Hp->Prop)->Prop
noncomputable abbrev TGs:=List V->St->Hp->(St->Hp->Prop)->Prop
noncomputable def PG (X:Cx) (target:Expr) (t:TG):Prop :=
 ∀ (pins:List (Addr × Obj)) (s:Shared) (σ:St) (H:Hp) (v:V) (u:Value) (Q:St->Hp->Prop),Inv X pins σ H s->RelV v u->t v σ H Q ->
  wpAny (model X.prog X.w) X.A (lR target X.env u) (fun _ s'=>∃ σ' H',Inv X pins σ' H' s'/\Q σ' H') X.xe s
noncomputable def PGs (X:Cx) (ts:List Expr) (t:TGs):Prop :=
 ∀ (pins:List (Addr × Obj)) (s:Shared) (σ:St) (H:Hp) (vs:List V) (us:List Value) (Q:St->Hp->Prop),Inv X pins σ H s->Vals vs us->t vs σ H Q ->
  wpAny (model X.prog X.w) X.A (assignInOrder ((Cd ts X.env).map (·.2)) us) (fun _ s'=>∃ σ' H',Inv X pins σ' H' s'/\Q σ' H') X.xe s
noncomputable abbrev TSet:=V->V->V->Hp->(Hp->Prop)->Prop
noncomputable def PSet (X:Cx) (t:TSet):Prop :=
 ∀ (pins:List (Addr × Obj)) (s:Shared) (σ:St) (H:Hp) (o i v:V) (ov iv u:Value) (Q:Hp->Prop),Inv X pins σ H s->RelV o ov->RelV i iv->RelV v u->t o i v H Q ->
  wpAny (model X.prog X.w) X.A (setItem ov iv u) (fun _ s'=>∃ H',Inv X pins σ H' s'/\Q H') X.xe s
section
variable {X:Cx} {pos:Pos}
@[reducible] noncomputable def vQ (i:Nat):TG:=fun v σ H Q=>Q (σ.set i (some v)) H
theorem dR {i:Nat} {x:Str} (hN:X.N.Nodup) (hi:X.N[i]? = some x) (hx:Loc X.env.scope x) (hf:X.fn x=true\/X.env.scope.names.lookup x=some .local:=by first | exact .inl rfl | exact .inr rfl | assumption):PG X (.Name x pos) (vQ i):=by
 intro pins s σ H v u Q I r h
 exact Vp (vP I hN hi hx r (fun s' I'=>⟨_,H,I',h⟩) hf)
noncomputable def gNil:TGs:=fun vs σ H Q=>vs=[]/\Q σ H
noncomputable def HX (t:TG) (u:TGs):TGs:=fun vs σ H Q=>∃ v r,vs=v::r/\t v σ H fun σ' H'=>u r σ' H' Q
theorem wU:PGs X [] gNil:=by
 intro pins s σ H vs us Q I r h
 obtain ⟨e,h⟩:=h
 subst e
 cases r
 exact assignInOrder_nil ⟨σ,H,I,h⟩
theorem ig {e:Expr} {es:List Expr} {t:TG} {u:TGs} (h1:PG X e t) (h2:PGs X es u)
  (hs:(Cd (e::es) X.env).map (·.2)=lR e X.env::(Cd es X.env).map (·.2):=by rfl):PGs X (e::es) (HX t u):=by
 intro pins s σ H vs us Q I r h
 obtain ⟨v,vr,e1,h⟩:=h
 subst e1
 cases r with
 | cons r rr =>
  rw [hs]
  refine assignInOrder_cons (thn (h1 pins s σ H _ _ _ I r h) fun _ s1 ⟨σ1,H1,I1,q1⟩=>?_)
  exact h2 pins s1 σ1 H1 _ _ Q I1 rr q1
noncomputable def gTup (K:aW) (n:Nat) (t:TGs):TG:=fun v σ H Q=>∃ a xs,v = .ref a/\SqT K H a xs/\xs.length=n/\t xs σ H Q
theorem CT {es:List Expr} {k:Nat} {t:TGs} {n:Nat} (hc:X.calm=true) (h:PGs X es t)
  (hn:(Cd es X.env).length=n:=by rfl) (hst:(Cd es X.env).findIdx? (·.1)=none:=by rfl):PG X (.Tuple es k pos) (gTup X.K n t):=by
 intro pins s σ H v u Q I r hw
 obtain ⟨a,xs,e1,hq,hl,hw⟩:=hw
 subst e1
 cases r
 obtain ⟨its,rv,ht,hz⟩:=I.tuple hq
 refine assign_Tuple_tuple (I.ok.hd hc) ht (by simp [hn,<- hl,rv.length]) hst fun h' hx=>?_
 have I1:Inv X pins σ H { s with heap:=h' }:=I.kept (t':=s.toks) fun b o e=>hx b o (cW (bR e)) e
 exact h pins _ σ H xs _ Q I1 (by simpa using rv) hw
@[reducible] noncomputable def gSub (to ti:TE) (t:TSet):TG:=fun v σ H Q=>to σ H fun o H1=>ti σ H1 fun i H2=>t o i v H2 fun H3=>Q σ H3
theorem HY {o i:Expr} {to ti:TE} {t:TSet} (ho:PE X o to) (hi:PE X i ti) (hs:PSet X t)
  (ha:∀ v,lR (.Subscript o i pos) X.env v=(do
   let ov <- Ci [v] (eval o X.env)
   let iv <- Ci [v,ov] (eval i X.env)
   Nk pos
   Ci [v,ov,iv] (setItem ov iv v)
   release [v,ov,iv] []):=by intro _;rfl):PG X (.Subscript o i pos) (gSub to ti t):=by
 intro pins s σ H v u Q I r h
 rw [ha]
 refine aR (mz (thn (ho pins s σ H _ I h) fun ov s1 ⟨x,H1,I1,r1,q1⟩=>?_))
 refine aR (mz (thn (hi pins s1 σ H1 _ I1 q1) fun iv s2 ⟨y,H2,I2,r2,q2⟩=>?_))
 refine aR (M7 (aR (mz (thn (hs pins s2 σ H2 x y v ov iv u _ I2 r1 r2 r q2) fun _ s3 ⟨H3,I3,q3⟩=>?_))))
 exact wpAny_release ⟨σ,H3,I3,q3⟩
@[reducible] noncomputable def tAsg (te:TE) (g:TG):TS:=fun D σ H=>te σ H fun x H1=>g x σ H1 D.nx
theorem yZ {tg e:Expr} {te:TE} {g:TG} (he:PE X e te) (hg:PG X tg g) (hs:swapsWithSole [tg] e pos.line X.env=pure false:=by rfl) (hw:swappedStores [tg] e X.env=pure none:=by rfl)
  (h1:(Cd [tg] X.env).map (·.2)=[lR tg X.env]:=by rfl):PS X (.Assign [tg] e pos) (tAsg te g):=by
 intro pins s σ H D I h
 refine wpAny_Assign_stores (thn (he pins s σ H _ I h) fun v s1 ⟨x,H1,I1,r1,q1⟩=>?_) hs hw
 rw [h1]
 exact thn (hg pins s1 σ H1 x v _ I1 r1 q1) fun _ s2 q=>q
theorem aL {i:Nat} {x:Str} {e:Expr} {te:TE} {pos':Pos} (hN:X.N.Nodup) (hi:X.N[i]? = some x) (hx:Loc X.env.scope x) (he:PE X e te) (hs:yG e (some (.Name x pos')) pos.line X.env=pure false:=by rfl) (hf:X.fn x=true\/X.env.scope.names.lookup x=some .local:=by first | exact .inl rfl | exact .inr rfl | assumption) :
  PS X (.Assign [.Name x pos'] e pos) (tAsg te (vQ i)):=by
 intro pins s σ H D I h
 refine Vq (thn (he pins s σ H _ I h) fun v s1 ⟨y,H1,I1,r1,q1⟩=>?_) hs
 exact vP I1 hN hi hx r1 (fun s2 I2=>⟨_,H1,I2,q1⟩) hf
end
section
variable {X:Cx} {pos:Pos}
noncomputable def Y4 (c:TT) (tb:TS):TS:=fun D σ H=>∃ W:Nat->St->Hp->Prop,(∃ m,W m σ H)/\∀ m σ H,W m σ H ->
 c σ H fun b H1=>if b=true then ∃ N:St->Hp->Prop,(∀ σ' H',N σ' H'->∃ m',m'<m/\W m' σ' H')/\tb { D with nx:=N,ct:=N,bk:=D.nx } σ H1 else D.nx σ H1
theorem vR {c:Expr} {body:List Stmt} {tc:TT} {tb:TS} (hp:VL (model X.prog X.w) X.A X.env X.xe) (hc:PT X c tc) (hb:PSs X body tb):PS X (.While c body [] pos) (Y4 tc tb):=by
 intro pins s σ H D I h
 obtain ⟨W,⟨m0,w0⟩,turn⟩:=h
 refine wpAny_While (codeAny_whileLoop (fun n s'=>∃ σ' H',Inv X pins σ' H' s'/\W n σ' H') ?_ m0 ⟨σ,H,I,w0⟩)
 rintro n s1 ⟨σ1,H1,I1,w1⟩
 refine yw hp (thn (hc pins s1 σ1 H1 _ I1 (turn n σ1 H1 w1)) fun b s2 ⟨H2,I2,q2⟩=>?_)
 cases b with
 | true =>
  obtain ⟨N,hN,q2⟩:=q2
  rw [if_pos rfl]
  refine yw hp (thn (hb pins s2 σ1 H2 _ I2 q2) fun f s3 q3=>?_)
  cases f with
  | next =>
   obtain ⟨σ3,H3,I3,n3⟩:=q3
   obtain ⟨m',hm,w3⟩:=hN σ3 H3 n3
   exact ⟨m',hm,σ3,H3,I3,w3⟩
  | cont =>
   obtain ⟨σ3,H3,I3,n3⟩:=q3
   obtain ⟨m',hm,w3⟩:=hN σ3 H3 n3
   exact ⟨m',hm,σ3,H3,I3,w3⟩
  | brk=>exact q3
  | ret v=>exact q3
 | false =>
  rw [if_neg iM]
  exact vA ⟨σ1,H2,I2,q2⟩
end
structure It where
 go:Nat->Hp->Prop
 yld:Nat->Hp->V->Hp->Prop
 stop:Nat->Hp->Prop
noncomputable def xK (X:Cx) (pins:List (Addr × Obj)) (H:Hp) (b:Addr):Prop :=
 H b=none/\b≠X.env.locals/\b∉X.fs/\(b∈X.ex\/X.s₀.heap.objs.size<=b)/\(∀ x c,X.env.cells.lookup x=some c->c≠b)/\∀ p∈X.pn++pins,p.1≠b
theorem Inv.abH {X:Cx} {pins:List (Addr × Obj)} {σ:St} {H H':Hp} {s:Shared} {b:Addr} (I:Inv X pins σ H s) (hb:s.heap.objs.size<=b) (hn:H' b=none):xK X pins H' b:=by
 refine ⟨hn,yN (fW I.lt hb),I.nofs hb,.inr (fX I.sz hb),fun x c e z=>?_,fun p hp z=>?_⟩
 ·obtain ⟨v,q⟩:=I.cell x c e
  exact absurd (fW q.lt (by rw [z];exact hb)) (rZ _)
 ·exact absurd (fW (bR (I.pin p hp).1) (by rw [z];exact hb)) (rZ _)
structure Turn (P:aV) (w:World) (K:aW) (tg:Expr) (J:It) (fp:List Addr) (it:Addr) (tn:Nat->Heap->Prop):Prop where
 mem:it∈fp
 obj:∀ i h,tn i h->∀ b∈fp,∃ o,h.get? b=some o/\∀ v,o.data ≠ .cell v
 keep:∀ i h h',tn i h->(∀ b∈fp,∀ o,h.get? b=some o->h'.get? b=some o)->tn i h'
 item:∀ (X:Cx),X.prog=P->X.w=w->X.K=K->X.calm=true->∀ (i:Nat) (pins:List (Addr × Obj)) (s:Shared) (σ:St) (H:Hp) (E:Value->Shared->Prop),Inv X pins σ H s->(∀ b∈fp,xK X pins H b)->tn i s.heap->J.go i H ->
  wpAny (model P w) X.A (pyNext (.ref it)) (fun r s1=>∃ u,r=some u /\
   wpAny (model P w) X.A (GP tg (.ref it) u) (fun _ s2=>∃ x H',Inv X pins σ H' s2/\RelV x u/\J.yld i H x H'/\tn (i+1) s2.heap/\∀ b∈fp,H' b=none) E s1) E s
 done:∀ (X:Cx),X.prog=P->X.w=w->X.K=K->X.calm=true->∀ (i:Nat) (pins:List (Addr × Obj)) (s:Shared) (σ:St) (H:Hp) (E:Value->Shared->Prop),Inv X pins σ H s->(∀ b∈fp,xK X pins H b)->tn i s.heap->J.stop i H ->
  wpAny (model P w) X.A (pyNext (.ref it)) (fun r s1=>r=none/\Inv X pins σ H s1) E s
 self:∀ (A:bJ) (i:Nat) (s:Shared) (Q:Value->Shared->Prop) (E:Value->Shared->Prop),tn i s.heap->Q (.ref it) s->wpAny (model P w) A (Nt (.ref it)) Q E s
noncomputable abbrev TI:=St->Hp->(It->Hp->Prop)->Prop
noncomputable def PIE (X:Cx) (pins:List (Addr × Obj)) (σ:St) (tg:Expr) (R:It->Hp->Prop) (itv:Value) (s2:Shared):Prop :=
 ∃ (it:Addr) (fp:List Addr) (tn:Nat->Heap->Prop) (J:It) (H':Hp),itv = .ref it/\Inv X pins σ H' s2/\Turn X.prog X.w X.K tg J fp it tn/\tn 0 s2.heap/\(∀ b∈fp,xK X pins H' b)/\R J H'
noncomputable def PI (X:Cx) (tg iter:Expr) (wi:TI):Prop :=
 ∀ (pins:List (Addr × Obj)) (s:Shared) (σ:St) (H:Hp) (R:It->Hp->Prop),Inv X pins σ H s->wi σ H R ->
  wpAny (model X.prog X.w) X.A (eval iter X.env) (fun v s1=>wpAny (model X.prog X.w) X.A (Nt v) (PIE X pins σ tg R) X.xe s1) X.xe s
theorem aay {M:Model} {A:bJ} {E:Value->Shared->Prop} {s:Shared} {tg:Expr} {it:Addr} {u:Value} {o:Obj} {n:String} {vs:Array Value} {Q:Unit->Shared->Prop} (ho:s.heap.get? it=some o) (hc:o.cls = .type n) (hd:o.data = .fields vs)
  (hn:["enumerate","zip","dict_itemiterator","dict_reverseitemiterator","odict_iterator","itertools.zip_longest","itertools.pairwise"].contains n=false) (hQ:Q () s):wpAny M A (GP tg (.ref it) u) Q E s:=by
 unfold GP
 cases tg <;> first
  | exact bw hQ
  | (cases u <;> first
    | exact bw hQ
    | (refine aR (wpAny_load ho ?_)
       rw [hc,hd]
       show wpAny M A (if (["enumerate","zip","dict_itemiterator","dict_reverseitemiterator","odict_iterator","itertools.zip_longest","itertools.pairwise"].contains n && vs[0]? == some (rawInt _))=true then _ else _) Q E s
       rw [if_neg (by intro h;rw [hn,aep] at h;cases h)]
       exact bw hQ))
noncomputable def Itl (K:aW) (a:Addr):It :=
 ⟨fun i H=>∃ xs x,SqL K H a xs/\xs[i]? = some x,fun i H x H'=>H'=H/\∀ xs,SqL K H a xs->xs[i]? = some x,fun i H=>∃ xs,SqL K H a xs/\xs.length<=i⟩
noncomputable def Itt (K:aW) (a:Addr):It :=
 ⟨fun i H=>∃ xs x,SqT K H a xs/\xs[i]? = some x,fun i H x H'=>H'=H/\∀ xs,SqT K H a xs->xs[i]? = some x,fun i H=>∃ xs,SqT K H a xs/\xs.length<=i⟩
noncomputable def Itr (lo:Int) (n:Nat):It:=⟨fun i _=>i<n,fun i H x H'=>H'=H/\x = .int (lo+i),fun i _=>n<=i⟩
theorem abI {P:aV} {w:World} {K:aW} {tg:Expr} (a it:Addr):Turn P w K tg (Itl K a) [it] it (fun i h=>h.IsListIter it a i) where
 mem:=by simp
 obj:=fun i h st b hb=>by
  have e:b=it:=by simpa using hb
  subst e
  obtain ⟨o,e,c,d⟩:=st
  exact ⟨o,e,fun v z=>by rw [d] at z;cases z⟩
 keep:=fun i h h' st k=>st.at fun o e=>k it (by simp) o e
 item:=by
  walk_at "k"
  subst hP hw hK
  obtain ⟨xs,x,hq,hx⟩:=hg
  obtain ⟨its,rv,p,hz⟩:=I.list hq
  obtain ⟨u,hu,ru⟩:=rv.get hx
  k_dat it "m"
  refine wpAny_pyNext_list_item st p.isList (x:=u) (by simpa using hu) fun h' st' sb=>?_
  have I1:Inv X pins σ H { s with heap:=h' }:=I.turned (t':=s.toks) (fun b o hb e=>(sb.2 b hb).trans e) f0 f1 f3 f4 f5
  obtain ⟨o,e,c,d⟩:=id st'
  exact ⟨u,rfl,aay (s:={ s with heap:=h' }) e c d (by decide) ⟨x,H,I1,ru,⟨rfl,fun ys hy=>by rw [I.RW hy hq];exact hx⟩,st',fun b hb=>(hf b hb).1⟩⟩
 done:=by
  walk_at "k"
  subst hP hw hK
  obtain ⟨xs,hq,hx⟩:=hg
  obtain ⟨its,rv,p,hz⟩:=I.list hq
  k_dat it "m"
  have hl:=rv.length
  exact wpAny_pyNext_list_end (I.ok.hd hc) st p.isList (by simp;lia) fun h' eb=>⟨rfl,I.turned (t':=s.toks) (fun b o hb e=>eb b o hb e) f0 f1 f3 f4 f5⟩
 self:=fun _ _ _ _ _ st h=>wpAny_pyIter_listiter st h
theorem Y5 {P:aV} {w:World} {K:aW} {tg:Expr} (a it:Addr):Turn P w K tg (Itt K a) [it] it (fun i h=>h.IsTupleIter it a i) where
 mem:=by simp
 obj:=fun i h st b hb=>by
  have e:b=it:=by simpa using hb
  subst e
  obtain ⟨o,e,c,d⟩:=st
  exact ⟨o,e,fun v z=>by rw [d] at z;cases z⟩
 keep:=fun i h h' st k=>st.at fun o e=>k it (by simp) o e
 item:=by
  walk_at "k"
  subst hP hw hK
  obtain ⟨xs,x,hq,hx⟩:=hg
  obtain ⟨its,rv,p,hz⟩:=I.tuple hq
  obtain ⟨u,hu,ru⟩:=rv.get hx
  k_dat it "m"
  refine wpAny_pyNext_tuple_item st (show s.heap.IsTuple a its.toArray from p) (x:=u) (by simpa using hu) fun h' st' sb=>?_
  have I1:Inv X pins σ H { s with heap:=h' }:=I.turned (t':=s.toks) (fun b o hb e=>(sb.2 b hb).trans e) f0 f1 f3 f4 f5
  obtain ⟨o,e,c,d⟩:=id st'
  exact ⟨u,rfl,aay (s:={ s with heap:=h' }) e c d (by decide) ⟨x,H,I1,ru,⟨rfl,fun ys hy=>by rw [I.abG hy hq];exact hx⟩,st',fun b hb=>(hf b hb).1⟩⟩
 done:=by
  walk_at "k"
  subst hP hw hK
  obtain ⟨xs,hq,hx⟩:=hg
  obtain ⟨its,rv,p,hz⟩:=I.tuple hq
  k_dat it "m"
  have hl:=rv.length
  exact wpAny_pyNext_tuple_end (I.ok.hd hc) st (show s.heap.IsTuple a its.toArray from p) (by simp;lia) fun h' eb=>⟨rfl,I.turned (t':=s.toks) (fun b o hb e=>eb b o hb e) f0 f1 f3 f4 f5⟩
 self:=fun _ _ _ _ _ st h=>wpAny_pyIter_tupleiter st h
theorem Y6 {P:aV} {w:World} {K:aW} {tg:Expr} (it:Addr) (lo:Int) (n:Nat):Turn P w K tg (Itr lo n) [it] it (fun i h=>IsRangeIter h it (lo+(i:Nat)*1) ((n:Int)-(i:Nat)) 1) where
 mem:=by simp
 obj:=fun i h st b hb=>by
  have e:b=it:=by simpa using hb
  subst e
  exact ⟨_,st,fun v z=>by
   have z':Data.fields _=Data.cell v:=z
   cases z'⟩
 keep:=fun i h h' st k=>k it (by simp) _ st
 item:=by
  walk_at "k"
  subst hP hw hK
  k_dat it "m"
  have W:=Walks.range (prog:=X.prog) (w:=X.w) (I.ok.hd hc) it lo 1 n
  refine W.item i s _ _ hg st fun v h' tk hv st' kk=>?_
  obtain ⟨t,rfl⟩:=hv
  have I1:Inv X pins σ H { s with heap:=h',toks:=tk }:=I.turned (fun b o hb e=>kk b o (by simpa using hb) e) f0 f1 f3 f4 f5
  refine ⟨_,rfl,aay (s:={ s with heap:=h',toks:=tk }) (n := "range_iterator") st' rfl rfl (by decide) ⟨.int (lo+i),H,I1,⟨t,?_⟩,⟨rfl,rfl⟩,st',fun b hb=>(hf b hb).1⟩⟩
  rw [Wx]
 done:=by
  walk_at "k"
  subst hP hw hK
  k_dat it "m"
  exact wpAny_pyNext_range_end (I.ok.hd hc) st (by have:n<=i:=hg;lia) fun h' eb=>⟨rfl,I.turned (t':=s.toks) (fun b o hb e=>eb b o hb e) f0 f1 f3 f4 f5⟩
 self:=fun _ _ _ _ _ st h=>wpAny_pyIter_rangeiter st h
end L2
namespace L2
open PySem PySem.Spec PyProof.Rows
section
variable {X:Cx} {tg:Expr}
noncomputable def iList (K:aW) (tl:TE):TI:=fun σ H R=>tl σ H fun x H1=>∃ a,x = .ref a/\(∃ xs,SqL K H1 a xs)/\R (Itl K a) H1
noncomputable def iTup (K:aW) (tl:TE):TI:=fun σ H R=>tl σ H fun x H1=>∃ a,x = .ref a/\(∃ xs,SqT K H1 a xs)/\R (Itt K a) H1
theorem jB {l:Expr} {tl:TE} (hl:PE X l tl):PI X tg l (iList X.K tl):=by
 intro pins s σ H R I h
 refine thn (hl pins s σ H _ I h) fun v s1 ⟨x,H1,I1,r1,q1⟩=>?_
 obtain ⟨a,e,⟨xs,hq⟩,q⟩:=q1
 subst e
 cases r1
 obtain ⟨its,rv,p,hz⟩:=I1.list hq
 refine wpAny_pyIter_list p.isList ?_
 refine ⟨s1.heap.objs.size,[s1.heap.objs.size],_,_,H1,rfl,I1.kept (t':=s1.toks) fun b o e=>gK _ e,abI a _,⟨_,iC _ rfl,rfl,rfl⟩,fun b hb=>?_,q⟩
 have e:b=s1.heap.objs.size:=by simpa using hb
 subst e
 exact I1.abH (cJ _) (I1.hok.fresh (cJ _))
theorem afq {l:Expr} {tl:TE} (hl:PE X l tl):PI X tg l (iTup X.K tl):=by
 intro pins s σ H R I h
 refine thn (hl pins s σ H _ I h) fun v s1 ⟨x,H1,I1,r1,q1⟩=>?_
 obtain ⟨a,e,⟨xs,hq⟩,q⟩:=q1
 subst e
 cases r1
 obtain ⟨its,rv,p,hz⟩:=I1.tuple hq
 refine wpAny_pyIter_tuple (show s1.heap.IsTuple a its.toArray from p) ?_
 refine ⟨s1.heap.objs.size,[s1.heap.objs.size],_,_,H1,rfl,I1.kept (t':=s1.toks) fun b o e=>gK _ e,Y5 a _,⟨_,iC _ rfl,rfl,rfl⟩,fun b hb=>?_,q⟩
 have e:b=s1.heap.objs.size:=by simpa using hb
 subst e
 exact I1.abH (cJ _) (I1.hok.fresh (cJ _))
theorem afr {pins:List (Addr × Obj)} {σ:St} {H:Hp} {s:Shared} {R:It->Hp->Prop} {E:Value->Shared->Prop} {lo hi:Int} {t u v:Tok} {tk:Nat} (I:Inv X pins σ H s) (h1:-(2 ^ 62)<=lo) (h2:lo<2 ^ 62) (h3:-(2 ^ 62)<=hi) (h4:hi<2 ^ 62)
  (q:R (Itr lo (hi-lo).toNat) H):wpAny (model X.prog X.w) X.A (Nt (.ref s.heap.objs.size)) (PIE X pins σ tg R) E { s with heap:=s.heap.push { cls:=.type "range",data:=.fields #[.int lo t,.int hi u,.int 1 v] },toks:=tk }:=by
 refine wpAny_pyIter_range (IsRange.new ..) (small_one h1 h2 h3 h4) ?_
 have I1:Inv X pins σ H { s with heap:=s.heap.push { cls:=.type "range",data:=.fields #[.int lo t,.int hi u,.int 1 v] },toks:=tk }:=I.kept fun b o e=>gK _ e
 refine ⟨(s.heap.push { cls:=.type "range",data:=.fields #[.int lo t,.int hi u,.int 1 v] }).objs.size,[(s.heap.push { cls:=.type "range",data:=.fields #[.int lo t,.int hi u,.int 1 v] }).objs.size],_,_,H,rfl,
  I1.kept (t':=tk) fun b o e=>gK _ e,Y6 _ lo (hi-lo).toNat,?_,fun b hb=>?_,q⟩
 ·have e1:lo+((0:Nat):Int)*1=lo:=by simp
  have e2:(((hi-lo).toNat:Nat):Int)-((0:Nat):Int)=akP lo hi 1:=by rw [rangeSize_one];split <;> lia
  show IsRangeIter _ _ (lo+((0:Nat):Int)*1) ((((hi-lo).toNat:Nat):Int)-((0:Nat):Int)) 1
  rw [e1,e2]
  exact iC _ rfl
 ·have e:b=(s.heap.push { cls:=.type "range",data:=.fields #[.int lo t,.int hi u,.int 1 v] }).objs.size:=by simpa using hb
  subst e
  exact I1.abH (cJ _) (I1.hok.fresh (cJ _))
noncomputable def iRng1 (ta:TA):TI:=fun σ H R=>ta σ H fun vs H1=>∃ j:Int,vs=[.int j] /\ -(2 ^ 62)<=j/\j<2 ^ 62/\R (Itr 0 j.toNat) H1
theorem CV {a:Expr} {ta:TA} {p pos:Pos} (hg:Gl X "range") (hm:X.mg "range" = none) (ha:PA X [a] ta) (hs:dH [a] X.env=[(false,eval a X.env)]:=by rfl):PI X tg (.Call (.Name "range" p) [a] [] pos) (iRng1 ta):=by
 intro pins s σ H R I h
 refine Call_ (pW I hg hm boot_range (KD (thn (ha pos pins s σ H _ I h) fun us s1 ⟨vs,H1,I1,r1,q1⟩=>?_) hs rfl))
 obtain ⟨j,e,q1,q2,q⟩:=q1
 subst e
 cases r1 with
 | cons r rr =>
  cases rr
  obtain ⟨t,rfl⟩:=r
  exact call_range_1 (afr I1 tb_g% tb_g% q1 q2 (by simpa using q))
noncomputable def tFor (wi:TI) (g:TG) (tb:TS):TS:=fun D σ H=>wi σ H fun J H1=>∃ W:Nat->Nat->St->Hp->Prop,(∃ m,W 0 m σ H1)/\∀ i m σ H,W i m σ H ->
 (J.stop i H/\D.nx σ H)\/(J.go i H/\∃ N:St->Hp->Prop,(∀ σ' H',N σ' H'->∃ m',m'<m/\W (i+1) m' σ' H')/\∀ x H',J.yld i H x H'->g x σ H' fun σ2 H2=>tb { D with nx:=N,ct:=N,bk:=D.nx } σ2 H2)
noncomputable def CW (fp:List Addr) (h:Heap):List (Addr × Obj):=fp.filterMap fun b=>(h.get? b).map fun o=>(b,o)
theorem mG {fp:List Addr} {h:Heap} {b:Addr} {o:Obj} (hb:b∈fp) (e:h.get? b=some o):(b,o)∈CW fp h:=UJ.mpr ⟨b,hb,by rw [e];rfl⟩
theorem abJ {fp:List Addr} {h:Heap} {p:Addr × Obj} (hp:p∈CW fp h):p.1∈fp/\h.get? p.1=some p.2:=by
 obtain ⟨b,hb,e⟩:=UJ.mp hp
 cases q:h.get? b with
 | none=>rw [q] at e;cases e
 | some o =>
  rw [q] at e
  have e':(b,o)=p:=cX e
  subst e'
  exact ⟨hb,q⟩
theorem Inv.pinned {pins:List (Addr × Obj)} {σ:St} {H:Hp} {s:Shared} {fp:List Addr} (I:Inv X pins σ H s) (hf:∀ b∈fp,xK X pins H b) (ho:∀ b∈fp,∃ o,s.heap.get? b=some o/\∀ v,o.data ≠ .cell v):Inv X (pins++CW fp s.heap) σ H s :=
 I.aaw fun p hp=>(gw.mp hp).elim (fun z=>I.pin p (qK _ z)) fun z=>by
  obtain ⟨hb,e⟩:=abJ z
  obtain ⟨f0,f1,f2,_⟩:=hf p.1 hb
  obtain ⟨o,e',d⟩:=ho p.1 hb
  rw [e] at e';cases e'
  exact ⟨e,f0,f1,f2,d⟩
theorem Inv.pY {pins pl:List (Addr × Obj)} {σ:St} {H:Hp} {s:Shared} (I:Inv X (pins++pl) σ H s):Inv X pins σ H s:=I.aaw fun p hp=>I.pin p (qK _ (Ux _ hp))
theorem mH {iter:Expr} {body:List Stmt} {wi:TI} {g:TG} {tb:TS} {pos:Pos} (hp:VL (model X.prog X.w) X.A X.env X.xe) (hc:X.calm=true) (hi:PI X tg iter wi) (hg:PG X tg g) (hb:PSs X body tb)
  (hs:∀ x,GC iter X.env x=pure x:=by intro _;rfl):PS X (.For tg iter body [] pos) (tFor wi g tb):=by
 intro pins s σ H D I h
 refine wpAny_For (thn (hi pins s σ H _ I h) fun v s1 h1=>thn h1 fun itv s2 h2=>?_) hs
 obtain ⟨it,fp,tn,J,H2,e,I2,T,st2,f2,W,⟨m0,w0⟩,turn⟩:=h2
 subst e
 have stat:∀ {H':Hp},(∀ b∈fp,H' b=none)->∀ b∈fp,xK X pins H' b:=fun hn b hb=>⟨hn b hb,(f2 b hb).2⟩
 refine codeAny_forLoop_any (fun n s'=>∃ i σ' H',Inv X pins σ' H' s'/\tn i s'.heap/\(∀ b∈fp,H' b=none)/\W i n σ' H') ?_ m0 ⟨0,σ,H2,I2,st2,fun b hb=>(f2 b hb).1,w0⟩
 rintro n s3 ⟨i,σ3,H3,I3,st3,fr3,w3⟩
 rcases turn i n σ3 H3 w3 with ⟨stop,qn⟩ | ⟨go,N,hN,step⟩
 ·refine yw hp (thn (T.done X rfl rfl rfl hc i pins s3 σ3 H3 X.xe I3 (stat fr3) st3 stop) fun r s4 ⟨hr,I4⟩=>?_)
  subst hr
  exact vA ⟨σ3,H3,I4,qn⟩
 ·refine yw hp (thn (T.item X rfl rfl rfl hc i pins s3 σ3 H3 X.xe I3 (stat fr3) st3 go) fun r s4 ⟨u,hr,h4⟩=>?_)
  subst hr
  refine yw hp (thn h4 fun _ s5 ⟨x,H5,I5,r5,y5,st5,fr5⟩=>?_)
  have I5':=I5.pinned (stat fr5) (T.obj _ _ st5)
  refine yw hp (thn (hg _ s5 σ3 H5 x u _ I5' r5 (step x H5 y5)) fun _ s6 ⟨σ6,H6,I6,q6⟩=>?_)
  refine yw hp (thn (hb _ s6 σ6 H6 _ I6 q6) fun f s7 q7=>?_)
  have again:∀ {σ7:St} {H7:Hp},Inv X (pins++CW fp s5.heap) σ7 H7 s7->N σ7 H7->∃ m,m<n/\∃ i σ' H',Inv X pins σ' H' s7/\tn i s7.heap/\(∀ b∈fp,H' b=none)/\W i m σ' H':=fun {σ7 H7} I7 n7=>by
   obtain ⟨m',hm,w7⟩:=hN σ7 H7 n7
   refine ⟨m',hm,i+1,σ7,H7,I7.pY,T.keep _ _ _ st5 fun b hb o e=>(I7.pin (b,o) (qK _ (qK _ (mG hb e)))).1,fun b hb=>?_,w7⟩
   obtain ⟨o,e,d⟩:=T.obj _ _ st5 b hb
   exact (I7.pin (b,o) (qK _ (qK _ (mG hb e)))).2.1
  cases f with
  | next=>obtain ⟨σ7,H7,I7,n7⟩:=q7;exact again I7 n7
  | cont=>obtain ⟨σ7,H7,I7,n7⟩:=q7;exact again I7 n7
  | brk=>obtain ⟨σ7,H7,I7,q7⟩:=q7;exact ⟨σ7,H7,I7.pY,q7⟩
  | ret v=>obtain ⟨x7,σ7,H7,I7,r7,q7⟩:=q7;exact ⟨x7,σ7,H7,I7.pY,r7,q7⟩
end
theorem nu {K:aW} {a:Addr} {xs:List V} {g:TG} {tb:TS} {D:Ends} {σ:St} {H:Hp} (Pv:Nat->St->Hp->Prop) (h0:Pv 0 σ H) (hl:∀ i σ H,i<=xs.length->Pv i σ H->SqL K H a xs)
  (hs:∀ i x σ H,xs[i]? = some x->Pv i σ H->g x σ H fun σ2 H2=>tb { D with nx:=Pv (i+1),ct:=Pv (i+1),bk:=D.nx } σ2 H2) (hd:∀ σ H,Pv xs.length σ H->D.nx σ H) :
  ∃ W:Nat->Nat->St->Hp->Prop,(∃ m,W 0 m σ H)/\∀ i m σ H,W i m σ H ->
   ((Itl K a).stop i H/\D.nx σ H)\/((Itl K a).go i H/\∃ N:St->Hp->Prop,(∀ σ' H',N σ' H'->∃ m',m'<m/\W (i+1) m' σ' H')/\∀ x H',(Itl K a).yld i H x H'->g x σ H' fun σ2 H2=>tb { D with nx:=N,ct:=N,bk:=D.nx } σ2 H2):=by
 refine ⟨fun i m σ H=>m=xs.length-i/\i<=xs.length/\Pv i σ H,⟨xs.length,by simp,bZ _,h0⟩,?_⟩
 rintro i m σ H ⟨rfl,hi,p⟩
 have q:=hl i σ H hi p
 by_cases hlt:i<xs.length
 ·refine .inr ⟨⟨xs,xs[i],q,by simp [hlt]⟩,Pv (i+1),fun σ' H' p'=>⟨xs.length-(i+1),by lia,rfl,hlt,p'⟩,fun x H' y=>?_⟩
  obtain ⟨e,y⟩:=y
  subst e
  exact hs i x σ _ (y xs q) p
 ·have e:i=xs.length:=by lia
  subst e
  exact .inl ⟨⟨xs,q,cJ _⟩,hd σ H p⟩
theorem CZ {lo:Int} {n:Nat} {g:TG} {tb:TS} {D:Ends} {σ:St} {H:Hp} (Pv:Nat->St->Hp->Prop) (h0:Pv 0 σ H)
  (hs:∀ i σ H,i<n->Pv i σ H->g (.int (lo+i)) σ H fun σ2 H2=>tb { D with nx:=Pv (i+1),ct:=Pv (i+1),bk:=D.nx } σ2 H2) (hd:∀ σ H,Pv n σ H->D.nx σ H) :
  ∃ W:Nat->Nat->St->Hp->Prop,(∃ m,W 0 m σ H)/\∀ i m σ H,W i m σ H ->
   ((Itr lo n).stop i H/\D.nx σ H)\/((Itr lo n).go i H/\∃ N:St->Hp->Prop,(∀ σ' H',N σ' H'->∃ m',m'<m/\W (i+1) m' σ' H')/\∀ x H',(Itr lo n).yld i H x H'->g x σ H' fun σ2 H2=>tb { D with nx:=N,ct:=N,bk:=D.nx } σ2 H2):=by
 refine ⟨fun i m σ H=>m=n-i/\i<=n/\Pv i σ H,⟨n,by simp,bZ _,h0⟩,?_⟩
 rintro i m σ H ⟨rfl,hi,p⟩
 by_cases hlt:i<n
 ·refine .inr ⟨hlt,Pv (i+1),fun σ' H' p'=>⟨n-(i+1),by lia,rfl,hlt,p'⟩,fun x H' y=>?_⟩
  obtain ⟨e,y⟩:=y
  subst e y
  exact hs i σ _ hlt p
 ·have e:i=n:=by lia
  subst e
  exact .inl ⟨cJ _,hd σ H p⟩
theorem vU {c:TT} {tb:TS} {D:Ends} {σ:St} {H:Hp} (Pv:St->Hp->Prop) (μ:St->Hp->Nat) (h0:Pv σ H)
  (hs:∀ σ H,Pv σ H->c σ H fun b H1=>if b=true then tb { D with nx:=fun σ' H'=>Pv σ' H'/\μ σ' H'<μ σ H,ct:=fun σ' H'=>Pv σ' H'/\μ σ' H'<μ σ H,bk:=D.nx } σ H1 else D.nx σ H1)
  (mono:∀ σ H Q Q',(∀ b H1,Q b H1->Q' b H1)->c σ H Q->c σ H Q'):Y4 c tb D σ H:=by
 refine ⟨fun m σ H=>m=μ σ H/\Pv σ H,⟨_,rfl,h0⟩,?_⟩
 rintro m σ H ⟨rfl,p⟩
 refine mono σ H _ _ (fun b H1 q=>?_) (hs σ H p)
 cases b with
 | true=>exact ⟨_,fun σ' H' ⟨p',l⟩=>⟨_,l,rfl,p'⟩,q⟩
 | false=>exact q
end L2
namespace L2
open PySem PySem.Spec PyProof.Rows
noncomputable abbrev R2:=V->V->Hp->VK->Prop
noncomputable def OpR (X:Cx) (f:Value->Value->Sem Value) (r:R2):Prop :=
 ∀ (pins:List (Addr × Obj)) (s:Shared) (σ:St) (H:Hp) (x y:V) (v u:Value) (Q:VK),Inv X pins σ H s->RelV x v->RelV y u->r x y H Q ->
  wpAny (model X.prog X.w) X.A (f v u) (EP X pins σ Q) X.xe s
noncomputable def UnR (X:Cx) (f:Value->Sem Value) (r:V->Hp->VK->Prop):Prop :=
 ∀ (pins:List (Addr × Obj)) (s:Shared) (σ:St) (H:Hp) (x:V) (v:Value) (Q:VK),Inv X pins σ H s->RelV x v->r x H Q ->
  wpAny (model X.prog X.w) X.A (f v) (EP X pins σ Q) X.xe s
noncomputable def iu (X:Cx) (f:Value) (r:List V->Hp->VK->Prop):Prop :=
 ∀ (pins:List (Addr × Obj)) (s:Shared) (σ:St) (H:Hp) (xs:List V) (us:List Value) (Q:VK),Inv X pins σ H s->Vals xs us->r xs H Q ->
  wpAny (model X.prog X.w) X.A (call f us) (EP X pins σ Q) X.xe s
@[reducible] noncomputable def tOp (r:R2) (ta tb:TE):TE:=fun σ H Q=>ta σ H fun x H1=>tb σ H1 fun y H2=>r x y H2 Q
noncomputable def tUn (r:V->Hp->VK->Prop) (ta:TE):TE:=fun σ H Q=>ta σ H fun x H1=>r x H1 Q
noncomputable def rI (C:Int->Int->Prop) (g:Int->Int->V):R2:=fun x y H Q=>∃ i j,x = .int i/\y = .int j/\C i j/\Q (g i j) H
noncomputable def rI0 (g:Int->Int->V):R2:=fun x y H Q=>∃ i j,x = .int i/\y = .int j/\Q (g i j) H
noncomputable def rU (g:Int->V):V->Hp->VK->Prop:=fun x H Q=>∃ i,x = .int i/\Q (g i) H
section
variable {X:Cx} {a b c:Expr} {ta tb tc:TE} {pos:Pos}
theorem binT (ha:PE X a ta) (hb:PE X b tb) {pins:List (Addr × Obj)} {s:Shared} {σ:St} {H:Hp} {R:V->V->Hp->Prop} (I:Inv X pins σ H s)
  (h:ta σ H fun x H1=>tb σ H1 fun y H2=>R x y H2) {Q:Value->Shared->Prop} {f:Value->Value->Sem Value}
  (hf:∀ v u s2 x y H2,Inv X pins σ H2 s2->RelV x v->RelV y u->R x y H2->wpAny (model X.prog X.w) X.A (f v u) Q X.xe s2) :
  wpAny (model X.prog X.w) X.A (eval a X.env) (fun v s₁=>wpAny (model X.prog X.w) X.A (eval b X.env) (fun u s₂=>wpAny (model X.prog X.w) X.A (f v u) Q X.xe s₂) X.xe s₁) X.xe s:=by
 refine thn (ha pins s σ H _ I h) fun v s1 ⟨x,H1,I1,r1,q1⟩=>?_
 refine thn (hb pins s1 σ H1 _ I1 q1) fun u s2 ⟨y,H2,I2,r2,q2⟩=>?_
 exact hf v u s2 x y H2 I2 r1 r2 q2
theorem aF {op:Operator} {r:R2} (ho:OpR X (nM op) r) (ha:PE X a ta) (hb:PE X b tb):PE X (.BinOp a op b pos) (tOp r ta tb):=by
 walk_at "n"
 exact wpAny_BinOp (binT ha hb I h fun v u s2 x y H2 I2 rx ry q=>ho pins s2 σ H2 x y v u Q I2 rx ry q)
theorem RX {op:UnaryOp} {r:V->Hp->VK->Prop} (ho:UnR X (unaryOp op) r) (ha:PE X a ta):PE X (.UnaryOp op a pos) (tUn r ta):=by
 walk_at "n"
 exact UnaryOp_ (thn (ha pins s σ H _ I h) fun v s1 ⟨x,H1,I1,r1,q1⟩=>ho pins s1 σ H1 x v Q I1 r1 q1)
theorem opI {f:Value->Value->Sem Value} {C:Int->Int->Prop} {g:Int->Int->Int}
  (rule:∀ (i j:Int) (t u:Tok) (s:Shared) (Q:Value->Shared->Prop) (E:Value->Shared->Prop),C i j->Q (.int (g i j) s.toks) { s with toks:=s.toks+1 }->wpAny (model X.prog X.w) X.A (f (.int i t) (.int j u)) Q E s) :
  OpR X f (rI C fun i j=>.int (g i j)):=by
 walk_at "l"
 obtain ⟨i,j,rfl,rfl,hc,q⟩:=h
 obtain ⟨t,rfl⟩:=rx
 obtain ⟨t',rfl⟩:=ry
 exact rule i j t t' s _ _ hc ⟨.int (g i j),H,I.tok _,⟨_,rfl⟩,q⟩
theorem opI0 {f:Value->Value->Sem Value} {g:Int->Int->Int}
  (rule:∀ (i j:Int) (t u:Tok) (s:Shared) (Q:Value->Shared->Prop) (E:Value->Shared->Prop),Q (.int (g i j) s.toks) { s with toks:=s.toks+1 }->wpAny (model X.prog X.w) X.A (f (.int i t) (.int j u)) Q E s) :
  OpR X f (rI0 fun i j=>.int (g i j)):=by
 walk_at "l"
 obtain ⟨i,j,rfl,rfl,q⟩:=h
 obtain ⟨t,rfl⟩:=rx
 obtain ⟨t',rfl⟩:=ry
 exact rule i j t t' s _ _ ⟨.int (g i j),H,I.tok _,⟨_,rfl⟩,q⟩
theorem opB0 {f:Value->Value->Sem Value} {g:Int->Int->Bool}
  (rule:∀ (i j:Int) (t u:Tok) (s:Shared) (Q:Value->Shared->Prop) (E:Value->Shared->Prop),Q (.bool (g i j)) s->wpAny (model X.prog X.w) X.A (f (.int i t) (.int j u)) Q E s) :
  OpR X f (rI0 fun i j=>.bl (g i j)):=by
 walk_at "l"
 obtain ⟨i,j,rfl,rfl,q⟩:=h
 obtain ⟨t,rfl⟩:=rx
 obtain ⟨t',rfl⟩:=ry
 exact rule i j t t' s _ _ ⟨.bl (g i j),H,I,rfl,q⟩
noncomputable def CDiv (i j:Int):Prop:=0<j/\j<1073741824
noncomputable def CPow (i j:Int):Prop:=0<=j/\j<=1000000/\i.natAbs<2 ^ 64
noncomputable def afs (i j:Int):Prop:=(-(2 ^ 64)<i/\i<2 ^ 64)\/(-(2 ^ 64)<j/\j<2 ^ 64)
theorem afs.ok {i j:Int} (h:afs i j):VR i j:=by
 rcases h with ⟨h1,h2⟩ | ⟨h1,h2⟩
 ·exact .of_left (adT h1 h2)
 ·exact .of_right (adT h1 h2)
theorem Y7 (k:Nat):(0:Int)<=2 ^ k:=by
 rw [two_pow_cast]
 exact Int.natCast_nonneg _
theorem bM:OpR X (nM .Add) (rI0 fun i j=>.int (i+j)):=opI0 fun _ _ _ _ _ _ _ q=>add_int q
theorem dY:OpR X (nM .Sub) (rI0 fun i j=>.int (i-j)):=opI0 fun _ _ _ _ _ _ _ q=>sub_int q
theorem fQ:OpR X (nM .Mult) (rI afs fun i j=>.int (i*j)):=opI fun _ _ _ _ _ _ _ hc q=>mul_int q hc.ok
theorem cZ:OpR X (nM .FloorDiv) (rI CDiv fun i j=>.int (i / j)):=opI fun i j _ _ _ _ _ hc q=>by
 have h1:(0:Int)<j:=hc.1
 have h2:j<1073741824:=hc.2
 exact Wd tb_g% (by rw [Hx i tb_g%];exact q) (.inl (PyProof.noPylong_small tb_g%))
theorem dg:OpR X (nM .Mod) (rI (fun _ j=>0<j) fun i j=>.int (i % j)):=opI fun i j _ _ _ _ _ hc q=>by
 have h1:(0:Int)<j:=hc
 exact mod_int' tb_g% (by rw [Int.fmod_eq_emod_of_nonneg i tb_g%];exact q)
theorem ak6:OpR X (nM .LShift) (rI CPow fun i j=>.int (i*2 ^ j.toNat)):=opI fun _ _ _ _ _ _ _ hc q=>lshift_int_small hc.1 hc.2.1 hc.2.2 q
theorem ak7:OpR X (nM .RShift) (rI (fun _ j=>0<=j) fun i j=>.int (i / 2 ^ j.toNat)):=opI fun i j _ _ _ _ _ hc q =>
 rshift_int hc (by rw [Hx i (Y7 _)];exact q)
theorem unI {f:Value->Sem Value} {g:Int->Int}
  (rule:∀ (i:Int) (t:Tok) (s:Shared) (Q:Value->Shared->Prop) (E:Value->Shared->Prop),Q (.int (g i) s.toks) { s with toks:=s.toks+1 }->wpAny (model X.prog X.w) X.A (f (.int i t)) Q E s) :
  UnR X f (rU fun i=>.int (g i)):=by
 intro pins s σ H x v Q I rx h
 obtain ⟨i,rfl,q⟩:=h
 obtain ⟨t,rfl⟩:=rx
 exact rule i t s _ _ ⟨.int (g i),H,I.tok _,⟨_,rfl⟩,q⟩
theorem Ia:UnR X (unaryOp .USub) (rU fun i=>.int (-i)):=unI fun _ _ _ _ _ q=>neg_int q
end
noncomputable def scal:V->V->Bool
 | .non,.non=>true | .non,.int _=>true | .int _,.non=>true | .non,.bl _=>true | .bl _,.non=>true | .non,.str _=>true | .str _,.non=>true
 | .int _,.int _=>true | .bl _,.bl _=>true | .str _,.str _=>true | .byt _,.byt _=>true
 | .int _,.str _=>true | .str _,.int _=>true | .bl _,.str _=>true | .str _,.bl _=>true
 | _,_=>false
noncomputable def rEq:R2:=fun x y H Q=>scal x y=true/\Q (.bl (decide (x=y))) H
noncomputable def rNe:R2:=fun x y H Q=>scal x y=true/\Q (.bl (!decide (x=y))) H
theorem aaz {i j:Int}:decide (V.int i=V.int j)=(i == j):=by
 rw [Oi]
 simp
theorem aft {i j:Bool}:decide (V.bl i=V.bl j)=(i == j):=by
 rw [Oi]
 simp
theorem aaA {i j:Str}:decide (V.str i=V.str j)=(i == j):=by
 rw [Oi]
 simp
theorem aaB {i j:Array UInt8}:decide (V.byt i=V.byt j)=(i.toList == j.toList):=by
 rw [Oi]
 cases i
 cases j
 simp
section
variable {X:Cx} {a b c:Expr} {ta tb tc:TE} {pos:Pos}
theorem dI {pins:List (Addr × Obj)} {σ:St} {H:Hp} {s:Shared} {Q:VK} {k k':Bool} (I:Inv X pins σ H s) (q:Q (.bl k) H) (e:k=k'):EP X pins σ Q (.bool k') s:=by
 subst e
 exact ⟨.bl k,H,I,rfl,q⟩
theorem fY:OpR X (jO .Eq) rEq:=by
 walk_at "l"
 obtain ⟨hs,q⟩:=h
 cases x with
 | non =>
  cases rx
  cases y with
  | non=>cases ry;exact aks (dI I q (by simp))
  | bl j=>cases ry;exact akt (dI I q (by simp))
  | int j=>obtain ⟨t',rfl⟩:=ry;exact akz (dI I q (by simp))
  | str j=>obtain ⟨t',rfl⟩:=ry;exact akA (dI I q (by simp))
  | _=>exact absurd (show false=true from hs) iM
 | bl i =>
  cases rx
  cases y with
  | non=>cases ry;exact aku (dI I q (by simp))
  | bl j=>cases ry;exact eq_bool (dI I q aft)
  | str j=>obtain ⟨t',rfl⟩:=ry;exact akH (dI I q (by simp))
  | _=>exact absurd (show false=true from hs) iM
 | int i =>
  obtain ⟨t,rfl⟩:=rx
  cases y with
  | non=>cases ry;exact akB (dI I q (by simp))
  | int j=>obtain ⟨t',rfl⟩:=ry;exact eq_int (dI I q aaz)
  | str j=>obtain ⟨t',rfl⟩:=ry;exact akL (dI I q (by simp))
  | _=>exact absurd (show false=true from hs) iM
 | str i =>
  obtain ⟨t,rfl⟩:=rx
  cases y with
  | non=>cases ry;exact akC (dI I q (by simp))
  | bl j=>cases ry;exact akI (dI I q (by simp))
  | int j=>obtain ⟨t',rfl⟩:=ry;exact akM (dI I q (by simp))
  | str j=>obtain ⟨t',rfl⟩:=ry;exact eq_str (dI I q aaA)
  | _=>exact absurd (show false=true from hs) iM
 | byt i =>
  obtain ⟨t,rfl⟩:=rx
  cases y with
  | byt j=>obtain ⟨t',rfl⟩:=ry;exact PySem.W.eq_bytes (dI I q aaB)
  | _=>exact absurd (show false=true from hs) iM
 | _=>cases y <;> exact absurd (show false=true from hs) iM
theorem op_ne:OpR X (jO .NotEq) rNe:=by
 walk_at "l"
 obtain ⟨hs,q⟩:=h
 cases x with
 | non =>
  cases rx
  cases y with
  | non=>cases ry;exact akv (dI I q (by simp))
  | bl j=>cases ry;exact akx (dI I q (by simp))
  | int j=>obtain ⟨t',rfl⟩:=ry;exact akD (dI I q (by simp))
  | str j=>obtain ⟨t',rfl⟩:=ry;exact akE (dI I q (by simp))
  | _=>exact absurd (show false=true from hs) iM
 | bl i =>
  cases rx
  cases y with
  | non=>cases ry;exact aky (dI I q (by simp))
  | bl j=>cases ry;exact ne_bool (dI I q (congrArg not aft))
  | str j=>obtain ⟨t',rfl⟩:=ry;exact akJ (dI I q (by simp))
  | _=>exact absurd (show false=true from hs) iM
 | int i =>
  obtain ⟨t,rfl⟩:=rx
  cases y with
  | non=>cases ry;exact akF (dI I q (by simp))
  | int j=>obtain ⟨t',rfl⟩:=ry;exact ne_int (dI I q (congrArg not aaz))
  | str j=>obtain ⟨t',rfl⟩:=ry;exact akN (dI I q (by simp))
  | _=>exact absurd (show false=true from hs) iM
 | str i =>
  obtain ⟨t,rfl⟩:=rx
  cases y with
  | non=>cases ry;exact akG (dI I q (by simp))
  | bl j=>cases ry;exact akK (dI I q (by simp))
  | int j=>obtain ⟨t',rfl⟩:=ry;exact akO (dI I q (by simp))
  | str j=>obtain ⟨t',rfl⟩:=ry;exact ne_str (dI I q (congrArg not aaA))
  | _=>exact absurd (show false=true from hs) iM
 | byt i =>
  obtain ⟨t,rfl⟩:=rx
  cases y with
  | byt j=>obtain ⟨t',rfl⟩:=ry;exact PySem.W.ne_bytes (dI I q (congrArg not aaB))
  | _=>exact absurd (show false=true from hs) iM
 | _=>cases y <;> exact absurd (show false=true from hs) iM
theorem pZ:OpR X (jO .Lt) (rI0 fun i j=>.bl (decide (i<j))):=opB0 fun _ _ _ _ _ _ _ q=>lt_int q
theorem aaC:OpR X (jO .LtE) (rI0 fun i j=>.bl (decide (i<=j))):=opB0 fun _ _ _ _ _ _ _ q=>le_int q
theorem qT:OpR X (jO .Gt) (rI0 fun i j=>.bl (decide (j<i))):=opB0 fun _ _ _ _ _ _ _ q=>gt_int q
theorem aaD:OpR X (jO .GtE) (rI0 fun i j=>.bl (decide (j<=i))):=opB0 fun _ _ _ _ _ _ _ q=>ge_int q
theorem afu:OpR X (jO .Is) (fun x y H Q=>y = .non/\Q (.bl (decide (x = .non))) H):=by
 walk_at "l"
 obtain ⟨rfl,q⟩:=h
 cases ry
 refine is_none_gen (dI I q ?_)
 cases x <;> first
  | (cases rx;rfl)
  | (obtain ⟨t,rfl⟩:=rx;rfl)
theorem O9:OpR X (jO .IsNot) (fun x y H Q=>y = .non/\Q (.bl (!decide (x = .non))) H):=by
 walk_at "l"
 obtain ⟨rfl,q⟩:=h
 cases ry
 refine isnot_none_gen (dI I q ?_)
 cases x <;> first
  | (cases rx;rfl)
  | (obtain ⟨t,rfl⟩:=rx;rfl)
theorem OpR.or {f:Value->Value->Sem Value} {r r':R2} (h:OpR X f r) (h':OpR X f r'):OpR X f (fun x y H Q=>r x y H Q\/r' x y H Q):=by
 intro pins s σ H x y v u Q I rx ry q
 rcases q with q | q
 ·exact h pins s σ H x y v u Q I rx ry q
 ·exact h' pins s σ H x y v u Q I rx ry q
theorem aQ (b:Expr) {op:CmpOp} (h:op ≠ .In:=by decide) (h2:op ≠ .NotIn:=by decide):M8 op b=false:=by
 have e1:(op == CmpOp.In)=false:=by cases op <;> first | rfl | exact absurd rfl h
 have e2:(op == CmpOp.NotIn)=false:=by cases op <;> first | rfl | exact absurd rfl h2
 cases b <;> simp [M8,e1,e2]
theorem pA {op:CmpOp} {r:R2} (ho:OpR X (jO op) r) (ha:PE X a ta) (hb:PE X b tb) (hm:M8 op b=false):PE X (.Compare a [op] [b] pos) (tOp r ta tb):=by
 walk_at "n"
 exact wpAny_Compare1 (binT ha hb I h fun v u s2 x y H2 I2 rx ry q=>ho pins s2 σ H2 x y v u Q I2 rx ry q) hm
@[reducible] noncomputable def KQ (t:TE):TT:=fun σ H Q=>t σ H fun x H'=>∃ k,x = .bl k/\Q k H'
theorem aK {op:CmpOp} {r:R2} (ho:OpR X (jO op) r) (ha:PE X a ta) (hb:PE X b tb) (hm:M8 op b=false):PT X (.Compare a [op] [b] pos) (KQ (tOp r ta tb)):=by
 walk_at "n"
 refine wpAny_isTrue_Compare1 (thn (ha pins s σ H _ I h) fun v s1 ⟨x,H1,I1,r1,q1⟩=>thn (hb pins s1 σ H1 _ I1 q1) fun u s2 ⟨y,H2,I2,r2,q2⟩ =>
  thn (ho pins s2 σ H2 x y v u _ I2 r1 r2 q2) fun c s3 ⟨z,H3,I3,r3,k,e,q3⟩=>?_) hm
 subst e
 cases r3
 exact Gz ⟨H3,I3,q3⟩
theorem Pa:(sizeLine:Nat)<2 ^ 63:=by rw [Nb];decide
theorem vals1 {x:V} {us:List Value} (r:Vals [x] us):∃ u,us=[u]/\RelV x u:=by
 cases r with
 | cons r1 r2=>cases r2;exact ⟨_,rfl,r1⟩
theorem vals2 {x y:V} {us:List Value} (r:Vals [x,y] us):∃ u w',us=[u,w']/\RelV x u/\RelV y w':=by
 cases r with
 | cons r1 r2 =>
  cases r2 with
  | cons r3 r4=>cases r4;exact ⟨_,_,rfl,r1,r3⟩
theorem wV (hc:X.calm=true):iu X (.builtin "max") (fun xs H Q=>∃ i j,xs=[.int i,.int j]/\Q (.int (if j>i then j else i)) H):=by
 walk_at "o"
 obtain ⟨i,j,rfl,q⟩:=h
 obtain ⟨u,w',rfl,⟨t,rfl⟩,⟨t',rfl⟩⟩:=vals2 r
 refine max_two_ints (I.ok.hd hc) fun h' tk k=>⟨_,H,I.kept k,?_,q⟩
 by_cases hj:j>i
 ·rw [if_pos hj,if_pos hj];exact ⟨_,rfl⟩
 ·rw [if_neg hj,if_neg hj];exact ⟨_,rfl⟩
theorem Dc (hc:X.calm=true):iu X (.builtin "min") (fun xs H Q=>∃ i j,xs=[.int i,.int j]/\Q (.int (if j<i then j else i)) H):=by
 walk_at "o"
 obtain ⟨i,j,rfl,q⟩:=h
 obtain ⟨u,w',rfl,⟨t,rfl⟩,⟨t',rfl⟩⟩:=vals2 r
 refine min_two_ints (I.ok.hd hc) fun h' tk k=>⟨_,H,I.kept k,?_,q⟩
 by_cases hj:j<i
 ·rw [if_pos hj,if_pos hj];exact ⟨_,rfl⟩
 ·rw [if_neg hj,if_neg hj];exact ⟨_,rfl⟩
noncomputable def LenV (K:aW) (x:V) (H:Hp) (n:Nat):Prop :=
 match x with
 | .str y=>y.length<=sizeLine/\n=y.length
 | .byt y=>y.size<=sizeLine/\n=y.size
 | .ref p=>(∃ xs,SqL K H p xs/\n=xs.length)\/∃ xs,SqT K H p xs/\n=xs.length
 | _=>False
theorem afv:iu X (.builtin "len") (fun xs H Q=>∃ x n,xs=[x]/\LenV X.K x H n/\Q (.int n) H):=by
 walk_at "o"
 obtain ⟨x,n,rfl,e,q⟩:=h
 obtain ⟨u,rfl,rx⟩:=vals1 r
 have hl:=Pa
 have hs:sizeLine=16777216:=Nb
 cases x with
 | str y =>
  obtain ⟨t,rfl⟩:=rx
  obtain ⟨hy,e'⟩:y.length<=sizeLine/\n=y.length:=e
  subst e'
  exact len_str tb_g% ⟨.int _,H,I.tok _,⟨_,rfl⟩,q⟩
 | byt y =>
  obtain ⟨t,rfl⟩:=rx
  obtain ⟨hy,e'⟩:y.size<=sizeLine/\n=y.size:=e
  subst e'
  exact PySem.W.len_bytes tb_g% ⟨.int _,H,I.tok _,⟨_,rfl⟩,q⟩
 | ref p =>
  cases rx
  have e':(∃ xs,SqL X.K H p xs/\n=xs.length)\/∃ xs,SqT X.K H p xs/\n=xs.length:=e
  rcases e' with ⟨xs,hx,e'⟩ | ⟨xs,hx,e'⟩
  ·subst e'
   obtain ⟨its,r',pl,hz⟩:=I.list hx
   have hlen:=r'.length
   exact Calls.call_len_list pl.isList (by simp only [gH];lia) ⟨.int xs.length,H,I.tok _,⟨_,by simp only [gH];rw [hlen]⟩,q⟩
  ·subst e'
   obtain ⟨its,r',pl,hz⟩:=I.tuple hx
   have hlen:=r'.length
   exact len_tuple pl (by simp only [gH];lia) ⟨.int xs.length,H,I.tok _,⟨_,by simp only [gH];rw [hlen]⟩,q⟩
 | _=>exact (show False from e).elim
end
end L2
namespace L2
open PySem PySem.Spec PyProof.Rows
structure Y8 (h:Heap) (x dx C:Addr) (mA:Str->Option Value):Prop where
 obj:h.get? x=some (vq C dx)
 ns:h.Ns1 dx mA
 ne:dx≠x
theorem abK {h:Heap} {dx:Addr} {mA:Str->Option Value} (n:h.Ns1 dx mA):∃ od,h.get? dx=some od/\∀ name,MP name od=some (mA name):=by
 obtain ⟨o,es,ep,ho,hd,hk,_,hm⟩:=n
 refine ⟨o,ho,fun name=>?_⟩
 have e:=hm name
 unfold nsFind findBy at e
 rw [<- Array.find?_toList] at e
 unfold MP
 rw [hd]
 dsimp only
 split
 ·rename_i y q
  rw [q] at e
  exact congrArg some e
 ·rename_i q
  rw [q] at e
  have a:es.toList.any (·.refKey)=false:=by
   rw [List.any_eq_false]
   intro y hy
   obtain ⟨z,t,hkey⟩:=hk y (Array.mem_toList_iff.mp hy)
   simp [akV,hkey]
  have a':¬ es.toList.any (·.refKey)=true:=by rw [a];exact iM
  rw [if_neg a']
  exact congrArg some e
theorem Y8.look {h:Heap} {x dx C:Addr} {mA:Str->Option Value} (I:Y8 h x dx C mA):∃ od,PySem.W.InstAt h x (vq C dx) C (some od)/\∀ name,MP name od=some (mA name) :=
 let ⟨od,ho,hl⟩:=abK I.ns
 ⟨od,⟨I.obj,rfl,rfl,ho⟩,hl⟩
section
variable {prog:aV} {w:World} {A:bJ} {E:Value->Shared->Prop} {s:Shared} {K:aW} {x dx C f:Addr} {mA:Str->Option Value} {name:Str} {v:Value}
theorem get_map {expr:Bool} {Q:Value->Shared->Prop} (X:K.In s.heap) (I:Y8 s.heap x dx C mA) (hg:BR K C name=true) (hh:Gs K C=true)
  (ha:gJ K (.ref C) name=some none) (hv:mA name=some v) (hv':adz v=true) (h:Q v { s with toks:=s.toks+1 }) :
  wpAny (model prog w) A (getAttr (.ref x) name expr) Q E s:=by
 obtain ⟨od,J,hl⟩:=I.look
 exact PySem.W.get_value X J (Vc hg).1 (PySem.W.findObj_own hh ha rfl (by rw [hl,hv])) hv' h
theorem afw {pl:Sem Bool} {Q:Value × List Value->Shared->Prop} (X:K.In s.heap) (I:Y8 s.heap x dx C mA) (hg:BR K C name=true)
  (hf:gJ K (.ref C) name=some (some (.ref f))) (ht:Gx K (.ref f)=true) (hv:mA name=none) (h:Q (.ref f,[.ref x]) s) :
  wpAny (model prog w) A (Nh (.ref x) name pl) Q E s:=by
 obtain ⟨od,J,hl⟩:=I.look
 exact PySem.W.method_fn X J (Vc hg).1 (Vc hg).2 hf (beq_iff_eq.mp ht) (by show (MP name od).map (·.isSome)=some false;rw [hl,hv];rfl) h
theorem ahO {ns:List Str} {Q:Unit->Shared->Prop} (X:K.In s.heap) (I:Y8 s.heap x dx C mA)
  (hs:gJ K (.ref C) "__setattr__" = some (some (.builtin "object.__setattr__"))) (hp:MJ K C=true) (ht:Vh K C name=some none) (hh:Gs K C=true)
  (hw:Vx mA ns) (hsz:ns.length<=sizeLine)
  (h:∀ h',Y8 h' x dx C (fun y=>if y=name then some v else mA y)->Hh dx s.heap h'->Q () { s with heap:=h',toks:=s.toks+2 }) :
  wpAny (model prog w) A (setAttr (.ref x) name v) Q E s:=by
 obtain ⟨od,J,hl⟩:=I.look
 refine PySem.W.set_plain X J hs (PySem.W.osa_open (s:={ s with toks:=s.toks+1 }) (r:=none) X J hp ht fun b=>?_)
 obtain ⟨cd,hc,hd'⟩:=PySem.W.any_some hh
 have hx:s.heap.get? x=some ⟨.ref C,some dx,.plain,#[]⟩:=I.obj
 refine aR (bw (aR (aR (wpAny_loadPart hx (aR (akm (s:={ s with toks:=s.toks+1 }) (PySem.W.looks_clsIn X hc) ?_))))))
 rw [hd']
 refine bw (a:=some dx) (aR (bw (aR ?_)))
 refine wpAny_nsSet1 (s:={ s with toks:=s.toks+1 }) I.ns fun h' hn2 hs2=>?_
 obtain ⟨oD,esD,epD,hoD,hdD,hcD⟩:=hn2.count (akT name v hw)
 refine aR (wpAny_lookBehind hoD (by rw [hdD];exact pastItsLine_dict (fX hcD (by rw [jG];lia))) ?_)
 exact bw (h _ ⟨(hs2.2 _ (aP I.ne)).trans I.obj,hn2,I.ne⟩ hs2)
theorem afx {R:nP->Shared->Prop} {vs:List Value} {kw:List (Str × Value)} (X:K.In s.heap) (hm:MN K C=true)
  (hi:gJ K (.ref C) "__init__" = some (some (.ref f))) (hf:rC K (.ref f)=some (.type "function"))
  (h:gO (model prog w) (A.under (.builtin "type.__call__" ⟨.ref C::vs,kw⟩)) (.call (.ref f) ⟨.ref (s.heap.objs.size+1)::vs,kw⟩) (PySem.W.InitBack (s.heap.objs.size+1) R)
   { s with heap:=(s.heap.push zX).push (vq C s.heap.objs.size) }) :
  gO (model prog w) A (.call (.ref C) ⟨vs,kw⟩) R s:=by
 obtain ⟨hh,g,d,t,os⟩:=s
 exact PySem.W.make_core (PySem.W.makes_of X hm) (Mx X hi) (fun self=>PySem.W.bind_fn X self hf) (.inl rfl) h
end
noncomputable def aD (f:Str) (v:V):List (Str × V)->List (Str × V)
 | []=>[(f,v)]
 | (g,x)::r=>if g=f then (g,v)::r else (g,x)::aD f v r
theorem El (f g:Str) (v:V):∀ fs:List (Str × V),(aD f v fs).lookup g=if g=f then some v else fs.lookup g
 | []=>by
  show yt g [(f,v)]=_
  by_cases h:g=f
  ·have hb:(g == f)=true:=beq_iff_eq.mpr h
   simp only [yt,hb,if_pos h]
  ·have hb:(g == f)=false:=beq_eq_false_iff_ne.mpr h
   simp only [yt,hb,if_neg h]
 | (k,x)::r=>by
  have ih:=El f g v r
  rw [show aD f v ((k,x)::r)=(if k=f then (k,v)::r else (k,x)::aD f v r) from rfl]
  by_cases hk:k=f
  ·rw [if_pos hk]
   by_cases h:g=k
   ·have hb:(g == k)=true:=beq_iff_eq.mpr h
    simp only [yt,hb,if_pos (h.trans hk)]
   ·have hb:(g == k)=false:=beq_eq_false_iff_ne.mpr h
    simp only [yt,hb,if_neg (fun e:g=f=>h (e.trans hk.symm))]
  ·rw [if_neg hk]
   by_cases h:g=k
   ·have hb:(g == k)=true:=beq_iff_eq.mpr h
    simp only [yt,hb,if_neg (fun e:g=f=>hk (h.symm.trans e))]
   ·have hb:(g == k)=false:=beq_eq_false_iff_ne.mpr h
    simp only [yt,hb]
    exact ih
theorem Dd (f:Str) (v:V):∀ fs:List (Str × V),f∈(aD f v fs).map (·.1)/\∀ g,g∈fs.map (·.1)->g∈(aD f v fs).map (·.1)
 | []=>⟨by simp [aD],fun g h=>by simp at h⟩
 | (k,x)::r=>by
  obtain ⟨i1,i2⟩:=Dd f v r
  rw [show aD f v ((k,x)::r)=(if k=f then (k,v)::r else (k,x)::aD f v r) from rfl]
  by_cases hk:k=f
  ·rw [if_pos hk]
   subst hk
   exact ⟨by simp,fun g h=>by simpa using h⟩
  ·rw [if_neg hk]
   refine ⟨?_,fun g h=>?_⟩
   ·rw [jg]
    exact gY _ i1
   ·rw [jg] at h ⊢
    rcases cA.mp h with e | e
    ·exact cA.mpr (.inl e)
    ·exact gY _ (i2 g e)
theorem Em (f:Str) (v:V):∀ fs:List (Str × V),(aD f v fs).length<=fs.length+1
 | []=>by simp [aD]
 | (k,x)::r=>by
  have ih:=Em f v r
  rw [show aD f v ((k,x)::r)=(if k=f then (k,v)::r else (k,x)::aD f v r) from rfl]
  by_cases hk:k=f
  ·rw [if_pos hk,jG,jG];lia
  ·rw [if_neg hk,jG,jG];lia
theorem uY.some_of {v:V} {o:Option Value} (r:uY (some v) o):∃ u,o=some u/\RelV v u:=by
 cases o with
 | none=>exact (show False from r).elim
 | some u=>exact ⟨u,rfl,r⟩
theorem uY.none_of {o:Option Value} (r:uY none o):o=none:=by
 cases o with
 | none=>rfl
 | some u=>exact (show False from r).elim
theorem abL {v:V} {u:Value} (r:RelV v u):adz u=true:=by
 cases v with
 | non=>cases (show u=Value.none from r);rfl
 | bl b=>cases (show u=Value.bool b from r);rfl
 | int i=>obtain ⟨t,e⟩:=(show ∃ t,u=Value.int i t from r);cases e;rfl
 | str x=>obtain ⟨t,e⟩:=(show ∃ t,u=Value.str x t from r);cases e;rfl
 | byt b=>obtain ⟨t,e⟩:=(show ∃ t,u=Value.bytes b t from r);cases e;rfl
 | flt b=>obtain ⟨t,e⟩:=(show ∃ t,u=Value.float b t from r);cases e;rfl
 | ref a=>cases (show u=Value.ref a from r);rfl
 | ty n=>cases (show u=Value.type n from r);rfl
section
variable {P:aV} {w:World} {H H':Hp} {h h':Heap} {a C dx:Addr} {fs fs':List (Str × V)}
theorem FJ (hok:HOk P w H h) (e:H a=some (.ins C dx fs)):∃ mA,Y8 h a dx C mA/\(∀ f,uY (fs.lookup f) (mA f))/\Vx mA (fs.map (·.1))/\fs.length<=1000/\H dx=some (.own a):=by
 obtain ⟨d,z,ne,ob,mA,n,r,q⟩:=(show dO P w H h a (.ins C dx fs) from hok a _ e)
 exact ⟨mA,⟨ob,n,ne⟩,r,q,z,d⟩
end
structure Cls (K:aW) (C:Addr):Prop where
 pg:BR K C WT=true
 hd:Gs K C=true
 po:MJ K C=true
 sa:gJ K (.ref C) "__setattr__" = some (some (.builtin "object.__setattr__"))
theorem Cls.get {K:aW} {C:Addr} (c:Cls K C) (f:Str):BR K C f=true:=c.pg
noncomputable def cM (K:aW) (C:Addr) (f:Str):Prop:=gJ K (.ref C) f=some none
theorem cM.taker {K:aW} {C:Addr} {f:Str} (n:cM K C f):Vh K C f=some none:=by
 unfold Vh
 rw [show gJ K (.ref C) f=some none from n]
 rfl
structure Con (K:aW) (C:Addr) (f:Str) (v:V) (u:Value):Prop where
 at_:gJ K (.ref C) f=some (some u)
 rel:RelV v u
 get:BP K u "__get__" = some none
 cp:PySem.W.copiedNames.contains f=false
structure Meth (K:aW) (C:Addr) (m:Str) (f:Addr):Prop where
 at_:gJ K (.ref C) m=some (some (.ref f))
 fn:Gx K (.ref f)=true
 kp:vp K (.ref f)=true
section
variable {X:Cx} {pins:List (Addr × Obj)} {σ:St} {H:Hp} {s:Shared} {a C dx:Addr} {fs:List (Str × V)} {f:Str} {v:V} {A:bJ} {E:Value->Shared->Prop}
theorem Y9 {b:Bool} {Q:Value->Shared->Prop} (I:Inv X pins σ H s) (e:H a=some (.ins C dx fs)) (c:Cls X.K C) (n:cM X.K C f) (l:fs.lookup f=some v)
  (h:∀ u s',Inv X pins σ H s'->RelV v u->Q u s'):wpAny (model X.prog X.w) A (getAttr (.ref a) f b) Q E s:=by
 obtain ⟨mA,O,r,_,_,_⟩:=FJ I.hok e
 obtain ⟨u,hu,ru⟩:=uY.some_of (v:=v) (o:=mA f) (by rw [<- l];exact r f)
 exact get_map I.kIn O (c.get f) c.hd n hu (abL ru) (h u _ (I.tok _) ru)
theorem Ib {m:Str} {g:Addr} {pl:Sem Bool} {Q:Value × List Value->Shared->Prop} (I:Inv X pins σ H s) (e:H a=some (.ins C dx fs)) (c:Cls X.K C) (k:Meth X.K C m g) (l:fs.lookup m=none)
  (h:Q (.ref g,[.ref a]) s):wpAny (model X.prog X.w) A (Nh (.ref a) m pl) Q E s:=by
 obtain ⟨mA,O,r,_,_,_⟩:=FJ I.hok e
 have hn:mA m=none:=uY.none_of (by rw [<- l];exact r m)
 exact afw I.kIn O (c.get m) k.at_ k.fn hn h
theorem Za {y:V} {u:Value} {Q:Unit->Shared->Prop} (I:Inv X pins σ H s) (e:H a=some (.ins C dx fs)) (c:Cls X.K C) (n:cM X.K C f) (hl:fs.length<1000) (ry:RelV y u)
  (h:∀ s',Inv X pins σ (upd H a (.ins C dx (aD f y fs))) s'->Q () s'):wpAny (model X.prog X.w) A (setAttr (.ref a) f u) Q E s:=by
 obtain ⟨mA,O,r,wi,_,ho⟩:=FJ I.hok e
 have hz:(fs.map (·.1)).length<=sizeLine:=by rw [bK,Nb];lia
 refine ahO I.kIn O c.sa c.po n.taker c.hd wi hz fun h' O' sb=>h _ ?_
 have hd:∃ o,h'.get? dx=some o:=let ⟨o,_,_,e',_⟩:=O'.ns;⟨o,e'⟩
 refine I.write (x:=a) (e:=dx) (by rw [e];exact True.intro) (.inr ho) (fun b q hb z=>(sb.2 b hb).trans z) hd ?_
 refine ⟨by rw [aB O.ne];exact ho,?_,O.ne,O'.obj,_,O'.ns,fun g=>?_,fun g hg=>?_⟩
 ·have:=Em f y fs;lia
 ·show uY ((aD f y fs).lookup g) (if g=f then some u else mA g)
  rw [El]
  by_cases q:g=f
  ·rw [if_pos q,if_pos q];exact ry
  ·rw [if_neg q,if_neg q];exact r g
 ·by_cases q:g=f
  ·rw [q];exact (Dd f y fs).1
  ·refine (Dd f y fs).2 g (wi g fun z=>hg ?_)
   show (if g=f then some u else mA g)=none
   rw [if_neg q];exact z
theorem Inv.made (I:Inv X pins σ H s):Inv X pins σ (upd (upd H s.heap.objs.size (.own (s.heap.objs.size+1))) (s.heap.objs.size+1) (.ins C s.heap.objs.size []))
  { s with heap:=(s.heap.push zX).push (vq C s.heap.objs.size) }:=by
 have e1:(s.heap.push zX).get? s.heap.objs.size=some zX:=iC s.heap rfl
 have e2:((s.heap.push zX).push (vq C s.heap.objs.size)).get? (s.heap.objs.size+1)=some (vq C s.heap.objs.size):=by
  have:=iC (s.heap.push zX) (o:=vq C s.heap.objs.size) rfl
  rwa [Cq] at this
 have e3:(s.heap.push zX).Ns s.heap.objs.size (fun _=>none):=⟨zX,#[],_,e1,rfl,(fun e he=>absurd he (by simp)),fun _=>rfl⟩
 have I1:=I.laid (a:=s.heap.objs.size) (o:=.own (s.heap.objs.size+1)) (h':=s.heap.push zX) (t':=s.toks) (fun b u q=>gK _ q) (cJ _) ⟨_,e1⟩
 refine I1.laid (a:=s.heap.objs.size+1) (o:=.ins C s.heap.objs.size []) (t':=s.toks) (fun b u q=>gK _ q) (NQ (Cq _ _)) ?_
 have ne:s.heap.objs.size≠s.heap.objs.size+1:=cW (Hj _)
 refine ⟨by rw [aB ne,ak],bZ _,ne,e2,fun _=>none,(akU e3).at fun o q=>gK _ q,fun _=>True.intro,fun y hy=>absurd rfl hy⟩
theorem ahP {prog:aV} {w:World} {env:Env} {e:Expr} {f:Str} {pos:Pos} {s:Shared} {Q:Value->Shared->Prop} (hb:yE e f env (eval e env)=eval e env)
  (h:wpAny (model prog w) A (eval e env) (fun o s₁=>wpAny (model prog w) A (getAttr o f true) Q E s₁) E s):wpAny (model prog w) A (eval (.Attribute e f pos) env) Q E s :=
 Attribute_any_ h (by rw [arm_eval_Attribute,hb])
end
noncomputable def rFld (K:aW) (f:Str) (x:V) (H1:Hp) (Q:VK):Prop:=∃ a C dx fs v,x = .ref a/\H1 a=some (.ins C dx fs)/\Cls K C/\cM K C f/\fs.lookup f=some v/\Q v H1
@[reducible] noncomputable def tFld (K:aW) (ta:TE) (f:Str):TE:=fun σ H Q=>ta σ H fun x H1=>rFld K f x H1 Q
noncomputable def sFld (K:aW) (ta tv:TE) (f:Str):TS:=fun D σ H=>tv σ H fun y H1=>ta σ H1 fun x H2=>∃ a C dx fs,x = .ref a/\H2 a=some (.ins C dx fs)/\Cls K C/\cM K C f/\fs.length<1000 /\
 D.nx σ (upd H2 a (.ins C dx (aD f y fs)))
section
variable {X:Cx} {o e value:Expr} {f:Str} {pos pos' tpos:Pos} {ta tv:TE}
theorem aJ (he:PE X e ta) (hb:yE e f X.env (eval e X.env)=eval e X.env):PE X (.Attribute e f pos) (tFld X.K ta f):=by
 walk_at "n"
 refine ahP hb (thn (he pins s σ H _ I h) fun u s1 ⟨x,H1,I1,rx,a,C,dx,fs,v,ex,ea,c,n,l,q⟩=>?_)
 subst ex
 obtain rfl:u=Value.ref a:=rx
 exact Y9 I1 ea c n l fun u' s2 I2 ru=>⟨v,H1,I2,ru,q⟩
theorem bN (ha:PE X o ta) (hv:PE X value tv) (hs:yG value (some (.Attribute o f pos')) pos.line X.env=pure false):PS X (.Assign [.Attribute o f pos'] value pos) (sFld X.K ta tv f):=by
 intro pins s σ H D I h
 refine plainObj_wpAny_Assign_Attribute (thn (hv pins s σ H _ I h) fun u s1 ⟨y,H1,I1,ry,q⟩=>thn (ha pins s1 σ H1 _ I1 q) fun ov s2 ⟨x,H2,I2,rx,a,C,dx,fs,ex,ea,c,n,l,q2⟩=>?_) hs
 subst ex
 obtain rfl:ov=Value.ref a:=rx
 exact Za I2 ea c n l ry fun s3 I3=>⟨σ,_,I3,q2⟩
end
section
variable {X:Cx} {pins:List (Addr × Obj)} {σ:St} {H:Hp} {s:Shared} {A:bJ} {E:Value->Shared->Prop} {Q:Value->Shared->Prop} {c:Value} {b:Bool}
inductive xM (K:aW) (H:Hp):V->Value->Prop where
 | non:xM K H .non (.type "NoneType")
 | bl (x:Bool):xM K H (.bl x) (.type "bool")
 | int (i:Int):xM K H (.int i) (.type "int")
 | str (x:Str):xM K H (.str x) (.type "str")
 | flt (x:UInt64):xM K H (.flt x) (.type "float")
 | lst {a:Addr} {xs:List V} (e:H a=some (.lst xs)):xM K H (.ref a) (.type "list")
 | frz {a:Addr} {o:Obj} {xs:List V} (e:H a=some (.frz o (.lst xs))):xM K H (.ref a) (.type "list")
 | tup {a:Addr} {xs:List V} (e:H a=some (.tup xs)):xM K H (.ref a) (.type "tuple")
 | dK {a:Addr} {kvs:List (Key × V)} (e:H a=some (.dK kvs)):xM K H (.ref a) (.type "dict")
 | dT {a:Addr} {kvs:List (List Key × V)} (e:H a=some (.dT kvs)):xM K H (.ref a) (.type "dict")
 | ins {a C dx:Addr} {fs:List (Str × V)} (e:H a=some (.ins C dx fs)) (cl:Cls K C) (ha:gJ K (.ref C) "__class__" = some (some (.builtin "object.__class__")))
   (hn:BP K (.builtin "object.__class__") "__get__" = some (some (.builtin "getset_descriptor.__get__"))) (htk:Gu K (.builtin "object.__class__")=some true)
   (hm:iK K C (.type "object")=some true):xM K H (.ref a) (.ref C)
theorem abM {x:V} {u t:Value} (I:Inv X pins σ H s) (rx:RelV x u) (ty:xM X.K H x t) (e:fJ X.K t c=some b) (h:∀ tk,Q (.bool b) { s with toks:=tk }) :
  wpAny (model X.prog X.w) A (call (.builtin "isinstance") [u,c]) Q E s:=by
 cases ty with
 | non=>cases (show u=Value.none from rx);exact uL PySem.W.kitx_none I.kIn True.intro e (fun z=>nomatch z) h
 | bl y=>cases (show u=Value.bool y from rx);exact uL PySem.W.kitx_bool I.kIn True.intro e (fun z=>nomatch z) h
 | int i=>obtain ⟨t,q⟩:=(show ∃ t,u=Value.int i t from rx);cases q;exact uL PySem.W.kitx_int I.kIn True.intro e (fun z=>nomatch z) h
 | str y=>obtain ⟨t,q⟩:=(show ∃ t,u=Value.str y t from rx);cases q;exact uL PySem.W.kitx_str I.kIn True.intro e (fun z=>nomatch z) h
 | flt y=>obtain ⟨t,q⟩:=(show ∃ t,u=Value.float y t from rx);cases q;exact uL PySem.W.kitx_float I.kIn True.intro e (fun z=>nomatch z) h
 | @lst a xs ea =>
  cases (show u=Value.ref a from rx)
  obtain ⟨_,_,n,_,h1⟩:=(show dO X.prog X.w H s.heap a (.lst xs) from I.hok a _ ea)
  exact uL adx I.kIn ⟨_,h1,rfl⟩ e (fun z=>nomatch z) h
 | @frz a ob xs ea =>
  cases (show u=Value.ref a from rx)
  obtain ⟨_,_,_,n,_,h1⟩:=(show dO X.prog X.w H s.heap a (.frz ob (.lst xs)) from I.hok a _ ea)
  exact uL adx I.kIn ⟨_,h1,rfl⟩ e (fun z=>nomatch z) h
 | @tup a xs ea =>
  cases (show u=Value.ref a from rx)
  obtain ⟨_,_,_,p⟩:=(show dO X.prog X.w H s.heap a (.tup xs) from I.hok a _ ea)
  obtain ⟨o,h1,h2,_⟩:=p
  exact uL PySem.W.kitx_tuple I.kIn ⟨o,h1,h2⟩ e (fun z=>nomatch z) h
 | @dK a kvs ea =>
  cases (show u=Value.ref a from rx)
  obtain ⟨_,_,vs,_,p⟩:=(show dO X.prog X.w H s.heap a (.dK kvs) from I.hok a _ ea)
  obtain ⟨o,es,ep,h1,h2,_⟩:=p
  exact uL ady I.kIn ⟨o,h1,h2.1⟩ e (fun z=>nomatch z) h
 | @dT a kvs ea =>
  cases (show u=Value.ref a from rx)
  obtain ⟨_,_,xs,_,o,es,ep,h1,h2,_⟩:=(show dO X.prog X.w H s.heap a (.dT kvs) from I.hok a _ ea)
  exact uL ady I.kIn ⟨o,h1,h2.1⟩ e (fun z=>nomatch z) h
 | @ins a C dx fs ea cl ha hn htk hm =>
  cases (show u=Value.ref a from rx)
  obtain ⟨mA,O,_⟩:=FJ I.hok ea
  obtain ⟨od,J,_⟩:=O.look
  exact uL (PySem.W.kitx_own (cl.get _) cl.hd ha hn htk hm) I.kIn J e (fun z=>nomatch z) h
end
end L2
namespace L2
open PySem PySem.Spec PyProof.Rows
structure jQ (k:Nat) (A:bJ):Prop where
 hd:A.handled=none
 dp:A.depth+3*k+5<recursionLimit
 un:A.units+16*k+200<cLine
theorem jQ.mono {j k:Nat} {A:bJ} (r:jQ k A) (h:j<=k):jQ j A:=⟨r.hd,by have:=r.dp;lia,by have:=r.un;lia⟩
theorem jQ.deeper {k:Nat} {A:bJ} (r:jQ (k+1) A) (env:Env):jQ k (A.deeper env) :=
 ⟨r.hd,by have:=r.dp;show A.depth+1+3*k+5<_;lia,by have:=r.un;show A.units+3+16*k+200<_;lia⟩
theorem jQ.in1 {k:Nat} {A:bJ} (r:jQ (k+1) A):jQ k A.in1 :=
 ⟨r.hd,by have:=r.dp;show A.depth+3*k+5<_;lia,by have:=r.un;show A.units+1+16*k+200<_;lia⟩
theorem Zb {A:bJ} {C:Addr} {us:List Value} {kw:List (Str × Value)}:(A.under (.builtin "type.__call__" ⟨.ref C::us,kw⟩)).depth=A.depth+1:=by
 first | rfl | simp [WM,Code.weight,Code.isCreation,Code.isGuard,Code.isCaller,ae4,W5,guardIds]
theorem Zc {A:bJ} {C:Addr} {us:List Value} {kw:List (Str × Value)}:(A.under (.builtin "type.__call__" ⟨.ref C::us,kw⟩)).units=A.units+1:=by
 first | rfl | simp [WM,Code.cUnits,ae4,W5]
theorem jQ.make {k:Nat} {A:bJ} (r:jQ (k+1) A) (C:Addr) (us:List Value) (kw:List (Str × Value)):jQ k (A.under (.builtin "type.__call__" ⟨.ref C::us,kw⟩)) :=
 ⟨r.hd,by have:=r.dp;rw [Zb];lia,by have:=r.un;rw [Zc];lia⟩
theorem jQ.depth {k:Nat} {A:bJ} (r:jQ k A):A.depth<recursionLimit:=by have:=r.dp;lia
theorem jQ.units {k:Nat} {A:bJ} (r:jQ k A):A.units+64<cLine:=by have:=r.un;lia
@[reducible] noncomputable def tNil:TA:=fun _ H Q=>Q [] H
@[reducible] noncomputable def ajj (ta:TE) (tr:TA):TA:=fun σ H Q=>ta σ H fun x H1=>tr σ H1 fun xs H2=>Q (x::xs) H2
section
variable {X:Cx} {e:Expr} {es:List Expr} {te:TE} {t:TA} {pos:Pos}
theorem aA:PA X [] tNil:=fun _ _ _ _ H Q I h=>CJ ⟨[],H,I,.nil,h⟩
theorem aj (ha:PE X e te) (hr:PA X es t) (hs:dH (e::es) X.env=(false,eval e X.env)::dH es X.env:=by rfl):PA X (e::es) (ajj te t):=by
 intro pos pins s σ H Q I h
 rw [hs]
 show wpAny _ _ (spliced ((false,eval e X.env)::iD pos (dH es X.env))) _ _ s
 refine yV (thn (ha pins s σ H _ I h) fun u s1 ⟨x,H1,I1,r1,q1⟩=>?_)
 exact thn (hr pos pins s1 σ H1 _ I1 q1) fun us s2 ⟨xs,H2,I2,r2,q2⟩=>⟨x::xs,H2,I2,.cons r1 r2,q2⟩
noncomputable def tTup (t:TA):TE:=fun σ H Q=>t σ H fun xs H1=>xs.length<=sizeLine/\∀ p,H1 p=none->Q (.ref p) (upd H1 p (.tup xs))
noncomputable def tLst (t:TA):TE:=fun σ H Q=>t σ H fun xs H1=>xs.length<=sizeLine/\∀ p,H1 p=none->Q (.ref p) (upd H1 p (.lst xs))
theorem eE {x1} (h:PA X es t):PE X (.Tuple es x1 pos) (tTup t):=by
 intro pins s σ H Q I hq
 refine wpAny_Tuple_spliced (thn (h pos pins s σ H _ I hq) fun us s1 ⟨xs,H1,I1,r,z,q⟩=>⟨by rw [<- r.length];exact z,?_⟩)
 have hf:H1 s1.heap.objs.size=none:=I1.hok.fresh (cJ _)
 refine ⟨.ref s1.heap.objs.size,upd H1 s1.heap.objs.size (.tup xs),I1.laid (t':=s1.toks) (fun b u e=>gK _ e) (cJ _) ?_,rfl,q _ hf⟩
 exact ⟨z,us,r,⟨_,iC _ rfl,rfl,_,rfl⟩⟩
theorem cN (h:PA X es t):PE X (.List es pos) (tLst t):=by
 intro pins s σ H Q I hq
 refine wpAny_List_spliced (thn (h pos pins s σ H _ I hq) fun us s1 ⟨xs,H1,I1,r,z,q⟩=>⟨by rw [<- r.length];exact z,?_⟩)
 have hf:H1 s1.heap.objs.size=none:=I1.hok.fresh (cJ _)
 refine ⟨.ref s1.heap.objs.size,upd H1 s1.heap.objs.size (.lst xs),I1.laid (t':=s1.toks) (fun b u e=>gK _ e) (cJ _) ?_,rfl,q _ hf⟩
 exact ⟨z,us,0,r,iC _ rfl⟩
end
noncomputable abbrev Sp:=List V->Hp->VK->XK->Prop
noncomputable abbrev CXT:=List Env->Hp->Shared->XK->Value->Shared->Prop
structure Ka (P:aV) (w:World) (K:aW) (mg:Str->Option Value) (base:Heap) (A:bJ) (outer:List Env) (s:Shared) (H:Hp):Prop where
 frames:A.frames=some outer
 mod:Mod K mg base
 bs:∀ b o,base.get? b=some o->s.heap.get? b=some o/\H b=none
 bsz:base.objs.size<=s.heap.objs.size
 yX:s.heap.FunFrames base outer
 frf:∀ b∈frs outer,H b=none
 hok:HOk P w H s.heap
 bare:rF s.gens
noncomputable def CE (outer:List Env) (P:aV) (w:World) (H:Hp) (s:Shared) (Q:VK) (u:Value) (s':Shared):Prop :=
 ∃ v H',s'.os=s.os/\rF s'.gens/\Un (frs outer) [] H H' s.heap s'.heap/\HOk P w H' s'.heap/\RelV v u/\Q v H'
noncomputable def CR (CX:CXT) (outer:List Env) (P:aV) (w:World) (H:Hp) (s:Shared) (Q:VK) (E:XK) (r:nP) (s':Shared):Prop :=
 match r with
 | .ok (.ret u)=>CE outer P w H s Q u s'
 | .ok _=>False
 | .error e=>CX outer H s E e s'
structure cg (P:aV) (w:World) (K:aW) (mg:Str->Option Value) (base:Heap) (CX:CXT) (k:Nat) (f:Addr) (fd:FuncData) (ps:List Str) (sp:Sp):Prop where
 len:∀ vs H Q E,sp vs H Q E->vs.length=ps.length
 run:∀ (A:bJ) (outer:List Env) (s:Shared) (H:Hp) (args:Args) (us:List Value) (vs:List V) (Q:VK) (E:XK),jQ k A->Ka P w K mg base A outer s H->Cj s fd args (ps.zip us)->Vals vs us->sp vs H Q E ->
  gO (model P w) A (.call (.ref f) args) (CR CX outer P w H s Q E) s
theorem cg.imp {P:aV} {w:World} {K:aW} {mg:Str->Option Value} {base:Heap} {CX:CXT} {k:Nat} {f:Addr} {fd:FuncData} {ps:List Str} {sp sp':Sp} (F:cg P w K mg base CX k f fd ps sp)
  (h:∀ vs H Q E,sp' vs H Q E->sp vs H Q E):cg P w K mg base CX k f fd ps sp' :=
 ⟨fun vs H Q E q=>F.len vs H Q E (h _ _ _ _ q),fun A outer s H args us vs Q E hr he hb hv hs=>F.run A outer s H args us vs Q E hr he hb hv (h _ _ _ _ hs)⟩
theorem Ka.make {P:aV} {w:World} {K:aW} {mg:Str->Option Value} {base:Heap} {A:bJ} {outer:List Env} {s:Shared} {H:Hp} (e:Ka P w K mg base A outer s H) (C:Addr) (us:List Value) (kw:List (Str × Value)) :
  Ka P w K mg base (A.under (.builtin "type.__call__" ⟨.ref C::us,kw⟩)) outer s H:=⟨by first | exact e.frames | (simpa [WM,Code.envs,W5,pushEnvs] using e.frames),e.mod,e.bs,e.bsz,e.yX,e.frf,e.hok,e.bare⟩
theorem Ka.in1 {P:aV} {w:World} {K:aW} {mg:Str->Option Value} {base:Heap} {A:bJ} {outer:List Env} {s:Shared} {H:Hp} (e:Ka P w K mg base A outer s H) :
  Ka P w K mg base A.in1 outer s H:=⟨e.frames,e.mod,e.bs,e.bsz,e.yX,e.frf,e.hok,e.bare⟩
section
variable {X:Cx} {pins:List (Addr × Obj)} {σ:St} {H:Hp} {s s':Shared}
theorem Inv.env0 (I:Inv X pins σ H s):Ka X.prog X.w X.K X.mg X.base X.A X.stack s H :=
 ⟨I.ok.frames,I.ok.mod,I.bs,fX I.ok.bsz I.sz,I.stack,I.wR,I.hok,I.bare⟩
theorem Inv.after {Q:VK} {u:Value} (I:Inv X pins σ H s) (h:CE X.stack X.prog X.w H s Q u s'):EP X pins σ Q u s':=by
 obtain ⟨v,H',os,bare,un,hok,r,q⟩:=h
 obtain ⟨hh,g,d,t,os'⟩:=s'
 obtain rfl:os'=s.os:=os
 exact ⟨v,H',I.call (h':=hh) (g':=g) (d':=d) (t':=t) (ch:=[]) un hok bare (fun b z=>absurd z (by simp)),r,q⟩
end
@[reducible] noncomputable def ajk (sp:Sp) (dvs:List V) (E:XK) (t:TA):TE:=fun σ H Q=>t σ H fun vs H1=>sp (vs++dvs) H1 Q E
@[reducible] noncomputable def ajl (C:Addr) (m:Str) (sp:Sp) (dvs:List V) (E:XK) (ta:TE) (t:TA):TE:=fun σ H Q=>ta σ H fun x H1=>∃ a dx fs,x = .ref a/\H1 a=some (.ins C dx fs)/\fs.lookup m=none /\
 t σ H1 fun vs H2=>sp (x::(vs++dvs)) H2 Q E
noncomputable def tMake (C:Addr) (sp:Sp) (dvs:List V) (E:XK) (t:TA):TE:=fun σ H Q=>t σ H fun vs H1=>∀ x dx,H1 x=none->H1 dx=none->dx≠x ->
 sp (.ref x::(vs++dvs)) (upd (upd H1 dx (.own x)) x (.ins C dx [])) (fun v H2=>v = .non/\Q (.ref x) H2) E
noncomputable def Binds (K:aW) (fd:FuncData) (ps:List Str) (ds:List Value):Prop :=
 ∀ (s:Shared) (us:List Value),K.In s.heap->(us++ds).length=ps.length->Cj s fd ⟨us,[]⟩ (ps.zip (us++ds))
theorem Binds.all {K:aW} {fd:FuncData} {ps:List Str} (h:∀ us:List Value,us.length=ps.length->vC fd ⟨us,[]⟩=pure (ps.zip us)):Binds K fd ps []:=fun s us _ hl=>by
 rw [vf] at hl ⊢
 exact .of_eq (h us hl)
noncomputable def Passes (CX:CXT) (X:Cx) (E:XK):Prop:=∀ (pins:List (Addr × Obj)) (σ:St) (H:Hp) (s:Shared) (e:Value) (s':Shared),Inv X pins σ H s->CX X.stack H s E e s'->X.xe e s'
section
variable {X:Cx} {CX:CXT} {k:Nat} {f C:Addr} {fd:FuncData} {ps:List Str} {sp:Sp} {dvs:List V} {ds:List Value} {E:XK} {x m:Str} {p pos apos:Pos} {e o:Expr} {es:List Expr} {ta:TE} {t:TA}
theorem Pg {pins:List (Addr × Obj)} {σ:St} {H:Hp} {s:Shared} {Q:VK} {us:List Value} {vs:List V} (F:cg X.prog X.w X.K X.mg X.base CX k f fd ps sp) (hr:jQ k X.A) (hb:Binds X.K fd ps ds) (hd:Vals dvs ds) (hx:Passes CX X E)
  (I:Inv X pins σ H s) (r:Vals vs us) (h:sp (vs++dvs) H Q E):wpAny (model X.prog X.w) X.A (call (.ref f) us) (EP X pins σ Q) X.xe s:=by
 have r2:Vals (vs++dvs) (us++ds):=r.append hd
 have hl:(us++ds).length=ps.length:=by rw [<- r2.length];exact F.len _ _ _ _ h
 refine Ce (GQ (F.run X.A X.stack s H ⟨us,[]⟩ (us++ds) (vs++dvs) Q E hr I.env0 (hb s us I.kIn hl) r2 h) fun r s' hq=>?_)
 cases r with
 | error e=>exact hx pins σ H s e s' I hq
 | ok fl =>
  cases fl with
  | ret u=>exact I.after hq
  | next=>exact lO hq
  | brk=>exact lO hq
  | cont=>exact lO hq
theorem bQ (F:cg X.prog X.w X.K X.mg X.base CX k f fd ps sp) (hr:jQ k X.A) (hg:Gl X x) (hm:X.mg x=some (.ref f)) (hk:vp X.K (.ref f)=true) (hb:Binds X.K fd ps ds) (hd:Vals dvs ds) (hx:Passes CX X E)
  (ha:PA X (e::es) t) (hdb:(x == ("__debug__" : Str))=false:=by decide) (he:dH (e::es) X.env=(false,eval e X.env)::dH es X.env:=by rfl) (hpl:(iD pos (dH es X.env)).any (·.1)=false:=by rfl) :
  PE X (.Call (.Name x p) (e::es) [] pos) (ajk sp dvs E t):=by
 walk_at "n"
 refine zY (tZ I hg hm ?_ hdb)
 refine MF (h₀:=X.base) I.ok.mod.kin hk (thn (ha pos pins s σ H _ I h) fun us s1 ⟨vs,H1,I1,r,q⟩=>⟨I1.kIn,?_⟩) he hpl
 exact Pg F hr hb hd hx I1 r q
theorem afy (F:cg X.prog X.w X.K X.mg X.base CX k f fd ps sp) (hr:jQ k X.A) (hg:Gl X x) (hm:X.mg x=some (.ref f)) (hk:vp X.K (.ref f)=true) (hb:Binds X.K fd ps ds) (hd:Vals dvs ds) (hx:Passes CX X E)
  (hdb:(x == ("__debug__" : Str))=false:=by decide):PE X (.Call (.Name x p) [] [] pos) (ajk sp dvs E tNil):=by
 walk_at "n"
 refine zY (tZ I hg hm ?_ hdb)
 exact adw I.kIn hk (Pg (us:=[]) F hr hb hd hx I .nil h)
theorem bA {pl:Sem Bool} (he:PE X o ta) (c:Cls X.K C) (hm:Meth X.K C m f) (F:cg X.prog X.w X.K X.mg X.base CX k f fd ps sp) (hr:jQ k X.A) (hb:Binds X.K fd ps ds) (hd:Vals dvs ds) (hx:Passes CX X E) (ha:PA X (e::es) t)
  (hst:dH (e::es) X.env=(false,eval e X.env)::dH es X.env:=by rfl) (hpl:(iD pos (dH es X.env)).any (·.1)=false:=by rfl)
  (ht:eval (.Call (.Attribute o m apos) (e::es) [] pos) X.env=(do
   let ov <- eval o X.env
   Nk apos.atName
   let (f,first) <- Ci [ov] (Nh ov m pl)
   callWith pos f first (iD pos (dH (e::es) X.env)) (Hf pos (GR [] X.env))):=by rfl) :
  PE X (.Call (.Attribute o m apos) (e::es) [] pos) (ajl C m sp dvs E ta t):=by
 walk_at "n"
 refine adv (pl:=pl) (thn (he pins s σ H _ I h) fun u s1 ⟨x,H1,I1,rx,a,dx,fs,ex,ea,l,q⟩=>?_) ht
 subst ex
 obtain rfl:u=Value.ref a:=rx
 refine Ib I1 ea c hm l ?_
 refine MF (first:=[.ref a]) (h₀:=X.base) I.ok.mod.kin hm.kp (thn (ha pos pins s1 σ H1 _ I1 q) fun us s2 ⟨vs,H2,I2,r,q2⟩=>⟨I2.kIn,?_⟩) hst hpl
 exact Pg (us:=.ref a::us) (vs:=.ref a::vs) F hr hb hd hx I2 (.cons rfl r) q2
theorem p8 {pl:Sem Bool} (he:PE X o ta) (c:Cls X.K C) (hm:Meth X.K C m f) (F:cg X.prog X.w X.K X.mg X.base CX k f fd ps sp) (hr:jQ k X.A) (hb:Binds X.K fd ps ds) (hd:Vals dvs ds) (hx:Passes CX X E)
  (ht:eval (.Call (.Attribute o m apos) [] [] pos) X.env=(do
   let ov <- eval o X.env
   Nk apos.atName
   let (f,first) <- Ci [ov] (Nh ov m pl)
   callWith pos f first (iD pos (dH [] X.env)) (Hf pos (GR [] X.env))):=by rfl) :
  PE X (.Call (.Attribute o m apos) [] [] pos) (ajl C m sp dvs E ta tNil):=by
 walk_at "n"
 refine adv (pl:=pl) (thn (he pins s σ H _ I h) fun u s1 ⟨x,H1,I1,rx,a,dx,fs,ex,ea,l,q⟩=>?_) ht
 subst ex
 obtain rfl:u=Value.ref a:=rx
 refine Ib I1 ea c hm l ?_
 exact adw (first:=[.ref a]) I1.kIn hm.kp (Pg (us:=[.ref a]) (vs:=[.ref a]) F hr hb hd hx I1 (.cons rfl .nil) q)
structure Mk (K:aW) (C f:Addr):Prop where
 makes:MN K C=true
 init:gJ K (.ref C) "__init__" = some (some (.ref f))
 fn:Gx K (.ref f)=true
 kp:vp K (.ref C)=true
theorem afz {pins:List (Addr × Obj)} {σ:St} {H:Hp} {s:Shared} {Q:VK} {us:List Value} {vs:List V} (M:Mk X.K C f) (F:cg X.prog X.w X.K X.mg X.base CX k f fd ps sp) (hr:jQ (k+1) X.A) (hb:Binds X.K fd ps ds) (hd:Vals dvs ds)
  (hx:Passes CX X E) (I:Inv X pins σ H s) (r:Vals vs us)
  (h:∀ x dx,H x=none->H dx=none->dx≠x->sp (.ref x::(vs++dvs)) (upd (upd H dx (.own x)) x (.ins C dx [])) (fun v H2=>v = .non/\Q (.ref x) H2) E) :
  wpAny (model X.prog X.w) X.A (call (.ref C) us) (EP X pins σ Q) X.xe s:=by
 have hq:=h (s.heap.objs.size+1) s.heap.objs.size (I.hok.fresh (nQ _)) (I.hok.fresh (cJ _)) (cW (Hj _))
 have I2:=Inv.made (C:=C) I
 have r2:Vals (V.ref (s.heap.objs.size+1)::(vs++dvs)) (Value.ref (s.heap.objs.size+1)::(us++ds)):=.cons rfl (r.append hd)
 have hl:(Value.ref (s.heap.objs.size+1)::us++ds).length=ps.length:=by
  have e:=r2.length
  rw [F.len _ _ _ _ hq] at e
  exact e.symm
 refine Ce (afx (f:=f) I.kIn M.makes M.init (beq_iff_eq.mp M.fn) (GQ (F.run _ X.stack _ _ ⟨Value.ref (s.heap.objs.size+1)::us,[]⟩ (Value.ref (s.heap.objs.size+1)::(us++ds)) _ _ E (hr.make C us [])
  (I2.env0.make C us []) (hb _ (Value.ref (s.heap.objs.size+1)::us) I2.kIn hl) r2 hq) fun r s' hq'=>?_))
 cases r with
 | error e=>exact hx pins σ _ _ e s' I2 hq'
 | ok fl =>
  cases fl with
  | ret u =>
   obtain ⟨v,H',I3,rv,ev,q3⟩:=I2.after hq'
   subst ev
   exact ⟨rv,⟨V.ref (s.heap.objs.size+1),H',I3,rfl,q3⟩⟩
  | next=>exact lO hq'
  | brk=>exact lO hq'
  | cont=>exact lO hq'
theorem qU (M:Mk X.K C f) (F:cg X.prog X.w X.K X.mg X.base CX k f fd ps sp) (hr:jQ (k+1) X.A) (hg:Gl X x) (hm:X.mg x=some (.ref C)) (hb:Binds X.K fd ps ds) (hd:Vals dvs ds) (hx:Passes CX X E)
  (ha:PA X (e::es) t) (hdb:(x == ("__debug__" : Str))=false:=by decide) (he:dH (e::es) X.env=(false,eval e X.env)::dH es X.env:=by rfl) (hpl:(iD pos (dH es X.env)).any (·.1)=false:=by rfl) :
  PE X (.Call (.Name x p) (e::es) [] pos) (tMake C sp dvs E t):=by
 walk_at "n"
 refine zY (tZ I hg hm ?_ hdb)
 refine MF (h₀:=X.base) I.ok.mod.kin M.kp (thn (ha pos pins s σ H _ I h) fun us s1 ⟨vs,H1,I1,r,q⟩=>⟨I1.kIn,?_⟩) he hpl
 exact afz M F hr hb hd hx I1 r q
end
section
variable {X:Cx} {CX:CXT} {k:Nat} {f C:Addr} {fd:FuncData} {ps ks:List Str} {sp:Sp} {E:XK} {x m:Str} {p pos apos kpos:Pos} {e o:Expr} {es:List Expr} {kws:List yI} {te ta:TE} {t tk:TA} {nm:Option Str}
structure KBinds (K:aW) (fd:FuncData) (ps ks:List Str) (g:List Value->List Value->List Value) (gV:List V->List V->List V):Prop where
 to:∀ (s:Shared) (us ws:List Value),K.In s.heap->(g us ws).length=ps.length->Cj s fd ⟨us,ks.zip ws⟩ (ps.zip (g us ws))
 rel:∀ {vs:List V} {us:List Value} {zs:List V} {ws:List Value},Vals vs us->Vals zs ws->Vals (gV vs zs) (g us ws)
variable {g:List Value->List Value->List Value} {gV:List V->List V->List V}
end
structure aM (N P:List Str) (sc:Scope):Prop where
 kind:sc.kind = .function
 co:sc.isCoroutine=false
 gen:sc.isGenerator=false
 nd:N.Nodup
 pre:N.take P.length=P
 par:∀ x∈P,sc.names.lookup x=some .local\/sc.names.lookup x=some .cell
 ak8:∀ y∈sc.names,y.2 ≠ .free
theorem KR {kindOf:Str->Option yH} {x:Str}:∀ {binds:List (Str × Value)} {m:Str->Option Value},(∀ v,(x,v)∉binds)->bindL kindOf binds m x=m x
 | [],_,_=>rfl
 | (n,v)::r,m,h=>by
  unfold bindL
  rw [KR fun w hw=>h w (gY _ hw)]
  split
  ·have:x≠n:=by rintro rfl;exact h v gq
   simp [this]
  ·rfl
theorem KY {kindOf:Str->Option yH} {x:Str}:∀ {binds:List (Str × Value)} {m:Str->Option Value},(∀ v,(x,v)∉binds)->bindC kindOf binds m x=m x
 | [],_,_=>rfl
 | (n,v)::r,m,h=>by
  unfold bindC
  rw [KY fun w hw=>h w (gY _ hw)]
  split
  ·rfl
  ·have:x≠n:=by rintro rfl;exact h v gq
   simp [this]
theorem KZ {kindOf:Str->Option yH} {x:Str} {v:Value}:∀ {P:List Str} {vs:List Value} {i:Nat} {m:Str->Option Value},P.Nodup->P[i]? = some x->vs[i]? = some v->kindOf x=some .local ->
  bindL kindOf (P.zip vs) m x=some v
 | [],_,_,_,_,h,_,_=>by simp at h
 | _::_,[],_,_,_,_,h,_=>by simp at h
 | p::P,w::vs,0,m,nd,h1,h2,hk=>by
  simp at h1 h2;subst h1;subst h2
  show bindL kindOf ((p,w)::P.zip vs) m p=_
  unfold bindL
  rw [KR fun v hv=>(vg.mp nd).1 (U3 hv).1,if_pos hk]
  simp
 | p::P,w::vs,i+1,m,nd,h1,h2,hk=>by
  show bindL kindOf ((p,w)::P.zip vs) m x=_
  unfold bindL
  exact KZ (i:=i) (vg.mp nd).2 (by simpa using h1) (by simpa using h2) hk
theorem K3 {kindOf:Str->Option yH} {x:Str} {v:Value}:∀ {P:List Str} {vs:List Value} {i:Nat} {m:Str->Option Value},P.Nodup->P[i]? = some x->vs[i]? = some v->kindOf x≠some .local ->
  bindC kindOf (P.zip vs) m x=some v
 | [],_,_,_,_,h,_,_=>by simp at h
 | _::_,[],_,_,_,_,h,_=>by simp at h
 | p::P,w::vs,0,m,nd,h1,h2,hk=>by
  simp at h1 h2;subst h1;subst h2
  show bindC kindOf ((p,w)::P.zip vs) m p=_
  unfold bindC
  rw [KY fun v hv=>(vg.mp nd).1 (U3 hv).1,if_neg hk]
  simp
 | p::P,w::vs,i+1,m,nd,h1,h2,hk=>by
  show bindC kindOf ((p,w)::P.zip vs) m x=_
  unfold bindC
  exact K3 (i:=i) (vg.mp nd).2 (by simpa using h1) (by simpa using h2) hk
noncomputable def start (N:List Str) (vs:List V):St:=vs.map some++Gq (N.length-vs.length) none
noncomputable def za (CX:CXT) (P:aV) (w:World) (K:aW) (mg:Str->Option Value) (base:Heap) (N:List Str) (qual:Str) (scope:Scope) (f:Addr) (cd:Value) (A:bJ) (outer:List Env) (s:Shared) (H:Hp) (E:XK):Cx where
 prog:=P
 w:=w
 K:=K
 mg:=mg
 base:=base
 A:=A.deeper (lC qual scope s.heap.objs.size f cd)
 N:=N
 s₀:=s
 H₀:=H
 env:=lC qual scope s.heap.objs.size f cd
 outer:=outer
 stack:=lC qual scope s.heap.objs.size f cd::outer
 ex:=[]
 calm:=true
 fn:=fun _=>true
 pn:=[]
 xe:=fun e s'=>wpAny (model P w) (A.deeper (lC qual scope s.heap.objs.size f cd)) (leaving (lC qual scope s.heap.objs.size f cd) e) (fun _ s''=>CX outer H s E e s'') (fun e' s''=>CX outer H s E e' s'') s'
theorem RZ {sc:Scope} {n:Nat} {x:Str} (h:sc.names.lookup x=some .cell):∃ c,(VN n sc.names []).lookup x=some c:=by
 have q:=adu sc.names n [] (.inl h)
 exact aeM.mp q
theorem abN {CX:CXT} {P:aV} {w:World} {K:aW} {mg:Str->Option Value} {base:Heap} {N ps:List Str} {qual:Str} {scope:Scope} {f:Addr} {cd:Value} {A:bJ} {outer:List Env} {s s1:Shared} {H:Hp} {E:XK} {us:List Value} {vs:List V}
  (S:aM N ps scope) (hd:A.handled=none) (e0:Ka P w K mg base A outer s H) (hl:vs.length=ps.length) (r:Vals vs us)
  (x:InCallC s s.heap.objs.size (bindL (lC qual scope s.heap.objs.size f cd).kindOf (ps.zip us) fun _=>none) (VN (s.heap.objs.size+1) scope.names []) (bindC (lC qual scope s.heap.objs.size f cd).kindOf (ps.zip us) fun _=>none) s1) :
  Inv (za CX P w K mg base N qual scope f cd A outer s H E) [] (start N vs) H s1:=by
 have hpl:ps.length<=N.length:=by have:=congrArg pJ S.pre;rw [jf] at this;lia
 obtain ⟨h1,tk,rfl,hk⟩:=x.done
 have noA:∀ b:Addr,b∉(za CX P w K mg base N qual scope f cd A outer s H E).ex:=fun b z=>absurd (show b∈([]:List Addr) from z) (by simp)
 refine ⟨⟨e0.mod,S.kind,rfl,rfl,cJ _,fun y z c h1 h2=>?_,fun y hy=>?_,fun y c _ h=>?_,fun _=>hd,Around.frames_deeper e0.frames,.inr ⟨rfl,rfl⟩,fun b z=>absurd z (noA b),e0.bs,e0.bsz,fun b _ _=>noA b,fun b z=>absurd z (noA b),e0.yX,e0.frf⟩,
  rfl,e0.bare,Un.kept hk,⟨_,x.toInCall.ns,fun i y v h1 h2 h3=>?_⟩,fun y c h=>⟨_,x.cell y c h⟩,e0.hok.fresh (cJ _),fun y c h=>?_,fun p hp=>absurd (show p∈([]:List (Addr × Obj)) from hp) (by simp),e0.hok.kept hk,?_⟩
 ·exact name_of_addr x.apart (BX h1) (BX h2)
 ·have hy:scope.names.lookup y=some .cell\/scope.names.lookup y=some .free:=hy
  rcases hy with hy | hy
  ·exact RZ hy
  ·exact absurd rfl (S.ak8 _ (BX hy))
 ·exact pL (x.above y c (BX h))
 ·have hi:i<vs.length:=by
   unfold start at h2
   by_cases hi:i<vs.length
   ·exact hi
   ·rw [zU (by simpa using hi)] at h2
    rw [acV] at h2
    split at h2 <;> cases h2
  have ha:vs[i]? = some v:=by
   unfold start at h2
   rw [Gi (by simpa using hi),jN] at h2
   cases e:vs[i]? with
   | none=>rw [e] at h2;cases h2
   | some a=>rw [e] at h2;cases h2;rfl
  obtain ⟨u,hu,rv⟩:=r.get ha
  have hp:ps[i]? = some y:=by
   rw [<- S.pre,List.getElem?_take_of_lt tb_g%];exact h1
  have ndP:ps.Nodup:=by rw [<- S.pre];exact S.nd.sublist (ada _ _)
  refine ⟨u,rv,?_⟩
  rcases S.par y (List.mem_of_getElem? hp) with k | k
  ·exact .inl ⟨k,KZ ndP hp hu k⟩
  ·obtain ⟨c,e⟩:=RZ (n:=s.heap.objs.size+1) k
   refine .inr ⟨.inl k,c,e,?_⟩
   have q:=x.cell y c e
   rw [K3 ndP hp hu (by show scope.names.lookup y≠_;rw [k];decide)] at q
   exact q
 ·exact e0.hok.fresh (pL (x.above y c (BX h)))
 ·unfold start
  show _=N.length
  rw [eV,bK,Bw]
  lia
theorem ajm {CX:CXT} {P:aV} {w:World} {K:aW} {mg:Str->Option Value} {base:Heap} {k:Nat} {f:Addr} {name qual:Str} {params:Arguments} {body:List Stmt} {scope:Scope} {dV kV doc pm cdv ct oc:Value} {an od:Option Addr}
  {osl:Array (Option Value)} {N ps:List Str} {sp:Sp} (lk:K.lookup f=some ⟨oc,od,.func (qM name qual params body scope dV kV doc pm an cdv ct),osl⟩) (hcd:Gv K cdv qual=true) (S:aM N ps scope)
  (len:∀ vs H Q E,sp vs H Q E->vs.length=ps.length)
  (hbody:∀ (A:bJ) (outer:List Env) (s:Shared) (H:Hp) (vs:List V) (Q:VK) (E:XK),jQ k (A.deeper (lC qual scope s.heap.objs.size f cdv))->sp vs H Q E ->
   ∃ t,PSs (za CX P w K mg base N qual scope f cdv A outer s H E) body t/\t { nx:=fun _ H'=>Q .non H',rt:=Q } (start N vs) H) :
  cg P w K mg base CX (k+1) f (qM name qual params body scope dV kV doc pm an cdv ct) ps sp:=by
 refine ⟨len,fun A outer s H args us vs Q E hr e0 hb r hsp=>?_⟩
 have hl:=len _ _ _ _ hsp
 have KX:K.In s.heap:=e0.mod.kin.keeps fun b o e=>(e0.bs b o e).1
 have lim:s.heap.NoLimit:=e0.mod.nolimit.keeps fun b o e=>(e0.bs b o e).1
 have hkind:∀ y∈ps.zip us,scope.names.lookup y.1=some .local\/(scope.names.lookup y.1=some .cell/\((VN (s.heap.objs.size+1) scope.names []).lookup y.1).isSome=true):=fun ⟨n,v⟩ hy=>by
  rcases S.par n (U3 hy).1 with q | q
  ·exact .inl q
  ·exact .inr ⟨q,adu _ _ _ (.inl q)⟩
 refine codeAny_call_function hr.depth (KX _ _ lk) rfl S.co S.gen rfl (PySem.W.codeRec_of KX hcd) (hb _ _ _ _ ?_)
 refine wpAny_newFunctionEnv_cells S.kind hkind fun env he s1 x=>?_
 subst he
 refine ⟨lim.keeps x.toInCall.keep,codeAny_func ?_⟩
 obtain ⟨t,ht,hq⟩:=hbody A outer s H vs Q E (hr.deeper _) hsp
 have I:Inv (za CX P w K mg base N qual scope f cdv A outer s H E) [] (start N vs) H s1:=abN S hr.hd e0 hl r x
 refine dW (ht [] s1 (start N vs) H _ I hq) (fun fl s' hs=>?_) fun e s' hs=>hs
 have fin:∀ {σ':St} {H':Hp} {v:V} {u:Value},Inv (za CX P w K mg base N qual scope f cdv A outer s H E) [] σ' H' s'->RelV v u->Q v H'->CE outer P w H s Q u s' :=
  fun {σ' H' v u} J rv q=>⟨v,H',J.os,J.bare,J.base,J.hok,rv,q⟩
 cases fl with
 | ret u =>
  obtain ⟨v,σ',H',J,rv,q⟩:=hs
  exact fin J rv q
 | next =>
  obtain ⟨σ',H',J,q⟩:=hs
  exact fin (v:=V.non) (u:=Value.none) J rfl q
 | brk =>
  obtain ⟨_,_,_,q⟩:=hs
  exact lO q
 | cont =>
  obtain ⟨_,_,_,q⟩:=hs
  exact lO q
end L2
namespace L2
open PySem PySem.Spec PyProof.Rows
section
variable {X:Cx} {x:Str} {p pos:Pos} {e:Expr} {es:List Expr} {t:TA} {id T:String} {r:List V->Hp->VK->Prop}
@[reducible] noncomputable def tCB (r:List V->Hp->VK->Prop) (t:TA):TE:=fun σ H Q=>t σ H fun vs H1=>r vs H1 Q
theorem bU (hc:iu X (.builtin id) r) (hg:Gl X x) (hm:X.mg x=none) (hv:Ca x=some (.builtin id)) (ha:PA X (e::es) t) (hn:x ≠ "__name__" := by decide) (hdb:(x == ("__debug__" : Str))=false:=by decide)
  (he:dH (e::es) X.env=(false,eval e X.env)::dH es X.env:=by rfl) (hpl:(iD pos (dH es X.env)).any (·.1)=false:=by rfl):PE X (.Call (.Name x p) (e::es) [] pos) (tCB r t):=by
 walk_at "n"
 refine zY (pW I hg hm hv ?_ hn hdb)
 exact ajU (thn (ha pos pins s σ H _ I h) fun us s1 ⟨vs,H1,I1,r1,q1⟩=>hc pins s1 σ H1 vs us Q I1 r1 q1) he hpl
theorem wW (hc:iu X (.type T) r) (hg:Gl X x) (hm:X.mg x=none) (hv:Ca x=some (.type T)) (ha:PA X (e::es) t) (hn:x ≠ "__name__" := by decide) (hdb:(x == ("__debug__" : Str))=false:=by decide)
  (he:dH (e::es) X.env=(false,eval e X.env)::dH es X.env:=by rfl) (hpl:(iD pos (dH es X.env)).any (·.1)=false:=by rfl):PE X (.Call (.Name x p) (e::es) [] pos) (tCB r t):=by
 walk_at "n"
 refine zY (pW I hg hm hv ?_ hn hdb)
 exact KD (thn (ha pos pins s σ H _ I h) fun us s1 ⟨vs,H1,I1,r1,q1⟩=>hc pins s1 σ H1 vs us Q I1 r1 q1) he hpl
end
end L2
namespace HT
open PySem PyProof.Rows
section
open PySem.SeqAt
open PySem.AutoSeq1 (wpAny_loadPart')
open PySem.MeetsSeq PySem.MeetsSeq2 PySem.MeetsSeq3
end
section
variable {prog:aV} {w:World} {A:bJ} {E:Value->Shared->Prop} {s:Shared}
noncomputable def sIx (n d:Nat):Option Int->Nat
 | none=>d
 | some v=>if v<0 then (v+(n:Int)).toNat else min v.toNat n
end
end HT
namespace L2
open PySem PySem.Spec PyProof.Rows
noncomputable abbrev TO:=St->Hp->(Option Int->Hp->Prop)->Prop
noncomputable def PO (X:Cx) (e:Option Expr) (t:TO):Prop :=
 ∀ (pins:List (Addr × Obj)) (s:Shared) (σ:St) (H:Hp) (Q:Option Int->Hp->Prop),Inv X pins σ H s->t σ H Q ->
  wpAny (model X.prog X.w) X.A (evalPart e X.env) (fun u s'=>∃ o H',Inv X pins σ H' s'/\IsPart u o/\Q o H') X.xe s
noncomputable def ahQ:TO:=fun _ H Q=>Q none H
noncomputable def tPart (t:TE):TO:=fun σ H Q=>t σ H fun x H1=>∃ i,x = .int i/\Q (some i) H1
theorem intsAre_of {ns:List Int}:∀ {us:List Value},Vals (ns.map V.int) us->je us ns:=by
 induction ns with
 | nil=>intro us r;rw [Mv] at r;cases r;exact .nil
 | cons n ns ih =>
  intro us r
  rw [jg] at r
  cases r with
  | cons r1 r2 =>
   obtain ⟨t,e⟩:=r1
   subst e
   exact .cons n t (ih r2)
section
variable {X:Cx} {e:Expr} {te:TE} {lo hi:Option Expr} {tl th:TO} {pos p2:Pos}
theorem Ab:PO X none ahQ:=by
 walk_at "n"
 rw [adU]
 exact bw ⟨none,H,I,.none,h⟩
theorem qW (h:PE X e te):PO X (some e) (tPart te):=by
 intro pins s σ H Q I hw
 rw [evalPart_some]
 refine thn (h pins s σ H _ I hw) fun u s1 ⟨x,H1,I1,r1,q1⟩=>?_
 obtain ⟨i,rfl,q⟩:=q1
 obtain ⟨t,rfl⟩:=r1
 exact ⟨some i,H1,I1,.int i t,q⟩
noncomputable def SlR (X:Cx) (r:V->Option Int->Option Int->Hp->VK->Prop):Prop :=
 ∀ (pins:List (Addr × Obj)) (s:Shared) (σ:St) (H:Hp) (x:V) (v vl vu:Value) (lo hi:Option Int) (sl:Addr) (Q:VK),Inv X pins σ H s->RelV x v->s.heap.IsSliceOf sl vl vu .none->IsPart vl lo->IsPart vu hi->r x lo hi H Q ->
  ∃ T id,VG (.type T) "__getitem__" = pure (some (.builtin id))/\s.TypeIs v T/\wpAny (model X.prog X.w) X.A (Nm v (.ref sl)) (EP X pins σ Q) X.xe s
noncomputable def tSl (r:V->Option Int->Option Int->Hp->VK->Prop) (te:TE) (tl th:TO):TE:=fun σ H Q=>te σ H fun x H1=>tl σ H1 fun l H2=>th σ H2 fun u H3=>r x l u H3 Q
theorem vV {r:V->Option Int->Option Int->Hp->VK->Prop} (hr:SlR X r) (he:PE X e te) (hl:PO X lo tl) (hu:PO X hi th):PE X (.Subscript e (.Slice lo hi none p2) pos) (tSl r te tl th):=by
 walk_at "n"
 refine Wj (thn (he pins s σ H _ I h) fun v s1 ⟨x,H1,I1,r1,q1⟩=>?_)
 refine wpAny_Slice (thn (hl pins s1 σ H1 _ I1 q1) fun vl s2 ⟨l,H2,I2,pl,q2⟩=>thn (hu pins s2 σ H2 _ I2 q2) fun vu s3 ⟨u,H3,I3,pu,q3⟩=>?_)
 rw [adU]
 refine bw ?_
 have I4:Inv X pins σ H3 { s3 with heap:=s3.heap.push { cls:=.type "slice",data:=.fields #[vl,vu,.none] } }:=I3.kept (t':=s3.toks) fun b ob q=>gK _ q
 obtain ⟨T,id,hT,ht,hg⟩:=hr pins { s3 with heap:=s3.heap.push { cls:=.type "slice",data:=.fields #[vl,vu,.none] } } σ H3 x v vl vu l u s3.heap.objs.size Q I4 r1 (ae1 ..) pl pu q3
 show wpAny (model X.prog X.w) X.A (Ob e (.Slice lo hi none p2) v (.ref s3.heap.objs.size)) (EP X pins σ Q) X.xe { s3 with heap:=s3.heap.push { cls:=.type "slice",data:=.fields #[vl,vu,.none] } }
 exact tail_any (ops:=[.ref s3.heap.objs.size,v]) ht hT hg (by with_unfolding_all rfl)
noncomputable def Ie (xs:List V) (lo hi:Option Int):List V:=(xs.drop (HT.sIx xs.length 0 lo)).take (HT.sIx xs.length xs.length hi-HT.sIx xs.length 0 lo)
theorem R4 (xs:List V) (lo hi:Option Int):(Ie xs lo hi).length<=xs.length:=by
 unfold Ie
 rw [jf,BK]
 lia
end
end L2
namespace L2
open PySem PySem.Spec PyProof.Rows
noncomputable def ixN (n:Nat) (i:Int):Option Nat:=if 0<=i then (if i<n then some i.toNat else none) else if -(n:Int)<=i then some (i+n).toNat else none
noncomputable def atI {α:Type} (xs:List α) (i:Int):Option α:=(ixN xs.length i).bind fun j=>xs[j]?
theorem aaE {n:Nat} {i:Int} {j:Nat} (h:ixN n i=some j):seqIndex? i n=some j/\j<n /\ -(n:Int)<=i/\i<n:=by
 unfold ixN at h
 by_cases h0:0<=i
 ·rw [if_pos h0] at h
  by_cases h1:i<n
  ·rw [if_pos h1] at h
   have e:i.toNat=j:=cX h
   exact ⟨by rw [Vz h0 h1,e],by lia,by lia,h1⟩
  ·rw [if_neg h1] at h;cases h
 ·rw [if_neg h0] at h
  by_cases h1:-(n:Int)<=i
  ·rw [if_pos h1] at h
   have e:(i+n).toNat=j:=cX h
   exact ⟨by rw [Vy tb_g% h1,e],by lia,h1,by lia⟩
  ·rw [if_neg h1] at h;cases h
theorem aaF {α:Type} {xs:List α} {i:Int} {v:α} (h:atI xs i=some v):∃ j,seqIndex? i xs.length=some j/\xs[j]? = some v/\j<xs.length /\ -(xs.length:Int)<=i/\i<xs.length:=by
 unfold atI at h
 cases e:ixN xs.length i with
 | none=>rw [e] at h;cases h
 | some j =>
  rw [e] at h
  obtain ⟨h1,h2,h3,h4⟩:=aaE e
  exact ⟨j,h1,h,h2,h3,h4⟩
theorem Ph {α:Type} {xs:List α} {j:Nat} {v:α} (h:xs[j]? = some v):atI xs (j:Int)=some v:=by
 have hj:j<xs.length:=(jK.mp h).1
 have e:ixN xs.length (j:Int)=some j:=by
  unfold ixN
  rw [if_pos tb_g%,if_pos tb_g%];simp
 unfold atI;rw [e];exact h
noncomputable def ahR (b:Expr):Prop:=∀ o i,VB b false o i=operate [o,i] (Nm o i)
noncomputable def IxR (X:Cx) (r:R2):Prop :=
 ∀ (value slice:Expr) (pins:List (Addr × Obj)) (s:Shared) (σ:St) (H:Hp) (x y:V) (v u:Value) (Q:VK),Inv X pins σ H s->RelV x v->RelV y u->r x y H Q ->
  VB slice false v u=operate [v,u] (Nm v u)->wpAny (model X.prog X.w) X.A (Ob value slice v u) (EP X pins σ Q) X.xe s
noncomputable def MtR (X:Cx) (id:String) (r:V->List V->Hp->VK->Prop):Prop :=
 ∀ (pins:List (Addr × Obj)) (s:Shared) (σ:St) (H:Hp) (x:V) (xs:List V) (v:Value) (us:List Value) (Q:VK),Inv X pins σ H s->RelV x v->Vals xs us->r x xs H Q ->
  wpAny (model X.prog X.w) X.A (call (.builtin id) (v::us)) (EP X pins σ Q) X.xe s
section
variable {X:Cx} {a b:Expr} {ta tb:TE} {pos:Pos}
theorem IxR.or {r r':R2} (h:IxR X r) (h':IxR X r'):IxR X (fun x y H Q=>r x y H Q\/r' x y H Q):=by
 intro value slice pins s σ H x y v u Q I rx ry q hs
 rcases q with q | q
 ·exact h value slice pins s σ H x y v u Q I rx ry q hs
 ·exact h' value slice pins s σ H x y v u Q I rx ry q hs
theorem bO {r:R2} (hr:IxR X r) (ha:PE X a ta) (hb:PE X b tb) (hs:ahR b):PE X (.Subscript a b pos) (tOp r ta tb):=by
 walk_at "n"
 exact Wj (binT ha hb I h fun v u s2 x y H2 I2 rx ry q=>hr a b pins s2 σ H2 x y v u Q I2 rx ry q (hs _ _))
noncomputable def rIxL (K:aW):R2:=fun x y H Q=>∃ p xs i v,x = .ref p/\y = .int i/\SqL K H p xs/\atI xs i=some v/\Q v H
noncomputable def rIxT (K:aW):R2:=fun x y H Q=>∃ p xs i v,x = .ref p/\y = .int i/\SqT K H p xs/\atI xs i=some v/\Q v H
theorem ahS:IxR X (rIxL X.K):=by
 intro value slice pins s σ H x y v u Q I rx ry h hs
 obtain ⟨p,xs,i,z,rfl,rfl,hq,he,q⟩:=h
 cases rx
 obtain ⟨t,rfl⟩:=ry
 obtain ⟨its,r,pl,hz⟩:=I.list hq
 obtain ⟨j,h1,h2,h3,h4,h5⟩:=aaF he
 obtain ⟨w,ew,rw'⟩:=r.get h2
 have hl:=r.length
 have hn:=Pa
 have fin:EP X pins σ Q w s:=⟨z,H,I,rw',q⟩
 by_cases h0:0<=i
 ·have hj:i.toNat=j:=by
   rw [Vz h0 h5] at h1
   exact cX h1
  exact item_listR pl.isList h0 tb_g% (by rw [hj];simpa using ew) fin hs
 ·have hj:(i+(its.toArray.size:Int)).toNat=j:=by
   rw [Vy tb_g% h4] at h1
   rw [gH,<- hl]
   exact cX h1
  exact ad8 (x:=w) pl.isList.typeIs Vr.lookup
   (wpAny_getItem_list_neg (Q:=fun r s'=>r=w/\EP X pins σ Q r s') pl.isList tb_g% (by rw [gH] <;> lia) tb_g% (by rw [hj];simpa using ew) ⟨rfl,fin⟩) hs
theorem ak9:IxR X (rIxT X.K):=by
 intro value slice pins s σ H x y v u Q I rx ry h hs
 obtain ⟨p,xs,i,z,rfl,rfl,hq,he,q⟩:=h
 cases rx
 obtain ⟨t,rfl⟩:=ry
 obtain ⟨its,r,pl,hz⟩:=I.tuple hq
 obtain ⟨j,h1,h2,h3,h4,h5⟩:=aaF he
 obtain ⟨w,ew,rw'⟩:=r.get h2
 have hl:=r.length
 have hn:=Pa
 have fin:EP X pins σ Q w s:=⟨z,H,I,rw',q⟩
 exact ad8 (x:=w) pl.typeIs slot_tuple_getitem.lookup
  (getItem_tuple (j:=j) (Q:=fun r s'=>r=w/\EP X pins σ Q r s') pl tb_g% tb_g% (by rw [gH,<- hl];exact h1) (by simpa using ew) ⟨rfl,fin⟩) hs
theorem Zd (its:List Value) (n j:Nat) (u:Value):iQ (·.setIfInBounds j u) { cls:=.type "list",data:=.seq its.toArray n }={ cls:=.type "list",data:=.seq (its.set j u).toArray n }:=by
 simp [iQ]
theorem Inv.lst {pins:List (Addr × Obj)} {σ:St} {H:Hp} {s:Shared} {p:Addr} {xs:List V} (I:Inv X pins σ H s) (h:H p=some (.lst xs)) :
  ∃ (its:List Value) (n:Nat),Vals xs its/\s.heap.get? p=some { cls:=.type "list",data:=.seq its.toArray n }/\xs.length<=sizeLine:=by
 obtain ⟨z,its,n,r,e⟩:=I.hok p _ h
 exact ⟨its,n,r,e,z⟩
theorem Inv.ala {pins:List (Addr × Obj)} {σ:St} {H:Hp} {s:Shared} {p:Addr} {xs ys:List V} {its its':List Value} {n n':Nat} {f:Obj->Obj} (I:Inv X pins σ H s) (h:H p=some (.lst xs))
  (ho:s.heap.get? p=some { cls:=.type "list",data:=.seq its.toArray n }) (hf:f { cls:=.type "list",data:=.seq its.toArray n }={ cls:=.type "list",data:=.seq its'.toArray n' }) (r:Vals ys its') (hz:ys.length<=sizeLine) (t:Nat) :
  Inv X pins σ (upd H p (.lst ys)) { s with heap:=s.heap.update p f,toks:=t }:=by
 have e:(s.heap.update p f).get? p=some { cls:=.type "list",data:=.seq its'.toArray n' }:=by
  rw [Cp f ho (by rw [hf] <;> rfl),hf]
 refine I.write (x:=p) (e:=p) (by rw [h];trivial) (.inl rfl) (fun b u hb q=>(rY _ _ (aP hb)).trans q) ⟨_,e⟩ ?_
 exact ⟨hz,its',n',r,e⟩
noncomputable def ajn:V->V->V->Hp->(Hp->Prop)->Prop:=fun o i v H Q=>∃ p xs k j,o = .ref p/\i = .int k/\H p=some (.lst xs)/\ixN xs.length k=some j/\Q (upd H p (.lst (xs.set j v)))
theorem set_list:PSet X ajn:=by
 intro pins s σ H o i v ov iv u Q I ro ri rv h
 obtain ⟨p,xs,k,j,rfl,rfl,hp,hj,q⟩:=h
 cases ro
 obtain ⟨t,rfl⟩:=ri
 obtain ⟨its,n,r,ho,hz⟩:=I.lst hp
 obtain ⟨h1,h2,h3,h4⟩:=aaE hj
 have hl:=r.length
 have hn:=Pa
 have I':Inv X pins σ (upd H p (.lst (xs.set j v))) { s with heap:=s.heap.update p (iQ (·.setIfInBounds j u)) } :=
  I.ala hp ho (Zd its n j u) (r.set rv j) (by rw [mq];exact hz) s.toks
 by_cases h0:0<=k
 ·have hk:k.toNat=j:=by
   rw [Vz h0 h4] at h1
   exact cX h1
  exact PySem.W.ki_setAt ho h0 tb_g% (by rw [gH,<- hl];exact h4) (by rw [hk];exact ⟨_,I',q⟩)
 ·have hk:(k+(its.toArray.size:Int)).toNat=j:=by
   rw [Vy tb_g% h3] at h1
   rw [gH,<- hl]
   exact cX h1
  exact PySem.W.ki_setBack ho tb_g% (by rw [gH,<- hl];exact h3) tb_g% (by rw [hk];exact ⟨_,I',q⟩)
theorem Pj (lo hi:Option Int) (n:Nat):(pK lo hi none n).1=((HT.sIx n 0 lo:Nat):Int)/\(pK lo hi none n).2.1=((HT.sIx n n hi:Nat):Int)/\(pK lo hi none n).2.2=1:=by
 refine ⟨?_,?_,rfl⟩
 ·cases lo with
  | none=>simp [pK,HT.sIx]
  | some i =>
   simp only [pK,HT.sIx,aeO,show (1:Int)>0 by decide,if_true]
   by_cases h:i<0
   ·simp only [h,if_true] <;> lia
   ·simp only [h,if_false] <;> lia
 ·cases hi with
  | none=>simp [pK,HT.sIx]
  | some i =>
   simp only [pK,HT.sIx,aeO,show (1:Int)>0 by decide,if_true]
   by_cases h:i<0
   ·simp only [h,if_true] <;> lia
   ·simp only [h,if_false] <;> lia
theorem Kc (its:List Value) (lo hi:Option Int):G9 its.toArray lo hi none=((its.drop (HT.sIx its.length 0 lo)).take (HT.sIx its.length its.length hi-HT.sIx its.length 0 lo)).toArray:=by
 obtain ⟨h1,h2,h3⟩:=Pj lo hi its.toArray.size
 unfold G9
 rw [h1,h2,h3]
 simp only [sliceRange_one,pick_run,gH] <;> rfl
noncomputable def rSlL (K:aW):V->Option Int->Option Int->Hp->VK->Prop:=fun x lo hi H Q=>∃ a xs,x = .ref a/\SqL K H a xs/\∀ p,H p=none->Q (.ref p) (upd H p (.lst (Ie xs lo hi)))
theorem Ac:SlR X (rSlL X.K):=by
 intro pins s σ H x v vl vu lo hi sl Q I rx hs pl pu h
 obtain ⟨a,xs,rfl,hx,q⟩:=h
 cases rx
 obtain ⟨its,r,ht,hz⟩:=I.list hx
 have hlen:=r.length
 refine ⟨"list",_,Vr.lookup,ht.isList.typeIs,?_⟩
 refine adG ht.isList hs pl pu .none (by simp) ?_ (by rw [gH] <;> lia)
 rw [Kc,<- hlen]
 refine ⟨.ref s.heap.objs.size,_,I.laid (t':=s.toks) (o:=.lst (Ie xs lo hi)) (fun b ob q=>gK _ q) (cJ _) ?_,rfl,q _ (I.hok.fresh (cJ _))⟩
 exact ⟨fX (R4 xs lo hi) hz,_,0,(r.drop (HT.sIx xs.length 0 lo)).take (HT.sIx xs.length xs.length hi-HT.sIx xs.length 0 lo),iC _ rfl⟩
noncomputable def sJ:V->Bool
 | .non=>true
 | .bl _=>true
 | .int _=>true
 | .str _=>true
 | _=>false
noncomputable def eqV:V->V->Bool
 | .non,.non=>true
 | .bl a,.bl b=>a == b
 | .bl a,.int b=>(if a then 1 else 0) == b
 | .int a,.bl b=>a == (if b then 1 else 0)
 | .int a,.int b=>a == b
 | .str a,.str b=>a == b
 | _,_=>false
theorem Pk {A:bJ} {s:Shared} {y x:V} {u v:Value} (ry:RelV y u) (rx:RelV x v) (fy:sJ y=true) (fx:sJ x=true):vM A s u v (eqV y x):=by
 cases y with
 | non =>
  cases ry
  cases x with
  | non=>cases rx;exact WX _
  | bl b=>cases rx;exact aj0 b
  | int b=>obtain ⟨t,rfl⟩:=rx;exact aj3 b t
  | str b=>obtain ⟨t,rfl⟩:=rx;exact aj4 b t
  | _=>exact absurd (show false=true from fx) iM
 | bl a =>
  cases ry
  cases x with
  | non=>cases rx;exact aj1 a
  | bl b=>cases rx;exact aj2 a b
  | int b=>obtain ⟨t,rfl⟩:=rx;exact aj5 a b t
  | str b=>obtain ⟨t,rfl⟩:=rx;exact aj6 a b t
  | _=>exact absurd (show false=true from fx) iM
 | int a =>
  obtain ⟨t',rfl⟩:=ry
  cases x with
  | non=>cases rx;exact aj7 a t'
  | bl b=>cases rx;exact aj8 a t' b
  | int b=>obtain ⟨t,rfl⟩:=rx;exact akc a t' b t
  | str b=>obtain ⟨t,rfl⟩:=rx;exact aeV a t' b t
  | _=>exact absurd (show false=true from fx) iM
 | str a =>
  obtain ⟨t',rfl⟩:=ry
  cases x with
  | non=>cases rx;exact aj9 a t'
  | bl b=>cases rx;exact akb a t' b
  | int b=>obtain ⟨t,rfl⟩:=rx;exact aeW a t' b t
  | str b=>obtain ⟨t,rfl⟩:=rx;exact akd a t' b t
  | _=>exact absurd (show false=true from fx) iM
 | _=>exact absurd (show false=true from fy) iM
noncomputable def eqU (x:V) (u:Value):Bool:=match u with
 | .none=>eqV .non x
 | .bool b=>eqV (.bl b) x
 | .int i _=>eqV (.int i) x
 | .str z _=>eqV (.str z) x
 | _=>false
theorem afA {x y:V} {u:Value} (r:RelV y u) (f:sJ y=true):eqU x u=eqV y x:=by
 cases y with
 | non=>cases r;rfl
 | bl b=>cases r;rfl
 | int i=>obtain ⟨t,rfl⟩:=r;rfl
 | str z=>obtain ⟨t,rfl⟩:=r;rfl
 | _=>exact absurd (show false=true from f) iM
theorem Ae {x:V}:∀ {xs:List V} {us:List Value},Vals xs us->xs.all sJ=true->us.any (eqU x)=xs.any fun y=>eqV y x
 | _,_,.nil,_=>rfl
 | y::xs,u::us,.cons r t,f=>by
  rw [U7,Wo] at f
  rw [vm,vm,afA r f.1,Ae t f.2]
theorem vW {A:bJ} {s:Shared} {x:V} {v:Value} (rx:RelV x v) (fx:sJ x=true):∀ {xs:List V} {us:List Value},Vals xs us->xs.all sJ=true->∀ u∈us,vM A s u v (eqU x u)
 | _,_,.nil,_=>fun u hu=>by cases hu
 | y::xs,u::us,.cons r t,f=>fun u' hu=>by
  rw [U7,Wo] at f
  rcases cA.mp hu with rfl | hu
  ·rw [afA r f.1];exact Pk r rx f.1 fx
  ·exact vW rx fx t f.2 u' hu
noncomputable def inV (x:V) (xs:List V):Bool:=xs.any fun y=>eqV y x
noncomputable def rIn (K:aW) (neg:Bool):R2:=fun x y H Q=>∃ p xs,y = .ref p/\(SqL K H p xs\/SqT K H p xs)/\sJ x=true/\xs.all sJ=true/\Q (.bl (if neg then !inV x xs else inV x xs)) H
theorem abO:OpR X (jO .In) (rIn X.K false):=by
 walk_at "l"
 obtain ⟨p,xs,rfl,hq,fx,fs,q⟩:=h
 cases ry
 rcases hq with hq | hq
 ·obtain ⟨its,r,pl,hz⟩:=I.list hq
  refine SeqAt.in_listAt (eqU x) pl.isList (fun w hw=>vW rx fx r fs w (by simpa using hw)) ⟨.bl _,H,I,rfl,?_⟩
  rw [show its.toArray.any (eqU x)=its.any (eqU x) by simp,Ae r fs]
  exact q
 ·obtain ⟨its,r,pl,hz⟩:=I.tuple hq
  refine SeqAt.in_tupleAt (eqU x) pl (fun w hw=>vW rx fx r fs w (by simpa using hw)) ⟨.bl _,H,I,rfl,?_⟩
  rw [show its.toArray.any (eqU x)=its.any (eqU x) by simp,Ae r fs]
  exact q
theorem Pn:OpR X (jO .NotIn) (rIn X.K true):=by
 walk_at "l"
 obtain ⟨p,xs,rfl,hq,fx,fs,q⟩:=h
 cases ry
 rcases hq with hq | hq
 ·obtain ⟨its,r,pl,hz⟩:=I.list hq
  refine SeqAt.notIn_listAt (eqU x) pl.isList (fun w hw=>vW rx fx r fs w (by simpa using hw)) ⟨.bl _,H,I,rfl,?_⟩
  rw [show its.toArray.any (eqU x)=its.any (eqU x) by simp,Ae r fs]
  exact q
 ·obtain ⟨its,r,pl,hz⟩:=I.tuple hq
  refine aeT (eqU x) pl (fun w hw=>vW rx fx r fs w (by simpa using hw)) ⟨.bl _,H,I,rfl,?_⟩
  rw [show its.toArray.any (eqU x)=its.any (eqU x) by simp,Ae r fs]
  exact q
theorem iu.or {f:Value} {r r':List V->Hp->VK->Prop} (h:iu X f r) (h':iu X f r'):iu X f (fun xs H Q=>r xs H Q\/r' xs H Q):=by
 intro pins s σ H xs us Q I rs q
 rcases q with q | q
 ·exact h pins s σ H xs us Q I rs q
 ·exact h' pins s σ H xs us Q I rs q
theorem Pq:iu X (.type "list") (fun xs H Q=>∃ p ys,xs=[.ref p]/\(SqL X.K H p ys\/SqT X.K H p ys)/\∀ l,H l=none->Q (.ref l) (upd H l (.lst ys))):=by
 walk_at "o"
 obtain ⟨p,ys,rfl,hq,q⟩:=h
 obtain ⟨u,rfl,rx⟩:=vals1 r
 cases rx
 have fin:∀ (its:List Value),Vals ys its->ys.length<=sizeLine->∀ (h':Heap) (c':Nat),(∀ b o',s.heap.get? b=some o'->h'.get? b=some o') ->
   h'.get? s.heap.objs.size=some { cls:=.type "list",dict:=none,data:=.seq its.toArray c',slots:=#[] }->EP X pins σ Q (.ref s.heap.objs.size) { s with heap:=h' }:=fun its r' hz h' c' kp e =>
  ⟨.ref s.heap.objs.size,_,I.laid (t':=s.toks) kp (cJ _) (show dO X.prog X.w _ h' _ (.lst ys) from ⟨hz,its,c',r',e⟩),rfl,q _ (I.hok.fresh (cJ _))⟩
 rcases hq with hq | hq
 ·obtain ⟨its,r',pl,hz⟩:=I.list hq
  have hlen:=r'.length
  obtain ⟨o,ho,hc,n,hd⟩:=pl.isList
  exact adV p (.inl rfl) ho hc hd (fun h' c' kp e=>fin its r' hz h' c' kp e) (by simp only [gH] <;> lia)
 ·obtain ⟨its,r',pl,hz⟩:=I.tuple hq
  have hlen:=r'.length
  obtain ⟨o,ho,hc,n,hd⟩:=pl
  exact adV p (.inr rfl) ho hc hd (fun h' c' kp e=>fin its r' hz h' c' kp e) (by simp only [gH] <;> lia)
noncomputable def tyV (K:aW) (T:String) (x:V) (H:Hp):Prop:=match x with
 | .str _=>T = "str"
 | .int _=>T = "int"
 | .ref p=>(T = "list" /\ ∃ xs,SqL K H p xs)\/(T = "tuple" /\ ∃ o,K.lookup p=some o/\o.cls = .type "tuple" /\ o.dict=none) \/
   (T = "dict" /\ ((∃ kvs,H p=some (.dK kvs))\/∃ kvs,H p=some (.dT kvs)))\/(T = "set" /\ ∃ S n,H p=some (.set S n))
 | _=>False
theorem afB {pins:List (Addr × Obj)} {σ:St} {H:Hp} {s:Shared} {T:String} {x:V} {v:Value} (I:Inv X pins σ H s) (r:RelV x v) (ty:tyV X.K T x H) :
  s.TypeIs v T/\∀ a,v = .ref a->∃ ob,s.heap.get? a=some ob/\ob.dict=none:=by
 cases x with
 | str z =>
  obtain ⟨t,rfl⟩:=r
  cases (show T = "str" from ty)
  exact ⟨typeIs_str s z t,fun _ e=>nomatch e⟩
 | int i =>
  obtain ⟨t,rfl⟩:=r
  cases (show T = "int" from ty)
  exact ⟨typeIs_int s i t,fun _ e=>nomatch e⟩
 | ref p =>
  cases r
  rcases ty with ⟨rfl,xs,hq⟩ | ⟨rfl,o,hk,hc,hd⟩ | ⟨rfl,hk⟩ | ⟨rfl,S,n,hk⟩
  ·obtain ⟨its,_,pl,_⟩:=I.list hq
   refine ⟨pl.isList.typeIs,fun a e=>?_⟩
   cases e
   obtain ⟨o,n,e,c,hd,_⟩:=pl
   exact ⟨o,e,hd⟩
  ·refine ⟨⟨o,I.kIn p o hk,hc⟩,fun a e=>?_⟩
   cases e
   exact ⟨o,I.kIn _ o hk,hd⟩
  ·have z:∃ o,s.heap.get? p=some o/\o.ExactDict:=by
    rcases hk with ⟨kvs,hk⟩ | ⟨kvs,hk⟩
    ·obtain ⟨_,_,_,_,o,_,_,e,ex,_⟩:=I.hok p _ hk
     exact ⟨o,e,ex⟩
    ·obtain ⟨_,_,_,_,o,_,_,e,ex,_⟩:=I.hok p _ hk
     exact ⟨o,e,ex⟩
   obtain ⟨o,e,ex⟩:=z
   refine ⟨⟨o,e,ex.1⟩,fun a e2=>?_⟩
   cases e2
   exact ⟨o,e,ex.2.1⟩
  ·obtain ⟨o,_,_,_,e,ex,_⟩:=I.hok p _ hk
   refine ⟨⟨o,e,ex.1⟩,fun a e2=>?_⟩
   cases e2
   exact ⟨o,e,ex.2.1⟩
 | _=>exact lO ty
noncomputable def tBM0 (K:aW) (T:String) (r:V->List V->Hp->VK->Prop) (to:TE):TE:=fun σ H Q=>to σ H fun x H1=>tyV K T x H1/\r x [] H1 Q
noncomputable def tBM (K:aW) (T:String) (r:V->List V->Hp->VK->Prop) (to:TE) (t:TA):TE:=fun σ H Q=>to σ H fun x H1=>tyV K T x H1/\t σ H1 fun xs H2=>r x xs H2 Q
variable {o e:Expr} {es:List Expr} {to:TE} {t:TA} {name:Str} {apos cpos:Pos} {T id:String} {r:V->List V->Hp->VK->Prop}
theorem alb (pa:PlainAttrs T) (slot:Slot T name id) (hty:Nu (.builtin id)=pure (.type "method_descriptor")) (hm:MtR X id r) (ho:PE X o to)
  (hbase:yE o name X.env (eval o X.env)=eval o X.env:=by rfl) (hline:(apos.endLine == cpos.line)=true:=by rfl):PE X (.Call (.Attribute o name apos) [] [] cpos) (tBM0 X.K T r to):=by
 walk_at "n"
 refine wpAny_Call_method0_late hbase hline (thn (ho pins s σ H _ I h) fun v s1 ⟨x,H1,I1,r1,ty,q1⟩=>?_)
 obtain ⟨h1,h2⟩:=afB I1 r1 ty
 exact ⟨T,id,pa,slot,hty,h1,h2,WK rfl (Vo (hm pins s1 σ H1 x [] v [] Q I1 r1 .nil q1))⟩
theorem En (pa:PlainAttrs T) (slot:Slot T name id) (hty:Nu (.builtin id)=pure (.type "method_descriptor")) (hm:MtR X id r) (ho:PE X o to) (ha:PA X (e::es) t)
  (hbase:yE o name X.env (eval o X.env)=eval o X.env:=by rfl)
  (hfew:((iD cpos (dH (e::es) X.env)).all (fun x=>!x.1) && (Hf cpos (GR [] X.env)).all (fun x=>x.1.isSome)
   && decide ((e::es).length+([]:List yI).length+(if ([]:List yI).isEmpty then 0 else 1)<30))=true:=by rfl)
  (hline:(apos.endLine == cpos.line)=true:=by rfl) (hs:dH (e::es) X.env=(false,eval e X.env)::dH es X.env:=by rfl) (hplain:(iD cpos (dH es X.env)).any (·.1)=false:=by rfl) :
  PE X (.Call (.Attribute o name apos) (e::es) [] cpos) (tBM X.K T r to t):=by
 walk_at "n"
 refine wpAny_Call_method_late hbase hfew hline rfl (thn (ho pins s σ H _ I h) fun v s1 ⟨x,H1,I1,r1,ty,q1⟩=>?_)
 obtain ⟨h1,h2⟩:=afB I1 r1 ty
 refine ⟨T,id,pa,slot,hty,h1,h2,?_⟩
 have hA:=ha cpos pins s1 σ H1 _ I1 q1
 rw [hs] at hA ⊢
 refine WK (by show (false || (iD cpos (dH es X.env)).any (·.1))=false;rw [hplain] <;> rfl) (WL ?_)
 exact thn hA fun us s2 ⟨vs,H2,I2,r2,q2⟩=>hm pins s2 σ H2 x vs v us Q I2 r1 r2 q2
end
end L2
namespace L2
open PySem PySem.Spec PyProof.Rows
noncomputable def MtM (X:Cx) (id:String) (r:V->List V->Hp->VK->Prop):Prop :=
 ∀ (pins:List (Addr × Obj)) (s:Shared) (σ:St) (H:Hp) (x:V) (xs:List V) (v:Value) (us:List Value) (Q:VK),Inv X pins σ H s->RelV x v->Vals xs us->r x xs H Q ->
  wpAny (model X.prog X.w) X.A (call (.builtin id) (v::us)) (EP X pins σ Q) X.xe s
theorem Vals.one:∀ {x:V} {us:List Value},Vals [x] us->∃ u,us=[u]/\RelV x u
 | _,_,.cons r .nil=>⟨_,rfl,r⟩
theorem Vals.two:∀ {x y:V} {us:List Value},Vals [x,y] us->∃ u v,us=[u,v]/\RelV x u/\RelV y v
 | _,_,_,.cons r (.cons q .nil)=>⟨_,_,rfl,r,q⟩
theorem Vals.zero:∀ {us:List Value},Vals [] us->us=[]
 | _,.nil=>rfl
theorem Vals.reverse {xs:List V} {us:List Value} (h:Vals xs us):Vals xs.reverse us.reverse:=by
 induction h with
 | nil=>exact .nil
 | cons r t ih=>rw [Bx,Bx];exact Vals.append ih (.cons r .nil)
section
variable {X:Cx} {pins:List (Addr × Obj)} {σ:St} {H:Hp} {s:Shared} {l b:Addr} {xs ys zs:List V}
theorem Inv.lset {its its':List Value} {n:Nat} {f:Array Value->Array Value} {t':Nat} (I:Inv X pins σ H s) (hH:H l=some (.lst xs))
  (e:s.heap.get? l=some { cls:=.type "list",data:=.seq its.toArray n }) (hf:f its.toArray=its'.toArray) (hv:Vals ys its') (hz:ys.length<=sizeLine) :
  Inv X pins σ (upd H l (.lst ys)) { s with heap:=s.heap.update l (iQ f),toks:=t' }:=by
 have q:=akW e f
 rw [hf] at q
 refine I.write (x:=l) (e:=l) (by rw [hH];exact trivial) (.inl rfl) (fun b' u hb hu=>(rY s.heap (iQ f) (aP hb)).trans hu) ⟨_,q⟩ ?_
 exact ⟨hz,its',_,hv,q⟩
theorem Inv.lnew {its:List Value} {t':Nat} (I:Inv X pins σ H s) (hv:Vals ys its) (hz:ys.length<=sizeLine) :
  Inv X pins σ (upd H s.heap.objs.size (.lst ys)) { s with heap:=s.heap.push { cls:=.type "list",data:=.seq its.toArray },toks:=t' } :=
 I.laid (fun _ _ q=>gK _ q) (cJ _) ⟨hz,its,0,hv,iC _ rfl⟩
theorem Inv.fresh (I:Inv X pins σ H s):H s.heap.objs.size=none:=I.hok.fresh (cJ _)
theorem Inv.Pr (I:Inv X pins σ H s) (hH:H l=some (.lst xs)):xs.length<=sizeLine/\∃ (its:List Value) (n:Nat),Vals xs its/\xs.length=its.length/\s.heap.get? l=some { cls:=.type "list",data:=.seq its.toArray n }:=by
 obtain ⟨z,its,n,r,e⟩:=I.hok l _ hH
 exact ⟨z,its,n,r,r.length,e⟩
end
section
variable {X:Cx}
noncomputable def ahT:V->List V->Hp->VK->Prop:=fun x vs H Q=>∃ l xs y,x = .ref l/\vs=[y]/\H l=some (.lst xs)/\xs.length<sizeLine/\Q .non (upd H l (.lst (xs++[y])))
theorem iW:MtM X "list.append" ahT:=by
 intro pins s σ H x vs v us Q I rx rv h
 obtain ⟨l,xs,y,rfl,rfl,hH,hz,q⟩:=h
 cases rx
 obtain ⟨u,rfl,ru⟩:=rv.one
 obtain ⟨z,its,n,r,hl,e⟩:=I.Pr hH
 refine call_meets F.slot_list_append ⟨_,e,rfl⟩ F.entry_list_append (F.args_list_append_2 _ _) (PySem.list_append l its.toArray n u (by rw [gH];lia)) ⟨e,?_⟩
 refine ⟨.non,_,I.lset (its':=its++[u]) hH e (by simp) (r.append (.cons ru .nil)) ?_,rfl,q⟩
 rw [eV,List.length_singleton]
 lia
noncomputable def rCat:R2:=fun x y H Q=>∃ l b xs zs,x = .ref l/\y = .ref b/\H l=some (.lst xs)/\H b=some (.lst zs)/\xs.length+zs.length<=sizeLine/\∀ p,H p=none->Q (.ref p) (upd H p (.lst (xs++zs)))
theorem Pu:OpR X (nM .Add) rCat:=by
 walk_at "l"
 obtain ⟨l,b,xs,zs,rfl,rfl,hH,hB,hz,q⟩:=h
 cases rx
 cases ry
 obtain ⟨z,its,n,r,hl,e⟩:=I.Pr hH
 obtain ⟨z2,its2,n2,r2,hl2,e2⟩:=I.Pr hB
 refine PySem.P.add_list e e2 ?_ (by rw [gH,gH];lia)
 have ea:its.toArray++its2.toArray=(its++its2).toArray:=by simp
 rw [ea]
 exact ⟨.ref _,_,I.lnew (t':=s.toks) (r.append r2) (by rw [eV];lia),rfl,q _ I.fresh⟩
end
section
variable {prog:aV} {w:World} {A:bJ} {E:Value->Shared->Prop} {s:Shared}
set_option maxRecDepth 100000 in
end
section
variable {X:Cx}
end
end L2
namespace L2
open PySem PySem.Spec PyProof.Rows
section
variable {κ:Type} [DecidableEq κ]
noncomputable def Df (kvs:List (κ × V)) (k:κ):Option V:=(kvs.find? fun kv=>decide (kv.1=k)).map (·.2)
noncomputable def putK (kvs:List (κ × V)) (k:κ) (v:V):List (κ × V) :=
 if (kvs.any fun kv=>decide (kv.1=k))=true then kvs.map (fun kv=>if kv.1=k then (kv.1,v) else kv) else kvs++[(k,v)]
theorem Af {p:κ × V} {r:List (κ × V)} {k:κ} (e:p.1=k):Df (p::r) k=some p.2:=by simp [Df,yr,e]
theorem Ag {p:κ × V} {r:List (κ × V)} {k:κ} (e:¬ p.1=k):Df (p::r) k=Df r k:=by simp [Df,yr,e]
theorem R5 (k:κ):∀ kvs:List (κ × V),(kvs.any fun kv=>decide (kv.1=k))=(Df kvs k).isSome
 | []=>rfl
 | p::r=>by
  rw [vm]
  by_cases e:p.1=k
  ·simp only [Af e,decide_eq_true e,Bool.true_or,Option.isSome_some]
  ·rw [Ag e,decide_eq_false e,aer];exact R5 k r
theorem Eo (kvs:List (κ × V)) (k:κ) (v:V):(putK kvs k v).length<=kvs.length+1:=by
 unfold putK
 split
 ·rw [bK];lia
 ·rw [eV,jG,adk];lia
theorem uY.sO {o:Option V} {u:Option Value} (r:uY o u):o.isSome=u.isSome:=by
 cases o with
 | none=>cases u with
  | none=>rfl
  | some _=>exact (show False from r).elim
 | some _=>cases u with
  | none=>exact (show False from r).elim
  | some _=>rfl
theorem uY.getD {o:Option V} {u:Option Value} {d:V} {d':Value} (r:uY o u) (rd:RelV d d'):RelV (o.getD d) (u.getD d'):=by
 cases o with
 | none=>cases u with
  | none=>exact rd
  | some _=>exact (show False from r).elim
 | some _=>cases u with
  | none=>exact (show False from r).elim
  | some _=>exact r
theorem KV.val {kvs:List (κ × V)} {vs:List (κ × Value)} (r:KV kvs vs) (k:κ):uY (Df kvs k) (yJ vs k):=by
 unfold KV at r
 induction r with
 | nil=>exact True.intro
 | @cons p q ps qs h t ih =>
  obtain ⟨h1,h2⟩:=h
  by_cases e:p.1=k
  ·have e':q.1=k:=h1.symm.trans e
   have b:yJ (q::qs) k=some q.2:=by simp [yJ,yr,e']
   rw [Af e,b];exact h2
  ·have e':¬ q.1=k:=fun z=>e (h1.trans z)
   have b:yJ (q::qs) k=yJ qs k:=by simp [yJ,yr,e']
   rw [Ag e,b];exact ih
theorem KV.any {kvs:List (κ × V)} {vs:List (κ × Value)} (r:KV kvs vs) (k:κ):(kvs.any fun kv=>decide (kv.1=k))=vs.any fun kv=>decide (kv.1=k):=by
 unfold KV at r
 induction r with
 | nil=>rfl
 | cons h t ih=>rw [vm,vm,ih,h.1]
theorem KV.repl {kvs:List (κ × V)} {vs:List (κ × Value)} (r:KV kvs vs) (k:κ) {y:V} {u:Value} (ry:RelV y u) :
  KV (kvs.map fun kv=>if kv.1=k then (kv.1,y) else kv) (vs.map fun kv=>if kv.1=k then (kv.1,u) else kv):=by
 unfold KV at r ⊢
 induction r with
 | nil=>exact .nil
 | @cons p q ps qs h t ih =>
  rw [jg,jg]
  refine .cons ?_ ih
  obtain ⟨h1,h2⟩:=h
  by_cases e:p.1=k
  ·rw [if_pos e,if_pos (h1.symm.trans e)];exact ⟨h1,ry⟩
  ·rw [if_neg e,if_neg (fun z=>e (h1.trans z))];exact ⟨h1,h2⟩
theorem KV.put {kvs:List (κ × V)} {vs:List (κ × Value)} (r:KV kvs vs) (k:κ) {y:V} {u:Value} (ry:RelV y u):KV (putK kvs k y) (stored vs k u):=by
 unfold putK stored
 rw [r.any k]
 by_cases e:(vs.any fun kv=>decide (kv.1=k))=true
 ·rw [if_pos e,if_pos e];exact r.repl k ry
 ·rw [if_neg e,if_neg e];exact W4 r ⟨rfl,ry⟩
theorem KV.length {kvs:List (κ × V)} {vs:List (κ × Value)} (r:KV kvs vs):kvs.length=vs.length:=W2 r
end
theorem K4 {P:aV} {w:World} {k:Key} {u:Value} (r:RelV (kV k) u):(dj P w).is k u=true:=by
 cases k with
 | inl i=>obtain ⟨t,e⟩:=(show ∃ t,u=Value.int i t from r);subst e;exact RQ P w i t
 | inr x=>obtain ⟨t,e⟩:=(show ∃ t,u=Value.str x t from r);subst e;exact RT P w x t
theorem K5 {P:aV} {w:World}:∀ {ks:List Key} {us:List Value},Vals (ks.map kV) us->ItemsAre (dj P w) ks us
 | [],_,r=>by rw [Mv] at r;cases r;exact .nil
 | k::ks,_,r=>by
  rw [jg] at r
  cases r with
  | cons h t=>exact .cons (K4 h) (K5 t)
noncomputable abbrev KT (H:Hp):List (List Key × V)->List (List Key × Addr × Value)->Prop:=Paired fun p q=>p.1=q.1/\H q.2.1=some (.tup (p.1.map kV))/\RelV p.2 q.2.2
theorem KT.val {H:Hp} {kvs:List (List Key × V)} {xs:List (List Key × Addr × Value)} (r:KT H kvs xs) (k:List Key):uY (Df kvs k) ((atKey xs k).map (·.2)):=by
 induction r with
 | nil=>exact True.intro
 | @cons p q ps qs h t ih =>
  obtain ⟨h1,_,h2⟩:=h
  by_cases e:p.1=k
  ·have e':q.1=k:=h1.symm.trans e
   have b:atKey (q::qs) k=some q.2:=by simp [atKey,yr,e']
   rw [Af e,b];exact h2
  ·have e':¬ q.1=k:=fun z=>e (h1.trans z)
   have b:atKey (q::qs) k=atKey qs k:=by simp [atKey,yr,e']
   rw [Ag e,b];exact ih
theorem KT.repl {H:Hp} {kvs:List (List Key × V)} {xs:List (List Key × Addr × Value)} (r:KT H kvs xs) (k:List Key) {y:V} {u:Value} (ry:RelV y u) :
  KT H (kvs.map fun kv=>if kv.1=k then (kv.1,y) else kv) (xs.map (putAt k u)):=by
 induction r with
 | nil=>exact .nil
 | @cons p q ps qs h t ih =>
  rw [jg,jg]
  refine .cons ?_ ih
  obtain ⟨h1,h2,h3⟩:=h
  unfold putAt
  by_cases e:p.1=k
  ·rw [if_pos e,if_pos (h1.symm.trans e)];exact ⟨h1,h2,ry⟩
  ·rw [if_neg e,if_neg (fun z=>e (h1.trans z))];exact ⟨h1,h2,h3⟩
theorem KT.put {H:Hp} {kvs:List (List Key × V)} {xs:List (List Key × Addr × Value)} (r:KT H kvs xs) (k:List Key) {b:Addr} {y:V} {u:Value} (hb:H b=some (.tup (k.map kV))) (ry:RelV y u) :
  KT H (putK kvs k y) (storedH xs k b u):=by
 have e:(kvs.any fun kv=>decide (kv.1=k))=(atKey xs k).isSome:=by
  rw [R5,(r.val k).sO,WQ]
 unfold putK storedH
 rw [e]
 by_cases q:(atKey xs k).isSome=true
 ·rw [if_pos q,if_pos q];exact r.repl k ry
 ·rw [if_neg q,if_neg q];exact W4 r ⟨rfl,hb,ry⟩
theorem KT.keeps {H H':Hp} {kvs:List (List Key × V)} {xs:List (List Key × Addr × Value)} (r:KT H kvs xs) (ht:∀ b ys,H b=some (.tup ys)->H' b=some (.tup ys)):KT H' kvs xs :=
 Paired.mapP r fun _ _ z=>⟨z.1,ht _ _ z.2.1,z.2.2⟩
section
variable {P:aV} {w:World} {H:Hp} {h:Heap} {a:Addr}
theorem ajo {u:HO} (ok:HOk P w H h) (e:Rd H a u):dO P w H h a u:=e.ok ok
theorem sS {kvs:List (Key × V)} (ok:HOk P w H h) (e:Rd H a (.dK kvs)):kvs.length<=sizeLine/\(a == rE)=false/\∃ vs,KV kvs vs/\h.DictOf (dj P w) a vs :=
 show dO P w H h a (.dK kvs) from ajo ok e
theorem ajp {kvs:List (Key × V)} (ok:HOk P w H h) (e:H a=some (.dK kvs)):kvs.length<=sizeLine/\(a == rE)=false/\∃ vs,KV kvs vs/\h.DictOf (dj P w) a vs:=sS ok (.inl e)
theorem Dg {ks:List Key} (ok:HOk P w H h) (e:H a=some (.tup (ks.map kV))):(Cg (dj P w)).is h ks a:=by
 obtain ⟨_,its,r,o,h1,h2,n,h3⟩:=(show dO P w H h a (.tup (ks.map kV)) from ok a _ e)
 exact ⟨o,its.toArray,n,h1,h2,h3,by simpa using K5 r⟩
theorem Ig {kvs:List (List Key × V)} (ok:HOk P w H h) (e:Rd H a (.dT kvs)):kvs.length<=sizeLine/\(a == rE)=false /\
  ∃ xs,KT H kvs xs/\h.DictOfH (Cg (dj P w)) a xs:=by
 obtain ⟨z,y,xs,r,o,es,ep,h1,h2,h3,h4,h5⟩:=(show dO P w H h a (.dT kvs) from ajo ok e)
 refine ⟨z,y,xs,r,o,es,ep,h1,h2,h3,h4,fun x hx=>?_,h5⟩
 have all:∀ {l:List (List Key × V)} {m:List (List Key × Addr × Value)},KT H l m->∀ x∈m,(Cg (dj P w)).is h x.1 x.2.1:=by
  intro l m q
  induction q with
  | nil=>intro x hx;exact nomatch hx
  | @cons p q ps qs hq t ih =>
   intro x hx
   rcases cA.mp hx with e | hx
   ·subst e
    exact Dg ok (by rw [<- hq.1];exact hq.2.1)
   ·exact ih x hx
 exact all r x hx
theorem dt_of {kvs:List (List Key × V)} (ok:HOk P w H h) (e:H a=some (.dT kvs)):kvs.length<=sizeLine/\(a == rE)=false /\
  ∃ xs,KT H kvs xs/\h.DictOfH (Cg (dj P w)) a xs:=Ig ok (.inl e)
end
noncomputable def Kd (H:Hp) (a:Addr) (y:V) (r:Option V):Prop :=
 (∃ kvs k,Rd H a (.dK kvs)/\y=kV k/\r=Df kvs k)\/∃ kvs k b,Rd H a (.dT kvs)/\y = .ref b/\H b=some (.tup (k.map kV))/\r=Df kvs k
noncomputable def DPut (H:Hp) (a:Addr) (y v:V) (H':Hp):Prop :=
 (∃ kvs k,H a=some (.dK kvs)/\y=kV k/\kvs.length<sizeLine/\H'=upd H a (.dK (putK kvs k v))) \/
 ∃ kvs k b,H a=some (.dT kvs)/\y = .ref b/\H b=some (.tup (k.map kV))/\kvs.length<sizeLine/\H'=upd H a (.dT (putK kvs k v))
section
variable {X:Cx} {pins:List (Addr × Obj)} {σ:St} {H:Hp} {s:Shared} {a:Addr} {y v:V} {u r:Value} {o:Option V} {A:bJ} {E:Value->Shared->Prop}
theorem Inv.big (I:Inv X pins σ H s):rE<s.heap.objs.size:=by
 have h:fK<s.heap.objs.size:=(I.mod.glob.keeps I.bk).lt
 exact Nat.lt_trans (by decide) h
theorem abP {Q:Value->Shared->Prop} (hu:A.units+1<cLine) (I:Inv X pins σ H s) (g:Kd H a y (some v)) (ry:RelV y u) (h:∀ w' s',Inv X pins σ H s'->RelV v w'->Q w' s') :
  wpAny (model X.prog X.w) A (Nm (.ref a) u) Q E s:=by
 rcases g with ⟨kvs,k,e,ey,l⟩ | ⟨kvs,k,b,e,ey,eb,l⟩
 ·subst ey
  obtain ⟨z,hd,vs,rel,dd⟩:=sS I.hok e
  obtain ⟨w',hw,rw'⟩:=uY.some_of (v:=v) (o:=yJ vs k) (by rw [l];exact rel.val k)
  exact wpAny_getItem_of (K4 ry) dd.mapOf hw (h w' _ (I.tok _) rw')
 ·subst ey
  cases (show u=Value.ref b from ry)
  obtain ⟨z,hd,xs,rel,dd⟩:=Ig I.hok e
  obtain ⟨w',hw,rw'⟩:=uY.some_of (v:=v) (o:=(atKey xs k).map (·.2)) (by rw [l];exact rel.val k)
  obtain ⟨p,hp,hp2⟩:=Hz.mp hw
  refine wpAny_getItem_heap (Gy hu) (Dg I.hok eb) dd hp ?_
  rw [hp2]
  exact h w' _ (I.tok _) rw'
theorem d_in {Q:Value->Shared->Prop} (hu:A.units+1<cLine) (I:Inv X pins σ H s) (g:Kd H a y o) (ry:RelV y u) (h:∀ s',Inv X pins σ H s'->Q (.bool o.isSome) s') :
  wpAny (model X.prog X.w) A (jO .In u (.ref a)) Q E s:=by
 rcases g with ⟨kvs,k,e,ey,l⟩ | ⟨kvs,k,b,e,ey,eb,l⟩
 ·subst ey
  obtain ⟨z,hd,vs,rel,dd⟩:=sS I.hok e
  refine wpAny_in_of (K4 ry) hd dd.mapOf ?_
  rw [<- (rel.val k).sO,<- l]
  exact h _ (I.tok _)
 ·subst ey
  cases (show u=Value.ref b from ry)
  obtain ⟨z,hd,xs,rel,dd⟩:=Ig I.hok e
  refine wpAny_in_heap (Gy hu) (Dg I.hok eb) hd dd ?_
  have q:=(rel.val k).sO
  rw [WQ] at q
  rw [<- q,<- l]
  exact h _ (I.tok _)
theorem ahU {Q:Value->Shared->Prop} (hu:A.units+1<cLine) (I:Inv X pins σ H s) (g:Kd H a y o) (ry:RelV y u) (h:∀ s',Inv X pins σ H s'->Q (.bool (!o.isSome)) s') :
  wpAny (model X.prog X.w) A (jO .NotIn u (.ref a)) Q E s:=by
 rcases g with ⟨kvs,k,e,ey,l⟩ | ⟨kvs,k,b,e,ey,eb,l⟩
 ·subst ey
  obtain ⟨z,hd,vs,rel,dd⟩:=sS I.hok e
  refine wpAny_notIn_of (K4 ry) hd dd.mapOf ?_
  rw [<- (rel.val k).sO,<- l]
  exact h _ (I.tok _)
 ·subst ey
  cases (show u=Value.ref b from ry)
  obtain ⟨z,hd,xs,rel,dd⟩:=Ig I.hok e
  refine wpAny_notIn_heap (Gy hu) (Dg I.hok eb) hd dd ?_
  have q:=(rel.val k).sO
  rw [WQ] at q
  rw [<- q,<- l]
  exact h _ (I.tok _)
theorem aaG {h':Heap} {t':Nat} {ob:HO} (I:Inv X pins σ H s) (mu:Mut (H a)) (hs:Hh a s.heap h') (he:∃ q,h'.get? a=some q) (new:dO X.prog X.w (upd H a ob) h' a ob) :
  Inv X pins σ (upd H a ob) { s with heap:=h',toks:=t' } :=
 I.write (x:=a) (e:=a) mu (.inl rfl) (fun b q hb z=>(hs.2 b hb).trans z) he new
theorem afC {P:aV} {w:World} {H':Hp} {h':Heap} {kvs:List (Key × V)} {vs:List (Key × Value)} (z:kvs.length<=sizeLine) (hd:(a == rE)=false) (rel:KV kvs vs) (dd:h'.DictOf (dj P w) a vs) :
  dO P w H' h' a (.dK kvs):=⟨z,hd,vs,rel,dd⟩
theorem abQ {H':Hp} {Q:Unit->Shared->Prop} (hu:A.units+1<cLine) (I:Inv X pins σ H s) (g:DPut H a y v H') (ry:RelV y u) (rv:RelV v r) (h:∀ s',Inv X pins σ H' s'->Q () s') :
  wpAny (model X.prog X.w) A (setItem (.ref a) u r) Q E s:=by
 rcases g with ⟨kvs,k,e,ey,l,eH⟩ | ⟨kvs,k,b,e,ey,eb,l,eH⟩
 ·subst ey eH
  obtain ⟨z,hd,vs,rel,dd⟩:=ajp I.hok e
  have hz:vs.length<=sizeLine:=by rw [<- rel.length];exact z
  have hl:(putK kvs k v).length<=sizeLine:=by have:=Eo kvs k v;lia
  refine wpAny_setItem_pairs (hsz:=hz) (K4 ry) dd fun h' dd' hs=>h _ ?_
  have he:∃ q,h'.get? a=some q:=let ⟨q,_,_,hq,_⟩:=dd';⟨q,hq⟩
  exact aaG I (by rw [e];exact True.intro) hs he (afC hl hd (rel.put k rv) dd')
 ·subst ey eH
  cases (show u=Value.ref b from ry)
  obtain ⟨z,hd,xs,rel,dd⟩:=dt_of I.hok e
  have hz:xs.length<=sizeLine:=by rw [<- W2 rel];exact z
  have hl:(putK kvs k v).length<=sizeLine:=by have:=Eo kvs k v;lia
  refine wpAny_setItem_heap (hsz:=hz) (Gy hu) (Dg I.hok eb) dd fun h' dd' hs=>h _ ?_
  obtain ⟨q,es,ep,hq,h2,h3,h4,_,h5⟩:=dd'
  refine aaG I (by rw [e];exact True.intro) hs ⟨q,hq⟩ ⟨hl,hd,_,(rel.put k eb rv).keeps fun c ys ec=>?_,q,es,ep,hq,h2,h3,h4,h5⟩
  rw [aB (jP ec e (fun z=>nomatch z))]
  exact ec
end
section
variable {X:Cx} {pins:List (Addr × Obj)} {σ:St} {H:Hp} {s:Shared} {a:Addr} {kvs:List (Key × V)} {k:Key} {u:Value} {A:bJ} {E:Value->Shared->Prop}
theorem d_len {Q:Value->Shared->Prop} (I:Inv X pins σ H s) (e:Rd H a (.dK kvs)) (h:∀ t s',Inv X pins σ H s'->Q (.int kvs.length t) s'):wpAny (model X.prog X.w) A (call (.builtin "len") [.ref a]) Q E s:=by
 obtain ⟨z,hd,vs,rel,dd⟩:=sS I.hok e
 refine call_len_dict hd dd (by rw [<- rel.length];rw [Nb] at z;lia) ?_
 rw [<- rel.length]
 exact h _ _ (I.tok _)
end
theorem R6 {X:Cx} {pins:List (Addr × Obj)} {σ:St} {H:Hp} {s:Shared} {a:Addr} {y:V} {o:Option V} (I:Inv X pins σ H s) (g:Kd H a y o):s.TypeIs (.ref a) "dict" := by
 rcases g with ⟨kvs,k,e,_,_⟩ | ⟨kvs,k,b,e,_,_,_⟩
 ·obtain ⟨_,_,vs,_,dd⟩:=sS I.hok e
  exact dd.typeIs
 ·obtain ⟨_,_,xs,_,dd⟩:=Ig I.hok e
  exact dd.typeIs
section
variable {X:Cx} {o i e value:Expr} {pos pos' tpos:Pos} {td ty tv:TE}
end
theorem afD {P:aV} {w:World} {H:Hp} (h:Heap) (hb:rE<h.objs.size):dO P w H (h.push { cls:=.type "dict",data:=.dict #[] }) h.objs.size (.dK []) :=
 ⟨bZ _,beq_eq_false_iff_ne.mpr (aP (cW hb)),[],.nil,akX h⟩
noncomputable def alc:TE:=fun _ H Q=>∀ p,H p=none->Q (.ref p) (upd H p (.dK []))
section
variable {X:Cx} {pos:Pos}
theorem R7:PE X (.Dict [] [] pos) alc:=fun pins s σ H Q I h =>
 wpAny_Dict_empty ⟨.ref s.heap.objs.size,_,I.laid (a:=s.heap.objs.size) (o:=.dK []) (t':=s.toks) (fun _ _ q=>gK _ q) (cJ _) (afD s.heap I.big),rfl,h _ (I.hok.fresh (cJ _))⟩
end
structure M1 (X:Cx) (o:Expr) (m:Str) (apos:Pos) (e:Expr) (cpos:Pos):Prop where
 base:yE o m X.env (eval o X.env)=eval o X.env
 few:((iD cpos (dH [e] X.env)).all (fun x=>!x.1) && (Hf cpos (GR [] X.env)).all (fun x=>x.1.isSome)
  && decide (([e]:List Expr).length+([]:List yI).length+(if ([]:List yI).isEmpty then 0 else 1)<30))=true
 line:(apos.endLine == cpos.line)=true
 trees:iD cpos (dH [e] X.env)=[(false,eval e X.env)]
structure M2 (X:Cx) (o:Expr) (m:Str) (apos:Pos) (e f:Expr) (cpos:Pos):Prop where
 base:yE o m X.env (eval o X.env)=eval o X.env
 few:((iD cpos (dH [e,f] X.env)).all (fun x=>!x.1) && (Hf cpos (GR [] X.env)).all (fun x=>x.1.isSome)
  && decide (([e,f]:List Expr).length+([]:List yI).length+(if ([]:List yI).isEmpty then 0 else 1)<30))=true
 line:(apos.endLine == cpos.line)=true
 trees:iD cpos (dH [e,f] X.env)=[(false,eval e X.env),(false,eval f X.env)]
noncomputable def IsD (H:Hp) (a:Addr):Prop:=(∃ kvs,Rd H a (.dK kvs))\/∃ kvs,Rd H a (.dT kvs)
theorem Ze {X:Cx} {pins:List (Addr × Obj)} {σ:St} {H:Hp} {s:Shared} {a:Addr} (I:Inv X pins σ H s) (d:IsD H a) :
  s.TypeIs (.ref a) "dict" /\ (∀ b,Value.ref a = .ref b->∃ ob,s.heap.get? b=some ob/\ob.dict=none)/\(a == rE)=false:=by
 rcases d with ⟨kvs,e⟩ | ⟨kvs,e⟩
 ·obtain ⟨_,hd,vs,_,dd⟩:=sS I.hok e
  refine ⟨dd.typeIs,fun b q=>?_,hd⟩
  cases q
  obtain ⟨ob,_,_,h1,h2,_⟩:=dd
  exact ⟨ob,h1,h2.2.1⟩
 ·obtain ⟨_,hd,xs,_,dd⟩:=Ig I.hok e
  refine ⟨dd.typeIs,fun b q=>?_,hd⟩
  cases q
  obtain ⟨ob,_,_,h1,h2,_⟩:=dd
  exact ⟨ob,h1,h2.2.1⟩
section
variable {X:Cx} {pins:List (Addr × Obj)} {σ:St} {H:Hp} {s:Shared} {a:Addr} {y d:V} {u r:Value} {o:Option V} {A:bJ} {E:Value->Shared->Prop}
theorem ald {Q:Value->Shared->Prop} (hu:A.units+1<cLine) (I:Inv X pins σ H s) (g:Kd H a y o) (ry:RelV y u) (rd:RelV d r) (h:∀ w' s',Inv X pins σ H s'->RelV (o.getD d) w'->Q w' s') :
  wpAny (model X.prog X.w) A (call (.builtin "dict.get") [.ref a,u,r]) Q E s:=by
 rcases g with ⟨kvs,k,e,ey,l⟩ | ⟨kvs,k,b,e,ey,eb,l⟩
 ·subst ey
  obtain ⟨z,hd,vs,rel,dd⟩:=sS I.hok e
  refine adX WD dd.typeIs aeH (aeF _ _ _) (meets_dict_get_default (dj X.prog X.w) a (K4 ry) hd r) ⟨_,dd.mapOf,h _ _ (I.tok _) ?_⟩
  rw [l]
  exact (rel.val k).getD rd
 ·subst ey
  cases (show u=Value.ref b from ry)
  obtain ⟨z,hd,xs,rel,dd⟩:=Ig I.hok e
  refine adX WD dd.typeIs aeH (aeF _ _ _) (meetsH_dict_get_default (Cg (dj X.prog X.w)) a b hd r) ⟨Gy hu,k,xs,Dg I.hok eb,dd,h _ _ (I.tok _) ?_⟩
  rw [l]
  exact (rel.val k).getD rd
end
noncomputable def ale (td ty tx:TE):TE:=fun σ H Q=>td σ H fun x H1=>∃ a,x = .ref a/\IsD H1 a/\ty σ H1 fun y H2=>tx σ H2 fun z H3=>∃ o,Kd H3 a y o/\Q (o.getD z) H3
section
variable {X:Cx} {o e f:Expr} {apos cpos:Pos} {td ty tx:TE}
theorem R9 (hu:X.A.units+1<cLine) (ho:PE X o td) (he:PE X e ty) (hf:PE X f tx) (m:M2 X o "get" apos e f cpos):PE X (.Call (.Attribute o "get" apos) [e,f] [] cpos) (ale td ty tx):=by
 walk_at "n"
 refine Vs m.base m.few m.line Wz WD PySem.F.type_dict_get (thn (ho pins s σ H _ I h) fun u s1 ⟨x,H1,I1,rx,a,ex,d,q1⟩=>?_)
 subst ex
 obtain rfl:u=Value.ref a:=rx
 obtain ⟨t1,t2,_⟩:=Ze I1 d
 refine ⟨t1,t2,?_⟩
 rw [m.trees]
 refine WK rfl (WL (yV (thn (he pins s1 σ H1 _ I1 q1) fun iv s2 ⟨y,H2,I2,ry,q2⟩ =>
  yV (thn (hf pins s2 σ H2 _ I2 q2) fun fv s3 ⟨z,H3,I3,rz,ov,g,q3⟩=>CJ ?_))))
 exact ald hu I3 g ry rz fun w' s4 I4 rw'=>⟨_,H3,I4,rw',q3⟩
end
section
variable {X:Cx} {pins:List (Addr × Obj)} {σ:St} {H:Hp} {s:Shared} {a:Addr} {kvs:List (Key × V)} {A:bJ} {E:Value->Shared->Prop}
theorem afE {Q:Value->Shared->Prop} (I:Inv X pins σ H s) (e:Rd H a (.dK kvs)) (h:∀ p s',H p=none->Inv X pins σ (upd H p (.dK kvs)) s'->Q (.ref p) s'):wpAny (model X.prog X.w) A (call (.type "dict") [.ref a]) Q E s:=by
 obtain ⟨z,hd,vs,rel,dd⟩:=sS I.hok e
 refine kt_call_dict hd dd (by rw [<- rel.length];exact z) fun h' dd' hs=>?_
 refine h _ _ (I.hok.fresh (cJ _)) (I.laid (a:=s.heap.objs.size) (o:=.dK kvs) (t':=s.toks) (fun b q hq=>?_) (cJ _) (afC z (beq_eq_false_iff_ne.mpr (aP (cW I.big))) rel dd'))
 exact (hs.2 b (cW (bR hq))).trans (gK _ hq)
end
section
variable {X:Cx} {pins:List (Addr × Obj)} {σ:St} {H:Hp} {s:Shared} {a:Addr} {y:V} {u:Value} {A:bJ} {E:Value->Shared->Prop}
end
end L2
namespace Att
open PySem PySem.W PySem.Calls PyProof.Rows
theorem Ew {P:Ck} {h:Heap}:∀ (ns:List Int) (vs:List Value),WellAll P h vs (ns.map WData.int)->je vs ns:=by
 intro ns
 induction ns with
 | nil =>
  intro vs w
  rw [Mv] at w
  cases w
  exact .nil
 | cons n ns ih =>
  intro vs w
  rw [jg] at w
  cases w with
  | cons a b =>
   cases a
   exact .cons _ _ (ih _ b)
theorem abR {l:OpenLaw} {n:Nat} (hn:l.most=some n) {P:Ck} {h:Heap} {args:List WData} {vals:List Value}
  (hpre:l.row.toRowW.claim.pre args=true) (hwl:WellAll P h vals args) :
  ∃ a vs ns,vals=[Value.ref a]/\args=[WData.list (ns.map WData.int)]/\h.get? a=some { cls:=.type "list",data:=.seq vs.toArray }/\je vs ns/\ns.length<=n:=by
 have hsh:WShape.hasAll [] args [.list .int]=true:=(pre_splitW hpre).1
 have hc:l.pre.holds [] { args:=args }=true:=(pre_splitW hpre).2
 obtain ⟨d,r,rfl,h1,h2⟩:=hasAllW_cons hsh
 obtain rfl:=hasAllW_nil h2
 obtain ⟨xs,rfl,h3⟩:=hasW_list h1
 obtain ⟨ns,rfl⟩:=items_int h3
 have hlen:ns.length<=n:=by
  unfold OpenLaw.pre at hc
  have h4:(WTm.not (.lt (.lit (.int (n:Int))) (.len (.arg 0)))).holds [] { args:=[.list (ns.map .int)] }=true:=by
   have h4:=(holds_andW hc).1
   rw [hn] at h4
   exact h4
  have h5:=condW_of h4 (w_not (w_lt w_lit (w_len_list (w_arg rfl))))
  rw [bK] at h5
  refine Nat.le_of_not_lt fun q=>?_
  have q':(n:Int)<((ns.length:Nat):Int):=by lia
  first
   | (rw [decide_eq_true q'] at h5;exact absurd h5 (by decide))
   | (simp at h5;lia)
 cases hwl with
 | cons w1 w2 =>
  cases w2
  cases w1 with
  | list ho hall=>exact ⟨_,_,ns,rfl,rfl,ho,Ew ns _ hall,hlen⟩
theorem abS (l:OpenLaw) (args:List WData):l.row.toRowW.claim.post args (.bool true) args=true :=
 postW_of (r:=l.row.toRowW) (X:=(true == true))
  (show WShape.has [] (.bool true) .bool=true by first | rfl | decide | simp [WShape.has,WShape.arms,WShape.armsAll])
  (show (WTm.eq .res (.lit (.bool true))).value [] { args:=args,res:=some (.bool true),after:=args }=some (.bool (true == true)) from w_eq_bool (w_res rfl) w_lit) rfl
theorem Sg {l:OpenLaw} {n:Nat} {q:aV} {loose:List Str} {XP:(Str->Option Value)->Heap->Prop} {YP:World->Heap->Prop} {d:Nr}
  (hn:l.most=some n) (hdf:d.params.defaults=[])
  (call:∀ (w:World) (s₀ s₁:Shared) (mg mb:Str->Option Value) (fa:Addr) (o:Obj) (pm cd doc:Value) (a:Addr) (vs:List Value) (ns:List Int),
   Ground q loose [] XP w s₀ mg mb s₁.heap->YP w s₁.heap ->
   s₁.heap.get? fa=some o->o.data = .func (docDef d.name d.params d.body d.scope pm cd doc)->s₁.heap.CodeRec cd d.name->mg d.name=some (.ref fa) ->
   s₁.heap.get? a=some { cls:=.type "list",data:=.seq vs.toArray }->je vs ns->ns.length<=n->s₁.gens = #[] ->
   gO (model l.prog w) yK (.call (.ref fa) ⟨[.ref a],[]⟩) (fun r s'=>r = .ok (.ret (.bool true))/\OldK s₁.heap s'.heap/\s'.os=s₁.os/\rF s'.gens) s₁) :
  WalkO q loose XP YP l.row.toRowW d [] (fun f vs=>Ng f vs):=by
 intro w s₀ s₁ mg mb G Y fa o pm cd doc dV kV ho hd hcd hD hmg hg args vals as hpre hlay hrd hwl hlo
 obtain rfl:dV = .none:=Dflts.none hD hdf
 obtain rfl:kV = .none:=Dflts.noKw hD
 obtain ⟨a,vs,ns,rfl,rfl,hobj,hints,hlen⟩:=abR hn hpre hwl
 refine enter_call (GQ (call w s₀ s₁ mg mb fa o pm cd doc a vs ns G Y ho (fd_plain hd) hcd hmg hobj hints hlen hg) fun r s' hq=>?_)
 obtain ⟨rfl,h2,h3,h4⟩:=hq
 exact ⟨.inl ⟨.bool true,.bool true,[],rfl,fun _=>rfl,.bool true,abS l _,fun _=>⟨List.Pairwise.nil,fun _ hm=>(nomatch hm)⟩⟩,h2,h3,h4⟩
section
variable {prog:aV} {w:World} {A:bJ} {E:Value->Shared->Prop} {s:Shared} {K:Frag}
noncomputable def ledger (h:Heap) (L d:Addr):List (Addr × Obj):=(yu h.objs.size).filterMap fun a=>if a=L\/a=d then none else (h.get? a).map fun o=>(a,o)
end
end Att
namespace L2
open PySem PySem.Spec PyProof.Rows
theorem mJ:∀ {vs:List Value} {ns:List Int},je vs ns->Vals (ns.map V.int) vs
 | _,_,.nil=>.nil
 | _,_,.cons n t h=>.cons ⟨t,rfl⟩ (mJ h)
noncomputable def Only (H:Hp):Prop:=∀ b,H b=none\/∃ o xs,H b=some (.frz o (.lst xs))
theorem afF {P:aV} {w:World} {K:aW} {mg mb:Str->Option Value} {CX:CXT} {k:Nat} {fa a:Addr} {fd:FuncData} {x:Str} {sp:Sp} {s₁:Shared} {vs:List Value} {ns:List Int}
  (KX:K.In s₁.heap) (hns:s₁.heap.Ns fK mg) (hb:s₁.heap.Ns VD mb) (hbb:∀ x:Str,x ≠ "__name__" -> mb x=Ca x) (hlim:s₁.heap.NoLimit) (hg:s₁.gens = #[])
  (ha:s₁.heap.get? a=some { cls:=.type "list",data:=.seq vs.toArray }) (hi:je vs ns) (hl:ns.length<=sizeLine) (hr:jQ k yK)
  (F:∀ base:Heap,K.In base->base.Ns fK mg->cg P w K mg base CX k fa fd [x] sp) (hbind:∀ (s:Shared) (u:Value),Cj s fd ⟨[u],[]⟩ [(x,u)])
  (hsp:∀ H:Hp,Only H->SqL K H a (ns.map V.int)->sp [.ref a] H (fun v _=>v = .bl true) fun _ _ _=>False)
  (hCX:∀ H e s',CX [] H s₁ (fun _ _ _=>False) e s'->False) :
  gO (model P w) yK (.call (.ref fa) ⟨[.ref a],[]⟩) (fun r s'=>r = .ok (.ret (.bool true))/\OldK s₁.heap s'.heap/\s'.os=s₁.os/\rF s'.gens) s₁:=by
 have rv:=mJ hi
 have lenV:=hi.length
 have core:∀ H:Hp,Only H->SqL K H a (ns.map V.int)->HOk P w H s₁.heap->(∀ b,H b≠none->b=a)->(H a≠none->K.lookup a=none) ->
   gO (model P w) yK (.call (.ref fa) ⟨[.ref a],[]⟩) (fun r s'=>r = .ok (.ret (.bool true))/\OldK s₁.heap s'.heap/\s'.os=s₁.os/\rF s'.gens) s₁:=by
  intro H hO hS hok hA hK
  have aaH:∀ {b:Addr} {o:Obj},s₁.heap.get? b=some o->H b=none->(O7 s₁.heap H).get? b=some o:=fun e n=>afm e n
  have noA:∀ {b:Addr} {o:Obj} {es:Array VP} {ep:Nat},s₁.heap.get? b=some o->o.data = .dict es ep->H b=none:=fun {b o es ep} e d=>by
   cases q:H b with
   | none=>rfl
   | some u =>
    have e':b=a:=hA b (by rw [q];simp)
    subst e'
    rw [ha] at e;cases e
    have d':Data.seq vs.toArray _=Data.dict es ep:=d
    cases d'
  have nsK:∀ {b:Addr} {m:Str->Option Value},s₁.heap.Ns b m->(O7 s₁.heap H).Ns b m:=fun {b m} ⟨o,es,ep,e,d,r⟩=>⟨o,es,ep,aaH e (noA e d),d,r⟩
  have hKb:K.In (O7 s₁.heap H):=fun b o e=>aaH (KX b o e) (by
   cases q:H b with
   | none=>rfl
   | some u =>
    have e':b=a:=hA b (by rw [q];simp)
    subst e'
    rw [hK (by rw [q];simp)] at e;cases e)
  have hM:Mod K mg (O7 s₁.heap H):=⟨hKb,nsK hns,⟨mb,nsK hb,hbb⟩,let ⟨mc,h1,h2⟩:=hlim;⟨mc,nsK h1,h2⟩⟩
  have e0:Ka P w K mg (O7 s₁.heap H) yK [] s₁ H:=⟨rfl,hM,fun b o e=>ahL e,NQ (abE _ _),trivial,fun b hb=>absurd (show b∈([]:List Addr) from hb) (by simp),hok,.of_eq hg⟩
  refine GQ ((F _ hKb (nsK hns)).run yK [] s₁ H ⟨[.ref a],[]⟩ [.ref a] [.ref a] _ _ hr e0 (hbind s₁ (.ref a)) (.cons rfl .nil) (hsp H hO hS)) fun r s' h=>?_
  cases r with
  | error e=>exact (hCX H e s' h).elim
  | ok fl =>
   cases fl with
   | next=>exact lO h
   | brk=>exact lO h
   | cont=>exact lO h
   | ret u =>
    obtain ⟨v,H',os,bare,un,hok',r',q⟩:=h
    have q':v = .bl true:=q
    subst q'
    obtain rfl:u=Value.bool true:=r'
    refine ⟨rfl,OldK.of_keep fun b o e=>?_,os,bare⟩
    cases q:H b with
    | none=>exact un.keep b o e q (by intro z;exact absurd (show b∈([]:List Addr) from z) (by simp)) (by simp)
    | some u =>
     rcases hO b with z | ⟨ob,xs,z⟩
     ·rw [q] at z;cases z
     ·have z2:=un.uZ b ob _ z
      obtain ⟨e1,_⟩:=hok b _ z
      obtain ⟨e2,_⟩:=hok' b _ z2
      rw [e] at e1;cases e1
      exact e2
 cases hk:K.lookup a with
 | some o =>
  have e:=KX a o hk
  rw [ha] at e
  cases e
  refine core (fun _=>none) (fun _=>.inl rfl) (.inr ⟨_,vs.toArray,_,hk,rfl,rfl,rfl,by rw [gH,lenV];exact hl,by simpa using rv⟩) (fun b u z=>by have z':(none:Option HO)=some u:=z;cases z') (fun b z=>absurd rfl z) fun z=>absurd rfl z
 | none =>
  refine core (fun b=>if b=a then some (.frz { cls:=.type "list",data:=.seq vs.toArray } (.lst (ns.map V.int))) else none) (fun b=>?_) (.inl (.inr ⟨{ cls:=.type "list",data:=.seq vs.toArray },if_pos rfl⟩)) (fun b u z=>?_) (fun b z=>?_) fun _=>hk
  ·by_cases hb:b=a
   ·exact .inr ⟨_,_,if_pos hb⟩
   ·exact .inl (if_neg hb)
  ·by_cases hb:b=a
   ·have z':=(if_pos hb).symm.trans z
    cases z'
    subst hb
    exact ⟨ha,by rw [bK];exact hl,vs,_,rv,ha⟩
   ·have z':=(if_neg hb).symm.trans z
    cases z'
  ·by_cases hb:b=a
   ·exact hb
   ·exact absurd (if_neg hb) z
end L2
namespace L2
open PySem PySem.Spec PyProof.Rows
noncomputable abbrev KOf {K:aW} {h:Heap} (_:K.In h):aW:=K
theorem ahV {l:PySem.W.OpenLaw} {n k:Nat} {q:aV} {loose:List Str} {XP:(Str->Option Value)->Heap->Prop} {YP:World->Heap->Prop} {d:Nr} {K:Ck->aW} {CX:World->CXT} {sp:World->Sp} {x:Str}
  (hn:l.most=some n) (hn2:n<=sizeLine) (hdf:d.params.defaults=[]) (hr:jQ k yK)
  (hY:∀ (w:World) (h:Heap),YP w h->(K w.params).In h)
  (F:∀ (w:World) (mg:Str->Option Value) (fa:Addr) (h:Heap),(K w.params).In h->h.Ns fK mg->mg d.name=some (.ref fa) ->
   ∃ fd:FuncData,(∀ (s:Shared) (u:Value),Cj s fd ⟨[u],[]⟩ [(x,u)]) /\
    ∀ base:Heap,(K w.params).In base->base.Ns fK mg->cg l.prog w (K w.params) mg base (CX w) k fa fd [x] (sp w))
  (hsp:∀ (w:World) (H:Hp) (a:Addr) (ns:List Int),ns.length<=n->Only H->SqL (K w.params) H a (ns.map V.int)->sp w [.ref a] H (fun v _=>v = .bl true) fun _ _ _=>False)
  (hCX:∀ (w:World) (H:Hp) (s:Shared) (e:Value) (s':Shared),CX w [] H s (fun _ _ _=>False) e s'->False) :
  Vj q loose XP YP l.row.toRowW d [] (fun f vs=>Ng f vs):=by
 refine Att.Sg hn hdf fun w s₀ s₁ mg mb fa o pm cd doc a vs ns G Y ho hd hcd hmg hobj hints hlen hg=>?_
 have KX:=hY w _ Y
 obtain ⟨fd,hb,hF⟩:=F w mg fa _ KX G.T.g hmg
 exact afF KX G.T.g G.T.b G.T.builtins G.T.nolimit hg hobj hints (fX hlen hn2) hr hF hb (fun H hO hS=>hsp w H a ns hlen hO hS) fun H e s'=>hCX w H s₁ e s'
end L2
namespace L2
open PySem PySem.Spec PyProof.Rows
noncomputable abbrev CX0:CXT:=fun _ _ _ _ _ _=>False
noncomputable abbrev E0:XK:=fun _ _ _=>False
theorem aX {X:Cx}:Passes CX0 X E0:=fun _ _ _ _ _ _ _ h=>h.elim
structure Fun (K:aW) (x qual:Str) (st:Stmt) (f:Addr) (fd:FuncData):Prop where
 ex:∃ (oc:Value) (od:Option Addr) (kV doc pm:Value) (an:Option Addr) (cdv ct:Value) (osl:Array (Option Value)),
  fd=qM x qual (jT st) (jh st) (aG st) .none kV doc pm an cdv ct/\K.lookup f=some ⟨oc,od,.func fd,osl⟩/\Gv K cdv qual=true
 kp:vp K (.ref f)=true
section
variable {P:aV} {w:World} {K:aW} {mg:Str->Option Value} {base:Heap}
theorem Fun.ok {x qual:Str} {st:Stmt} {f:Addr} {fd:FuncData} {N ps:List Str} {k:Nat} {sp:Sp} (F:Fun K x qual st f fd) (S:aM N ps (aG st)) (len:∀ vs H Q E,sp vs H Q E->vs.length=ps.length)
  (hbody:∀ (cdv:Value) (A:bJ) (outer:List Env) (s:Shared) (H:Hp) (vs:List V) (Q:VK) (E:XK),jQ k (A.deeper (lC qual (aG st) s.heap.objs.size f cdv))->sp vs H Q E ->
   ∃ t,PSs (za CX0 P w K mg base N qual (aG st) f cdv A outer s H E).nox (jh st) t/\t { nx:=fun _ H'=>Q .non H',rt:=Q } (start N vs) H):cg P w K mg base CX0 (k+1) f fd ps sp:=by
 obtain ⟨oc,od,kV,doc,pm,an,cdv,ct,osl,rfl,lk,hcd⟩:=F.ex
 refine ajm lk hcd S len fun A outer s H vs Q E hr hsp=>?_
 obtain ⟨t,h,q⟩:=hbody cdv A outer s H vs Q E hr hsp
 exact ⟨t,h.nox,q⟩
theorem Fun.binds {x qual:Str} {st:Stmt} {f:Addr} {fd:FuncData} {ps:List Str} (F:Fun K x qual st f fd)
  (h:∀ (kV doc pm:Value) (an:Option Addr) (cdv ct:Value) (us:List Value),us.length=ps.length->vC (qM x qual (jT st) (jh st) (aG st) .none kV doc pm an cdv ct) ⟨us,[]⟩=pure (ps.zip us)):Binds K fd ps []:=by
 obtain ⟨oc,od,kV,doc,pm,an,cdv,ct,osl,rfl,lk,hcd⟩:=F.ex
 exact .all (h kV doc pm an cdv ct)
theorem alf {x qual:Str} {st:Stmt} {f:Addr} {oc:Value} {od an:Option Addr} {osl:Array (Option Value)} {kV doc pm cdv ct:Value} (l:K.lookup f=some ⟨oc,od,.func (qM x qual (jT st) (jh st) (aG st) .none kV doc pm an cdv ct),osl⟩)
  (c:Gv K cdv qual=true) (k:vp K (.ref f)=true):Fun K x qual st f (qM x qual (jT st) (jh st) (aG st) .none kV doc pm an cdv ct):=⟨⟨oc,od,kV,doc,pm,an,cdv,ct,osl,rfl,l,c⟩,k⟩
end
theorem bB {A:bJ} {k:Nat} (hr:jQ k A):A.units+1<cLine:=Ef (Nat.add_le_add_left (by decide:1<=64) _) hr.units
theorem cH {n:Nat} (h:n<=1000):n<sizeLine:=Ef h (by decide)
section
variable {X:Cx}
theorem pv (i:Nat) {x:Str} {pos:Pos} (hN:X.N[i]? = some x:=by rfl) (hv:Vis X.env.scope x:=by first | exact Or.inl rfl | exact Or.inr (Or.inl rfl) | exact Or.inr (Or.inr rfl)) (hd:(x == ("__debug__" : Str))=false:=by decide)
  (hcd:(x == ("__classdict__" : Str))=false:=by decide):PE X (.Name x pos) (tVar i):=ak5 hN hv hd hcd
end
theorem lD {A B:Prop} (h:B):if false=true then A else B:=by
 rw [if_neg iM]
 exact h
theorem Ih {A B:Prop} (h:A):if true=true then A else B:=by
 rw [if_pos rfl]
 exact h
theorem cV {c A B:Prop} [Decidable c] (h1:c->A) (h2:¬ c->B):if c then A else B:=by
 by_cases h:c
 ·rw [if_pos h]
  exact h1 h
 ·rw [if_neg h]
  exact h2 h
theorem ajq {c A B:Prop} [Decidable c] (hc:c) (h:B):if (!decide c)=true then A else B:=by
 rw [decide_eq_true hc]
 exact lD h
noncomputable def Same (H H':Hp):Prop:=∀ b o,H b=some o->H' b=some o
theorem Same.refl (H:Hp):Same H H:=fun _ _ h=>h
theorem Same.trans {H H1 H2:Hp} (a:Same H H1) (b:Same H1 H2):Same H H2:=fun c o h=>b c o (a c o h)
theorem Same.free {H H':Hp} (e:Same H H') {l:Addr} (h:H' l=Option.none):H l=Option.none:=by
 cases q:H l with
 | none=>rfl
 | some o =>
  rw [e l o q] at h
  cases h
theorem Same.seq {K:aW} {H H':Hp} {a:Addr} {xs:List V} (e:Same H H') (h:SqL K H a xs):SqL K H' a xs:=by
 rcases h with (h | ⟨o,h⟩) | h
 ·exact .inl (.inl (e _ _ h))
 ·exact .inl (.inr ⟨o,e _ _ h⟩)
 ·exact .inr h
section
variable {κ:Type} [DecidableEq κ]
end
end L2
set_option Elab.async false
set_option maxRecDepth 100000
namespace L2
open PySem PySem.Spec PyProof.Rows
section
variable {X:Cx}
noncomputable def aaI (K:aW):List V->Hp->VK->Prop:=fun xs H Q=>(∃ x n,xs=[x]/\LenV K x H n/\Q (.int n) H)\/∃ a kvs,xs=[V.ref a]/\Rd H a (.dK kvs)/\Q (.int kvs.length) H
theorem Zf:iu X (.builtin "len") (fun xs H Q=>∃ a kvs,xs=[V.ref a]/\Rd H a (.dK kvs)/\Q (.int kvs.length) H):=by
 walk_at "o"
 obtain ⟨a,kvs,rfl,ha,q⟩:=h
 obtain ⟨u,rfl,ru⟩:=vals1 r
 cases ru
 exact d_len I ha fun t s' I'=>⟨.int kvs.length,H,I',⟨t,rfl⟩,q⟩
theorem gG:iu X (.builtin "len") (aaI X.K):=afv.or Zf
noncomputable def Ke (K:aW):R2:=fun x y H Q=>rIxL K x y H Q\/rIxT K x y H Q\/∃ a v,x = .ref a/\Kd H a y (some v)/\Q v H
theorem ahW (hu:X.A.units+1<cLine):IxR X (fun x y H Q=>∃ a v,x = .ref a/\Kd H a y (some v)/\Q v H):=by
 intro value slice pins s σ H x y v u Q I rx ry h hs
 obtain ⟨a,z,rfl,g,q⟩:=h
 obtain rfl:v=Value.ref a:=rx
 have hT:=R6 I g
 unfold Ob
 refine aR ?_
 rw [getitemInPython_of_ne hT.not_modules]
 refine aR (Vv hT PySem.F.slot_dict_getitem.lookup ?_)
 have fin:wpAny (model X.prog X.w) X.A (VB slice false (.ref a) u) (fun r s₃=>wpAny (model X.prog X.w) X.A (letTemporaryGo value (.ref a) r >>= fun _=>pure r) (EP X pins σ Q) X.xe s₃) X.xe s:=by
  rw [hs]
  exact wpAny_operating (abP hu I g ry fun w' s3 I3 rw'=>aR (wpAny_letTemporaryGo (bw ⟨z,H,I3,rw',q⟩)))
 first
  | exact bw (aR fin)
  | exact aR (bw (aR fin))
  | exact aR fin
theorem ixG (hu:X.A.units+1<cLine):IxR X (Ke X.K):=ahS.or (ak9.or (ahW hu))
noncomputable def ajr:V->V->V->Hp->(Hp->Prop)->Prop:=fun o i v H Q=>ajn o i v H Q\/∃ a H',o = .ref a/\DPut H a i v H'/\Q H'
theorem setG (hu:X.A.units+1<cLine):PSet X ajr:=by
 intro pins s σ H o i v ov iv u Q I ro ri rv h
 rcases h with h | ⟨a,H',rfl,g,q⟩
 ·exact set_list pins s σ H o i v ov iv u Q I ro ri rv h
 ·obtain rfl:ov=Value.ref a:=ro
  exact abQ hu I g ri rv fun s' I'=>⟨H',I',q⟩
noncomputable def rInG (K:aW) (neg:Bool):R2:=fun x y H Q=>rIn K neg x y H Q\/∃ a o,y = .ref a/\Kd H a x o/\Q (.bl (if neg then !o.isSome else o.isSome)) H
theorem inG (hu:X.A.units+1<cLine):OpR X (jO .In) (rInG X.K false):=by
 walk_at "l"
 rcases h with h | ⟨a,o,rfl,g,q⟩
 ·exact abO pins s σ H x y v u Q I rx ry h
 ·obtain rfl:u=Value.ref a:=ry
  exact d_in hu I g rx fun s' I'=>⟨.bl o.isSome,H,I',rfl,q⟩
theorem alg (hu:X.A.units+1<cLine):OpR X (jO .NotIn) (rInG X.K true):=by
 walk_at "l"
 rcases h with h | ⟨a,o,rfl,g,q⟩
 ·exact Pn pins s σ H x y v u Q I rx ry h
 ·obtain rfl:u=Value.ref a:=ry
  exact ahU hu I g rx fun s' I'=>⟨.bl (!o.isSome),H,I',rfl,q⟩
noncomputable def alh:List V->Hp->VK->Prop:=fun xs H Q=>∃ a kvs,xs=[V.ref a]/\Rd H a (.dK kvs)/\∀ p,H p=none->Q (.ref p) (upd H p (.dK kvs))
theorem Zg:iu X (.type "dict") alh:=by
 walk_at "o"
 obtain ⟨a,kvs,rfl,ha,q⟩:=h
 obtain ⟨u,rfl,ru⟩:=vals1 r
 cases ru
 exact afE I ha fun p s' hp I'=>⟨.ref p,_,I',rfl,q p hp⟩
theorem aaJ {P:aV} {w:World} {k:Key} {u:Value} (h:(dj P w).is k u=true):RelV (kV k) u:=by
 rcases gk (show HN k u=true from h) with ⟨i,t,rfl,rfl⟩ | ⟨x,t,rfl,rfl⟩
 ·exact ⟨t,rfl⟩
 ·exact ⟨t,rfl⟩
theorem wX {P:aV} {w:World}:∀ {kvs:List (Key × V)} {vs:List (Key × Value)} {us:List Value},KV kvs vs->us.length=vs.length ->
  (∀ (j:Nat) (u:Value),us[j]? = some u->∃ k x,vs[j]? = some (k,x)/\(dj P w).is k u=true)->Vals (kvs.map fun p=>kV p.1) us
 | [],_,[],.nil,_,_=>.nil
 | [],_,_::_,.nil,hl,_=>by cases hl
 | _::_,_,[],.cons _ _,hl,_=>by cases hl
 | p::ps,_,u::us,.cons (b:=q) r t,hl,h=>by
  obtain ⟨k,x,e,hk⟩:=h 0 u rfl
  have e':q=(k,x):=by simpa using e
  have e2:p.1=k:=by rw [r.1,e']
  refine .cons (by show RelV (kV p.1) u;rw [e2];exact aaJ hk) (wX (P:=P) (w:=w) t (by simpa using hl) fun j v hv=>?_)
  obtain ⟨k',x',e'',hk'⟩:=h (j+1) v (by simpa using hv)
  exact ⟨k',x',by simpa using e'',hk'⟩
theorem K6:∀ {kvs:List (Key × V)} {vs:List (Key × Value)} {us:List Value},KV kvs vs->us.length=vs.length ->
  (∀ (j:Nat) (u:Value),us[j]? = some u->∃ k,vs[j]? = some (k,u))->Vals (kvs.map (·.2)) us
 | [],_,[],.nil,_,_=>.nil
 | [],_,_::_,.nil,hl,_=>by cases hl
 | _::_,_,[],.cons _ _,hl,_=>by cases hl
 | p::ps,_,u::us,.cons (b:=q) r t,hl,h=>by
  obtain ⟨k,e⟩:=h 0 u rfl
  have e':q=(k,u):=by simpa using e
  refine .cons (by have:=r.2;rw [e'] at this;exact this) (K6 t (by simpa using hl) fun j v hv=>?_)
  obtain ⟨k',e''⟩:=h (j+1) v (by simpa using hv)
  exact ⟨k',by simpa using e''⟩
noncomputable def afG:List V->Hp->VK->Prop:=fun xs H Q=>∃ a kvs,xs=[V.ref a]/\Rd H a (.dK kvs)/\∀ p,H p=none->Q (.ref p) (upd H p (.lst (kvs.map fun p=>kV p.1)))
theorem Zh (hc:X.calm=true):iu X (.type "list") afG:=by
 walk_at "o"
 obtain ⟨a,kvs,rfl,ha,q⟩:=h
 obtain ⟨u,rfl,ru⟩:=vals1 r
 cases ru
 obtain ⟨z,hd,vs,rel,dd⟩:=sS I.hok ha
 obtain ⟨ep,hat⟩:=dd.dictAt
 have hl:=rel.length
 refine PySem.W.kdl_call (Vg (knd:=dj X.prog X.w) (kvs:=vs) (ep:=ep) hd) (I.ok.hd hc) hat (by rw [<- hl];exact z) fun h' tk acc' c' hk hD hacc=>?_
 have hv:Vals (kvs.map fun p=>kV p.1) acc'.toList:=wX rel (by rw [gU];exact hacc.1) fun j v e=>hacc.2 j v (by rw [<- pP];exact e)
 refine ⟨.ref s.heap.objs.size,_,I.laid (a:=s.heap.objs.size) (o:=.lst (kvs.map fun p=>kV p.1)) (t':=tk) hk (cJ _) ?_,rfl,q _ (I.hok.fresh (cJ _))⟩
 exact ⟨by rw [bK];exact z,acc'.toList,c',hv,by first | (rw [aej];exact hD) | simpa using hD⟩
noncomputable def ali (K:aW):List V->Hp->VK->Prop:=fun xs H Q=>(∃ p ys,xs=[.ref p]/\(SqL K H p ys\/SqT K H p ys)/\∀ l,H l=none->Q (.ref l) (upd H l (.lst ys)))\/afG xs H Q
theorem zc (hc:X.calm=true):iu X (.type "list") (ali X.K):=Pq.or (Zh hc)
noncomputable def rIsi (K:aW):List V->Hp->VK->Prop:=fun xs H Q=>∃ x c t cv b,xs=[x,c]/\RelV c cv/\(∀ u,RelV c u->u=cv)/\xM K H x t/\fJ K t cv=some b/\Q (.bl b) H
theorem call_isinstance:iu X (.builtin "isinstance") (rIsi X.K):=by
 walk_at "o"
 obtain ⟨x,c,t,cv,b,rfl,rc,inj,ty,e,q⟩:=h
 obtain ⟨u,w',rfl,ru,rw'⟩:=vals2 r
 obtain rfl:=inj w' rw'
 exact abM I ru ty e fun tk=>⟨.bl b,H,I.tok tk,rfl,q⟩
variable {a b c d:Expr} {ta tb tc td:TE} {pos:Pos}
end
end L2
namespace L2
open PySem PySem.Spec PyProof.Rows
section
variable {P:aV} {w:World} {H H':Hp} {h h':Heap} {a:Addr} {o:HO}
theorem dO.ex (x:dO P w H h a o):∃ u,h.get? a=some u:=by
 cases o with
 | lst xs=>obtain ⟨_,_,_,_,e⟩:=x;exact ⟨_,e⟩
 | tup xs=>obtain ⟨_,_,_,ob,e,_⟩:=x;exact ⟨ob,e⟩
 | dK kvs=>obtain ⟨_,_,_,_,o,_,_,e,_⟩:=x;exact ⟨o,e⟩
 | dT kvs=>obtain ⟨_,_,_,_,o,_,_,e,_⟩:=x;exact ⟨o,e⟩
 | set S n=>obtain ⟨o,_,_,_,e,_⟩:=x;exact ⟨o,e⟩
 | ins C dx fs=>obtain ⟨_,_,_,e,_⟩:=x;exact ⟨_,e⟩
 | own y=>exact x
 | xd fs=>obtain ⟨_,⟨o,_,_,e,_⟩,_⟩:=x;exact ⟨o,e⟩
 | rng lo hi=>obtain ⟨_,_,_,e⟩:=x;exact ⟨_,e⟩
 | frz ob u=>obtain ⟨e,_⟩:=x;exact ⟨_,e⟩
 | tbl ps=>exact ⟨_,show h.get? a=some _ from x⟩
 | met f y=>exact ⟨_,show h.get? a=some _ from x⟩
 | ext φ=>obtain ⟨_,⟨o,e⟩,_⟩:=x;exact ⟨o,e⟩
theorem HOk.Ep (x:HOk P w H h) (k:∀ b u,h.get? b=some u->h'.get? b=some u) (hn:H a=none) (new:dO P w (upd H a o) h' a o):HOk P w (upd H a o) h':=fun b u e=>by
 by_cases hb:b=a
 ·subst hb;rw [ak] at e;cases e;exact new
 ·rw [aB hb] at e
  exact (x b u e).stay (fun c v _ q=>k c v q) (fun c q=>by rw [aB (aq q hn)];exact q) fun c xs q=>by rw [aB (aq q hn)];exact q
theorem Un.Ep {fs ex:List Addr} (k:∀ b u,h.get? b=some u->h'.get? b=some u) (hne:∀ b u,h.get? b=some u->b≠a) (hn:H a=none):Un fs ex H (upd H a o) h h' where
 keep:=fun b u q _ _ _=>k b u q
 slot:=fun b u q _ _ _=>⟨u.slots,k b u q⟩
 free:=fun b u q n _=>by rw [aB (hne b u q)];exact n
 there:=fun b u q _=>⟨u,k b u q⟩
 tups:=fun b xs q=>by rw [aB (aq q hn)];exact q
 uZ:=fun b u xs q=>by rw [aB (aq q hn)];exact q
 yW:=fun b ps q=>⟨#[],by rw [aB (aq q hn),q];simp⟩
end
section
variable {X:Cx} {pins:List (Addr × Obj)} {σ:St} {H H':Hp} {s:Shared} {h':Heap}
theorem Inv.none_of (I:Inv X pins σ H s) {a:Addr} (hne:∀ b u,s.heap.get? b=some u->b≠a):H a=none:=by
 cases q:H a with
 | none=>rfl
 | some u =>
  obtain ⟨v,e⟩:=(I.hok a u q).ex
  exact absurd rfl (hne a v e)
theorem Inv.Ep {a:Addr} {o:HO} {t':Nat} (I:Inv X pins σ H s) (k:∀ b u,s.heap.get? b=some u->h'.get? b=some u) (hne:∀ b u,s.heap.get? b=some u->b≠a) (new:dO X.prog X.w (upd H a o) h' a o) :
  Inv X pins σ (upd H a o) { s with heap:=h',toks:=t' }:=I.un (Un.Ep k hne (I.none_of hne)) (I.hok.Ep k (I.none_of hne) new)
theorem Inv.afH {t':Nat} {it t:Addr} {o:HO} (I:Inv X pins σ H s) (k:∀ b u,b≠it->s.heap.get? b=some u->h'.get? b=some u) (hie:∃ u,h'.get? it=some u) (hn:H it=none) (hL:it≠X.env.locals)
  (h1:it∈X.ex\/X.s₀.heap.objs.size<=it) (h2:∀ x c,X.env.cells.lookup x=some c->c≠it) (h3:∀ p∈X.pn++pins,p.1≠it) (ht:s.heap.objs.size<=t)
  (new:dO X.prog X.w (upd H t o) h' t o):Inv X pins σ (upd H t o) { s with heap:=h',toks:=t' }:=by
 have nit:∀ b u,H b=some u->b≠it:=fun b u e z=>by rw [z,hn] at e;cases e
 have ntt:H t=none:=I.hok.fresh ht
 have lt:∀ b u,s.heap.get? b=some u->b≠t:=fun b u e=>cW (fW (bR e) ht)
 refine I.step (g':=s.gens) (d':=s.drawn) (ch:=[it]) (fun b hb=>?_) (fun b o _ _ hc e _=>k b o (fun z=>hc (by simp [z])) e) (fun b o _ _ hc e _=>⟨o.slots,k b o (fun z=>hc (by simp [z])) e⟩) (fun b u _ e n=>by rw [aB (lt b u e)];exact n)
  (fun b o hc e=>⟨o,k b o (fun z=>hc (by simp [z])) e⟩) (fun b xs e=>by rw [aB (aq e ntt)];exact e) (fun b q u e=>by rw [aB (aq e ntt)];exact e) (fun b ps e=>⟨#[],by rw [aB (aq e ntt),e];simp⟩) (fun m hm=>?_) (fun b u e=>?_) I.bare
 ·have e:b=it:=by simpa using hb
  subst e
  exact ⟨h1,hL,h2,h3⟩
 ·obtain ⟨o,es,ep,ho,r⟩:=hm
  exact ⟨o,es,ep,k _ o (aP hL) ho,r⟩
 ·by_cases hb:b=t
  ·subst hb;rw [ak] at e;cases e;exact new
  ·rw [aB hb] at e
   refine (I.hok b u e).stay (fun c v hc q=>k c v ?_ q) (fun c q=>by rw [aB (aq q ntt)];exact q) fun c xs q=>by rw [aB (aq q ntt)];exact q
   rcases hc with z | z
   ·rw [z];exact nit b u e
   ·exact nit c _ z
theorem Inv.freeze {a:Addr} {kvs:List (Key × V)} (I:Inv X pins σ H s) (e:H a=some (.dK kvs)):∃ o es ep,o.data = .dict es ep/\s.heap.get? a=some o/\Inv X pins σ (upd H a (.frz o (.dK kvs))) s:=by
 obtain ⟨z,hd,vs,rel,o,es,ep,ho,hx⟩:=ajp I.hok e
 refine ⟨o,es,ep,hx.2.1,ho,?_⟩
 have I':Inv X pins σ (upd H a (.frz o (.dK kvs))) { s with heap:=s.heap,toks:=s.toks }:=I.write (x:=a) (e:=a) (by rw [e];exact trivial) (.inl rfl) (fun _ _ _ q=>q) ⟨o,ho⟩ ⟨ho,z,hd,vs,rel,o,es,ep,ho,hx⟩
 exact I'
theorem Inv.thaw {a:Addr} {o:Obj} {kvs:List (Key × V)} (I:Inv X pins σ H s) (e:H a=some (.frz o (.dK kvs))) (th:∀ q u,X.H₀ a≠some (.frz q u)):Inv X pins σ (upd H a (.dK kvs)) s:=by
 have ne:∀ b,H b=none->b≠a:=fun b n z=>by rw [z,e] at n;cases n
 have nt:∀ b xs,H b=some (.tup xs)->b≠a:=fun b xs n z=>by rw [z,e] at n;cases n
 have no:∀ b y,H b=some (.own y)->b≠a:=fun b y n z=>by rw [z,e] at n;cases n
 refine ⟨I.ok,I.os,I.bare,⟨I.base.keep,I.base.slot,fun b ob q n hx=>?_,I.base.there,fun b xs q=>?_,fun b ob u q=>?_,fun b ps q=>?_⟩,I.loc,I.cell,?_,fun x c q=>?_,fun p hp=>?_,fun b u q=>?_,I.len⟩
 ·have n':=I.base.free b ob q n hx
  rw [aB (ne b n')];exact n'
 ·have q':=I.base.tups b xs q
  rw [aB (nt b xs q')];exact q'
 ·have q':=I.base.uZ b ob u q
  rw [aB (fun (z:b=a)=>th ob u (z ▸ q))];exact q'
 ·obtain ⟨m,q'⟩:=I.base.yW b ps q
  exact ⟨m,by rw [aB (fun z=>by rw [z,e] at q';cases q')];exact q'⟩
 ·rw [aB (ne _ I.free)];exact I.free
 ·have n:=I.pU x c q
  rw [aB (ne _ n)];exact n
 ·obtain ⟨h1,n,r⟩:=I.pin p hp
  exact ⟨h1,by rw [aB (ne _ n)];exact n,r⟩
 ·by_cases hb:b=a
  ·subst hb;rw [ak] at q;cases q
   obtain ⟨_,r⟩:=(show dO X.prog X.w H s.heap b (.frz o (.dK kvs)) from I.hok b _ e)
   exact r
  ·rw [aB hb] at q
   exact (I.hok b u q).stay (fun _ _ _ r=>r) (fun c r=>by rw [aB (no c b r)];exact r) fun c xs r=>by rw [aB (nt c xs r)];exact r
end
noncomputable def Iti (a:Addr) (o:Obj) (kvs:List (Key × V)):It :=
 ⟨fun i H=>H a=some (.frz o (.dK kvs))/\i<kvs.length,fun i H x H'=>∃ p t,kvs[i]? = some p/\H t=none/\x = .ref t/\H'=upd H t (.tup [kV p.1,p.2]),fun i H=>H a=some (.frz o (.dK kvs))/\kvs.length<=i⟩
theorem Zi {P:aV} {w:World} {H:Hp} {h:Heap} {a:Addr} {o:Obj} {kvs:List (Key × V)} {es:Array VP} {ep:Nat} (hok:HOk P w H h) (e:H a=some (.frz o (.dK kvs))) (hd:o.data = .dict es ep) :
  ∃ vs,KV kvs vs/\h.DictAt (dj P w) a vs ep:=by
 obtain ⟨ho,_,_,vs,rel,o',es',ep',ho',h2,h3,r⟩:=(show dO P w H h a (.frz o (.dK kvs)) from hok a _ e)
 rw [ho] at ho';cases ho'
 rw [hd] at h3;cases h3
 exact ⟨vs,rel,o,_,ho,h2,hd,r⟩
theorem KV.at {kvs:List (Key × V)} {vs:List (Key × Value)} (r:KV kvs vs):∀ {i:Nat} {p:Key × V},kvs[i]? = some p->∃ v,vs[i]? = some (p.1,v)/\RelV p.2 v:=by
 unfold KV at r
 induction r with
 | nil=>intro i p e;simp at e
 | @cons a b as bs h t ih =>
  intro i p e
  cases i with
  | zero =>
   have e':a=p:=by simpa using e
   subst e'
   exact ⟨b.2,by rw [h.1];rfl,h.2⟩
  | succ j =>
   obtain ⟨v,h1,h2⟩:=ih (i:=j) (p:=p) (by simpa using e)
   exact ⟨v,by simpa using h1,h2⟩
theorem xO:entryFor table "dict_itemiterator.__iter__" = some g8.«dict_keyiterator.__iter__» :=
 entryFor_alias (id' := "dict_keyiterator.__iter__") (by kernel_rfl) rfl tb_g% (by kernel_rfl)
theorem u9 {prog:aV} {w:World} {A:bJ} {E:Value->Shared->Prop} {s:Shared} {it d:Addr} {i n ep:Nat} {ok ov:Value} {Q:Value->Shared->Prop} (hit:IsItemIter s.heap it d i n ep ok ov) (h:Q (.ref it) s) :
  wpAny (model prog w) A (Nt (.ref it)) Q E s:=by
 have hT:s.TypeIs (.ref it) "dict_itemiterator" := ⟨_,hit,rfl⟩
 refine wpAny_pyIter_slot hT F.slot_dict_itemiterator_iter (GF F.slot_dict_itemiterator_iter hT xO ?_ (F.args_dict_itemiterator_iter_1 _))
 show wpAny _ _ (ret (.ref it)) _ _ s
 exact bw ⟨_,rfl,"dict_itemiterator",_,hT,F.slot_dict_itemiterator_next.lookup,h⟩
theorem Zj {P:aV} {w:World} {K:aW} {elts:List Expr} {x1} {tpos:Pos} (a it:Addr) (o:Obj) (kvs:List (Key × V)) {es:Array VP} {ep:Nat} (hd:o.data = .dict es ep) :
  Turn P w K (.Tuple elts x1 tpos) (Iti a o kvs) [it] it (fun i h=>∃ ok ov,IsItemIter h it a i kvs.length ep ok ov) where
 mem:=by simp
 obj:=fun i h st b hb=>by
  have e:b=it:=by simpa using hb
  subst e
  obtain ⟨ok,ov,e⟩:=st
  exact ⟨_,e,fun v z=>by cases z⟩
 keep:=fun i h h' st k=>by
  obtain ⟨ok,ov,e⟩:=st
  exact ⟨ok,ov,k it (by simp) _ e⟩
 item:=by
  walk_at "k"
  subst hP hw hK
  obtain ⟨e,hi⟩:=hg
  obtain ⟨vs,rel,dm⟩:=Zi I.hok e hd
  have hl:=rel.length
  obtain ⟨p,hp⟩:∃ p,kvs[i]? = some p:=⟨kvs[i],by simp [hi]⟩
  obtain ⟨v,hv,rv⟩:=rel.at hp
  k_dat it "m"
  obtain ⟨ok,ov,st⟩:=st
  refine wpAny_pyNext_items_item (knd:=dj X.prog X.w) (by rw [<- hl];exact st) dm hv fun key h' hkey heo ht hz hk=>?_
  have hit:it<s.heap.objs.size:=bR st
  have nt:H s.heap.objs.size=none:=I.hok.fresh (cJ _)
  have I1:Inv X pins σ (upd H s.heap.objs.size (.tup [kV p.1,p.2])) { s with heap:=h' }:=I.afH (t':=s.toks) hk ⟨_,heo⟩ f0 f1 f3 f4 f5 (cJ _)
   ⟨by show 2<=sizeLine;decide,[key,v],.cons (aaJ hkey) (.cons rv .nil),⟨_,ht,rfl,_,rfl⟩⟩
  have n1:(upd H s.heap.objs.size (.tup [kV p.1,p.2])) it=none:=by rw [aB (cW hit)];exact f0
  refine ⟨.ref s.heap.objs.size,rfl,wpAny_letOwnedTupleGo_items heo fun h2 he2 hs2=>?_⟩
  refine ⟨.ref s.heap.objs.size,_,I1.turned (t':=s.toks) (fun b ob hb q=>(hs2.2 b hb).trans q) n1 f1 f3 f4 f5,rfl,⟨p,_,hp,nt,rfl,rfl⟩,⟨key,v,by rw [<- hl] at he2;exact he2⟩,fun b hb=>?_⟩
  have eb:b=it:=by simpa using hb
  subst eb
  exact n1
 done:=by
  walk_at "k"
  subst hP hw hK
  obtain ⟨e,hi⟩:=hg
  obtain ⟨vs,rel,dm⟩:=Zi I.hok e hd
  have hl:=rel.length
  k_dat it "m"
  obtain ⟨ok,ov,st⟩:=st
  exact wpAny_pyNext_items_end (knd:=dj X.prog X.w) (I.ok.hd hc) (by rw [<- hl];exact st) dm (by rw [Ut];lia) fun h' eb=>⟨rfl,I.turned (t':=s.toks) (fun b o hb e=>eb b o hb e) f0 f1 f3 f4 f5⟩
 self:=fun A i s Q E st h=>by
  obtain ⟨ok,ov,e⟩:=st
  exact u9 e h
section
variable {X:Cx} {tg:Expr}
noncomputable abbrev Warm (X:Cx) (a:Addr):Prop:=∀ q u,X.H₀ a≠some (.frz q u)
theorem Inv.warm {pins:List (Addr × Obj)} {σ:St} {H:Hp} {s:Shared} {a:Addr} {kvs:List (Key × V)} (I:Inv X pins σ H s) (e:H a=some (.dK kvs)):Warm X a:=fun q u z=>by
 have:=I.base.uZ a q u z
 rw [e] at this;cases this
noncomputable def afI (X:Cx) (td:TE):TI:=fun σ H R=>td σ H fun x H1=>∃ a kvs,x = .ref a/\H1 a=some (.dK kvs)/\∀ o,Warm X a->R (Iti a o kvs) (upd H1 a (.frz o (.dK kvs)))
structure MI (X:Cx) (o:Expr) (m:Str) (apos cpos:Pos):Prop where
 base:yE o m X.env (eval o X.env)=eval o X.env
 line:(apos.endLine == cpos.line)=true
theorem afJ {l:Expr} {td:TE} {elts:List Expr} {x1} {tpos apos cpos:Pos} (hl:PE X l td) (m:MI X l "items" apos cpos):PI X (.Tuple elts x1 tpos) (.Call (.Attribute l "items" apos) [] [] cpos) (afI X td):=by
 intro pins s σ H R I h
 refine Vs (T := "dict") (id := "dict.items") m.base rfl m.line Wz aeG PySem.F.type_dict_items (thn (hl pins s σ H _ I h) fun v s1 ⟨x,H1,I1,r1,q1⟩=>?_)
 obtain ⟨a,kvs,rfl,e,q⟩:=q1
 obtain rfl:v=Value.ref a:=r1
 obtain ⟨t1,t2,hS⟩:=Ze I1 (.inl ⟨kvs,.inl e⟩)
 refine ⟨t1,t2,?_⟩
 obtain ⟨o,es,ep,hd,ho,If⟩:=I1.freeze e
 obtain ⟨vs,rel,dm⟩:=Zi If.hok ak hd
 have hl':=rel.length
 refine adO aeG PySem.F.entry_dict_items rfl (Vo ⟨rfl,t1,PySem.F.args_dict_items_1 _,_,meets_dict_items (dj X.prog X.w) a hS,⟨vs,dm.dictOf⟩,?_⟩)
 refine wpAny_pyIter_items (knd:=dj X.prog X.w) (d:=a) ⟨_,iC _ rfl,rfl,rfl⟩ (dm.push _) ?_
 have I2:=If.kept (h':=s1.heap.push { cls:=.type "dict_items",data:=.fields #[.ref a] }) (t':=s1.toks) fun b ob e=>gK _ e
 refine ⟨(s1.heap.push { cls:=.type "dict_items",data:=.fields #[.ref a] }).objs.size,[(s1.heap.push { cls:=.type "dict_items",data:=.fields #[.ref a] }).objs.size],_,_,_,rfl,I2.kept (t':=s1.toks) fun b ob e=>gK _ e,Zj a _ o kvs hd,
  ⟨.none,.none,by rw [hl'];exact iC _ rfl⟩,fun b hb=>?_,q o (I1.warm e)⟩
 have eb:b=(s1.heap.push { cls:=.type "dict_items",data:=.fields #[.ref a] }).objs.size:=by simpa using hb
 subst eb
 exact I2.abH (cJ _) (I2.hok.fresh (cJ _))
noncomputable def afK (X:Cx) (D:Ends):Ends where
 nx:=fun σ H=>∃ a kvs o,Warm X a/\H a=some (.frz o (.dK kvs))/\D.nx σ (upd H a (.dK kvs))
 rt:=fun v H=>∃ a kvs o,Warm X a/\H a=some (.frz o (.dK kvs))/\D.rt v (upd H a (.dK kvs))
theorem ahX {pins:List (Addr × Obj)} {D:Ends} {f:Flow} {s':Shared} (h:SP X pins (afK X D) f s'):SP X pins D f s':=by
 cases f with
 | next =>
  obtain ⟨σ',H',I,a,kvs,o,w,e,q⟩:=h
  exact ⟨σ',_,I.thaw e w,q⟩
 | brk =>
  obtain ⟨σ',H',I,q⟩:=h
  exact q.elim
 | cont =>
  obtain ⟨σ',H',I,q⟩:=h
  exact q.elim
 | ret u =>
  obtain ⟨v,σ',H',I,r,a,kvs,o,w,e,q⟩:=h
  exact ⟨v,σ',_,I.thaw e w,r,q⟩
noncomputable def tForI (X:Cx) (td:TE) (g:TG) (tb:TS):TS:=fun D σ H=>tFor (afI X td) g tb (afK X D) σ H
theorem ahY {l:Expr} {td:TE} {body:List Stmt} {elts:List Expr} {x1} {tpos apos cpos:Pos} {g:TG} {tb:TS} {pos:Pos} (hp:VL (model X.prog X.w) X.A X.env X.xe) (hc:X.calm=true) (hl:PE X l td) (m:MI X l "items" apos cpos)
  (hg:PG X (.Tuple elts x1 tpos) g) (hb:PSs X body tb)
  (hs:∀ x,GC (.Call (.Attribute l "items" apos) [] [] cpos) X.env x=pure x:=by intro _;rfl):PS X (.For (.Tuple elts x1 tpos) (.Call (.Attribute l "items" apos) [] [] cpos) body [] pos) (tForI X td g tb) :=
 fun pins s σ H D I h=>thn (mH hp hc (afJ hl m) hg hb hs pins s σ H (afK X D) I h) fun _ _ q=>ahX q
theorem abT {a:Addr} {o:Obj} {kvs:List (Key × V)} {g:TG} {tb:TS} {D:Ends} {σ:St} {H:Hp} (Pv:Nat->St->Hp->Prop) (h0:Pv 0 σ H) (hl:∀ i σ H,Pv i σ H->H a=some (.frz o (.dK kvs)))
  (hs:∀ i p t σ H,kvs[i]? = some p->Pv i σ H->H t=none->g (.ref t) σ (upd H t (.tup [kV p.1,p.2])) fun σ2 H2=>tb { D with nx:=Pv (i+1),ct:=Pv (i+1),bk:=D.nx } σ2 H2) (hd:∀ σ H,Pv kvs.length σ H->D.nx σ H) :
  ∃ W:Nat->Nat->St->Hp->Prop,(∃ m,W 0 m σ H)/\∀ i m σ H,W i m σ H ->
   ((Iti a o kvs).stop i H/\D.nx σ H)\/((Iti a o kvs).go i H/\∃ N:St->Hp->Prop,(∀ σ' H',N σ' H'->∃ m',m'<m/\W (i+1) m' σ' H')/\∀ x H',(Iti a o kvs).yld i H x H'->g x σ H' fun σ2 H2=>tb { D with nx:=N,ct:=N,bk:=D.nx } σ2 H2):=by
 refine ⟨fun i m σ H=>m=kvs.length-i/\i<=kvs.length/\Pv i σ H,⟨kvs.length,by simp,bZ _,h0⟩,?_⟩
 rintro i m σ H ⟨rfl,hi,p⟩
 have q:=hl i σ H p
 by_cases hlt:i<kvs.length
 ·refine .inr ⟨⟨q,hlt⟩,Pv (i+1),fun σ' H' p'=>⟨kvs.length-(i+1),by lia,rfl,hlt,p'⟩,fun x H' y=>?_⟩
  obtain ⟨pr,t,hp,ht,ex,e⟩:=y
  subst e ex
  exact hs i pr t σ H hp p ht
 ·have e:i=kvs.length:=by lia
  subst e
  exact .inl ⟨⟨q,cJ _⟩,hd σ H p⟩
end
section
variable {X:Cx} {l:Expr} {td:TE} {p kp cpos apos pos:Pos} {j:Nat} {bpos:Pos}
end
end L2
set_option autoImplicit false
namespace MG
noncomputable abbrev Tab:=List (Int × Int)
noncomputable def look (c:Tab) (k:Int):Option Int:=(c.find? fun p=>decide (p.1=k)).map (·.2)
noncomputable def low (c:Tab) (k:Int):Int:=(look c k).getD 0
noncomputable def put (c:Tab) (k v:Int):Tab :=
 if (c.any fun p=>decide (p.1=k))=true then c.map (fun p=>if p.1=k then (p.1,v) else p) else c++[(k,v)]
noncomputable def keys (c:Tab):List Int:=c.map (·.1)
noncomputable def vals (c:Tab):List Int:=c.map (·.2)
noncomputable def dz (c:Tab) (cut:Int):Tab:=(c.filter fun p=>decide (cut<p.2)).map fun p=>(p.1,p.2-cut)
theorem afL (k:Int):look [] k=none:=rfl
theorem jC (p:Int × Int) (r:Tab) (k:Int):look (p::r) k=if p.1=k then some p.2 else look r k:=by
 unfold look
 rw [yr]
 by_cases h:p.1=k
 ·rw [if_pos h];simp [h]
 ·rw [if_neg h];simp [h]
theorem Px (k:Int):low [] k=0:=rfl
theorem Ah (p:Int × Int) (r:Tab) (k:Int):low (p::r) k=if p.1=k then p.2 else low r k:=by
 unfold low
 rw [jC]
 by_cases h:p.1=k
 ·rw [if_pos h,if_pos h];rfl
 ·rw [if_neg h,if_neg h]
theorem aaK (c:Tab) (k:Int):(c.any fun p=>decide (p.1=k))=true↔k∈keys c:=by
 unfold keys
 rw [List.any_eq_true]
 constructor
 ·rintro ⟨p,h1,h2⟩
  exact oN.mpr ⟨p,h1,of_decide_eq_true h2⟩
 ·intro h
  obtain ⟨p,h1,h2⟩:=oN.mp h
  exact ⟨p,h1,decide_eq_true h2⟩
theorem xX (c:Tab) (k:Int):look c k=none↔k∉keys c:=by
 induction c with
 | nil=>simp [afL,keys]
 | cons p r ih =>
  rw [jC]
  by_cases h:p.1=k
  ·rw [if_pos h];simp [keys,h]
  ·rw [if_neg h,ih];simp [keys];intro _ e;exact h e.symm
theorem vX {c:Tab} {k:Int} (h:k∉keys c):low c k=0:=by
 unfold low;rw [(xX c k).mpr h];rfl
theorem afM {c:Tab} {k v:Int} (h:look c k=some v):(k,v)∈c:=by
 induction c with
 | nil=>cases h
 | cons p r ih =>
  rw [jC] at h
  by_cases e:p.1=k
  ·rw [if_pos e] at h
   cases h
   rw [<- e];exact gq
  ·rw [if_neg e] at h;exact gY _ (ih h)
theorem zf {c:Tab} (h:∀ p∈c,1<=p.2) (k:Int):0<=low c k:=by
 unfold low
 cases e:look c k with
 | none=>exact fM 0
 | some v=>have:=h _ (afM e);simp at this ⊢; lia
theorem abU (c:Tab) (k v:Int):keys (c.map fun p=>if p.1=k then (p.1,v) else p)=keys c:=by
 unfold keys
 rw [pI]
 apply Gm
 intro p _
 show (if p.1=k then (p.1,v) else p).1=p.1
 split <;> rfl
theorem Py {c:Tab} {k v:Int} (h:k∈keys c):put c k v=c.map fun p=>if p.1=k then (p.1,v) else p:=by
 unfold put;rw [if_pos ((aaK c k).mpr h)]
theorem FN {c:Tab} {k v:Int} (h:k∉keys c):put c k v=c++[(k,v)]:=by
 unfold put;rw [if_neg (fun z=>h ((aaK c k).mp z))]
theorem afN (c:Tab) (k v:Int):keys (put c k v)=if k∈keys c then keys c else keys c++[k]:=by
 by_cases h:k∈keys c
 ·rw [if_pos h,Py h,abU]
 ·rw [if_neg h,FN h];simp [keys]
theorem afO {c:Tab} (hn:(keys c).Nodup) (k v:Int):(keys (put c k v)).Nodup:=by
 rw [afN]
 by_cases h:k∈keys c
 ·rw [if_pos h];exact hn
 ·rw [if_neg h,adb]
  refine ⟨hn,by simp,?_⟩
  intro a ha b hb e
  rw [gZ] at hb
  exact h (by rw [<- hb,<- e];exact ha)
theorem ahZ (c:Tab) (k v:Int):(put c k v).length<=c.length+1:=by
 unfold put
 split
 ·rw [bK];lia
 ·rw [eV];simp
theorem abV (c:Tab) (k v j:Int):look (c.map fun p=>if p.1=k then (p.1,v) else p) j=(look c j).map fun x=>if j=k then v else x:=by
 induction c with
 | nil=>rfl
 | cons p r ih =>
  rw [jg,jC,jC,ih]
  by_cases h:p.1=k
  ·rw [if_pos h]
   by_cases e:p.1=j
   ·rw [if_pos e,if_pos e,aeP,if_pos (e.symm.trans h)]
   ·rw [if_neg e,if_neg e]
  ·rw [if_neg h]
   by_cases e:p.1=j
   ·rw [if_pos e,if_pos e,aeP,if_neg (fun z=>h (e.trans z))]
   ·rw [if_neg e,if_neg e]
theorem abW (c:Tab) (k v j:Int) (h:k∉keys c):look (c++[(k,v)]) j=if j=k then some v else look c j:=by
 induction c with
 | nil =>
  rw [adi,jC]
  by_cases e:k=j
  ·rw [if_pos e,if_pos e.symm]
  ·rw [if_neg e,if_neg (fun z=>e z.symm)]
 | cons p r ih =>
  have hk:¬ p.1=k:=fun z=>h (by simp [keys,z])
  have hr:k∉keys r:=fun z=>h (gY _ z)
  rw [List.cons_append,jC,jC,ih hr]
  by_cases e:p.1=j
  ·rw [if_pos e,if_pos e,if_neg (fun z=>hk (e.trans z))]
  ·rw [if_neg e,if_neg e]
theorem afP (c:Tab) (k v j:Int):look (put c k v) j=if j=k then some v else look c j:=by
 by_cases h:k∈keys c
 ·rw [Py h,abV]
  by_cases e:j=k
  ·subst e
   cases q:look c j with
   | none=>exact absurd h ((xX c j).mp q)
   | some x=>simp
  ·simp only [if_neg e]
   cases look c j <;> rfl
 ·rw [FN h,abW c k v j h]
theorem aaL (c:Tab) (k v j:Int):low (put c k v) j=if j=k then v else low c j:=by
 unfold low
 rw [afP]
 split <;> rfl
theorem aaM {c:Tab} (h:∀ p∈c,1<=p.2) {k v:Int} (hv:1<=v):∀ p∈put c k v,1<=p.2:=by
 intro p hp
 unfold put at hp
 split at hp
 ·obtain ⟨q,hq,e⟩:=oN.mp hp
  by_cases z:q.1=k
  ·rw [if_pos z] at e;subst e;exact hv
  ·rw [if_neg z] at e;subst e;exact h q hq
 ·rcases gw.mp hp with z | z
  ·exact h p z
  ·rw [gZ] at z;subst z;exact hv
theorem afQ {c:Tab} (hn:(keys c).Nodup) {k v:Int} (h:k∈keys c):(vals (c.map fun p=>if p.1=k then (p.1,v) else p)).sum=(vals c).sum-low c k+v:=by
 induction c with
 | nil=>cases h
 | cons p r ih =>
  have hn':(p.1::keys r).Nodup:=hn
  rw [vg] at hn'
  rw [Ah]
  by_cases e:p.1=k
  ·have hr:k∉keys r:=e ▸ hn'.1
   have id_r:(r.map fun p=>if p.1=k then (p.1,v) else p)=r:=by
    have:∀ q∈r,(if q.1=k then (q.1,v) else q)=q:=fun q hq=>if_neg (fun (z:q.1=k)=>hr (z ▸ oN.mpr ⟨q,hq,rfl⟩))
    exact (Gm this).trans (adt r)
   rw [jg,if_pos e,if_pos e,id_r]
   simp only [vals,jg,rB];lia
  ·have hr:k∈keys r:=by
    rcases cA.mp h with z | z
    ·exact absurd z.symm e
    ·exact z
   rw [jg,if_neg e,if_neg e]
   have:=ih hn'.2 hr
   simp only [vals,jg,rB] at this ⊢; lia
theorem ah0 {c:Tab} (hn:(keys c).Nodup) (k w:Int):(vals (put c k (low c k+w))).sum=(vals c).sum+w:=by
 by_cases h:k∈keys c
 ·rw [Py h,afQ hn h];lia
 ·rw [FN h,vX h]
  simp only [vals,gA,jg,Mv,adl,rB,List.sum_nil];lia
theorem Pz {c:Tab} {cut k:Int} (h:k∈keys (dz c cut)):k∈keys c:=by
 unfold keys dz at h
 rw [pI] at h
 obtain ⟨p,hp,e⟩:=oN.mp h
 exact oN.mpr ⟨p,(BL.mp hp).1,e⟩
theorem afR (c:Tab) (cut:Int):keys (dz c cut)=keys (c.filter fun p=>decide (cut<p.2)):=by
 unfold keys dz;rw [pI];rfl
theorem alj {c:Tab} (hn:(keys c).Nodup) (cut:Int):(keys (dz c cut)).Nodup:=by
 rw [afR]
 exact ae2 (ae5 _ List.filter_sublist) hn
theorem ah1 (c:Tab) (cut:Int):∀ p∈dz c cut,1<=p.2:=by
 intro p hp
 unfold dz at hp
 obtain ⟨q,hq,e⟩:=oN.mp hp
 have:=of_decide_eq_true (BL.mp hq).2
 subst e
 show 1<=q.2-cut
 lia
theorem ah2 (c:Tab) (cut:Int):(dz c cut).length<=c.length:=by
 unfold dz;rw [bK];exact vd _ _
theorem afS {c:Tab} (h:∀ p∈c,1<=p.2):dz c 0=c:=by
 unfold dz
 rw [ac4.mpr (fun p hp=>decide_eq_true (by have:=h p hp;lia))]
 have:∀ p∈c,(p.1,p.2-0)=p:=fun p _=>by rw [Int.sub_zero]
 exact (Gm this).trans (adt c)
theorem aaN {c:Tab} (hn:(keys c).Nodup) {cut:Int} (hc:0<=cut) (hp:∀ p∈c,0<=p.2) (k:Int):low (dz c cut) k=if low c k-cut<=0 then 0 else low c k-cut:=by
 induction c with
 | nil=>rw [show dz [] cut=[] from rfl,Px];split <;> lia
 | cons p r ih =>
  have hn':(p.1::keys r).Nodup:=hn
  rw [vg] at hn'
  have ih':=ih hn'.2 (fun q hq=>hp q (gY _ hq))
  by_cases h:cut<p.2
  ·have e:dz (p::r) cut=(p.1,p.2-cut)::dz r cut:=by
    unfold dz;rw [vh,if_pos (decide_eq_true h)];rfl
   rw [e,Ah,Ah,ih']
   by_cases z:p.1=k
   ·rw [if_pos z,if_pos z,if_neg tb_g%]
   ·rw [if_neg z,if_neg z]
  ·have e:dz (p::r) cut=dz r cut:=by
    unfold dz;rw [vh,if_neg (by simp;lia)]
   rw [e,Ah,ih']
   by_cases z:p.1=k
   ·rw [if_pos z,if_pos (show p.2-cut<=0 by lia)]
    have:low r k=0:=vX (z ▸ hn'.1)
    rw [this];split <;> lia
   ·rw [if_neg z]
theorem uP:∀ {d:List Int} {room:Nat} {c:Int},d.Pairwise (· >= ·)->d[room]? = some c->(d.filter fun v=>decide (c<v)).length<=room
 | [],_,_,_,h=>by cases h
 | x::r,0,c,hp,h=>by
  have e:x=c:=by simpa using h
  subst e
  have:((x::r).filter fun v=>decide (x<v))=[]:=by
   rw [Mf]
   intro v hv
   rcases cA.mp hv with z | z
   ·subst z;simp
   ·have:=(jM.mp hp).1 v z
    simp;lia
  rw [this];exact cJ _
 | x::r,n+1,c,hp,h=>by
  have ih:=uP (d:=r) (room:=n) (c:=c) (jM.mp hp).2 (by simpa using h)
  rw [vh]
  split
  ·simp only [jG];lia
  ·lia
noncomputable def above (c:Int) (l:List Int):Int:=((l.filter fun v=>decide (c<v)).map fun v=>v-c).sum
theorem zj (c x:Int) (r:List Int):above c (x::r)=(if c<x then x-c else 0)+above c r:=by
 unfold above
 rw [vh]
 by_cases h:c<x
 ·rw [if_pos (decide_eq_true h),if_pos h];rfl
 ·rw [if_neg (by simp;lia),if_neg h];lia
theorem K7 {c:Int}:∀ {l:List Int},(∀ v∈l,v<=c)->above c l=0
 | [],_=>rfl
 | x::r,h=>by
  rw [zj,K7 (l:=r) fun v hv=>h v (gY _ hv)]
  have:=h x gq
  rw [if_neg tb_g%];rfl
theorem Ii:∀ {l:List Int},(∀ v∈l,0<=v)->0<=l.sum
 | [],_=>fM 0
 | x::r,h=>by
  have:=Ii (l:=r) fun v hv=>h v (gY _ hv)
  have:=h x gq
  rw [rB];lia
theorem Ij:∀ {d:List Int} {room:Nat} {c:Int},d.Pairwise (· >= ·)->d[room]? = some c->(∀ v∈d,0<=v) ->
  above c d+((room:Int)+1)*c<=d.sum/\(d.length=room+1->above c d+((room:Int)+1)*c=d.sum)
 | [],_,_,_,h,_=>by cases h
 | x::r,0,c,hp,h,h0=>by
  have e:x=c:=by simpa using h
  subst e
  have hr:∀ v∈r,v<=x:=fun v hv=>(jM.mp hp).1 v hv
  have hs:=Ii (l:=r) fun v hv=>h0 v (gY _ hv)
  rw [zj,if_neg tb_g%,K7 hr,rB]
  refine ⟨by simp;lia,fun hl=>?_⟩
  have:r=[]:=by
   have:r.length=0:=by simpa using hl
   exact KC.mp this
  subst this;simp
 | x::r,n+1,c,hp,h,h0=>by
  have h':r[n]? = some c:=by simpa using h
  have ih:=Ij (d:=r) (room:=n) (c:=c) (jM.mp hp).2 h' fun v hv=>h0 v (gY _ hv)
  have hx:c<=x:=(jM.mp hp).1 c (List.mem_of_getElem? h')
  have hm:((n+1:Nat):Int)=(n:Int)+1:=by lia
  have e2:((((n+1:Nat):Int))+1)*c=((n:Int)+1)*c+c:=by rw [hm,CG ((n:Int)+1) 1 c,Wy]
  rw [zj,rB,e2]
  have ex:(if c<x then x-c else 0)=x-c:=by split <;> lia
  rw [ex]
  refine ⟨by have:=ih.1;lia,fun hl=>?_⟩
  have:=ih.2 (by simpa using hl)
  lia
theorem Sh (c:Tab) (cut:Int):vals (dz c cut)=(((vals c).filter fun v=>decide (cut<v)).map fun v=>v-cut):=by
 induction c with
 | nil=>rfl
 | cons p r ih =>
  have hv:vals (p::r)=p.2::vals r:=rfl
  rw [hv]
  by_cases h:cut<p.2
  ·have e:dz (p::r) cut=(p.1,p.2-cut)::dz r cut:=by
    unfold dz;rw [vh,if_pos (decide_eq_true h)];rfl
   rw [e,vh,if_pos (decide_eq_true h),jg,<- ih];rfl
  ·have e:dz (p::r) cut=dz r cut:=by
    unfold dz;rw [vh,if_neg (by simp;lia)]
   rw [e,vh,if_neg (by simp;lia),ih]
theorem ah3 (c:Tab) (cut:Int):(vals (dz c cut)).sum=above cut (vals c):=by rw [Sh];rfl
theorem Sq {l l':List Int} (h:l.Perm l'):l.sum=l'.sum:=by
 induction h with
 | nil=>rfl
 | cons x _ ih=>rw [rB,rB,ih]
 | swap x y l=>simp only [rB];lia
 | trans _ _ a b=>exact a.trans b
theorem Zk {c:Int} {l l':List Int} (h:l.Perm l'):above c l=above c l':=by
 unfold above;exact Sq ((h.filter _).map _)
structure IsCut (room:Nat) (c:Tab) (cut:Int):Prop where
 ex:∃ d:List Int,d.Perm (vals c)/\d.Pairwise (· >= ·)/\d[room]? = some cut
theorem IsCut.mem {room:Nat} {c:Tab} {cut:Int} (h:IsCut room c cut):cut∈vals c:=by
 obtain ⟨d,h1,_,h3⟩:=h
 exact h1.mem_iff.mp (List.mem_of_getElem? h3)
theorem IsCut.len {room:Nat} {c:Tab} {cut:Int} (h:IsCut room c cut):(dz c cut).length<=room:=by
 obtain ⟨d,h1,h2,h3⟩:=h
 have e:(dz c cut).length=((vals c).filter fun v=>decide (cut<v)).length:=by
  have:=congrArg pJ (Sh c cut)
  rw [bK] at this
  rw [<- this];unfold vals;rw [bK]
 rw [e,<- (h1.filter _).length_eq]
 exact uP h2 h3
theorem IsCut.sum {room:Nat} {c:Tab} {cut:Int} (h:IsCut room c cut) (h0:∀ p∈c,0<=p.2) :
  (vals (dz c cut)).sum+((room:Int)+1)*cut<=(vals c).sum/\(c.length=room+1->(vals (dz c cut)).sum+((room:Int)+1)*cut=(vals c).sum):=by
 obtain ⟨d,h1,h2,h3⟩:=h
 rw [ah3,<- Zk h1,<- Sq h1]
 have hd:∀ v∈d,0<=v:=fun v hv=>by
  obtain ⟨p,hp,e⟩:=oN.mp (h1.mem_iff.mp hv)
  rw [<- e];exact h0 p hp
 have:=Ij h2 h3 hd
 refine ⟨this.1,fun hl=>this.2 ?_⟩
 rw [h1.length_eq];unfold vals;rw [bK];exact hl
noncomputable def rJ (room:Nat) (c:Tab) (c':Tab) (cut:Int):Prop :=
 if c.length<=room then cut=0/\c'=c else IsCut room c cut/\c'=dz c cut
structure Ok (room:Nat) (c:Tab) (total lost:Int) (tw:Int->Int):Prop where
 nd:(keys c).Nodup
 pos:∀ p∈c,1<=p.2
 len:c.length<=room
 l0:0<=lost
 sum:(vals c).sum+((room:Int)+1)*lost<=total
 lo:∀ k,low c k<=tw k
 hi:∀ k,tw k<=low c k+lost
structure Pre (room:Nat) (c:Tab) (total lost:Int) (tw:Int->Int):Prop where
 nd:(keys c).Nodup
 pos:∀ p∈c,1<=p.2
 l0:0<=lost
 sum:(vals c).sum+((room:Int)+1)*lost<=total
 lo:∀ k,low c k<=tw k
 hi:∀ k,tw k<=low c k+lost
theorem rJ.nn {room:Nat} {c c':Tab} {cut:Int} (f:rJ room c c' cut) (hp:∀ p∈c,1<=p.2):0<=cut:=by
 unfold rJ at f
 by_cases e:c.length<=room
 ·rw [if_pos e] at f;lia
 ·rw [if_neg e] at f
  obtain ⟨p,hp',e'⟩:=oN.mp f.1.mem
  have:=hp p hp'
  lia
theorem Pre.fit {room:Nat} {c c':Tab} {total lost cut:Int} {tw:Int->Int} (h:Pre room c total lost tw) (f:rJ room c c' cut):Ok room c' total (lost+cut) tw:=by
 have hc:=f.nn h.pos
 unfold rJ at f
 by_cases e:c.length<=room
 ·rw [if_pos e] at f
  obtain ⟨rfl,rfl⟩:=f
  refine ⟨h.nd,h.pos,e,by have:=h.l0;lia,by rw [Int.add_zero];exact h.sum,h.lo,fun k=>by have:=h.hi k;lia⟩
 ·rw [if_neg e] at f
  obtain ⟨f,rfl⟩:=f
  have hs:=(f.sum fun p hp=>by have:=h.pos p hp;lia).1
  have h0:∀ p∈c,0<=p.2:=fun p hp=>by have:=h.pos p hp;lia
  refine ⟨alj h.nd _,ah1 _ _,f.len,by have:=h.l0;lia,?_,fun k=>?_,fun k=>?_⟩
  ·rw [Oo];have:=h.sum;lia
  ·rw [aaN h.nd hc h0 k]
   have:=h.lo k;have:=zf h.pos k;split <;> lia
  ·rw [aaN h.nd hc h0 k]
   have:=h.hi k;split <;> lia
theorem Ok.pre {room:Nat} {c:Tab} {total lost:Int} {tw:Int->Int} (h:Ok room c total lost tw):Pre room c total lost tw:=⟨h.nd,h.pos,h.l0,h.sum,h.lo,h.hi⟩
theorem Ok.add {room:Nat} {c:Tab} {total lost k w:Int} {tw:Int->Int} (h:Ok room c total lost tw) (hw:1<=w) :
  Pre room (put c k (low c k+w)) (total+w) lost (fun j=>if j=k then tw j+w else tw j):=by
 refine ⟨afO h.nd _ _,aaM h.pos (by have:=zf h.pos k;lia),h.l0,by rw [ah0 h.nd];have:=h.sum;lia,fun j=>?_,fun j=>?_⟩
 ·rw [aaL]
  have:=h.lo j
  by_cases e:j=k
  ·subst e;rw [if_pos rfl,if_pos rfl];lia
  ·rw [if_neg e,if_neg e];exact this
 ·rw [aaL]
  have:=h.hi j
  by_cases e:j=k
  ·subst e;rw [if_pos rfl,if_pos rfl];lia
  ·rw [if_neg e,if_neg e];exact this
theorem Ok.empty (room:Nat):Ok room [] 0 0 (fun _=>0) :=
 ⟨U6,(fun _ h=>by cases h),bZ _,fM 0,by simp [vals],fun k=>by rw [Px];exact fM 0,fun k=>by rw [Px];exact fM 0⟩
end MG
set_option autoImplicit false
namespace MK
noncomputable def Kf (r:Int) (h:Nat):Prop:=∃ m:Int,r=m*2 ^ h/\m % 2=1
theorem jR (n:Nat):(0:Int)<2 ^ n:=Oq (by decide)
theorem Kf.uniq {r:Int} {h k:Nat} (a:Kf r h) (b:Kf r k):h=k:=by
 have key:∀ {h k:Nat} {m n:Int},h<k->m*2 ^ h=n*2 ^ k->m % 2=1->False:=by
  intro h k m n hlt e hm
  obtain ⟨d,rfl⟩:∃ d,k=h+(d+1):=⟨k-h-1,by lia⟩
  rw [Ot,<- yU,aew] at e
  have e2:=Int.eq_of_mul_eq_mul_right (aez (jR h)) e
  rw [nU,<- yU] at e2
  lia
 obtain ⟨m,e1,h1⟩:=a
 obtain ⟨n,e2,h2⟩:=b
 rcases Nat.lt_trichotomy h k with l | l | l
 ·exact (key l (e1.symm.trans e2) h1).elim
 ·exact l
 ·exact (key l (e2.symm.trans e1) h2).elim
noncomputable def To (r x:Int) (i:Nat):Prop:=r=x*2 ^ i/\x≠0
theorem To.step {r x:Int} {i:Nat} (h:To r x i) (e:x % 2=0):To r (x / 2) (i+1):=by
 obtain ⟨h1,h2⟩:=h
 have hx:x=x / 2*2:=by lia
 refine ⟨?_,by lia⟩
 rw [h1,nU,Ol (2 ^ i) 2,<- yU,<- hx]
theorem To.stop {r x:Int} {i:Nat} (h:To r x i) (e:¬ x % 2=0):Kf r i:=⟨x,h.1,by lia⟩
noncomputable def M:Int:=1152921504606846976
theorem ajs:(2:Int) ^ 60=1152921504606846976:=by decide
theorem Kf.ne {r:Int} {h:Nat} (a:Kf r h):r≠0:=by
 obtain ⟨m,e,hm⟩:=a
 intro z
 rw [z] at e
 rcases Int.mul_eq_zero.mp e.symm with q | q
 ·lia
 ·exact absurd q (aez (jR h))
theorem Kf.lt {r:Int} {h:Nat} (a:Kf r h) (h0:0<=r) (h1:r<1152921504606846976):h<60:=by
 obtain ⟨m,e,hm⟩:=a
 rcases vD h 60 with q | q
 ·exact q
 ·obtain ⟨d,rfl⟩:∃ d,h=60+d:=⟨h-60,by lia⟩
  exfalso
  rw [Ot,ajs] at e
  have hd:=jR d
  rcases aeA m 0 with l | l
  ·have:m*(1152921504606846976*2 ^ d)<0:=aeu l tb_g%
   lia
  ·have h3:1*(1152921504606846976*1)<=m*(1152921504606846976*2 ^ d):=vK tb_g% tb_g% tb_g% tb_g%
   lia
theorem To.lt {r x:Int} {i:Nat} (h:To r x i) (h0:0<r) (h1:r<1152921504606846976):i<60/\0<x/\x<=r:=by
 obtain ⟨e,hx⟩:=h
 have hp:=jR i
 have x0:0<x:=by
  rcases aeA x 0 with l | l
  ·have:x*2 ^ i<0:=aeu l hp
   lia
  ·lia
 refine ⟨?_,x0,?_⟩
 ·rcases vD i 60 with q | q
  ·exact q
  ·obtain ⟨d,rfl⟩:∃ d,i=60+d:=⟨i-60,by lia⟩
   exfalso
   rw [Ot,ajs] at e
   have hd:=jR d
   have h3:1*(1152921504606846976*1)<=x*(1152921504606846976*2 ^ d):=vK tb_g% tb_g% tb_g% tb_g%
   lia
 ·have h3:x*1<=x*2 ^ i:=aes tb_g% tb_g%
  lia
end MK
set_option autoImplicit true
namespace L2
open PySem MG
noncomputable def emb (c:Tab):List (Key × V):=c.map fun p=>((Sum.inl p.1:Key),V.int p.2)
theorem Ai (c:Tab):(emb c).length=c.length:=bK _
theorem afT (c:Tab):(emb c).map (·.2)=(vals c).map V.int:=by
 unfold emb vals;rw [pI,pI];rfl
theorem afU (c:Tab):((emb c).map fun p=>kV p.1)=(keys c).map V.int:=by
 unfold emb keys;rw [pI,pI];rfl
theorem alk {c:Tab} {i:Nat} {p:Key × V} (h:(emb c)[i]? = some p):∃ q,c[i]? = some q/\p=(Sum.inl q.1,V.int q.2):=by
 unfold emb at h
 rw [jN] at h
 cases e:c[i]? with
 | none=>rw [e] at h;cases h
 | some q=>rw [e] at h;exact ⟨q,rfl,(cX h).symm⟩
theorem FP {a b:Int}:((Sum.inl a:Key)=Sum.inl b)↔a=b:=⟨fun h=>afc h,fun h=>by rw [h]⟩
theorem afV (c:Tab) (k:Int):Df (emb c) (Sum.inl k:Key)=(look c k).map V.int:=by
 induction c with
 | nil=>rfl
 | cons p r ih =>
  have e:emb (p::r)=(Sum.inl p.1,V.int p.2)::emb r:=rfl
  rw [e,jC]
  by_cases h:p.1=k
  ·rw [Af (p:=((Sum.inl p.1:Key),V.int p.2)) (FP.mpr h),if_pos h];rfl
  ·rw [Ag (p:=((Sum.inl p.1:Key),V.int p.2)) (fun z=>h (FP.mp z)),if_neg h,ih]
theorem aaO (c:Tab) (k:Int):(Df (emb c) (Sum.inl k:Key)).getD (.int 0) = .int (low c k):=by
 rw [afV];unfold low
 cases look c k <;> rfl
theorem ah4 (c:Tab) (k:Int):((emb c).any fun kv=>decide (kv.1=(Sum.inl k:Key)))=c.any fun p=>decide (p.1=k):=by
 induction c with
 | nil=>rfl
 | cons p r ih =>
  have e:emb (p::r)=(Sum.inl p.1,V.int p.2)::emb r:=rfl
  rw [e,vm,vm,ih]
  congr 1
  by_cases h:p.1=k
  ·rw [decide_eq_true h,decide_eq_true (FP.mpr h)]
  ·rw [decide_eq_false h,decide_eq_false (fun z=>h (FP.mp z))]
theorem Ss (c:Tab) (k v:Int):putK (emb c) (Sum.inl k:Key) (.int v)=emb (put c k v):=by
 unfold putK put
 rw [ah4]
 by_cases h:(c.any fun p=>decide (p.1=k))=true
 ·rw [if_pos h,if_pos h]
  unfold emb
  rw [pI,pI]
  apply Gm
  intro p _
  by_cases e:p.1=k
  ·simp [e]
  ·simp [e]
 ·rw [if_neg h,if_neg h]
  unfold emb
  rw [gA];rfl
noncomputable def But (p:Addr) (H H':Hp):Prop:=∀ b o,H b=some o->b≠p->H' b=some o
theorem Same.but {H H':Hp} (h:Same H H') (p:Addr):But p H H':=fun b o e _=>h b o e
theorem But.trans {p:Addr} {H H1 H2:Hp} (a:But p H H1) (b:But p H1 H2):But p H H2:=fun c o h n=>b c o (a c o h n) n
theorem But.upd {p:Addr} {H:Hp} {o:HO}:But p H (upd H p o):=fun b u h n=>by rw [aB n];exact h
theorem Same.new {H:Hp} {p:Addr} {o:HO} (h:H p=none):Same H (upd H p o):=fun b u e=>by rw [aB (aq e h)];exact e
section
variable {K:aW} {H:Hp} {Q:VK}
theorem rdF {a C dx:Addr} {fs:List (Str × V)} {f:Str} {v:V} (h:H a=some (.ins C dx fs)) (c:Cls K C) (n:cM K C f) (l:fs.lookup f=some v) (q:Q v H):rFld K f (.ref a) H Q:=⟨a,C,dx,fs,v,rfl,h,c,n,l,q⟩
theorem fZ {a:Addr} {xs:List V} {i:Int} {v:V} (h:SqL K H a xs) (e:atI xs i=some v) (q:Q v H):Ke K (.ref a) (.int i) H Q:=.inl ⟨a,xs,i,v,rfl,rfl,h,e,q⟩
theorem eX {a:Addr} {xs:List V} {i:Int} {v:V} (h:SqT K H a xs) (e:atI xs i=some v) (q:Q v H):Ke K (.ref a) (.int i) H Q:=.inr (.inl ⟨a,xs,i,v,rfl,rfl,h,e,q⟩)
theorem qe {a:Addr} {xs:List V} (h:SqL K H a xs) (q:Q (.int xs.length) H):aaI K [.ref a] H Q:=.inl ⟨.ref a,xs.length,rfl,.inl ⟨xs,h,rfl⟩,q⟩
theorem alm {a:Addr} {kvs:List (Key × V)} (h:Rd H a (.dK kvs)) (q:Q (.int kvs.length) H):aaI K [.ref a] H Q:=.inr ⟨a,kvs,rfl,h,q⟩
theorem ajt {a:Addr} {kvs:List (Key × V)} {i:Int} (h:Rd H a (.dK kvs)):Kd H a (.int i) (Df kvs (Sum.inl i:Key)):=.inl ⟨kvs,Sum.inl i,h,rfl,rfl⟩
theorem afW {a:Addr} {kvs:List (Key × V)} {i:Int} {v:V} {R:Hp->Prop} (h:H a=some (.dK kvs)) (hl:kvs.length<sizeLine) (q:R (upd H a (.dK (putK kvs (Sum.inl i) v)))):ajr (.ref a) (.int i) v H R :=
 .inr ⟨a,_,rfl,.inl ⟨kvs,Sum.inl i,h,rfl,hl,rfl⟩,q⟩
end
theorem Sv (K:aW) (t:Value) (h:(t == t)=true):fJ K t t=some true:=by unfold fJ;rw [if_pos h]
theorem afX {K:aW} {a b:String} {r:Bool} (h1:(Value.type a == Value.type b)=false) (h2:adC b=true) (h3:(adP a).map (·.contains (Value.type b))=some r) :
  fJ K (.type a) (.type b)=some r:=by
 unfold fJ M5
 rw [if_neg (by rw [h1];exact iM)]
 show (if adC b=true then PySem.W.subIn K (.type a) (.type b) else none)=some r
 rw [if_pos h2]
 exact h3
theorem qg {i j:Int} (h0:-(2 ^ 64)<i) (h1:i<2 ^ 64):afs i j:=.inl ⟨by lia,by lia⟩
theorem fO {i j:Int} (h0:-(2 ^ 64)<j) (h1:j<2 ^ 64):afs i j:=.inr ⟨by lia,by lia⟩
end L2
namespace L2
open PySem PySem.Spec PyProof.Rows
noncomputable def Ik (cells:List (Str × Addr)):List (Str × Addr)->Prop
 | []=>True
 | p::r=>cells.lookup p.1=some p.2/\Ik cells r
theorem Ik.of {cells:List (Str × Addr)}:∀ {cl:List (Str × Addr)} {y:Str} {c:Addr},Ik cells cl->cl.lookup y=some c->cells.lookup y=some c
 | [],_,_,_,h=>by cases h
 | p::r,y,c,hs,h=>by
  obtain ⟨n,a⟩:=p
  rw [UL] at h
  by_cases e:y=n
  ·subst e
   rw [beq_self_eq_true] at h
   cases h
   exact hs.1
  ·rw [beq_eq_false_iff_ne.mpr e] at h
   exact Ik.of hs.2 h
@[reducible] noncomputable def dJ (X:Cx) (N:List Str) (scope:Scope) (cl:List (Str × Addr)) (s:Shared) (H:Hp) (fp:List Addr) (C:Addr):Cx where
 prog:=X.prog
 w:=X.w
 K:=X.K
 mg:=X.mg
 base:=X.base
 A:=X.A
 N:=N
 s₀:=s
 H₀:=H
 env:=Ni scope cl C X.env
 outer:=X.stack
 stack:=X.stack
 ex:=fp
 fn:=fun _=>false
 calm:=X.calm
 pn:=[]
 xe:=fun _ _=>False
structure Aj (X:Cx) (N:List Str) (scope:Scope) (cl:List (Str × Addr)) (i j:Nat):Prop where
 ok:∃ y c,N[i]? = some y/\X.N[j]? = some y/\(X.env.kindOf y=some .cell\/X.env.kindOf y=some .free)/\((gP scope X.env).names.lookup y=some .cell\/(gP scope X.env).names.lookup y=some .free)/\cl.lookup y=some c
noncomputable def nZ (σ:St) (x:Option V) (caps:List Nat):St:=x::caps.map fun j=>(σ[j]?).join
section
variable {X:Cx} {pins:List (Addr × Obj)} {σ:St} {H:Hp} {s:Shared}
theorem Inv.comp {N:List Str} {scope:Scope} {cl:List (Str × Addr)} {fp:List Addr} {caps:List Nat} {h4:Heap} {D C:Addr} {tk:Nat} (I:Inv X pins σ H s) (hkind:scope.kind = .function) (hsub:Ik X.env.cells cl)
  (hhas:∀ y,((gP scope X.env).names.lookup y=some .cell\/(gP scope X.env).names.lookup y=some .free)->∃ c,cl.lookup y=some c) (hf:∀ b∈fp,xK X pins H b) (hfo:∀ b∈fp,∃ o,s.heap.get? b=some o)
  (hlen:N.length=caps.length+1) (hcap:∀ (i:Nat) (j:Nat),caps[i]? = some j->Aj X N scope cl (i+1) j) (hD:s.heap.objs.size<=D) (hC:s.heap.objs.size<=C) (hDC:C≠D)
  (hk:∀ b o,s.heap.get? b=some o->h4.get? b=some o) (hlist:∃ n,h4.get? D=some { cls:=.type "list",data:=.seq #[] n }) (hns:∃ m,h4.Ns C m) :
  Inv (dJ X N scope cl s H fp C) (X.pn++pins) (nZ σ none caps) (upd H D (.lst [])) { s with heap:=h4,toks:=tk }:=by
 have hnD:H D=none:=I.hok.fresh hD
 have hnC:H C=none:=I.hok.fresh hC
 have lt:∀ b o,s.heap.get? b=some o->b≠D/\b≠C:=fun b o e=>⟨cW (fW (bR e) hD),cW (fW (bR e) hC)⟩
 have nst:∀ b,b≠X.env.locals->b∉X.fs->b∉frs X.stack:=fun b h1 h2 z=>by
  rcases cA.mp (I.vO b z) with e | e
  ·exact h1 e
  ·exact h2 e
 refine ⟨⟨I.ok.mod,hkind,I.ok.glob,I.ok.blt,hC,fun x y c h1 h2=>I.ok.inj x y c (hsub.of h1) (hsub.of h2),fun y hy=>hhas y hy,fun y c h=>(nomatch h),I.ok.hd,I.ok.frames,.inl rfl,fun b hb=>?_,I.bs,fX I.ok.bsz I.sz,fun b o e hb=>?_,fun b hb=>?_,I.stack,I.wR⟩,
  rfl,I.bare,Un.laid hk hD hnD,?_,fun y c e=>?_,?_,fun y c e=>?_,fun p hp=>?_,?_,?_⟩
 ·obtain ⟨o,e⟩:=hfo b hb
  exact ⟨(lt b o e).2,fun x c q=>(hf b hb).2.2.2.2.1 x c (hsub.of q)⟩
 ·rcases (hf b hb).2.2.2.1 with z | z
  ·exact I.ok.RV b o e z
  ·exact absurd (fW (bR e) I.ok.bsz) (V6.mpr z)
 ·exact nst b (hf b hb).2.1 (hf b hb).2.2.1
 ·obtain ⟨m,hm⟩:=hns
  obtain ⟨m0,_,hl⟩:=I.loc
  refine ⟨m,hm,fun i y v h1 h2 h3=>?_⟩
  cases i with
  | zero=>cases h2
  | succ i =>
   have h2':((caps.map fun j=>(σ[j]?).join)[i]?)=some (some v):=h2
   rw [jN] at h2'
   cases ec:caps[i]? with
   | none=>rw [ec] at h2';cases h2'
   | some j =>
    rw [ec] at h2'
    have PB:(σ[j]?).join=some v:=cX h2'
    have e2:σ[j]? = some (some v):=by
     cases q:σ[j]? with
     | none=>rw [q] at PB;cases PB
     | some z=>rw [q] at PB;exact congrArg some PB
    obtain ⟨y',c,n1,n2,k1,k2,lc⟩:=(hcap i j ec).ok
    have ey:y=y':=by
     have h1':N[i+1]? = some y:=h1
     rw [n1] at h1';exact (cX h1').symm
    subst ey
    have vis:Vis X.env.scope y:=k1.elim (fun z=>.inr (.inl z)) fun z=>.inr (.inr z)
    obtain ⟨u,ru,lk⟩:=hl j y v n2 e2 vis
    refine ⟨u,ru,.inr ⟨k2,c,lc,?_⟩⟩
    rcases lk with ⟨z,_⟩ | ⟨_,c',lc',ic⟩
    ·rcases k1 with k1 | k1 <;> (rw [z] at k1;cases k1)
    ·rw [hsub.of lc] at lc'
     cases lc'
     obtain ⟨o,ho,hd⟩:=ic
     exact ⟨o,hk c o ho,hd⟩
 ·obtain ⟨v,o,ho,hd⟩:=I.cell y c (hsub.of e)
  exact ⟨v,o,hk c o ho,hd⟩
 ·show (upd H D (.lst [])) C=none
  rw [aB hDC];exact hnC
 ·have n:=I.pU y c (hsub.of e)
  obtain ⟨v,o,ho,hd⟩:=I.cell y c (hsub.of e)
  rw [aB (lt c o ho).1];exact n
 ·have hp':p∈X.pn++pins:=hp
  obtain ⟨e,n,ne,nf,d⟩:=I.pin p hp'
  exact ⟨hk _ _ e,by rw [aB (lt _ _ e).1];exact n,(lt _ _ e).2,nst _ ne nf,d⟩
 ·obtain ⟨n,e⟩:=hlist
  exact I.hok.laid hk hD ⟨bZ _,[],n,.nil,e⟩
 ·show (nZ σ none caps).length=N.length
  unfold nZ
  rw [jG,bK,hlen]
theorem Inv.Zm {N:List Str} {scope:Scope} {cl:List (Str × Addr)} {fp:List Addr} {C:Addr} {aax:List (Addr × Obj)} {σ':St} {H':Hp} {s':Shared} {h':Heap} (I:Inv X pins σ H s) (hf:∀ b∈fp,xK X pins H b) (hC:s.heap.objs.size<=C)
  (I':Inv (dJ X N scope cl s H fp C) aax σ' H' s') (hs:Hh C s'.heap h'):Inv X pins σ H' { s' with heap:=h' }:=by
 obtain ⟨hp,g,d,t,os⟩:=s'
 have eo:os=s.os:=I'.os
 subst eo
 have ne:∀ b o,s.heap.get? b=some o->b≠C:=fun b o e=>cW (fW (bR e) hC)
 have hn:H' C=none:=I'.free
 have B:Un (frs X.stack) fp H H' s.heap hp:=I'.base
 have kp:∀ b o,b≠C->hp.get? b=some o->h'.get? b=some o:=fun b o hb e=>(hs.2 b hb).trans e
 suffices r:Inv X pins σ H' { s with heap:=h',gens:=g,drawn:=d,toks:=t } from r
 refine I.call (h':=h') (g':=g) (d':=d) (t':=t) (ch:=fp) ⟨fun b o e n h1 h2=>kp b o (ne b o e) (B.keep b o e n h1 h2),fun b o e n h1 h2=>?_,B.free,fun b o e h2=>?_,B.tups,B.uZ,B.yW⟩ (fun b u e=>?_) I'.bare fun b hb=>?_
 ·obtain ⟨sl,q⟩:=B.slot b o e n h1 h2
  exact ⟨sl,kp b _ (ne b o e) q⟩
 ·obtain ⟨o',q⟩:=B.there b o e h2
  exact ⟨o',kp b _ (ne b o e) q⟩
 ·have nb:∀ c v,H' c=some v->c≠C:=fun c v q z=>by rw [z,hn] at q;cases q
  refine (I'.hok b u e).stay (fun c v hc q=>kp c v ?_ q) (fun _ q=>q) fun _ _ q=>q
  rcases hc with z | z
  ·rw [z];exact nb b u e
  ·exact nb c _ z
 ·obtain ⟨f0,f1,f2,f3,f4,f5⟩:=hf b hb
  exact ⟨f3,f1,f4,f5⟩
end
noncomputable def FQ (J:It) (caps:List Nat) (tt:TT) (te:TE) (σ:St) (D:Addr) (Q:VK) (H1:Hp):Prop:=∃ W:Nat->Nat->List V->Hp->Prop,(∃ m,W 0 m [] (upd H1 D (.lst [])))/\∀ i m ys H,W i m ys H ->
 H D=some (.lst ys)/\((J.stop i H/\Q (.ref D) H)\/(J.go i H/\ys.length<sizeLine/\∀ x H',J.yld i H x H'->tt (nZ σ (some x) caps) H' fun b H2=>if b=true then
  te (nZ σ (some x) caps) H2 fun y H3=>H3 D=some (.lst ys)/\∃ m',m'<m/\W (i+1) m' (ys++[y]) (upd H3 D (.lst (ys++[y])))
  else H2 D=some (.lst ys)/\∃ m',m'<m/\W (i+1) m' ys H2))
noncomputable def aju (wi:TI) (caps:List Nat) (tt:TT) (te:TE):TE:=fun σ H Q=>wi σ H fun J H1=>∀ D,H1 D=none->FQ J caps tt te σ D Q H1
noncomputable def PTs (X:Cx) (ifs:List Expr) (tt:TT):Prop:=∀ (pins:List (Addr × Obj)) (s:Shared) (σ:St) (H:Hp) (Q:Bool->Hp->Prop),Inv X pins σ H s->tt σ H Q ->
 wpAny (model X.prog X.w) X.A (forIn ifs true fun c r=>if r=true then do let ok <- Hg c X.env (eval c X.env);pure (ForInStep.yield ok) else pure (ForInStep.yield r)) (TP X pins σ Q) X.xe s
noncomputable def PJ:TT:=fun _ H Q=>Q true H
theorem ah5 {X:Cx}:PTs X [] PJ:=fun _ _ _ H _ I h=>wpAny_tests_nil ⟨H,I,h⟩
theorem uc {X:Cx} {c:Expr} {tt:TT} (h:PT X c tt):PTs X [c] tt:=fun pins s σ H Q I q=>wpAny_tests_one (h pins s σ H Q I q)
section
variable {X:Cx}
theorem Il {elt iter:Expr} {x:Str} {px:Pos} {ifs:List Expr} {scope:Scope} {pos:Pos} {cl:List (Str × Addr)} {N:List Str} {caps:List Nat} {tt:TT} {te:TE} {pins:List (Addr × Obj)} {σ:St} {H2:Hp} {s2:Shared} {Q:VK} {it:Addr} {fp:List Addr} {tn:Nat->Heap->Prop} {J:It}
  {RR:Value->Addr->nP->Shared->Prop} {E:Value->Shared->Prop} (hc:X.calm=true)
  (hcell:∀ y∈scope.names,y.2 ≠ .cell) (hkind:scope.kind = .function) (hsub:Ik X.env.cells cl)
  (hhas:∀ y,((gP scope X.env).names.lookup y=some .cell\/(gP scope X.env).names.lookup y=some .free)->∃ c,cl.lookup y=some c)
  (hN:N.Nodup) (hN0:N[0]? = some x) (hx:(gP scope X.env).names.lookup x=some .local) (hlen:N.length=caps.length+1) (hcap:∀ (i:Nat) (j:Nat),caps[i]? = some j->Aj X N scope cl (i+1) j)
  (ht:∀ s H fp C,PTs (dJ X N scope cl s H fp C) ifs tt) (he:∀ s H fp C,PE (dJ X N scope cl s H fp C) elt te)
  (I2:Inv X pins σ H2 s2) (T:Turn X.prog X.w X.K (.Name x px) J fp it tn) (st2:tn 0 s2.heap) (f2:∀ b∈fp,xK X pins H2 b) (w2:∀ D,H2 D=none->FQ J caps tt te σ D Q H2)
  (hRR:∀ D C σ' H' s5,s2.heap.objs.size<=C->Inv (dJ X N scope cl s2 H2 fp C) (X.pn++pins) σ' H' s5->Q (.ref D) H'->RR (.ref D) C (.ok .next) s5) :
  wpAny (model X.prog X.w) X.A (Np []) (fun acc s₃=>wpAny (model X.prog X.w) X.A (adQ scope X.env.globals cl [] X.env.qual none .none (some X.env)) (fun cenv s₄ =>
   gO (model X.prog X.w) X.A (.compStart (.ListComp elt [⟨.Name x px,iter,ifs,0⟩] scope pos) 0 (.ref it) acc { cenv with scope:=gP scope X.env }) (RR acc cenv.locals) s₄) E s₃) E s2:=by
 refine M6 (adK hcell (by intro y hy;simp at hy) (fun h₁ hns₁ hsb₁=>?_) hkind)
 dsimp only at hns₁ hsb₁ ⊢
 generalize hH2:s2.heap.push { cls:=.type "list",dict:=none,data:=.seq ([]:List Value).toArray }=G2 at hns₁ hsb₁ ⊢
 have hC:G2.objs.size=s2.heap.objs.size+1:=by rw [<- hH2,Cq]
 have hCle:s2.heap.objs.size<=G2.objs.size:=by rw [hC];exact nQ _
 have hDC:G2.objs.size≠s2.heap.objs.size:=by rw [hC];exact yN (Hj _)
 have old:∀ b o,s2.heap.get? b=some o->h₁.get? b=some o:=fun b o e =>
  hsb₁.extBut b o (by rw [hC];exact cW (xU (bR e))) (gK _ (hH2 ▸ gK _ e))
 have hacc:∃ n,h₁.get? s2.heap.objs.size=some { cls:=.type "list",data:=.seq #[] n }:=⟨_,hsb₁.extBut _ _ (aP hDC) (gK _ (hH2 ▸ iC _ rfl))⟩
 have hnD:H2 s2.heap.objs.size=none:=I2.hok.fresh (cJ _)
 obtain ⟨W,⟨m0,w0⟩,turn⟩:=w2 s2.heap.objs.size hnD
 have fo:∀ b∈fp,∃ o,s2.heap.get? b=some o:=fun b hb=>by
  obtain ⟨o,e,_⟩:=T.obj _ _ st2 b hb
  exact ⟨o,e⟩
 have I3:Inv (dJ X N scope cl s2 H2 fp G2.objs.size) (X.pn++pins) (nZ σ none caps) (upd H2 s2.heap.objs.size (.lst [])) { s2 with heap:=h₁,toks:=s2.toks+([]:List (Str × Value)).length } :=
  I2.comp hkind hsub hhas f2 fo hlen hcap (cJ _) hCle hDC old hacc ⟨_,hns₁⟩
 have st3:tn 0 h₁:=T.keep _ _ _ st2 fun b _ o e=>old b o e
 have nf:∀ b∈fp,b≠s2.heap.objs.size:=fun b hb=>by
  obtain ⟨o,e⟩:=fo b hb
  exact cW (bR e)
 have stat:∀ {H':Hp},(∀ b∈fp,H' b=none)->∀ b∈fp,xK (dJ X N scope cl s2 H2 fp G2.objs.size) (X.pn++pins) H' b:=fun {H'} hn b hb=>by
  obtain ⟨f0,f1,f2',f3,f4,f5⟩:=f2 b hb
  obtain ⟨o,e⟩:=fo b hb
  refine ⟨hn b hb,cW (fW (bR e) hCle),fun z=>?_,.inl hb,fun y c q=>f4 y c (hsub.of q),fun p hp=>f5 p hp⟩
  rcases cA.mp (I2.vO b z) with q | q
  ·exact f1 q
  ·exact f2' q
 have loop:gO (model X.prog X.w) X.A (.compLoop (.ListComp elt [⟨.Name x px,iter,ifs,0⟩] scope pos) 0 (.ref it) (.ref s2.heap.objs.size) (Ni scope cl G2.objs.size X.env))
   (RR (.ref s2.heap.objs.size) G2.objs.size) { s2 with heap:=h₁,toks:=s2.toks+([]:List (Str × Value)).length }:=by
  refine codeAny_compLoop_tests (fun n s'=>∃ i ys σ' H',Inv (dJ X N scope cl s2 H2 fp G2.objs.size) (X.pn++pins) σ' H' s'/\(∃ z,σ'=nZ σ z caps)/\tn i s'.heap/\(∀ b∈fp,H' b=none)/\W i n ys H') ?_ m0
   ⟨0,[],_,_,I3,⟨none,rfl⟩,st3,fun b hb=>by rw [aB (nf b hb)];exact (f2 b hb).1,w0⟩
  rintro n s' ⟨i,ys,σ',H',I',⟨z,rfl⟩,st',fr',w'⟩
  obtain ⟨hl,ends⟩:=turn i n ys H' w'
  rcases ends with ⟨stop,q⟩ | ⟨go,hsz,step⟩
  ·refine dW (T.done (dJ X N scope cl s2 H2 fp G2.objs.size) rfl rfl rfl hc i _ s' _ H' (fun _ _=>False) I' (stat fr') st' stop) (fun r s5 ⟨hr,I5⟩=>?_) fun _ _ f=>f.elim
   subst hr
   exact hRR _ _ _ _ _ hCle I5 q
  ·refine dW (T.item (dJ X N scope cl s2 H2 fp G2.objs.size) rfl rfl rfl hc i _ s' _ H' (fun _ _=>False) I' (stat fr') st' go) (fun r s5 ⟨u,hr,h5⟩=>?_) fun _ _ f=>f.elim
   subst hr
   show wpAny _ _ (GP (.Name x px) (.ref it) u >>= fun _=>lR (.Name x px) (Ni scope cl G2.objs.size X.env) u) _ _ _
   refine aR (dW h5 (fun _ s6 ⟨y,H6,I6,r6,y6,st6,fr6⟩=>?_) fun _ _ f=>f.elim)
   have I6':=I6.pinned (stat fr6) (T.obj _ _ st6)
   have hg:PG (dJ X N scope cl s2 H2 fp G2.objs.size) (.Name x px) (vQ 0):=dR hN hN0 (.inl hx) (.inr hx)
   have again:∀ {σ7:St} {H7:Hp} {s7:Shared},Inv (dJ X N scope cl s2 H2 fp G2.objs.size) ((X.pn++pins)++CW fp s6.heap) σ7 H7 s7->tn (i+1) s7.heap/\∀ b∈fp,H7 b=none:=fun {σ7 H7 s7} I7=>by
    refine ⟨T.keep _ _ _ st6 fun b hb o e=>(I7.pin (b,o) (qK _ (qK _ (mG hb e)))).1,fun b hb=>?_⟩
    obtain ⟨o,e,d⟩:=T.obj _ _ st6 b hb
    exact (I7.pin (b,o) (qK _ (qK _ (mG hb e)))).2.1
   refine dW (hg _ s6 _ H6 y u (fun σ7 H7=>σ7=nZ σ (some y) caps/\H7=H6) I6' r6 ⟨rfl,rfl⟩) (fun _ s7 ⟨σ7,H7,I7,e7,e7'⟩=>?_) fun _ _ f=>f.elim
   subst e7 e7'
   refine dW (ht s2 H2 fp G2.objs.size _ s7 _ _ _ I7 (step y H7 y6)) (fun ok s8 ⟨H8,I8,q8⟩=>?_) fun _ _ f=>f.elim
   cases ok with
   | false =>
    obtain ⟨_,m',hm,w8⟩:=q8
    have a8:=again I8
    exact ⟨m',hm,i+1,ys,_,H8,I8.pY,⟨_,rfl⟩,a8.1,a8.2,w8⟩
   | true =>
    refine dW (he s2 H2 fp G2.objs.size _ s8 _ _ _ I8 q8) (fun x9 s9 ⟨y9,H9,I9,r9,l9,m',hm,w9⟩=>?_) fun _ _ f=>f.elim
    refine dW (iW (X:=dJ X N scope cl s2 H2 fp G2.objs.size) _ s9 _ H9 (.ref s2.heap.objs.size) [y9] _ [x9] (fun _ H10=>H10=upd H9 s2.heap.objs.size (.lst (ys++[y9]))) I9 rfl (.cons r9 .nil) ⟨_,ys,y9,rfl,rfl,l9,hsz,rfl⟩) (fun _ s10 ⟨_,H10,I10,_,e10⟩=>?_) fun _ _ f=>f.elim
    subst e10
    have a10:=again I10
    exact ⟨m',hm,i+1,ys++[y9],_,_,I10.pY,⟨_,rfl⟩,a10.1,a10.2,w9⟩
 exact adH loop (T.self _ 0 _ _ _ st3 loop)
theorem FT {elt iter:Expr} {x:Str} {px:Pos} {ifs:List Expr} {scope:Scope} {pos:Pos} {cl:List (Str × Addr)} {N:List Str} {caps:List Nat} {wi:TI} {tt:TT} {te:TE} (hc:X.calm=true) (hclos:VH scope X.env=pure cl)
  (hcell:∀ y∈scope.names,y.2 ≠ .cell) (hkind:scope.kind = .function) (hnames:∀ y∈scope.names,y.2 = .local->scope.names.lookup y.1=some .local) (hsub:Ik X.env.cells cl)
  (hhas:∀ y,((gP scope X.env).names.lookup y=some .cell\/(gP scope X.env).names.lookup y=some .free)->∃ c,cl.lookup y=some c)
  (hN:N.Nodup) (hN0:N[0]? = some x) (hx:(gP scope X.env).names.lookup x=some .local) (hlen:N.length=caps.length+1) (hcap:∀ (i:Nat) (j:Nat),caps[i]? = some j->Aj X N scope cl (i+1) j)
  (hi:PI X (.Name x px) iter wi) (ht:∀ s H fp C,PTs (dJ X N scope cl s H fp C) ifs tt) (he:∀ s H fp C,PE (dJ X N scope cl s H fp C) elt te)
  (hs:∀ x,GC iter X.env x=pure x:=by intro _;rfl):PE X (.ListComp elt [⟨.Name x px,iter,ifs,0⟩] scope pos) (aju wi caps tt te):=by
 walk_at "n"
 rw [eval_ListComp]
 refine Vl (use:=none) rfl hs hclos hkind hnames (thn (hi pins s σ H _ I h) fun v s1 h1=>thn h1 fun itv s2 h2=>?_)
 obtain ⟨it,fp,tn,J,H2,e,I2,T,st2,f2,w2⟩:=h2
 subst e
 exact Il hc hcell hkind hsub hhas hN hN0 hx hlen hcap ht he I2 T st2 f2 w2 fun D C σ' H' s5 hC I5 q=>by
  obtain ⟨m,hm,_⟩:=I5.loc
  exact ⟨m,hm,fun h' hs'=>⟨.ref D,H',I2.Zm f2 hC I5 hs',rfl,q⟩⟩
theorem zm {i:Nat} {y:Str} {py spos:Pos} {elt iter:Expr} {x:Str} {px:Pos} {ifs:List Expr} {scope:Scope} {pos:Pos} {cl:List (Str × Addr)} {N:List Str} {caps:List Nat} {wi:TI} {tt:TT} {te:TE} (hXN:X.N.Nodup) (hi0:X.N[i]? = some y) (hy:Loc X.env.scope y)
  (hc:X.calm=true) (hclos:VH scope X.env=pure cl)
  (hcell:∀ y∈scope.names,y.2 ≠ .cell) (hkind:scope.kind = .function) (hnames:∀ y∈scope.names,y.2 = .local->scope.names.lookup y.1=some .local) (hsub:Ik X.env.cells cl)
  (hhas:∀ y,((gP scope X.env).names.lookup y=some .cell\/(gP scope X.env).names.lookup y=some .free)->∃ c,cl.lookup y=some c)
  (hN:N.Nodup) (hN0:N[0]? = some x) (hx:(gP scope X.env).names.lookup x=some .local) (hlen:N.length=caps.length+1) (hcap:∀ (i:Nat) (j:Nat),caps[i]? = some j->Aj X N scope cl (i+1) j)
  (hi:PI X (.Name x px) iter wi) (ht:∀ s H fp C,PTs (dJ X N scope cl s H fp C) ifs tt) (he:∀ s H fp C,PE (dJ X N scope cl s H fp C) elt te)
  (hs:∀ x,GC iter X.env x=pure x:=by intro _;rfl) (hsw:yG (.ListComp elt [⟨.Name x px,iter,ifs,0⟩] scope pos) (some (.Name y py)) spos.line X.env=pure true:=by rfl)
  (hf:X.fn y=true\/X.env.scope.names.lookup y=some .local:=by first | exact .inl rfl | exact .inr rfl | assumption) :
  PS X (.Assign [.Name y py] (.ListComp elt [⟨.Name x px,iter,ifs,0⟩] scope pos) spos) (tAsg (aju wi caps tt te) (vQ i)):=by
 intro pins s σ H D I h
 rw [adI _ _ _ _ hsw]
 refine aR (M7 (aR ?_))
 show wpAny _ X.A (do let _ <- adW (.ListComp elt [⟨.Name x px,iter,ifs,0⟩] scope pos) scope X.env _ (Np []) false (eval iter X.env) (some (lR (.Name y py) X.env))) _ _ s
 refine aR (dW (Vl (use:=some (lR (.Name y py) X.env)) (Q:=fun _ s'=>SP X pins D .next s') rfl hs hclos hkind hnames
  (thn (hi pins s σ H _ I h) fun v s1 h1=>thn h1 fun itv s2 h2=>?_)) (fun _ s' hq=>bw (bw hq)) fun _ _ e=>e)
 obtain ⟨it,fp,tn,J,H2,e,I2,T,st2,f2,w2⟩:=h2
 subst e
 refine Il (RR:=fun acc C=>compPost (model X.prog X.w) X.A X.xe (some (lR (.Name y py) X.env)) (fun _ s'=>SP X pins D .next s') acc C) hc hcell hkind hsub hhas hN hN0 hx hlen hcap ht he I2 T st2 f2 w2 fun D' C σ' H' s5 hC I5 q=>?_
 show wpAny _ X.A (lR (.Name y py) X.env (.ref D')) _ _ _
 have IX:Inv X pins σ H' s5:=I2.Zm (h':=s5.heap) f2 hC I5 ⟨rfl,fun _ _=>rfl⟩
 have nL:C≠X.env.locals:=by
  obtain ⟨m,⟨o,_,_,ho,_⟩,_⟩:=I2.loc
  exact yN (fW (bR ho) hC)
 have nC:∀ z c,X.env.cells.lookup z=some c->c≠C:=fun z c e=>by
  obtain ⟨v,o,ho,_⟩:=I2.cell z c e
  exact cW (fW (bR ho) hC)
 refine Vp (CQ IX hXN hi0 hy (v:=.ref D') rfl (fun s6 I6 hb=>?_) hf)
 obtain ⟨m,hm,_⟩:=I5.loc
 obtain ⟨a,sb,ha⟩:=hb
 have na:C≠a:=by
  rcases ha with z | z
  ·rw [z];exact nL
  ·exact aP (nC _ _ z)
 refine ⟨m,hm.sameBut sb na,fun h' hs'=>⟨_,H',?_,q⟩⟩
 obtain ⟨hp6,g6,d6,t6,o6⟩:=s6
 refine I6.turned (it:=C) (t':=t6) (fun b o hb e=>(hs'.2 b hb).trans e) I5.free nL (.inr (fX I2.sz hC)) nC fun p hp z=>?_
 have:=(I2.pin p hp).1
 exact absurd (fW (bR this) (by rw [z];exact hC)) (rZ _)
end
theorem vY {names:List (Str × yH)} {cl:List (Str × Addr)} (h:(names.all fun p=>(p.2 != .cell && p.2 != .free) || (cl.lookup p.1).isSome)=true) (y:Str) (hy:names.lookup y=some .cell\/names.lookup y=some .free):∃ c,cl.lookup y=some c:=by
 have key:∀ k:yH,(k = .cell\/k = .free)->names.lookup y=some k->∃ c,cl.lookup y=some c:=fun k hk e=>by
  have m:=Mr.mp h _ (BX e)
  have:(k != .cell && k != .free)=false:=by rcases hk with z | z <;> (subst z;rfl)
  rw [show ((y,k):Str × yH).2=k from rfl,this,aer] at m
  exact aeM.mp m
 rcases hy with z | z
 ·exact key _ (.inl rfl) z
 ·exact key _ (.inr rfl) z
noncomputable def iw (X:Cx) (N:List Str) (scope:Scope) (cl:List (Str × Addr)):Nat->List Nat->Prop
 | _,[]=>True
 | i,j::r=>Aj X N scope cl i j/\iw X N scope cl (i+1) r
theorem iw.at {X:Cx} {N:List Str} {scope:Scope} {cl:List (Str × Addr)}:∀ {caps:List Nat} {k:Nat},iw X N scope cl k caps->∀ (i j:Nat),caps[i]? = some j->Aj X N scope cl (i+k) j
 | [],_,_,i,j,h=>by simp at h
 | a::r,k,hc,0,j,h=>by
  have e:a=j:=by simpa using h
  subst e
  rw [Cu];exact hc.1
 | a::r,k,hc,i+1,j,h=>by
  have:=iw.at hc.2 i j (by simpa using h)
  rw [show i+1+k=i+(k+1) by lia];exact this
end L2
namespace L2
open PySem PySem.Spec PyProof.Rows
section
variable {X:Cx}
theorem Zn {A:bJ} {E:Value->Shared->Prop} {s:Shared} {T:String} {r d:Addr} {n:Nat} {P:Nat->Value->Prop} {OK:Heap->Prop} {ns:List Int} {Q:Value->Shared->Prop}
  (K:Vi X.prog X.w T r d n P OK) (hh:A.handled=none) (hok:OK s.heap) (hn:n<=sizeLine) (h64:n<64) (hP:∀ us:List Value,us.length=n->(∀ (j:Nat) (v:Value),us[j]? = some v->P j v)->je us ns)
  (h:∀ (h':Heap) (tk:Nat) (l:Addr) (out:Array Value) (ns':List Int) (e:Nat),(∀ b ob,s.heap.get? b=some ob->h'.get? b=some ob)->(∀ b ob,s.heap.get? b=some ob->b≠l)->h'.get? l=some (cU "list" out e) ->
   je out.toList ns'->ns'.Perm ns->ns'.Pairwise (· <= ·)->Q (.ref l) { s with heap:=h',toks:=tk }) :
  wpAny (model X.prog X.w) A (call (.builtin "sorted") [.ref r]) Q E s:=by
 refine Ov Hv Ht Hu (Od _) ?_
 unfold g8.«sorted»
 refine aR (m:=GZ "sorted" 1 1 _) (bw ?_)
 refine aR (Vd (A:=A.in1) K hh hok hn fun h1 tk acc hk hacc=>?_)
 have hl:acc.toList.length=n:=by rw [gU];exact hacc.1
 have hI:=hP acc.toList hl fun j v e=>hacc.2 j v (by rw [<- pP];exact e)
 refine aR (yF ?_ (by rw [hl];exact hn))
 have hoL:(h1.push (cU "list" acc.toList.toArray 0)).get? h1.objs.size=some (cU "list" acc.toList.toArray 0):=iC _ rfl
 refine aR (mz (GF Hs ⟨_,hoL,rfl⟩ Hr (list_sort_tree hoL hI (by rw [hl];exact h64) fun out ns' a1 a2 a3=>⟨_,rfl,?_⟩) (Oa _)))
 refine bw ⟨_,rfl,?_⟩
 obtain ⟨e,he⟩:=Wb (vs:=acc.toList) (out:=out) hoL
 have hb:∀ b ob,s.heap.get? b=some ob->b<h1.objs.size:=fun b ob e'=>bR (hk b ob e')
 refine h _ tk _ out ns' e (fun b ob e'=>?_) (fun b ob e'=>cW (hb b ob e')) he a1 a2 a3
 have hlt:=hb b ob e'
 rw [V8 (cW hlt) (by rw [yP];exact xU hlt)]
 exact gK _ (hk b ob e')
noncomputable def afY:List V->Hp->VK->Prop:=fun xs H Q=>∃ a kvs ns,xs=[V.ref a]/\Rd H a (.dK kvs)/\(kvs.map fun p=>kV p.1)=ns.map V.int/\ns.length<64 /\
 ∀ (l:Addr) (ns':List Int),H l=none->ns'.Perm ns->ns'.Pairwise (· <= ·)->Q (.ref l) (upd H l (.lst (ns'.map V.int)))
noncomputable def afZ (K:aW):List V->Hp->VK->Prop:=fun xs H Q=>∃ a ns,xs=[V.ref a]/\SqL K H a (ns.map V.int)/\ns.length<64 /\
 ∀ (l:Addr) (ns':List Int),H l=none->ns'.Perm ns->ns'.Pairwise (· <= ·)->Q (.ref l) (upd H l (.lst (ns'.map V.int)))
theorem Zo (hc:X.calm=true):iu X (.builtin "sorted") afY:=by
 walk_at "o"
 obtain ⟨a,kvs,ns,rfl,ha,ei,h64,q⟩:=h
 obtain ⟨u,rfl,ru⟩:=vals1 r
 cases ru
 obtain ⟨z,hd,vs,rel,dd⟩:=sS I.hok ha
 obtain ⟨ep,hat⟩:=dd.dictAt
 have hl:=rel.length
 have hns:ns.length=kvs.length:=by have:=congrArg pJ ei;simpa using this.symm
 refine Zn (X:=X) (ns:=ns) (Vg (knd:=dj X.prog X.w) (kvs:=vs) (ep:=ep) hd) (I.ok.hd hc) hat (by rw [<- hl];exact z) tb_g% (fun us hu hv=>?_) fun h' tk l' out ns' e' kp hne hl' hI hp ho=>?_
 ·have vv:=wX rel hu hv
  rw [ei] at vv
  exact intsAre_of vv
 ·refine ⟨.ref l',_,I.Ep (t':=tk) kp hne (show dO X.prog X.w _ h' l' (.lst (ns'.map V.int)) from ⟨?_,out.toList,e',mJ hI,by simpa using hl'⟩),rfl,q l' ns' (I.none_of hne) hp ho⟩
  rw [bK,hp.length_eq,hns];exact z
theorem Zq:iu X (.builtin "sorted") (afZ X.K):=by
 walk_at "o"
 obtain ⟨a,ns,rfl,ha,h64,q⟩:=h
 obtain ⟨u,rfl,ru⟩:=vals1 r
 cases ru
 obtain ⟨its,rv,p,hz⟩:=I.list ha
 have hI:=intsAre_of rv
 have hl:its.length=ns.length:=by rw [<- rv.length,bK]
 refine sorted_ints p.isList hI tb_g% fun out ns' a1 a2 a3=>?_
 obtain ⟨e,he⟩:=Wf s.heap its out
 refine ⟨.ref (s.heap.objs.size+1),_,I.laid (t':=s.toks) (fun _ _=>Wc) (nQ _) (show dO X.prog X.w _ _ (s.heap.objs.size+1) (.lst (ns'.map V.int)) from ⟨?_,out.toList,e,mJ a1,by simpa using he⟩),rfl,q _ ns' (I.hok.fresh (nQ _)) a2 a3⟩
 rw [bK,a2.length_eq]
 rw [bK] at hz
 exact hz
noncomputable def aln (K:aW):List V->Hp->VK->Prop:=fun xs H Q=>afY xs H Q\/afZ K xs H Q
theorem PK (hc:X.calm=true):iu X (.builtin "sorted") (aln X.K):=(Zo hc).or Zq
end
end L2
namespace Tm
open PySem PyProof.Rows
class Rk where
 kd:SortKind
 R:Keyed->Int
 Ok:Keyed->Prop
class Rl [Rk] (prog:aV) (w:World) (A:bJ) (E:Value->Shared->Prop) (s:Shared):Prop where
 lt:∀ {x y:Keyed} {st:SortSt} {Q:Option Bool->SortSt->Prop},kindOf st=Rk.kd->Rk.Ok x->Rk.Ok y->Q (some (decide (Rk.R x<Rk.R y))) st->wpS (model prog w) A E s (lt' x y) Q st
section
variable [Rk]
noncomputable def K (xs:Array Keyed) (i:Nat):Int:=match xs[i]? with
 | some x=>Rk.R x
 | none=>0
noncomputable def kd0:SortKind:=Rk.kd
noncomputable def Is (x:Keyed) (n:Int):Prop:=Rk.Ok x/\Rk.R x=n
noncomputable def SortedTo (xs:Array Keyed) (k:Nat):Prop:=∀ i j,i<=j->j<k->K xs i<=K xs j
noncomputable def IntKeys (xs:Array Keyed):Prop:=∀ x,x∈xs.toList->Rk.Ok x
structure SBase (a₀:Array Keyed) (st:SortSt):Prop where
 perm:(arrOf st).Perm a₀
 kind:kindOf st=kd0
 failed:nT st=none
 pend:dX st = #[]
theorem SBase.size {a₀:Array Keyed} {st:SortSt} (h:SBase a₀ st):(arrOf st).size=a₀.size:=h.perm.size_eq
theorem K_congr {xs ys:Array Keyed} {i j:Nat} (h:xs[i]? = ys[j]?):K xs i=K ys j:=by unfold K;rw [h]
theorem K_bubble {xs:Array Keyed} {src d:Nat} (hs:src<xs.size) (hd:d<=src) (k:Nat) :
  K (bubble xs src d) k=if k=src-d then K xs src else if src-d<k/\k<=src then K xs (k-1) else K xs k:=by
 have e:=aea hs d hd k
 split at e
 ·rename_i h;rw [if_pos h];exact K_congr e
 ·rename_i h
  rw [if_neg h]
  split at e
  ·rename_i h';rw [if_pos h'];exact K_congr e
  ·rename_i h';rw [if_neg h'];exact K_congr e
theorem K_mirror {xs:Array Keyed} {i j:Nat} (hj:j<=xs.size) (k:Nat):K (yR xs i j ((j-i) / 2)) k=if i<=k/\k<j then K xs (i+j-1-k) else K xs k:=by
 have e:=Hq (i:=i) hj k
 split at e
 ·rename_i h;rw [if_pos h];exact K_congr e
 ·rename_i h;rw [if_neg h];exact K_congr e
theorem K_mirror_equal {xs:Array Keyed} {i j:Nat} (hj:j<=xs.size) (heq:∀ k,i<=k->k<j->K xs k=K xs (j-1)) (k:Nat):K (yR xs i j ((j-i) / 2)) k=K xs k:=by
 rw [K_mirror hj]
 split
 ·rw [heq _ tb_g% tb_g%,heq k tb_g% tb_g%]
 ·rfl
end
end Tm
namespace Tm
open PySem PyProof.Rows
section
variable [Rk]
noncomputable def gal:Bool->Keyed->Array Keyed->Nat->Nat->Nat->StateT SortSt Sem (Option Nat):=sortPriv% PySem.Builtin.gallop
section
variable {prog:aV} {w:World} {A:bJ} {E:Value->Shared->Prop} {s:Shared} [Rl prog w A E s]
theorem Im {st:SortSt} {a b:Int} {x y:Keyed} {Q:Option Bool->SortSt->Prop} (hk:kindOf st=kd0) (h:Q (some (decide (a<b))) st) (hx:Is x a:=by assumption) (hy:Is y b:=by assumption) :
  wpS (model prog w) A E s (lt' x y) Q st:=Rl.lt hk hx.1 hy.1 (by rw [hx.2,hy.2];exact h)
theorem dM {st:SortSt} {arr:Array Keyed} {i:Nat} {x:Keyed} {Q:Keyed->SortSt->Prop} (hi:arr[i]? = some x) (h:Q x st):wpS (model prog w) A E s (elem' arr i) Q st:=by
 rw [elem'_eq,hi]
 exact aY h
noncomputable def bey (left:Bool) (key:Int) (arr:Array Keyed) (i:Nat):Bool:=if left then decide (K arr i<key) else !decide (key<K arr i)
noncomputable def Ints (arr:Array Keyed) (a b:Nat):Prop:=∀ i,a<=i->i<b->∃ (u:Keyed) (_:Is u (K arr i)),arr[i]? = some u
theorem ah6 {left:Bool} {key:Int} {y:Keyed} {arr:Array Keyed} {i:Nat} {st:SortSt} {u:Keyed} {Q:Option Bool->SortSt->Prop} (hk:kindOf st=kd0) (hy:Is y key) (hu:Is u (K arr i)) (hi:arr[i]? = some u) (h:Q (some (bey left key arr i)) st) :
  wpS (model prog w) A E s (do
   let x <- elem' arr i
   if left=true then lt' x y else do
    let r <- lt' y x
    pure (aeQ (fun x=>!x) r)) Q st:=by
 refine aU (dM hi ?_)
 unfold bey at h
 cases left with
 | true=>exact Im hk h
 | false=>exact aU (Im hk (aY h))
theorem mK {left:Bool} {key:Int} {y:Keyed} {arr:Array Keyed} {base n hint:Nat} {st:SortSt} {Q:Option Nat->SortSt->Prop} (hk:kindOf st=kd0) (hI:Ints arr base (base+n)) (hh:hint<n)
  (hm:∀ i j,i<=j->j<n->bey left key arr (base+j)=true->bey left key arr (base+i)=true)
  (h:∀ k,k<=n->(∀ i,i<k->bey left key arr (base+i)=true)->(∀ i,k<=i->i<n->bey left key arr (base+i)=false)->Q (some k) st) (hy:Is y key:=by assumption) :
  wpS (model prog w) A E s (gal left y arr base n hint) Q st:=by
 have ask:∀ i,i<n->∀ {Q:Option Bool->SortSt->Prop},Q (some (bey left key arr (base+i))) st->wpS (model prog w) A E s (do
   let x <- elem' arr (base+i)
   if left=true then lt' x y else do
    let r <- lt' y x
    pure (aeQ (fun x=>!x) r)) Q st:=fun i hi {Q} hQ=>by
  obtain ⟨u,q,e⟩:=hI (base+i) tb_g% tb_g%
  exact ah6 hk hy q e hQ
 have up:∀ i j,i<=j->j<n->bey left key arr (base+i)=false->bey left key arr (base+j)=false:=fun i j hij hj hf=>by
  cases e:bey left key arr (base+j) with
  | false=>rfl
  | true=>rw [hm i j hij hj e] at hf;cases hf
 refine aU (ask hint hh ?_)
 dsimp only
 cases hb:bey left key arr (base+hint) with
 | true =>
  rw [if_pos rfl]
  refine aU (gF (mC (I:=fun x c st'=>st'=st/\∃ lastofs ofs,c=(none,lastofs,ofs)/\lastofs<ofs/\x+1<=ofs/\(lastofs=0\/hint+lastofs<n)/\bey left key arr (base+(hint+lastofs))=true)
   (Q:=fun c st'=>st'=st/\∃ lastofs ofs,c=(none,lastofs,ofs)/\lastofs<ofs/\(lastofs=0\/hint+lastofs<n)/\bey left key arr (base+(hint+lastofs))=true/\(n-hint<=ofs\/(hint+ofs<n/\bey left key arr (base+(hint+ofs))=false))) ?_ ?_ ⟨rfl,0,1,rfl,by lia,by lia,.inl rfl,hb⟩) ?_)
  ·rintro x c st' _ hx ⟨rfl,la,of,rfl,h1,h2,h3,h4⟩
   dsimp only
   by_cases hge:of>=n-hint
   ·rw [if_pos hge]
    exact aY ⟨rfl,la,of,rfl,h1,h3,h4,.inl hge⟩
   ·rw [if_neg hge]
    refine aU (ask (hint+of) tb_g% ?_)
    dsimp only
    cases hb2:bey left key arr (base+(hint+of)) with
    | false=>exact aY ⟨rfl,la,of,rfl,h1,h3,h4,.inr ⟨by lia,hb2⟩⟩
    | true=>exact aY ⟨rfl,of,2*of+1,rfl,by lia,by lia,.inr tb_g%,hb2⟩
  ·rintro c st' ⟨rfl,la,of,rfl,h1,h2,h3,h4⟩
   exact ⟨rfl,la,of,rfl,h1,h3,h4,.inl tb_g%⟩
  ·rintro c st' ⟨rfl,la,of,rfl,h1,h3,h4,h5⟩
   dsimp only
   have lo1:∀ i,i<hint+la+1->bey left key arr (base+i)=true:=fun i hi=>hm i (hint+la) tb_g% tb_g% h4
   have hi1:∀ i,hint+min of (n-hint)<=i->i<n->bey left key arr (base+i)=false:=fun i h6 h7=>by
    rcases h5 with z | ⟨z,z'⟩
    ·lia
    ·exact up (hint+of) i tb_g% h7 z'
   have le1:hint+la+1<=hint+min of (n-hint):=by lia
   have le2:hint+min of (n-hint)<=n:=by lia
   generalize hint+la+1=lo at lo1 le1 ⊢
   generalize hint+min of (n-hint)=hi at hi1 le1 le2 ⊢
   refine aU (gF (mC (I:=fun x c s2=>s2=st'/\∃ lo hi,c=(none,lo,hi)/\lo<=hi/\hi<=n/\(hi-lo<=n-x)/\(∀ i,i<lo->bey left key arr (base+i)=true)/\∀ i,hi<=i->i<n->bey left key arr (base+i)=false)
    (Q:=fun c s2=>s2=st'/\∃ lo hi,c=(none,lo,hi)/\lo=hi/\hi<=n/\(∀ i,i<lo->bey left key arr (base+i)=true)/\∀ i,hi<=i->i<n->bey left key arr (base+i)=false) ?_ ?_ ⟨rfl,lo,hi,rfl,le1,le2,by lia,lo1,hi1⟩) ?_)
   ·rintro x c s2 _ hx ⟨rfl,lo,hi,rfl,g1,g2,g3,g4,g5⟩
    dsimp only
    by_cases hge:lo>=hi
    ·rw [if_pos hge]
     exact aY ⟨rfl,lo,hi,rfl,by lia,g2,g4,g5⟩
    ·rw [if_neg hge]
     refine aU (ask (lo+(hi-lo) / 2) tb_g% ?_)
     dsimp only
     cases hb2:bey left key arr (base+(lo+(hi-lo) / 2)) with
     | true=>exact aY ⟨rfl,lo+(hi-lo) / 2+1,hi,rfl,by lia,g2,by lia,fun i hi'=>hm i (lo+(hi-lo) / 2) tb_g% tb_g% hb2,g5⟩
     | false=>exact aY ⟨rfl,lo,lo+(hi-lo) / 2,rfl,by lia,by lia,by lia,g4,fun i h6 h7=>up (lo+(hi-lo) / 2) i h6 h7 hb2⟩
   ·rintro c s2 ⟨rfl,lo,hi,rfl,g1,g2,g3,g4,g5⟩
    exact ⟨rfl,lo,hi,rfl,by lia,g2,g4,g5⟩
   ·rintro c s2 ⟨rfl,lo,hi,rfl,rfl,g2,g4,g5⟩
    exact aY (h lo g2 g4 g5)
 | false =>
  rw [if_neg (by decide)]
  refine aU (gF (mC (I:=fun x c st'=>st'=st/\∃ lastofs ofs,c=(none,lastofs,ofs)/\lastofs<ofs/\x+1<=ofs/\lastofs<=hint/\bey left key arr (base+(hint-lastofs))=false)
   (Q:=fun c st'=>st'=st/\∃ lastofs ofs,c=(none,lastofs,ofs)/\lastofs<ofs/\lastofs<=hint/\bey left key arr (base+(hint-lastofs))=false/\(hint+1<=ofs\/bey left key arr (base+(hint-ofs))=true)) ?_ ?_ ⟨rfl,0,1,rfl,by lia,by lia,by lia,hb⟩) ?_)
  ·rintro x c st' _ hx ⟨rfl,la,of,rfl,h1,h2,h3,h4⟩
   dsimp only
   by_cases hge:of>=hint+1
   ·rw [if_pos hge]
    exact aY ⟨rfl,la,of,rfl,h1,h3,h4,.inl hge⟩
   ·rw [if_neg hge]
    refine aU (ask (hint-of) tb_g% ?_)
    dsimp only
    cases hb2:bey left key arr (base+(hint-of)) with
    | true=>exact aY ⟨rfl,la,of,rfl,h1,h3,h4,.inr hb2⟩
    | false=>exact aY ⟨rfl,of,2*of+1,rfl,by lia,by lia,by lia,hb2⟩
  ·rintro c st' ⟨rfl,la,of,rfl,h1,h2,h3,h4⟩
   exact ⟨rfl,la,of,rfl,h1,h3,h4,.inl tb_g%⟩
  ·rintro c st' ⟨rfl,la,of,rfl,h1,h3,h4,h5⟩
   dsimp only
   have lo1:∀ i,i<hint+1-min of (hint+1)->bey left key arr (base+i)=true:=fun i hi=>by
    rcases h5 with z | z
    ·lia
    ·exact hm i (hint-of) tb_g% tb_g% z
   have hi1:∀ i,hint-la<=i->i<n->bey left key arr (base+i)=false:=fun i h6 h7=>up (hint-la) i h6 h7 h4
   have le1:hint+1-min of (hint+1)<=hint-la:=by lia
   have le2:hint-la<=n:=by lia
   generalize hint+1-min of (hint+1)=lo at lo1 le1 ⊢
   generalize hint-la=hi at hi1 le1 le2 ⊢
   refine aU (gF (mC (I:=fun x c s2=>s2=st'/\∃ lo hi,c=(none,lo,hi)/\lo<=hi/\hi<=n/\(hi-lo<=n-x)/\(∀ i,i<lo->bey left key arr (base+i)=true)/\∀ i,hi<=i->i<n->bey left key arr (base+i)=false)
    (Q:=fun c s2=>s2=st'/\∃ lo hi,c=(none,lo,hi)/\lo=hi/\hi<=n/\(∀ i,i<lo->bey left key arr (base+i)=true)/\∀ i,hi<=i->i<n->bey left key arr (base+i)=false) ?_ ?_ ⟨rfl,lo,hi,rfl,le1,le2,by lia,lo1,hi1⟩) ?_)
   ·rintro x c s2 _ hx ⟨rfl,lo,hi,rfl,g1,g2,g3,g4,g5⟩
    dsimp only
    by_cases hge:lo>=hi
    ·rw [if_pos hge]
     exact aY ⟨rfl,lo,hi,rfl,by lia,g2,g4,g5⟩
    ·rw [if_neg hge]
     refine aU (ask (lo+(hi-lo) / 2) tb_g% ?_)
     dsimp only
     cases hb2:bey left key arr (base+(lo+(hi-lo) / 2)) with
     | true=>exact aY ⟨rfl,lo+(hi-lo) / 2+1,hi,rfl,by lia,g2,by lia,fun i hi'=>hm i (lo+(hi-lo) / 2) tb_g% tb_g% hb2,g5⟩
     | false=>exact aY ⟨rfl,lo,lo+(hi-lo) / 2,rfl,by lia,by lia,by lia,g4,fun i h6 h7=>up (lo+(hi-lo) / 2) i h6 h7 hb2⟩
   ·rintro c s2 ⟨rfl,lo,hi,rfl,g1,g2,g3,g4,g5⟩
    exact ⟨rfl,lo,hi,rfl,by lia,g2,g4,g5⟩
   ·rintro c s2 ⟨rfl,lo,hi,rfl,rfl,g2,g4,g5⟩
    exact aY (h lo g2 g4 g5)
end
end
end Tm
namespace Tm
open PySem PyProof.Rows
section
variable [Rk]
noncomputable def Srt (xs:Array Keyed) (a b:Nat):Prop:=∀ i j,a<=i->i<=j->j<b->K xs i<=K xs j
structure Within (xs ys:Array Keyed) (a b:Nat):Prop where
 perm:ys.Perm xs
 out:∀ i,i<a\/b<=i->ys[i]? = xs[i]?
theorem Within.refl (xs:Array Keyed) (a b:Nat):Within xs xs a b:=⟨WY _,fun _ _=>rfl⟩
theorem Within.trans {xs ys zs:Array Keyed} {a b:Nat} (h:Within xs ys a b) (h':Within ys zs a b):Within xs zs a b:=⟨h'.perm.trans h.perm,fun i hi=>(h'.out i hi).trans (h.out i hi)⟩
theorem Within.wide {xs ys:Array Keyed} {a b a' b':Nat} (h:Within xs ys a b) (ha:a'<=a) (hb:b<=b'):Within xs ys a' b':=⟨h.perm,fun i hi=>h.out i tb_g%⟩
theorem zq {xs:Array Keyed} (h0:IntKeys xs) {i:Nat} (hi:i<xs.size):∃ (t:Keyed) (_:Is t (K xs i)),xs[i]? = some t:=by
 have e:xs[i]? = some xs[i]:=getElem?_pos _ i hi
 refine ⟨xs[i],⟨h0 xs[i] (by simp),?_⟩,e⟩
 unfold K
 rw [e]
theorem wY {xs ys:Array Keyed} (h:IntKeys xs) (p:ys.Perm xs):IntKeys ys:=fun q hq=>h q ((Og.mp p).mem_iff.mp hq)
section
variable {prog:aV} {w:World} {A:bJ} {E:Value->Shared->Prop} {s:Shared} [Rl prog w A E s]
theorem Dh {st:SortSt} {i j:Nat} {Q:Option Bool->SortSt->Prop} (hk:kindOf st=kd0) (h0:IntKeys (arrOf st)) (hi:i<(arrOf st).size) (hj:j<(arrOf st).size)
  (h:Q (some (decide (K (arrOf st) i<K (arrOf st) j))) st):wpS (model prog w) A E s (ltAt' i j) Q st:=by
 obtain ⟨t,p,e1⟩:=zq h0 hi
 obtain ⟨u,q,e2⟩:=zq h0 hj
 rw [ltAt'_eq]
 refine aU (pO ?_)
 show wpS _ _ _ _ (do let x <- elem' (arrOf st) i;let y <- elem' (arrOf st) j;lt' x y) Q st
 rw [elem'_eq,elem'_eq,e1,e2]
 refine aU (aY (aU (aY ?_)))
 exact Im hk h
theorem af0 {lo n ok:Nat} {st:SortSt} {Q:Bool->SortSt->Prop} (hk:kindOf st=kd0) (h0:IntKeys (arrOf st)) (hz:lo+n<=(arrOf st).size) (hok:ok<=n) (hs:Srt (arrOf st) lo (lo+ok))
  (h:∀ ys,Within (arrOf st) ys lo (lo+n)->Srt ys lo (lo+n)->Q true (gb st ys)):wpS (model prog w) A E s (binarySort' lo n ok) Q st:=by
 have hs1:Srt (arrOf st) lo (lo+max ok 1):=fun i j h1 h2 h3=>by
  by_cases e:j<lo+ok
  ·exact hs i j h1 h2 e
  ·have:i=j:=by lia
   rw [this];exact fM _
 refine aU (gF (mC (I:=fun k c st'=>c=(none,())/\∃ ys,st'=gb st ys/\Within (arrOf st) ys lo (lo+n)/\Srt ys lo (lo+k))
  (Q:=fun c st'=>c=(none,())/\∃ ys,st'=gb st ys/\Within (arrOf st) ys lo (lo+n)/\Srt ys lo (lo+n)) ?_ ?_ ⟨rfl,arrOf st,rfl,Within.refl _ _ _,hs1⟩) ?_)
 ·rintro k c st' hk1 hk2 ⟨rfl,ys,rfl,hw,hsr⟩
  have sz:ys.size=(arrOf st).size:=hw.perm.size_eq
  have hi0:IntKeys ys:=wY h0 hw.perm
  dsimp only
  refine aU (gF (mC (I:=fun x c st'=>st'=gb st ys/\∃ l r,c=(none,l,r)/\l<=r/\r<=k/\r-l<=k-x/\(∀ i,i<l->K ys (lo+i)<=K ys (lo+k))/\∀ i,r<=i->i<k->K ys (lo+k)<K ys (lo+i))
   (Q:=fun c st'=>st'=gb st ys/\∃ l r,c=(none,l,r)/\l=r/\r<=k/\(∀ i,i<l->K ys (lo+i)<=K ys (lo+k))/\∀ i,r<=i->i<k->K ys (lo+k)<K ys (lo+i)) ?_ ?_ ⟨rfl,0,k,rfl,bZ _,cJ _,by lia,fun i hi=>by lia,fun i h1 h2=>by lia⟩) ?_)
  ·rintro x c st' _ hx ⟨rfl,l,r,rfl,g1,g2,g3,g4,g5⟩
   dsimp only
   by_cases hge:l>=r
   ·rw [if_pos hge]
    exact aY ⟨rfl,l,r,rfl,by lia,g2,g4,g5⟩
   ·rw [if_neg hge]
    refine aU (Dh (st:=gb st ys) hk hi0 (by show lo+k<ys.size;lia) (by show lo+(l+r) / 2<ys.size;lia) ?_)
    dsimp only
    show wpS _ _ _ _ (if decide (K ys (lo+k)<K ys (lo+(l+r) / 2))=true then _ else _) _ _
    by_cases hl:K ys (lo+k)<K ys (lo+(l+r) / 2)
    ·rw [if_pos (decide_eq_true hl)]
     refine aY ⟨rfl,l,(l+r) / 2,rfl,by lia,by lia,by lia,g4,fun i h1 h2=>?_⟩
     exact Int.lt_of_lt_of_le hl (hsr (lo+(l+r) / 2) (lo+i) tb_g% tb_g% tb_g%)
    ·rw [if_neg (by simpa using hl)]
     refine aY ⟨rfl,(l+r) / 2+1,r,rfl,by lia,g2,by lia,fun i h1=>?_,g5⟩
     exact jH (hsr (lo+i) (lo+(l+r) / 2) tb_g% tb_g% tb_g%) (lU.mp hl)
  ·rintro c st' ⟨rfl,l,r,rfl,g1,g2,g3,g4,g5⟩
   exact ⟨rfl,l,r,rfl,by lia,g2,g4,g5⟩
  ·rintro c st' ⟨rfl,l,r,rfl,rfl,g2,g4,g5⟩
   dsimp only
   show wpS _ _ _ _ (moveDown' (lo+k) (lo+l) >>= _) _ _
   rw [moveDown'_eq]
   refine aU (nR (aY ⟨rfl,bubble ys (lo+k) (lo+k-(lo+l)),rfl,hw.trans ⟨bubble_perm _ _ _,fun i hi=>?_⟩,fun i j h1 h2 h3=>?_⟩))
   ·rw [aea tb_g% _ tb_g%,if_neg tb_g%,if_neg tb_g%]
   ·rw [K_bubble tb_g% tb_g%,K_bubble tb_g% tb_g%]
    have e:lo+k-(lo+k-(lo+l))=lo+l:=by lia
    rw [e]
    by_cases a1:i=lo+l
    ·rw [if_pos a1]
     by_cases b1:j=lo+l
     ·rw [if_pos b1];exact fM _
     ·rw [if_neg b1,if_pos tb_g%]
      have:=g5 (j-1-lo) tb_g% tb_g%
      rw [show lo+(j-1-lo)=j-1 by lia] at this
      exact pQ this
    ·rw [if_neg a1]
     by_cases a2:lo+l<i/\i<=lo+k
     ·rw [if_pos a2,if_neg tb_g%,if_pos tb_g%]
      exact hsr (i-1) (j-1) tb_g% tb_g% tb_g%
     ·rw [if_neg a2]
      by_cases b1:j=lo+l
      ·rw [if_pos b1]
       have:=g4 (i-lo) tb_g%
       rw [show lo+(i-lo)=i by lia] at this
       exact this
      ·rw [if_neg b1]
       by_cases b2:lo+l<j/\j<=lo+k
       ·rw [if_pos b2];exact hsr i (j-1) tb_g% tb_g% tb_g%
       ·rw [if_neg b2];exact hsr i j tb_g% tb_g% tb_g%
 ·rintro c st' ⟨rfl,ys,rfl,hw,hsr⟩
  refine ⟨rfl,ys,rfl,hw,?_⟩
  by_cases hn:n=0
  ·intro i j h1 h2 h3;lia
  ·rw [show max (max ok 1) n=n by lia] at hsr;exact hsr
 ·rintro c st' ⟨rfl,ys,rfl,hw,hsr⟩
  exact aY (h ys hw hsr)
end
end
end Tm
namespace Tm
open PySem PyProof.Rows
section
variable [Rk]
section
variable {prog:aV} {w:World} {A:bJ} {E:Value->Shared->Prop} {s:Shared} [Rl prog w A E s]
theorem ah7 {lo nrem:Nat} {st:SortSt} {Q:Option Nat->SortSt->Prop} (hk:kindOf st=kd0) (h0:IntKeys (arrOf st)) (hz:lo+nrem<=(arrOf st).size) (h1:1<=nrem)
  (h:∀ n ys,1<=n->n<=nrem->(∀ q,q<=nrem->Srt (arrOf st) lo (lo+q)->q<=n)->Within (arrOf st) ys lo (lo+nrem)->Srt ys lo (lo+n)->Q (some n) (gb st ys)):wpS (model prog w) A E s (countRun' lo nrem) Q st:=by
 refine aU (gF (mC (I:=fun x c st'=>st'=st/\c=(none,x)/\Srt (arrOf st) lo (lo+x))
  (Q:=fun c st'=>st'=st/\∃ n,c=(none,n)/\1<=n/\n<=nrem/\Srt (arrOf st) lo (lo+n)/\(n<nrem->K (arrOf st) (lo+n)<K (arrOf st) (lo+n-1))) ?_ ?_ ⟨rfl,rfl,fun i j g1 g2 g3=>by
   have:i=j:=by lia
   rw [this];exact fM _⟩) ?_)
 ·rintro x c st' hx1 hx2 ⟨rfl,rfl,hs⟩
  dsimp only
  refine aU (Dh hk h0 tb_g% tb_g% ?_)
  dsimp only
  by_cases hl:K (arrOf st') (lo+x)<K (arrOf st') (lo+x-1)
  ·rw [if_pos (decide_eq_true hl)]
   exact aY ⟨rfl,x,rfl,hx1,by lia,hs,fun _=>hl⟩
  ·rw [if_neg (by simpa using hl)]
   refine aY ⟨rfl,rfl,fun i j g1 g2 g3=>?_⟩
   by_cases e:j<lo+x
   ·exact hs i j g1 g2 e
   ·have ej:j=lo+x:=by lia
    subst ej
    by_cases e2:i=lo+x
    ·rw [e2];exact fM _
    ·exact jH (hs i (lo+x-1) g1 tb_g% tb_g%) (lU.mp hl)
 ·rintro c st' ⟨rfl,rfl,hs⟩
  rw [show max 1 nrem=nrem by lia] at hs ⊢
  exact ⟨rfl,nrem,rfl,h1,cJ _,hs,fun z=>absurd z (rZ _)⟩
 ·rintro c st' ⟨rfl,n,rfl,n1,n2,hs,hlt⟩
  k_dat (r0,hr0) "b"
  subst hr0
  k_dat (n0,hn0) "b"
  subst hn0
  have hq0:∀ q,q<=nrem->Srt (arrOf st') lo (lo+q)->q<=n0:=fun q g1 g2=>V6.mp fun z=>by
   have:=hlt tb_g%
   have:=g2 (lo+n0-1) (lo+n0) tb_g% tb_g% tb_g%
   lia
  show wpS _ _ _ _ (if (n0 == nrem)=true then _ else _) Q st'
  by_cases hn:n0=nrem
  ·rw [if_pos (by simpa using hn)]
   exact aY (h n0 (arrOf st') n1 n2 hq0 (Within.refl _ _ _) hs)
  rw [if_neg (by simpa using hn)]
  have hlt':=hlt tb_g%
  k_dat (jp,hjp) "b"
  have key:∀ (u:PUnit) (ys:Array Keyed),Within (arrOf st') ys lo (lo+nrem)->(∀ i,lo<=i->i<lo+n0->K ys i=K ys (lo+n0-1))->K ys (lo+n0)<K ys (lo+n0-1)->wpS (model prog w) A E s (jp u) Q (gb st' ys):=by
   intro u ys hw heq hless
   rw [hjp]
   refine aU (vH (tR ⟨rfl,?_⟩))
   k_dat (n,hn') "b"
   k_dat (neq,hneq) "b"
   subst hneq
   refine aU (gF (mC (I:=fun x c st2=>∃ zs q,c=(none,x,q)/\st2=gb st' zs/\Within (arrOf st') zs lo (lo+nrem)/\q+1<x/\(∀ i j,lo<=i->i<=j->j<lo+x->K zs j<=K zs i)/\(∀ i,lo+x-(q+1)<=i->i<lo+x->K zs i=K zs (lo+x-1)))
    (Q:=fun c st2=>∃ zs x q,c=(none,x,q)/\n<=x/\x<=nrem/\st2=gb st' zs/\Within (arrOf st') zs lo (lo+nrem)/\q+1<x/\(∀ i j,lo<=i->i<=j->j<lo+x->K zs j<=K zs i)/\(∀ i,lo+x-(q+1)<=i->i<lo+x->K zs i=K zs (lo+x-1))) ?_ ?_ ?_) ?_)
   ·rintro x c st2 hx1 hx2 ⟨zs,q,rfl,rfl,w2,q1,q2,q3⟩
    have sz:zs.size=(arrOf st').size:=w2.perm.size_eq
    have hi0:IntKeys zs:=wY h0 w2.perm
    dsimp only
    refine aU (Dh (st:=gb st' zs) hk hi0 (by show lo+x<zs.size;lia) (by show lo+x-1<zs.size;lia) ?_)
    dsimp only
    show wpS _ _ _ _ (if decide (K zs (lo+x)<K zs (lo+x-1))=true then _ else _) _ _
    by_cases hl:K zs (lo+x)<K zs (lo+x-1)
    ·rw [if_pos (decide_eq_true hl)]
     have ext:∀ vs:Array Keyed,(∀ i,K vs i=K zs i)->(∀ i j,lo<=i->i<=j->j<lo+(x+1)->K vs j<=K vs i):=fun vs hv i j g1 g2 g3=>by
      rw [hv,hv]
      by_cases e:j<lo+x
      ·exact q2 i j g1 g2 e
      ·have ej:j=lo+x:=by lia
       subst ej
       by_cases e2:i=lo+x
       ·rw [e2];exact fM _
       ·exact jH (pQ hl) (q2 i (lo+x-1) g1 tb_g% tb_g%)
     have one:∀ vs:Array Keyed,∀ i,lo+(x+1)-(0+1)<=i->i<lo+(x+1)->K vs i=K vs (lo+(x+1)-1):=fun vs i g1 g2=>by
      have:i=lo+(x+1)-1:=by lia
      rw [this]
     by_cases hq:q>0
     ·rw [if_pos hq]
      have me:=K_mirror_equal (xs:=zs) (i:=lo+x-(q+1)) (j:=lo+x) tb_g% (fun k g1 g2=>q3 k g1 g2)
      show wpS _ _ _ _ (Oc (lo+x-(q+1)) (lo+x) >>= _) _ _
      rw [N8]
      refine aU (nR (aY ⟨yR zs (lo+x-(q+1)) (lo+x) ((lo+x-(lo+x-(q+1))) / 2),0,rfl,rfl,w2.trans ⟨Oe _ _ _ _,fun i hi=>?_⟩,by lia,ext _ me,one _⟩))
      rw [Hq tb_g%,if_neg tb_g%]
     ·rw [if_neg hq]
      exact aY ⟨zs,0,rfl,rfl,w2,by lia,ext zs (fun _=>rfl),one zs⟩
    ·rw [if_neg (by simpa using hl)]
     refine aU (Dh (st:=gb st' zs) hk hi0 (by show lo+x-1<zs.size;lia) (by show lo+x<zs.size;lia) ?_)
     dsimp only
     show wpS _ _ _ _ (if decide (K zs (lo+x-1)<K zs (lo+x))=true then _ else _) _ _
     by_cases hl2:K zs (lo+x-1)<K zs (lo+x)
     ·rw [if_pos (decide_eq_true hl2)]
      exact aY ⟨zs,x,q,rfl,hx1,by lia,rfl,w2,q1,q2,q3⟩
     ·rw [if_neg (by simpa using hl2)]
      have heq2:K zs (lo+x)=K zs (lo+x-1):=by lia
      refine aY ⟨zs,q+1,rfl,rfl,w2,by lia,fun i j g1 g2 g3=>?_,fun i g1 g2=>?_⟩
      ·by_cases e:j<lo+x
       ·exact q2 i j g1 g2 e
       ·have ej:j=lo+x:=by lia
        subst ej
        by_cases e2:i=lo+x
        ·rw [e2];exact fM _
        ·rw [heq2];exact q2 i (lo+x-1) g1 tb_g% tb_g%
      ·rw [show lo+(x+1)-1=lo+x by lia]
       by_cases e:i=lo+x
       ·rw [e]
       ·rw [heq2];exact q3 i tb_g% tb_g%
   ·rintro c st2 ⟨zs,q,rfl,rfl,w2,q1,q2,q3⟩
    have e:max n nrem=nrem:=by lia
    rw [e] at q1 q2 q3 ⊢
    exact ⟨zs,nrem,q,rfl,by lia,cJ _,rfl,w2,q1,q2,q3⟩
   ·refine ⟨ys,0,rfl,rfl,hw,by lia,fun i j g1 g2 g3=>?_,fun i g1 g2=>?_⟩
    ·subst hn'
     by_cases e:j<lo+n0
     ·rw [heq i g1 tb_g%,heq j tb_g% e];exact fM _
     ·have ej:j=lo+n0:=by lia
      subst ej
      by_cases e2:i=lo+n0
      ·rw [e2];exact fM _
      ·rw [heq i g1 tb_g%];exact pQ hless
    ·have:i=lo+n-1:=by lia
     rw [this]
   ·rintro c st2 ⟨zs,x,q,rfl,hx1,hx2,rfl,w2,q1,q2,q3⟩
    k_dat (r2,hr2) "b"
    subst hr2
    k_dat (s2,hs2) "b"
    subst hs2
    k_dat (n2',hn2') "b"
    have hn3:x=n2':=hn2'.symm
    subst hn3
    k_dat (neq2,hneq2) "b"
    have hn4:q=neq2:=hneq2.symm
    subst hn4
    walk_at "c"
    k_dat (jp2,Ey) "b"
    have fin:∀ (u:PUnit) (vs:Array Keyed),Within (arrOf st') vs lo (lo+nrem)->(∀ i j,lo<=i->i<=j->j<lo+x->K vs j<=K vs i)->wpS (model prog w) A E s (jp2 u) Q (gb st' vs):=by
     intro u vs w3 dec
     rw [Ey]
     have sz:vs.size=(arrOf st').size:=w3.perm.size_eq
     show wpS _ _ _ _ (Oc lo (lo+x) >>= _) _ _
     rw [N8]
     refine aU (nR ?_)
     have w4:Within (arrOf st') (yR vs lo (lo+x) ((lo+x-lo) / 2)) lo (lo+nrem):=w3.trans ⟨Oe _ _ _ _,fun i hi=>by rw [Hq tb_g%,if_neg tb_g%]⟩
     have s4:Srt (yR vs lo (lo+x) ((lo+x-lo) / 2)) lo (lo+x):=fun i j g1 g2 g3=>by
      rw [K_mirror tb_g%,K_mirror tb_g%,if_pos tb_g%,if_pos tb_g%]
      exact dec _ _ tb_g% tb_g% tb_g%
     show wpS _ _ _ _ _ Q (gb st' (yR vs lo (lo+x) ((lo+x-lo) / 2)))
     generalize yR vs lo (lo+x) ((lo+x-lo) / 2)=us at w4 s4 ⊢
     have sz4:us.size=(arrOf st').size:=w4.perm.size_eq
     have hi4:IntKeys us:=wY h0 w4.perm
     refine aU (gF (mC (I:=fun y c st3=>st3=gb st' us/\c=(none,y)/\Srt us lo (lo+y))
      (Q:=fun c st3=>st3=gb st' us/\∃ m,c=(none,m)/\x<=m/\m<=nrem/\Srt us lo (lo+m)) ?_ ?_ ⟨rfl,rfl,s4⟩) ?_)
     ·rintro y c st3 hy1 hy2 ⟨rfl,rfl,hs5⟩
      dsimp only
      refine aU (Dh (st:=gb st' us) hk hi4 (by show lo+y<us.size;lia) (by show lo+y-1<us.size;lia) ?_)
      dsimp only
      show wpS _ _ _ _ (if decide (K us (lo+y)<K us (lo+y-1))=true then _ else _) _ _
      by_cases hl:K us (lo+y)<K us (lo+y-1)
      ·rw [if_pos (decide_eq_true hl)]
       exact aY ⟨rfl,y,rfl,by lia,by lia,hs5⟩
      ·rw [if_neg (by simpa using hl)]
       refine aY ⟨rfl,rfl,fun i j g1 g2 g3=>?_⟩
       by_cases e:j<lo+y
       ·exact hs5 i j g1 g2 e
       ·have ej:j=lo+y:=by lia
        subst ej
        by_cases e2:i=lo+y
        ·rw [e2];exact fM _
        ·exact jH (hs5 i (lo+y-1) g1 tb_g% tb_g%) (lU.mp hl)
     ·rintro c st3 ⟨rfl,rfl,hs5⟩
      rw [show max x nrem=nrem by lia] at hs5 ⊢
      exact ⟨rfl,nrem,rfl,hx2,cJ _,hs5⟩
     ·rintro c st3 ⟨rfl,m,rfl,m1,m2,hs5⟩
      exact aY (h m us tb_g% m2 (fun z g1 g2=>fX (hq0 z g1 g2) tb_g%) w4 hs5)
    have sz:zs.size=(arrOf st').size:=w2.perm.size_eq
    by_cases hq:q>0
    ·rw [if_pos hq]
     have me:=K_mirror_equal (xs:=zs) (i:=lo+x-(q+1)) (j:=lo+x) tb_g% (fun k g1 g2=>q3 k g1 g2)
     show wpS _ _ _ _ (Oc (lo+x-(q+1)) (lo+x) >>= _) _ _
     rw [N8]
     refine aU (nR (fin _ _ (w2.trans ⟨Oe _ _ _ _,fun i hi=>?_⟩) fun i j g1 g2 g3=>?_))
     ·rw [Hq (by show lo+x<=zs.size;lia),if_neg tb_g%]
     ·rw [me,me];exact q2 i j g1 g2 g3
    ·rw [if_neg hq]
     exact fin _ zs w2 q2
  by_cases hn1:n0>1
  ·rw [if_pos hn1]
   refine aU (Dh hk h0 tb_g% tb_g% ?_)
   dsimp only
   by_cases hl:K (arrOf st') lo<K (arrOf st') (lo+n0-1)
   ·rw [if_pos (decide_eq_true hl)]
    exact aY (h n0 (arrOf st') n1 n2 hq0 (Within.refl _ _ _) hs)
   ·rw [if_neg (by simpa using hl)]
    have alike:∀ i,lo<=i->i<lo+n0->K (arrOf st') i=K (arrOf st') (lo+n0-1):=fun i g1 g2=>by
     have a1:=hs lo i (cJ _) g1 g2
     have a2:=hs i (lo+n0-1) g1 tb_g% tb_g%
     lia
    have me:=K_mirror_equal (xs:=arrOf st') (i:=lo) (j:=lo+n0) tb_g% alike
    show wpS _ _ _ _ (Oc lo (lo+n0) >>= _) _ _
    rw [N8]
    refine aU (nR (key _ _ ⟨Oe _ _ _ _,fun i hi=>?_⟩ (fun i g1 g2=>?_) ?_))
    ·rw [Hq tb_g%,if_neg tb_g%]
    ·rw [me,me];exact alike i g1 g2
    ·rw [me,me];exact hlt'
  ·rw [if_neg hn1]
   refine key _ (arrOf st') (Within.refl _ _ _) (fun i g1 g2=>?_) hlt'
   rw [show i=lo+n0-1 by lia]
end
end
end Tm
namespace Tm
open PySem PyProof.Rows
section
variable [Rk]
noncomputable def kv (p:Keyed):Int:=Rk.R p
noncomputable def Asc (l:List Keyed):Prop:=l.Pairwise fun x y=>kv x<=kv y
structure Mg (A B out ra rb:List Keyed):Prop where
 perm:(out++(ra++rb)).Perm (A++B)
 srt:Asc out
 sa:Asc ra
 sb:Asc rb
 le:∀ x∈out,∀ y∈ra++rb,kv x<=kv y
theorem Sw {l:List Keyed} {x:Keyed} (h:Asc l) (hx:∀ y∈l,kv y<=kv x):Asc (l++[x]) :=
 xT.mpr ⟨h,List.pairwise_singleton _ _,fun a ha b hb=>by rw [gZ.mp hb];exact hx a ha⟩
theorem Mg.Sy {A B out ra rb:List Keyed} {x:Keyed} (h:Mg A B out (x::ra) rb) (hx:∀ y∈rb,kv x<=kv y):Mg A B (out++[x]) ra rb where
 perm:=by have:=h.perm;rw [jo];exact this
 srt:=Sw h.srt fun y hy=>h.le y hy x (by simp)
 sa:=(jM.mp h.sa).2
 sb:=h.sb
 le:=fun y hy z hz=>by
  rcases gw.mp hy with m | m
  ·exact h.le y m z (by rcases gw.mp hz with q | q <;> simp [q])
  ·rw [gZ.mp m]
   rcases gw.mp hz with q | q
   ·exact (jM.mp h.sa).1 z q
   ·exact hx z q
theorem Mg.K8 {A B out ra rb:List Keyed} {x:Keyed} (h:Mg A B out ra (x::rb)) (hx:∀ y∈ra,kv x<=kv y):Mg A B (out++[x]) ra rb where
 perm:=by
  refine List.Perm.trans ?_ h.perm
  rw [jo]
  exact Ox _ (adh (l₁:=ra) (l₂:=rb) (a:=x)).symm
 srt:=Sw h.srt fun y hy=>h.le y hy x (by simp)
 sa:=h.sa
 sb:=(jM.mp h.sb).2
 le:=fun y hy z hz=>by
  rcases gw.mp hy with m | m
  ·exact h.le y m z (by rcases gw.mp hz with q | q <;> simp [q])
  ·rw [gZ.mp m]
   rcases gw.mp hz with q | q
   ·exact hx z q
   ·exact (jM.mp h.sb).1 z q
theorem Mg.af2 {A B rb:List Keyed}:∀ {xs out ra:List Keyed},Mg A B out (xs++ra) rb->(∀ x∈xs,∀ y∈rb,kv x<=kv y)->Mg A B (out++xs) ra rb
 | [],out,ra,h,_=>by rw [vf];exact h
 | x::xs,out,ra,h,hx=>by
  have h1:=Mg.Sy (x:=x) (ra:=xs++ra) h (hx x gq)
  have h2:=Mg.af2 h1 fun z hz=>hx z (gY _ hz)
  rw [jo] at h2
  exact h2
theorem Mg.af3 {A B ra:List Keyed}:∀ {xs out rb:List Keyed},Mg A B out ra (xs++rb)->(∀ x∈xs,∀ y∈ra,kv x<=kv y)->Mg A B (out++xs) ra rb
 | [],out,rb,h,_=>by rw [vf];exact h
 | x::xs,out,rb,h,hx=>by
  have h1:=Mg.K8 (x:=x) (rb:=xs++rb) h (hx x gq)
  have h2:=Mg.af3 h1 fun z hz=>hx z (gY _ hz)
  rw [jo] at h2
  exact h2
structure gQ (A B out:List Keyed):Prop where
 perm:out.Perm (A++B)
 srt:Asc out
theorem Mg.af4 {A B out ra rb:List Keyed} (h:Mg A B out ra rb) (hx:∀ x∈ra,∀ y∈rb,kv x<=kv y):gQ A B (out++ra++rb) :=
 ⟨by rw [jo];exact h.perm,by
  rw [jo]
  exact xT.mpr ⟨h.srt,xT.mpr ⟨h.sa,h.sb,hx⟩,h.le⟩⟩
theorem Mg.af5 {A B out ra rb:List Keyed} (h:Mg A B out ra rb) (hx:∀ x∈rb,∀ y∈ra,kv x<=kv y):gQ A B (out++rb++ra) :=
 ⟨by rw [jo];exact (Ox _ acZ).trans h.perm,by
  rw [jo]
  exact xT.mpr ⟨h.srt,xT.mpr ⟨h.sb,h.sa,hx⟩,fun x m y n=>h.le x m y (by rcases gw.mp n with q | q <;> simp [q])⟩⟩
theorem Mg.start {A B:List Keyed} {x:Keyed} {rb:List Keyed} (ha:Asc A) (hb:Asc B) (e:B=x::rb) (hx:∀ y∈A,kv x<=kv y):Mg A B [x] A rb:=by
 have h0:Mg A B [] A B:=⟨aeS _,List.Pairwise.nil,ha,hb,fun _ h=>(nomatch h)⟩
 rw [e] at h0
 have:=h0.K8 hx
 rw [<- e] at this
 exact this
end
end Tm
namespace Tm
open PySem PyProof.Rows
section
variable [Rk]
structure Mh (A B out ra rb:List Keyed):Prop where
 perm:(ra++(rb++out)).Perm (A++B)
 srt:Asc out
 sa:Asc ra
 sb:Asc rb
 le:∀ x∈ra++rb,∀ y∈out,kv x<=kv y
theorem Ak {l:List Keyed} {x:Keyed} (h:Asc (l++[x])):Asc l/\∀ y∈l,kv y<=kv x:=by
 obtain ⟨a,_,b⟩:=xT.mp h
 exact ⟨a,fun y hy=>b y hy x (by simp)⟩
theorem Mh.Sy {A B out ra rb:List Keyed} {x:Keyed} (h:Mh A B out (ra++[x]) rb) (hx:∀ y∈rb,kv y<=kv x):Mh A B (x::out) ra rb where
 perm:=by
  refine List.Perm.trans ?_ h.perm
  rw [jo]
  exact Ox _ (adh (l₁:=rb) (l₂:=out) (a:=x))
 srt:=jM.mpr ⟨fun y hy=>h.le x (by simp) y hy,h.srt⟩
 sa:=(Ak h.sa).1
 sb:=h.sb
 le:=fun y hy z hz=>by
  rcases cA.mp hz with m | m
  ·rw [m]
   rcases gw.mp hy with q | q
   ·exact (Ak h.sa).2 y q
   ·exact hx y q
  ·exact h.le y (by rcases gw.mp hy with q | q <;> simp [q]) z m
theorem Mh.K8 {A B out ra rb:List Keyed} {x:Keyed} (h:Mh A B out ra (rb++[x])) (hx:∀ y∈ra,kv y<=kv x):Mh A B (x::out) ra rb where
 perm:=by
  refine List.Perm.trans (ajZ ?_) h.perm
  simp
 srt:=jM.mpr ⟨fun y hy=>h.le x (by simp) y hy,h.srt⟩
 sa:=h.sa
 sb:=(Ak h.sb).1
 le:=fun y hy z hz=>by
  rcases cA.mp hz with m | m
  ·rw [m]
   rcases gw.mp hy with q | q
   ·exact hx y q
   ·exact (Ak h.sb).2 y q
  ·exact h.le y (by rcases gw.mp hy with q | q <;> simp [q]) z m
theorem Mh.af2 {A B ra rb:List Keyed}:∀ {xs:List Keyed} {out:List Keyed},Mh A B out (ra++xs.reverse) rb->(∀ x∈xs,∀ y∈rb,kv y<=kv x)->Mh A B (xs.reverse++out) ra rb
 | [],out,h,_=>by simpa using h
 | x::xs,out,h,hx=>by
  rw [Bx,<- jo] at h
  have h2:=Mh.af2 (xs:=xs) (h.Sy (hx x gq)) fun z hz=>hx z (gY _ hz)
  rw [Bx,jo]
  exact h2
theorem Mh.af3 {A B ra rb:List Keyed}:∀ {xs:List Keyed} {out:List Keyed},Mh A B out ra (rb++xs.reverse)->(∀ x∈xs,∀ y∈ra,kv y<=kv x)->Mh A B (xs.reverse++out) ra rb
 | [],out,h,_=>by simpa using h
 | x::xs,out,h,hx=>by
  rw [Bx,<- jo] at h
  have h2:=Mh.af3 (xs:=xs) (h.K8 (hx x gq)) fun z hz=>hx z (gY _ hz)
  rw [Bx,jo]
  exact h2
theorem Mh.af4 {A B out ra rb:List Keyed} (h:Mh A B out ra rb) (hx:∀ x∈ra,∀ y∈rb,kv x<=kv y):gQ A B (ra++rb++out) :=
 ⟨by rw [jo];exact h.perm,xT.mpr ⟨xT.mpr ⟨h.sa,h.sb,hx⟩,h.srt,h.le⟩⟩
theorem Mh.af5 {A B out ra rb:List Keyed} (h:Mh A B out ra rb) (hx:∀ x∈rb,∀ y∈ra,kv x<=kv y):gQ A B (rb++ra++out):=by
 refine ⟨?_,xT.mpr ⟨xT.mpr ⟨h.sb,h.sa,hx⟩,h.srt,fun x m y n=>h.le x (by rcases gw.mp m with q | q <;> simp [q]) y n⟩⟩
 refine List.Perm.trans ?_ h.perm
 rw [<- jo]
 exact aeR _ acZ
theorem Io {a:Array Keyed} {i:Nat} (h:i<a.toList.length):kv (a.toList[i])=K a i:=by
 unfold K kv
 have:a[i]? = some a.toList[i]:=by rw [<- pP];exact jL h
 rw [this]
theorem nA {a:Array Keyed} {i:Nat} {x:Keyed} (h:x∈a.toList.drop i):∃ j,i<=j/\j<a.size/\kv x=K a j:=by
 obtain ⟨j,hj,e⟩:=Ml.mp h
 rw [ade] at e
 rw [BK] at hj
 have hl:a.toList.length=a.size:=gU
 exact ⟨i+j,by lia,by lia,by rw [<- e];exact Io tb_g%⟩
theorem nF {a:Array Keyed} {i:Nat} {x:Keyed} (h:x∈a.toList.take i):∃ j,j<i/\j<a.size/\kv x=K a j:=by
 obtain ⟨j,hj,e⟩:=Ml.mp h
 rw [adf] at e
 rw [jf] at hj
 have hl:a.toList.length=a.size:=gU
 exact ⟨j,by lia,by lia,by rw [<- e];exact Io tb_g%⟩
theorem gj {a:Array Keyed} {i:Nat} {x:Keyed} (h:a[i]? = some x):a.toList.drop i=x::a.toList.drop (i+1):=by
 rw [<- pP] at h
 obtain ⟨hi,e⟩:=jK.mp h
 rw [Kw hi,e]
theorem mX {a:Array Keyed} {i:Nat} {x:Keyed} (h:a[i]? = some x):a.toList.take (i+1)=a.toList.take i++[x]:=by
 rw [<- pP] at h
 rw [uJ,h];rfl
theorem Al {a:Array Keyed} {i k:Nat}:a.toList.drop i=(a.extract i (i+k)).toList++a.toList.drop (i+k):=by
 rw [Cy,Kz,show i+k-i=k by lia,<- adn,Mi]
theorem wZ {a:Array Keyed} {i k:Nat} {x:Keyed} (h:x∈(a.extract i k).toList):∃ j,i<=j/\j<k/\j<a.size/\kv x=K a j:=by
 rw [Cy,Kz] at h
 obtain ⟨j,hj,e⟩:=Ml.mp h
 rw [adf,ade] at e
 rw [jf,BK] at hj
 have hl:a.toList.length=a.size:=gU
 exact ⟨i+j,by lia,by lia,by lia,by rw [<- e];exact Io tb_g%⟩
theorem SJ {a:Array Keyed} {i k:Nat} (h:i<=k):a.toList.take k=a.toList.take i++(a.extract i k).toList:=by
 rw [Cy,Kz]
 conv=>lhs;rw [show k=i+(k-i) by lia,List.take_add]
theorem w6 {a:Array Keyed} {i:Nat} {x:Keyed} (h:a[i]? = some x):kv x=K a i:=by unfold K kv;rw [h]
noncomputable def Lo (a b out:Array Keyed) (ia ib:Nat):Prop:=Mg a.toList b.toList out.toList (a.toList.drop ia) (b.toList.drop ib)
theorem Lo.a {a b out:Array Keyed} {ia ib:Nat} {x:Keyed} (h:Lo a b out ia ib) (e:a[ia]? = some x) (hx:∀ j,ib<=j->j<b.size->K a ia<=K b j):Lo a b (out.push x) (ia+1) ib:=by
 unfold Lo at h ⊢
 rw [gj e] at h
 rw [Hw]
 exact h.Sy fun y hy=>by obtain ⟨j,h1,h2,h3⟩:=nA hy;rw [w6 e,h3];exact hx j h1 h2
theorem Lo.b {a b out:Array Keyed} {ia ib:Nat} {x:Keyed} (h:Lo a b out ia ib) (e:b[ib]? = some x) (hx:∀ j,ia<=j->j<a.size->K b ib<=K a j):Lo a b (out.push x) ia (ib+1):=by
 unfold Lo at h ⊢
 rw [gj e] at h
 rw [Hw]
 exact h.K8 fun y hy=>by obtain ⟨j,h1,h2,h3⟩:=nA hy;rw [w6 e,h3];exact hx j h1 h2
theorem Lo.as {a b out:Array Keyed} {ia ib k:Nat} (h:Lo a b out ia ib) (hx:∀ i j,ia<=i->i<ia+k->i<a.size->ib<=j->j<b.size->K a i<=K b j):Lo a b (out++a.extract ia (ia+k)) (ia+k) ib:=by
 unfold Lo at h ⊢
 rw [Al (k:=k)] at h
 rw [uN]
 exact h.af2 fun x hx' y hy=>by
  obtain ⟨i,g1,g2,g3,g4⟩:=wZ hx'
  obtain ⟨j,h1,h2,h3⟩:=nA hy
  rw [g4,h3];exact hx i j g1 g2 g3 h1 h2
theorem Lo.bs {a b out:Array Keyed} {ia ib k:Nat} (h:Lo a b out ia ib) (hx:∀ i j,ib<=i->i<ib+k->i<b.size->ia<=j->j<a.size->K b i<=K a j):Lo a b (out++b.extract ib (ib+k)) ia (ib+k):=by
 unfold Lo at h ⊢
 rw [Al (a:=b) (k:=k)] at h
 rw [uN]
 exact h.af3 fun x hx' y hy=>by
  obtain ⟨i,g1,g2,g3,g4⟩:=wZ hx'
  obtain ⟨j,h1,h2,h3⟩:=nA hy
  rw [g4,h3];exact hx i j g1 g2 g3 h1 h2
theorem FW (a:Array Keyed) (i:Nat):(a.extract i a.size).toList=a.toList.drop i:=by
 rw [Cy,Kz]
 exact Bv (by rw [BK,gU];lia)
theorem Lo.done {a b out:Array Keyed} {ia ib:Nat} (h:Lo a b out ia ib) (hx:∀ i j,ia<=i->i<a.size->ib<=j->j<b.size->K a i<=K b j):gQ a.toList b.toList (out++a.extract ia a.size++b.extract ib b.size).toList:=by
 rw [uN,uN,FW,FW]
 exact Mg.af4 h fun x hx' y hy=>by
  obtain ⟨i,g1,g2,g3⟩:=nA hx'
  obtain ⟨j,h1,h2,h3⟩:=nA hy
  rw [g3,h3];exact hx i j g1 g2 h1 h2
theorem Lo.last {a b out:Array Keyed} {ia ib:Nat} (h:Lo a b out ia ib) (hx:∀ i j,ib<=i->i<b.size->ia<=j->j<a.size->K b i<=K a j):gQ a.toList b.toList (out++b.extract ib b.size++a.extract ia a.size).toList:=by
 rw [uN,uN,FW,FW]
 exact Mg.af5 h fun x hx' y hy=>by
  obtain ⟨i,g1,g2,g3⟩:=nA hx'
  obtain ⟨j,h1,h2,h3⟩:=nA hy
  rw [g3,h3];exact hx i j g1 g2 h1 h2
noncomputable def Hi (a b out:Array Keyed) (na nb:Nat):Prop:=Mh a.toList b.toList out.toList.reverse (a.toList.take na) (b.toList.take nb)
theorem Hi.a {a b out:Array Keyed} {na nb:Nat} {x:Keyed} (h:Hi a b out (na+1) nb) (e:a[na]? = some x) (hx:∀ j,j<nb->j<b.size->K b j<=K a na):Hi a b (out.push x) na nb:=by
 unfold Hi at h ⊢
 rw [mX e] at h
 rw [Hw,Mq,acY,ac0]
 exact h.Sy fun y hy=>by obtain ⟨j,h1,h2,h3⟩:=nF hy;rw [w6 e,h3];exact hx j h1 h2
theorem Hi.b {a b out:Array Keyed} {na nb:Nat} {x:Keyed} (h:Hi a b out na (nb+1)) (e:b[nb]? = some x) (hx:∀ j,j<na->j<a.size->K a j<=K b nb):Hi a b (out.push x) na nb:=by
 unfold Hi at h ⊢
 rw [mX e] at h
 rw [Hw,Mq,acY,ac0]
 exact h.K8 fun y hy=>by obtain ⟨j,h1,h2,h3⟩:=nF hy;rw [w6 e,h3];exact hx j h1 h2
theorem Hi.as {a b out:Array Keyed} {na nb k:Nat} (h:Hi a b out na nb) (hk:k<=na) (hx:∀ i j,k<=i->i<na->i<a.size->j<nb->j<b.size->K b j<=K a i):Hi a b (out++(a.extract k na).reverse) k nb:=by
 unfold Hi at h ⊢
 rw [SJ hk] at h
 rw [uN,Mq,Cz]
 refine Mh.af2 (out:=out.toList.reverse) (by rw [ac2];exact h) fun x hx' y hy=>?_
 obtain ⟨i,g1,g2,g3,g4⟩:=wZ (Gp.mp hx')
 obtain ⟨j,h1,h2,h3⟩:=nF hy
 rw [g4,h3];exact hx i j g1 g2 g3 h1 h2
theorem Hi.bs {a b out:Array Keyed} {na nb k:Nat} (h:Hi a b out na nb) (hk:k<=nb) (hx:∀ i j,k<=i->i<nb->i<b.size->j<na->j<a.size->K a j<=K b i):Hi a b (out++(b.extract k nb).reverse) na k:=by
 unfold Hi at h ⊢
 rw [SJ (a:=b) hk] at h
 rw [uN,Mq,Cz]
 refine Mh.af3 (out:=out.toList.reverse) (by rw [ac2];exact h) fun x hx' y hy=>?_
 obtain ⟨i,g1,g2,g3,g4⟩:=wZ (Gp.mp hx')
 obtain ⟨j,h1,h2,h3⟩:=nF hy
 rw [g4,h3];exact hx i j g1 g2 g3 h1 h2
theorem Am (a:Array Keyed) (i:Nat):(a.extract 0 i).toList=a.toList.take i:=by
 rw [Cy,Kz];rfl
theorem Hi.done {a b out:Array Keyed} {na nb:Nat} (h:Hi a b out na nb) (hx:∀ i j,i<na->i<a.size->j<nb->j<b.size->K a i<=K b j):gQ a.toList b.toList (a.extract 0 na++b.extract 0 nb++out.reverse).toList:=by
 rw [uN,uN,Am,Am,Cz]
 exact Mh.af4 h fun x hx' y hy=>by
  obtain ⟨i,g1,g2,g3⟩:=nF hx'
  obtain ⟨j,h1,h2,h3⟩:=nF hy
  rw [g3,h3];exact hx i j g1 g2 h1 h2
theorem Hi.first {a b out:Array Keyed} {na nb:Nat} (h:Hi a b out na nb) (hx:∀ i j,i<nb->i<b.size->j<na->j<a.size->K b i<=K a j):gQ a.toList b.toList (b.extract 0 nb++a.extract 0 na++out.reverse).toList:=by
 rw [uN,uN,Am,Am,Cz]
 exact Mh.af5 h fun x hx' y hy=>by
  obtain ⟨i,g1,g2,g3⟩:=nF hx'
  obtain ⟨j,h1,h2,h3⟩:=nF hy
  rw [g3,h3];exact hx i j g1 g2 h1 h2
theorem PL {a:Array Keyed} (h:Srt a 0 a.size):Asc a.toList:=by
 refine Uu.mpr fun i j hi hj hij=>?_
 rw [Io hi,Io hj]
 exact h i j (bZ _) (pL hij) (by rw [<- gU];exact hj)
theorem Lo.start {a b:Array Keyed} (ha:Srt a 0 a.size) (hb:Srt b 0 b.size):Lo a b #[] 0 0 :=
 ⟨aeS _,List.Pairwise.nil,PL ha,PL hb,fun _ h=>(nomatch h)⟩
theorem Hi.start {a b:Array Keyed} (ha:Srt a 0 a.size) (hb:Srt b 0 b.size):Hi a b #[] a.size b.size:=by
 have e1:a.toList.take a.size=a.toList:=Bv (by rw [gU];exact cJ _)
 have e2:b.toList.take b.size=b.toList:=Bv (by rw [gU];exact cJ _)
 unfold Hi
 rw [e1,e2]
 exact ⟨by simp,List.Pairwise.nil,PL ha,PL hb,fun _ _ _ h=>(nomatch h)⟩
end
end Tm
namespace Tm
open PySem PyProof.Rows
section
variable [Rk]
noncomputable def mlo:Array Keyed->Array Keyed->StateT SortSt Sem (Array Keyed):=sortPriv% PySem.Builtin.mergeLo
section
variable {prog:aV} {w:World} {A:bJ} {E:Value->Shared->Prop} {s:Shared}
theorem cD {α:Type} {c:Prop} [Decidable c] {x y:StateT SortSt Sem α} {Q:α->SortSt->Prop} {st:SortSt} (hc:c) (h:wpS (model prog w) A E s x Q st):wpS (model prog w) A E s (if c then x else y) Q st:=by rw [if_pos hc];exact h
theorem bY {α:Type} {c:Prop} [Decidable c] {x y:StateT SortSt Sem α} {Q:α->SortSt->Prop} {st:SortSt} (hc:¬ c) (h:wpS (model prog w) A E s y Q st):wpS (model prog w) A E s (if c then x else y) Q st:=by rw [if_neg hc];exact h
end
section
variable {prog:aV} {w:World} {A:bJ} {E:Value->Shared->Prop} {s:Shared} [Rl prog w A E s]
noncomputable abbrev setG (st:SortSt) (g:Nat):SortSt:=tW (kindOf st) (arrOf st) (dX st) g (nT st)
noncomputable def Ao:Nat->StateT SortSt Sem Unit:=sortPriv% PySem.Builtin.setMinGallop
theorem ud (g:Nat):Ao g=modify fun s=>setG s g:=rfl
theorem xg {α:Type} {x:StateT SortSt Sem α} {Q:α->SortSt->Prop} {st:SortSt} (h:∀ Q':α->SortSt->Prop,(∀ r u,Q r u->Q' r u)->wpS (model prog w) A E s x Q' st):wpS (model prog w) A E s x Q st:=h Q fun _ _ z=>z
theorem ah8 {a b:Array Keyed} {st:SortSt} {Q:Array Keyed->SortSt->Prop} (hk:kindOf st=kd0) (ka:IntKeys a) (kb:IntKeys b) (sa:Srt a 0 a.size) (sb:Srt b 0 b.size) (na:1<=a.size) (nb:1<=b.size)
  (hF:∀ i,i<a.size->K b 0<=K a i) (hL:∀ j,j<b.size->K b j<=K a (a.size-1)) (h:∀ out g,gQ a.toList b.toList out.toList->Q out (setG st g)) :
  wpS (model prog w) A E s (mlo a b) Q st:=by
 refine aU (vH (tR ⟨rfl,?_⟩))
 k_dat (total,htot) "b"
 k_dat (done,hdone) "b"
 k_dat (lastOfA,ajv) "b"
 have ea:∀ i,i<a.size->∃ (t:Keyed) (_:Is t (K a i)),a[i]? = some t:=fun i hi=>zq ka hi
 have eb:∀ i,i<b.size->∃ (t:Keyed) (_:Is t (K b i)),b[i]? = some t:=fun i hi=>zq kb hi
 have vZ:∀ out ia ib,Lo a b out ia ib->(b.size<=ib\/a.size<=ia)->gQ a.toList b.toList (done out ia ib).toList:=fun out ia ib hl hc=>by
  rw [hdone];exact hl.done fun i j h1 h2 h3 h4=>by lia
 have aaP:∀ out ia ib,Lo a b out ia ib->ia+1=a.size->gQ a.toList b.toList (lastOfA out ia ib).toList:=fun out ia ib hl hc=>by
  rw [ajv];exact hl.last fun i j h1 h2 h3 h4=>by
   have:j=a.size-1:=by lia
   subst this;exact hL i h2
 clear hdone ajv
 obtain ⟨t0,q0,e0⟩:=eb 0 nb
 refine aU (dM e0 ?_)
 k_dat (Zr,SM) "b"
 k_dat (ia0,hia0) "b"
 k_dat (ib0,hib0) "b"
 have hLo:Lo a b Zr ia0 ib0:=by
  subst SM hia0 hib0
  exact (Lo.start sa sb).b e0 fun j _ hj=>hF j hj
 by_cases c1:ib0=b.size
 ·k_dat (cD,c1) "g"
  exact aY (h _ (vI st) (vZ _ _ _ hLo (.inl tb_g%)))
 k_dat (bY,c1) "g"
 by_cases c2:ia0+1=a.size
 ·k_dat (cD,c2) "g"
  exact aY (h _ (vI st) (aaP _ _ _ hLo c2))
 k_dat (bY,c2) "g"
 have ba0:ia0+1<a.size:=by lia
 have bb0:ib0<b.size:=by lia
 clear SM hia0 hib0 c1 c2
 refine aU (pO ?_)
 k_dat (mg0,hmg0) "b"
 clear hmg0
 refine aU (gF (mC (I:=fun x c st'=>(∃ g,st'=setG st g)/\∃ out ia ib mg,c=(none,out,ia,ib,mg)/\Lo a b out ia ib/\ia+1<a.size/\ib<b.size/\x<=ia+ib)
  (Q:=fun c st'=>(∃ g,st'=setG st g)/\∃ r c',c=(some r,c')/\gQ a.toList b.toList r.toList) ?_ ?_ ⟨⟨vI st,rfl⟩,Zr,ia0,ib0,mg0,rfl,hLo,ba0,bb0,by lia⟩) ?_)
 ·rintro x c st' _ hx ⟨⟨g,rfl⟩,out,ia,ib,mg,rfl,hl,ba,bb,hp⟩
  refine xg fun Q0 hQ0=>?_
  walk_at "i"
  walk_at "c"
  refine aU (gF (mC (I:=fun y c st'=>st'=setG st g/\∃ out' ia' ib' ac bc,c=(none,out',ia',ib',ac,bc)/\Lo a b out' ia' ib'/\ia'+1<a.size/\ib'<b.size/\y+(ia+ib)<=ia'+ib')
   (Q:=fun c st'=>st'=setG st g/\((∃ r c',c=(some r,c')/\gQ a.toList b.toList r.toList)\/∃ out' ia' ib' ac bc,c=(none,out',ia',ib',ac,bc)/\Lo a b out' ia' ib'/\ia'+1<a.size/\ib'<b.size/\ia+ib+1<=ia'+ib')) ?_ ?_ ⟨rfl,out,ia,ib,0,0,rfl,hl,ba,bb,by lia⟩) ?_)
  ·rintro y c st' _ hy ⟨rfl,out,ia,ib,ac,bc,rfl,hl,ba,bb,hp'⟩
   refine xg fun Q1 hQ1=>?_
   have hM:=fun r c' m=>hQ1 (.done (some r,c')) (setG st g) ⟨rfl,.inl ⟨r,c',rfl,m⟩⟩
   have hN:=fun o i j ac bc h1 h2 h3 h4=>hQ1 (.done (none,o,i,j,ac,bc)) (setG st g) ⟨rfl,.inr ⟨o,i,j,ac,bc,rfl,h1,h2,h3,h4⟩⟩
   have hY:=fun o i j ac bc h1 h2 h3 h4=>hQ1 (.yield (none,o,i,j,ac,bc)) (setG st g) ⟨rfl,o,i,j,ac,bc,rfl,h1,h2,h3,h4⟩
   clear hQ1
   walk_at "i"
   walk_at "c"
   obtain ⟨t1,q1,e1⟩:=eb ib bb
   obtain ⟨t2,q2,e2⟩:=ea ia tb_g%
   refine aU (dM e1 ?_)
   refine aU (dM e2 ?_)
   refine aU (Im hk ?_)
   walk_at "c"
   by_cases hw:K b ib<K a ia
   ·refine cD (decide_eq_true hw) ?_
    refine aU (dM e1 ?_)
    iterate 4 (extract_lets +onlyGivenNames -underBinder -merge zz;subst zz)
    walk_at "c"
    have hl':=hl.b e1 fun j h1 h2=>jH (pQ hw) (sa ia j (bZ _) h1 h2)
    by_cases c1:ib+1=b.size
    ·k_dat (cD,c1) "g"
     exact aY (hM _ _ (vZ _ _ _ hl' (.inl tb_g%)))
    k_dat (bY,c1) "g"
    by_cases c2:bc+1>=mg
    ·refine cD c2 ?_
     exact aY (hN _ _ _ _ _ hl' ba tb_g% tb_g%)
    ·refine bY c2 ?_
     exact aY (hY _ _ _ _ _ hl' ba tb_g% tb_g%)
   ·k_dat (bY,hw) "g"
    refine aU (dM e2 ?_)
    iterate 4 (extract_lets +onlyGivenNames -underBinder -merge zz;subst zz)
    walk_at "c"
    have hl':=hl.a e2 fun j h1 h2=>jH (lU.mp hw) (sb ib j (bZ _) h1 h2)
    by_cases c1:ia+1+1=a.size
    ·k_dat (cD,c1) "g"
     exact aY (hM _ _ (aaP _ _ _ hl' c1))
    k_dat (bY,c1) "g"
    by_cases c2:ac+1>=mg
    ·refine cD c2 ?_
     exact aY (hN _ _ _ _ _ hl' tb_g% bb tb_g%)
    ·refine bY c2 ?_
     exact aY (hY _ _ _ _ _ hl' tb_g% bb tb_g%)
  ·rintro c st' ⟨rfl,out,ia,ib,ac,bc,rfl,hl,ba,bb,hp'⟩
   lia
  rintro c st' ⟨rfl,(⟨r,c',rfl,hm⟩ | ⟨out1,ia1,ib1,ac,bc,rfl,hl1,ba1,bb1,hp1⟩)⟩
  ·iterate 10 (extract_lets +onlyGivenNames -underBinder -merge zz;subst zz)
   walk_at "c"
   walk_at "c"
   exact aY (hQ0 _ _ ⟨⟨g,rfl⟩,r,_,rfl,hm⟩)
  iterate 10 (extract_lets +onlyGivenNames -underBinder -merge zz;subst zz)
  walk_at "c"
  walk_at "c"
  refine aU (vH (tR ⟨rfl,?_⟩))
  walk_at "d"
  walk_at "c"
  refine aU (gF (mC (I:=fun y c st'=>(∃ g,st'=setG st g)/\∃ out' ia' ib' mg ac bc,c=(none,out',ia',ib',mg,ac,bc)/\Lo a b out' ia' ib'/\ia'+1<a.size/\ib'<b.size/\y+(ia1+ib1)<=ia'+ib')
   (Q:=fun c st'=>(∃ g,st'=setG st g)/\((∃ r c',c=(some r,c')/\gQ a.toList b.toList r.toList)\/∃ out' ia' ib' mg ac bc,c=(none,out',ia',ib',mg,ac,bc)/\Lo a b out' ia' ib'/\ia'+1<a.size/\ib'<b.size/\ia1+ib1<=ia'+ib')) ?_ ?_ ⟨⟨g,rfl⟩,out1,ia1,ib1,_,ac,bc,rfl,hl1,ba1,bb1,by lia⟩) ?_)
  ·rintro y c st' _ hy ⟨⟨g,rfl⟩,out,ia,ib,mg,ac,bc,rfl,hl,ba,bb,hp'⟩
   refine xg fun Q2 hQ2=>?_
   have hM:=fun g r c' m=>hQ2 (.done (some r,c')) (setG st g) ⟨⟨g,rfl⟩,.inl ⟨r,c',rfl,m⟩⟩
   have hN:=fun g o i j mg ac bc h1 h2 h3 h4=>hQ2 (.done (none,o,i,j,mg,ac,bc)) (setG st g) ⟨⟨g,rfl⟩,.inr ⟨o,i,j,mg,ac,bc,rfl,h1,h2,h3,h4⟩⟩
   have hY:=fun g o i j mg ac bc h1 h2 h3 h4=>hQ2 (.yield (none,o,i,j,mg,ac,bc)) (setG st g) ⟨⟨g,rfl⟩,o,i,j,mg,ac,bc,rfl,h1,h2,h3,h4⟩
   clear hQ2
   iterate 11 (extract_lets +onlyGivenNames -underBinder -merge zz;subst zz)
   walk_at "c"
   k_dat (jp,hjp) "b"
   have key:∀ u mg,wpS (model prog w) A E s (jp u mg) Q2 (setG st g):=by
    intro u mg
    rw [hjp]
    clear hjp jp
    refine aU ?_
    show wpS _ _ _ _ (Ao mg) _ _
    rw [ud]
    refine nR ?_
    show wpS _ _ _ _ _ _ (setG st mg)
    obtain ⟨t1,q1,e1⟩:=eb ib bb
    refine aU (dM e1 ?_)
    refine aU (mK (st:=setG st mg) hk (fun i h1 h2=>?_) tb_g% (fun i j h1 h2 h3=>?_) fun k hk1 hk2 hk3=>?_)
    ·exact ea i tb_g%
    ·simp only [bey,uO,if_false,yS,decide_eq_false_iff_not,lU] at h3 ⊢
     exact jH (sa _ _ (bZ _) tb_g% tb_g%) h3
    simp only [bey,uO,if_false,yS,Wm,decide_eq_true_eq,decide_eq_false_iff_not,lU] at hk2 hk3
    walk_at "c"
    walk_at "d"
    walk_at "c"
    k_dat (jp2,Ey) "b"
    have key2:∀ u out ia',Lo a b out ia' ib->ia'+1<a.size->ia<=ia'->(∀ j,ia'<=j->j<a.size->K b ib<=K a j)->wpS (model prog w) A E s (jp2 u out ia') Q2 (setG st mg):=by
     intro u out ia' hl ba' hle hge
     rw [Ey]
     clear Ey jp2
     refine aU (dM e1 ?_)
     walk_at "h"
     walk_at "c"
     have hl':=hl.b e1 hge
     by_cases c1:ib+1=b.size
     ·k_dat (cD,c1) "g"
      exact aY (hM mg _ _ (vZ _ _ _ hl' (.inl tb_g%)))
     k_dat (bY,c1) "g"
     obtain ⟨t2,q2,e2⟩:=ea ia' tb_g%
     refine aU (dM e2 ?_)
     refine aU (mK (st:=setG st mg) hk (fun i h1 h2=>?_) tb_g% (fun i j h1 h2 h3=>?_) fun k hk1 hk2 hk3=>?_)
     ·exact eb i tb_g%
     ·simp only [bey,if_true,decide_eq_true_eq] at h3 ⊢
      exact Wr (sb _ _ (bZ _) tb_g% tb_g%) h3
     simp only [bey,if_true,decide_eq_true_eq,decide_eq_false_iff_not,lU] at hk2 hk3
     walk_at "c"
     walk_at "d"
     walk_at "c"
     k_dat (jp3,Zt) "b"
     have af6:∀ u out ib',Lo a b out ia' ib'->ib'<b.size->ib+1<=ib'->(∀ j,ib'<=j->j<b.size->K a ia'<=K b j)->wpS (model prog w) A E s (jp3 u out ib') Q2 (setG st mg):=by
      intro u out ib' hl bb' hle' hge'
      rw [Zt]
      clear Zt jp3
      refine aU (dM e2 ?_)
      walk_at "h"
      walk_at "c"
      have hl':=hl.a e2 hge'
      by_cases c1:ia'+1+1=a.size
      ·k_dat (cD,c1) "g"
       exact aY (hM mg _ _ (aaP _ _ _ hl' c1))
      k_dat (bY,c1) "g"
      split
      ·exact aY (hN mg _ _ _ _ _ _ hl' tb_g% tb_g% tb_g%)
      ·exact aY (hY mg _ _ _ _ _ _ hl' tb_g% tb_g% tb_g%)
     clear Zt
     by_cases hk0:k>0
     ·refine cD hk0 ?_
      walk_at "h"
      walk_at "c"
      have hl2:=hl'.bs (k:=k) fun i j h1 h2 h3 h4 h5=>by
       have:=hk2 (i-(ib+1)) tb_g%
       rw [show ib+1+(i-(ib+1))=i by lia] at this
       exact jH (pQ this) (sa _ _ (bZ _) h4 h5)
      by_cases c2:ib+1+k=b.size
      ·k_dat (cD,c2) "g"
       exact aY (hM mg _ _ (vZ _ _ _ hl2 (.inl tb_g%)))
      k_dat (bY,c2) "g"
      refine af6 _ _ _ hl2 tb_g% tb_g% fun j h1 h2=>?_
      have:=hk3 (j-(ib+1)) tb_g% tb_g%
      rw [show ib+1+(j-(ib+1))=j by lia] at this
      exact this
     ·refine bY hk0 ?_
      refine af6 _ _ _ hl' tb_g% tb_g% fun j h1 h2=>?_
      have:=hk3 (j-(ib+1)) tb_g% tb_g%
      rw [show ib+1+(j-(ib+1))=j by lia] at this
      exact this
    clear Ey
    by_cases hk0:k>0
    ·refine cD hk0 ?_
     walk_at "h"
     walk_at "c"
     have hl2:=hl.as (k:=k) fun i j h1 h2 h3 h4 h5=>by
      have:=hk2 (i-ia) tb_g%
      rw [show ia+(i-ia)=i by lia] at this
      exact jH this (sb _ _ (bZ _) h4 h5)
     by_cases c2:ia+k+1=a.size
     ·k_dat (cD,c2) "g"
      exact aY (hM mg _ _ (aaP _ _ _ hl2 c2))
     k_dat (bY,c2) "g"
     by_cases c3:ia+k=a.size
     ·k_dat (cD,c3) "g"
      exact aY (hM mg _ _ (vZ _ _ _ hl2 (.inr tb_g%)))
     k_dat (bY,c3) "g"
     refine key2 _ _ _ hl2 tb_g% tb_g% fun j h1 h2=>?_
     have:=hk3 (j-ia) tb_g% tb_g%
     rw [show ia+(j-ia)=j by lia] at this
     exact pQ this
    ·refine bY hk0 ?_
     refine key2 _ _ _ hl tb_g% tb_g% fun j h1 h2=>?_
     have:=hk3 (j-ia) tb_g% tb_g%
     rw [show ia+(j-ia)=j by lia] at this
     exact pQ this
   clear hjp
   split
   ·walk_at "d"
    walk_at "c"
    exact key _ _
   ·exact key _ _
  ·rintro c st' ⟨_,out,ia,ib,mg,ac,bc,rfl,hl,ba,bb,hp'⟩
   lia
  rintro c st' ⟨⟨g,rfl⟩,(⟨r,c',rfl,hm⟩ | ⟨out2,ia2,ib2,mg2,ac,bc,rfl,hl2,ba2,bb2,hp2⟩)⟩
  ·walk_at "i"
   walk_at "c"
   walk_at "c"
   exact aY (hQ0 _ _ ⟨⟨g,rfl⟩,r,_,rfl,hm⟩)
  walk_at "i"
  walk_at "c"
  walk_at "c"
  walk_at "d"
  walk_at "c"
  refine aU ?_
  show wpS _ _ _ _ (Ao _) _ _
  rw [ud]
  refine nR (aY (hQ0 _ _ ⟨⟨_,rfl⟩,_,_,_,_,rfl,hl2,ba2,bb2,by lia⟩))
 ·rintro c st' ⟨_,out,ia,ib,mg,rfl,hl,ba,bb,hp⟩
  lia
 ·rintro c st' ⟨⟨g,rfl⟩,r,c',rfl,hm⟩
  walk_at "d"
  walk_at "c"
  walk_at "c"
  exact aY (h _ _ hm)
end
end
end Tm
namespace Tm
open PySem PyProof.Rows
section
variable [Rk]
noncomputable def mhi:Array Keyed->Array Keyed->StateT SortSt Sem (Array Keyed):=sortPriv% PySem.Builtin.mergeHi
section
variable {prog:aV} {w:World} {A:bJ} {E:Value->Shared->Prop} {s:Shared} [Rl prog w A E s]
theorem Hi.a' {a b out:Array Keyed} {na nb:Nat} {x:Keyed} (h:Hi a b out na nb) (h0:0<na) (e:a[na-1]? = some x) (hx:∀ j,j<nb->j<b.size->K b j<=K a (na-1)):Hi a b (out.push x) (na-1) nb:=by
 refine Hi.a ?_ e hx
 rw [show na-1+1=na by lia];exact h
theorem Hi.b' {a b out:Array Keyed} {na nb:Nat} {x:Keyed} (h:Hi a b out na nb) (h0:0<nb) (e:b[nb-1]? = some x) (hx:∀ j,j<na->j<a.size->K a j<=K b (nb-1)):Hi a b (out.push x) na (nb-1):=by
 refine Hi.b ?_ e hx
 rw [show nb-1+1=nb by lia];exact h
theorem ah9 {a b:Array Keyed} {st:SortSt} {Q:Array Keyed->SortSt->Prop} (hk:kindOf st=kd0) (ka:IntKeys a) (kb:IntKeys b) (sa:Srt a 0 a.size) (sb:Srt b 0 b.size) (na:1<=a.size) (nb:1<=b.size)
  (hF:∀ i,i<a.size->K b 0<=K a i) (hL:∀ j,j<b.size->K b j<=K a (a.size-1)) (h:∀ out g,gQ a.toList b.toList out.toList->Q out (setG st g)) :
  wpS (model prog w) A E s (mhi a b) Q st:=by
 refine aU (vH (tR ⟨rfl,?_⟩))
 k_dat (total,htot) "b"
 k_dat (done,hdone) "b"
 k_dat (firstOfB,hfirst) "b"
 have ea:∀ i,i<a.size->∃ (t:Keyed) (_:Is t (K a i)),a[i]? = some t:=fun i hi=>zq ka hi
 have eb:∀ i,i<b.size->∃ (t:Keyed) (_:Is t (K b i)),b[i]? = some t:=fun i hi=>zq kb hi
 have vZ:∀ out na nb,Hi a b out na nb->(na=0\/nb=0)->gQ a.toList b.toList (done out na nb).toList:=fun out na nb hl hc=>by
  rw [hdone];exact hl.done fun i j h1 h2 h3 h4=>by lia
 have PN:∀ out na nb,Hi a b out na nb->nb=1->gQ a.toList b.toList (firstOfB out na nb).toList:=fun out na nb hl hc=>by
  rw [hfirst];exact hl.first fun i j h1 h2 h3 h4=>by
   have:i=0:=by lia
   subst this;exact hF j h4
 clear hdone hfirst
 k_dat (na0,hna0) "b"
 k_dat (nb0,hnb0) "b"
 obtain ⟨t0,q0,e0⟩:=ea na0 tb_g%
 refine aU (dM e0 ?_)
 k_dat (Zr,SM) "b"
 have hHi:Hi a b Zr na0 nb0:=by
  subst SM hnb0 hna0
  exact (Hi.start sa sb).a' tb_g% e0 fun j _ hj=>hL j hj
 by_cases c1:na0=0
 ·k_dat (cD,c1) "g"
  exact aY (h _ (vI st) (vZ _ _ _ hHi (.inl c1)))
 k_dat (bY,c1) "g"
 by_cases c2:nb0=1
 ·k_dat (cD,c2) "g"
  exact aY (h _ (vI st) (PN _ _ _ hHi c2))
 k_dat (bY,c2) "g"
 have ba0:0<na0:=by lia
 have bb0:1<nb0:=by lia
 have la0:na0<=a.size:=by lia
 have lb0:nb0<=b.size:=by lia
 clear SM hna0 hnb0 c1 c2
 refine aU (pO ?_)
 k_dat (mg0,hmg0) "b"
 clear hmg0
 refine aU (gF (mC (a:=0) (b:=total) (I:=fun x c st'=>(∃ g,st'=setG st g)/\∃ (out:Array Keyed) (na nb mg:Nat),c=(none,na,nb,out,mg)/\Hi a b out na nb/\(0<na/\na<=a.size)/\(1<nb/\nb<=b.size)/\x+na+nb<=total)
  (Q:=fun c st'=>(∃ g,st'=setG st g)/\∃ (r:Array Keyed) (c':_),c=(some r,c')/\gQ a.toList b.toList r.toList) ?_ ?_ ⟨⟨vI st,rfl⟩,Zr,na0,nb0,mg0,rfl,hHi,⟨ba0,la0⟩,⟨bb0,lb0⟩,by lia⟩) ?_)
 ·rintro x c st' _ hx ⟨⟨g,rfl⟩,out,na,nb,mg,rfl,hl,ba,bb,hp⟩
  refine xg fun Q0 hQ0=>?_
  walk_at "i"
  walk_at "c"
  refine aU (gF (mC (a:=0) (b:=total) (I:=fun y c st'=>st'=setG st g/\∃ out' na' nb' ac bc,c=(none,na',nb',out',ac,bc)/\Hi a b out' na' nb'/\(0<na'/\na'<=a.size)/\(1<nb'/\nb'<=b.size)/\y+na'+nb'<=na+nb)
   (Q:=fun c st'=>st'=setG st g/\((∃ (r:Array Keyed) (c':_),c=(some r,c')/\gQ a.toList b.toList r.toList)\/∃ out' na' nb' ac bc,c=(none,na',nb',out',ac,bc)/\Hi a b out' na' nb'/\(0<na'/\na'<=a.size)/\(1<nb'/\nb'<=b.size)/\na'+nb'+1<=na+nb)) ?_ ?_ ⟨rfl,out,na,nb,0,0,rfl,hl,ba,bb,by lia⟩) ?_)
  ·rintro y c st' _ hy ⟨rfl,out,na,nb,ac,bc,rfl,hl,ba,bb,hp'⟩
   refine xg fun Q1 hQ1=>?_
   have hM:=fun r c' m=>hQ1 (.done (some r,c')) (setG st g) ⟨rfl,.inl ⟨r,c',rfl,m⟩⟩
   have hN:=fun o i j ac bc h1 h2 h3 h4=>hQ1 (.done (none,i,j,o,ac,bc)) (setG st g) ⟨rfl,.inr ⟨o,i,j,ac,bc,rfl,h1,h2,h3,h4⟩⟩
   have hY:=fun o i j ac bc h1 h2 h3 h4=>hQ1 (.yield (none,i,j,o,ac,bc)) (setG st g) ⟨rfl,o,i,j,ac,bc,rfl,h1,h2,h3,h4⟩
   clear hQ1
   walk_at "i"
   walk_at "c"
   obtain ⟨t1,q1,e1⟩:=eb (nb-1) tb_g%
   obtain ⟨t2,q2,e2⟩:=ea (na-1) tb_g%
   refine aU (dM e1 ?_)
   refine aU (dM e2 ?_)
   refine aU (Im hk ?_)
   walk_at "c"
   by_cases hw:K b (nb-1)<K a (na-1)
   ·refine cD (decide_eq_true hw) ?_
    walk_at "d"
    walk_at "c"
    refine aU (dM e2 ?_)
    iterate 3 (extract_lets +onlyGivenNames -underBinder -merge zz;subst zz)
    walk_at "c"
    have hl':=hl.a' ba.1 e2 fun j h1 h2=>jH (sb j (nb-1) (bZ _) tb_g% tb_g%) (pQ hw)
    by_cases c1:na-1=0
    ·k_dat (cD,c1) "g"
     exact aY (hM _ _ (vZ _ _ _ hl' (.inl c1)))
    k_dat (bY,c1) "g"
    by_cases c2:ac+1>=mg
    ·refine cD c2 ?_
     exact aY (hN _ _ _ _ _ hl' tb_g% bb tb_g%)
    ·refine bY c2 ?_
     exact aY (hY _ _ _ _ _ hl' tb_g% bb tb_g%)
   ·k_dat (bY,hw) "g"
    walk_at "d"
    walk_at "c"
    refine aU (dM e1 ?_)
    iterate 3 (extract_lets +onlyGivenNames -underBinder -merge zz;subst zz)
    walk_at "c"
    have hl':=hl.b' tb_g% e1 fun j h1 h2=>jH (sa j (na-1) (bZ _) tb_g% tb_g%) (lU.mp hw)
    by_cases c1:nb-1=1
    ·k_dat (cD,c1) "g"
     exact aY (hM _ _ (PN _ _ _ hl' c1))
    k_dat (bY,c1) "g"
    by_cases c2:bc+1>=mg
    ·refine cD c2 ?_
     exact aY (hN _ _ _ _ _ hl' ba tb_g% tb_g%)
    ·refine bY c2 ?_
     exact aY (hY _ _ _ _ _ hl' ba tb_g% tb_g%)
  ·rintro c st' ⟨rfl,out,na,nb,ac,bc,rfl,hl,ba,bb,hp'⟩
   lia
  rintro c st' ⟨rfl,(⟨r,c',rfl,hm⟩ | ⟨out1,na1,nb1,ac,bc,rfl,hl1,ba1,bb1,hp1⟩)⟩
  ·iterate 10 (extract_lets +onlyGivenNames -underBinder -merge zz;subst zz)
   walk_at "c"
   walk_at "c"
   exact aY (hQ0 _ _ ⟨⟨g,rfl⟩,r,_,rfl,hm⟩)
  iterate 10 (extract_lets +onlyGivenNames -underBinder -merge zz;subst zz)
  walk_at "c"
  walk_at "c"
  refine aU (vH (tR ⟨rfl,?_⟩))
  walk_at "d"
  walk_at "c"
  refine aU (gF (mC (a:=0) (b:=total) (I:=fun y c st'=>(∃ g,st'=setG st g)/\∃ out' na' nb' mg ac bc,c=(none,na',nb',out',mg,ac,bc)/\Hi a b out' na' nb'/\(0<na'/\na'<=a.size)/\(1<nb'/\nb'<=b.size)/\y+na'+nb'<=na1+nb1)
   (Q:=fun c st'=>(∃ g,st'=setG st g)/\((∃ (r:Array Keyed) (c':_),c=(some r,c')/\gQ a.toList b.toList r.toList)\/∃ out' na' nb' mg ac bc,c=(none,na',nb',out',mg,ac,bc)/\Hi a b out' na' nb'/\(0<na'/\na'<=a.size)/\(1<nb'/\nb'<=b.size)/\na'+nb'<=na1+nb1)) ?_ ?_ ⟨⟨g,rfl⟩,out1,na1,nb1,_,ac,bc,rfl,hl1,ba1,bb1,by lia⟩) ?_)
  ·rintro y c st' _ hy ⟨⟨g,rfl⟩,out,na,nb,mg,ac,bc,rfl,hl,ba,bb,hp'⟩
   refine xg fun Q2 hQ2=>?_
   have hM:=fun g r c' m=>hQ2 (.done (some r,c')) (setG st g) ⟨⟨g,rfl⟩,.inl ⟨r,c',rfl,m⟩⟩
   have hN:=fun g o i j mg ac bc h1 h2 h3 h4=>hQ2 (.done (none,i,j,o,mg,ac,bc)) (setG st g) ⟨⟨g,rfl⟩,.inr ⟨o,i,j,mg,ac,bc,rfl,h1,h2,h3,h4⟩⟩
   have hY:=fun g o i j mg ac bc h1 h2 h3 h4=>hQ2 (.yield (none,i,j,o,mg,ac,bc)) (setG st g) ⟨⟨g,rfl⟩,o,i,j,mg,ac,bc,rfl,h1,h2,h3,h4⟩
   clear hQ2
   iterate 11 (extract_lets +onlyGivenNames -underBinder -merge zz;subst zz)
   walk_at "c"
   k_dat (jp,hjp) "b"
   have key:∀ u mg,wpS (model prog w) A E s (jp u mg) Q2 (setG st g):=by
    intro u mg
    rw [hjp]
    clear hjp jp
    refine aU ?_
    show wpS _ _ _ _ (Ao mg) _ _
    rw [ud]
    refine nR ?_
    show wpS _ _ _ _ _ _ (setG st mg)
    obtain ⟨t1,q1,e1⟩:=eb (nb-1) tb_g%
    refine aU (dM e1 ?_)
    refine aU (mK (st:=setG st mg) hk (fun i h1 h2=>?_) tb_g% (fun i j h1 h2 h3=>?_) fun k hk1 hk2 hk3=>?_)
    ·exact ea i tb_g%
    ·simp only [bey,uO,if_false,yS,decide_eq_false_iff_not,lU] at h3 ⊢
     exact jH (sa _ _ (bZ _) tb_g% tb_g%) h3
    simp only [bey,uO,if_false,yS,Wm,decide_eq_true_eq,decide_eq_false_iff_not,lU,Cu] at hk2 hk3
    walk_at "c"
    walk_at "h"
    walk_at "c"
    k_dat (jp2,Ey) "b"
    have key2:∀ u out na',Hi a b out na' nb->0<na'->na'<=na->(∀ j,j<na'->j<a.size->K a j<=K b (nb-1))->wpS (model prog w) A E s (jp2 u na' out) Q2 (setG st mg):=by
     intro u out na' hl ba' hle hge
     rw [Ey]
     clear Ey jp2
     dsimp (config:={ zeta:=false }) only
     walk_at "d"
     walk_at "c"
     refine aU (dM e1 ?_)
     walk_at "d"
     walk_at "c"
     have hl':=hl.b' tb_g% e1 hge
     by_cases c1:nb-1=1
     ·k_dat (cD,c1) "g"
      exact aY (hM mg _ _ (PN _ _ _ hl' c1))
     k_dat (bY,c1) "g"
     obtain ⟨t2,q2,e2⟩:=ea (na'-1) tb_g%
     refine aU (dM e2 ?_)
     refine aU (mK (st:=setG st mg) hk (fun i h1 h2=>?_) tb_g% (fun i j h1 h2 h3=>?_) fun k hk1 hk2 hk3=>?_)
     ·exact eb i tb_g%
     ·simp only [bey,if_true,decide_eq_true_eq] at h3 ⊢
      exact Wr (sb _ _ (bZ _) tb_g% tb_g%) h3
     simp only [bey,if_true,decide_eq_true_eq,decide_eq_false_iff_not,lU,Cu] at hk2 hk3
     walk_at "c"
     walk_at "h"
     walk_at "c"
     k_dat (jp3,Zt) "b"
     have af6:∀ u out nb',Hi a b out na' nb'->1<nb'->nb'+1<=nb->(∀ j,j<nb'->j<b.size->K b j<=K a (na'-1))->wpS (model prog w) A E s (jp3 u nb' out) Q2 (setG st mg):=by
      intro u out nb' hl bb' hle' hge'
      rw [Zt]
      clear Zt jp3
      dsimp (config:={ zeta:=false }) only
      walk_at "d"
      walk_at "c"
      refine aU (dM e2 ?_)
      walk_at "d"
      walk_at "c"
      have hl':=hl.a' ba' e2 hge'
      by_cases c1:na'-1=0
      ·k_dat (cD,c1) "g"
       exact aY (hM mg _ _ (vZ _ _ _ hl' (.inl c1)))
      k_dat (bY,c1) "g"
      split
      ·exact aY (hN mg _ _ _ _ _ _ hl' tb_g% tb_g% tb_g%)
      ·exact aY (hY mg _ _ _ _ _ _ hl' tb_g% tb_g% tb_g%)
     clear Zt
     by_cases hk0:nb-1-k>0
     ·refine cD hk0 ?_
      walk_at "h"
      walk_at "c"
      have hl2:=hl'.bs (k:=k) tb_g% fun i j h1 h2 h3 h4 h5 =>
       jH (sa j (na'-1) (bZ _) tb_g% tb_g%) (hk3 i h1 h2)
      by_cases c2:k=1
      ·k_dat (cD,c2) "g"
       exact aY (hM mg _ _ (PN _ _ _ hl2 c2))
      k_dat (bY,c2) "g"
      by_cases c3:k=0
      ·k_dat (cD,c3) "g"
       exact aY (hM mg _ _ (vZ _ _ _ hl2 (.inr c3)))
      k_dat (bY,c3) "g"
      exact af6 _ _ _ hl2 tb_g% tb_g% fun j h1 h2=>pQ (hk2 j h1)
     ·refine bY hk0 ?_
      exact af6 _ _ _ hl' tb_g% tb_g% fun j h1 h2=>pQ (hk2 j tb_g%)
    clear Ey
    by_cases hk0:na-k>0
    ·refine cD hk0 ?_
     walk_at "h"
     walk_at "c"
     have hl2:=hl.as (k:=k) hk1 fun i j h1 h2 h3 h4 h5 =>
      jH (sb j (nb-1) (bZ _) tb_g% tb_g%) (pQ (hk3 i h1 h2))
     by_cases c2:k=0
     ·k_dat (cD,c2) "g"
      exact aY (hM mg _ _ (vZ _ _ _ hl2 (.inl c2)))
     k_dat (bY,c2) "g"
     exact key2 _ _ _ hl2 tb_g% hk1 fun j h1 h2=>hk2 j h1
    ·refine bY hk0 ?_
     exact key2 _ _ _ hl tb_g% tb_g% fun j h1 h2=>hk2 j tb_g%
   clear hjp
   split
   ·walk_at "d"
    walk_at "c"
    exact key _ _
   ·exact key _ _
  ·rintro c st' ⟨_,out,na,nb,mg,ac,bc,rfl,hl,ba,bb,hp'⟩
   lia
  rintro c st' ⟨⟨g,rfl⟩,(⟨r,c',rfl,hm⟩ | ⟨out2,na2,nb2,mg2,ac,bc,rfl,hl2,ba2,bb2,hp2⟩)⟩
  ·walk_at "i"
   walk_at "c"
   walk_at "c"
   exact aY (hQ0 _ _ ⟨⟨g,rfl⟩,r,_,rfl,hm⟩)
  walk_at "i"
  walk_at "c"
  walk_at "c"
  walk_at "d"
  walk_at "c"
  refine aU ?_
  show wpS _ _ _ _ (Ao _) _ _
  rw [ud]
  refine nR (aY (hQ0 _ _ ⟨⟨_,rfl⟩,_,_,_,_,rfl,hl2,ba2,bb2,by lia⟩))
 ·rintro c st' ⟨_,out,na,nb,mg,rfl,hl,ba,bb,hp⟩
  lia
 ·rintro c st' ⟨⟨g,rfl⟩,r,c',rfl,hm⟩
  walk_at "d"
  walk_at "c"
  walk_at "c"
  exact aY (h _ _ hm)
end
end
end Tm
namespace Tm
open PySem PyProof.Rows
section
variable [Rk]
theorem aaQ:∀ (l:List Keyed) (n p:Nat) (arr:Array Keyed),p+n+l.length<=arr.size ->
  ((l.zipIdx n).foldl (fun a (x:Keyed × Nat)=>a.setIfInBounds (p+x.2) x.1) arr).size=arr.size/\∀ i,((l.zipIdx n).foldl (fun a (x:Keyed × Nat)=>a.setIfInBounds (p+x.2) x.1) arr)[i]? = if p+n<=i/\i<p+n+l.length then l[i-(p+n)]? else arr[i]?
 | [],n,p,arr,h=>⟨rfl,fun i=>by rw [if_neg (by simp only [adk];lia)];rfl⟩
 | x::l,n,p,arr,h=>by
  rw [jG] at h
  have ih:=aaQ l (n+1) p (arr.setIfInBounds (p+n) x) (by rw [aeh];lia)
  rw [List.zipIdx_cons,List.foldl_cons]
  refine ⟨ih.1.trans aeh,fun i=>?_⟩
  rw [ih.2 i,jG]
  by_cases h1:p+(n+1)<=i/\i<p+(n+1)+l.length
  ·rw [if_pos h1,if_pos tb_g%,show i-(p+n)=(i-(p+(n+1)))+1 by lia,Uv]
  ·rw [if_neg h1]
   by_cases h2:i=p+n
   ·subst h2
    rw [if_pos tb_g%,V2,List.getElem?_cons_zero,Array.getElem?_setIfInBounds_self,if_pos tb_g%]
   ·rw [if_neg tb_g%,Array.getElem?_setIfInBounds_ne tb_g%]
structure Put (arr R:Array Keyed) (p r:Nat) (m:List Keyed):Prop where
 size:R.size=arr.size
 at_:∀ i,R[i]? = if p<=i/\i<r then m[i-p]? else arr[i]?
theorem Put.list {arr R:Array Keyed} {p r:Nat} {m:List Keyed} (h:Put arr R p r m) (hr:r<=arr.size) (hm:p+m.length=r):R.toList=arr.toList.take p++(m++arr.toList.drop r):=by
 have hl:arr.toList.length=arr.size:=gU
 apply List.ext_getElem?
 intro i
 rw [pP,h.at_ i]
 by_cases h1:i<p
 ·rw [if_neg tb_g%,Gi (by rw [jf];lia),List.getElem?_take,if_pos h1,pP]
 ·rw [zU (by rw [jf];lia),jf,show min p arr.toList.length=p by lia]
  by_cases h2:i<r
  ·rw [if_pos tb_g%,Gi tb_g%]
  ·rw [if_neg tb_g%,zU tb_g%,List.getElem?_drop,show r+(i-p-m.length)=i by lia,pP]
theorem K9 {arr:Array Keyed} {p q i:Nat} (hq:q<=arr.size) (hi:p+i<q):K (arr.extract p q) i=K arr (p+i):=by
 unfold K
 rw [Array.getElem?_extract,if_pos tb_g%]
theorem Ip {arr:Array Keyed} {p q:Nat} (h:IntKeys arr):IntKeys (arr.extract p q):=fun x hx=>h x (by
 rw [Cy,Kz] at hx
 exact Mp (Uy hx))
section
variable {prog:aV} {w:World} {A:bJ} {E:Value->Shared->Prop} {s:Shared} [Rl prog w A E s]
theorem aia {σ:Type} {M:Model} {x:σ} {Q:PUnit->σ->Prop} {st:σ} (h:Q ⟨⟩ x):wpS M A E s (set x:StateT σ Sem PUnit) Q st:=by
 unfold wpS;rw [StateT.run_set];exact bw ⟨rfl,h⟩
noncomputable abbrev lE (p:Array (Nat × Nat × Nat)) (i:Nat) (x:Nat × Nat × Nat):Array (Nat × Nat × Nat):=(p.setIfInBounds i x).eraseIdxIfInBounds (i+1)
theorem SN {i sa na nb pw pw':Nat} {st:SortSt} {Q:Bool->SortSt->Prop} (hk:kindOf st=kd0) (hf:nT st=none) (h0:IntKeys (arrOf st))
  (e1:(dX st)[i]? = some (sa,na,pw)) (e2:(dX st)[i+1]? = some (sa+na,nb,pw')) (hna:1<=na) (hnb:1<=nb) (hz:sa+na+nb<=(arrOf st).size)
  (S1:Srt (arrOf st) sa (sa+na)) (S2:Srt (arrOf st) (sa+na) (sa+na+nb))
  (h:∀ ys g,Within (arrOf st) ys sa (sa+na+nb)->Srt ys sa (sa+na+nb)->Q true (tW (kindOf st) ys (lE (dX st) i (sa,na+nb,pw)) g none)) :
  wpS (model prog w) A E s (mergeAt' i) Q st:=by
 refine aU (pO ?_)
 rw [e1,e2]
 walk_at "c"
 refine aU (aia ?_)
 have ea:∀ i,i<(arrOf st).size->∃ (t:Keyed) (_:Is t (K (arrOf st) i)),(arrOf st)[i]? = some t:=fun i hi=>zq h0 hi
 have h':∀ ys g,Within (arrOf st) ys sa (sa+na+nb)->Srt ys sa (sa+na+nb)->Q true (tW (kindOf st) ys (lE (dX st) i (sa,na+nb,pw)) g (nT st)):=fun ys g a b=>by rw [hf];exact h ys g a b
 clear h
 show wpS _ _ _ _ _ _ (tW (kindOf st) (arrOf st) (lE (dX st) i (sa,na+nb,pw)) (vI st) (nT st))
 generalize hst:tW (kindOf st) (arrOf st) (lE (dX st) i (sa,na+nb,pw)) (vI st) (nT st)=st1
 have hk1:kindOf st1=kd0:=by rw [<- hst];exact hk
 have h1:∀ ys g,Within (arrOf st) ys sa (sa+na+nb)->Srt ys sa (sa+na+nb)->Q true (gb (setG st1 g) ys):=fun ys g a b=>by rw [<- hst];exact h' ys g a b
 have h2:Srt (arrOf st) sa (sa+na+nb)->Q true st1:=fun b=>by rw [<- hst];exact h' _ _ (Within.refl _ _ _) b
 have ha1:arrOf st1=arrOf st:=by rw [<- hst]
 have hf1:nT st1=none:=by rw [<- hst];exact hf
 clear h' hst
 obtain ⟨t1,q1,k1⟩:=ea (sa+na) tb_g%
 refine aU (dM k1 ?_)
 refine aU (mK hk1 (fun i h1 h2=>ea i tb_g%) tb_g% (fun i j h1 h2 h3=>?_) fun k hk1' hk2 hk3=>?_)
 ·simp only [bey,uO,if_false,yS,decide_eq_false_iff_not,lU] at h3 ⊢
  exact jH (S1 _ _ tb_g% tb_g% tb_g%) h3
 simp only [bey,uO,if_false,yS,Wm,decide_eq_true_eq,decide_eq_false_iff_not,lU] at hk2 hk3
 walk_at "c"
 by_cases c1:na-k=0
 ·k_dat (cD,c1) "g"
  refine aY (h2 fun i j g1 g2 g3=>?_)
  by_cases a1:j<sa+na
  ·exact S1 i j g1 g2 a1
  ·by_cases a2:sa+na<=i
   ·exact S2 i j a2 g2 g3
   ·have:=hk2 (i-sa) tb_g%
    rw [show sa+(i-sa)=i by lia] at this
    exact jH this (S2 _ j (cJ _) tb_g% g3)
 k_dat (bY,c1) "g"
 have kq:sa+k+(na-k)-1=sa+na-1:=by lia
 rw [kq]
 obtain ⟨t2,q2,k2⟩:=ea (sa+na-1) tb_g%
 refine aU (dM k2 ?_)
 refine aU (mK hk1 (fun i h1 h2=>ea i tb_g%) tb_g% (fun i j h1 h2 h3=>?_) fun m hm1 hm2 hm3=>?_)
 ·simp only [bey,if_true,decide_eq_true_eq] at h3 ⊢
  exact Wr (S2 _ _ tb_g% tb_g% tb_g%) h3
 simp only [bey,if_true,decide_eq_true_eq,decide_eq_false_iff_not,lU] at hm2 hm3
 walk_at "c"
 by_cases c2:m=0
 ·k_dat (cD,c2) "g"
  refine aY (h2 fun i j g1 g2 g3=>?_)
  by_cases a1:j<sa+na
  ·exact S1 i j g1 g2 a1
  ·by_cases a2:sa+na<=i
   ·exact S2 i j a2 g2 g3
   ·have:=hm3 (j-(sa+na)) tb_g% tb_g%
    rw [show sa+na+(j-(sa+na))=j by lia] at this
    exact jH (S1 i (sa+na-1) g1 tb_g% tb_g%) this
 k_dat (bY,c2) "g"
 k_dat (x,hx) "b"
 k_dat (y,hy) "b"
 k_dat (jp,hjp) "b"
 have xs:x.size=na-k:=by rw [hx,ael];show min (sa+na) (arrOf st).size-(sa+k)=_;lia
 have ys:y.size=m:=by rw [hy,ael];show min (sa+na+m) (arrOf st).size-(sa+na)=_;lia
 have Kx:∀ i,i<x.size->K x i=K (arrOf st) (sa+k+i):=fun i hi=>by rw [hx];exact K9 (arr:=arrOf st) tb_g% tb_g%
 have Ky:∀ i,i<y.size->K y i=K (arrOf st) (sa+na+i):=fun i hi=>by rw [hy];exact K9 (arr:=arrOf st) tb_g% tb_g%
 have key:∀ (out:Array Keyed) g,gQ x.toList y.toList out.toList->wpS (model prog w) A E s (jp out) Q (setG st1 g):=by
  intro out g hm
  rw [hjp]
  refine aU (nR ?_)
  refine aU (pO (aY ?_))
  show Q (nT st1).isNone (gb (setG st1 g) (Va (fun a (x:Keyed × Nat)=>a.setIfInBounds (sa+k+x.2) x.1) (arrOf st1) out.toList.zipIdx))
  rw [hf1,ha1]
  have ol:out.toList.length=na-k+m:=by rw [hm.perm.length_eq,eV,gU,gU,xs,ys]
  have hP:Put (arrOf st) (Va (fun a (x:Keyed × Nat)=>a.setIfInBounds (sa+k+x.2) x.1) (arrOf st) out.toList.zipIdx) (sa+k) (sa+na+m) out.toList:=by
   have:=aaQ out.toList 0 (sa+k) (arrOf st) tb_g%
   rw [V3,ol,show sa+k+(na-k+m)=sa+na+m by lia] at this
   exact ⟨this.1,this.2⟩
  generalize Va (fun a (x:Keyed × Nat)=>a.setIfInBounds (sa+k+x.2) x.1) (arrOf st) out.toList.zipIdx=R at hP ⊢
  have mid:∀ i,sa+k<=i->i<sa+na+m->∃ j,sa+k<=j/\j<sa+na+m/\K R i=K (arrOf st) j:=fun i g1 g2=>by
   have e:R[i]? = out.toList[i-(sa+k)]?:=by rw [hP.at_ i,if_pos ⟨g1,g2⟩]
   have hi:i-(sa+k)<out.toList.length:=by lia
   rw [jL hi] at e
   have mem:out.toList[i-(sa+k)]∈x.toList++y.toList:=hm.perm.mem_iff.mp (UW hi)
   have e':=w6 e
   rw [<- e']
   rcases gw.mp mem with z | z
   ·rw [hx] at z
    obtain ⟨j,j1,j2,j3,j4⟩:=wZ z
    exact ⟨j,j1,by lia,j4⟩
   ·rw [hy] at z
    obtain ⟨j,j1,j2,j3,j4⟩:=wZ z
    exact ⟨j,by lia,j2,j4⟩
  have abX:∀ i,(i<sa+k\/sa+na+m<=i)->K R i=K (arrOf st) i:=fun i hi=>K_congr (by rw [hP.at_ i,if_neg tb_g%])
  have lowK:∀ i,sa<=i->i<sa+k->K (arrOf st) i<=K (arrOf st) (sa+na):=fun i g1 g2=>by
   have:=hk2 (i-sa) tb_g%
   rw [show sa+(i-sa)=i by lia] at this
   exact this
  have highK:∀ j,sa+na+m<=j->j<sa+na+nb->K (arrOf st) (sa+na-1)<=K (arrOf st) j:=fun j g1 g2=>by
   have:=hm3 (j-(sa+na)) tb_g% tb_g%
   rw [show sa+na+(j-(sa+na))=j by lia] at this
   exact this
  refine h1 R g ⟨Og.mpr ?_,fun i hi=>?_⟩ fun i j g1 g2 g3=>?_
  ·rw [hP.list tb_g% tb_g%]
   have e:(arrOf st).toList=(arrOf st).toList.take (sa+k)++((x.toList++y.toList)++(arrOf st).toList.drop (sa+na+m)):=by
    have d1:=Al (a:=arrOf st) (i:=sa+k) (k:=na-k)
    have d2:=Al (a:=arrOf st) (i:=sa+na) (k:=m)
    rw [show sa+k+(na-k)=sa+na by lia] at d1
    rw [d2] at d1
    conv=>lhs;rw [<- Mi (sa+k) (arrOf st).toList,d1]
    rw [jo,hx,hy]
   conv=>rhs;rw [e]
   exact Ox _ (aeR _ hm.perm)
  ·rw [hP.at_ i,if_neg tb_g%]
  ·by_cases a1:i<sa+k
   ·rw [abX i (.inl a1)]
    by_cases b1:j<sa+k
    ·rw [abX j (.inl b1)];exact S1 i j g1 g2 tb_g%
    ·by_cases b2:j<sa+na+m
     ·obtain ⟨j',j1,j2,j3⟩:=mid j tb_g% b2
      rw [j3]
      by_cases b3:j'<sa+na
      ·exact S1 i j' g1 tb_g% b3
      ·exact jH (lowK i g1 a1) (S2 _ j' (cJ _) tb_g% tb_g%)
     ·rw [abX j (.inr tb_g%)]
      exact jH (lowK i g1 a1) (S2 _ j (cJ _) tb_g% g3)
   ·by_cases a2:i<sa+na+m
    ·by_cases b2:j<sa+na+m
     ·have f:∀ i,sa+k<=i->i<sa+na+m->∃ hi:i-(sa+k)<out.toList.length,K R i=kv out.toList[i-(sa+k)]:=fun i g1 g2=>by
       have hi:i-(sa+k)<out.toList.length:=by lia
       have e:R[i]? = some out.toList[i-(sa+k)]:=by rw [hP.at_ i,if_pos ⟨g1,g2⟩,jL hi]
       exact ⟨hi,(w6 e).symm⟩
      obtain ⟨hi,ei⟩:=f i tb_g% a2
      obtain ⟨hj,ej⟩:=f j tb_g% b2
      rw [ei,ej]
      by_cases e:i=j
      ·subst e;exact fM _
      ·exact Uu.mp hm.srt _ _ hi hj tb_g%
     ·obtain ⟨i',i1,i2,i3⟩:=mid i tb_g% a2
      rw [i3,abX j (.inr tb_g%)]
      by_cases b3:i'<sa+na
      ·exact jH (S1 i' (sa+na-1) tb_g% tb_g% tb_g%) (highK j tb_g% g3)
      ·exact S2 i' j tb_g% tb_g% g3
    ·rw [abX i (.inr tb_g%),abX j (.inr tb_g%)]
     exact S2 i j tb_g% g2 g3
 have A1:IntKeys x:=by rw [hx];exact Ip h0
 have A2:IntKeys y:=by rw [hy];exact Ip h0
 have A3:Srt x 0 x.size:=fun i j g1 g2 g3=>by rw [Kx i tb_g%,Kx j g3];exact S1 _ _ tb_g% tb_g% tb_g%
 have A4:Srt y 0 y.size:=fun i j g1 g2 g3=>by rw [Ky i tb_g%,Ky j g3];exact S2 _ _ tb_g% tb_g% tb_g%
 have A5:∀ i,i<x.size->K y 0<=K x i:=fun i hi=>by
  rw [Kx i hi,Ky 0 tb_g%,V3]
  have:=hk3 (k+i) tb_g% tb_g%
  rw [<- NP] at this
  exact pQ this
 have A6:∀ j,j<y.size->K y j<=K x (x.size-1):=fun j hj=>by
  rw [Ky j hj,Kx _ tb_g%,show sa+k+(x.size-1)=sa+na-1 by lia]
  exact pQ (hm2 j tb_g%)
 clear hjp
 split
 ·exact aU (ah8 hk1 A1 A2 A3 A4 tb_g% tb_g% A5 A6 fun out g hm=>key out g hm)
 ·exact aU (ah9 hk1 A1 A2 A3 A4 tb_g% tb_g% A5 A6 fun out g hm=>key out g hm)
end
end
end Tm
namespace Tm
open PySem PyProof.Rows
section
variable [Rk]
noncomputable def Runs (arr:Array Keyed):Nat->List (Nat × Nat × Nat)->Nat->Prop
 | p,[],q=>p=q
 | p,x::r,q=>x.1=p/\1<=x.2.1/\Srt arr p (p+x.2.1)/\Runs arr (p+x.2.1) r q
theorem Runs.le {arr:Array Keyed}:∀ {l:List (Nat × Nat × Nat)} {p q:Nat},Runs arr p l q->p+l.length<=q
 | [],p,q,h=>by rw [show p=q from h];exact cJ _
 | x::r,p,q,h=>by have:=Runs.le h.2.2.2;have:=h.2.1;rw [jG];lia
theorem Runs.app {arr:Array Keyed}:∀ {l r:List (Nat × Nat × Nat)} {p q:Nat},Runs arr p (l++r) q↔∃ m,Runs arr p l m/\Runs arr m r q
 | [],r,p,q=>⟨fun h=>⟨p,rfl,h⟩,fun ⟨m,h1,h2⟩=>by rw [show p=m from h1];exact h2⟩
 | x::l,r,p,q=>by
  constructor
  ·rintro ⟨h1,h2,h3,h4⟩
   obtain ⟨m,m1,m2⟩:=Runs.app.mp h4
   exact ⟨m,⟨h1,h2,h3,m1⟩,m2⟩
  ·rintro ⟨m,⟨h1,h2,h3,m1⟩,m2⟩
   exact ⟨h1,h2,h3,Runs.app.mpr ⟨m,m1,m2⟩⟩
theorem Srt.out {xs ys:Array Keyed} {a b c d:Nat} (h:Srt xs c d) (w:Within xs ys a b) (hc:d<=a\/b<=c):Srt ys c d:=fun i j h1 h2 h3=>by
 rw [K_congr (w.out i tb_g%),K_congr (w.out j tb_g%)];exact h i j h1 h2 h3
theorem Runs.out {xs ys:Array Keyed} {a b:Nat} (w:Within xs ys a b):∀ {l:List (Nat × Nat × Nat)} {p q:Nat},Runs xs p l q->(q<=a\/b<=p)->Runs ys p l q
 | [],p,q,h,_=>h
 | x::r,p,q,h,hc=>by
  have:=Runs.le h.2.2.2
  exact ⟨h.1,h.2.1,Srt.out h.2.2.1 w tb_g%,Runs.out w h.2.2.2 tb_g%⟩
theorem Runs.alike {arr:Array Keyed}:∀ {l l':List (Nat × Nat × Nat)} {p q:Nat},l.map (fun x=>(x.1,x.2.1))=l'.map (fun x=>(x.1,x.2.1))->Runs arr p l q->Runs arr p l' q
 | [],[],p,q,_,h=>h
 | [],_::_,p,q,e,h=>by simp at e
 | _::_,[],p,q,e,h=>by simp at e
 | x::r,y::r',p,q,e,h=>by
  rw [jg,jg] at e
  obtain ⟨e1,e2⟩:=akZ e
  obtain ⟨e3,e4⟩:=Prod.mk.inj e1
  refine ⟨by rw [<- e3];exact h.1,by rw [<- e4];exact h.2.1,by rw [<- e4];exact h.2.2.1,?_⟩
  rw [<- e4];exact Runs.alike e2 h.2.2.2
structure zu (a₀:Array Keyed) (st:SortSt) (lo:Nat):Prop where
 perm:(arrOf st).Perm a₀
 kind:kindOf st=kd0
 failed:nT st=none
 runs:Runs (arrOf st) 0 (dX st).toList lo
 le:lo<=a₀.size
theorem Zu (p:Array (Nat × Nat × Nat)) (i pw:Nat):p.toList.map (fun x=>(x.1,x.2.1))=(p.modify i fun x=>(x.1,x.2.1,pw)).toList.map (fun x=>(x.1,x.2.1)):=by
 apply List.ext_getElem?
 intro j
 rw [jN,jN,pP,pP,Array.getElem?_modify]
 by_cases h:i=j
 ·rw [if_pos h,Option.map_map];rfl
 ·rw [if_neg h]
section
variable {prog:aV} {w:World} {A:bJ} {E:Value->Shared->Prop} {s:Shared} [Rl prog w A E s]
theorem Aq {a₀:Array Keyed} {i lo:Nat} {st:SortSt} {Q:Bool->SortSt->Prop} (h0:IntKeys a₀) (hI:zu a₀ st lo) (hi:i+1<(dX st).size)
  (h:∀ st',zu a₀ st' lo->(dX st').size+1=(dX st).size->Within (arrOf st) (arrOf st') 0 lo->Q true st'):wpS (model prog w) A E s (mergeAt' i) Q st:=by
 have hl:(dX st).toList.length=(dX st).size:=gU
 obtain ⟨L,x1,x2,R,eL,lL⟩:∃ L x1 x2 R,(dX st).toList=L++x1::x2::R/\L.length=i:=by
  refine ⟨(dX st).toList.take i,(dX st).toList[i],(dX st).toList[i+1],(dX st).toList.drop (i+2),?_,by rw [jf];lia⟩
  conv=>lhs;rw [<- Mi i (dX st).toList,Kw tb_g%,Kw tb_g%]
 have hr:=hI.runs
 rw [eL] at hr
 obtain ⟨m,r1,r2⟩:=Runs.app.mp hr
 obtain ⟨sa,na,pw⟩:=x1
 obtain ⟨sb,nb,pw'⟩:=x2
 obtain ⟨e1,n1,s1,e2,n2,s2,r3⟩:=r2
 simp only at e1 n1 s1 e2 n2 s2 r3
 subst e1
 subst e2
 have le3:=r3.le
 have sz:=hI.perm.size_eq
 have hle:=hI.le
 refine SN (sa:=sa) (na:=na) (nb:=nb) (pw:=pw) (pw':=pw') hI.kind hI.failed (wY h0 hI.perm) ?_ ?_ n1 n2 tb_g% s1 s2 fun ys g hw hs=>?_
 ·rw [<- pP,eL,zU tb_g%,lL,V2];rfl
 ·rw [<- pP,eL,zU tb_g%,lL,show i+1-i=1 by lia];rfl
 have eN:(lE (dX st) i (sa,na+nb,pw)).toList=L++(sa,na+nb,pw)::R:=by
  show ((Array.setIfInBounds _ _ _).eraseIdxIfInBounds (i+1)).toList=_
  rw [Array.toList_eraseIdxIfInBounds,Array.toList_setIfInBounds,eL,<- lL]
  simp [List.eraseIdx_append]
  intro hh;lia
 refine h _ ⟨hw.perm.trans hI.perm,hI.kind,rfl,?_,hI.le⟩ ?_ (hw.wide (bZ _) tb_g%)
 ·show Runs ys 0 (lE (dX st) i (sa,na+nb,pw)).toList lo
  rw [eN]
  refine Runs.app.mpr ⟨sa,r1.out hw (.inl (cJ _)),rfl,by show 1<=na+nb;lia,?_,?_⟩
  ·show Srt ys sa (sa+(na+nb))
   rw [<- NP];exact hs
  ·show Runs ys (sa+(na+nb)) R lo
   rw [<- NP];exact r3.out hw (.inr (cJ _))
 ·show (lE (dX st) i (sa,na+nb,pw)).size+1=_
  have z1:=congrArg pJ eN
  have z2:=congrArg pJ eL
  simp only [gU,eV,jG] at z1 z2
  lia
theorem xY {a₀:Array Keyed} {st:SortSt} {Q:Unit->SortSt->Prop} (h0:IntKeys a₀) (hB:SBase a₀ st) (h2:2<=a₀.size)
  (h:∀ st',(arrOf st').Perm a₀->nT st'=none->SortedTo (arrOf st') a₀.size->Q () st'):wpS (model prog w) A E s sortRuns' Q st:=by
 rw [sortRuns'_eq]
 refine aU (pO ?_)
 k_dat (size,hsize) "b"
 k_dat (minrun,hmin) "b"
 clear hmin
 have hsz:size=a₀.size:=hsize.trans hB.size
 clear hsize
 subst hsz
 k_dat (lo0,hlo0) "b"
 subst hlo0
 have hI0:zu a₀ st 0:=⟨hB.perm,hB.kind,hB.failed,by rw [hB.pend];rfl,bZ _⟩
 refine aU (gF (mC (a:=0) (I:=fun x c st'=>∃ lo,c=(none,lo)/\zu a₀ st' lo/\x<=lo) (Q:=fun c st'=>c=(none,a₀.size)/\zu a₀ st' a₀.size) ?_ ?_ ⟨0,rfl,hI0,cJ _⟩) ?_)
 ·rintro x c st' _ hx ⟨lo,rfl,hI,hxl⟩
  walk_at "d"
  walk_at "c"
  by_cases c1:lo>=a₀.size
  ·refine cD c1 ?_
   have:lo=a₀.size:=by have:=hI.le;lia
   subst this
   exact aY ⟨rfl,hI⟩
  refine bY c1 ?_
  have sz:=hI.perm.size_eq
  refine aU (ah7 hI.kind (wY h0 hI.perm) tb_g% tb_g% fun n ys n1 n2 _ hw hs=>?_)
  walk_at "c"
  walk_at "d"
  walk_at "c"
  k_dat (jp,hjp) "b"
  have key:∀ u n zs,Within (arrOf st') zs lo a₀.size->Srt zs lo (lo+n)->1<=n->lo+n<=a₀.size->wpS (model prog w) A E s (jp u n) (fun r st'=>match r with
    | ForInStep.done c'=>c'=(none,a₀.size)/\zu a₀ st' a₀.size
    | ForInStep.yield c'=>∃ lo,c'=(none,lo)/\zu a₀ st' lo/\x+1<=lo) (gb st' zs):=by
   intro u n zs hw hs n1 n2
   rw [hjp]
   clear hjp jp
   have hI1:zu a₀ (gb st' zs) lo:=⟨hw.perm.trans hI.perm,hI.kind,hI.failed,hI.runs.out hw (.inl (cJ _)),hI.le⟩
   have hs1:Srt (arrOf (gb st' zs)) lo (lo+n):=hs
   generalize gb st' zs=st1 at hI1 hs1 ⊢
   refine aU (pO ?_)
   k_dat (jp2,Ey) "b"
   have key2:∀ u st2,zu a₀ st2 lo->Srt (arrOf st2) lo (lo+n)->wpS (model prog w) A E s (jp2 u) (fun r st'=>match r with
    | ForInStep.done c'=>c'=(none,a₀.size)/\zu a₀ st' a₀.size
    | ForInStep.yield c'=>∃ lo,c'=(none,lo)/\zu a₀ st' lo/\x+1<=lo) st2:=by
    intro u st2 hI2 hs2
    rw [Ey]
    refine aU (nR ?_)
    walk_at "d"
    walk_at "c"
    refine aY ⟨lo+n,rfl,⟨hI2.perm,hI2.kind,hI2.failed,?_,n2⟩,by lia⟩
    show Runs (arrOf st2) 0 ((dX st2).push (lo,n,0)).toList (lo+n)
    rw [Hw]
    exact Runs.app.mpr ⟨lo,hI2.runs,rfl,n1,hs2,rfl⟩
   clear Ey
   split
   ·walk_at "d"
    walk_at "c"
    rename_i s1 n1' sn _
    generalize power' a₀.size (2*s1+n1') (2*s1+n1'+n1'+n) a₀.size=pw
    refine aU (gF (mC (a:=0) (I:=fun _ c st2=>c=(none,())/\zu a₀ st2 lo/\Srt (arrOf st2) lo (lo+n)) (Q:=fun c st2=>c=(none,())/\zu a₀ st2 lo/\Srt (arrOf st2) lo (lo+n)) ?_ (fun _ _ hh=>hh) ⟨rfl,hI1,hs1⟩) ?_)
    ·rintro y c st2 _ hy ⟨rfl,hI2,hs2⟩
     refine aU (pO ?_)
     walk_at "d"
     walk_at "c"
     by_cases c2:(dX st2).size>1
     ·rw [if_pos c2]
      have e:(dX st2)[(dX st2).size-2]? = some ((dX st2)[(dX st2).size-2]'tb_g%):=getElem?_pos _ _ _
      rw [e]
      generalize (dX st2)[(dX st2).size-2]'tb_g%=z
      obtain ⟨z1,z2,older⟩:=z
      walk_at "c"
      by_cases c3:older<=pw
      ·refine cD c3 ?_
       exact aY ⟨rfl,hI2,hs2⟩
      refine bY c3 ?_
      refine aU (Aq h0 hI2 tb_g% fun st3 hI3 _ hw3=>?_)
      refine bY (by decide) ?_
      exact aY ⟨rfl,hI3,Srt.out hs2 hw3 (.inr (cJ _))⟩
     ·rw [if_neg c2]
      exact aY ⟨rfl,hI2,hs2⟩
    ·rintro c st2 ⟨rfl,hI2,hs2⟩
     walk_at "d"
     walk_at "c"
     walk_at "c"
     refine aU (nR ?_)
     refine gF (key2 _ _ ⟨hI2.perm,hI2.kind,hI2.failed,?_,hI2.le⟩ hs2) fun r st' hh=>by cases r <;> exact hh
     exact hI2.runs.alike (Zu _ _ _)
   ·exact gF (key2 _ _ hI1 hs1) fun r st' hh=>by cases r <;> exact hh
  clear hjp
  rw [show lo+(a₀.size-lo)=a₀.size by lia] at hw
  by_cases c2:n<minrun
  ·refine cD c2 ?_
   refine aU (vH (tR ⟨rfl,?_⟩))
   walk_at "d"
   walk_at "c"
   have zz:ys.size=a₀.size:=(hw.perm.size_eq).trans sz
   refine aU (af0 (st:=gb st' ys) hI.kind (wY h0 (hw.perm.trans hI.perm)) (by show _<=ys.size;lia) tb_g% hs fun zs hw2 hs2=>?_)
   refine bY (by decide) ?_
   walk_at "d"
   walk_at "c"
   have hw3:Within (arrOf st') zs lo a₀.size:=hw.trans (hw2.wide (cJ _) tb_g%)
   exact gF (key _ _ zs hw3 hs2 tb_g% tb_g%) fun r st' hh=>by cases r <;> exact hh
  ·refine bY c2 ?_
   exact gF (key _ _ ys hw hs n1 tb_g%) fun r st' hh=>by cases r <;> exact hh
 ·rintro c st' ⟨lo,rfl,hI,hxl⟩
  have:lo=a₀.size:=by have:=hI.le;lia
  subst this
  exact ⟨rfl,hI⟩
 ·rintro c st' ⟨rfl,hI⟩
  walk_at "h"
  walk_at "c"
  walk_at "c"
  have p0:(dX st').size<=a₀.size:=by
   have:=hI.runs.le
   rw [gU] at this
   lia
  refine aU (gF (mC (a:=0) (I:=fun x c st2=>c=(none,())/\zu a₀ st2 a₀.size/\x+(dX st2).size<=a₀.size+1) (Q:=fun c st2=>c=(none,())/\zu a₀ st2 a₀.size/\(dX st2).size<=1) ?_ ?_ ⟨rfl,hI,by lia⟩) ?_)
  ·rintro x c st2 _ hx ⟨rfl,hI2,hp⟩
   refine aU (pO ?_)
   walk_at "d"
   walk_at "c"
   by_cases c2:(dX st2).size<=1
   ·refine cD c2 ?_
    exact aY ⟨rfl,hI2,c2⟩
   refine bY c2 ?_
   k_dat (i0,hi0) "b"
   k_dat (before,hbefore) "b"
   clear hbefore
   k_dat (i1,hi1) "b"
   have:i1+1<(dX st2).size:=by
    rw [hi1]
    split <;> lia
   refine aU (Aq h0 hI2 this fun st3 hI3 hs3 _=>?_)
   refine bY (by decide) ?_
   exact aY ⟨rfl,hI3,by lia⟩
  ·rintro c st2 ⟨rfl,hI2,hp⟩
   exact ⟨rfl,hI2,by lia⟩
  ·rintro c st2 ⟨rfl,hI2,hp⟩
   walk_at "d"
   walk_at "c"
   walk_at "c"
   refine aY (h _ hI2.perm hI2.failed ?_)
   have hr:=hI2.runs
   have hl:(dX st2).toList.length=(dX st2).size:=gU
   match e:(dX st2).toList,hr with
   | [],hr=>have:0=a₀.size:=hr;lia
   | [x],⟨x1,x2,x3,x4⟩ =>
    have x5:0+x.2.1=a₀.size:=x4
    rw [x5] at x3
    exact fun i j g1 g2=>x3 i j (bZ _) g1 g2
   | _::_::_,_=>rw [e] at hl;simp at hl;lia
end
end
end Tm
namespace Tm
open PySem PyProof.Rows
section
variable {prog:aV} {w:World} {A:bJ} {E:Value->Shared->Prop} {s:Shared}
theorem K_at [Rk] {xs:Array Keyed} {i:Nat} (hi:i<xs.size):K xs i=Rk.R xs[i]:=by unfold K;rw [getElem?_pos xs i hi]
theorem af7 [Rk] {vs:List Value} {xs:Array Keyed} (hp:xs.Perm (lB vs)) (hs:SortedTo xs (lB vs).size) :
  (xs.map (·.2)).toList.Perm vs/\(xs.map (·.2)).toList.Pairwise fun x y=>Rk.R (x,x)<=Rk.R (y,y):=by
 have hl:xs.toList.Perm (vs.zip vs):=by rw [<- V9];exact Og.mp hp
 have hm:∀ p,p∈xs.toList->p.1=p.2:=fun p h=>(Wg (hl.mem_iff.mp h)).1
 rw [Array.toList_map]
 constructor
 ·have h1:=hl.map Prod.snd
  rwa [List.map_snd_zip (cJ _)] at h1
 ·refine BJ.mpr (Uu.mpr fun i j hi hj hij=>?_)
  have hi':i<xs.size:=by simpa using hi
  have hj':j<xs.size:=by simpa using hj
  have h1:=hs i j (pL hij) (by rw [<- hp.size_eq];exact hj')
  rw [K_at hi',K_at hj'] at h1
  have e:∀ p:Keyed,p∈xs.toList->((p.2,p.2):Keyed)=p:=fun p h=>nW (hm p h).symm rfl
  rw [e _ (UW hi),e _ (UW hj)]
  simpa using h1
theorem aaR [Rk] {a:Addr} {vs:List Value} {n:Nat} {P:Fin->Shared->Prop} (at_:s.heap.get? a=some (cU "list" vs.toArray n)) (few:vs.length<=sizeLine) (hok:∀ v∈vs,Rk.Ok (v,v))
  (hkey:2<=vs.length->∀ (s2:Shared) (Q:SortKind->Shared->Prop),(∀ b o,b≠a->s.heap.get? b=some o->s2.heap.get? b=some o)->Q Rk.kd s2->wpAny (model prog w) A (keyKind' vs.toArray) Q E s2)
  (hlt:∀ s2:Shared,(∀ b o,b≠a->s.heap.get? b=some o->s2.heap.get? b=some o)->Rl prog w A E s2)
  (told:∀ out:Array Value,out.toList.Perm vs->(out.toList.Pairwise fun x y=>Rk.R (x,x)<=Rk.R (y,y))->P (.done (.ret .none)) { s with heap:=yQ s.heap a vs out }) :
  wpAny (model prog w) A (g8.«list.sort» ⟨[.ref a],[]⟩) P E s:=by
 have la:=bR at_
 have len:vs.toArray.size=vs.length:=gH
 obtain ⟨ep,at1⟩:∃ ep,(s.heap.update a (iQ fun _=>#[])).get? a=some (cU "list" #[] ep):=⟨_,aeb at_ (fun _=>#[])⟩
 have keep:∀ b o,b≠a->s.heap.get? b=some o->(((s.heap.update a (iQ fun _=>#[])).push (cU "tuple" vs.toArray 0)).push (cU "list" #[] 0)).get? b=some o:=fun b o hb e =>
  gK _ (gK _ (by rw [adZ _ _ _ _ hb];exact e))
 have at2:(((s.heap.update a (iQ fun _=>#[])).push (cU "tuple" vs.toArray 0)).push (cU "list" #[] 0)).get? a=some (cU "list" #[] ep):=gK _ (gK _ at1)
 rw [list_sort_plain]
 apply aR;apply aee at_ rfl
 apply aR;refine Cv at_ rfl ?_ (by rw [len];exact few) (bZ _)
 apply aR;apply Cw at1 rfl
 apply aR;refine adR ?_ (by simpa using few)
 apply aR;refine yF ?_ (bZ _)
 apply mz
 show wpAny (model prog w) A _ P E { s with heap:=((s.heap.update a (iQ fun _=>#[])).push (cU "tuple" vs.toArray 0)).push (cU "list" #[] 0) }
 dsimp only
 have close:∀ st:SortSt,(arrOf st).Perm (lB vs)->SortedTo (arrOf st) (lB vs).size->P (.done (.ret .none)) { s with heap:=yQ s.heap a vs ((arrOf st).map (·.2)) }:=fun st p so=>by
  obtain ⟨i1,i2⟩:=af7 p so
  exact told _ i1 i2
 by_cases two:vs.toArray.size<2
 ·simp only [if_pos two]
  apply aR;apply bw;rw [ae8];apply aR;apply bw;dsimp only
  apply aR;apply Cw at2 rfl
  apply aR;refine Cv at2 rfl ?_ (bZ _) (by rw [Oh];show (lB vs).size<=_;rw [vG];lia)
  simp only [bne_self_eq_false,uO,if_false]
  refine bw (close (tW general' (vs.toArray.zip vs.toArray) #[] 7 none) (WY _) fun i j ij hj=>?_)
  rw [vG] at hj
  rw [show i=j by lia];exact fM _
 ·simp only [if_neg two]
  refine aR (hkey tb_g% _ _ keep ?_)
  haveI:=hlt { s with heap:=((s.heap.update a (iQ fun _=>#[])).push (cU "tuple" vs.toArray 0)).push (cU "list" #[] 0) } keep
  have go:=xY (prog:=prog) (w:=w) (A:=A) (E:=E) (s:={ s with heap:=((s.heap.update a (iQ fun _=>#[])).push (cU "tuple" vs.toArray 0)).push (cU "list" #[] 0) })
   (a₀:=lB vs) (st:=tW Rk.kd (vs.toArray.zip vs.toArray) #[] 7 none) (Q:=fun _ st=>(arrOf st).Perm (lB vs)/\nT st=none/\SortedTo (arrOf st) (lB vs).size)
   (fun x hx=>by
    rw [V9] at hx
    obtain ⟨e1,e2⟩:=Wg hx
    obtain ⟨x1,x2⟩:=x
    cases e1
    exact hok _ e2) ⟨WY _,rfl,rfl,rfl⟩ (by rw [vG];lia) fun st p1 p2 p3=>⟨p1,p2,p3⟩
  refine aR (dW go ?_ fun _ _ e=>e)
  rintro ⟨⟨⟩,st⟩ s2 ⟨rfl,p1,p2,p3⟩
  dsimp only
  apply aR;apply Cw at2 rfl
  apply aR;refine Cv at2 rfl ?_ (bZ _) (by rw [Oh,p1.size_eq,vG];lia)
  rw [p2];simp only [bne_self_eq_false,uO,if_false]
  exact bw (close st p1 p3)
noncomputable def SQ:Rk:=⟨oneType',fun p=>numOf p.1,fun p=>∃ n t,p.1 = .int n t⟩
theorem ajw:@Rl SQ prog w A E s:=@Rl.mk SQ prog w A E s fun {x y st Q} hk hx hy h=>by
 obtain ⟨⟨n,t,e1⟩,⟨m,u,e2⟩⟩:=And.intro hx hy
 obtain ⟨x1,x2⟩:=x
 obtain ⟨y1,y2⟩:=y
 cases e1
 cases e2
 rw [lt'_eq]
 refine aU (pO ?_)
 rw [show kindOf st=oneType' from hk,keyLt'_oneType]
 refine aU (vH (M9 (oneLt_int ⟨rfl,?_⟩)))
 exact aY h
theorem SX {a:Addr} {vs:List Value} {ns:List Int} {n:Nat} {P:Fin->Shared->Prop} (at_:s.heap.get? a=some (cU "list" vs.toArray n)) (hI:je vs ns) (few:vs.length<=sizeLine)
  (told:∀ (out:Array Value) (ns':List Int),je out.toList ns'->ns'.Perm ns->ns'.Pairwise (fun x y=>x<=y)->P (.done (.ret .none)) { s with heap:=yQ s.heap a vs out }) :
  wpAny (model prog w) A (g8.«list.sort» ⟨[.ref a],[]⟩) P E s:=by
 refine @aaR prog w A E s SQ a vs n P at_ few (fun v hv=>hI.all v hv) (fun h2 s2 Q _ q=>?_) (fun _ _=>ajw) fun out p so=>?_
 ·match vs,hI,h2 with
  | v::v'::r,hI,_=>rw [aef hI];exact bw q
  | [],_,z=>simp at z
  | [_],_,z=>simp at z
 ·have h1:=intsAre_map out.toList fun v hv=>hI.all v (p.mem_iff.mp hv)
  refine told out _ h1 ?_ (BJ.mpr so)
  have:=p.map numOf
  rwa [hI.nums] at this
noncomputable def Ar (h:Heap) (l:Addr) (f:Addr->Int × Int) (M:Int):Rk:=⟨tuples' true,fun p=>match p.1 with
 | .ref a=>(f a).1*M+(f a).2
 | _=>0,fun p=>∃ a,p.1 = .ref a/\a≠l/\0<=(f a).2/\(f a).2<M/\∃ o n t1 t2,h.get? a=some o/\o.cls = .type "tuple" /\ o.data = .seq #[.int (f a).1 t1,.int (f a).2 t2] n⟩
theorem lex_lt {a b c d M:Int} (h1:0<=b) (h2:b<M) (h3:0<=d) (h4:d<M) (ne:a≠c):decide (a*M+b<c*M+d)=decide (a<c):=by
 rw [decide_eq_decide]
 constructor
 ·intro h
  refine Int.lt_of_not_ge fun g=>?_
  have:c+1<=a:=by lia
  have:=zZ this (show 0<=M by lia)
  rw [CG] at this
  lia
 ·intro h
  have:a+1<=c:=by lia
  have:=zZ this (show 0<=M by lia)
  rw [CG] at this
  lia
theorem tupRl {h:Heap} {l:Addr} {f:Addr->Int × Int} {M:Int} (kp:∀ b o,b≠l->h.get? b=some o->s.heap.get? b=some o):@Rl (Ar h l f M) prog w A E s:=@Rl.mk (Ar h l f M) prog w A E s fun {x y st Q} hk hx hy q=>by
 obtain ⟨⟨a,e1,l1,m1,m2,ox,nx,t1,t2,gx,cx,dx⟩,⟨b,e2,l2,m3,m4,oy,ny,t3,t4,gy,cy,dy⟩⟩:=And.intro hx hy
 obtain ⟨x1,x2⟩:=x
 obtain ⟨y1,y2⟩:=y
 cases e1
 cases e2
 replace gx:=kp _ _ l1 gx
 replace gy:=kp _ _ l2 gy
 have q':Q (some (decide ((f a).1*M+(f a).2<(f b).1*M+(f b).2))) st:=q
 rw [lt'_eq]
 refine aU (pO ?_)
 rw [show kindOf st=tuples' true from hk]
 refine aU (vH (M9 (PySem.W.kat_lt gx dx gy dy (adA (Vt ?_)))))
 by_cases c:(f a).1=(f b).1
 ·rw [show ((f a).1 == (f b).1)=true from beq_iff_eq.mpr c]
  refine adD (adA (Vt ?_))
  by_cases d:(f a).2=(f b).2
  ·rw [show ((f a).2 == (f b).2)=true from beq_iff_eq.mpr d]
   refine adD (PySem.W.kat_nil ⟨rfl,aY ?_⟩)
   rw [c,d,decide_eq_false (Int.lt_irrefl _)] at q'
   exact q'
  ·rw [show ((f a).2 == (f b).2)=false from beq_eq_false_iff_ne.mpr d]
   refine adF (PySem.W.kat_one _ _ (ajW ⟨rfl,aY ?_⟩))
   have e:decide ((f a).1*M+(f a).2<(f b).1*M+(f b).2)=decide ((f a).2<(f b).2):=by rw [c,decide_eq_decide];lia
   rw [e] at q'
   exact q'
 ·rw [show ((f a).1 == (f b).1)=false from beq_eq_false_iff_ne.mpr c]
  refine adF (oneLt_int ⟨rfl,aY ?_⟩)
  rw [lex_lt m1 m2 m3 m4 c] at q'
  exact q'
theorem aaS {h h2:Heap} {l:Addr} {f:Addr->Int × Int} {M:Int} (kp:∀ b o,b≠l->h.get? b=some o->h2.get? b=some o):∀ {vs:List Value},(∀ v∈vs,(Ar h l f M).Ok (v,v))->∃ fs:List Value,PySem.W.KatTups h2 vs fs/\fs.length=vs.length/\∀ v∈fs,∃ n t,v = .int n t
 | [],_=>⟨[],akS,rfl,fun _ h=>(nomatch h)⟩
 | v::vs,hv=>by
  obtain ⟨fs,k1,k2,k3⟩:=aaS kp fun v m=>hv v (gY _ m)
  obtain ⟨a,e1,l1,m1,m2,ox,nx,t1,t2,hx,cx,dx⟩:=hv v gq
  cases e1
  refine ⟨.int (f a).1 t1::fs,akR (kp _ _ l1 hx) cx dx rfl k1,by rw [jG,jG,k2],fun v m=>?_⟩
  rcases cA.mp m with rfl | m
  ·exact ⟨_,_,rfl⟩
  ·exact k3 v m
theorem af8 {a:Addr} {vs:List Value} {f:Addr->Int × Int} {M:Int} {n:Nat} {P:Fin->Shared->Prop} (at_:s.heap.get? a=some (cU "list" vs.toArray n)) (hok:∀ v∈vs,(Ar s.heap a f M).Ok (v,v)) (few:vs.length<=sizeLine)
  (told:∀ out:Array Value,out.toList.Perm vs->(out.toList.Pairwise fun x y=>(Ar s.heap a f M).R (x,x)<=(Ar s.heap a f M).R (y,y))->P (.done (.ret .none)) { s with heap:=yQ s.heap a vs out }) :
  wpAny (model prog w) A (g8.«list.sort» ⟨[.ref a],[]⟩) P E s:=by
 refine @aaR prog w A E s (Ar s.heap a f M) a vs n P at_ few hok (fun h2 s2 Q kp q=>?_) (fun s2 kp=>tupRl kp) told
 obtain ⟨fs,k1,k2,k3⟩:=aaS kp hok
 refine PySem.W.kat_kind (fs:=fs) (T:=.type "int") k1 tb_g% (fun v hv=>?_) (by decide) ?_
 ·obtain ⟨n,t,rfl⟩:=k3 v hv
  intro A' Q' E' s' _ q
  exact bw q
 ·exact q
end
end Tm
namespace L2
open PySem PySem.Spec PyProof.Rows
section
variable {X:Cx}
theorem S5 {A:bJ} {E:Value->Shared->Prop} {s:Shared} {T:String} {r d:Addr} {n:Nat} {P:Nat->Value->Prop} {OK:Heap->Prop} {ns:List Int} {Q:Value->Shared->Prop}
  (K:Vi X.prog X.w T r d n P OK) (hh:A.handled=none) (hok:OK s.heap) (hn:n<=sizeLine) (hP:∀ us:List Value,us.length=n->(∀ (j:Nat) (v:Value),us[j]? = some v->P j v)->je us ns)
  (h:∀ (h':Heap) (tk:Nat) (l:Addr) (out:Array Value) (ns':List Int) (e:Nat),(∀ b ob,s.heap.get? b=some ob->h'.get? b=some ob)->(∀ b ob,s.heap.get? b=some ob->b≠l)->h'.get? l=some (cU "list" out e) ->
   je out.toList ns'->ns'.Perm ns->ns'.Pairwise (· <= ·)->Q (.ref l) { s with heap:=h',toks:=tk }) :
  wpAny (model X.prog X.w) A (call (.builtin "sorted") [.ref r]) Q E s:=by
 apply Ov Hv Ht Hu (Od _);unfold g8.«sorted»
 apply aR (m:=GZ "sorted" 1 1 _);apply bw
 apply aR;refine Vd (A:=A.in1) K hh hok hn fun h1 tk acc hk hacc=>?_
 have hl:acc.toList.length=n:=gU.trans hacc.1
 have hI:=hP acc.toList hl fun j v e=>hacc.2 j v (by rw [<- pP];exact e)
 apply aR;refine yF ?_ (hl ▸ hn)
 have hoL:(h1.push (cU "list" acc.toList.toArray 0)).get? h1.objs.size=some (cU "list" acc.toList.toArray 0):=iC _ rfl
 apply aR;refine mz (GF Hs ⟨_,hoL,rfl⟩ Hr (Tm.SX hoL hI (hl ▸ hn) fun out ns' a1 a2 a3=>⟨_,rfl,?_⟩) (Oa _))
 refine bw ⟨_,rfl,?_⟩
 obtain ⟨e,he⟩:=Wb (vs:=acc.toList) (out:=out) hoL
 have hb:∀ b ob,s.heap.get? b=some ob->b<h1.objs.size:=fun b ob e'=>bR (hk b ob e')
 refine h _ tk _ out ns' e (fun b ob e'=>?_) (fun b ob e'=>cW (hb b ob e')) he a1 a2 a3
 have hlt:=hb b ob e'
 rw [V8 (cW hlt) (by rw [yP];exact xU hlt)];exact gK _ (hk b ob e')
theorem P0 {A:bJ} {E:Value->Shared->Prop} {s:Shared} {l:Addr} {vs:List Value} {ns:List Int} {Q:Value->Shared->Prop} (hl:s.heap.IsList l vs.toArray) (hI:je vs ns) (few:vs.length<=sizeLine)
  (h:∀ (out:Array Value) (ns':List Int),je out.toList ns'->ns'.Perm ns->ns'.Pairwise (· <= ·)->Q (.ref (s.heap.objs.size+1)) { s with heap:=sortedAll s.heap vs out }) :
  wpAny (model X.prog X.w) A (call (.builtin "sorted") [.ref l]) Q E s:=by
 apply Ov Hv Ht Hu (Od _);unfold g8.«sorted»
 apply aR (m:=GZ "sorted" 1 1 _);apply bw
 apply aR;refine aeg hl ?_ few
 apply aR;refine yF ?_ few
 have z:((s.heap.push (cU "list" #[] 0)).update s.heap.objs.size (iQ (· ++ vs.toArray))).objs.size=s.heap.objs.size+1:=(Nx _ _ _).trans (yP _ _)
 show wpAny _ _ _ _ _ { s with heap:=((s.heap.push (cU "list" #[] 0)).update s.heap.objs.size (iQ (· ++ vs.toArray))).push (cU "list" vs.toArray 0) }
 have at_:(((s.heap.push (cU "list" #[] 0)).update s.heap.objs.size (iQ (· ++ vs.toArray))).push (cU "list" vs.toArray 0)).get? (s.heap.objs.size+1)=some (cU "list" vs.toArray 0):=z ▸ iC _ rfl
 rw [z]
 apply aR;refine mz (GF Hs ⟨_,at_,rfl⟩ Hr (Tm.SX at_ hI few fun out ns' a1 a2 a3=>⟨_,rfl,bw ⟨_,rfl,h out ns' a1 a2 a3⟩⟩) (Oa _))
theorem Zv {A:bJ} {E:Value->Shared->Prop} {s:Shared} {l:Addr} {vs:List Value} {OK:Array Value->Prop} {Q:Value->Shared->Prop} (hl:s.heap.IsList l vs.toArray) (few:vs.length<=sizeLine)
  (S6:∀ (s2:Shared) (a:Addr) (P:Fin->Shared->Prop) (A:bJ) (E:Value->Shared->Prop),s2.heap.get? a=some (cU "list" vs.toArray 0)->(∀ b o,s.heap.get? b=some o->s2.heap.get? b=some o/\b≠a)->(∀ out,OK out->P (.done (.ret .none)) { s2 with heap:=yQ s2.heap a vs out })->wpAny (model X.prog X.w) A (g8.«list.sort» ⟨[.ref a],[]⟩) P E s2)
  (h:∀ out,OK out->Q (.ref (s.heap.objs.size+1)) { s with heap:=sortedAll s.heap vs out }) :
  wpAny (model X.prog X.w) A (call (.builtin "sorted") [.ref l]) Q E s:=by
 apply Ov Hv Ht Hu (Od _);unfold g8.«sorted»
 apply aR (m:=GZ "sorted" 1 1 _);apply bw
 apply aR;refine aeg hl ?_ few
 apply aR;refine yF ?_ few
 have z:((s.heap.push (cU "list" #[] 0)).update s.heap.objs.size (iQ (· ++ vs.toArray))).objs.size=s.heap.objs.size+1:=(Nx _ _ _).trans (yP _ _)
 show wpAny _ _ _ _ _ { s with heap:=((s.heap.push (cU "list" #[] 0)).update s.heap.objs.size (iQ (· ++ vs.toArray))).push (cU "list" vs.toArray 0) }
 have at_:(((s.heap.push (cU "list" #[] 0)).update s.heap.objs.size (iQ (· ++ vs.toArray))).push (cU "list" vs.toArray 0)).get? (s.heap.objs.size+1)=some (cU "list" vs.toArray 0):=z ▸ iC _ rfl
 have keep:∀ b o,s.heap.get? b=some o->(((s.heap.push (cU "list" #[] 0)).update s.heap.objs.size (iQ (· ++ vs.toArray))).push (cU "list" vs.toArray 0)).get? b=some o/\b≠s.heap.objs.size+1:=fun b o q=>by
  have hlt:b<s.heap.objs.size:=bR q
  refine ⟨?_,cW (xU hlt)⟩
  rw [Nv _ _ _ (by rw [z];exact cW (xU hlt)),adZ _ _ _ _ (cW hlt),Nv _ _ _ (cW hlt)]
  exact q
 rw [z]
 apply aR;refine mz (GF Hs ⟨_,at_,rfl⟩ Hr (S6 _ _ _ _ _ at_ keep fun out ok=>⟨_,rfl,bw ⟨_,rfl,h out ok⟩⟩) (Oa _))
noncomputable def aaT:List V->Hp->VK->Prop:=fun xs H Q=>∃ a kvs ns,xs=[V.ref a]/\Rd H a (.dK kvs)/\(kvs.map fun p=>kV p.1)=ns.map V.int/\ns.length<1000 /\
 ∀ (l:Addr) (ns':List Int),H l=none->ns'.Perm ns->ns'.Pairwise (· <= ·)->Q (.ref l) (upd H l (.lst (ns'.map V.int)))
noncomputable def aaU (K:aW):List V->Hp->VK->Prop:=fun xs H Q=>∃ a ns,xs=[V.ref a]/\SqL K H a (ns.map V.int)/\ns.length<1000 /\
 ∀ (l:Addr) (ns':List Int),H l=none->ns'.Perm ns->ns'.Pairwise (· <= ·)->Q (.ref l) (upd H l (.lst (ns'.map V.int)))
theorem S7 (hc:X.calm=true):iu X (.builtin "sorted") aaT:=by
 walk_at "o"
 obtain ⟨a,kvs,ns,rfl,ha,ei,_,q⟩:=h
 obtain ⟨u,rfl,ru⟩:=vals1 r
 cases ru
 obtain ⟨z,hd,vs,rel,dd⟩:=sS I.hok ha
 obtain ⟨ep,hat⟩:=dd.dictAt
 have hl:=rel.length
 have hns:ns.length=kvs.length:=by have:=congrArg pJ ei;simpa using this.symm
 refine S5 (X:=X) (ns:=ns) (Vg (knd:=dj X.prog X.w) (kvs:=vs) (ep:=ep) hd) (I.ok.hd hc) hat (by rw [<- hl];exact z) (fun us hu hv=>?_) fun h' tk l' out ns' e' kp hne hl' hI hp ho=>?_
 ·have vv:=wX rel hu hv
  rw [ei] at vv
  exact intsAre_of vv
 ·refine ⟨.ref l',_,I.Ep (t':=tk) kp hne (show dO X.prog X.w _ h' l' (.lst (ns'.map V.int)) from ⟨?_,out.toList,e',mJ hI,by simpa using hl'⟩),rfl,q l' ns' (I.none_of hne) hp ho⟩
  rw [bK,hp.length_eq,hns];exact z
theorem S8:iu X (.builtin "sorted") (aaU X.K):=by
 walk_at "o"
 obtain ⟨a,ns,rfl,ha,_,q⟩:=h
 obtain ⟨u,rfl,ru⟩:=vals1 r
 cases ru
 obtain ⟨its,rv,p,hz⟩:=I.list ha
 have hI:=intsAre_of rv
 have hl:its.length=ns.length:=by rw [<- rv.length,bK]
 rw [bK] at hz
 refine P0 p.isList hI (hl ▸ hz) fun out ns' a1 a2 a3=>?_
 obtain ⟨e,he⟩:=Wf s.heap its out
 refine ⟨.ref (s.heap.objs.size+1),_,I.laid (t':=s.toks) (fun _ _=>Wc) (nQ _) (show dO X.prog X.w _ _ (s.heap.objs.size+1) (.lst (ns'.map V.int)) from ⟨?_,out.toList,e,mJ a1,by simpa using he⟩),rfl,q _ ns' (I.hok.fresh (nQ _)) a2 a3⟩
 rw [bK,a2.length_eq];exact hz
noncomputable def aib (K:aW):List V->Hp->VK->Prop:=fun xs H Q=>aaT xs H Q\/aaU K xs H Q
theorem uf (hc:X.calm=true):iu X (.builtin "sorted") (aib X.K):=(S7 hc).or S8
end
section
variable {X:Cx}
noncomputable def aic:List V->Hp->VK->Prop:=fun xs H Q=>∃ (a:Addr) (ts:List Addr) (f:Addr->Int × Int) (M:Int),xs=[.ref a]/\H a=some (.lst (ts.map V.ref))/\(∀ t∈ts,H t=some (.tup [.int (f t).1,.int (f t).2])/\0<=(f t).2/\(f t).2<M) /\
 ∀ (l:Addr) (ts':List Addr),H l=none->ts'.Perm ts->(ts'.Pairwise fun t u=>(f t).1*M+(f t).2<=(f u).1*M+(f u).2)->Q (.ref l) (upd H l (.lst (ts'.map V.ref)))
theorem Ir:∀ {ts:List Addr} {us:List Value},Vals (ts.map V.ref) us->us=ts.map Value.ref
 | [],_,h=>by cases h;rfl
 | t::ts,_,h=>by
  cases h with
  | cons r1 r2=>cases r1;rw [Ir r2];rfl
theorem Iu:∀ ts:List Addr,Vals (ts.map V.ref) (ts.map Value.ref)
 | []=>.nil
 | _::ts=>.cons rfl (Iu ts)
theorem S9:∀ {ts:List Addr} {us:List Value},(∀ v∈us,v∈ts.map Value.ref)->∃ ts':List Addr,us=ts'.map Value.ref
 | _,[],_=>⟨[],rfl⟩
 | ts,u::us,h=>by
  obtain ⟨t,_,e⟩:=oN.mp (h u gq)
  obtain ⟨ts',e'⟩:=S9 fun v m=>h v (gY _ m)
  exact ⟨t::ts',by rw [<- e,e'];rfl⟩
theorem Zw:∀ {ts:List Addr},(ts.map Value.ref).map (fun v=>match v with | Value.ref a=>a | _=>0)=ts
 | []=>rfl
 | t::ts=>by rw [jg,jg,Zw]
theorem Tc:iu X (.builtin "sorted") aic:=by
 walk_at "o"
 obtain ⟨a,ts,f,M,rfl,ha,ht,q⟩:=h
 obtain ⟨u,rfl,ru⟩:=vals1 r
 cases ru
 obtain ⟨its,rv,p,hz⟩:=I.list (a:=a) (xs:=ts.map V.ref) (.inl (.inl ha))
 have hI:=Ir rv
 subst hI
 have hzl:(ts.map Value.ref).length<=sizeLine:=by rw [bK] at hz ⊢; exact hz
 have hfresh:H (s.heap.objs.size+1)=none:=I.hok.fresh (nQ _)
 have each:∀ v∈ts.map Value.ref,∃ a,v = .ref a/\0<=(f a).2/\(f a).2<M/\∃ o n t1 t2,s.heap.get? a=some o/\o.cls = .type "tuple" /\ o.data = .seq #[.int (f a).1 t1,.int (f a).2 t2] n:=fun v hv=>by
  obtain ⟨t,mt,rfl⟩:=oN.mp hv
  obtain ⟨h1,h2,h3⟩:=ht t mt
  obtain ⟨itx,rx,px,_⟩:=I.tuple (a:=t) (.inl (.inl h1))
  obtain ⟨t1,t2,rfl⟩:∃ t1 t2,itx=[.int (f t).1 t1,.int (f t).2 t2]:=by
   cases rx with
   | cons r1 r2=>cases r2 with
    | cons r2 r3=>cases r3;obtain ⟨t1,rfl⟩:=r1;obtain ⟨t2,rfl⟩:=r2;exact ⟨t1,t2,rfl⟩
  obtain ⟨o,g1,g2,n,g3⟩:=px
  exact ⟨t,rfl,h2,h3,o,n,t1,t2,g1,g2,g3⟩
 refine Zv (vs:=ts.map Value.ref) (OK:=fun out=>out.toList.Perm (ts.map Value.ref)/\out.toList.Pairwise fun x y=>(Tm.Ar s.heap 0 f M).R (x,x)<=(Tm.Ar s.heap 0 f M).R (y,y)) p.isList hzl (fun s2 b P A E hb kp hP=>?_) fun out hout=>?_
 ·refine Tm.af8 (f:=f) (M:=M) hb (fun v hv=>?_) hzl fun out p1 p2=>hP out ⟨p1,p2⟩
  obtain ⟨a,e,g1,g2,o,n,t1,t2,g3,g4,g5⟩:=each v hv
  exact ⟨a,e,(kp _ _ g3).2,g1,g2,o,n,t1,t2,(kp _ _ g3).1,g4,g5⟩
 ·obtain ⟨p1,p2⟩:=hout
  obtain ⟨ts',e⟩:=S9 fun v m=>p1.mem_iff.mp m
  rw [e] at p1 p2
  have pp:ts'.Perm ts:=by
   have:=p1.map fun v=>match v with | Value.ref a=>a | _=>0
   rwa [Zw,Zw] at this
  have p3:ts'.Pairwise fun t u=>(f t).1*M+(f t).2<=(f u).1*M+(f u).2:=(BJ (f:=Value.ref)).mp p2
  obtain ⟨e1,he⟩:=Wf s.heap (ts.map Value.ref) out
  refine ⟨.ref (s.heap.objs.size+1),_,I.laid (t':=s.toks) (fun _ _=>Wc) (nQ _) (show dO X.prog X.w _ _ (s.heap.objs.size+1) (.lst (ts'.map V.ref)) from ⟨?_,ts'.map Value.ref,e1,Iu ts',?_⟩),rfl,q _ ts' hfresh pp p3⟩
  ·rw [bK,pp.length_eq];rw [bK] at hz;exact hz
  ·rw [<- e];simpa using he
noncomputable def fOf (H:Hp) (t:Addr):Int × Int:=match H t with
 | some (.tup [.int i,.int m])=>(i,m)
 | _=>(0,0)
noncomputable def aie:List V->Hp->VK->Prop:=fun xs H Q=>∃ (a:Addr) (ps:List (Addr × (Int × Int))) (M:Int),xs=[.ref a]/\H a=some (.lst (ps.map fun p=>V.ref p.1))/\(∀ p∈ps,H p.1=some (.tup [.int p.2.1,.int p.2.2])/\0<=p.2.2/\p.2.2<M) /\
 ∀ (l:Addr) (ps':List (Addr × (Int × Int))),H l=none->ps'.Perm ps->(ps'.Pairwise fun p q=>p.2.1*M+p.2.2<=q.2.1*M+q.2.2)->Q (.ref l) (upd H l (.lst (ps'.map fun p=>V.ref p.1)))
theorem Te:iu X (.builtin "sorted") aie:=by
 walk_at "o"
 refine Tc pins s σ H xs us Q I r ?_
 obtain ⟨a,ps,M,rfl,ha,ht,q⟩:=h
 have hf:∀ p∈ps,fOf H p.1=p.2:=fun p m=>by unfold fOf;rw [(ht p m).1]
 have hps:(ps.map (·.1)).map (fun t=>(t,fOf H t))=ps:=by
  rw [pI]
  conv=>rhs;rw [<- List.map_id ps]
  exact Gm fun p m=>nW rfl (hf p m)
 refine ⟨a,ps.map (·.1),fOf H,M,rfl,by rw [ha,pI];rfl,fun t m=>?_,fun l ts hl hp hs=>?_⟩
 ·obtain ⟨p,mp,rfl⟩:=oN.mp m
  show H p.1=some (.tup [.int (fOf H p.1).1,.int (fOf H p.1).2])/\0<=(fOf H p.1).2/\(fOf H p.1).2<M
  rw [hf p mp]
  exact ht p mp
 ·have:=q l (ts.map fun t=>(t,fOf H t)) hl (by have:=hp.map fun t=>(t,fOf H t);rwa [hps] at this) (BJ.mpr hs)
  rw [pI] at this
  exact this
end
end L2
namespace Tm
open PySem PyProof.Rows
section
variable {prog:aV} {w:World} {A:bJ} {E:Value->Shared->Prop} {s:Shared}
theorem Qa {a:Addr} {vs:List Value} {ns:List Int} {n:Nat} {P:Fin->Shared->Prop} (at_:s.heap.get? a=some (cU "list" vs.toArray n)) (hI:je vs ns) (few:vs.length<=sizeLine)
  (told:∀ (out:Array Value) (ns':List Int),je out.toList ns'->ns'.Perm ns->ns'.Pairwise (fun x y=>x>=y)->P (.done (.ret .none)) { s with heap:=yQ s.heap a vs out }) :
  wpAny (model prog w) A (g8.«list.sort» ⟨[.ref a],[(HB "reverse",.bool true)]⟩) P E s:=by
 letI:=SQ
 have la:=bR at_
 have len:vs.toArray.size=vs.length:=gH
 obtain ⟨ep,at1⟩:∃ ep,(s.heap.update a (iQ fun _=>#[])).get? a=some (cU "list" #[] ep):=⟨_,aeb at_ (fun _=>#[])⟩
 have at2:(((s.heap.update a (iQ fun _=>#[])).push (cU "tuple" vs.toArray 0)).push (cU "list" #[] 0)).get? a=some (cU "list" #[] ep):=by
  rw [Nv,Nv]
  ·exact at1
  ·rw [Nx];exact cW la
  ·rw [yP,Nx];exact cW (xU la)
 have start:((vs.toArray.zip vs.toArray).reverse).Perm (lB vs):=Og.mpr (by rw [Cz];exact adg _)
 rw [list_sort_rev]
 apply aR;apply aee at_ rfl
 apply aR;refine Cv at_ rfl ?_ (by rw [len];exact few) (bZ _)
 apply aR;apply Cw at1 rfl
 apply aR;refine adR ?_ (by simpa using few)
 apply aR;refine yF ?_ (bZ _)
 apply mz
 show wpAny (model prog w) A _ P E { s with heap:=((s.heap.update a (iQ fun _=>#[])).push (cU "tuple" vs.toArray 0)).push (cU "list" #[] 0) }
 dsimp only
 have close:∀ st:SortSt,(arrOf st).Perm (lB vs)->SortedTo (arrOf st) (lB vs).size->P (.done (.ret .none)) { s with heap:=yQ s.heap a vs ((arrOf st).map (·.2)).reverse }:=fun st p so=>by
  obtain ⟨p1,so1⟩:=af7 p so
  have h1:=intsAre_map ((arrOf st).map (·.2)).toList fun v hv=>hI.all v (p1.mem_iff.mp hv)
  have h2:(((arrOf st).map (·.2)).toList.map numOf).Perm ns:=by
   have:=p1.map numOf
   rwa [hI.nums] at this
  refine told _ (((arrOf st).map (·.2)).toList.map numOf).reverse ?_ ((adg _).trans h2) ?_
  ·rw [Cz];exact h1.reverse
  ·refine List.pairwise_reverse.mpr (BJ.mpr ?_)
   exact so1
 simp only [if_true]
 apply aR;apply tR
 by_cases two:vs.toArray.size<2
 ·simp only [if_pos two]
  apply aR;apply bw;rw [ae8];apply aR;apply bw;dsimp only
  apply aR;apply Cw at2 rfl
  apply aR;refine Cv at2 rfl ?_ (bZ _) (by rw [Wl,Oh,Wl];show (lB vs).size<=_;rw [vG];lia)
  simp only [bne_self_eq_false,uO,if_false]
  refine bw (close (tW general' (vs.toArray.zip vs.toArray).reverse #[] 7 none) start fun i j ij hj=>?_)
  rw [vG] at hj
  rw [show i=j by lia];exact fM _
 ·simp only [if_neg two]
  have kk:keyKind' vs.toArray=pure oneType':=by
   match vs,hI,two with
   | v::v'::r,hI,_=>exact aef hI
   | [],_,z=>simp at z
   | [_],_,z=>simp at z
  rw [kk]
  apply aR;apply bw
  haveI:@Rl SQ prog w A E _:=@ajw prog w A E { s with heap:=((s.heap.update a (iQ fun _=>#[])).push (cU "tuple" vs.toArray 0)).push (cU "list" #[] 0) }
  have go:=xY (prog:=prog) (w:=w) (A:=A) (E:=E) (s:={ s with heap:=((s.heap.update a (iQ fun _=>#[])).push (cU "tuple" vs.toArray 0)).push (cU "list" #[] 0) })
   (a₀:=lB vs) (st:=tW oneType' (vs.toArray.zip vs.toArray).reverse #[] 7 none) (Q:=fun _ st=>(arrOf st).Perm (lB vs)/\nT st=none/\SortedTo (arrOf st) (lB vs).size)
   (fun x hx=>by
    rw [V9] at hx
    obtain ⟨e1,e2⟩:=Wg hx
    obtain ⟨x1,x2⟩:=x
    cases e1
    exact hI.all _ e2) ⟨start,rfl,rfl,rfl⟩ (by rw [vG];lia) fun st p1 p2 p3=>⟨p1,p2,p3⟩
  refine aR (dW go ?_ fun _ _ e=>e)
  rintro ⟨⟨⟩,st⟩ s2 ⟨rfl,p1,p2,p3⟩
  dsimp only
  apply aR;apply Cw at2 rfl
  apply aR;refine Cv at2 rfl ?_ (bZ _) (by rw [Wl,Oh,p1.size_eq,vG];lia)
  rw [p2];simp only [bne_self_eq_false,uO,if_false]
  exact bw (close st p1 p3)
end
end Tm
namespace L2
open PySem PySem.Spec PyProof.Rows
section
variable {X:Cx}
theorem Qc {A:bJ} {E:Value->Shared->Prop} {s:Shared} {T:String} {r d:Addr} {n:Nat} {P:Nat->Value->Prop} {OK:Heap->Prop} {ns:List Int} {Q:Value->Shared->Prop}
  (K:Vi X.prog X.w T r d n P OK) (hh:A.handled=none) (hok:OK s.heap) (hn:n<=sizeLine) (hP:∀ us:List Value,us.length=n->(∀ (j:Nat) (v:Value),us[j]? = some v->P j v)->je us ns)
  (h:∀ (h':Heap) (tk:Nat) (l:Addr) (out:Array Value) (ns':List Int) (e:Nat),(∀ b ob,s.heap.get? b=some ob->h'.get? b=some ob)->(∀ b ob,s.heap.get? b=some ob->b≠l)->h'.get? l=some (cU "list" out e) ->
   je out.toList ns'->ns'.Perm ns->ns'.Pairwise (· >= ·)->Q (.ref l) { s with heap:=h',toks:=tk }) :
  wpAny (model X.prog X.w) A (call (.builtin "sorted") [.ref r] [(HB "reverse",.bool true)]) Q E s:=by
 apply call_function_entry_kw Hv Ht Hu (args_sorted_rev _ _);unfold g8.«sorted»
 apply aR (m:=GZ "sorted" 1 1 _);apply bw
 apply aR;refine Vd (A:=A.in1) K hh hok hn fun h1 tk acc hk hacc=>?_
 have hl:acc.toList.length=n:=gU.trans hacc.1
 have hI:=hP acc.toList hl fun j v e=>hacc.2 j v (by rw [<- pP];exact e)
 apply aR;refine yF ?_ (hl ▸ hn)
 have hoL:(h1.push (cU "list" acc.toList.toArray 0)).get? h1.objs.size=some (cU "list" acc.toList.toArray 0):=iC _ rfl
 apply aR;refine mz (wpAny_call_entry_kw Hs ⟨_,hoL,rfl⟩ Hr (Tm.Qa hoL hI (hl ▸ hn) fun out ns' a1 a2 a3=>⟨_,rfl,?_⟩) (args_list_sort_rev _ _))
 refine bw ⟨_,rfl,?_⟩
 obtain ⟨e,he⟩:=Wb (vs:=acc.toList) (out:=out) hoL
 have hb:∀ b ob,s.heap.get? b=some ob->b<h1.objs.size:=fun b ob e'=>bR (hk b ob e')
 refine h _ tk _ out ns' e (fun b ob e'=>?_) (fun b ob e'=>cW (hb b ob e')) he a1 a2 a3
 have hlt:=hb b ob e'
 rw [V8 (cW hlt) (by rw [yP];exact xU hlt)];exact gK _ (hk b ob e')
end
section
variable {X:Cx} {l:Expr} {td:TE} {p kp cpos apos pos:Pos} {j:Nat} {bpos:Pos}
noncomputable def aif (td:TE):TE:=fun σ H Q=>td σ H fun x H1=>∃ a kvs ns,x = .ref a/\Rd H1 a (.dK kvs)/\kvs.map (·.2)=ns.map V.int/\ns.length<1000 /\
 ∀ (l:Addr) (ns':List Int),H1 l=none->ns'.Perm ns->ns'.Pairwise (· >= ·)->Q (.ref l) (upd H1 l (.lst (ns'.map V.int)))
theorem abY (hm0:X.mg "sorted" = none) (hl:PE X l td) (m:MI X l "values" apos cpos) (hc:X.calm=true) (hg:Gl X "sorted" := by rfl) :
  PE X (.Call (.Name "sorted" p) [.Call (.Attribute l "values" apos) [] [] cpos] [⟨some "reverse",.Constant (.bool true) j bpos,kp⟩] pos) (aif td):=by
 walk_at "n"
 refine zY (pW I hg hm0 boot_sorted ?_)
 refine Wh (yV (Vs (T := "dict") (id := "dict.values") m.base rfl m.line Wz aeE PySem.F.type_dict_values (thn (hl pins s σ H _ I h) fun v s1 ⟨x,H1,I1,r1,q1⟩=>?_)))
 obtain ⟨a,kvs,ns,rfl,e,ei,_,q⟩:=q1
 obtain rfl:v=Value.ref a:=r1
 obtain ⟨t1,t2,hS⟩:=Ze I1 (.inl ⟨kvs,e⟩)
 refine ⟨t1,t2,?_⟩
 obtain ⟨z,_,vs,rel,dd⟩:=sS I1.hok e
 obtain ⟨ep,dm⟩:=dd.dictAt
 have hlen:=rel.length
 have hns:ns.length=kvs.length:=by have:=congrArg pJ ei;simpa using this.symm
 refine adO aeE PySem.F.entry_dict_values rfl (Vo ⟨rfl,t1,PySem.F.args_dict_values_1 _,_,meets_dict_values (dj X.prog X.w) a hS,⟨vs,dd⟩,?_⟩)
 refine CJ (Wk ?_)
 refine aec (kws_nil ?_)
 show wpAny _ _ (call (.builtin "sorted") [.ref s1.heap.objs.size] [(HB "reverse",.bool true)]) _ _ _
 have I2:=I1.kept (h':=s1.heap.push { cls:=.type "dict_values",data:=.fields #[.ref a] }) (t':=s1.toks) fun b ob e=>gK _ e
 refine Qc (X:=X) (ns:=ns) (PySem.W.kdl_values (knd:=dj X.prog X.w) (kvs:=vs) (ep:=ep)) (I1.ok.hd hc) ⟨⟨_,iC _ rfl,rfl,rfl⟩,dm.push _⟩ (by rw [<- hlen];exact z) (fun us hu hv=>?_) fun h' tk l' out ns' e' kp hne hl' hI hp ho=>?_
 ·have vv:=K6 rel hu hv
  rw [ei] at vv
  exact intsAre_of vv
 ·refine ⟨.ref l',_,I2.Ep (t':=tk) kp hne (show dO X.prog X.w _ h' l' (.lst (ns'.map V.int)) from ⟨?_,out.toList,e',mJ hI,by simpa using hl'⟩),rfl,q l' ns' (I2.none_of hne) hp ho⟩
  rw [bK,hp.length_eq,hns];exact z
end
end L2
set_option autoImplicit false
namespace RG
noncomputable abbrev Ls:=List (List Int)
noncomputable def Sd (l:List Int):Prop:=l.Pairwise (· <= ·)
noncomputable def srt (ns:List Int):List Int:=ns.mergeSort fun a b=>decide (a<=b)
theorem mL:∀ {xs ys:List Int},xs.Perm ys->xs.Pairwise (· <= ·)->ys.Pairwise (· <= ·)->xs=ys
 | [],ys,p,_,_=>by rw [U8.mp p]
 | x::xs,[],p,_,_=>absurd p (by simp)
 | x::xs,y::ys,p,h1,h2=>by
  have a1:=jM.mp h1
  have a2:=jM.mp h2
  have e:x=y:=by
   have m1:x∈y::ys:=p.mem_iff.mp gq
   have m2:y∈x::xs:=p.mem_iff.mpr gq
   rcases cA.mp m1 with z | z
   ·exact z
   ·rcases cA.mp m2 with z' | z'
    ·exact z'.symm
    ·exact Ws (a1.1 y z') (a2.1 x z)
  subst e
  rw [mL (WR p) a1.2 a2.2]
theorem ju (ns:List Int):(srt ns).Perm ns:=ac5 _ _
theorem v8 (ns:List Int):Sd (srt ns):=by
 have:=acW (le:=fun a b:Int=>decide (a<=b)) (fun a b c h1 h2=>by simp only [decide_eq_true_eq] at *; lia) (fun a b=>by simp only [aeo,decide_eq_true_eq];lia) ns
 exact this.imp fun h=>of_decide_eq_true h
theorem zx {ns ms:List Int} (p:ms.Perm ns) (h:ms.Pairwise (· <= ·)):ms=srt ns:=mL (p.trans (ju ns).symm) h (v8 ns)
theorem jD (ns:List Int):(srt ns).length=ns.length:=(ju ns).length_eq
theorem Av {z:Int} {ns:List Int}:z∈srt ns↔z∈ns:=(ju ns).mem_iff
noncomputable def pick (o:Bool):List Int->List Int
 | a::b::r=>(if o then b else a)::pick o r
 | _=>[]
noncomputable def lft:List Int->List Int
 | _::_::r=>lft r
 | l=>l
theorem xq:∀ l:List Int,(lft l).length=l.length % 2
 | []=>rfl
 | [_]=>rfl
 | _::_::r=>by
  have:=xq r
  show (lft r).length=(r.length+1+1) % 2
  lia
theorem nG (o:Bool):∀ l:List Int,(pick o l).length=l.length / 2
 | []=>by simp [pick]
 | [_]=>by simp [pick]
 | _::_::r=>by
  have:=nG o r
  show (pick o r).length+1=(r.length+1+1) / 2
  lia
theorem Tf:∀ l:List Int,lft l=l.drop (l.length-l.length % 2)
 | []=>rfl
 | [_]=>rfl
 | a::b::r=>by
  have:=Tf r
  show lft r=(a::b::r).drop (r.length+1+1-(r.length+1+1) % 2)
  rw [show r.length+1+1-(r.length+1+1) % 2=(r.length-r.length % 2)+1+1 by lia,ac6,ac6]
  exact this
theorem aaV {z:Int}:∀ {l:List Int},z∈lft l->z∈l
 | [],h=>h
 | [_],h=>h
 | _::_::r,h=>gY _ (gY _ (aaV (l:=r) h))
theorem Tg {o:Bool} {z:Int}:∀ {l:List Int},z∈pick o l->z∈l
 | [],h=>nomatch h
 | [_],h=>nomatch h
 | a::b::r,h=>by
  rcases cA.mp h with e | e
  ·cases o
   ·rw [e];exact gq
   ·rw [e];exact gY _ gq
  ·exact gY _ (gY _ (Tg (l:=r) e))
theorem af9:∀ {l:List Int},Sd l->Sd (lft l)
 | [],h=>h
 | [_],h=>h
 | _::_::r,h=>af9 (l:=r) (jM.mp (jM.mp h).2).2
noncomputable def cnt (x:Int) (l:List Int):Nat:=(l.filter fun z=>decide (z<=x)).length
theorem alo (x:Int) (l:List Int):cnt x l<=l.length:=vd _ _
noncomputable def val:Ls->Nat
 | []=>0
 | l::r=>l.length+2*val r
noncomputable def nr (x:Int):Ls->Nat
 | []=>0
 | l::r=>cnt x l+2*nr x r
noncomputable def pot (h:Nat):Ls->Nat
 | []=>0
 | l::r=>h*2 ^ h*l.length+pot (h+1) r
theorem Zx (ls:Ls):val ls=(ls.headD []).length+2*val ls.tail:=by cases ls <;> rfl
theorem aga (h:Nat) (ls:Ls):pot h ls=h*2 ^ h*(ls.headD []).length+pot (h+1) ls.tail:=by
 cases ls
 ·show 0=h*2 ^ h*0+0;rw [ad3]
 ·rfl
theorem Qd {P:List Int->Prop} {ls:Ls} (h:∀ l∈ls,P l) (h0:P []):P (ls.headD []):=by
 cases ls
 ·exact h0
 ·exact h _ gq
theorem Zy {P:List Int->Prop} {ls:Ls} (h:∀ l∈ls,P l):∀ l∈ls.tail,P l:=fun l hl=>h l (ac3 hl)
noncomputable def iy (t:Int) (ls:Ls) (w:Nat):Ls :=
 if w=0 then ls else (if w % 2=1 then srt (ls.headD []++[t]) else ls.headD [])::iy t ls.tail (w / 2)
termination_by w
decreasing_by lia
theorem iI (t:Int) (ls:Ls):iy t ls 0=ls:=by rw [iy,if_pos rfl]
theorem iY {w:Nat} (t:Int) (ls:Ls) (h:w≠0):iy t ls w=(if w % 2=1 then srt (ls.headD []++[t]) else ls.headD [])::iy t ls.tail (w / 2):=by rw [iy,if_neg h]
theorem abZ {w:Nat} (t:Int) (h:w≠0):iy t [[]] w=iy t [] w:=by rw [iY t _ h,iY t [] h];rfl
theorem La (t:Int):∀ (w:Nat) (ls:Ls),val (iy t ls w)=val ls+w:=by
 intro w
 induction w using Hl with
 | _ w ih =>
  intro ls
  by_cases h:w=0
  ·rw [h,iI];rfl
  ·rw [iY t ls h]
   show pJ _+2*val _=_
   rw [ih (w / 2) tb_g%,Zx ls]
   split
   ·rw [jD,eV];show _+1+_=_;lia
   ·lia
theorem ab0 (t:Int):∀ (w:Nat) (h:Nat) (ls:Ls),pot h ls<=pot h (iy t ls w):=by
 intro w
 induction w using Hl with
 | _ w ih =>
  intro h ls
  by_cases hw:w=0
  ·rw [hw,iI];exact cJ _
  ·rw [iY t ls hw,aga h ls]
   show _<=h*2 ^ h*pJ _+pot (h+1) _
   have:=ih (w / 2) tb_g% (h+1) ls.tail
   refine V1 (ad0 _ ?_) this
   split
   ·rw [jD,eV];lia
   ·exact cJ _
theorem ab1 {P:List Int->Prop} (t:Int) (h0:P []) (h1:∀ l,P l->P (srt (l++[t]))):∀ (w:Nat) (ls:Ls),(∀ l∈ls,P l)->∀ l∈iy t ls w,P l:=by
 intro w
 induction w using Hl with
 | _ w ih =>
  intro ls hl
  by_cases hw:w=0
  ·rw [hw,iI];exact hl
  ·rw [iY t ls hw]
   intro l m
   rcases cA.mp m with e | e
   ·rw [e]
    split
    ·exact h1 _ (Qd hl h0)
    ·exact Qd hl h0
   ·exact ih (w / 2) tb_g% ls.tail (Zy hl) l e
noncomputable def Full (ls:Ls):Prop:=∀ l,ls.getLast? = some l->l≠[]
theorem xr {l:List Int} {ls:Ls} (h:Full ls) (h0:ls=[]->l≠[]):Full (l::ls):=by
 intro m hm
 cases ls with
 | nil=>simp at hm;rw [<- hm];exact h0 rfl
 | cons a r=>exact h m (by rw [acX] at hm;exact hm)
theorem sU {ls:Ls} (h:Full ls):Full ls.tail:=by
 intro m hm
 cases ls with
 | nil=>exact nomatch hm
 | cons a r =>
  cases r with
  | nil=>exact nomatch hm
  | cons b r=>exact h m (by rw [acX];exact hm)
theorem Ti {t:Int} {w:Nat} {ls:Ls} (h:w≠0):iy t ls w≠[]:=by rw [iY t ls h];exact U0 _ _
theorem ab2 {t:Int} {w:Nat} {ls:Ls} (h:iy t ls w=[]):w=0/\ls=[]:=by
 by_cases hw:w=0
 ·rw [hw,iI] at h;exact ⟨hw,h⟩
 ·exact absurd h (Ti hw)
theorem Zz (t:Int):∀ (w:Nat) (ls:Ls),Full ls->Full (iy t ls w):=by
 intro w
 induction w using Hl with
 | _ w ih =>
  intro ls hl
  by_cases hw:w=0
  ·rw [hw,iI];exact hl
  ·rw [iY t ls hw]
   refine xr (ih (w / 2) tb_g% _ (sU hl)) fun e=>?_
   have hw2:=(ab2 e).1
   rw [if_pos (show w % 2=1 by lia)]
   intro z
   have:=congrArg pJ z
   rw [jD,eV] at this
   exact absurd this (by show ¬ _+1=0;lia)
inductive Stl (room:Int):Nat->Int->Int->Int->Ls->Ls->Int->Int->Int->Prop
 | nil (h:Nat) (tn ov un:Int):Stl room h tn ov un [] [] tn ov un
 | keep {h:Nat} {tn ov un:Int} {l:List Int} {ls out:Ls} {tn' ov' un':Int}:(l.length:Int)<=room->Stl room (h+1) tn ov un ls out tn' ov' un'->Stl room h tn ov un (l::ls) (l::out) tn' ov' un'
 | turn {h:Nat} {tn ov un:Int} {l:List Int} {ls out:Ls} {tn' ov' un':Int}:room<(l.length:Int) ->
   Stl room (h+1) (tn+1) (if tn % 2=0 then ov+2 ^ h else ov) (if tn % 2=0 then un else un+2 ^ h) (srt (ls.headD []++pick (decide (tn % 2=1)) l)::ls.tail) out tn' ov' un'->Stl room h tn ov un (l::ls) (lft l::out) tn' ov' un'
theorem Stl.val {room:Int} {h:Nat} {tn ov un:Int} {ls out:Ls} {tn' ov' un':Int} (a:Stl room h tn ov un ls out tn' ov' un'):val out=val ls:=by
 induction a with
 | nil=>rfl
 | keep _ _ ih=>show _+2*_=_+2*_;rw [ih]
 | @turn _ _ _ _ l ls _ _ _ _ _ _ ih =>
  show pJ _+2*_=_+2*_
  rw [ih,xq]
  show _+2*(pJ _+2*RG.val ls.tail)=_
  rw [jD,eV,nG,Zx ls]
  lia
theorem Stl.all {P:List Int->Prop} (h0:P []) (hL:∀ l,P l->P (lft l)) (hP:∀ l m o,P l->P m->P (srt (l++pick o m))) {room:Int} {h:Nat} {tn ov un:Int} {ls out:Ls} {tn' ov' un':Int} (a:Stl room h tn ov un ls out tn' ov' un'):(∀ l∈ls,P l)->∀ l∈out,P l:=by
 induction a with
 | nil=>exact id
 | keep _ _ ih =>
  intro hl l m
  rcases cA.mp m with e | e
  ·rw [e];exact hl _ gq
  ·exact ih (fun l hm=>hl l (gY _ hm)) l e
 | @turn _ _ _ _ l0 ls _ _ _ _ _ _ ih =>
  intro hl l m
  have h1:P l0:=hl _ gq
  have h2:∀ l∈ls,P l:=fun l hm=>hl l (gY _ hm)
  rcases cA.mp m with e | e
  ·rw [e];exact hL _ h1
  ·refine ih (fun l hm=>?_) l e
   rcases cA.mp hm with z | z
   ·rw [z];exact hP _ _ _ (Qd h2 h0) h1
   ·exact Zy h2 l z
theorem Stl.small {room:Int} (r1:1<=room) {h:Nat} {tn ov un:Int} {ls out:Ls} {tn' ov' un':Int} (a:Stl room h tn ov un ls out tn' ov' un'):∀ l∈out,(l.length:Int)<=room:=by
 induction a with
 | nil=>exact fun _ h=>nomatch h
 | keep hl _ ih =>
  intro l m
  rcases cA.mp m with e | e
  ·rw [e];exact hl
  ·exact ih l e
 | turn _ _ ih =>
  intro l m
  rcases cA.mp m with e | e
  ·rw [e,xq];lia
  ·exact ih l e
theorem Stl.empty {room:Int} {h:Nat} {tn ov un:Int} {ls out:Ls} {tn' ov' un':Int} (a:Stl room h tn ov un ls out tn' ov' un') (e:out=[]):ls=[]:=by
 cases a with
 | nil=>rfl
 | keep _ _=>cases e
 | turn _ _=>cases e
theorem Stl.full {room:Int} (r1:1<=room) {h:Nat} {tn ov un:Int} {ls out:Ls} {tn' ov' un':Int} (a:Stl room h tn ov un ls out tn' ov' un'):Full ls->Full out:=by
 induction a with
 | nil=>exact id
 | @keep _ _ _ _ l ls out _ _ _ _ a ih =>
  intro f
  refine xr (ih (sU f)) fun e=>?_
  have:=a.empty e
  subst this
  exact f l rfl
 | @turn _ _ _ _ l ls out _ _ _ hl a ih =>
  intro f
  refine xr (ih (xr (sU (sU f)) fun _ z=>?_)) fun e=>?_
  ·have:=congrArg pJ z
   rw [jD,eV,nG] at this
   have:(_:Nat)+l.length / 2=0:=this
   lia
  ·exact absurd (a.empty e) (U0 _ _)
theorem Stl.mono {room:Int} {h:Nat} {tn ov un:Int} {ls out:Ls} {tn' ov' un':Int} (a:Stl room h tn ov un ls out tn' ov' un'):tn<=tn'/\ov<=ov'/\un<=un':=by
 induction a with
 | nil=>exact ⟨fM _,fM _,fM _⟩
 | keep _ _ ih=>exact ih
 | @turn h tn ov un _ _ _ _ _ _ _ _ ih =>
  have p:(0:Int)<2 ^ h:=Oq (by decide)
  obtain ⟨i1,i2,i3⟩:=ih
  refine ⟨by lia,?_,?_⟩
  ·split at i2 <;> lia
  ·split at i3 <;> lia
theorem Stl.pot {room:Int} (ev:room % 2=0) {h:Nat} {tn ov un:Int} {ls out:Ls} {tn' ov' un':Int} (a:Stl room h tn ov un ls out tn' ov' un'):room*(ov'+un'-ov-un)+pot h ls<=pot h out:=by
 induction a with
 | nil h tn ov un =>
  rw [show ov+un-ov-un=0 by lia,aeB]
  lia
 | @keep h _ _ _ l ls out _ _ _ _ _ ih =>
  show _+((h*2 ^ h*l.length+RG.pot (h+1) ls:Nat):Int)<=((h*2 ^ h*l.length+RG.pot (h+1) out:Nat):Int)
  lia
 | @turn h tn ov un l ls out tn' ov' un' hl _ ih =>
  show _+((h*2 ^ h*l.length+RG.pot (h+1) ls:Nat):Int)<=((h*2 ^ h*(lft l).length+RG.pot (h+1) out:Nat):Int)
  have e:RG.pot (h+1) (srt (ls.headD []++pick (decide (tn % 2=1)) l)::ls.tail)=RG.pot (h+1) ls+(h+1)*2 ^ (h+1)*(l.length / 2):=by
   show (h+1)*2 ^ (h+1)*pJ _+RG.pot (h+1+1) ls.tail=_
   rw [jD,eV,nG,aga (h+1) ls,yO]
   lia
  rw [e] at ih
  have d:(if tn % 2=0 then ov+2 ^ h else ov)+(if tn % 2=0 then un else un+2 ^ h)=ov+un+2 ^ h:=by split <;> lia
  have ih2:room*(ov'+un'-(ov+un+2 ^ h))+((RG.pot (h+1) ls+(h+1)*2 ^ (h+1)*(l.length / 2):Nat):Int)<=RG.pot (h+1) out:=by
   rw [<- d]
   refine jH (Wv ?_) ih
   congr 2
   lia
  rw [xq]
  have m1:room*(ov'+un'-(ov+un+2 ^ h))=room*(ov'+un'-ov-un)-room*2 ^ h:=by
   rw [<- Int.mul_sub];congr 1;lia
  rw [m1] at ih2
  have key:h*2 ^ h*l.length+(2*(l.length / 2))*2 ^ h=h*2 ^ h*(l.length % 2)+(h+1)*2 ^ (h+1)*(l.length / 2):=by
   have e1:l.length=2*(l.length / 2)+l.length % 2:=by lia
   generalize l.length / 2=m at e1 ⊢
   generalize l.length % 2=c at e1 ⊢
   rw [e1,pN]
   grind
  have big:room*2 ^ h<=((2*(l.length / 2)*2 ^ h:Nat):Int):=by
   have r2:room<=((2*(l.length / 2):Nat):Int):=by lia
   have p:(0:Int)<=2 ^ h:=Int.pow_nonneg (by decide)
   have:=zZ r2 p
   rw [Oj]
   rw [tU]
   exact this
  have key':((h*2 ^ h*l.length:Nat):Int)+((2*(l.length / 2)*2 ^ h:Nat):Int)=((h*2 ^ h*(l.length % 2):Nat):Int)+(((h+1)*2 ^ (h+1)*(l.length / 2):Nat):Int):=by
   rw [<- vJ,<- vJ,key]
  rw [vJ,vJ]
  rw [vJ] at ih2
  lia
theorem agb:∀ (ls:Ls) (h:Nat),pot h ls<=(h+ls.length-1)*(2 ^ h*val ls)
 | [],h=>by show 0<=_;exact bZ _
 | l::r,h=>by
  have ih:=agb r (h+1)
  show h*2 ^ h*l.length+pot (h+1) r<=(h+(r.length+1)-1)*(2 ^ h*(l.length+2*val r))
  rw [show h+(r.length+1)-1=h+r.length by lia]
  rw [show h+1+r.length-1=h+r.length by lia] at ih
  have e:2 ^ h*(l.length+2*val r)=2 ^ h*l.length+2 ^ (h+1)*val r:=by rw [pN];grind
  rw [e,yO]
  refine V1 ?_ ih
  rw [yM]
  exact yL _ tb_g%
theorem aaW:∀ {ls:Ls},Full ls->ls≠[]->2 ^ (ls.length-1)<=val ls
 | [],_,h=>absurd rfl h
 | [l],f,_=>by
  have:=f l rfl
  show 1<=l.length+2*0
  cases l with
  | nil=>exact absurd rfl this
  | cons a r=>show 1<=r.length+1+0;lia
 | l::m::r,f,_=>by
  have ih:=aaW (ls:=m::r) (sU f) (U0 _ _)
  show 2 ^ ((m::r).length+1-1)<=l.length+2*val (m::r)
  rw [show (m::r).length+1-1=((m::r).length-1)+1 by rw [jG];lia,pN]
  lia
theorem mX {α:Type} {ms:List α} {p:Nat} {l:α} (h:ms[p]? = some l):ms.take (p+1)=ms.take p++[l]:=by rw [uJ,h];rfl
theorem gj {α:Type} {ms:List α} {p:Nat} {l:α} (h:ms[p]? = some l):ms.drop p=l::ms.drop (p+1):=by
 obtain ⟨hp,e⟩:=jK.mp h
 rw [Kw hp,e]
theorem Tj {α:Type} {ms:List α} {p:Nat} {l m:α} (h:ms[p]? = some l):(ms.set p m).take (p+1)=ms.take p++[m]:=by
 obtain ⟨hp,e⟩:=jK.mp h
 rw [mX (l:=m) (by rw [Gk hp]),ac7 (cJ _)]
theorem set_drop {α:Type} {ms:List α} {p:Nat} {m:α}:(ms.set p m).drop (p+1)=ms.drop (p+1):=by rw [Uz (Hj p)]
theorem Aw {α:Type} {ms:List α} {p:Nat} {l:α} (h:ms[p]? = some l):ms.set p l=ms:=by
 obtain ⟨hp,e⟩:=jK.mp h
 rw [<- e,List.set_getElem_self]
theorem Iv {t:Int} {ms:Ls} {p k:Nat} {l:List Int} (h:ms[p]? = some l) (hk:k≠0) :
  (ms.set p (if k % 2=1 then srt (l++[t]) else l)).take (p+1)++iy t ((ms.set p (if k % 2=1 then srt (l++[t]) else l)).drop (p+1)) (k / 2)=ms.take p++iy t (ms.drop p) k:=by
 rw [Tj h,set_drop,gj h,iY t _ hk,jo];rfl
theorem ZC {t:Int} {ms:Ls} {p k:Nat} (h:p=ms.length) (hk:k≠0):(ms++[[]]).take p++iy t ((ms++[[]]).drop p) k=ms.take p++iy t (ms.drop p) k:=by
 rw [h,List.take_left,ado,uK,Ms,abZ t hk]
theorem zy:∀ (xs ys:Ls),val (xs++ys)=val xs+2 ^ xs.length*val ys
 | [],ys=>by show val ys=0+1*val ys;lia
 | x::xs,ys=>by
  show x.length+2*val (xs++ys)=x.length+2*val xs+2 ^ (xs.length+1)*val ys
  rw [zy xs ys,pN,yO,NT _ 2,yM]
  lia
structure Run (room tn ov un:Int) (ls:Ls) (q:Nat) (tn2 ov2 un2:Int) (ms:Ls):Prop where
 cont:∀ out tn' ov' un',Stl room q tn2 ov2 un2 (ms.drop q) out tn' ov' un'->Stl room 0 tn ov un ls (ms.take q++out) tn' ov' un'
 vl:val (ms.take q)+2 ^ q*val (ms.drop q)=val ls
 le:q<=ms.length
 b1:∀ l∈ms,l.length<=400
 b2:∀ l∈ms.drop (q+1),l.length<=200
theorem Run.start {room tn ov un:Int} {ls:Ls} (h:∀ l∈ls,l.length<=200):Run room tn ov un ls 0 tn ov un ls :=
 ⟨fun _ _ _ _ h=>h,by show 0+1*_=_;rw [adp];lia,bZ _,fun l hl=>by have:=h l hl;lia,fun l hl=>h l (Mp hl)⟩
theorem Run.done {room tn ov un tn2 ov2 un2:Int} {ls ms:Ls} {q:Nat} (r:Run room tn ov un ls q tn2 ov2 un2 ms) (h:ms.length<=q):Stl room 0 tn ov un ls ms tn2 ov2 un2:=by
 have:=r.cont [] tn2 ov2 un2 (by rw [Uw h];exact .nil _ _ _ _)
 rw [vf,Bv h] at this
 exact this
theorem Run.keep {room tn ov un tn2 ov2 un2:Int} {ls ms:Ls} {q:Nat} {l:List Int} (r:Run room tn ov un ls q tn2 ov2 un2 ms) (h:ms[q]? = some l) (hl:(l.length:Int)<=room):Run room tn ov un ls (q+1) tn2 ov2 un2 ms:=by
 obtain ⟨hp,_⟩:=jK.mp h
 refine ⟨fun out tn' ov' un' s=>?_,?_,hp,r.b1,fun l hl=>r.b2 l (by rw [show q+1+1=1+(q+1) by lia,Nat.add_comm 1] at hl;exact Mp (i:=1) (by rw [adn];exact hl))⟩
 ·have:=r.cont (l::out) tn' ov' un' (by rw [gj h];exact .keep hl s)
  rw [mX h,jo];exact this
 ·have:=r.vl
  rw [gj h] at this
  rw [mX h,zy,jf,Nz tb_g%,<- this,pN]
  show _+2 ^ q*(l.length+2*0)+_=_+2 ^ q*(l.length+2*_)
  rw [yO,yO,yM]
  lia
theorem Run.big {room tn ov un tn2 ov2 un2:Int} {ls ms:Ls} {q:Nat} {l:List Int} (r:Run room tn ov un ls q tn2 ov2 un2 ms) (h:ms[q]? = some l) (hl:l≠[]):2 ^ q<=val ls:=by
 have:=r.vl
 rw [gj h] at this
 have e:val (l::ms.drop (q+1))=l.length+2*val (ms.drop (q+1)):=rfl
 have l1:1<=l.length:=by
  cases l with
  | nil=>exact absurd rfl hl
  | cons a b=>show 1<=b.length+1;lia
 have m:=ad0 (2 ^ q) (show 1<=val (l::ms.drop (q+1)) by lia)
 lia
noncomputable def More (q:Nat) (ms ms':Ls) (nx:List Int):Prop:=(ms'=ms/\ms[q+1]? = some nx)\/(q+1=ms.length/\ms'=ms++[[]]/\nx=[])
theorem More.at {q:Nat} {ms ms':Ls} {nx l:List Int} (m:More q ms ms' nx) (h:ms[q]? = some l):ms'[q]? = some l/\ms'[q+1]? = some nx/\ms'.take q=ms.take q/\(ms.drop (q+1)).headD []=nx/\(ms.drop (q+1)).tail=ms'.drop (q+2):=by
 rcases m with ⟨rfl,e⟩ | ⟨e,rfl,rfl⟩
 ·refine ⟨h,e,rfl,?_,?_⟩
  ·rw [gj e];rfl
  ·rw [gj e];rfl
 ·obtain ⟨hp,_⟩:=jK.mp h
  refine ⟨by rw [Gi hp];exact h,by rw [e,zU (cJ _),V2];rfl,List.take_append_of_le_length tb_g%,?_,?_⟩
  ·rw [e,Ms];rfl
  ·rw [e,Ms,Uw (by rw [eV];show _+1<=_;lia)];rfl
theorem Run.turn {room tn ov un tn2 ov2 un2:Int} {ls ms ms':Ls} {q:Nat} {l nx:List Int} (r:Run room tn ov un ls q tn2 ov2 un2 ms) (m:More q ms ms' nx) (h:ms[q]? = some l) (hl:room<(l.length:Int)) :
  Run room tn ov un ls (q+1) (tn2+1) (if tn2 % 2=0 then ov2+2 ^ q else ov2) (if tn2 % 2=0 then un2 else un2+2 ^ q) ((ms'.set q (lft l)).set (q+1) (srt (nx++pick (decide (tn2 % 2=1)) l))):=by
 obtain ⟨h1,h2,h3,h4,h5⟩:=m.at h
 obtain ⟨p1,_⟩:=jK.mp h1
 obtain ⟨p2,_⟩:=jK.mp h2
 have e0:(ms'.set q (lft l))[q+1]? = some nx:=by rw [yj tb_g%];exact h2
 have e1:((ms'.set q (lft l)).set (q+1) (srt (nx++pick (decide (tn2 % 2=1)) l))).take (q+1)=ms.take q++[lft l]:=by
  rw [ac7 (cJ _),Tj h1,h3]
 have e2:((ms'.set q (lft l)).set (q+1) (srt (nx++pick (decide (tn2 % 2=1)) l))).drop (q+1)=srt (nx++pick (decide (tn2 % 2=1)) l)::(ms.drop (q+1)).tail:=by
  rw [gj (l:=srt (nx++pick (decide (tn2 % 2=1)) l)) (by rw [Gk (by rw [mq];exact p2)]),set_drop,Uz tb_g%,h5]
 have hm:∀ k∈ms',k.length<=400:=by
  rcases m with ⟨rfl,_⟩ | ⟨_,rfl,_⟩
  ·exact r.b1
  ·intro k hk
   rcases gw.mp hk with z | z
   ·exact r.b1 k z
   ·rw [gZ.mp z];exact bZ _
 have nx2:nx.length<=200:=by
  rcases m with ⟨rfl,e⟩ | ⟨_,_,rfl⟩
  ·exact r.b2 nx (by rw [gj e];exact gq)
  ·exact bZ _
 have ll:l.length<=400:=r.b1 l (List.mem_of_getElem? h)
 refine ⟨fun out tn' ov' un' s=>?_,?_,by rw [mq,mq];lia,fun k hk=>?_,fun k hk=>?_⟩
 ·rw [e1,jo]
  refine r.cont (lft l::out) tn' ov' un' ?_
  rw [gj h]
  refine .turn hl ?_
  rw [h4]
  rw [e2] at s
  exact s
 ·have v:=r.vl
  rw [gj h] at v
  rw [e1,e2,zy,jf,Nz (by have:=r.le;lia),<- v,pN]
  show _+2 ^ q*((lft l).length+2*0)+2 ^ q*2*((srt _).length+2*val _)=_+2 ^ q*(l.length+2*val _)
  rw [jD,eV,nG,xq,Zx (ms.drop (q+1)),h4,yM,NP,<- yO]
  congr 2
  lia
 ·rcases zV hk with z | z
  ·rcases zV z with z | z
   ·exact hm k z
   ·rw [z,xq];lia
  ·rw [z,jD,eV,nG];lia
 ·rw [set_drop,Uz tb_g%,<- h5] at hk
  exact r.b2 k (ac3 hk)
theorem Lb (t:Int):∀ (n w:Nat) (ls:Ls),w<2 ^ n->(iy t ls w).length<=max ls.length n
 | 0,w,ls,h=>by
  have:w=0:=by rw [V4] at h;lia
  rw [this,iI];lia
 | n+1,w,ls,h=>by
  by_cases hw:w=0
  ·rw [hw,iI];lia
  ·rw [iY t ls hw,jG]
   have:=Lb t n (w / 2) ls.tail (by rw [pN] at h;lia)
   rw [List.length_tail] at this
   lia
theorem agc (t:Int) {b:Nat}:∀ (w:Nat) (ls:Ls),(∀ l∈ls,l.length<=b)->∀ l∈iy t ls w,l.length<=b+1:=by
 intro w
 induction w using Hl with
 | _ w ih =>
  intro ls hl
  by_cases hw:w=0
  ·rw [hw,iI];exact fun l h=>ad1 (hl l h)
  ·rw [iY t ls hw]
   intro l m
   have hd:=Qd (P:=fun l=>l.length<=b) hl (bZ _)
   rcases cA.mp m with e | e
   ·rw [e]
    split
    ·rw [jD,eV];show _+1<=_;lia
    ·exact ad1 hd
   ·exact ih (w / 2) tb_g% ls.tail (Zy hl) l e
theorem agd (t:Int) (w:Nat) (ls:Ls) (h:∀ l∈ls,Sd l):∀ l∈iy t ls w,Sd l:=ab1 (P:=Sd) t List.Pairwise.nil (fun _ _=>v8 _) w ls h
theorem Stl.mem {P:Int->Prop} {room:Int} {h:Nat} {tn ov un:Int} {ls out:Ls} {tn' ov' un':Int} (a:Stl room h tn ov un ls out tn' ov' un'):(∀ l∈ls,∀ z∈l,P z)->∀ l∈out,∀ z∈l,P z :=
 a.all (P:=fun l=>∀ z∈l,P z) (fun _ h=>nomatch h) (fun l hl z hz=>hl z (aaV hz)) fun l m o hl hm z hz=>by
  rcases gw.mp (Av.mp hz) with e | e
  ·exact hl z e
  ·exact hm z (Tg e)
theorem Stl.sd {room:Int} {h:Nat} {tn ov un:Int} {ls out:Ls} {tn' ov' un':Int} (a:Stl room h tn ov un ls out tn' ov' un'):(∀ l∈ls,Sd l)->∀ l∈out,Sd l :=
 a.all (P:=Sd) List.Pairwise.nil (fun _=>af9) fun _ _ _ _ _=>v8 _
structure Good (r T ov un:Int) (ls:Ls):Prop where
 r2:2<=r
 r64:r<=64
 ev:r % 2=0
 vl:(val ls:Int)=T
 sd:∀ l∈ls,Sd l
 sm:∀ l∈ls,(l.length:Int)<=r
 fl:Full ls
 pt:(ov+un)*r<=pot 0 ls
 ov0:0<=ov
 un0:0<=un
theorem Good.new {r:Int} (h1:2<=r) (h2:r<=64) (h3:r % 2=0):Good r 0 0 0 [] :=
 ⟨h1,h2,h3,rfl,fun _ h=>(nomatch h),fun _ h=>(nomatch h),fun _ h=>(nomatch h),by show (0+0)*r<=0;lia,fM _,fM _⟩
theorem Good.add {r T ov un tn tn' ov' un' t w:Int} {ls out:Ls} (g:Good r T ov un ls) (w1:1<=w) (s:Stl r 0 tn ov un (iy t ls w.toNat) out tn' ov' un'):Good r (T+w) ov' un' out/\out≠[]:=by
 have h1:=g.r2
 have mo:=s.mono
 have o0:=g.ov0
 have u0:=g.un0
 refine ⟨⟨g.r2,g.r64,g.ev,?_,s.sd (agd t _ _ g.sd),s.small tb_g%,s.full tb_g% (Zz t _ _ g.fl),?_,by lia,by lia⟩,fun e=>?_⟩
 ·rw [s.val,La];have:=g.vl;lia
 ·have p1:=s.pot g.ev
  have p2:=ab0 t w.toNat 0 ls
  have p3:=g.pt
  have e:r*(ov'+un'-ov-un)=(ov'+un')*r-(ov+un)*r:=by grind
  lia
 ·exact Ti tb_g% (s.empty e)
theorem Good.bits {r T ov un:Int} {ls:Ls} (g:Good r T ov un ls) (h:ls≠[]):(2:Int) ^ (ls.length-1)<=T:=by
 have:=aaW g.fl h
 have e:=g.vl
 have c:((2 ^ (ls.length-1):Nat):Int)=(2:Int) ^ (ls.length-1):=by rw [tU];rfl
 lia
theorem Good.near {r T ov un:Int} {ls:Ls} (g:Good r T ov un ls) (h:ls≠[]):(ov+un)*r<=T*((ls.length:Int)-1):=by
 have p:=agb ls 0
 rw [V4,Nat.one_mul,Cu] at p
 have q:=g.pt
 have l1:1<=ls.length:=by
  cases ls with
  | nil=>exact absurd rfl h
  | cons a b=>show 1<=b.length+1;lia
 have c:((ls.length-1)*val ls:Nat)=(((ls.length:Int)-1)*(val ls:Int)):=by rw [Oj,Int.natCast_sub l1];rfl
 rw [g.vl] at c
 rw [Ol T]
 lia
theorem Ld (x:Int):∀ (xs ys:Ls),nr x (xs++ys)=nr x xs+2 ^ xs.length*nr x ys
 | [],ys=>by show nr x ys=0+1*nr x ys;lia
 | z::xs,ys=>by
  show cnt x z+2*nr x (xs++ys)=cnt x z+2*nr x xs+2 ^ (xs.length+1)*nr x ys
  rw [Ld x xs ys,pN,yO,NT _ 2,yM]
  lia
theorem aii {x:Int} {ls:Ls} {i:Nat} {l:List Int} (h:ls[i]? = some l):nr x (ls.take (i+1))=nr x (ls.take i)+2 ^ i*cnt x l:=by
 obtain ⟨hi,_⟩:=jK.mp h
 rw [mX h,Ld,jf,Nz tb_g%]
 show _+2 ^ i*(cnt x l+2*0)=_
 rw [ad3,V3]
theorem Good.len {r T ov un:Int} {ls:Ls} (g:Good r T ov un ls) {n:Nat} (h:T<2 ^ n):ls.length<=n:=by
 by_cases e:ls=[]
 ·rw [e];exact bZ _
 ·have:=g.bits e
  rcases vD (ls.length-1) n with z | z
  ·lia
  ·have p:=Cr (show 0<2 by decide) z
   have c:((2 ^ n:Nat):Int)=(2:Int) ^ n:=by rw [tU];rfl
   have c2:((2 ^ (ls.length-1):Nat):Int)=(2:Int) ^ (ls.length-1):=by rw [tU];rfl
   lia
theorem Good.small {r T ov un:Int} {ls:Ls} (g:Good r T ov un ls):∀ l∈ls,l.length<=64:=fun l h=>by have:=g.sm l h;have:=g.r64;lia
noncomputable def tw (x:Int):List (Int × Int)->Int
 | []=>0
 | p::r=>(if p.1<=x then p.2 else 0)+tw x r
noncomputable def Rk (T ov un:Int) (ls:Ls) (rs:List (Int × Int)):Prop:=∀ x,0<=tw x rs/\tw x rs<=T/\(nr x ls:Int)-ov<=tw x rs/\tw x rs<=nr x ls+un
end RG
namespace RG
noncomputable def prs (h:Nat):Ls->List (Int × Int)
 | []=>[]
 | l::r=>l.map (fun t=>(t,(2:Int) ^ h))++prs (h+1) r
theorem Iw:∀ (h:Nat) (xs ys:Ls),prs h (xs++ys)=prs h xs++prs (h+xs.length) ys
 | h,[],ys=>rfl
 | h,x::xs,ys=>by
  show _++prs (h+1) (xs++ys)=(_++prs (h+1) xs)++prs (h+(xs.length+1)) ys
  rw [Iw,jo,show h+1+xs.length=h+(xs.length+1) by lia]
theorem agf {ls:Ls} {i:Nat} {l:List Int} (e:ls[i]? = some l):prs 0 (ls.take (i+1))=prs 0 (ls.take i)++l.map (fun t=>(t,(2:Int) ^ i)):=by
 obtain ⟨hi,_⟩:=jK.mp e
 rw [mX e,Iw,jf,Nz tb_g%,Cu]
 show _++(_++[])=_
 rw [vf]
theorem aaX {p:Int × Int}:∀ {h:Nat} {ls:Ls},p∈prs h ls->(∃ l∈ls,p.1∈l)/\∃ i,i<ls.length/\p.2=2 ^ (h+i)
 | h,[],m=>nomatch m
 | h,l::r,m=>by
  rcases gw.mp m with m | m
  ·obtain ⟨t,mt,rfl⟩:=oN.mp m
   exact ⟨⟨l,gq,mt⟩,0,ad4 _,rfl⟩
  ·obtain ⟨⟨l',m1,m2⟩,i,hi,e⟩:=aaX m
   exact ⟨⟨l',gY _ m1,m2⟩,i+1,Nat.succ_lt_succ hi,by rw [e,show h+1+i=h+(i+1) by lia]⟩
theorem ab3 {i:Nat} (h:i<=60):0<(2:Int) ^ i/\(2:Int) ^ i<2305843009213693952:=by
 have p:=Cr (show 0<2 by decide) h
 have c:((2 ^ i:Nat):Int)=(2:Int) ^ i:=by rw [tU];rfl
 have q:0<2 ^ i:=Nat.pow_pos (by decide)
 have e:2 ^ 60=1152921504606846976:=by decide
 lia
theorem aaY:∀ {h:Nat} {ls:Ls} {b:Nat},(∀ l∈ls,l.length<=b)->(prs h ls).length<=ls.length*b
 | h,[],b,_=>by show 0<=_;lia
 | h,l::r,b,hb=>by
  show (_++prs (h+1) r).length<=(r.length+1)*b
  rw [eV,bK,Nat.add_mul]
  have:=aaY (h:=h+1) (ls:=r) fun l m=>hb l (gY _ m)
  have:=hb l gq
  lia
noncomputable def sw:List (Int × Int)->Int
 | []=>0
 | p::r=>p.2+sw r
theorem Dj:∀ a b,sw (a++b)=sw a+sw b
 | [],b=>(rH _).symm
 | p::a,b=>by show _+sw (a++b)=_+sw a+_;rw [Dj a b];lia
theorem aij {a b:List (Int × Int)} (h:a.Perm b):sw a=sw b:=by
 induction h with
 | nil=>rfl
 | cons p _ ih=>show _+_=_+_;rw [ih]
 | swap p q l=>show _+(_+_)=_+(_+_);lia
 | trans _ _ h1 h2=>rw [h1,h2]
theorem agg (c:Int):∀ l:List Int,sw (l.map fun t=>(t,c))=c*(l.length:Int)
 | []=>by show 0=c*((0:Nat):Int);lia
 | t::l=>by
  show c+sw (l.map fun t=>(t,c))=c*((l.length+1:Nat):Int)
  rw [agg c l,vJ,Oo];show _=_+c*1;lia
theorem agh:∀ (h:Nat) (ls:Ls),sw (prs h ls)=2 ^ h*val ls
 | h,[]=>by show 0=2 ^ h*((0:Nat):Int);lia
 | h,l::r=>by
  show sw (_++prs (h+1) r)=2 ^ h*((l.length+2*val r:Nat):Int)
  rw [Dj,agg,agh (h+1) r,nU,vJ,Oj,Oo,yU]
  rfl
noncomputable def pk (k:Int):Int->List (Int × Int)->Option Int
 | _,[]=>none
 | s,p::r=>if k<=s+p.2 then some p.1 else pk k (s+p.2) r
theorem aaZ {k:Int}:∀ {S:List (Int × Int)} {s:Int},s<k->pk k s S=none->s+sw S<k
 | [],s,hs,_=>by show s+0<k;lia
 | p::r,s,hs,h=>by
  rw [pk] at h
  by_cases c:k<=s+p.2
  ·rw [if_pos c] at h;cases h
  ·rw [if_neg c] at h
   have:=aaZ (S:=r) tb_g% h
   show s+(p.2+sw r)<k
   lia
noncomputable def rkP (M:Int) (p:Int × Int):Int:=p.1*M+p.2
theorem agi {M:Int} {p q:Int × Int} (h:rkP M p<=rkP M q) (h1:0<=p.2) (h2:q.2<M) (h3:0<=q.2):p.1<=q.1:=by
 refine Int.le_of_not_gt fun g=>?_
 have:=zZ (show q.1+1<=p.1 by lia) (show 0<=M by lia)
 rw [CG] at this
 unfold rkP at h
 lia
theorem alp {M:Int} {p q:Int × Int} (h:rkP M p=rkP M q) (h1:0<=p.2) (h1':p.2<M) (h2:q.2<M) (h3:0<=q.2):p=q:=by
 have a:=agi (Wv h) h1 h2 h3
 have b:=agi (Wv h.symm) h3 h1' h1
 have e:p.1=q.1:=by lia
 unfold rkP at h
 rw [e] at h
 exact nW e tb_g%
theorem Iz {M:Int}:∀ {xs ys:List (Int × Int)},xs.Perm ys->(xs.Pairwise fun p q=>rkP M p<=rkP M q)->(ys.Pairwise fun p q=>rkP M p<=rkP M q)->(∀ p∈xs,0<=p.2/\p.2<M)->xs=ys
 | [],ys,p,_,_,_=>by rw [U8.mp p]
 | x::xs,[],p,_,_,_=>absurd p (by simp)
 | x::xs,y::ys,p,h1,h2,hb=>by
  have a1:=jM.mp h1
  have a2:=jM.mp h2
  have e:x=y:=by
   have m1:x∈y::ys:=p.mem_iff.mp gq
   have m2:y∈x::xs:=p.mem_iff.mpr gq
   rcases cA.mp m1 with z | z
   ·exact z
   ·rcases cA.mp m2 with z' | z'
    ·exact z'.symm
    ·exact alp (Ws (a1.1 y z') (a2.1 x z)) (hb x gq).1 (hb x gq).2 (hb y m2).2 (hb y m2).1
  subst e
  rw [Iz (WR p) a1.2 a2.2 fun q m=>hb q (gY _ m)]
theorem aa0 {x:Int}:∀ {rs:List (Int × Int)},(∀ p∈rs,1<=p.2)->tw (x-1) rs<=tw x rs
 | [],_=>fM _
 | p::r,h=>by
  have h1:=h p gq
  have:=aa0 (x:=x) (rs:=r) fun q m=>h q (gY _ m)
  show (if p.1<=x-1 then p.2 else 0)+_<=(if p.1<=x then p.2 else 0)+_
  split <;> split <;> lia
theorem ajx {x:Int}:∀ {rs:List (Int × Int)},(∀ p∈rs,1<=p.2)->(∃ p∈rs,p.1=x)->tw (x-1) rs<tw x rs
 | [],_,⟨_,m,_⟩=>nomatch m
 | p::r,h,⟨q,m,e⟩=>by
  have h1:=h p gq
  have h2:∀ q∈r,1<=q.2:=fun q m=>h q (gY _ m)
  show (if p.1<=x-1 then p.2 else 0)+_<(if p.1<=x then p.2 else 0)+_
  rcases cA.mp m with z | z
  ·subst z
   have:=aa0 (x:=x) h2
   rw [if_neg tb_g%,if_pos tb_g%];lia
  ·have:=ajx h2 ⟨q,z,e⟩
   split <;> split <;> lia
theorem stands {T ov un k x:Int} {ls:Ls} {rs:List (Int × Int)} (hk:Rk T ov un ls rs) (hw:∀ p∈rs,1<=p.2) (hm:∀ l∈ls,∀ z∈l,∃ p∈rs,p.1=z) (n1:k<=nr x ls) (n2:(nr (x-1) ls:Int)<k) (hl:∃ l∈ls,x∈l) :
  0<=tw (x-1) rs/\tw (x-1) rs<tw x rs/\k-ov<=tw x rs/\tw (x-1) rs<k+un/\tw x rs<=T:=by
 obtain ⟨l,m1,m2⟩:=hl
 obtain ⟨a1,a2,a3,a4⟩:=hk x
 obtain ⟨b1,b2,b3,b4⟩:=hk (x-1)
 have:=ajx hw (hm l m1 x m2)
 refine ⟨b1,this,?_,?_,a2⟩ <;> lia
end RG
set_option autoImplicit false
namespace WN
structure Box where
 f:Int
 l:Int
 s:Int
noncomputable def sum (bs:List Box):Int:=(bs.map (·.s)).sum
theorem sum_nil:sum []=0:=rfl
theorem sum_cons (b:Box) (r:List Box):sum (b::r)=b.s+sum r:=by unfold sum;rw [jg,rB]
theorem sum_append (a b:List Box):sum (a++b)=sum a+sum b:=by unfold sum;rw [gA,adl]
noncomputable def settle (room:Int):Int->Box->List Box->List Box
 | _,b,[]=>[b]
 | S,b,o::os=>if (b.s+o.s)*room<=S then settle room S ⟨o.f,b.l,b.s+o.s⟩ os else b::settle room (S+b.s) o os
theorem IK (room S:Int) (b:Box):settle room S b []=[b]:=rfl
theorem v9 (room S:Int) (b o:Box) (os:List Box):settle room S b (o::os)=if (b.s+o.s)*room<=S then settle room S ⟨o.f,b.l,b.s+o.s⟩ os else b::settle room (S+b.s) o os:=rfl
noncomputable def settled (room:Int):List Box->List Box
 | []=>[]
 | b::os=>settle room 0 b os
theorem zA (room:Int):∀ (os:List Box) (S:Int) (b:Box),(settle room S b os).length<=os.length+1
 | [],S,b=>by rw [IK];simp
 | o::os,S,b=>by
  rw [v9]
  split
  ·have:=zA room os S ⟨o.f,b.l,b.s+o.s⟩;simp only [jG];lia
  ·have:=zA room os (S+b.s) o;simp only [jG];lia
theorem Tn (room:Int) (bs:List Box):(settled room bs).length<=bs.length:=by
 cases bs with
 | nil=>exact cJ _
 | cons b os=>exact zA room os 0 b
noncomputable def Multi (room:Int):Int->List Box->Prop
 | _,[]=>True
 | S,b::os=>(b.f≠b.l->b.s*room<=S)/\Multi room (S+b.s) os
noncomputable def IV (room:Int):Int->List Box->Prop
 | _,[]=>True
 | _,[_]=>True
 | S,b::o::os=>S<(b.s+o.s)*room/\IV room (S+b.s) (o::os)
structure Sums (P:Int->Int):Prop where
 zero:∀ n,n<=0->P n=0
 mono:∀ a b,a<=b->P a<=P b
noncomputable def Chain (P:Int->Int) (edge:Int):Int->List Box->Prop
 | u,[]=>edge<=u->P u=P edge
 | u,b::os=>1<=b.f/\b.f<=b.l/\b.l<=u/\P u=P b.l/\b.s=P b.l-P (b.f-1)/\P (b.f-1)<P b.f/\P (b.l-1)<P b.l/\Chain P edge (b.f-1) os
theorem Chain.pos {P:Int->Int} (hP:Sums P) {edge:Int}:∀ {bs:List Box} {u:Int},Chain P edge u bs->∀ b∈bs,1<=b.s
 | b::os,u,⟨_,h2,_,_,h5,h6,_,r⟩,x,m=>by
  rcases cA.mp m with rfl | m
  ·have:=hP.mono x.f x.l h2;lia
  ·exact Chain.pos hP r x m
theorem Chain.below {P:Int->Int} {edge:Int}:∀ {bs:List Box} {u:Int},Chain P edge u bs->∀ b∈bs,1<=b.f/\b.f<=b.l/\b.l<=u
 | b::os,u,⟨h1,h2,h3,_,_,_,_,r⟩,x,m=>by
  rcases cA.mp m with rfl | m
  ·exact ⟨h1,h2,h3⟩
  ·obtain ⟨k1,k2,k3⟩:=Chain.below r x m;exact ⟨k1,k2,by lia⟩
theorem Chain.join {P:Int->Int} {edge u:Int} {b o:Box} {os:List Box} (h:Chain P edge u (b::o::os)):Chain P edge u (⟨o.f,b.l,b.s+o.s⟩::os):=by
 obtain ⟨h1,h2,h3,h4,h5,h6,h7,k1,k2,k3,k4,k5,k6,k7,r⟩:=h
 refine ⟨k1,?_,h3,h4,?_,k6,h7,r⟩
 ·show o.f<=b.l;lia
 ·show b.s+o.s=P b.l-P (o.f-1);lia
theorem Chain.settle {P:Int->Int} {edge room:Int}:∀ {os:List Box} {S u:Int} {b:Box},Chain P edge u (b::os)->Chain P edge u (settle room S b os)
 | [],S,u,b,h=>h
 | o::os,S,u,b,h=>by
  rw [v9]
  split
  ·exact Chain.settle h.join
  ·obtain ⟨h1,h2,h3,h4,h5,h6,h7,r⟩:=h
   exact ⟨h1,h2,h3,h4,h5,h6,h7,Chain.settle r⟩
theorem Chain.settled {P:Int->Int} {edge room:Int} {bs:List Box} {u:Int} (h:Chain P edge u bs):Chain P edge u (settled room bs):=by
 cases bs with
 | nil=>exact h
 | cons b os=>exact Chain.settle h
noncomputable def low (e:Int) (bs:List Box):Int:=sum (bs.filter fun b=>decide (e<b.f))
noncomputable def cut (e:Int) (bs:List Box):Int:=sum (bs.filter fun b=>decide (b.f<=e/\e<b.l))
theorem Tp {P:Int->Int} {edge e:Int}:∀ {bs:List Box} {u:Int},Chain P edge u bs->u<=e->low e bs=0/\cut e bs=0:=by
 intro bs u h hu
 have k:=Chain.below h
 constructor
 ·unfold low
  rw [Mf.mpr (fun x m=>by obtain ⟨_,_,_⟩:=k x m;simp;lia)];rfl
 ·unfold cut
  rw [Mf.mpr (fun x m=>by obtain ⟨_,_,_⟩:=k x m;simp;lia)];rfl
theorem Chain.holds {P:Int->Int} (hP:Sums P) {edge e:Int} (he:edge<=e):∀ {bs:List Box} {u:Int},Chain P edge u bs->e<=u->low e bs<=P u-P e/\P u-P e<=low e bs+cut e bs
 | [],u,h,hu=>by
  have h1:=h (jH he hu)
  have h2:=hP.mono edge e he
  have h3:=hP.mono e u hu
  show 0<=P u-P e/\P u-P e<=0+0
  lia
 | b::os,u,h,hu=>by
  obtain ⟨h1,h2,h3,h4,h5,h6,h7,r⟩:=h
  by_cases c1:e<b.f
  ·obtain ⟨k1,k2⟩:=Chain.holds hP he r tb_g%
   have e1:low e (b::os)=b.s+low e os:=by unfold low;rw [Gj (by simpa using c1),sum_cons]
   have e2:cut e (b::os)=cut e os:=by unfold cut;rw [zW (by simp;lia)]
   rw [e1,e2];lia
  ·obtain ⟨k1,k2⟩:=Tp r (e:=e) tb_g%
   have e1:low e (b::os)=low e os:=by unfold low;rw [zW (by simpa using c1)]
   by_cases c2:e<b.l
   ·have e2:cut e (b::os)=b.s+cut e os:=by unfold cut;rw [Gj (by simp;lia),sum_cons]
    have m1:=hP.mono e b.l tb_g%
    have m2:=hP.mono (b.f-1) e tb_g%
    rw [e1,e2,k1,k2];lia
   ·have e2:cut e (b::os)=cut e os:=by unfold cut;rw [zW (by simp;lia)]
    have m1:=hP.mono b.l e tb_g%
    have m2:=hP.mono e u hu
    rw [e1,e2,k1,k2];lia
theorem Chain.near {P:Int->Int} {edge e room:Int} (hr:0<=room):∀ {bs:List Box} {u S:Int},Chain P edge u bs->Multi room S bs->cut e bs*room<=S+low e bs\/cut e bs=0
 | [],u,S,_,_=>.inr rfl
 | b::os,u,S,h,m=>by
  obtain ⟨h1,h2,h3,h4,h5,h6,h7,r⟩:=h
  by_cases c1:e<b.f
  ·have e1:low e (b::os)=b.s+low e os:=by unfold low;rw [Gj (by simpa using c1),sum_cons]
   have e2:cut e (b::os)=cut e os:=by unfold cut;rw [zW (by simp;lia)]
   rw [e1,e2]
   rcases Chain.near (e:=e) hr r m.2 with z | z
   ·exact .inl tb_g%
   ·exact .inr z
  ·obtain ⟨k1,k2⟩:=Tp r (e:=e) tb_g%
   have e1:low e (b::os)=low e os:=by unfold low;rw [zW (by simpa using c1)]
   by_cases c2:e<b.l
   ·have e2:cut e (b::os)=b.s+cut e os:=by unfold cut;rw [Gj (by simp;lia),sum_cons]
    refine .inl ?_
    rw [e1,e2,k1,k2]
    have:=m.1 tb_g%
    simpa using this
   ·have e2:cut e (b::os)=cut e os:=by unfold cut;rw [zW (by simp;lia)]
    exact .inr (by rw [e2,k2])
theorem jR {a:Int} (h:0<a) (n:Nat):0<a ^ n:=Oq h
theorem grown {room:Int} (hr:1<=room):∀ (q:Nat) {bs:List Box} {S:Int},1<=S->IV room S bs->bs.length=2*q->S*(room+1) ^ q<=(S+sum bs)*room ^ q/\(0<q->S*(room+1) ^ q<(S+sum bs)*room ^ q)
 | 0,bs,S,h,n,l=>by
  have:bs=[]:=KC.mp tb_g%
  subst this
  refine ⟨?_,fun z=>absurd z (rZ _)⟩
  rw [sum_nil];simp
 | q+1,bs,S,h,n,l=>by
  match bs,n,l with
  | b::o::os,n,l =>
   have l':os.length=2*q:=by simp only [jG] at l;lia
   obtain ⟨n1,n2⟩:=n
   have n3:IV room (S+b.s+o.s) os:=by
    cases os with
    | nil=>trivial
    | cons c cs=>exact n2.2
   have hb:S*(room+1)+1<=(S+b.s+o.s)*room:=by
    rw [Oo,Wx,Int.add_assoc S b.s o.s,CG];lia
   have S0:1<=S+b.s+o.s:=by
    by_cases c:1<=S+b.s+o.s
    ·exact c
    ·have:(S+b.s+o.s)*room<=0:=Int.mul_nonpos_of_nonpos_of_nonneg tb_g% tb_g%
     have:0<=S*(room+1):=Wu tb_g% tb_g%
     lia
   obtain ⟨g1,_⟩:=grown hr q S0 n3 l'
   have p0:=jR (show (0:Int)<room+1 by lia) q
   have p1:=jR (show (0:Int)<room by lia) q
   have strict:S*(room+1) ^ (q+1)<(S+sum (b::o::os))*room ^ (q+1):=by
    rw [sum_cons,sum_cons,nU,nU]
    have e1:S*((room+1) ^ q*(room+1))=S*(room+1)*(room+1) ^ q:=by rw [Ol ((room+1) ^ q),yU]
    have e2:(S+(b.s+(o.s+sum os)))*(room ^ q*room)=(S+b.s+o.s+sum os)*room ^ q*room:=by rw [<- yU];congr 2;lia
    rw [e1,e2]
    have k1:(S*(room+1)+1)*(room+1) ^ q<=(S+b.s+o.s)*room*(room+1) ^ q:=zZ hb tb_g%
    have k2:(S+b.s+o.s)*(room+1) ^ q*room<=(S+b.s+o.s+sum os)*room ^ q*room:=zZ g1 tb_g%
    have e3:(S+b.s+o.s)*room*(room+1) ^ q=(S+b.s+o.s)*(room+1) ^ q*room:=by rw [aew]
    rw [CG,Wy] at k1
    lia
   exact ⟨pQ strict,fun _=>strict⟩
theorem few {room:Int} (hr:1<=room) {bs:List Box} (pos:∀ b∈bs,1<=b.s) (n:IV room 0 bs):∀ p:Nat,2+2*p<bs.length->(room+1) ^ (p+1)<sum bs*room ^ (p+1):=by
 have shrink:∀ (k:Nat) {bs:List Box} {S:Int},IV room S bs->IV room S (bs.take k):=by
  intro k bs
  induction bs generalizing k with
  | nil=>intro S _;rw [U9];trivial
  | cons b r ih =>
   intro S h
   cases k with
   | zero=>trivial
   | succ k =>
    cases r with
    | nil=>rw [UG,U9];trivial
    | cons o os =>
     cases k with
     | zero=>rw [UG,adq];trivial
     | succ k=>exact ⟨h.1,ih (k+1) h.2⟩
 have aik:∀ (k:Nat) {bs:List Box},(∀ b∈bs,1<=b.s)->sum (bs.take k)<=sum bs:=by
  intro k bs
  induction bs generalizing k with
  | nil=>intro _;rw [U9];exact fM _
  | cons b r ih =>
   intro h
   cases k with
   | zero =>
    have:∀ {l:List Box},(∀ b∈l,1<=b.s)->0<=sum l:=fun {l}=>by
     induction l with
     | nil=>intro _;exact fM _
     | cons c cs ih=>intro h;rw [sum_cons];have:=h c gq;have:=ih fun x m=>h x (gY _ m);lia
    rw [adq];exact this h
   | succ k=>rw [UG,sum_cons,sum_cons];have:=ih k fun x m=>h x (gY _ m);lia
 intro p hl
 match bs,pos,n,hl with
 | b::r,pos,n,hl =>
  have lr:2*(p+1)<=r.length:=by simp only [jG] at hl;lia
  have hb:=pos b gq
  have n2:IV room b.s (r.take (2*(p+1))):=by
   refine shrink _ ?_
   cases r with
   | nil=>trivial
   | cons o os=>have:=n.2;rw [rH] at this;exact this
  obtain ⟨_,g⟩:=grown hr (p+1) hb n2 (by rw [jf];lia)
  have g':=g (ad4 _)
  have s1:=aik (2*(p+1)) (bs:=r) fun x m=>pos x (gY _ m)
  have p0:=jR (show (0:Int)<room+1 by lia) (p+1)
  have p1:=jR (show (0:Int)<room by lia) (p+1)
  have k1:1*(room+1) ^ (p+1)<=b.s*(room+1) ^ (p+1):=zZ hb tb_g%
  have k2:(b.s+sum (r.take (2*(p+1))))*room ^ (p+1)<=(b.s+sum r)*room ^ (p+1):=zZ tb_g% tb_g%
  rw [sum_cons]
  lia
end WN
namespace L2
open PySem PySem.Spec PyProof.Rows
section
variable {prog:aV} {w:World} {A:bJ} {E:Value->Shared->Prop} {s:Shared}
noncomputable def outR (Q E:Value->Shared->Prop) (r:nP) (z:Shared):Prop:=match r with
 | .ok (.ret u)=>Q u z
 | .ok _=>False
 | .error u=>E u z
noncomputable def outF (prog:aV) (w:World) (A:bJ) (Q E:Value->Shared->Prop) (f:Fin) (z:Shared):Prop:=match f with
 | .done g=>outR Q E (.ok g) z
 | .again c=>c.quiet=true/\gO (model prog w) A c (outR Q E) z
theorem aa1 {id:String} {b:g8} {xs:List Value} {kw:List (Str × Value)} {Q:Value->Shared->Prop} (hk:builtinKind id=none)
  (hp:plainId id=true) (hb:entryFor table id=some b) (ha:Cm id ⟨xs,kw⟩)
  (hc:wpAny (model prog w) A.in1 (b ⟨xs,kw⟩) (outF prog w A Q E) E s):wpAny (model prog w) A (call (.builtin id) xs kw) Q E s:=by
 refine Ce (Vm hp hb ?_)
 simp only [Vu,hk]
 have hc2:=dW hc (Q':=fun f z=>match f with
  | .done g=>outR Q E (.ok g) z
  | .again c=>c.quiet=true/\gO (model prog w) A c (outR Q E) z) (fun _ _ h=>h) fun _ _ h=>h
 generalize hsig:Manifest.signature? id=sg at *
 cases sg with
 | none=>exact bw hc2
 | some sig =>
  have e:ae9 id sig ⟨xs,kw⟩=pure ():=by
   simp only [Cm,hsig] at ha
   exact ha
  refine (?_:wpAny _ A.in1 (ae9 id sig ⟨xs,kw⟩) _ _ s)
  rw [e]
  exact bw hc2
end
section
variable {prog:aV} {w:World} {A:bJ} {R:nP->Shared->Prop} {it:Addr} {fp wr:List Addr} {n:Nat} {P:Nat->Value->Prop} {St:Nat->Heap->Prop}
theorem ail (W:Walks prog w A.in1 it fp wr n P St) (bt:Nat->Nat->Bool)
  (cm:CmpOf prog w A.in1 .Lt P bt) (S:Addr) (nS:S∉fp) (kw:List (Str × Value)) :
  ∀ (k j:Nat) (s:Shared) (u:Value) (c:Nat),k+(j+1)=n->St (j+1) s.heap->P (jd bt j) u ->
   s.heap.get? S=some { cls:=.type "list",data:=.seq #[u,u] c } ->
   (∀ v h' tk,P (jd bt (n-1)) v->(∀ b o,b∉wr->b≠S->s.heap.get? b=some o->h'.get? b=some o) ->
    R (.ok (.ret v)) { s with heap:=h',toks:=tk }) ->
   gO (model prog w) A (.builtin "min.loop" ⟨[.ref it,.none,.ref S],kw⟩) R s:=by
 have nw:S∉wr:=fun h=>nS (W.sub _ h)
 have nm:(toString "min" ++ toString ".loop" : String) = "min.loop" := by decide
 intro k
 induction k with
 | zero =>
  intro j s u c e st pu hS post
  have ej:j=n-1:=by lia
  have en:j+1=n:=by lia
  rw [ej] at pu
  rw [en] at st
  refine yx F.entry_min_loop ?_
  rw [CN F.plain_min_loop _]
  refine aR (yD hS rfl ?_)
  refine aR (rD (W.done s _ _ st fun h1 tk1 kp=>?_))
  refine aR (yC (kp S _ nw hS) rfl (aR (tQ (bw ?_))))
  exact post u _ tk1 pu fun b o nb nbS eb=>by
   rw [rY _ _ (aP nbS)];exact kp b o nb eb
 | succ k ih =>
  intro j s u c e st pu hS post
  refine yx F.entry_min_loop ?_
  rw [CN F.plain_min_loop _]
  refine aR (yD hS rfl ?_)
  refine aR (rD (W.item (j+1) s _ _ tb_g% st fun v h1 tk1 pv st1 kp=>?_))
  have hS1:=kp S _ nw hS
  refine aR (bw ?_)
  refine aR (rD (mz (aR (cm (j+1) (jd bt j) v u _ _ _ pv pu ?_))))
  refine aR (mz (Gz (aR (tQ (bw ?_)))))
  have ab:jd bt (j+1)=if bt (j+1) (jd bt j) then j+1 else jd bt j:=rfl
  cases hb:bt (j+1) (jd bt j) with
  | true =>
   rw [hb,if_pos rfl] at ab
   rw [if_pos rfl]
   refine aR (yC hS1 rfl (aR (tQ ?_)))
   rw [nm]
   refine bw ⟨tO F.plain_min_loop _,ih (j+1) _ v _ tb_g% (W.frame _ _ _ st1 fun b hb o eb=>?_) (by rw [ab];exact pv) (Cp _ hS1 rfl) fun v2 h2 tk2 p2 k2=>?_⟩
   ·rw [rY _ _ (fun z:S=b=>nS (z ▸ hb))];exact eb
   ·exact post v2 h2 tk2 p2 fun b o nb nbS eb=>k2 b o nb nbS (by
     rw [rY _ _ (aP nbS)];exact kp b o nb eb)
  | false =>
   rw [hb,if_neg (by decide)] at ab
   rw [if_neg (by decide)]
   refine aR (tQ ?_)
   rw [nm]
   refine bw ⟨tO F.plain_min_loop _,ih (j+1) _ u c tb_g% st1 (by rw [ab];exact pu) hS1 fun v2 h2 tk2 p2 k2=>?_⟩
   exact post v2 h2 tk2 p2 fun b o nb nbS eb=>k2 b o nb nbS (kp b o nb eb)
theorem ZD (W:Walks prog w A.in1 it fp wr n P St) (bt:Nat->Nat->Bool)
  (cm:CmpOf prog w A.in1 .Lt P bt) (S:Addr) (nS:S∉fp) (d:Value) {s:Shared} {c:Nat} (st:St 0 s.heap)
  (hS:s.heap.get? S=some { cls:=.type "list",data:=.seq #[] c })
  (post:∀ v h' tk,(if 0<n then P (jd bt (n-1)) v else v=d)->(∀ b o,b∉wr->b≠S->s.heap.get? b=some o->h'.get? b=some o) ->
   R (.ok (.ret v)) { s with heap:=h',toks:=tk }) :
  gO (model prog w) A (.builtin "min.loop" ⟨[.ref it,.none,.ref S],[("default",d)]⟩) R s:=by
 have nw:S∉wr:=fun h=>nS (W.sub _ h)
 have nm:(toString "min" ++ toString ".loop" : String) = "min.loop" := by decide
 refine yx F.entry_min_loop ?_
 rw [CN F.plain_min_loop _]
 refine aR (yD hS rfl ?_)
 rcases Ny n with e | e
 ·subst e
  refine aR (rD (W.done s _ _ st fun h1 tk1 kp=>?_))
  refine aR (tR ?_)
  exact bw (post d h1 tk1 rfl fun b o nb _ eb=>kp b o nb eb)
 ·refine aR (rD (W.item 0 s _ _ e st fun v h1 tk1 pv st1 kp=>?_))
  have hS1:=kp S _ nw hS
  refine aR (bw ?_)
  refine aR (yC hS1 rfl ?_)
  rw [nm]
  refine bw ⟨tO F.plain_min_loop _,ail W bt cm S nS _ (n-1) 0 _ v _ tb_g% (W.frame _ _ _ st1 fun b hb o eb=>?_) pv (Cp _ hS1 rfl) fun v2 h2 tk2 p2 k2=>?_⟩
  ·rw [rY _ _ (fun z:S=b=>nS (z ▸ hb))];exact eb
  ·exact post v2 h2 tk2 (by rw [if_pos (show 0<n from e)];exact p2) fun b o nb nbS eb=>k2 b o nb nbS (by
    rw [rY _ _ (aP nbS)];exact kp b o nb eb)
end
section
variable {prog:aV} {w:World} {A:bJ} {E:Value->Shared->Prop} {s:Shared} {l:Addr} {xs:Array (Int × Tok)}
theorem ab4 (a d:Value):Cm "min" ⟨[a],[("default",d)]⟩:=by unfold Cm;kernel_rfl
theorem ab5 {Q:Value->Shared->Prop} (d:Value) (hh:A.handled=none) (hl:s.heap.IsList l (nO xs))
  (post:∀ v h' tk,(if 0<xs.size then (nO xs)[jd (fun i j=>decide (numAt xs i<numAt xs j)) (xs.size-1)]? = some v else v=d) ->
   (∀ b o,s.heap.get? b=some o->h'.get? b=some o)->Q v { s with heap:=h',toks:=tk }) :
  wpAny (model prog w) A (call (.builtin "min") [.ref l] [("default",d)]) Q E s:=by
 have nm:(toString "min" ++ toString ".loop" : String) = "min.loop" := by decide
 have sz:(nO xs).size=xs.size:=by simp [nO]
 refine aa1 F.kind_min F.plain_min F.entry_min (ab4 _ _) ?_
 refine aR (wpAny_of_eq (show aeU "min" ["key","default"] 0 ⟨[],[("default",d)]⟩=pure [none,some d] from rfl) ?_)
 refine aR (bw ?_)
 refine aR (adY hl fun s2 e st hfp nlI=>?_)
 subst e
 refine aR (M6 ?_)
 rw [nm]
 refine bw ⟨tO F.plain_min_loop _,ZD (Oz (A:=A.in1) hh _ l nlI (nO xs)) _ (CmpOf.ints_lt (numAt xs) fun _ _=>Nf) _ (fun hm=>rZ _ (hfp _ hm)) d ?_ (iC _ rfl) fun v h' tk hv kp=>?_⟩
 ·exact (Oz (A:=A.in1) (prog:=prog) (w:=w) hh _ l nlI (nO xs)).frame _ _ _ st fun b _ o e=>gK _ e
 ·rw [sz] at hv
  refine post v h' tk hv fun b o e=>kp b o ?_ ?_ (gK _ (gK _ e))
  ·intro hm
   have h1:=gZ.mp hm
   have h2:=bR e
   rw [h1] at h2
   exact rZ _ h2
  ·have h2:=bR e
   rw [Cq]
   exact cW (xU h2)
end
section
variable {prog:aV} {w:World} {A:bJ} {R:nP->Shared->Prop} {it:Addr} {fp wr:List Addr} {n:Nat} {P:Nat->Value->Prop} {St:Nat->Heap->Prop}
theorem ain (W:Walks prog w A.in1 it fp wr n P St) (bt:Nat->Nat->Bool)
  (cm:CmpOf prog w A.in1 .Gt P bt) (S:Addr) (nS:S∉fp) (kw:List (Str × Value)) :
  ∀ (k j:Nat) (s:Shared) (u:Value) (c:Nat),k+(j+1)=n->St (j+1) s.heap->P (jd bt j) u ->
   s.heap.get? S=some { cls:=.type "list",data:=.seq #[u,u] c } ->
   (∀ v h' tk,P (jd bt (n-1)) v->(∀ b o,b∉wr->b≠S->s.heap.get? b=some o->h'.get? b=some o) ->
    R (.ok (.ret v)) { s with heap:=h',toks:=tk }) ->
   gO (model prog w) A (.builtin "max.loop" ⟨[.ref it,.none,.ref S],kw⟩) R s:=by
 have nw:S∉wr:=fun h=>nS (W.sub _ h)
 have nm:(toString "max" ++ toString ".loop" : String) = "max.loop" := by decide
 intro k
 induction k with
 | zero =>
  intro j s u c e st pu hS post
  have ej:j=n-1:=by lia
  have en:j+1=n:=by lia
  rw [ej] at pu
  rw [en] at st
  refine yx F.entry_max_loop ?_
  rw [CN F.plain_max_loop _]
  refine aR (yD hS rfl ?_)
  refine aR (rD (W.done s _ _ st fun h1 tk1 kp=>?_))
  refine aR (yC (kp S _ nw hS) rfl (aR (tQ (bw ?_))))
  exact post u _ tk1 pu fun b o nb nbS eb=>by
   rw [rY _ _ (aP nbS)];exact kp b o nb eb
 | succ k ih =>
  intro j s u c e st pu hS post
  refine yx F.entry_max_loop ?_
  rw [CN F.plain_max_loop _]
  refine aR (yD hS rfl ?_)
  refine aR (rD (W.item (j+1) s _ _ tb_g% st fun v h1 tk1 pv st1 kp=>?_))
  have hS1:=kp S _ nw hS
  refine aR (bw ?_)
  refine aR (rD (mz (aR (cm (j+1) (jd bt j) v u _ _ _ pv pu ?_))))
  refine aR (mz (Gz (aR (tQ (bw ?_)))))
  have ab:jd bt (j+1)=if bt (j+1) (jd bt j) then j+1 else jd bt j:=rfl
  cases hb:bt (j+1) (jd bt j) with
  | true =>
   rw [hb,if_pos rfl] at ab
   rw [if_pos rfl]
   refine aR (yC hS1 rfl (aR (tQ ?_)))
   rw [nm]
   refine bw ⟨tO F.plain_max_loop _,ih (j+1) _ v _ tb_g% (W.frame _ _ _ st1 fun b hb o eb=>?_) (by rw [ab];exact pv) (Cp _ hS1 rfl) fun v2 h2 tk2 p2 k2=>?_⟩
   ·rw [rY _ _ (fun z:S=b=>nS (z ▸ hb))];exact eb
   ·exact post v2 h2 tk2 p2 fun b o nb nbS eb=>k2 b o nb nbS (by
     rw [rY _ _ (aP nbS)];exact kp b o nb eb)
  | false =>
   rw [hb,if_neg (by decide)] at ab
   rw [if_neg (by decide)]
   refine aR (tQ ?_)
   rw [nm]
   refine bw ⟨tO F.plain_max_loop _,ih (j+1) _ u c tb_g% st1 (by rw [ab];exact pu) hS1 fun v2 h2 tk2 p2 k2=>?_⟩
   exact post v2 h2 tk2 p2 fun b o nb nbS eb=>k2 b o nb nbS (kp b o nb eb)
theorem ZF (W:Walks prog w A.in1 it fp wr n P St) (bt:Nat->Nat->Bool)
  (cm:CmpOf prog w A.in1 .Gt P bt) (S:Addr) (nS:S∉fp) (d:Value) {s:Shared} {c:Nat} (st:St 0 s.heap)
  (hS:s.heap.get? S=some { cls:=.type "list",data:=.seq #[] c })
  (post:∀ v h' tk,(if 0<n then P (jd bt (n-1)) v else v=d)->(∀ b o,b∉wr->b≠S->s.heap.get? b=some o->h'.get? b=some o) ->
   R (.ok (.ret v)) { s with heap:=h',toks:=tk }) :
  gO (model prog w) A (.builtin "max.loop" ⟨[.ref it,.none,.ref S],[("default",d)]⟩) R s:=by
 have nw:S∉wr:=fun h=>nS (W.sub _ h)
 have nm:(toString "max" ++ toString ".loop" : String) = "max.loop" := by decide
 refine yx F.entry_max_loop ?_
 rw [CN F.plain_max_loop _]
 refine aR (yD hS rfl ?_)
 rcases Ny n with e | e
 ·subst e
  refine aR (rD (W.done s _ _ st fun h1 tk1 kp=>?_))
  refine aR (tR ?_)
  exact bw (post d h1 tk1 rfl fun b o nb _ eb=>kp b o nb eb)
 ·refine aR (rD (W.item 0 s _ _ e st fun v h1 tk1 pv st1 kp=>?_))
  have hS1:=kp S _ nw hS
  refine aR (bw ?_)
  refine aR (yC hS1 rfl ?_)
  rw [nm]
  refine bw ⟨tO F.plain_max_loop _,ain W bt cm S nS _ (n-1) 0 _ v _ tb_g% (W.frame _ _ _ st1 fun b hb o eb=>?_) pv (Cp _ hS1 rfl) fun v2 h2 tk2 p2 k2=>?_⟩
  ·rw [rY _ _ (fun z:S=b=>nS (z ▸ hb))];exact eb
  ·exact post v2 h2 tk2 (by rw [if_pos (show 0<n from e)];exact p2) fun b o nb nbS eb=>k2 b o nb nbS (by
    rw [rY _ _ (aP nbS)];exact kp b o nb eb)
end
section
variable {prog:aV} {w:World} {A:bJ} {E:Value->Shared->Prop} {s:Shared} {l:Addr} {xs:Array (Int × Tok)}
theorem ab6 (a d:Value):Cm "max" ⟨[a],[("default",d)]⟩:=by unfold Cm;kernel_rfl
theorem ab7 {Q:Value->Shared->Prop} (d:Value) (hh:A.handled=none) (hl:s.heap.IsList l (nO xs))
  (post:∀ v h' tk,(if 0<xs.size then (nO xs)[jd (fun i j=>decide (numAt xs i>numAt xs j)) (xs.size-1)]? = some v else v=d) ->
   (∀ b o,s.heap.get? b=some o->h'.get? b=some o)->Q v { s with heap:=h',toks:=tk }) :
  wpAny (model prog w) A (call (.builtin "max") [.ref l] [("default",d)]) Q E s:=by
 have nm:(toString "max" ++ toString ".loop" : String) = "max.loop" := by decide
 have sz:(nO xs).size=xs.size:=by simp [nO]
 refine aa1 F.kind_max F.plain_max F.entry_max (ab6 _ _) ?_
 refine aR (wpAny_of_eq (show aeU "max" ["key","default"] 0 ⟨[],[("default",d)]⟩=pure [none,some d] from rfl) ?_)
 refine aR (bw ?_)
 refine aR (adY hl fun s2 e st hfp nlI=>?_)
 subst e
 refine aR (M6 ?_)
 rw [nm]
 refine bw ⟨tO F.plain_max_loop _,ZF (Oz (A:=A.in1) hh _ l nlI (nO xs)) _ (CmpOf.ints_gt (numAt xs) fun _ _=>Nf) _ (fun hm=>rZ _ (hfp _ hm)) d ?_ (iC _ rfl) fun v h' tk hv kp=>?_⟩
 ·exact (Oz (A:=A.in1) (prog:=prog) (w:=w) hh _ l nlI (nO xs)).frame _ _ _ st fun b _ o e=>gK _ e
 ·rw [sz] at hv
  refine post v h' tk hv fun b o e=>kp b o ?_ ?_ (gK _ (gK _ e))
  ·intro hm
   have h1:=gZ.mp hm
   have h2:=bR e
   rw [h1] at h2
   exact rZ _ h2
  ·have h2:=bR e
   rw [Cq]
   exact cW (xU h2)
end
section
variable {X:Cx} {x:Str} {tl:TE} {px p kp pos:Pos} {j:Nat} {bpos:Pos}
noncomputable def Best (lo:Bool) (ns:List Int) (v:V):Prop:=(ns=[]/\v = .non)\/∃ m,v = .int m/\m∈ns/\∀ z∈ns,if lo then m<=z else z<=m
noncomputable def agj (K:aW) (lo:Bool) (tl:TE):TE:=fun σ H Q=>tl σ H fun y H1=>∃ (a:Addr) (ns:List Int),y = .ref a/\SqL K H1 a (ns.map V.int)/\∀ v,Best lo ns v->Q v H1
theorem aio (hm0:X.mg "min" = none) (hl:PE X (.Name x px) tl) (hc:X.calm=true) (hg:Gl X "min" := by rfl) :
  PE X (.Call (.Name "min" p) [.Name x px] [⟨some "default",.Constant .none j bpos,kp⟩] pos) (agj X.K true tl):=by
 walk_at "n"
 refine zY (pW I hg hm0 boot_min ?_)
 refine Wh (yV (thn (hl pins s σ H _ I h) fun v s1 ⟨y,H1,I1,r1,q1⟩=>?_))
 obtain ⟨a,ns,rfl,ha,q⟩:=q1
 obtain rfl:v=Value.ref a:=r1
 refine CJ (Wk ?_)
 refine Wa (kws_nil ?_)
 show wpAny _ _ (call (.builtin "min") [.ref a] [(HB "default",.none)]) _ _ _
 obtain ⟨its,rv,pl,hz⟩:=I1.list ha
 have hi:=intsAre_of rv
 have hl:=pl.isList
 obtain ⟨ys,e⟩:=hi.allInts.items
 have hns:ns=ys.toList.map (·.1):=by rw [<- hi.numsOf,<- Vw,<- e]
 have hsz:ns.length=ys.size:=by rw [hns,bK,gU]
 rw [e] at hl
 refine ab5 .none (I1.ok.hd hc) hl fun v h' tk hv hk=>?_
 rcases Ny ys.size with z | z
 ·rw [if_neg tb_g%] at hv
  subst hv
  exact ⟨.non,H1,I1.kept hk,rfl,q _ (.inl ⟨KC.mp tb_g%,rfl⟩)⟩
 ·rw [if_pos z] at hv
  obtain ⟨t,rfl⟩:=Nf hv
  obtain ⟨h1,h2⟩:=argBest_lt (numAt ys) (ys.size-1)
  refine ⟨.int _,H1,I1.kept hk,⟨t,rfl⟩,q _ (.inr ⟨_,rfl,?_,fun b hb=>?_⟩)⟩
  ·rw [hns,Nj];exact getD_mem (by rw [bK,gU];lia)
  ·rw [hns] at hb
   obtain ⟨j,hj,rfl⟩:=mem_getD hb
   rw [bK,gU] at hj
   rw [if_pos rfl,<- Nj];exact h2 j tb_g%
theorem aip (hm0:X.mg "max" = none) (hl:PE X (.Name x px) tl) (hc:X.calm=true) (hg:Gl X "max" := by rfl) :
  PE X (.Call (.Name "max" p) [.Name x px] [⟨some "default",.Constant .none j bpos,kp⟩] pos) (agj X.K false tl):=by
 walk_at "n"
 refine zY (pW I hg hm0 boot_max ?_)
 refine Wh (yV (thn (hl pins s σ H _ I h) fun v s1 ⟨y,H1,I1,r1,q1⟩=>?_))
 obtain ⟨a,ns,rfl,ha,q⟩:=q1
 obtain rfl:v=Value.ref a:=r1
 refine CJ (Wk ?_)
 refine Wa (kws_nil ?_)
 show wpAny _ _ (call (.builtin "max") [.ref a] [(HB "default",.none)]) _ _ _
 obtain ⟨its,rv,pl,hz⟩:=I1.list ha
 have hi:=intsAre_of rv
 have hl:=pl.isList
 obtain ⟨ys,e⟩:=hi.allInts.items
 have hns:ns=ys.toList.map (·.1):=by rw [<- hi.numsOf,<- Vw,<- e]
 have hsz:ns.length=ys.size:=by rw [hns,bK,gU]
 rw [e] at hl
 refine ab7 .none (I1.ok.hd hc) hl fun v h' tk hv hk=>?_
 rcases Ny ys.size with z | z
 ·rw [if_neg tb_g%] at hv
  subst hv
  exact ⟨.non,H1,I1.kept hk,rfl,q _ (.inl ⟨KC.mp tb_g%,rfl⟩)⟩
 ·rw [if_pos z] at hv
  obtain ⟨t,rfl⟩:=Nf hv
  obtain ⟨h1,h2⟩:=argBest_gt (numAt ys) (ys.size-1)
  refine ⟨.int _,H1,I1.kept hk,⟨t,rfl⟩,q _ (.inr ⟨_,rfl,?_,fun b hb=>?_⟩)⟩
  ·rw [hns,Nj];exact getD_mem (by rw [bK,gU];lia)
  ·rw [hns] at hb
   obtain ⟨j,hj,rfl⟩:=mem_getD hb
   rw [bK,gU] at hj
   rw [if_neg (by decide),<- Nj];exact h2 j tb_g%
end
theorem IW {K:aW} {a:Addr} {xs:List V} {caps:List Nat} {tt:TT} {te:TE} {σ:St} {H:Hp} {D:Addr} {Q:VK}
  (Pv:Nat->List V->Hp->Prop) (h0:Pv 0 [] (upd H D (.lst [])))
  (hl:∀ i ys H,i<=xs.length->Pv i ys H->SqT K H a xs/\H D=some (.lst ys)/\ys.length<sizeLine)
  (hs:∀ i ys H x,xs[i]? = some x->Pv i ys H->tt (nZ σ (some x) caps) H fun b H2=>if b=true then te (nZ σ (some x) caps) H2 fun y H3=>H3 D=some (.lst ys)/\Pv (i+1) (ys++[y]) (upd H3 D (.lst (ys++[y]))) else H2 D=some (.lst ys)/\Pv (i+1) ys H2)
  (hd:∀ ys H,Pv xs.length ys H->Q (.ref D) H)
  (mT:∀ σ H (R R':Bool->Hp->Prop),(∀ b H,R b H->R' b H)->tt σ H R->tt σ H R')
  (mE:∀ σ H (Q Q':VK),(∀ y H,Q y H->Q' y H)->te σ H Q->te σ H Q'):FQ (Itt K a) caps tt te σ D Q H:=by
 refine ⟨fun i m ys G=>m=xs.length-i/\i<=xs.length/\Pv i ys G,⟨xs.length,rfl,bZ _,h0⟩,?_⟩
 rintro i m ys G ⟨rfl,hi,p⟩
 obtain ⟨sq,q,z⟩:=hl i ys G hi p
 refine ⟨q,?_⟩
 rcases vD i xs.length with lt | ge
 ·refine .inr ⟨⟨xs,xs[i],sq,jL lt⟩,z,fun x G' y=>?_⟩
  obtain ⟨rfl,y⟩:=y
  refine mT _ _ _ _ (fun b G2 hb=>?_) (hs i ys _ x (y xs sq) p)
  cases b with
  | true =>
   rw [if_pos rfl] at hb ⊢
   exact mE _ _ _ _ (fun y G3 ⟨a,b⟩=>⟨a,xs.length-(i+1),by lia,rfl,lt,b⟩) hb
  | false =>
   rw [if_neg (by decide)] at hb ⊢
   exact ⟨hb.1,xs.length-(i+1),by lia,rfl,lt,hb.2⟩
 ·obtain rfl:i=xs.length:=by lia
  exact .inl ⟨⟨xs,sq,cJ _⟩,hd ys G p⟩
end L2
namespace L2
open PySem PySem.Spec PyProof.Rows
section
variable {X:Cx} {e se:Expr} {te:TE} {lo hi:Option Expr} {tl th ts:TO} {p2 pos:Pos}
noncomputable def Qe {α:Type} (xs:List α) (lo hi:Option Int):List α :=
 (sliceRange (pK lo hi (some 2) xs.length).1 (pK lo hi (some 2) xs.length).2.1 (pK lo hi (some 2) xs.length).2.2).filterMap (xs[·]?)
noncomputable def rSl2 (K:aW):V->Option Int->Option Int->Hp->VK->Prop:=fun x lo hi H Q=>∃ a xs,x = .ref a/\SqL K H a xs/\∀ p,H p=none->Q (.ref p) (upd H p (.lst (Qe xs lo hi)))
noncomputable def tSl2 (K:aW) (te:TE) (tl th ts:TO):TE:=fun σ H Q=>te σ H fun x H1=>tl σ H1 fun l H2=>th σ H2 fun u H3=>ts σ H3 fun t H4=>t=some 2/\rSl2 K x l u H4 Q
theorem aiq:∀ {xs:List V} {us:List Value},Vals xs us->∀ ks:List Nat,Vals (ks.filterMap (xs[·]?)) (ks.filterMap (us[·]?)):=by
 intro xs us r ks
 induction ks with
 | nil=>exact .nil
 | cons k ks ih =>
  rw [Ed,Ed]
  rcases vD k xs.length with h | h
  ·obtain ⟨u,eu,ru⟩:=r.get (jL h)
   rw [jL h,eu]
   exact .cons ru ih
  ·rw [Mj h,Mj (by rw [<- r.length];exact h)]
   exact ih
theorem agk {α:Type} (xs:List α) (lo hi:Option Int):(Qe xs lo hi).length<=xs.length:=by
 have:=slicePick_size_le (Array.replicate xs.length Value.none) lo hi (some 2)
 rw [aek] at this
 unfold G9 at this
 rw [gH,aek] at this
 refine fX (NQ ?_) this
 unfold Qe
 rw [acU,acU]
 apply List.countP_congr
 intro k _
 simp [Array.getElem?_replicate]
theorem ab8 (he:PE X e te) (hl:PO X lo tl) (hu:PO X hi th) (hs:PO X (some se) ts):PE X (.Subscript e (.Slice lo hi (some se) p2) pos) (tSl2 X.K te tl th ts):=by
 walk_at "n"
 refine Wj (thn (he pins s σ H _ I h) fun v s1 ⟨x,H1,I1,r1,q1⟩=>?_)
 refine wpAny_Slice (thn (hl pins s1 σ H1 _ I1 q1) fun vl s2 ⟨l,H2,I2,pl,q2⟩=>thn (hu pins s2 σ H2 _ I2 q2) fun vu s3 ⟨u,H3,I3,pu,q3⟩=>thn (hs pins s3 σ H3 _ I3 q3) fun vs s4 ⟨t,H4,I4,pt,q4⟩=>?_)
 obtain ⟨rfl,a,xs,rfl,hx,q⟩:=q4
 cases r1
 have I5:Inv X pins σ H4 { s4 with heap:=s4.heap.push { cls:=.type "slice",data:=.fields #[vl,vu,vs] } }:=I4.kept (t':=s4.toks) fun b ob q=>gK _ q
 obtain ⟨its,r,ht,hz⟩:=I5.list hx
 have hlen:=r.length
 show wpAny (model X.prog X.w) X.A (Ob e (.Slice lo hi (some se) p2) (.ref a) (.ref s4.heap.objs.size)) (EP X pins σ Q) X.xe { s4 with heap:=s4.heap.push { cls:=.type "slice",data:=.fields #[vl,vu,vs] } }
 refine tail_any (ops:=[.ref a,.ref s4.heap.objs.size]) ht.isList.typeIs Vr.lookup ?_ (by with_unfolding_all rfl)
 refine adG ht.isList (ae1 ..) pl pu pt (by simp) ?_ (by rw [gH];lia)
 have ec:G9 its.toArray l u (some 2)=(Qe its l u).toArray:=by
  unfold G9 Qe
  rw [gH]
  simp only [List.getElem?_toArray]
 rw [ec]
 refine ⟨.ref _,_,I5.laid (t':=s4.toks) (o:=.lst (Qe xs l u)) (fun b ob q=>gK _ q) (cJ _) ?_,rfl,q _ (I5.hok.fresh (cJ _))⟩
 refine ⟨fX (agk xs l u) hz,_,0,?_,iC _ rfl⟩
 unfold Qe
 rw [<- hlen]
 exact aiq r _
end
theorem ab9 {ns:List Int} {t:Int} (ht:t=0\/t=1):Qe (ns.map V.int) (some t) (some ((ns.length:Int)-(ns.length:Int) % 2))=(RG.pick (decide (t=1)) ns).map V.int:=by
 have hp:∀ (ns:List Int) (o:Bool),RG.pick o ns=(yu (ns.length / 2)).filterMap fun k=>ns[(if o then 1 else 0)+2*k]?:=by
  intro ns o
  fun_induction RG.pick o ns with
  | case1 a b r ih =>
   have e:(a::b::r).length / 2=r.length / 2+1:=by simp only [jG];lia
   have sh:(fun k=>(a::b::r)[(if o=true then 1 else 0)+2*k]?) ∘ Nat.succ=fun k=>r[(if o=true then 1 else 0)+2*k]?:=by
    funext k
    show (a::b::r)[(if o=true then 1 else 0)+2*(k+1)]? = _
    rw [show (if o=true then 1 else 0)+2*(k+1)=(if o=true then 1 else 0)+2*k+1+1 by lia,Uv,Uv]
   rw [ih,e,List.range_succ_eq_map,Ed,ac9,sh]
   cases o <;> rfl
  | case2 l h =>
   match l,h with
   | [],_=>rfl
   | [x],_=>simp
   | a::b::r,h=>exact absurd rfl (h a b r)
 unfold Qe
 rw [hp,List.map_filterMap]
 have hn:(ns.map V.int).length=ns.length:=bK _
 rw [hn]
 have b1:(pK (some t) (some ((ns.length:Int)-(ns.length:Int) % 2)) (some 2) ns.length).1=min t ns.length:=by
  rcases ht with rfl | rfl <;> simp [pK] <;> lia
 have b2:(pK (some t) (some ((ns.length:Int)-(ns.length:Int) % 2)) (some 2) ns.length).2.1=(ns.length:Int)-(ns.length:Int) % 2:=by
  simp [pK];lia
 have b3:(pK (some t) (some ((ns.length:Int)-(ns.length:Int) % 2)) (some 2) ns.length).2.2=2:=rfl
 rw [b1,b2,b3]
 unfold sliceRange
 rw [ac9]
 have cnt:(if (2:Int)>0 then (if min t ns.length<(ns.length:Int)-(ns.length:Int) % 2 then ((ns.length:Int)-(ns.length:Int) % 2-min t ns.length+2-1) / 2 else 0) else (if min t ns.length>(ns.length:Int)-(ns.length:Int) % 2 then (min t ns.length-((ns.length:Int)-(ns.length:Int) % 2)-2-1) / (-2) else 0)).toNat=ns.length / 2:=by
  rw [if_pos (by decide)]
  split
  ·rcases ht with rfl | rfl <;> lia
  ·rcases ht with rfl | rfl <;> lia
 rw [cnt]
 have fm:∀ (ks:List Nat) (f g:Nat->Option V),(∀ k∈ks,f k=g k)->ks.filterMap f=ks.filterMap g:=by
  intro ks f g
  induction ks with
  | nil=>intro _;rfl
  | cons k r ih =>
   intro h
   rw [Ed,Ed,h k gq,ih fun j hj=>h j (gY _ hj)]
 refine fm _ _ _ fun k hk=>?_
 have hk:=U5.mp hk
 show (ns.map V.int)[(min t ns.length+2*(k:Int)).toNat]? = _
 have:(min t ns.length+2*(k:Int)).toNat=(if decide (t=1) then 1 else 0)+2*k:=by
  rcases ht with rfl | rfl
  ·simp;lia
  ·simp;lia
 rw [this,jN]
end L2
namespace L2
open PySem PySem.Spec PyProof.Rows
noncomputable def Itv (K:aW) (a:Addr) (n:Nat):It :=
 ⟨fun i H=>∃ xs,SqL K H a xs/\xs.length=n/\i<n,fun i H x H'=>H'=H/\∀ xs,SqL K H a xs->xs[n-1-i]? = some x,fun i _=>n<=i⟩
theorem agl {P:aV} {w:World} {K:aW} {tg:Expr} (a it:Addr) (n:Nat):Turn P w K tg (Itv K a n) [it] it (fun i h=>i<=n/\h.IsRevIter it a ((n:Int)-1-i)) where
 mem:=by simp
 obj:=fun i h st b hb=>by
  have e:b=it:=by simpa using hb
  subst e
  obtain ⟨_,o,e,c,d⟩:=st
  exact ⟨o,e,fun v z=>by rw [d] at z;cases z⟩
 keep:=fun i h h' st k=>⟨st.1,st.2.at fun o e=>k it (by simp) o e⟩
 item:=by
  walk_at "k"
  subst hP hw hK
  obtain ⟨xs,hq,hn,hi⟩:=hg
  obtain ⟨its,rv,p,hz⟩:=I.list hq
  have hx:xs[n-1-i]? = some (xs[n-1-i]'tb_g%):=jL tb_g%
  obtain ⟨u,hu,ru⟩:=rv.get hx
  k_dat it "m"
  have st2:=st.2
  rw [show (n:Int)-1-i=((n-1-i:Nat):Int) by lia] at st2
  refine wpAny_pyNext_rev_item st2 p.isList (x:=u) (by simpa using hu) fun h' st' sb=>?_
  rw [show ((n-1-i:Nat):Int)-1=(n:Int)-1-((i+1:Nat):Int) by lia] at st'
  have I1:Inv X pins σ H { s with heap:=h' }:=I.turned (t':=s.toks) (fun b o hb e=>(sb.2 b hb).trans e) f0 f1 f3 f4 f5
  obtain ⟨o,e,c,d⟩:=id st'
  exact ⟨u,rfl,aay (s:={ s with heap:=h' }) e c d (by decide) ⟨_,H,I1,ru,⟨rfl,fun ys hy=>by rw [I.RW hy hq];exact hx⟩,⟨hi,st'⟩,fun b hb=>(hf b hb).1⟩⟩
 done:=by
  walk_at "k"
  subst hP hw hK
  have hle:n<=i:=hg
  have e:i=n:=Nat.le_antisymm st.1 hle
  subst e
  k_dat it "m"
  have st2:=st.2
  rw [show (i:Int)-1-i = -1 by lia] at st2
  exact wpAny_pyNext_rev_end (I.ok.hd hc) st2 fun h' eb=>⟨rfl,I.turned (t':=s.toks) (fun b o hb e=>eb b o hb e) f0 f1 f3 f4 f5⟩
 self:=fun _ _ _ _ _ st h=>Vn st.2 h
section
variable {X:Cx} {tg:Expr}
noncomputable def iRev (K:aW) (ta:TA):TI:=fun σ H R=>ta σ H fun vs H1=>∃ a xs,vs=[.ref a]/\SqL K H1 a xs/\R (Itv K a xs.length) H1
theorem alq {a:Expr} {ta:TA} {p pos:Pos} (hg:Gl X "reversed") (hm:X.mg "reversed" = none) (ha:PA X [a] ta) (hs:dH [a] X.env=[(false,eval a X.env)]:=by rfl) :
  PI X tg (.Call (.Name "reversed" p) [a] [] pos) (iRev X.K ta):=by
 intro pins s σ H R I h
 refine Call_ (pW I hg hm aed (KD (thn (ha pos pins s σ H _ I h) fun us s1 ⟨vs,H1,I1,r1,q1⟩=>?_) hs rfl))
 obtain ⟨l,xs,e,hq,q⟩:=q1
 subst e
 obtain ⟨u,rfl,ru⟩:=vals1 r1
 cases ru
 obtain ⟨its,rv,pl,hz⟩:=I1.list hq
 have hlen:=rv.length
 refine adL pl.isList ?_
 have el:((its.toArray.size:Nat):Int)-1=(xs.length:Int)-1-((0:Nat):Int):=by rw [gH];lia
 refine Vn ⟨_,iC _ rfl,rfl,rfl⟩ ⟨_,[s1.heap.objs.size],_,Itv X.K l xs.length,H1,rfl,I1.kept (t':=s1.toks) fun b o e=>gK _ e,agl l _ _,⟨bZ _,_,iC _ rfl,rfl,by rw [<- el];rfl⟩,fun b hb=>?_,q⟩
 have e:b=s1.heap.objs.size:=by simpa using hb
 subst e
 exact I1.abH (cJ _) (I1.hok.fresh (cJ _))
end
theorem air {K:aW} {a:Addr} {xs:List V} {g:TG} {tb:TS} {D:Ends} {σ:St} {H:Hp} (Pv:Nat->St->Hp->Prop) (h0:Pv 0 σ H) (hl:∀ i σ H,i<=xs.length->Pv i σ H->SqL K H a xs)
  (hs:∀ i x σ H,xs.reverse[i]? = some x->Pv i σ H->g x σ H fun σ2 H2=>tb { D with nx:=Pv (i+1),ct:=Pv (i+1),bk:=D.nx } σ2 H2) (hd:∀ σ H,Pv xs.length σ H->D.nx σ H) :
  ∃ W:Nat->Nat->St->Hp->Prop,(∃ m,W 0 m σ H)/\∀ i m σ H,W i m σ H ->
   ((Itv K a xs.length).stop i H/\D.nx σ H)\/((Itv K a xs.length).go i H/\∃ N:St->Hp->Prop,(∀ σ' H',N σ' H'->∃ m',m'<m/\W (i+1) m' σ' H')/\∀ x H',(Itv K a xs.length).yld i H x H'->g x σ H' fun σ2 H2=>tb { D with nx:=N,ct:=N,bk:=D.nx } σ2 H2):=by
 refine ⟨fun i m σ H=>m=xs.length-i/\i<=xs.length/\Pv i σ H,⟨xs.length,by simp,bZ _,h0⟩,?_⟩
 rintro i m σ H ⟨rfl,hi,p⟩
 have q:=hl i σ H hi p
 by_cases hlt:i<xs.length
 ·refine .inr ⟨⟨xs,q,rfl,hlt⟩,Pv (i+1),fun σ' H' p'=>⟨xs.length-(i+1),by lia,rfl,hlt,p'⟩,fun x H' y=>?_⟩
  obtain ⟨rfl,hx⟩:=y
  exact hs i x σ H' (by rw [ac1 hlt];exact hx xs q) p
 ·have e:i=xs.length:=by lia
  subst e
  exact .inl ⟨cJ _,hd σ H p⟩
theorem ZG:VG (.type "list_reverseiterator") "__len__" = pure none:=by rw [adN,adJ];kernel_rfl
theorem agm:VG (.type "list_reverseiterator") "__length_hint__" = pure (some (.builtin "list_reverseiterator.__length_hint__")):=by rw [adN,adJ];kernel_rfl
section
variable {prog:aV} {w:World} {A:bJ} {E:Value->Shared->Prop} {s:Shared} {r l:Addr}
theorem agn {Q:Bool->Shared->Prop} (ty:s.TypeIs (.ref r) "list_reverseiterator") (h:Q false s):wpAny (model prog w) A (aeJ (.ref r)) Q E s:=by
 unfold aeJ
 refine aR (Vv ty ZG ?_)
 wp_delta
 refine BZ (fun q=>absurd q (by decide)) fun _=>?_
 refine BZ (fun q=>absurd q (by decide)) fun _=>?_
 refine aR (Vv ty agm ?_)
 generalize hid:("list_reverseiterator.__length_hint__" : String)=nm
 wp_delta
 rw [show splitId nm=some ("list_reverseiterator","__length_hint__") from by rw [<- hid];decide +kernel]
 subst hid
 refine aR (wpAny_isInstance (T := "list_reverseiterator") (b:=true) ty (by rw [isSubtype_type];kernel_rfl) ?_)
 refine BZ (fun q=>absurd q (by decide)) fun _=>?_
 refine BZ (fun _=>?_) fun q=>absurd tb_g% q
 refine BZ (fun q=>absurd q tb_g%) fun _=>?_
 exact bw h
noncomputable def Behind (items:Array Value) (i:Nat) (v:Value):Prop:=items[items.size-1-i]? = some v
theorem ago {R:nP->Shared->Prop} {items:Array Value} (hh:A.handled=none) (hr:s.heap.IsRevIter r l ((items.size:Int)-1)) (hl:s.heap.IsList l items) (hrl:l≠r) (S:Addr) (n1:S≠r) (n2:S≠l) (res:Value) (c:Nat)
  (hS:s.heap.get? S=some { cls:=.type "list",data:=.seq #[] c }) (hz:items.size<=sizeLine)
  (hR:∀ h' tk acc d,(∀ b o,b≠S->b≠r->s.heap.get? b=some o->h'.get? b=some o)->h'.get? S=some { cls:=.type "list",dict:=none,data:=.seq acc d,slots:=#[] }->ItemsOf (Behind items) acc items.size->R (.ok (.ret res)) { s with heap:=h',toks:=tk }) :
  wpAny (model prog w) A.in1 (Ow (.ref S) (.ref r) res) (fun fin t=>match fin with | .done f=>R (.ok f) t | .again k=>k.quiet=true/\gO (model prog w) A k R t) (fun e t=>R (.error e) t) s:=by
 have W:=Walks.listRev (prog:=prog) (w:=w) (A:=A.in1) hh r l hrl items
 have away:S∉[r,l]:=by
  simp only [cA,lN,or_false,not_or]
  exact ⟨n1,n2⟩
 unfold Ow
 refine aR (wpAny_typeOf (T := "list_reverseiterator") hr.typeIs ?_)
 have e1:aeK (.ref S) (.ref r)=false:=by simp [aeK,n1]
 have e2:(Value.type "list_reverseiterator" == Value.type "list")=false:=by decide
 have e3:(Value.type "list_reverseiterator" == Value.type "tuple")=false:=by decide
 simp only [e1,e2,e3,Bool.or_false,uO,if_false]
 refine aR (Vn hr ?_)
 refine aR (mz (agn hr.typeIs ?_))
 refine BZ (fun q=>absurd q (by decide)) fun _=>bw ⟨tO PySem.F.plain_extend_loop _,?_⟩
 refine codeAny_extend_loopS W.toS hz S away res items.size 0 _ #[] c rfl (bZ _) ⟨bZ _,by simpa using hr,hl⟩ hS (ItemsOf.nil _) fun t acc d hm hS2 hacc=>?_
 rw [Moved.eq_with hm]
 refine hR t.heap t.toks acc d (fun b o hb hb2 e=>hm.heap b o (fun m=>?_) e) hS2 hacc
 rcases cA.mp m with q | q
 ·exact hb q
 ·exact hb2 (gZ.mp q)
theorem agp {R:nP->Shared->Prop} {items:Array Value} (hh:A.handled=none) (hr:s.heap.IsRevIter r l ((items.size:Int)-1)) (hl:s.heap.IsList l items) (hrl:l≠r) (S:Addr) (n1:S≠r) (n2:S≠l)
  (hS:s.heap.get? S=some { cls:=.type "list",data:=.seq #[] }) (hz:items.size<=sizeLine)
  (hR:∀ h' tk acc d,(∀ b o,b≠S->b≠r->s.heap.get? b=some o->h'.get? b=some o)->h'.get? S=some { cls:=.type "list",dict:=none,data:=.seq acc d,slots:=#[] }->ItemsOf (Behind items) acc items.size->R (.ok (.ret .none)) { s with heap:=h',toks:=tk }) :
  wpAny (model prog w) A.in1 (g8.«list.__init__» ⟨[.ref S,.ref r],[]⟩) (fun fin t=>match fin with | .done f=>R (.ok f) t | .again k=>k.quiet=true/\gO (model prog w) A k R t) (fun e t=>R (.error e) t) s:=by
 show wpAny _ _ (do let was <- aeL (.ref S);ajY (.ref S) (fun _=>#[]);letGo was.toList.reverse;Ow (.ref S) (.ref r) .none) _ _ s
 refine aR ?_
 unfold aeL
 refine aR (yD hS rfl (bw ?_))
 show wpAny _ _ (updateSeq S (fun _=>#[]) >>= fun _=>letGo (#[]:Array Value).toList.reverse >>= fun _=>Ow (.ref S) (.ref r) Value.none) _ _ s
 refine aR (yC hS rfl ?_)
 have hS2:=Cp (iQ (fun _=>(#[]:Array Value))) hS rfl
 have rest:∀ b o,b≠S->s.heap.get? b=some o->(s.heap.update S (iQ (fun _=>(#[]:Array Value)))).get? b=some o:=fun b o n e=>(rY _ _ (aP n)).trans e
 refine aR (tQ ?_)
 refine ago hh (hr.at fun o e=>rest r o (aP n1) e) (hl.at fun o e=>rest l o (aP n2) e) hrl S n1 n2 .none _ hS2 hz fun h' tk acc d hk hS3 hacc=>?_
 exact hR h' tk acc d (fun b o n m e=>hk b o n m (rest b o n e)) hS3 hacc
theorem agq {Q:Value->Shared->Prop} {items:Array Value} (hh:A.handled=none) (hr:s.heap.IsRevIter r l ((items.size:Int)-1)) (hl:s.heap.IsList l items) (hrl:l≠r) (hz:items.size<=sizeLine)
  (hQ:∀ h' tk acc d,(∀ b o,b≠r->s.heap.get? b=some o->h'.get? b=some o)->h'.get? s.heap.objs.size=some { cls:=.type "list",dict:=none,data:=.seq acc d,slots:=#[] }->ItemsOf (Behind items) acc items.size->Q (.ref s.heap.objs.size) { s with heap:=h',toks:=tk }) :
  wpAny (model prog w) A (call (.type "list") [.ref r]) Q E s:=by
 refine callType_codes (Q₁:=fun o t=>o = .ref s.heap.objs.size/\t={ s with heap:=s.heap.push { cls:=.type "list",data:=.seq #[] } }) PySem.F.called_list (PySem.F.typeCall_list_1 _) PySem.F.entry_list_init (code_list_new _ ⟨rfl,rfl⟩) fun o t ht=>?_
 obtain ⟨rfl,rfl⟩:=ht
 have hS:(s.heap.push { cls:=.type "list",data:=.seq #[] }).get? s.heap.objs.size=some { cls:=.type "list",data:=.seq #[] }:=iC _ rfl
 obtain ⟨o1,g1,_⟩:=id hr
 obtain ⟨o2,g2,_⟩:=id hl
 refine ⟨⟨_,hS,rfl⟩,PySem.F.args_list_init_2 _ _,agp (A:=A.in1) hh (hr.at fun o e=>gK _ e) (hl.at fun o e=>gK _ e) hrl _ (yN (bR g1)) (yN (bR g2)) hS hz fun h' tk acc d hk hS2 hacc=>?_⟩
 exact ⟨rfl,hQ h' tk acc d (fun b o n e=>hk b o (cW (bR e)) n (gK _ e)) hS2 hacc⟩
theorem aa2:∀ {xs:List V} {us:List Value},us.length=xs.length->(∀ (j:Nat) (x:V) (u:Value),xs[j]? = some x->us[j]? = some u->RelV x u)->Vals xs us
 | [],[],_,_=>.nil
 | [],_::_,h,_=>by cases h
 | _::_,[],h,_=>by cases h
 | x::xs,u::us,h,k=>.cons (k 0 x u rfl rfl) (aa2 (by simpa using h) fun j y v hy hv=>k (j+1) y v (by simpa using hy) (by simpa using hv))
end
section
variable {X:Cx} {l:Expr} {tl:TE} {p p' pos pos':Pos}
noncomputable def agr (K:aW) (ta:TA):TE:=fun σ H Q=>ta σ H fun vs H1=>∃ a xs,vs=[.ref a]/\SqL K H1 a xs/\∀ q,H1 q=none->Q (.ref q) (upd H1 q (.lst xs.reverse))
theorem ZJ {ta:TA} (hm0:X.mg "list" = none) (hm1:X.mg "reversed" = none) (ha:PA X [l] ta) (hc:X.calm=true) (hg0:Gl X "list" := by rfl) (hg1:Gl X "reversed" := by rfl)
  (he:dH [.Call (.Name "reversed" p') [l] [] pos'] X.env=[(false,eval (.Call (.Name "reversed" p') [l] [] pos') X.env)]:=by rfl) (hs:dH [l] X.env=[(false,eval l X.env)]:=by rfl) :
  PE X (.Call (.Name "list" p) [.Call (.Name "reversed" p') [l] [] pos'] [] pos) (agr X.K ta):=by
 walk_at "n"
 refine Call_ (pW I hg0 hm0 boot_list (KD ?_ he rfl))
 rw [he]
 refine yV (Call_ (pW I hg1 hm1 aed (KD (thn (ha pos' pins s σ H _ I h) fun us s1 ⟨vs,H1,I1,r1,q1⟩=>?_) hs rfl)))
 obtain ⟨a,xs,e,hq,q⟩:=q1
 subst e
 obtain ⟨u,rfl,ru⟩:=vals1 r1
 cases ru
 obtain ⟨its,rv,pl,hz⟩:=I1.list hq
 have hlen:=rv.length
 refine adL pl.isList (CJ ?_)
 show wpAny _ _ (call (.type "list") [.ref s1.heap.objs.size]) _ _ _
 have hla:a≠s1.heap.objs.size:=by
  obtain ⟨o,g,_⟩:=pl.isList
  exact cW (bR g)
 refine agq (items:=its.toArray) (I1.ok.hd hc) ⟨_,iC _ rfl,rfl,rfl⟩ (pl.isList.at fun o e=>gK _ e) hla (by rw [gH];lia) fun h' tk acc d hk hS hacc=>?_
 have kp:∀ b o,s1.heap.get? b=some o->h'.get? b=some o:=fun b o e=>hk b o (cW (bR e)) (gK _ e)
 have hsz:(s1.heap.push (revObj a ((its.toArray.size:Int)-1))).objs.size=s1.heap.objs.size+1:=yP _ _
 have rr:Vals xs.reverse acc.toList:=aa2 (by rw [gU,hacc.1,gH,yq];lia) fun j x u hx hu=>by
  have hj:j<xs.length:=by
   have:=(jK.mp hx).1
   rwa [yq] at this
  rw [ac1 hj] at hx
  have hb:Behind its.toArray j u:=hacc.2 j u (by rw [<- pP];exact hu)
  unfold Behind at hb
  rw [gH,<- hlen] at hb
  obtain ⟨v,hv,rvv⟩:=rv.get hx
  have:u=v:=cX (hb.symm.trans (by simpa using hv))
  rw [this];exact rvv
 refine ⟨.ref _,_,I1.laid (a:=(s1.heap.push (revObj a ((its.toArray.size:Int)-1))).objs.size) (o:=.lst xs.reverse) (t':=tk) kp (by rw [hsz];exact nQ _) ?_,rfl,q _ (I1.hok.fresh (by rw [hsz];exact nQ _))⟩
 exact ⟨by rw [yq];lia,acc.toList,d,rr,by first | (rw [aej];exact hS) | simpa using hS⟩
end
end L2
namespace L2
open PySem PySem.Spec PyProof.Rows
section
variable {X:Cx} {pins:List (Addr × Obj)} {σ:St} {H:Hp} {s:Shared} {h':Heap}
theorem Inv.acd {t':Nat} {ch:List Addr} {t:Addr} {o:HO} (I:Inv X pins σ H s) (k:∀ b u,b∉ch->s.heap.get? b=some u->h'.get? b=some u) (hf:∀ b∈ch,xK X pins H b) (ht:s.heap.objs.size<=t)
  (new:dO X.prog X.w (upd H t o) h' t o):Inv X pins σ (upd H t o) { s with heap:=h',toks:=t' }:=by
 have nit:∀ b u,H b=some u->b∉ch:=fun b u e z=>by rw [(hf b z).1] at e;cases e
 have ntt:H t=none:=I.hok.fresh ht
 have lt:∀ b u,s.heap.get? b=some u->b≠t:=fun b u e=>cW (fW (bR e) ht)
 refine I.step (g':=s.gens) (d':=s.drawn) (ch:=ch) (fun b hb=>⟨(hf b hb).2.2.2.1,(hf b hb).2.1,(hf b hb).2.2.2.2.1,(hf b hb).2.2.2.2.2⟩) (fun b o _ _ hc e _=>k b o hc e) (fun b o _ _ hc e _=>⟨o.slots,k b o hc e⟩) (fun b u _ e n=>by rw [aB (lt b u e)];exact n)
  (fun b o hc e=>⟨o,k b o hc e⟩) (fun b xs e=>by rw [aB (aq e ntt)];exact e) (fun b q u e=>by rw [aB (aq e ntt)];exact e) (fun b ps e=>⟨#[],by rw [aB (aq e ntt),e];simp⟩) (fun m hm=>?_) (fun b u e=>?_) I.bare
 ·obtain ⟨o,es,ep,ho,r⟩:=hm
  exact ⟨o,es,ep,k _ o (fun z=>(hf _ z).2.1 rfl) ho,r⟩
 ·by_cases hb:b=t
  ·subst hb;rw [ak] at e;cases e;exact new
  ·rw [aB hb] at e
   refine (I.hok b u e).stay (fun c v hc q=>k c v ?_ q) (fun c q=>by rw [aB (aq q ntt)];exact q) fun c xs q=>by rw [aB (aq q ntt)];exact q
   rcases hc with z | z
   ·rw [z];exact nit b u e
   ·exact nit c _ z
theorem Inv.ais {t':Nat} {ch:List Addr} (I:Inv X pins σ H s) (k:∀ b u,b∉ch->s.heap.get? b=some u->h'.get? b=some u) (hf:∀ b∈ch,xK X pins H b):Inv X pins σ H { s with heap:=h',toks:=t' }:=by
 have nit:∀ b u,H b=some u->b∉ch:=fun b u e z=>by rw [(hf b z).1] at e;cases e
 refine I.step (g':=s.gens) (d':=s.drawn) (ch:=ch) (fun b hb=>⟨(hf b hb).2.2.2.1,(hf b hb).2.1,(hf b hb).2.2.2.2.1,(hf b hb).2.2.2.2.2⟩) (fun b o _ _ hc e _=>k b o hc e) (fun b o _ _ hc e _=>⟨o.slots,k b o hc e⟩) (fun b u _ _ n=>n)
  (fun b o hc e=>⟨o,k b o hc e⟩) (fun _ _ e=>e) (fun _ _ _ e=>e) (fun b ps e=>⟨#[],by rw [e];simp⟩) (fun m hm=>?_) (fun b u e=>?_) I.bare
 ·obtain ⟨o,es,ep,ho,r⟩:=hm
  exact ⟨o,es,ep,k _ o (fun z=>(hf _ z).2.1 rfl) ho,r⟩
 ·refine (I.hok b u e).stay (fun c v hc q=>k c v ?_ q) (fun _ q=>q) fun _ _ q=>q
  rcases hc with z | z
  ·rw [z];exact nit b u e
  ·exact nit c _ z
end
noncomputable def Itz (a b:Addr):It :=
 ⟨fun i H=>∃ xs ys,H a=some (.lst xs)/\H b=some (.lst ys)/\i<xs.length/\i<ys.length,
  fun i H x H'=>∃ t u v xs ys,H a=some (.lst xs)/\H b=some (.lst ys)/\xs[i]? = some u/\ys[i]? = some v/\H t=none/\x = .ref t/\H'=upd H t (.tup [u,v]),
  fun i H=>∃ xs ys,H a=some (.lst xs)/\H b=some (.lst ys)/\(xs.length<=i\/ys.length<=i)⟩
theorem ajy {c z TI TO i1 i2:Addr} (h:c∈[z,TO,i1,i2]):c∈[z,TI,TO,i1,i2]:=by
 simp only [cA,lN,or_false] at h ⊢
 rcases h with h | h | h | h <;> simp [h]
structure Z5 (z TI TO i1 i2:Addr):Prop where
 a:TI≠z
 b:TO≠z
 c:i1≠z
 d:i2≠z
 e:TI≠TO
 f:TI≠i1
 g:TI≠i2
 h:TO≠i1
 i:TO≠i2
 j:i1≠i2
theorem Z5.apart {z TI TO i1 i2 a b:Addr} (k:Z5 z TI TO i1 i2) {H:Hp} {xs ys:List V} (ha:H a=some (.lst xs)) (hb:H b=some (.lst ys)) (f:∀ c∈[z,TI,TO,i1,i2],H c=none):ZipApart z TI TO i1 i2 a b :=
 ⟨k.a,k.b,k.c,k.d,k.e,k.f,k.g,k.h,k.i,k.j,aq ha (f z (by simp)),aq ha (f TO (by simp)),aq ha (f i1 (by simp)),aq ha (f i2 (by simp)),aq hb (f z (by simp)),aq hb (f TO (by simp)),aq hb (f i1 (by simp)),aq hb (f i2 (by simp))⟩
theorem z5_of (n:Nat):Z5 (n+4) (n+2) (n+3) n (n+1) :=
 ⟨(show ¬ (n+2:Nat)=n+4 by lia),(show ¬ (n+3:Nat)=n+4 by lia),(show ¬ (n:Nat)=n+4 by lia),(show ¬ (n+1:Nat)=n+4 by lia),(show ¬ (n+2:Nat)=n+3 by lia),(show ¬ (n+2:Nat)=n by lia),(show ¬ (n+2:Nat)=n+1 by lia),(show ¬ (n+3:Nat)=n by lia),(show ¬ (n+3:Nat)=n+1 by lia),(show ¬ (n:Nat)=n+1 by lia)⟩
theorem ags {P:aV} {w:World} {K:aW} {elts:List Expr} {x1} {tpos:Pos} (a b z TI TO i1 i2:Addr) (k5:Z5 z TI TO i1 i2) :
  Turn P w K (.Tuple elts x1 tpos) (Itz a b) [z,TI,TO,i1,i2] z (fun i h=>IsZip h z TI TO .none/\IsPair h TI (.ref i1) (.ref i2)/\(∃ u v,IsPair h TO u v)/\h.IsListIter i1 a i/\h.IsListIter i2 b i) where
 mem:=by simp
 obj:=fun i h st c hc=>by
  obtain ⟨hz,hTI,⟨u,v,hTO⟩,⟨o1,h1,_,d1⟩,⟨o2,h2,_,d2⟩⟩:=st
  simp only [cA,lN,or_false] at hc
  rcases hc with rfl | rfl | rfl | rfl | rfl
  ·exact ⟨_,hz,fun v z=>by cases z⟩
  ·exact ⟨_,hTI,fun v z=>by cases z⟩
  ·exact ⟨_,hTO,fun v z=>by cases z⟩
  ·exact ⟨_,h1,fun v z=>by rw [d1] at z;cases z⟩
  ·exact ⟨_,h2,fun v z=>by rw [d2] at z;cases z⟩
 keep:=fun i h h' st k=>by
  obtain ⟨hz,hTI,⟨u,v,hTO⟩,⟨o1,h1,r1⟩,⟨o2,h2,r2⟩⟩:=st
  exact ⟨k z (by simp) _ hz,k TI (by simp) _ hTI,⟨u,v,k TO (by simp) _ hTO⟩,⟨o1,k i1 (by simp) _ h1,r1⟩,⟨o2,k i2 (by simp) _ h2,r2⟩⟩
 item:=by
  walk_at "k"
  subst hP hw hK
  obtain ⟨hz,hTI,⟨pa,pb,hTO⟩,h1,h2⟩:=st
  obtain ⟨xs,ys,ea,eb,li,lj⟩:=hg
  obtain ⟨_,us,n,rv,_,gl⟩:=I.Pr ea
  obtain ⟨_,vs,m,rw',_,gr⟩:=I.Pr eb
  have ex:xs[i]? = some xs[i]:=jL li
  have ey:ys[i]? = some ys[i]:=jL lj
  obtain ⟨u,hu,ru⟩:=rv.get ex
  obtain ⟨v,hv,rv'⟩:=rw'.get ey
  have D:=k5.apart ea eb fun c hc=>(hf c hc).1
  refine wpAny_pyNext_zip_item D hz hTI hTO h1 h2 ⟨_,gl,rfl,n,rfl⟩ ⟨_,gr,rfl,m,rfl⟩ (by simpa using hu) (by simpa using hv) fun h' a1 a2 a3 a4 a5 a6 hk=>?_
  have nt:H s.heap.objs.size=none:=I.hok.fresh (cJ _)
  have hf4:∀ c∈[z,TO,i1,i2],xK X pins H c:=fun c hc=>hf c (ajy hc)
  have I1:Inv X pins σ (upd H s.heap.objs.size (.tup [xs[i],ys[i]])) { s with heap:=h' }:=I.acd (t':=s.toks) (ch:=[z,TO,i1,i2])
   (fun c o hc e=>hk c o (fun q=>hc (by simp [q])) (fun q=>hc (by simp [q])) (fun q=>hc (by simp [q])) (fun q=>hc (by simp [q])) e) hf4 (cJ _)
   ⟨by show 2<=sizeLine;decide,[u,v],.cons ru (.cons rv' .nil),⟨_,a5,rfl,_,rfl⟩⟩
  have lts:∀ c∈[z,TI,TO,i1,i2],c≠s.heap.objs.size:=fun c hc=>by
   have:∃ o,s.heap.get? c=some o:=by
    obtain ⟨o1,g1,_⟩:=h1
    obtain ⟨o2,g2,_⟩:=h2
    simp only [cA,lN,or_false] at hc
    rcases hc with rfl | rfl | rfl | rfl | rfl
    ·exact ⟨_,hz⟩
    ·exact ⟨_,hTI⟩
    ·exact ⟨_,hTO⟩
    ·exact ⟨_,g1⟩
    ·exact ⟨_,g2⟩
   obtain ⟨o,e⟩:=this
   exact cW (bR e)
  have fr1:∀ c∈[z,TI,TO,i1,i2],(upd H s.heap.objs.size (.tup [xs[i],ys[i]])) c=none:=fun c hc=>by rw [aB (lts c hc)];exact (hf c hc).1
  refine ⟨.ref s.heap.objs.size,rfl,wpAny_letOwnedTupleGo_zip a1 fun h2' hz' hs'=>?_⟩
  k_dat z "m"
  refine ⟨.ref s.heap.objs.size,_,I1.turned (t':=s.toks) (fun c ob hb q=>(hs'.2 c hb).trans q) (fr1 z (by simp)) f1 f3 f4 f5,rfl,⟨_,_,_,xs,ys,ea,eb,ex,ey,nt,rfl,rfl⟩,⟨hz',?_,⟨u,v,?_⟩,?_,?_⟩,fr1⟩
  ·exact (hs'.2 TI k5.a).trans (hk TI _ k5.a k5.e k5.f k5.g hTI)
  ·exact (hs'.2 TO k5.b).trans a2
  ·obtain ⟨o,e,r⟩:=a3;exact ⟨o,(hs'.2 i1 k5.c).trans e,r⟩
  ·obtain ⟨o,e,r⟩:=a4;exact ⟨o,(hs'.2 i2 k5.d).trans e,r⟩
 done:=by
  walk_at "k"
  subst hP hw hK
  obtain ⟨hz,hTI,⟨pa,pb,hTO⟩,h1,h2⟩:=st
  obtain ⟨xs,ys,ea,eb,le⟩:=hg
  obtain ⟨_,us,n,rv,el,gl⟩:=I.Pr ea
  obtain ⟨_,vs,m,rw',er,gr⟩:=I.Pr eb
  have D:=k5.apart ea eb fun c hc=>(hf c hc).1
  have hend:us.toArray[i]? = none\/vs.toArray[i]? = none:=by
   rcases le with z | z
   ·exact .inl (aei (by rw [gH,<- el];exact z))
   ·exact .inr (aei (by rw [gH,<- er];exact z))
  refine wpAny_pyNext_zip_end (I.ok.hd hc) D hz hTI hTO h1 h2 ⟨_,gl,rfl,n,rfl⟩ ⟨_,gr,rfl,m,rfl⟩ hend fun h' hk=>⟨rfl,?_⟩
  exact I.ais (t':=s.toks) (ch:=[z,TO,i1,i2]) (fun c o hc e=>hk c o (fun q=>hc (by simp [q])) (fun q=>hc (by simp [q])) (fun q=>hc (by simp [q])) (fun q=>hc (by simp [q])) e)
   (fun c hc=>hf c (ajy hc))
 self:=fun A i s Q E st h=>adM st.1 h
noncomputable def iZip (ta:TA):TI:=fun σ H R=>ta σ H fun vs H1=>∃ a b xs ys,vs=[.ref a,.ref b]/\H1 a=some (.lst xs)/\H1 b=some (.lst ys)/\R (Itz a b) H1
theorem alr {X:Cx} {a b:Expr} {ta:TA} {elts:List Expr} {x1} {tpos p pos:Pos} (hg:Gl X "zip") (hm:X.mg "zip" = none) (ha:PA X [a,b] ta) (hs:dH [a,b] X.env=[(false,eval a X.env),(false,eval b X.env)]:=by rfl)
  (hs2:dH [b] X.env=[(false,eval b X.env)]:=by rfl):PI X (.Tuple elts x1 tpos) (.Call (.Name "zip" p) [a,b] [] pos) (iZip ta):=by
 intro pins s σ H R I h
 refine Call_ (pW I hg hm boot_zip (KD (thn (ha pos pins s σ H _ I h) fun us s1 ⟨vs,H1,I1,r1,q1⟩=>?_) (by rw [hs,hs2]) (by rw [hs2];rfl)))
 obtain ⟨l1,l2,xs,ys,e,e1,e2,q⟩:=q1
 subst e
 cases r1 with
 | cons r rr =>
  cases rr with
  | cons r' rr =>
   cases rr
   cases r
   cases r'
   obtain ⟨_,us,n,rv,_,gl⟩:=I1.Pr e1
   obtain ⟨_,vs,m,rw',_,gr⟩:=I1.Pr e2
   refine call_zip_2 (xs:=us.toArray) (ys:=vs.toArray) ⟨_,gl,rfl,n,rfl⟩ ⟨_,gr,rfl,m,rfl⟩ fun h' z1 z2 z3 z4 z5 z6 hk=>?_
   refine adM z1 ⟨_,[s1.heap.objs.size+4,s1.heap.objs.size+2,s1.heap.objs.size+3,s1.heap.objs.size,s1.heap.objs.size+1],_,Itz l1 l2,H1,rfl,I1.kept (t':=s1.toks) hk,
    ags l1 l2 (s1.heap.objs.size+4) (s1.heap.objs.size+2) (s1.heap.objs.size+3) s1.heap.objs.size (s1.heap.objs.size+1) (z5_of _),⟨z1,z2,⟨_,_,z3⟩,z4,z5⟩,fun c hc=>?_,q⟩
   have hle:s1.heap.objs.size<=c:=by
    simp only [cA,lN,or_false] at hc
    rcases hc with rfl | rfl | rfl | rfl | rfl <;> lia
   exact I1.abH hle (I1.hok.fresh hle)
end L2
namespace L2
open PySem PySem.Spec PyProof.Rows
noncomputable def pB (σ:St) (zs:List (Option V)) (caps:List Nat):St:=zs++caps.map fun j=>(σ[j]?).join
noncomputable def Ja (J:It) (g:TG) (k:Nat) (caps:List Nat) (tt:TT) (te:TE) (σ:St) (D:Addr) (Q:VK) (H1:Hp):Prop:=∃ W:Nat->Nat->List V->Hp->Prop,(∃ m,W 0 m [] (upd H1 D (.lst [])))/\∀ i m ys H,W i m ys H ->
 H D=some (.lst ys)/\((J.stop i H/\Q (.ref D) H)\/(J.go i H/\ys.length<sizeLine/\∀ x H',J.yld i H x H'->∀ zs:List (Option V),zs.length=k->g x (pB σ zs caps) H' fun σ2 H2=>(∃ zs':List (Option V),zs'.length=k/\σ2=pB σ zs' caps)/\tt σ2 H2 fun b H3=>if b=true then
  te σ2 H3 fun y H4=>H4 D=some (.lst ys)/\∃ m',m'<m/\W (i+1) m' (ys++[y]) (upd H4 D (.lst (ys++[y])))
  else H3 D=some (.lst ys)/\∃ m',m'<m/\W (i+1) m' ys H3))
noncomputable def als (wi:TI) (g:TG) (k:Nat) (caps:List Nat) (tt:TT) (te:TE):TE:=fun σ H Q=>wi σ H fun J H1=>∀ D,H1 D=none->Ja J g k caps tt te σ D Q H1
section
variable {X:Cx} {pins:List (Addr × Obj)} {σ:St} {H:Hp} {s:Shared}
theorem Inv.compT {k:Nat} {N:List Str} {scope:Scope} {cl:List (Str × Addr)} {fp:List Addr} {caps:List Nat} {h4:Heap} {D C:Addr} {tk:Nat} (I:Inv X pins σ H s) (hkind:scope.kind = .function) (hsub:Ik X.env.cells cl)
  (hhas:∀ y,((gP scope X.env).names.lookup y=some .cell\/(gP scope X.env).names.lookup y=some .free)->∃ c,cl.lookup y=some c) (hf:∀ b∈fp,xK X pins H b) (hfo:∀ b∈fp,∃ o,s.heap.get? b=some o)
  (hlen:N.length=k+caps.length) (hcap:∀ (i:Nat) (j:Nat),caps[i]? = some j->Aj X N scope cl (i+k) j) (hD:s.heap.objs.size<=D) (hC:s.heap.objs.size<=C) (hDC:C≠D)
  (hk:∀ b o,s.heap.get? b=some o->h4.get? b=some o) (hlist:∃ n,h4.get? D=some { cls:=.type "list",data:=.seq #[] n }) (hns:∃ m,h4.Ns C m) :
  Inv (dJ X N scope cl s H fp C) (X.pn++pins) (pB σ (Gq k none) caps) (upd H D (.lst [])) { s with heap:=h4,toks:=tk }:=by
 have hnD:H D=none:=I.hok.fresh hD
 have hnC:H C=none:=I.hok.fresh hC
 have lt:∀ b o,s.heap.get? b=some o->b≠D/\b≠C:=fun b o e=>⟨cW (fW (bR e) hD),cW (fW (bR e) hC)⟩
 have nst:∀ b,b≠X.env.locals->b∉X.fs->b∉frs X.stack:=fun b h1 h2 z=>by
  rcases cA.mp (I.vO b z) with e | e
  ·exact h1 e
  ·exact h2 e
 refine ⟨⟨I.ok.mod,hkind,I.ok.glob,I.ok.blt,hC,fun x y c h1 h2=>I.ok.inj x y c (hsub.of h1) (hsub.of h2),fun y hy=>hhas y hy,fun y c h=>(nomatch h),I.ok.hd,I.ok.frames,.inl rfl,fun b hb=>?_,I.bs,fX I.ok.bsz I.sz,fun b o e hb=>?_,fun b hb=>?_,I.stack,I.wR⟩,
  rfl,I.bare,Un.laid hk hD hnD,?_,fun y c e=>?_,?_,fun y c e=>?_,fun p hp=>?_,?_,?_⟩
 ·obtain ⟨o,e⟩:=hfo b hb
  exact ⟨(lt b o e).2,fun x c q=>(hf b hb).2.2.2.2.1 x c (hsub.of q)⟩
 ·rcases (hf b hb).2.2.2.1 with z | z
  ·exact I.ok.RV b o e z
  ·exact absurd (fW (bR e) I.ok.bsz) (V6.mpr z)
 ·exact nst b (hf b hb).2.1 (hf b hb).2.2.1
 ·obtain ⟨m,hm⟩:=hns
  obtain ⟨m0,_,hl⟩:=I.loc
  refine ⟨m,hm,fun i y v h1 h2 h3=>?_⟩
  have h2a:(Gq k (none:Option V)++caps.map fun j=>(σ[j]?).join)[i]? = some (some v):=h2
  by_cases hik:i<k
  ·rw [Gi (by rw [Bw];exact hik),acV,if_pos hik] at h2a
   cases h2a
  ·rw [zU (by rw [Bw];lia),Bw] at h2a
   obtain ⟨i',rfl⟩:∃ i',i=i'+k:=⟨i-k,by lia⟩
   rw [Nat.add_sub_cancel] at h2a
   have h2':=h2a
   rw [jN] at h2'
   cases ec:caps[i']? with
   | none=>rw [ec] at h2';cases h2'
   | some j =>
    rw [ec] at h2'
    have PB:(σ[j]?).join=some v:=cX h2'
    have e2:σ[j]? = some (some v):=by
     cases q:σ[j]? with
     | none=>rw [q] at PB;cases PB
     | some z=>rw [q] at PB;exact congrArg some PB
    obtain ⟨y',c,n1,n2,k1,k2,lc⟩:=(hcap i' j ec).ok
    have ey:y=y':=by
     have h1':N[i'+k]? = some y:=h1
     rw [n1] at h1';exact (cX h1').symm
    subst ey
    have vis:Vis X.env.scope y:=k1.elim (fun z=>.inr (.inl z)) fun z=>.inr (.inr z)
    obtain ⟨u,ru,lk⟩:=hl j y v n2 e2 vis
    refine ⟨u,ru,.inr ⟨k2,c,lc,?_⟩⟩
    rcases lk with ⟨z,_⟩ | ⟨_,c',lc',ic⟩
    ·rcases k1 with k1 | k1 <;> (rw [z] at k1;cases k1)
    ·rw [hsub.of lc] at lc'
     cases lc'
     obtain ⟨o,ho,hd⟩:=ic
     exact ⟨o,hk c o ho,hd⟩
 ·obtain ⟨v,o,ho,hd⟩:=I.cell y c (hsub.of e)
  exact ⟨v,o,hk c o ho,hd⟩
 ·show (upd H D (.lst [])) C=none
  rw [aB hDC];exact hnC
 ·have n:=I.pU y c (hsub.of e)
  obtain ⟨v,o,ho,hd⟩:=I.cell y c (hsub.of e)
  rw [aB (lt c o ho).1];exact n
 ·have hp':p∈X.pn++pins:=hp
  obtain ⟨e,n,ne,nf,d⟩:=I.pin p hp'
  exact ⟨hk _ _ e,by rw [aB (lt _ _ e).1];exact n,(lt _ _ e).2,nst _ ne nf,d⟩
 ·obtain ⟨n,e⟩:=hlist
  exact I.hok.laid hk hD ⟨bZ _,[],n,.nil,e⟩
 ·show (pB σ (Gq k none) caps).length=N.length
  unfold pB
  rw [eV,Bw,bK,hlen]
end
section
variable {P:aV} {w:World} {B:bJ} {R:nP->Shared->Prop} {s:Shared}
noncomputable def agt (P:aV) (w:World) (B:bJ) (R:nP->Shared->Prop) (elt tg:Expr) (ifs:List Expr) (it acc:Value) (en:Env) (J:Nat->Shared->Prop) (n:Nat):Option Value->Shared->Prop
 | none,t1=>R (.ok .next) t1
 | some v,t1 =>
  let X:=notedBy (model P w) B en fun e t=>R (.error e) t
  wpAny (model P w) B (GP tg it v) (fun _ t2=>wpAny (model P w) B (lR tg en v) (fun _ t3 =>
   wpAny (model P w) B (forIn ifs true fun c r=>if r=true then do let yes <- Hg c en (eval c en);pure (ForInStep.yield yes) else pure (ForInStep.yield r)) (fun yes t4 =>
    if yes=true then wpAny (model P w) B (eval elt en) (fun x t5=>wpAny (model P w) B (call (.builtin "list.append") [acc,x]) (fun _ t6=>∃ m,m<n/\J m t6) X t5) X t4
    else ∃ m,m<n/\J m t4) X t3) X t2) X t1
theorem ZL {elt tg iter:Expr} {ifs:List Expr} {scope:Scope} {pos:Pos} {it acc:Value} {en:Env} (J:Nat->Shared->Prop)
  (owe:∀ n t,J n t->wpAny (model P w) B (pyNext it) (agt P w B R elt tg ifs it acc en J n) (notedBy (model P w) B en fun e t'=>R (.error e) t') t) (n:Nat) (h:J n s) :
  gO (model P w) B (.compLoop (.ListComp elt [⟨tg,iter,ifs,0⟩] scope pos) 0 it acc en) R s:=by
 have same:∀ {X:Value->Shared->Prop} (a:Value) (b:Shared),X a b->X a b:=fun _ _ h=>h
 refine codeAny_loop rfl J (fun n t hJ=>?_) n h
 show wpAny _ B ((compTurn (.ListComp elt [⟨tg,iter,ifs,0⟩] scope pos) 0 it acc en).onRaise (fun x=>do noteFrame x en;theTreesLotGoes x)) _ _ t
 refine wpAny_noted ?_
 rw [compTurn_list]
 refine aR (M7 (aR (dW (owe n t hJ) (fun r t1 h1=>?_) same)))
 cases r with
 | none=>exact bw h1
 | some v =>
  refine aR (dW h1 (fun _ t2 h2=>aR (dW h2 (fun _ t3 h3=>aR (dW h3 (fun yes t4 h4=>?_) same)) same)) same)
  cases yes with
  | false=>exact bw ⟨rfl,h4⟩
  | true=>exact aR (aR (dW h4 (fun x t5 h5=>aR (dW h5 (fun _ t6 h6=>bw (bw ⟨rfl,h6⟩)) same)) same))
end
section
variable {X:Cx}
theorem Tq {elt iter tg:Expr} {g:TG} {k:Nat} {ifs:List Expr} {scope:Scope} {pos:Pos} {cl:List (Str × Addr)} {N:List Str} {caps:List Nat} {tt:TT} {te:TE} {pins:List (Addr × Obj)} {σ:St} {H2:Hp} {s2:Shared} {Q:VK} {it:Addr} {fp:List Addr} {tn:Nat->Heap->Prop} {J:It}
  {RR:Value->Addr->nP->Shared->Prop} {E:Value->Shared->Prop} (hc:X.calm=true)
  (hcell:∀ y∈scope.names,y.2 ≠ .cell) (hkind:scope.kind = .function) (hsub:Ik X.env.cells cl)
  (hhas:∀ y,((gP scope X.env).names.lookup y=some .cell\/(gP scope X.env).names.lookup y=some .free)->∃ c,cl.lookup y=some c)
  (hg:∀ s H fp C,PG (dJ X N scope cl s H fp C) tg g) (hlen:N.length=k+caps.length) (hcap:∀ (i:Nat) (j:Nat),caps[i]? = some j->Aj X N scope cl (i+k) j)
  (ht:∀ s H fp C,PTs (dJ X N scope cl s H fp C) ifs tt) (he:∀ s H fp C,PE (dJ X N scope cl s H fp C) elt te)
  (I2:Inv X pins σ H2 s2) (T:Turn X.prog X.w X.K tg J fp it tn) (st2:tn 0 s2.heap) (f2:∀ b∈fp,xK X pins H2 b) (w2:∀ D,H2 D=none->Ja J g k caps tt te σ D Q H2)
  (hRR:∀ D C σ' H' s5,s2.heap.objs.size<=C->Inv (dJ X N scope cl s2 H2 fp C) (X.pn++pins) σ' H' s5->Q (.ref D) H'->RR (.ref D) C (.ok .next) s5) :
  wpAny (model X.prog X.w) X.A (Np []) (fun acc s₃=>wpAny (model X.prog X.w) X.A (adQ scope X.env.globals cl [] X.env.qual none .none (some X.env)) (fun cenv s₄ =>
   gO (model X.prog X.w) X.A (.compStart (.ListComp elt [⟨tg,iter,ifs,0⟩] scope pos) 0 (.ref it) acc { cenv with scope:=gP scope X.env }) (RR acc cenv.locals) s₄) E s₃) E s2:=by
 refine M6 (adK hcell (by intro y hy;simp at hy) (fun h₁ hns₁ hsb₁=>?_) hkind)
 dsimp only at hns₁ hsb₁ ⊢
 generalize hH2:s2.heap.push { cls:=.type "list",dict:=none,data:=.seq ([]:List Value).toArray }=G2 at hns₁ hsb₁ ⊢
 have hC:G2.objs.size=s2.heap.objs.size+1:=by rw [<- hH2,Cq]
 have hCle:s2.heap.objs.size<=G2.objs.size:=by rw [hC];exact nQ _
 have hDC:G2.objs.size≠s2.heap.objs.size:=by rw [hC];exact yN (Hj _)
 have old:∀ b o,s2.heap.get? b=some o->h₁.get? b=some o:=fun b o e =>
  hsb₁.extBut b o (by rw [hC];exact cW (xU (bR e))) (gK _ (hH2 ▸ gK _ e))
 have hacc:∃ n,h₁.get? s2.heap.objs.size=some { cls:=.type "list",data:=.seq #[] n }:=⟨_,hsb₁.extBut _ _ (aP hDC) (gK _ (hH2 ▸ iC _ rfl))⟩
 have hnD:H2 s2.heap.objs.size=none:=I2.hok.fresh (cJ _)
 obtain ⟨W,⟨m0,w0⟩,turn⟩:=w2 s2.heap.objs.size hnD
 have fo:∀ b∈fp,∃ o,s2.heap.get? b=some o:=fun b hb=>by
  obtain ⟨o,e,_⟩:=T.obj _ _ st2 b hb
  exact ⟨o,e⟩
 have I3:Inv (dJ X N scope cl s2 H2 fp G2.objs.size) (X.pn++pins) (pB σ (Gq k none) caps) (upd H2 s2.heap.objs.size (.lst [])) { s2 with heap:=h₁,toks:=s2.toks+([]:List (Str × Value)).length } :=
  I2.compT hkind hsub hhas f2 fo hlen hcap (cJ _) hCle hDC old hacc ⟨_,hns₁⟩
 have st3:tn 0 h₁:=T.keep _ _ _ st2 fun b _ o e=>old b o e
 have nf:∀ b∈fp,b≠s2.heap.objs.size:=fun b hb=>by
  obtain ⟨o,e⟩:=fo b hb
  exact cW (bR e)
 have stat:∀ {H':Hp},(∀ b∈fp,H' b=none)->∀ b∈fp,xK (dJ X N scope cl s2 H2 fp G2.objs.size) (X.pn++pins) H' b:=fun {H'} hn b hb=>by
  obtain ⟨f0,f1,f2',f3,f4,f5⟩:=f2 b hb
  obtain ⟨o,e⟩:=fo b hb
  refine ⟨hn b hb,cW (fW (bR e) hCle),fun z=>?_,.inl hb,fun y c q=>f4 y c (hsub.of q),fun p hp=>f5 p hp⟩
  rcases cA.mp (I2.vO b z) with q | q
  ·exact f1 q
  ·exact f2' q
 have loop:gO (model X.prog X.w) X.A (.compLoop (.ListComp elt [⟨tg,iter,ifs,0⟩] scope pos) 0 (.ref it) (.ref s2.heap.objs.size) (Ni scope cl G2.objs.size X.env))
   (RR (.ref s2.heap.objs.size) G2.objs.size) { s2 with heap:=h₁,toks:=s2.toks+([]:List (Str × Value)).length }:=by
  refine ZL (fun n s'=>∃ i ys σ' H',Inv (dJ X N scope cl s2 H2 fp G2.objs.size) (X.pn++pins) σ' H' s'/\(∃ zs:List (Option V),zs.length=k/\σ'=pB σ zs caps)/\tn i s'.heap/\(∀ b∈fp,H' b=none)/\W i n ys H') ?_ m0
   ⟨0,[],_,_,I3,⟨_,Bw,rfl⟩,st3,fun b hb=>by rw [aB (nf b hb)];exact (f2 b hb).1,w0⟩
  rintro n s' ⟨i,ys,σ',H',I',⟨zs,hzs,rfl⟩,st',fr',w'⟩
  obtain ⟨hl,ends⟩:=turn i n ys H' w'
  rcases ends with ⟨stop,q⟩ | ⟨go,hsz,step⟩
  ·refine dW (T.done (dJ X N scope cl s2 H2 fp G2.objs.size) rfl rfl rfl hc i _ s' _ H' (fun _ _=>False) I' (stat fr') st' stop) (fun r s5 ⟨hr,I5⟩=>?_) fun _ _ f=>f.elim
   subst hr
   exact hRR _ _ _ _ _ hCle I5 q
  ·refine dW (T.item (dJ X N scope cl s2 H2 fp G2.objs.size) rfl rfl rfl hc i _ s' _ H' (fun _ _=>False) I' (stat fr') st' go) (fun r s5 ⟨u,hr,h5⟩=>?_) fun _ _ f=>f.elim
   subst hr
   refine dW h5 (fun _ s6 ⟨y,H6,I6,r6,y6,st6,fr6⟩=>?_) fun _ _ f=>f.elim
   have I6':=I6.pinned (stat fr6) (T.obj _ _ st6)
   have again:∀ {σ7:St} {H7:Hp} {s7:Shared},Inv (dJ X N scope cl s2 H2 fp G2.objs.size) ((X.pn++pins)++CW fp s6.heap) σ7 H7 s7->tn (i+1) s7.heap/\∀ b∈fp,H7 b=none:=fun {σ7 H7 s7} I7=>by
    refine ⟨T.keep _ _ _ st6 fun b hb o e=>(I7.pin (b,o) (qK _ (qK _ (mG hb e)))).1,fun b hb=>?_⟩
    obtain ⟨o,e,d⟩:=T.obj _ _ st6 b hb
    exact (I7.pin (b,o) (qK _ (qK _ (mG hb e)))).2.1
   refine dW (hg s2 H2 fp G2.objs.size _ s6 _ H6 y u _ I6' r6 (step y H6 y6 zs hzs)) (fun _ s7 ⟨σ7,H7,I7,⟨zs7,hz7,e7⟩,q7⟩=>?_) fun _ _ f=>f.elim
   subst e7
   refine dW (ht s2 H2 fp G2.objs.size _ s7 _ _ _ I7 q7) (fun ok s8 ⟨H8,I8,q8⟩=>?_) fun _ _ f=>f.elim
   cases ok with
   | false =>
    obtain ⟨_,m',hm,w8⟩:=q8
    have a8:=again I8
    exact ⟨m',hm,i+1,ys,_,H8,I8.pY,⟨zs7,hz7,rfl⟩,a8.1,a8.2,w8⟩
   | true =>
    refine dW (he s2 H2 fp G2.objs.size _ s8 _ _ _ I8 q8) (fun x9 s9 ⟨y9,H9,I9,r9,l9,m',hm,w9⟩=>?_) fun _ _ f=>f.elim
    refine dW (iW (X:=dJ X N scope cl s2 H2 fp G2.objs.size) _ s9 _ H9 (.ref s2.heap.objs.size) [y9] _ [x9] (fun _ H10=>H10=upd H9 s2.heap.objs.size (.lst (ys++[y9]))) I9 rfl (.cons r9 .nil) ⟨_,ys,y9,rfl,rfl,l9,hsz,rfl⟩) (fun _ s10 ⟨_,H10,I10,_,e10⟩=>?_) fun _ _ f=>f.elim
    subst e10
    have a10:=again I10
    exact ⟨m',hm,i+1,ys++[y9],_,_,I10.pY,⟨zs7,hz7,rfl⟩,a10.1,a10.2,w9⟩
 exact adH loop (T.self _ 0 _ _ _ st3 loop)
theorem Tt {i:Nat} {y:Str} {py spos:Pos} {elt iter tg:Expr} {g:TG} {k:Nat} {ifs:List Expr} {scope:Scope} {pos:Pos} {cl:List (Str × Addr)} {N:List Str} {caps:List Nat} {wi:TI} {tt:TT} {te:TE} (hXN:X.N.Nodup) (hi0:X.N[i]? = some y) (hy:Loc X.env.scope y)
  (hc:X.calm=true) (hclos:VH scope X.env=pure cl)
  (hcell:∀ y∈scope.names,y.2 ≠ .cell) (hkind:scope.kind = .function) (hnames:∀ y∈scope.names,y.2 = .local->scope.names.lookup y.1=some .local) (hsub:Ik X.env.cells cl)
  (hhas:∀ y,((gP scope X.env).names.lookup y=some .cell\/(gP scope X.env).names.lookup y=some .free)->∃ c,cl.lookup y=some c)
  (hg:∀ s H fp C,PG (dJ X N scope cl s H fp C) tg g) (hlen:N.length=k+caps.length) (hcap:∀ (i:Nat) (j:Nat),caps[i]? = some j->Aj X N scope cl (i+k) j)
  (hi:PI X tg iter wi) (ht:∀ s H fp C,PTs (dJ X N scope cl s H fp C) ifs tt) (he:∀ s H fp C,PE (dJ X N scope cl s H fp C) elt te)
  (hs:∀ x,GC iter X.env x=pure x:=by intro _;rfl) (hsw:yG (.ListComp elt [⟨tg,iter,ifs,0⟩] scope pos) (some (.Name y py)) spos.line X.env=pure true:=by rfl)
  (hf:X.fn y=true\/X.env.scope.names.lookup y=some .local:=by first | exact .inl rfl | exact .inr rfl | assumption) :
  PS X (.Assign [.Name y py] (.ListComp elt [⟨tg,iter,ifs,0⟩] scope pos) spos) (tAsg (als wi g k caps tt te) (vQ i)):=by
 intro pins s σ H D I h
 rw [adI _ _ _ _ hsw]
 refine aR (M7 (aR ?_))
 show wpAny _ X.A (do let _ <- adW (.ListComp elt [⟨tg,iter,ifs,0⟩] scope pos) scope X.env _ (Np []) false (eval iter X.env) (some (lR (.Name y py) X.env))) _ _ s
 refine aR (dW (Vl (use:=some (lR (.Name y py) X.env)) (Q:=fun _ s'=>SP X pins D .next s') rfl hs hclos hkind hnames
  (thn (hi pins s σ H _ I h) fun v s1 h1=>thn h1 fun itv s2 h2=>?_)) (fun _ s' hq=>bw (bw hq)) fun _ _ e=>e)
 obtain ⟨it,fp,tn,J,H2,e,I2,T,st2,f2,w2⟩:=h2
 subst e
 refine Tq (RR:=fun acc C=>compPost (model X.prog X.w) X.A X.xe (some (lR (.Name y py) X.env)) (fun _ s'=>SP X pins D .next s') acc C) hc hcell hkind hsub hhas hg hlen hcap ht he I2 T st2 f2 w2 fun D' C σ' H' s5 hC I5 q=>?_
 show wpAny _ X.A (lR (.Name y py) X.env (.ref D')) _ _ _
 have IX:Inv X pins σ H' s5:=I2.Zm (h':=s5.heap) f2 hC I5 ⟨rfl,fun _ _=>rfl⟩
 have nL:C≠X.env.locals:=by
  obtain ⟨m,⟨o,_,_,ho,_⟩,_⟩:=I2.loc
  exact yN (fW (bR ho) hC)
 have nC:∀ z c,X.env.cells.lookup z=some c->c≠C:=fun z c e=>by
  obtain ⟨v,o,ho,_⟩:=I2.cell z c e
  exact cW (fW (bR ho) hC)
 refine Vp (CQ IX hXN hi0 hy (v:=.ref D') rfl (fun s6 I6 hb=>?_) hf)
 obtain ⟨m,hm,_⟩:=I5.loc
 obtain ⟨a,sb,ha⟩:=hb
 have na:C≠a:=by
  rcases ha with z | z
  ·rw [z];exact nL
  ·exact aP (nC _ _ z)
 refine ⟨m,hm.sameBut sb na,fun h' hs'=>⟨_,H',?_,q⟩⟩
 obtain ⟨hp6,g6,d6,t6,o6⟩:=s6
 refine I6.turned (it:=C) (t':=t6) (fun b o hb e=>(hs'.2 b hb).trans e) I5.free nL (.inr (fX I2.sz hC)) nC fun p hp z=>?_
 have:=(I2.pin p hp).1
 exact absurd (fW (bR this) (by rw [z];exact hC)) (rZ _)
end
end L2
namespace L2
open PySem PySem.Spec PyProof.Rows
end L2
namespace L2
open PySem PySem.Spec PyProof.Rows
theorem ace {a b:Addr} {xs ys:List V} {g:TG} {k:Nat} {caps:List Nat} {te:TE} {σ:St} {H:Hp} {D:Addr} {Q:VK} (Pv:Nat->List V->Hp->Prop) (h0:Pv 0 [] (upd H D (.lst [])))
  (hl:∀ i zs H,Pv i zs H->H a=some (.lst xs)/\H b=some (.lst ys)/\H D=some (.lst zs)/\zs.length<sizeLine)
  (hs:∀ i zs H x y t (ws:List (Option V)),xs[i]? = some x->ys[i]? = some y->Pv i zs H->H t=none->ws.length=k->g (.ref t) (pB σ ws caps) (upd H t (.tup [x,y])) fun σ2 H2=>(∃ ws':List (Option V),ws'.length=k/\σ2=pB σ ws' caps)/\te σ2 H2 fun u H4=>H4 D=some (.lst zs)/\Pv (i+1) (zs++[u]) (upd H4 D (.lst (zs++[u]))))
  (hd:∀ zs H,Pv (min xs.length ys.length) zs H->Q (.ref D) H)
  (monoG:∀ x σ H (R R':St->Hp->Prop),(∀ σ H,R σ H->R' σ H)->g x σ H R->g x σ H R')
  (mono:∀ σ H (Q Q':VK),(∀ y H,Q y H->Q' y H)->te σ H Q->te σ H Q') :
  Ja (Itz a b) g k caps PJ te σ D Q H:=by
 refine ⟨fun i m zs H=>m=min xs.length ys.length-i/\i<=min xs.length ys.length/\Pv i zs H,⟨min xs.length ys.length,by simp,bZ _,h0⟩,?_⟩
 rintro i m zs H ⟨rfl,hi,p⟩
 obtain ⟨qa,qb,qd,hz⟩:=hl i zs H p
 refine ⟨qd,?_⟩
 by_cases hlt:i<min xs.length ys.length
 ·refine .inr ⟨⟨xs,ys,qa,qb,by lia,by lia⟩,hz,fun x H' y ws hw=>?_⟩
  obtain ⟨t,u,v,xs',ys',ea,eb,ex,ey,ht,rfl,rfl⟩:=y
  rw [qa] at ea;cases ea
  rw [qb] at eb;cases eb
  refine monoG _ _ _ _ _ (fun σ2 H2 h2=>⟨h2.1,?_⟩) (hs i zs H u v t ws ex ey p ht hw)
  unfold PJ
  dsimp only
  rw [if_pos rfl]
  exact mono _ _ _ _ (fun y H3 ⟨a,b⟩=>⟨a,min xs.length ys.length-(i+1),by lia,rfl,hlt,b⟩) h2.2
 ·have e:i=min xs.length ys.length:=by lia
  subst e
  exact .inl ⟨⟨xs,ys,qa,qb,by lia⟩,hd zs H p⟩
end L2
namespace L2
open PySem PySem.Spec PyProof.Rows
structure Fly (g:Heap) (H:Hp) (h:Heap) (e C T:Addr) (fl:Value):Prop where
 ue:H e=none
 uT:H T=none
 ge:g.get? e=none
 gT:g.get? T=none
 tr:∃ oe vs oT ts a0,h.get? e=some oe/\(oe.cls = .ref C/\vs[0]? = some a0)/\oe.data = .fields vs/\vs[1]? = some (.ref T)/\T≠e/\h.get? T=some oT/\oT.data = .fields ts/\ts[3]? = some fl
noncomputable abbrev Bare (h:Heap) (l:List Env) (hid:List Addr):Heap:=adB h (frs l++hid)
section
variable {P:aV} {w:World} {g h h' base:Heap} {H0 H:Hp} {l:List Env} {fs hid:List Addr} {e C T:Addr} {a0 fl:Value}
theorem wg (ff:h.FunFrames base l):h.FunFrames (Bare h l hid) l :=
 PySem.W.funFrames_hide ff fun env he _ hf=>Ux _ (UJ.mpr ⟨env,he,hf⟩)
theorem Jb (u:Un fs [] H0 H g h) (hok:HOk P w H h) (ff:h.FunFrames base l) (free:∀ b∈frs l,H b=none) (sub:∀ b∈frs l,b∈fs\/g.get? b=none)
  (hh:∀ b∈hid,H b=none/\g.get? b=none) (ue:H e=none) (ge:g.get? e=none) (st:(Bare h l hid).StaysIn h') (up:h.UpToSlots h') (tr:h'.TracedAtW (Bare h l hid) e (.ref C) a0 fl) :
  Un fs [] H0 H g h'/\HOk P w H h'/\∃ T,Fly g H h' e C T fl:=by
 have keep:∀ b o,h.get? b=some o->b∉frs l->b∉hid->h'.get? b=some o:=fun b o q n1 n2=>st b o (Vb _ q fun m=>(gw.mp m).elim n1 n2)
 have slot:∀ b,b∈frs l->∀ o,h.get? b=some o->∃ sl,h'.get? b=some { o with slots:=sl }:=fun b hb o q=>by
  obtain ⟨_,o',q',nf⟩:=ff.mem hb
  rw [q] at q';cases q'
  exact up b o q nf
 have nog:∀ {b:Addr} {o:Obj},g.get? b=some o->b∉hid:=fun q z=>by rw [(hh _ z).2] at q;cases q
 have tracked:∀ b v o,H b=some v->h.get? b=some o->h'.get? b=some o:=fun b v o q r =>
  keep b o r (fun z=>by rw [free b z] at q;cases q) fun z=>by rw [(hh b z).1] at q;cases q
 refine ⟨⟨fun b o q n hb hx=>?_,fun b o q n hb hx=>?_,u.free,fun b o q hx=>?_,u.tups,u.uZ,u.yW⟩,fun b v q=>?_,?_⟩
 ·refine keep b o (u.keep b o q n hb hx) (fun z=>?_) (nog q)
  rcases sub b z with z | z
  ·exact hb z
  ·rw [z] at q;cases q
 ·obtain ⟨sl,r⟩:=u.slot b o q n hb hx
  by_cases z:b∈frs l
  ·obtain ⟨sl',r'⟩:=slot b z _ r
   exact ⟨sl',r'⟩
  ·exact ⟨sl,keep b _ r z (nog q)⟩
 ·obtain ⟨o',r⟩:=u.there b o q hx
  by_cases z:b∈frs l
  ·obtain ⟨sl',r'⟩:=slot b z _ r
   exact ⟨_,r'⟩
  ·exact ⟨o',keep b _ r z (nog q)⟩
 ·refine (hok b v q).stay (fun c o hc r=>?_) (fun _ r=>r) fun _ _ r=>r
  rcases hc with rfl | hc
  ·exact tracked c v o q r
  ·exact tracked c _ o hc r
 ·obtain ⟨oe,vs,T,oT,ts,q1,q2,q3,q4,q5,q6,q7,q8,q9⟩:=tr
  have ajz:∀ o,h.get? T=some o->T∈hid:=fun o r=>by
   by_cases z:T∈frs l
   ·obtain ⟨_,o',q',nf⟩:=ff.mem z
    rw [r] at q';cases q'
    obtain ⟨sl,r'⟩:=slot T z o r
    rw [q7] at r';cases r'
    exact absurd q8 (nf ts)
   ·by_cases z':T∈hid
    ·exact z'
    ·have k:=Vb (frs l++hid) r fun m=>(gw.mp m).elim z z'
     rw [q5] at k;cases k
  refine ⟨T,ue,?_,ge,?_,oe,vs,oT,ts,a0,q1,q2,q3,q4,q6,q7,q8,q9⟩
  ·cases r:H T with
   | none=>rfl
   | some v =>
    obtain ⟨o,r'⟩:=(hok T v r).ex
    rw [(hh T (ajz o r')).1] at r;cases r
  ·cases r:g.get? T with
   | none=>rfl
   | some o =>
    obtain ⟨o',r'⟩:=u.there T o r (by simp)
    rw [(hh T (ajz o' r')).2] at r;cases r
theorem Fly.traced (x:Fly g H h e C T fl):∃ a0,h.TracedAtW (Bare h l [e,T]) e (.ref C) a0 fl:=by
 obtain ⟨oe,vs,oT,ts,a0,q1,q2,q3,q4,q6,q7,q8,q9⟩:=x.tr
 exact ⟨a0,oe,vs,T,oT,ts,q1,q2,q3,q4,Mw _ (by simp),q6,q7,q8,q9⟩
theorem Fly.flying (x:Fly g H h e C T .none) (ff:h.FunFrames base l):∃ a0,Heap.FlyingW (Bare h l [e,T]) l e (.ref C) a0 h:=by
 obtain ⟨a0,tr⟩:=x.traced (l:=l)
 exact ⟨a0,fun b o q=>Mz _ q,Mw _ (by simp),wg ff,tr⟩
theorem Fly.held {L:Addr} (x:Fly g H h e C T (rawInt L)) (ff:h.FunFrames base l):∃ a0,Heap.HeldW (Bare h l [e,T]) l e (.ref C) a0 L h:=by
 obtain ⟨a0,tr⟩:=x.traced (l:=l)
 exact ⟨a0,fun b o q=>Mz _ q,Mw _ (by simp),wg ff,tr⟩
theorem Fly.hidden (x:Fly g H h e C T fl):∀ b∈[e,T],H b=none/\g.get? b=none:=fun b hb=>by
 rcases cA.mp hb with rfl | hb
 ·exact ⟨x.ue,x.ge⟩
 ·have z:b=T:=by simpa using hb
  subst z;exact ⟨x.uT,x.gT⟩
theorem Fly.older {g0:Heap} (x:Fly g H h e C T fl) (th:∀ b o,g0.get? b=some o->∃ o',g.get? b=some o'):Fly g0 H h e C T fl:=by
 have no:∀ b,g.get? b=none->g0.get? b=none:=fun b n=>by
  cases q:g0.get? b with
  | none=>rfl
  | some o=>obtain ⟨o',r⟩:=th b o q;rw [n] at r;cases r
 exact ⟨x.ue,x.uT,no _ x.ge,no _ x.gT,x.tr⟩
end
noncomputable def CXE (P:aV) (w:World):CXT:=fun outer H s E ev s'=>∃ e C T H',ev = .ref e/\s'.os=s.os/\rF s'.gens/\Un (frs outer) [] H H' s.heap s'.heap/\HOk P w H' s'.heap/\Fly s.heap H' s'.heap e C T .none/\E (.ref C) none H'
section
variable {P:aV} {w:World} {K:aW} {mg:Str->Option Value} {base:Heap} {N:List Str} {qual:Str} {scope:Scope} {f:Addr} {cd:Value} {A:bJ} {outer:List Env} {s:Shared} {H:Hp} {E:XK}
theorem n8:Passes (CXE P w) (za (CXE P w) P w K mg base N qual scope f cd A outer s H E) E:=by
 intro pins σ H1 s1 ev s2 I hx
 obtain ⟨e,C,T,H',rfl,os,bare,u,hok,fly,hE⟩:=hx
 have I2:=I.call' (ch:=[]) os u hok bare (by simp)
 obtain ⟨a0,hfl⟩:=fly.flying I2.stack
 have fly0:Fly s.heap H' s2.heap e C T .none:=fly.older fun b o q=>I.base.there b o q (by intro z;exact absurd (show b∈([]:List Addr) from z) (by simp))
 refine wpAny_leaves_onW I.ok.frames rfl hfl fun h' x1 x2=>?_
 have sub:∀ b∈frs (lC qual scope s.heap.objs.size f cd::outer),b∈frs outer\/s.heap.get? b=none:=fun b hb=>by
  rcases cA.mp (I2.vO b hb) with z | z
  ·refine .inr ?_
   rw [z];exact V0 I.ok.above
  ·exact .inl z
 obtain ⟨r1,r2,T',r3⟩:=Jb (g:=s.heap) (H0:=H) (fs:=frs outer) (l:=lC qual scope s.heap.objs.size f cd::outer) I2.base hok I2.stack I2.wR sub fly0.hidden fly0.ue fly0.ge x1.1 x2 x1.2.2.2.at
 exact ⟨e,C,T',H',rfl,os.trans I.os,bare,r1,r2,r3,hE⟩
theorem Fun.okE {x:Str} {st:Stmt} {fd:FuncData} {ps:List Str} {k:Nat} {sp:Sp} (F:Fun K x qual st f fd) (S:aM N ps (aG st)) (len:∀ vs H Q E,sp vs H Q E->vs.length=ps.length)
  (hbody:∀ (cdv:Value) (A:bJ) (outer:List Env) (s:Shared) (H:Hp) (vs:List V) (Q:VK) (E:XK),jQ k (A.deeper (lC qual (aG st) s.heap.objs.size f cdv))->sp vs H Q E ->
   ∃ t,PSs (za (CXE P w) P w K mg base N qual (aG st) f cdv A outer s H E) (jh st) t/\t { nx:=fun _ H'=>Q .non H',rt:=Q } (start N vs) H):cg P w K mg base (CXE P w) (k+1) f fd ps sp:=by
 obtain ⟨oc,od,kV,doc,pm,an,cdv,ct,osl,rfl,lk,hcd⟩:=F.ex
 exact ajm lk hcd S len fun A outer s H vs Q E hr hsp=>hbody cdv A outer s H vs Q E hr hsp
end
theorem PS.nox {X:Cx} {st:Stmt} {t:TS} (h:PS X.nox st t):PS X st t:=fun pins s σ H D I hw =>
 dW (h pins s σ H D (I.wish _) hw) (fun _ _ q=>q.lV) fun _ _ z=>lO z
theorem alu {K:aW} {h:Heap} {mg:Str->Option Value} {x:Str} {C:Addr} {bmB:List Value} {newId:String} (kin:K.In h) (hm:mg x=some (.ref C)) (q:tM K C bmB newId=true):OwnCls x C bmB newId mg h:=by
 refine ⟨hm,?_⟩
 simp only [tM] at q
 split at q
 case h_2=>cases q
 case h_1 ho =>
  rename_i dd cl sl
  split at q
  case h_2=>cases q
  case h_1 hm' hs =>
   rename_i C' bm k0 k1 k2 k3 n k5
   simp only [Wo,beq_iff_eq,yS] at q
   obtain ⟨⟨⟨⟨⟨e1,e2⟩,e3⟩,e4⟩,e5⟩,e6⟩:=q
   subst e1;subst e2
   cases cl with
   | mk nm bs mro ns qn hd sn sub ab col del =>
    simp only at hm' e3 e5 e6
    subst hm';subst e3
    have es:sl = #[k0,k1,k2,k3,some (.builtin n),k5]:=by cases sl with | mk ls=>simp only at hs;rw [hs]
    subst es
    exact ⟨bm,ns,nm,qn,bs,hd,sn,sub,ab,col,dd,k0,k1,k2,k3,k5,h.nsMap ns,kin _ _ ho,.of_isNs (PySem.W.isNs_of_in kin e5),PySem.W.nsMap_none_of_in kin e5 e6,PySem.W.tail_of_in kin e4⟩
noncomputable def alv (ta:TA) (E:XK) (C:Addr):TS:=fun _ σ H=>ta σ H fun vs H1=>vs.length<=sizeLine/\E (.ref C) none H1
section
variable {P:aV} {w:World} {K:aW} {mg:Str->Option Value} {base:Heap} {N:List Str} {qual:Str} {scope:Scope} {f:Addr} {cd:Value} {A:bJ} {outer:List Env} {s:Shared} {H:Hp} {E:XK}
theorem Ax {e₀:Expr} {rest:List Expr} {x:Str} {np cpos pos:Pos} {ta:TA} {C:Addr} {bmB:List Value} {B newId initId:String} (FB:ExcBaseFacts B newId initId bmB) (q:tM K C bmB newId=true)
  (hg:Gl (za (CXE P w) P w K mg base N qual scope f cd A outer s H E) x) (hm:mg x=some (.ref C)) (ha:PA (za (CXE P w) P w K mg base N qual scope f cd A outer s H E) (e₀::rest) ta)
  (he:dH (e₀::rest) (za (CXE P w) P w K mg base N qual scope f cd A outer s H E).env=(false,eval e₀ (za (CXE P w) P w K mg base N qual scope f cd A outer s H E).env)::dH rest (za (CXE P w) P w K mg base N qual scope f cd A outer s H E).env:=by rfl)
  (hpl:(iD cpos (dH rest (za (CXE P w) P w K mg base N qual scope f cd A outer s H E).env)).any (·.1)=false:=by rfl) (hd:(x == ("__debug__" : Str))=false:=by decide) :
  PS (za (CXE P w) P w K mg base N qual scope f cd A outer s H E) (.Raise (some (.Call (.Name x np) (e₀::rest) [] cpos)) none pos) (alv ta E C):=by
 intro pins s1 σ H1 D I h
 obtain ⟨bm,N',nm,qn,bs,hdct,sn,sub,ab,col,dd,k0,k1,k2,k3,k5,mN,hC,hN,hni,TL⟩:=(alu I.mod.kin hm q).obj
 refine wpAny_Raise_call_subT (C:=C) (nm:=nm) (q:=qn) (N:=N') (bs:=bs) (bm:=bm) (hdct:=hdct) (sn:=sn) (sub:=sub) (ab:=ab) (col:=col) (dd:=dd) (k0:=k0) (k1:=k1) (k2:=k2) (k3:=k3) (k5:=k5)
  FB (mN:=mN) (TL.hasType FB.hasBase) (I.ok.hd rfl) ?_ hni (tZ I hg hm ⟨rfl,?_⟩ hd)
 ·rw [he]
  show (false || (iD cpos (dH rest _)).any (·.1))=false
  rw [hpl];rfl
 have h2:=ha cpos pins s1 σ H1 _ I h
 rw [he] at h2 ⊢
 refine WL (dW h2 (fun us s2 ⟨vs,H2,I2,r,z,hE⟩=>?_) fun _ _ y=>y)
 refine ⟨rfl,by rw [<- r.length];exact z,I2.bk _ _ hC,hN.keeps I2.bk,TL.keeps I2.bk,fun h' e hx=>?_⟩
 have ue:H2 e=none:=by
  cases k:H2 e with
  | none=>rfl
  | some v =>
   obtain ⟨o,k'⟩:=(I2.hok e v k).ex
   rw [hx.new] at k';cases k'
 have ge:s.heap.get? e=none:=by
  cases k:s.heap.get? e with
  | none=>rfl
  | some o =>
   obtain ⟨o',k'⟩:=I2.base.there e o k (by intro z;exact absurd (show e∈([]:List Addr) from z) (by simp))
   rw [hx.new] at k';cases k'
 refine wpAny_leaves_madeW (base:=Bare s2.heap (lC qual scope s.heap.objs.size f cd::outer) []) I2.ok.frames rfl (fun b o k=>Mz _ k) (wg I2.stack) hx fun h'' t x1 x2 x3 x4=>?_
 have sub:∀ b∈frs (lC qual scope s.heap.objs.size f cd::outer),b∈frs outer\/s.heap.get? b=none:=fun b hb=>by
  rcases cA.mp (I2.vO b hb) with z | z
  ·refine .inr ?_
   rw [z];exact V0 I.ok.above
  ·exact .inl z
 obtain ⟨r1,r2,T',r3⟩:=Jb (g:=s.heap) (H0:=H) (fs:=frs outer) (hid:=[]) (l:=lC qual scope s.heap.objs.size f cd::outer) I2.base I2.hok I2.stack I2.wR sub (by simp) ue ge x1.1 ((akQ hx.keeps).trans x4) x1.2.2.2.at
 exact ⟨e,C,T',H2,rfl,I2.os,I2.bare,r1,r2,r3,hE⟩
end
noncomputable def XP (X:Cx) (pins:List (Addr × Obj)) (σ:St) (E:XK) (ev:Value) (s':Shared):Prop:=∃ s0 H0,Inv X pins σ H0 s0/\CXE X.prog X.w X.stack H0 s0 E ev s'
noncomputable abbrev TX:=St->Hp->VK->XK->Prop
noncomputable def PX (X:Cx) (e:Expr) (t:TX):Prop :=
 ∀ (pins:List (Addr × Obj)) (s:Shared) (σ:St) (H:Hp) (Q:VK) (E:XK),Inv X pins σ H s->t σ H Q E->wpAny (model X.prog X.w) X.A (eval e X.env) (EP X pins σ Q) (XP X pins σ E) s
@[reducible] noncomputable def xCall (sp:Sp) (dvs:List V) (t:TA):TX:=fun σ H Q E=>t σ H fun vs H1=>sp (vs++dvs) H1 Q E
section
variable {X:Cx} {k:Nat} {f C:Addr} {fd:FuncData} {ps:List Str} {sp:Sp} {dvs:List V} {ds:List Value} {x m:Str} {p pos apos:Pos} {e o:Expr} {es:List Expr} {ta:TE} {t:TA}
theorem ait {pins:List (Addr × Obj)} {σ:St} {H:Hp} {s:Shared} {Q:VK} {E:XK} {us:List Value} {vs:List V} (F:cg X.prog X.w X.K X.mg X.base (CXE X.prog X.w) k f fd ps sp) (hr:jQ k X.A) (hb:Binds X.K fd ps ds) (hd:Vals dvs ds)
  (I:Inv X pins σ H s) (r:Vals vs us) (h:sp (vs++dvs) H Q E):wpAny (model X.prog X.w) X.A (call (.ref f) us) (EP X pins σ Q) (XP X pins σ E) s:=by
 have r2:Vals (vs++dvs) (us++ds):=r.append hd
 have hl:(us++ds).length=ps.length:=by rw [<- r2.length];exact F.len _ _ _ _ h
 refine Ce (GQ (F.run X.A X.stack s H ⟨us,[]⟩ (us++ds) (vs++dvs) Q E hr I.env0 (hb s us I.kIn hl) r2 h) fun r s' hq=>?_)
 cases r with
 | error e=>exact ⟨s,H,I,hq⟩
 | ok fl =>
  cases fl with
  | ret u=>exact I.after hq
  | next=>exact lO hq
  | brk=>exact lO hq
  | cont=>exact lO hq
theorem aa3 (F:cg X.prog X.w X.K X.mg X.base (CXE X.prog X.w) k f fd ps sp) (hr:jQ k X.A) (hg:Gl X x) (hm:X.mg x=some (.ref f)) (hk:vp X.K (.ref f)=true) (hb:Binds X.K fd ps ds) (hd:Vals dvs ds)
  (ha:PA X.nox (e::es) t) (hdb:(x == ("__debug__" : Str))=false:=by decide) (he:dH (e::es) X.env=(false,eval e X.env)::dH es X.env:=by rfl) (hpl:(iD pos (dH es X.env)).any (·.1)=false:=by rfl) :
  PX X (.Call (.Name x p) (e::es) [] pos) (xCall sp dvs t):=by
 intro pins s σ H Q E I h
 refine zY (tZ I hg hm ?_ hdb)
 refine MF (h₀:=X.base) I.ok.mod.kin hk (dW (ha pos pins s σ H _ (I.wish _) h) (fun us s1 ⟨vs,H1,I1,r,q⟩=>⟨I1.lV.kIn,?_⟩) fun _ _ z=>z.elim) he hpl
 exact ait F hr hb hd I1.lV r q
end
noncomputable def Ez (e C:Addr):HO:=.ext fun h=>∃ o,h.get? e=some o/\o.cls = .ref C
structure Catch (K:aW) (C B:Addr):Prop where
 sub:iK K C (.ref B)=some true
 exc:iK K B (.type "BaseException")=some true
 ty:rC K (.ref B)=some (.type "type")
theorem Jc {K:aW} {C B:Addr} {r q:Bool} {v:Value} (hs:iK K C (.ref B)=some r) (hx:iK K B v=some q) (ht:rC K (.ref B)=some (.type "type")):M5 K (.ref C) (.ref B)=some r:=by
 have h1:(Vk K B).isSome=true:=by
  cases e:Vk K B with
  | none=>unfold iK at hx;rw [e] at hx;cases hx
  | some cd=>rfl
 unfold M5
 simp only [h1,ht]
 exact hs
theorem Catch.kit {K:aW} {C B:Addr} (c:Catch K C B):M5 K (.ref C) (.ref B)=some true:=Jc c.sub c.exc c.ty
theorem acf {M:Model} {A:bJ} {E:Value->Shared->Prop} {s:Shared} {K:aW} {e C B:Addr} {oe:Obj} {Q:Bool->Shared->Prop} (kin:K.In s.heap) (c:Catch K C B) (he:s.heap.get? e=some oe) (hc:oe.cls = .ref C) (h:Q true s) :
  wpAny M A (excMatches (.ref e) (.ref B)) Q E s:=by
 obtain ⟨hh,g,d,t,os⟩:=s
 obtain ⟨L1,L2,L3⟩:=adE (M:=M) kin c.kit
 have L4:=Ve (M:=M) kin c.exc
 have L5:BW M hh (isSubtype (.type "type") (.type "tuple")) false:=PySem.W.looks_subIn (t:=.type "type") (base:=.type "tuple") (r:=false) kin (show (adP "type").map (·.contains (.type "tuple"))=some false by decide +kernel)
 have L6:BW M hh (VJ (.ref B) (.type "tuple")) false:=L1.andThen L5
 have L7:BW M hh (Nu (.ref e)) (.ref C):=hc ▸ (ae6 he).andThen .now
 unfold excMatches
 refine aR (L6.at ?_)
 rw [if_neg iM]
 refine aR (bw ?_)
 unfold isExcClass
 simp only [List.forIn_cons,List.forIn_nil]
 refine aR (aR (aR (aR (L2.at ?_))))
 rw [if_pos rfl]
 refine L4.at ?_
 simp only [Bool.not_true,uO,if_false]
 refine bw ?_
 refine bw ?_
 refine aR (L7.at ?_)
 refine aR (aR (aR (L3.at ?_)))
 rw [if_pos rfl]
 exact bw (bw (bw h))
noncomputable def Cx.marked (X:Cx) (e:Addr):Cx:={ X with A:=X.A.mark (some (.ref e)),calm:=false,xe:=fun _ _=>False }
section
variable {X:Cx} {pins:List (Addr × Obj)} {σ:St} {H:Hp} {s:Shared}
theorem Inv.marked (I:Inv X pins σ H s) (e:Addr):Inv (X.marked e) pins σ H s :=
 ⟨⟨I.ok.mod,I.ok.kind,I.ok.glob,I.ok.blt,I.ok.above,I.ok.inj,I.ok.has,I.ok.cab,(fun z=>by cases z),I.ok.frames,I.ok.stk,I.ok.exf,I.ok.bs,I.ok.bsz,I.ok.RV,I.ok.abF,I.ok.yX,I.ok.frf⟩,I.os,I.bare,I.base,I.loc,I.cell,I.free,I.pU,I.pin,I.hok,I.len⟩
theorem Inv.unmarked {e:Addr} (hd:X.calm=true->X.A.handled=none) (I:Inv (X.marked e) pins σ H s):Inv X pins σ H s :=
 ⟨⟨I.ok.mod,I.ok.kind,I.ok.glob,I.ok.blt,I.ok.above,I.ok.inj,I.ok.has,I.ok.cab,hd,I.ok.frames,I.ok.stk,I.ok.exf,I.ok.bs,I.ok.bsz,I.ok.RV,I.ok.abF,I.ok.yX,I.ok.frf⟩,I.os,I.bare,I.base,I.loc,I.cell,I.free,I.pU,I.pin,I.hok,I.len⟩
theorem FZ {M:Model} {A:bJ} {E:Value->Shared->Prop} {i:Nat} {n:Str} {pos:Pos} {Q:Unit->Shared->Prop} (I:Inv X pins σ H s) (hN:X.N.Nodup) (hi:X.N[i]? = some n) (hl:X.env.scope.names.lookup n=some .local)
  (h:∀ s',Inv X pins (σ.set i none) H s'->Q () s'):wpAny M A (do bindName X.env n .none;unbindBehindTheSuite X.env n pos) Q E s:=by
 obtain ⟨m,hn,hlk⟩:=id I.loc
 have hcls:(X.env.scope.kind == .class || (X.env.scope.kind == .module && X.env.locals != X.env.globals))=false:=by rw [I.ok.kind];rfl
 have hiσ:i<σ.length:=by rw [I.len];exact (jK.mp hi).1
 have cne:=I.cne
 refine wpAny_nameGoes_keeps hl hn hcls fun h' v hn' hs=>h _ ?_
 have away:∀ b o,X.s₀.heap.get? b=some o->h'.get? b=s.heap.get? b:=fun b o e=>hs.2 b (cW (fW (bR e) I.ok.above))
 refine ⟨I.ok,I.os,I.bare,⟨fun b o e n hb hx=>?_,fun b o e n hb hx=>?_,I.base.free,fun b o e hx=>?_,I.base.tups,I.base.uZ,I.base.yW⟩,⟨_,hn',fun j y v' e1 e2 e3=>?_⟩,fun y c e=>?_,I.free,I.pU,fun p hp=>?_,fun b ob e=>?_,by simpa using I.len⟩
 ·exact (away b o e).trans (I.base.keep b o e n hb hx)
 ·obtain ⟨sl,e1⟩:=I.base.slot b o e n hb hx
  exact ⟨sl,(away b o e).trans e1⟩
 ·obtain ⟨o',e1⟩:=I.base.there b o e hx
  exact ⟨o',(away b o e).trans e1⟩
 ·by_cases hj:j=i
  ·subst hj
   rw [Gk hiσ] at e2
   cases e2
  ·rw [yj (aP hj)] at e2
   obtain ⟨u',r',q⟩:=hlk j y v' e1 e2 e3
   refine ⟨u',r',?_⟩
   rcases q with ⟨k,e⟩ | ⟨k,c,e,z⟩
   ·refine .inl ⟨k,?_⟩
    have:y≠n:=fun e=>hj (HS hN e1 (e ▸ hi))
    simp [this,e]
   ·exact .inr ⟨k,c,e,z.sameBut hs (cne y c e)⟩
 ·obtain ⟨w',z⟩:=I.cell y c e
  exact ⟨w',z.sameBut hs (cne y c e)⟩
 ·obtain ⟨e,n,ne,nf,d⟩:=I.pin p hp
  exact ⟨(hs.2 p.1 ne).trans e,n,ne,nf,d⟩
 ·refine (I.hok b ob e).stay (fun c w' hc q=>(hs.2 c ?_).trans q) (fun _ q=>q) fun _ _ q=>q
  rintro rfl
  rcases hc with rfl | hc
  ·rw [I.free] at e;cases e
  ·rw [I.free] at hc;cases hc
end
noncomputable def drops (i:Nat) (D:Ends):Ends:={ nx:=fun σ H=>D.nx (σ.set i none) H,rt:=D.rt,bk:=fun σ H=>D.bk (σ.set i none) H,ct:=fun σ H=>D.ct (σ.set i none) H }
theorem Un.track {fs:List Addr} {H0 H:Hp} {g h:Heap} {e:Addr} {o:HO} (u:Un fs [] H0 H g h) (ue:H e=none) (ge:g.get? e=none):Un fs [] H0 (upd H e o) g h where
 keep:=u.keep
 slot:=u.slot
 free:=fun b ob q n hx=>by rw [aB (fun z=>by rw [z,ge] at q;cases q)];exact u.free b ob q n hx
 there:=u.there
 tups:=fun b xs q=>by rw [aB (aq (u.tups b xs q) ue)];exact u.tups b xs q
 uZ:=fun b ob v q=>by rw [aB (aq (u.uZ b ob v q) ue)];exact u.uZ b ob v q
 yW:=fun b ps q=>by
  obtain ⟨m,r⟩:=u.yW b ps q
  exact ⟨m,by rw [aB (aq r ue)];exact r⟩
section
variable {X:Cx} {i:Nat} {n x:Str} {np hpos pos:Pos} {B:Addr} {b₀:Stmt} {suite:List Stmt} {th:TS}
theorem acg {pins:List (Addr × Obj)} {σ:St} {D:Ends} {ev:Value} {s1:Shared} (hst:X.stack=X.env::X.outer) (hfr:X.env.frame=some X.env.locals) (hg:Gl X x) (hm:X.mg x=some (.ref B)) (hN:X.N.Nodup) (hi:X.N[i]? = some n)
  (hl:X.env.scope.names.lookup n=some .local) (hs:∀ e,PSs (X.marked e) (b₀::suite) th) (hdb:(x == ("__debug__" : Str))=false)
  (hx:XP X pins σ (fun cls _ H1=>∃ C,cls = .ref C/\Catch X.K C B/\∀ e,H1 e=none->th (drops i D) (σ.set i (some (.ref e))) (upd H1 e (Ez e C))) ev s1) :
  wpAny (model X.prog X.w) X.A (noteFrame ev X.env) (fun _ s2=>wpAny (model X.prog X.w) X.A (setFlight ev none) (fun _ s3=>wpAny (model X.prog X.w) X.A (handleBy ev X.env [.ExceptHandler (some (.Name x np)) (some n) (b₀::suite) hpos]) (SP X pins D) X.xe s3) X.xe s2) X.xe s1:=by
 obtain ⟨s0,H0,I0,e,C,T,H',rfl,os,bare,u,hok,fly,C2,eC,cat,hth⟩:=hx
 cases eC
 have sub:∀ b∈frs (X.env::X.outer),b∈frs X.stack\/s0.heap.get? b=none:=fun b hb=>.inl (by rw [hst];exact hb)
 have fre:∀ b∈frs (X.env::X.outer),H' b=none:=fun b hb=>(I0.call' (ch:=[]) os u hok bare (by simp)).wR b (by rw [hst];exact hb)
 have ach:∀ {h:Heap},Un (frs X.stack) [] H0 H' s0.heap h->HOk X.prog X.w H' h->h.FunFrames X.base (X.env::X.outer):=fun {h} u' hok'=>by
  have:=(I0.call' (ch:=[]) (s':={ s1 with heap:=h }) os u' hok' bare (by simp)).stack
  rw [hst] at this;exact this
 have hA:X.A.frames=some (X.env::X.outer):=by rw [I0.ok.frames,hst]
 obtain ⟨a0,hfl⟩:=fly.flying (ach u hok)
 refine wpAny_looks_onW hA hfr hfl fun h2 x1 x2=>?_
 obtain ⟨u2,hok2,T2,fly2⟩:=Jb u hok (ach u hok) fre sub fly.hidden fly.ue fly.ge x1.1 x2 x1.2.2.2
 obtain ⟨a2,hh2⟩:=fly2.held (ach u2 hok2)
 refine wpAny_landsW (s:={ s1 with heap:=h2 }) hh2 fun h3 x1 x2=>?_
 obtain ⟨u3,hok3,T3,agu⟩:=Jb u2 hok2 (ach u2 hok2) fre sub fly2.hidden fly2.ue fly2.ge x1.1 x2 x1.2.2.2.at
 have I3:=I0.call' (ch:=[]) (s':={ s1 with heap:=h3 }) os u3 hok3 bare (by simp)
 refine wpAny_handleBy_cons (codeAny_handlers_test (tZ (X:=X.marked e) (I3.marked e) hg hm ?_ hdb)) (by intro q;cases q)
 obtain ⟨oe,_,_,_,_,q1,q2,_⟩:=agu.tr
 refine acf I3.kIn cat q1 q2.1 ?_
 show gO _ _ (.handlers (.ref e) [.ExceptHandler none (some n) (b₀::suite) hpos] X.env) _ _
 refine codeAny_handlers_suite_as ?_
 obtain ⟨a3,hfl3⟩:=agu.flying (ach u3 hok3)
 refine lands_againW (s:={ s1 with heap:=h3 }) hfl3 fun h4 x1 x2=>?_
 obtain ⟨u4,hok4,T4,agv⟩:=Jb u3 hok3 (ach u3 hok3) fre sub agu.hidden agu.ue agu.ge x1.1 x2 x1.2.2.2.at
 obtain ⟨oe4,_,_,_,_,q41,q42,_⟩:=agv.tr
 have hok5:HOk X.prog X.w (upd H' e (Ez e C)) h4:=hok4.Ep (fun _ _ q=>q) agv.ue
  ⟨⟨oe4,q41,q42.1⟩,⟨oe4,q41⟩,fun k1 k2 ⟨o,r1,r2⟩ r=>⟨o,r o r1,r2⟩⟩
 have I5:=I0.call' (ch:=[]) (s':={ s1 with heap:=h4 }) os (u4.track (o:=Ez e C) agv.ue agv.ge) hok5 bare (by simp)
 refine vP (X:=X.marked e) (v:=.ref e) (I5.marked e) hN hi (.inl hl) rfl (fun s6 I6=>?_) (.inr hl)
 refine dW (hs e pins s6 _ _ (drops i D) I6 (hth e agv.ue)) (fun f s7 q=>?_) fun _ _ z=>z.elim
 cases f with
 | next =>
  obtain ⟨σ7,H7,I7,q7⟩:=q
  exact FZ (I7.unmarked I0.ok.hd) hN hi hl fun s8 I8=>⟨_,H7,I8,q7⟩
 | brk =>
  obtain ⟨σ7,H7,I7,q7⟩:=q
  exact FZ (I7.unmarked I0.ok.hd) hN hi hl fun s8 I8=>⟨_,H7,I8,q7⟩
 | cont =>
  obtain ⟨σ7,H7,I7,q7⟩:=q
  exact FZ (I7.unmarked I0.ok.hd) hN hi hl fun s8 I8=>⟨_,H7,I8,q7⟩
 | ret u =>
  obtain ⟨v,σ7,H7,I7,r7,q7⟩:=q
  exact FZ (I7.unmarked I0.ok.hd) hN hi hl fun s8 I8=>⟨v,_,H7,I8,r7,q7⟩
noncomputable def tTry (K:aW) (tc:TX) (nx:V->St->St) (i:Nat) (B:Addr) (th:TS):TS:=fun D σ H=>tc σ H (fun v H1=>D.nx (nx v σ) H1)
 fun cls _ H1=>∃ C,cls = .ref C/\Catch K C B/\∀ e,H1 e=none->th (drops i D) (σ.set i (some (.ref e))) (upd H1 e (Ez e C))
end
end L2
namespace L2
open PySem PySem.Spec PyProof.Rows PySem.Builtin PySem.Builtin.ObjectAttr PySem.Builtin.Getset_descriptor
structure EY (K:aW) (C:Addr):Prop where
 ga:gJ K (.ref C) "__getattribute__" = some (some (.builtin "BaseException.__getattribute__"))
 gt:gJ K (.ref C) "__getattr__" = some none
 cl:gJ K (.ref C) "__class__" = some (some (.builtin "object.__class__"))
 sp:BP K (.builtin "object.__class__") "__get__" = some (some (.builtin "getset_descriptor.__get__"))
 tk:Gu K (.builtin "object.__class__")=some true
 ex:iK K C (.type "BaseException")=some true
 ob:iK K C (.type "object")=some true
 se:iK K C (.ref C)=some true
 ty:rC K (.ref C)=some (.type "type")
section
variable {K:aW} {e C:Addr} {o:Obj} {prog:aV} {w:World} {A:bJ} {E:Value->Shared->Prop} {s:Shared}
theorem sV {M:Model} {h:Heap} (he:h.get? e=some o) (hc:o.cls = .ref C):BW M h (Nu (.ref e)) (.ref C):=hc ▸ (ae6 he).andThen .now
theorem Dk {M:Model} {h:Heap} (kin:K.In h) (X:EY K C):BW M h (aeY (.ref e) (.ref C) "__class__") (.bind (.builtin "getset_descriptor.__get__") (.builtin "object.__class__")):=by
 have l1:=Mx (M:=M) kin X.cl
 have l2:=PySem.W.looks_specialIn (M:=M) kin X.sp
 have l3:=PySem.W.looks_takesIn (M:=M) kin X.tk
 intro A Q E s k q
 obtain ⟨hh,g,d,t,os⟩:=s
 have L1:=l1.keeps k
 have L2:=l2.keeps k
 have L3:=l3.keeps k
 clear l1 l2 l3
 unfold aeY ake g8.ObjectAttr.dataDescriptor?
 repeat lk
 exact q
theorem Kg {tp:Value} {R:nP->Shared->Prop} (kin:K.In s.heap) (X:EY K C) (he:s.heap.get? e=some o) (hc:o.cls = .ref C) (h:R (.ok (.ret (.ref C))) s) :
  gO (model prog w) A (.call (.builtin "getset_descriptor.__get__") ⟨[.builtin "object.__class__",.ref e,tp],[]⟩) R s:=by
 obtain ⟨hh,g,dr,t,os⟩:=s
 have L0:=sV (M:=model prog w) he hc
 have L1:=Ve (M:=model prog w) kin X.ob
 refine Vm ae3.plain akj ?_
 refine ae3.check _ _ _ _ _ _ _ _ aki (akk _ _ _) ?_
 unfold g8.«getset_descriptor.__get__» descrGet
 rw [PySem.W.dga_obj]
 refine aR (bw ?_)
 unfold descrGetter descrCheckInstance descrNameAndClass VJ
 simp only [akg]
 repeat lk
 refine ⟨Code.quiet_builtin _ tb_g%,?_⟩
 refine yx akh ?_
 unfold g8.«object.__class__» shownTypeOf
 repeat lk
 exact h
theorem aci {M:Model} {nameV:Value} {Q:Unit->Shared->Prop} (kin:K.In s.heap) (X:EY K C) (he:s.heap.get? e=some o) (hc:o.cls = .ref C) (hq:Q () s) :
  wpAny M A (Vu "BaseException.__getattribute__" ⟨[.ref e,nameV],[]⟩) Q E s:=by
 obtain ⟨hh,g,dr,t,os⟩:=s
 have L0:=sV (M:=M) he hc
 have L1:=Ve (M:=M) kin X.ex
 have L2:BW M hh (VJ (.ref e) (.type "BaseException")) true:=L0.andThen L1
 have hk:builtinKind "BaseException.__getattribute__" = some .slot:=by decide +kernel
 have hsp:splitId "BaseException.__getattribute__" = some ("BaseException","__getattribute__"):=by decide +kernel
 have ha:=F.args_bexc_ga (.ref e) nameV
 simp only [Vu,hk,hsp]
 refine aR (L2.at ?_)
 repeat (first | wp_step | lk)
 all_goals exact hq
theorem acj {tk:Tok} {Q:PySem.Fin->Shared->Prop} (kin:K.In s.heap) (X:EY K C) (he:s.heap.get? e=some o) (hc:o.cls = .ref C) (hq:Q (.done (.ret (.ref C))) s) :
  wpAny (model prog w) A (g8.«object.__getattribute__» ⟨[.ref e,.str "__class__" tk],[]⟩) Q E s:=by
 obtain ⟨hh,g,dr,t,os⟩:=s
 have L0:=sV (M:=model prog w) he hc
 have L1:=Dk (e:=e) (M:=model prog w) kin X
 unfold g8.«object.__getattribute__»
 refine aR (bw (a:=(Value.ref e,[Value.str "__class__" tk])) ?_)
 dsimp only
 refine aR (bw (a:=("__class__" : Str)) ?_)
 refine aR (L0.at ?_)
 refine aR (L1.at ?_)
 dsimp only
 unfold bindTo
 refine aR (mz (Ce ?_))
 exact Kg kin X he hc (bw hq)
theorem alw {tk:Tok} {Q:Value->Shared->Prop} (kin:K.In s.heap) (X:EY K C) (he:s.heap.get? e=some o) (hc:o.cls = .ref C) (hq:Q (.ref C) s) :
  wpAny (model prog w) A (getAttrBy (.ref e) (.str "__class__" tk) false) Q E s:=by
 obtain ⟨hh,g,dr,t,os⟩:=s
 have L0:=sV (M:=model prog w) he hc
 have L1:=Mx (M:=model prog w) kin X.ga
 have L2:=Mx (M:=model prog w) kin X.gt
 have hx2:(Value.builtin "BaseException.__getattribute__" == Value.builtin "object.__getattribute__")=false:=by decide +kernel
 have hb:=F.attr_ValueError.ga.bind (.ref e)
 unfold getAttrBy
 refine mz (aR (L0.at (aR (L1.at ?_))))
 dsimp only
 rw [hx2,Bool.and_false,if_neg iM]
 unfold getAttrByItsOwn hookBefore
 rw [if_pos (show onTheHeap (Value.ref C)=true from rfl)]
 refine aR (L2.at ?_)
 refine aR (M9 (mz ?_))
 unfold callGetattribute
 rw [aep,if_neg iM]
 unfold boundAndCalled
 rw [hb]
 refine aR (bw ?_)
 refine Ce (Vm F.attr_ValueError.ga.plain F.entry_bexc_ga (aci kin X he hc (acj kin X he hc ?_)))
 repeat (first | exact hq | wp_step | lk)
theorem agw {Q:Option Value->Shared->Prop} (kin:K.In s.heap) (X:EY K C) (he:s.heap.get? e=some o) (hc:o.cls = .ref C) (hq:Q (some (.ref C)) { s with toks:=s.toks+1 }) :
  wpAny (model prog w) A (getAttr? (.ref e) "__class__") Q E s:=by
 obtain ⟨hh,g,dr,t,os⟩:=s
 unfold getAttr? getAttrBy?
 refine aR (wpAny_mkText (aR (M9 ?_)))
 exact alw (s:=⟨hh,g,dr,t+1,os⟩) kin X he hc (bw hq)
theorem agx (X:EY K C):PySem.W.KitX K (.ref e) (.ref C) (fun h=>∃ o,h.get? e=some o/\o.cls = .ref C) where
 ty:=fun _ _ _ ⟨_,he,hc⟩=>sV he hc
 it:=fun _ _ kin _=>(adE kin (Jc (K:=K) (C:=C) (B:=C) (r:=true) X.se X.ob X.ty)).2.1
 ne:=fun h tp dd its n sl kin htp=>by
  refine Bool.eq_false_iff.mpr fun q=>?_
  have e1:C=tp:=ak0 (beq_iff_eq.mp q)
  subst e1
  have k:=X.ob
  unfold iK Vk at k
  split at k
  ·rename_i ho
   have z:=(kin _ _ ho).symm.trans htp
   cases z
  ·cases k
 ca:=fun kin ⟨_,he,hc⟩ k=>agw kin X he hc k
end
section
variable {X:Cx}
noncomputable def ajA (K:aW):List V->Hp->VK->Prop:=fun xs H Q=>∃ e C c cv b,xs=[.ref e,c]/\H e=some (Ez e C)/\EY K C/\RelV c cv/\(∀ u,RelV c u->u=cv)/\fJ K (.ref C) cv=some b/\Q (.bl b) H
theorem acn:iu X (.builtin "isinstance") (ajA X.K):=by
 walk_at "o"
 obtain ⟨e,C,c,cv,b,rfl,he,xc,rc,inj,k,q⟩:=h
 obtain ⟨u,w',rfl,ru,rw'⟩:=vals2 r
 obtain rfl:=inj w' rw'
 obtain rfl:u=Value.ref e:=ru
 obtain ⟨p,_,_⟩:=(show dO X.prog X.w H s.heap e (Ez e C) from I.hok e _ he)
 exact uL (agx xc) I.kIn p k (fun z=>nomatch z) fun tk=>⟨.bl b,H,I.tok tk,rfl,q⟩
end
end L2
namespace L2
open PySem PySem.Spec PyProof.Rows
section
variable {X:Cx} {k:Addr} {o e:Expr} {es:List Expr} {to:TE} {t:TA} {name:Str} {apos cpos:Pos} {T id:String} {r:V->List V->Hp->VK->Prop}
theorem zB:iu (X.marked k) (.builtin "isinstance") (ajA X.K):=acn
end
end L2
namespace L2
open PySem PySem.Spec PyProof.Rows
inductive Alike (K:aW) (H:Hp):Nat->V->V->Prop where
 | flat {n:Nat} {x:V} (h:sJ x=true):Alike K H n x x
 | lst {n:Nat} {a b:Addr} {xs ys:List V} (ha:SqL K H a xs) (hb:SqL K H b ys) (hl:xs.length=ys.length) (h:∀ (i:Nat) (x y:V),xs[i]? = some x->ys[i]? = some y->Alike K H n x y):Alike K H (n+1) (.ref a) (.ref b)
 | tup {n:Nat} {a b:Addr} {xs ys:List V} (ha:SqT K H a xs) (hb:SqT K H b ys) (hl:xs.length=ys.length) (h:∀ (i:Nat) (x y:V),xs[i]? = some x->ys[i]? = some y->Alike K H n x y):Alike K H (n+1) (.ref a) (.ref b)
theorem Tv {x:V} (h:sJ x=true):eqV x x=true:=by
 cases x with
 | non=>rfl
 | bl b=>show (b == b)=true;simp
 | int i=>show (i == i)=true;simp
 | str z=>show (z == z)=true;simp
 | byt _=>cases h
 | flt _=>cases h
 | ref _=>cases h
 | ty _=>cases h
section
variable {X:Cx} {pins:List (Addr × Obj)} {σ:St} {H:Hp} {s:Shared}
theorem all_true (n:Nat):((yu n).all fun _=>true)=true:=by simp
theorem qX {K:aW} {A:bJ} {n:Nat} {xs ys:List V} {us vs:List Value} (ru:Vals xs us) (rv:Vals ys vs)
  (h:∀ (i:Nat) (x y:V),xs[i]? = some x->ys[i]? = some y->Alike K H n x y) (ih:∀ (x y:V) (u v:Value),Alike K H n x y->RelV x u->RelV y v->vM A s u v true) :
  ∀ j (h1:j<us.toArray.size) (h2:j<vs.toArray.size),vM A s us.toArray[j] vs.toArray[j] true:=fun j h1 h2=>by
 have e1:j<us.length:=by simpa using h1
 have e2:j<vs.length:=by simpa using h2
 have l1:j<xs.length:=by rw [ru.length];exact e1
 have l2:j<ys.length:=by rw [rv.length];exact e2
 have g1:xs[j]? = some xs[j]:=jL l1
 have g2:ys[j]? = some ys[j]:=jL l2
 obtain ⟨u,k1,r1⟩:=ru.get g1
 obtain ⟨v,k2,r2⟩:=rv.get g2
 have m1:us.toArray[j]=u:=by
  rw [jL e1] at k1
  simpa using k1
 have m2:vs.toArray[j]=v:=by
  rw [jL e2] at k2
  simpa using k2
 rw [m1,m2]
 exact ih _ _ _ _ (h j _ _ g1 g2) r1 r2
theorem Jd (I:Inv X pins σ H s):∀ (n:Nat) (A:bJ) (x y:V) (u v:Value),A.units+n<cLine->Alike X.K H n x y->RelV x u->RelV y v->vM A s u v true
 | 0,A,x,y,u,v,hu,h,ru,rv=>by
  cases h with
  | flat f=>have:=Pk (A:=A) (s:=s) ru rv f f;rw [Tv f] at this;exact this
 | n+1,A,x,y,u,v,hu,h,ru,rv=>by
  have ih:=fun (x y:V) (u v:Value) (k:Alike X.K H n x y) (r1:RelV x u) (r2:RelV y v)=>Jd I n A.in1 x y u v (by show A.units+1+n<cLine;lia) k r1 r2
  cases h with
  | flat f=>have:=Pk (A:=A) (s:=s) ru rv f f;rw [Tv f] at this;exact this
  | @lst _ a b xs ys ha hb hl k =>
   obtain rfl:u=Value.ref a:=ru
   obtain rfl:v=Value.ref b:=rv
   by_cases e:a=b
   ·subst e;exact WX _
   ·obtain ⟨us,r1,p1,_⟩:=I.list ha
    obtain ⟨vs,r2,p2,_⟩:=I.list hb
    have:=ae7 (A:=A) p1.isList p2.isList (by rw [gH,gH,<- r1.length,<- r2.length,hl]) tb_g% (qX r1 r2 k ih)
    rw [all_true] at this
    exact WW e this
  | @tup _ a b xs ys ha hb hl k =>
   obtain rfl:u=Value.ref a:=ru
   obtain rfl:v=Value.ref b:=rv
   by_cases e:a=b
   ·subst e;exact WX _
   ·obtain ⟨us,r1,p1,_⟩:=I.tuple ha
    obtain ⟨vs,r2,p2,_⟩:=I.tuple hb
    have hs:us.toArray.size=vs.toArray.size:=by rw [gH,gH,<- r1.length,<- r2.length,hl]
    have:=ako (A:=A) p1 p2 tb_g% (qX r1 r2 k ih)
    rw [all_true,hs] at this
    exact WW e (by simpa using this)
noncomputable def agy (K:aW) (b:Bool):R2:=fun x y H Q=>∃ n p q,x = .ref p/\y = .ref q/\n<=40/\Alike K H n x y/\Q (.bl b) H
theorem ZM (hu:X.A.units+64<cLine):OpR X (jO .NotEq) (agy X.K false):=by
 walk_at "l"
 obtain ⟨n,p,q,rfl,rfl,hn,k,w⟩:=h
 obtain rfl:v=Value.ref p:=rx
 obtain rfl:u=Value.ref q:=ry
 have ih:=fun m (hm:m+1<=40) (x y:V) (u v:Value) (k:Alike X.K H m x y) (r1:RelV x u) (r2:RelV y v)=>Jd I m X.A.in1 x y u v (by show X.A.units+1+m<cLine;lia) k r1 r2
 have fin:EP X pins σ Q (.bool false) s:=⟨.bl false,H,I,rfl,w⟩
 cases k with
 | flat f=>cases f
 | @lst m a b xs ys ha hb hl k =>
  obtain ⟨us,r1,p1,_⟩:=I.list ha
  obtain ⟨vs,r2,p2,_⟩:=I.list hb
  have:=akr (A:=X.A) p1.isList p2.isList (by rw [gH,gH,<- r1.length,<- r2.length,hl]) tb_g% (qX r1 r2 k (ih m tb_g%))
  rw [all_true] at this
  exact this X.prog X.w X.xe _ fin
 | @tup m a b xs ys ha hb hl k =>
  obtain ⟨us,r1,p1,_⟩:=I.tuple ha
  obtain ⟨vs,r2,p2,_⟩:=I.tuple hb
  have hs:us.toArray.size=vs.toArray.size:=by rw [gH,gH,<- r1.length,<- r2.length,hl]
  have:=akq (A:=X.A) p1 p2 tb_g% (qX r1 r2 k (ih m tb_g%))
  rw [all_true,hs] at this
  exact (show SeqAt.RcNeAt X.A s (.ref p) (.ref q) false by simpa using this) X.prog X.w X.xe _ fin
end
end L2
namespace L2
open PySem PySem.Spec PyProof.Rows
section
variable {X:Cx}
noncomputable def agz (K:aW):R2:=fun x y H Q=>∃ (a b:Addr) (xs ys:List V),x = .ref a/\y = .ref b/\SqL K H a xs/\SqL K H b ys/\xs.length≠ys.length/\Q (.bl true) H
theorem agA (hu:X.A.units+64<cLine):OpR X (jO .NotEq) (agz X.K):=by
 walk_at "l"
 obtain ⟨a,b,xs,ys,rfl,rfl,ha,hb,hl,w⟩:=h
 obtain rfl:v=Value.ref a:=rx
 obtain rfl:u=Value.ref b:=ry
 obtain ⟨us,r1,p1,_⟩:=I.list ha
 obtain ⟨vs,r2,p2,_⟩:=I.list hb
 have l1:=r1.length
 have l2:=r2.length
 have:=akp (A:=X.A) (s:=s) p1.isList p2.isList (by rw [gH,gH,bne_iff_ne];lia) tb_g%
 exact this X.prog X.w X.xe _ ⟨.bl _,H,I,rfl,w⟩
noncomputable def rNeL (K:aW):R2:=fun x y H Q=>agy K false x y H Q\/agz K x y H Q
theorem agB (hu:X.A.units+64<cLine):OpR X (jO .NotEq) (rNeL X.K):=(ZM hu).or (agA hu)
end
end L2
namespace L2
open PySem PySem.Spec PyProof.Rows
section
variable {X:Cx} {i:Nat} {B:Addr} {x n:Str} {np hpos pos ipos:Pos} {b₀:Stmt} {suite:List Stmt} {th:TS}
noncomputable def xIf (tc:TT) (ta tb:TX):TX:=fun σ H Q E=>tc σ H fun b H1=>if b=true then ta σ H1 Q E else tb σ H1 Q E
theorem aco {c ce de:Expr} {epos dpos yp zp:Pos} {tt:TT} {ta tb:TX} {j:Nat} {y:Str} (hst:X.stack=X.env::X.outer) (hfr:X.env.frame=some X.env.locals) (hg:Gl X x) (hm:X.mg x=some (.ref B)) (hN:X.N.Nodup) (hi:X.N[i]? = some n)
  (hl:X.env.scope.names.lookup n=some .local) (hj:X.N[j]? = some y) (hy:Loc X.env.scope y) (ht:PT X.nox c tt) (hc:PX X ce ta) (hd:PX X de tb) (hs:∀ e,PSs (X.marked e) (b₀::suite) th) (hsw:yG ce (some (.Name y yp)) epos.line X.env=pure false:=by rfl) (hsd:yG de (some (.Name y zp)) dpos.line X.env=pure false:=by rfl)
  (hf:X.fn y=true\/X.env.scope.names.lookup y=some .local:=by first | exact .inl rfl | exact .inr rfl) (hdb:(x == ("__debug__" : Str))=false:=by decide) :
  PS X (.Try [.If c [.Assign [.Name y yp] ce epos] [.Assign [.Name y zp] de dpos] ipos] [.ExceptHandler (some (.Name x np)) (some n) (b₀::suite) hpos] [] [] pos) (tTry X.K (xIf tt ta tb) (fun v σ=>σ.set j (some v)) i B th):=by
 intro pins s σ H D I h
 have key:wpAny (model X.prog X.w) X.A (exec (.If c [.Assign [.Name y yp] ce epos] [.Assign [.Name y zp] de dpos] ipos) X.env) (fun f s1=>f = .next/\∃ v H1,Inv X pins (σ.set j (some v)) H1 s1/\D.nx (σ.set j (some v)) H1) (XP X pins σ fun cls _ H1=>∃ C,cls = .ref C/\Catch X.K C B/\∀ e,H1 e=none->th (drops i D) (σ.set i (some (.ref e))) (upd H1 e (Ez e C))) s:=by
  refine wpAny_If (dW (ht pins s σ H _ (I.wish _) h) (fun d s1 ⟨H1,I1,q1⟩=>?_) fun _ _ z=>lO z)
  have I2:=I1.lV
  cases d with
  | true =>
   rw [if_pos rfl] at q1
   have kx:wpAny (model X.prog X.w) X.A (exec (.Assign [.Name y yp] ce epos) X.env) (fun f s1=>f = .next/\∃ v H1,Inv X pins (σ.set j (some v)) H1 s1/\D.nx (σ.set j (some v)) H1) (XP X pins σ fun cls _ H1=>∃ C,cls = .ref C/\Catch X.K C B/\∀ e,H1 e=none->th (drops i D) (σ.set i (some (.ref e))) (upd H1 e (Ez e C))) s1 :=
    Vq (dW (hc pins s1 σ H1 _ _ I2 q1) (fun v s1 ⟨x,H1,I1,r1,q1⟩=>vP I1 hN hj hy r1 (fun s2 I2=>⟨rfl,x,H1,I2,q1⟩) hf) fun _ _ z=>z) hsw
   exact GD (dW kx (fun f s2 ⟨ef,hf⟩=>by
    subst ef
    exact vA ⟨rfl,hf⟩) fun _ _ z=>z)
  | false =>
   rw [if_neg (by decide)] at q1
   have kx:wpAny (model X.prog X.w) X.A (exec (.Assign [.Name y zp] de dpos) X.env) (fun f s1=>f = .next/\∃ v H1,Inv X pins (σ.set j (some v)) H1 s1/\D.nx (σ.set j (some v)) H1) (XP X pins σ fun cls _ H1=>∃ C,cls = .ref C/\Catch X.K C B/\∀ e,H1 e=none->th (drops i D) (σ.set i (some (.ref e))) (upd H1 e (Ez e C))) s1 :=
    Vq (dW (hd pins s1 σ H1 _ _ I2 q1) (fun v s1 ⟨x,H1,I1,r1,q1⟩=>vP I1 hN hj hy r1 (fun s2 I2=>⟨rfl,x,H1,I2,q1⟩) hf) fun _ _ z=>z) hsd
   exact GD (dW kx (fun f s2 ⟨ef,hf⟩=>by
    subst ef
    exact vA ⟨rfl,hf⟩) fun _ _ z=>z)
 refine wpAny_Try_except (GD (dW key (fun f s1 ⟨ef,v,H1,I1,q1⟩=>?_) fun ev s1 hx=>?_))
 ·subst ef
  exact vA (vA ⟨_,H1,I1,q1⟩)
 ·exact acg hst hfr hg hm hN hi hl hs hdb hx
noncomputable def ItA (K:aW) (H:Hp) (p a:Addr):Bool->Prop
 | true=>∃ n,n<=40/\Alike K H n (.ref a) (.ref p)
 | false=>a≠p/\∃ xs ys:List V,SqL K H a xs/\SqL K H p ys/\xs.length≠ys.length
theorem ItA.eqAt {pins:List (Addr × Obj)} {σ:St} {H:Hp} {s:Shared} {p a:Addr} {b:Bool} (I:Inv X pins σ H s) (hu:X.A.units+64<cLine) (h:ItA X.K H p a b):vM X.A.in1 s (.ref a) (.ref p) b:=by
 cases b with
 | true =>
  obtain ⟨n,hn,k⟩:=h
  exact Jd I n X.A.in1 _ _ _ _ (by show X.A.units+1+n<cLine;lia) k rfl rfl
 | false =>
  obtain ⟨e,xs,ys,ha,hp,hl⟩:=h
  obtain ⟨us,r1,p1,_⟩:=I.list ha
  obtain ⟨vs,r2,p2,_⟩:=I.list hp
  have l1:=r1.length
  have l2:=r2.length
  exact WW e (akn (A:=X.A.in1) (s:=s) p1.isList p2.isList (by rw [gH,gH,bne_iff_ne];lia) (by show X.A.units+1<cLine;lia))
noncomputable def aiu (K:aW):R2:=fun x y H Q=>∃ (p t a b:Addr) (u v:Bool),x = .ref p/\y = .ref t/\H t=some (.tup [.ref a,.ref b])/\a≠b/\ItA K H p a u/\ItA K H p b v/\Q (.bl (!(u || v))) H
theorem Le (hu:X.A.units+64<cLine):OpR X (jO .NotIn) (aiu X.K):=by
 intro pins s σ H x y w z Q I rx ry h
 obtain ⟨p,t,a,b,u,v,rfl,rfl,ht,ne,h1,h2,q⟩:=h
 obtain rfl:w=Value.ref p:=rx
 obtain rfl:z=Value.ref t:=ry
 obtain ⟨its,r,pl,_⟩:=I.tuple (.inl (.inl ht))
 obtain ⟨u1,u2,rfl,r1,r2⟩:=vals2 r
 obtain rfl:u1=Value.ref a:=r1
 obtain rfl:u2=Value.ref b:=r2
 have e1:=h1.eqAt I hu
 have e2:=h2.eqAt I hu
 refine aeT (fun w=>match w with | .ref c=>if c=a then u else v | _=>v) pl (fun w hw=>?_) ⟨.bl _,H,I,rfl,?_⟩
 ·have hw:w = .ref a\/w = .ref b:=by simpa using hw
  rcases hw with rfl | rfl
  ·show vM _ _ _ _ (if a=a then u else v)
   rw [if_pos rfl];exact e1
  ·show vM _ _ _ _ (if b=a then u else v)
   rw [if_neg (aP ne)];exact e2
 ·have:([Value.ref a,Value.ref b].toArray.any fun w=>match w with | .ref c=>if c=a then u else v | _=>v)=(u || v):=by
   simp [aP ne]
  rw [this];exact q
end
end L2
namespace L2
open PySem PySem.Spec PyProof.Rows
section
variable {X:Cx}
noncomputable def rSumL (K:aW):List V->Hp->VK->Prop:=fun xs H Q=>∃ (a:Addr) (ns:List Int),xs=[V.ref a]/\SqL K H a (ns.map V.int)/\Q (.int ns.sum) H
theorem xu (hc:X.calm=true):iu X (.builtin "sum") (rSumL X.K):=by
 walk_at "o"
 obtain ⟨a,ns,rfl,ha,q⟩:=h
 obtain ⟨u,rfl,ru⟩:=vals1 r
 cases ru
 obtain ⟨its,rv,p,hz⟩:=I.list ha
 have hi:=intsAre_of rv
 have hl:=p.isList
 obtain ⟨ys,e⟩:=hi.allInts.items
 have hns:ns=ys.toList.map (·.1):=by rw [<- hi.numsOf,<- Vw,<- e]
 rw [e] at hl
 refine sum_intListG (I.ok.hd hc) hl fun h' tk t' hk=>⟨.int ns.sum,H,I.kept hk,⟨t',?_⟩,q⟩
 rw [preSum_eq,Bv (by simp),hns]
end
end L2
namespace L2
open PySem PySem.Spec PyProof.Rows
theorem nH {K:aW} {a:Addr} {xs:List V} {caps:List Nat} {tt:TT} {te:TE} {σ:St} {H:Hp} {D:Addr} {Q:VK} (Pv:Nat->List V->Hp->Prop) (h0:Pv 0 [] (upd H D (.lst [])))
  (hl:∀ i ys H,i<=xs.length->Pv i ys H->SqL K H a xs/\H D=some (.lst ys)/\ys.length<sizeLine)
  (hs:∀ i ys H x,xs[i]? = some x->Pv i ys H->tt (nZ σ (some x) caps) H fun b H2=>if b=true then te (nZ σ (some x) caps) H2 fun y H3=>H3 D=some (.lst ys)/\Pv (i+1) (ys++[y]) (upd H3 D (.lst (ys++[y]))) else H2 D=some (.lst ys)/\Pv (i+1) ys H2) (hd:∀ ys H,Pv xs.length ys H->Q (.ref D) H)
  (monoT:∀ σ H (R R':Bool->Hp->Prop),(∀ b H,R b H->R' b H)->tt σ H R->tt σ H R')
  (mono:∀ σ H (Q Q':VK),(∀ y H,Q y H->Q' y H)->te σ H Q->te σ H Q') :
  FQ (Itl K a) caps tt te σ D Q H:=by
 refine ⟨fun i m ys H=>m=xs.length-i/\i<=xs.length/\Pv i ys H,⟨xs.length,by simp,bZ _,h0⟩,?_⟩
 rintro i m ys H ⟨rfl,hi,p⟩
 obtain ⟨sq,q,z⟩:=hl i ys H hi p
 refine ⟨q,?_⟩
 by_cases hlt:i<xs.length
 ·refine .inr ⟨⟨xs,xs[i],sq,by simp [hlt]⟩,z,fun x H' y=>?_⟩
  obtain ⟨e,y⟩:=y
  subst e
  refine monoT _ _ _ _ (fun b H2 hb=>?_) (hs i ys _ x (y xs sq) p)
  cases b with
  | true =>
   rw [if_pos rfl] at hb ⊢
   exact mono _ _ _ _ (fun y H3 ⟨a,b⟩=>⟨a,xs.length-(i+1),by lia,rfl,hlt,b⟩) hb
  | false =>
   rw [if_neg (by decide)] at hb ⊢
   exact ⟨hb.1,xs.length-(i+1),by lia,rfl,hlt,hb.2⟩
 ·have e:i=xs.length:=by lia
  subst e
  exact .inl ⟨⟨xs,sq,cJ _⟩,hd ys H p⟩
end L2
namespace L2
open PySem PySem.Spec PyProof.Rows
noncomputable def wj (te:TE):Prop:=∀ σ H (Q Q':VK),(∀ y H,Q y H->Q' y H)->te σ H Q->te σ H Q'
theorem Ga {r:R2} {ta tb:TE} (hr:∀ x y H (Q Q':VK),(∀ y H,Q y H->Q' y H)->r x y H Q->r x y H Q') (ma:wj ta) (mb:wj tb):wj (tOp r ta tb):=fun σ H Q Q' hq h =>
 ma σ H _ _ (fun x H1 h1=>mb σ H1 _ _ (fun y H2 h2=>hr x y H2 Q Q' hq h2) h1) h
theorem xG {K:aW} {ta tb:TE} (ma:wj ta) (mb:wj tb):wj (tOp (Ke K) ta tb):=Ga (fun x y H Q Q' hq h2=>by
 rcases h2 with ⟨a1,a2,a3,a4,a5,a6,a7,a8,q⟩ | ⟨a1,a2,a3,a4,a5,a6,a7,a8,q⟩ | ⟨a1,a2,a3,a4,q⟩
 ·exact .inl ⟨a1,a2,a3,a4,a5,a6,a7,a8,hq _ _ q⟩
 ·exact .inr (.inl ⟨a1,a2,a3,a4,a5,a6,a7,a8,hq _ _ q⟩)
 ·exact .inr (.inr ⟨a1,a2,a3,a4,hq _ _ q⟩)) ma mb
theorem pC {f:Int->Int->V} {ta tb:TE} (ma:wj ta) (mb:wj tb):wj (tOp (rI0 f) ta tb):=Ga (fun x y H Q Q' hq h2=>by
 obtain ⟨a1,a2,a3,a4,q⟩:=h2
 exact ⟨a1,a2,a3,a4,hq _ _ q⟩) ma mb
theorem cL (i:Nat):wj (tVar i):=fun σ H Q Q' hq ⟨v,e,q⟩=>⟨v,e,hq _ _ q⟩
theorem ug (v:V):wj (tC v):=fun σ H Q Q' hq q=>hq _ _ q
noncomputable def Tw (ta:TA):Prop:=∀ σ H (Q Q':List V->Hp->Prop),(∀ xs H,Q xs H->Q' xs H)->ta σ H Q->ta σ H Q'
theorem Tz:Tw tNil:=fun σ H Q Q' hq q=>hq _ _ q
theorem Lf {ta:TE} {tr:TA} (ma:wj ta) (mr:Tw tr):Tw (ajj ta tr):=fun σ H Q Q' hq h=>ma σ H _ _ (fun x H1 h1=>mr σ H1 _ _ (fun xs H2 h2=>hq _ _ h2) h1) h
end L2
namespace L2
open PySem PySem.Spec PyProof.Rows
section
variable {X:Cx} {tg:Expr}
end
end L2
namespace L2
open PySem PySem.Spec PyProof.Rows
theorem Io:∀ {kvs:List (Key × V)} {vs:List (Key × Value)} {i:Nat} {k:Key} {u:Value},KV kvs vs->vs[i]? = some (k,u)->∃ p,kvs[i]? = some p/\RelV p.2 u
 | _,_,_,_,_,.nil,h=>by simp at h
 | p::ps,_,0,k,u,.cons (b:=q) r t,h=>by
  have e:q=(k,u):=by simpa using h
  subst e
  exact ⟨p,rfl,r.2⟩
 | p::ps,_,i+1,k,u,.cons r t,h=>by
  obtain ⟨p',e,rr⟩:=Io (i:=i) t (by simpa using h)
  exact ⟨p',by simpa using e,rr⟩
section
variable {X:Cx} {l:Expr} {td:TE} {p cpos apos pos:Pos}
end
end L2
namespace L2
open PySem PySem.Spec PyProof.Rows
noncomputable def MonoT (tt:TT):Prop:=∀ σ H (R R':Bool->Hp->Prop),(∀ b H,R b H->R' b H)->tt σ H R->tt σ H R'
theorem gR {te:TE} (m:wj te):MonoT (KQ te):=fun σ H R R' hr h=>m σ H _ _ (fun y H1 h1=>by
 obtain ⟨b,e,r⟩:=h1
 exact ⟨b,e,hr _ _ r⟩) h
theorem ZP {K:aW} (i j:Nat):∀ x σ H (R R':St->Hp->Prop),(∀ σ H,R σ H->R' σ H)->gTup K 2 (HX (vQ i) (HX (vQ j) gNil)) x σ H R->gTup K 2 (HX (vQ i) (HX (vQ j) gNil)) x σ H R':=fun x σ H R R' hr h=>by
 obtain ⟨a,xs,e,sq,hl,v,r,e1,v2,r2,e2,e3,q⟩:=h
 exact ⟨a,xs,e,sq,hl,v,r,e1,v2,r2,e2,e3,hr _ _ q⟩
end L2
namespace L2
open PySem PySem.Spec PyProof.Rows
section
variable {X:Cx}
end
end L2
namespace L2
open PySem PySem.Spec PyProof.Rows
section
variable {X:Cx}
noncomputable def rBits:V->List V->Hp->VK->Prop:=fun x vs H Q=>∃ i:Int,x = .int i/\vs=[]/\Q (.int ((sy i:Nat):Int)) H
theorem aiv:MtR X "int.bit_length" rBits:=by
 intro pins s σ H x vs v us Q I rx rv h
 obtain ⟨i,rfl,rfl,q⟩:=h
 obtain ⟨t,rfl⟩:∃ t,v=Value.int i t:=rx
 have hus:=rv.zero
 subst hus
 exact call_gives aeD (typeIs_int s i t) PySem.F.entry_int_bit_length (PySem.F.args_int_bit_length_1 _) (akl i t) (show Made.post _ _ _ from ⟨.int _,H,I.tok _,⟨_,rfl⟩,q⟩)
end
end L2
namespace L2
open PySem PySem.Spec PyProof.Rows
theorem aiw {r:List V->Hp->VK->Prop} {ta:TA} (hr:∀ vs H (Q Q':VK),(∀ y H,Q y H->Q' y H)->r vs H Q->r vs H Q') (ma:Tw ta):wj (tCB r ta):=fun σ H Q Q' hq h=>ma σ H _ _ (fun vs H1 h1=>hr vs H1 Q Q' hq h1) h
theorem TF {K:aW} {ta:TA} (ma:Tw ta):wj (tCB (aaI K) ta):=aiw (fun vs H Q Q' hq h=>by
 rcases h with ⟨x,n,e,l,q⟩ | ⟨a,kvs,e,r,q⟩
 ·exact .inl ⟨x,n,e,l,hq _ _ q⟩
 ·exact .inr ⟨a,kvs,e,r,hq _ _ q⟩) ma
theorem agC {K:aW} {ta:TE} {f:Str} (ma:wj ta):wj (tFld K ta f):=fun σ H Q Q' hq h=>ma σ H _ _ (fun x H1 h1=>by
 obtain ⟨a,C,dx,fs,v,e,h2,c,n,l,q⟩:=h1
 exact ⟨a,C,dx,fs,v,e,h2,c,n,l,hq _ _ q⟩) h
end L2
namespace L2
open PySem PySem.Spec PyProof.Rows
section
variable {X:Cx}
theorem bits_le {x:Int} {n:Nat} (h:x.natAbs<2 ^ n):sy x<=n:=by
 unfold sy
 split
 ·exact bZ _
 ·rename_i hx
  have h0:x.natAbs≠0:=by
   intro z
   apply hx
   have:x=0:=by lia
   rw [this];rfl
  have:=(V5 h0).mpr h
  lia
theorem aix {x:Int} (h:0<=x):x<2 ^ sy x:=by
 unfold sy
 split
 ·rename_i hx
  have:x=0:=by simpa using hx
  rw [this];decide
 ·have h1:x.natAbs<2 ^ (x.natAbs.log2+1):=Nat.lt_log2_self
  have h2:((x.natAbs:Nat):Int)<((2 ^ (x.natAbs.log2+1):Nat):Int):=Om.mpr h1
  rw [tU] at h2
  have h3:((x.natAbs:Nat):Int)=x:=by lia
  rw [h3] at h2
  exact h2
noncomputable def aa4 (i j:Int):Prop:=∃ n m:Nat,i.natAbs<2 ^ n/\j.natAbs<2 ^ m/\n+m<=134217728
theorem aa4.ok {i j:Int} (h:aa4 i j):VR i j:=by
 obtain ⟨n,m,h1,h2,h3⟩:=h
 have b1:=bits_le h1
 have b2:=bits_le h2
 unfold VR
 have:aeC ((sy i:Int)+sy j)=false:=by
  unfold aeC
  refine decide_eq_false ?_
  show ¬ ((sy i:Int)+sy j>((134217728:Nat):Int))
  lia
 rw [this];simp
theorem qY:OpR X (nM .Mult) (rI aa4 fun i j=>.int (i*j)):=opI (C:=aa4) (g:=fun i j=>i*j) fun _ _ _ _ _ _ _ hc q=>mul_int q hc.ok
noncomputable def ajB (_ j:Int):Prop:=0<j/\∃ n:Nat,n<=9000/\j<2 ^ n
theorem Je:OpR X (nM .FloorDiv) (rI ajB fun i j=>.int (i / j)) :=
 opI (C:=ajB) (g:=fun i j=>i / j) fun i j t u s Q E hc h=>by
  obtain ⟨h0,n,h1,h2⟩:=hc
  have hl:j.natAbs.log2<9000:=by
   have:j.natAbs≠0:=by lia
   have h3:j.natAbs<2 ^ n:=by
    have:((j.natAbs:Nat):Int)<((2 ^ n:Nat):Int):=by
     rw [tU]
     have h4:((j.natAbs:Nat):Int)=j:=by lia
     rw [h4];exact h2
    exact Om.mp this
   have:=(V5 this).mpr h3
   lia
  refine Wd tb_g% ?_ (.inl (aeX hl))
  rw [Hx i tb_g%]
  exact h
theorem Lg {x:Int} {n:Nat} (h0:0<=x) (h:x<2 ^ n):x.natAbs<2 ^ n:=by
 have:((x.natAbs:Nat):Int)<((2 ^ n:Nat):Int):=by
  rw [tU]
  have h4:((x.natAbs:Nat):Int)=x:=by lia
  rw [h4];exact h
 exact Om.mp this
end
end L2
namespace L2
open PySem PySem.Spec PyProof.Rows
theorem Jf (ns:List Int) (lo hi:Option Int):∃ ms:List Int,Ie (ns.map V.int) lo hi=ms.map V.int/\ms.length<=ns.length/\∀ m∈ms,m∈ns:=by
 refine ⟨(ns.drop (HT.sIx (ns.map V.int).length 0 lo)).take (HT.sIx (ns.map V.int).length (ns.map V.int).length hi-HT.sIx (ns.map V.int).length 0 lo),?_,?_,fun m hm=>Mp (Uy hm)⟩
 ·unfold Ie
  rw [List.map_take,Mu]
 ·rw [jf,BK]
  lia
theorem int_at {ns:List Int} {i:Nat} {y:V} (h:(ns.map V.int)[i]? = some y):∃ z,ns[i]? = some z/\y=V.int z:=by
 rw [jN] at h
 cases e:ns[i]? with
 | none=>rw [e] at h;cases h
 | some z=>rw [e] at h;exact ⟨z,rfl,(cX h).symm⟩
theorem qZ {ns:List Int} {i:Int} (h0:0<=i) (h1:i<(ns.length:Int)):∃ v,v∈ns/\atI (ns.map V.int) i=some (.int v):=by
 have e:ns[i.toNat]? = some (ns[i.toNat]'tb_g%):=jL tb_g%
 refine ⟨_,List.mem_of_getElem? e,?_⟩
 have:=Ph (xs:=ns.map V.int) (j:=i.toNat) (v:=.int (ns[i.toNat]'tb_g%)) (by rw [jN,e];rfl)
 rwa [aev h0] at this
theorem four {a b c d v:Int} (h:v∈[a,b,c,d]):v=a\/v=b\/v=c\/v=d:=by simpa using h
end L2
namespace L2
open PySem PySem.Spec PyProof.Rows
theorem agD (f:Str) (v:V):aD f v []=[(f,v)]:=rfl
theorem aiy (f:Str) (v:V) (r:List (Str × V)) (u:V):aD f v ((f,u)::r)=(f,v)::r:=by
 unfold aD
 rw [if_pos rfl]
theorem aiz {f g:Str} (h:¬ g=f) (v:V) (r:List (Str × V)) (u:V):aD f v ((g,u)::r)=(g,u)::aD f v r:=by
 rw [aD,if_neg h]
theorem bW {f m:Str} {v:V} {r:List (Str × V)} (h:¬ m=f):((f,v)::r).lookup m=r.lookup m:=by
 rw [UL]
 rw [beq_eq_false_iff_ne.mpr h]
theorem TJ {a:Addr}:decide (V.ref a=V.non)=false:=decide_eq_false (by intro z;cases z)
theorem Jg:decide (V.non=V.non)=true:=decide_eq_true rfl
theorem dh {p a:Addr} {H H':Hp} (b:But p H H') (h:H' a=none) (n:a≠p):H a=none:=by
 cases e:H a with
 | none=>rfl
 | some o=>rw [b a o e n] at h;cases h
theorem acp {t u:TT} (mt:∀ σ H (R R':Bool->Hp->Prop),(∀ b H,R b H->R' b H)->t σ H R->t σ H R') (mu:∀ σ H (R R':Bool->Hp->Prop),(∀ b H,R b H->R' b H)->u σ H R->u σ H R') :
  ∀ σ H (R R':Bool->Hp->Prop),(∀ b H,R b H->R' b H)->tAnd t u σ H R->tAnd t u σ H R':=fun σ H R R' hr h=>mt σ H _ _ (fun b H1 hb=>by
 cases b with
 | true=>rw [if_pos rfl] at hb ⊢; exact mu σ H1 _ _ hr hb
 | false=>rw [if_neg (by decide)] at hb ⊢; exact hr _ _ hb) h
end L2
namespace L2
open PySem PySem.Spec PyProof.Rows
section
variable {X:Cx}
theorem acq:∀ {ns ms:List Int},ns.length=ms.length->((yu ns.length).all fun j=>eqV (V.int (ns.getD j 0)) (V.int (ms.getD j 0)))=decide (ns=ms):=by
 intro ns ms hl
 by_cases h:ns=ms
 ·subst h
  rw [decide_eq_true rfl,Mr]
  intro j _
  show (ns.getD j 0 == ns.getD j 0)=true
  simp
 ·rw [decide_eq_false h]
  cases e:((yu ns.length).all fun j=>eqV (V.int (ns.getD j 0)) (V.int (ms.getD j 0))) with
  | false=>rfl
  | true =>
   exfalso
   apply h
   rw [Mr] at e
   refine List.ext_getElem? fun i=>?_
   by_cases hi:i<ns.length
   ·have:=e i (U5.mpr hi)
    have this:(ns.getD i 0 == ms.getD i 0)=true:=this
    have this:ns.getD i 0=ms.getD i 0:=by simpa using this
    rw [jL hi,jL tb_g%]
    rw [Ma,Ma,jL hi,jL (show i<ms.length by lia)] at this
    exact congrArg some this
   ·rw [Mj tb_g%,Mj tb_g%]
noncomputable def rEqI (K:aW):R2:=fun x y H Q=>∃ (a b:Addr) (ns ms:List Int),x = .ref a/\y = .ref b/\SqL K H a (ns.map V.int)/\SqL K H b (ms.map V.int)/\ns.length=ms.length/\Q (.bl (decide (ns=ms))) H
theorem agE (hu:X.A.units+64<cLine):OpR X (jO .Eq) (rEqI X.K):=by
 walk_at "l"
 obtain ⟨a,b,ns,ms,rfl,rfl,ha,hb,hl,w⟩:=h
 obtain rfl:v=Value.ref a:=rx
 obtain rfl:u=Value.ref b:=ry
 obtain ⟨us,r1,p1,_⟩:=I.list ha
 obtain ⟨vs,r2,p2,_⟩:=I.list hb
 have l1:=r1.length
 have l2:=r2.length
 rw [bK] at l1 l2
 have:=ae7 (A:=X.A) (s:=s) (e:=fun j=>eqV (V.int (ns.getD j 0)) (V.int (ms.getD j 0))) p1.isList p2.isList (by rw [gH,gH,<- l1,<- l2,hl]) tb_g% fun j h1 h2=>by
  have e1:j<us.length:=by simpa using h1
  have e2:j<vs.length:=by simpa using h2
  have g1:(ns.map V.int)[j]? = some (V.int (ns.getD j 0)):=by rw [jN,Ma,jL (show j<ns.length by lia)];rfl
  have g2:(ms.map V.int)[j]? = some (V.int (ms.getD j 0)):=by rw [jN,Ma,jL (show j<ms.length by lia)];rfl
  obtain ⟨u,k1,r1'⟩:=r1.get g1
  obtain ⟨v,k2,r2'⟩:=r2.get g2
  have m1:us.toArray[j]=u:=by
   rw [jL e1] at k1
   simpa using k1
  have m2:vs.toArray[j]=v:=by
   rw [jL e2] at k2
   simpa using k2
  rw [m1,m2]
  exact Pk r1' r2' rfl rfl
 rw [gH,<- l1,acq hl] at this
 exact this X.prog X.w X.xe _ ⟨.bl _,H,I,rfl,w⟩
noncomputable def agF (_ j:Int):Prop:=j≠0/\∃ n:Nat,n<=9000/\j.natAbs<2 ^ n
theorem Dl:OpR X (nM .FloorDiv) (rI agF fun i j=>.int (i.fdiv j)) :=
 opI (C:=agF) (g:=fun i j=>i.fdiv j) fun i j t u s Q E hc h=>by
  obtain ⟨h0,n,h1,h2⟩:=hc
  have hl:j.natAbs.log2<9000:=by
   have h3:j.natAbs≠0:=by lia
   have:=(V5 h3).mpr h2
   lia
  exact Wd h0 h (.inl (aeX hl))
end
end L2
namespace OFF
section
variable {x y m n a b c d:Int}
theorem agG (ha:a=m) (hb:b=m*x) (hc:c=m*x*x):b*b-a*c=0:=by
 subst ha hb hc
 grind
theorem agH (h:m≠0) (ha:a=m) (hb:b=m*x):b.fdiv a=x:=by
 subst ha hb
 rw [Ol]
 exact Wq x h
theorem Ay (ha:a=m+n) (hb:b=m*x+n*y) (hc:c=m*x*x+n*y*y):b*b-a*c = -(m*n*((y-x)*(y-x))):=by
 subst ha hb hc
 grind
theorem wu (hm:m≠0) (hn:n≠0) (hxy:x<y) (ha:a=m+n) (hb:b=m*x+n*y) (hc:c=m*x*x+n*y*y):b*b-a*c≠0:=by
 rw [Ay ha hb hc]
 have h1:m*n≠0:=Wt hm hn
 have h2:(y-x)*(y-x)≠0:=Wt tb_g% tb_g%
 have h3:=Wt h1 h2
 omega
theorem agI (hm:m≠0) (hn:n≠0) (hxy:x<y) (ha:a=m+n) (hb:b=m*x+n*y) (hc:c=m*x*x+n*y*y) (hd:d=m*x*x*x+n*y*y*y):(b*c-a*d).fdiv (b*b-a*c)=x+y:=by
 have h0:=wu hm hn hxy ha hb hc
 have e:b*c-a*d=(x+y)*(b*b-a*c):=by
  rw [Ay ha hb hc]
  subst ha hb hc hd
  grind
 rw [e]
 exact Wq _ h0
theorem acr (hm:m≠0) (hn:n≠0) (hxy:x<y) (ha:a=m+n) (hb:b=m*x+n*y) (hc:c=m*x*x+n*y*y) (hd:d=m*x*x*x+n*y*y*y):(c*c-b*d).fdiv (b*b-a*c)=x*y:=by
 have h0:=wu hm hn hxy ha hb hc
 have e:c*c-b*d=(x*y)*(b*b-a*c):=by
  rw [Ay ha hb hc]
  subst ha hb hc hd
  grind
 rw [e]
 exact Wq _ h0
theorem ZQ:(x+y)*(x+y)-4*(x*y)=(y-x)*(y-x):=by grind
theorem agJ {r s:Int} (h0:1<=r) (h0':1<=s) (h:r*r<=s*s) (h1:s*s<(r+1)*(r+1)):r=s:=by
 rcases Int.lt_trichotomy r s with l | l | l
 ·have:=vK (show r+1<=s by omega) (show r+1<=s by omega) tb_g% tb_g%
  omega
 ·exact l
 ·have:=Int.mul_lt_mul' (show s<=r by omega) l tb_g% tb_g%
  omega
theorem aiA:(x+y-(y-x)) / 2=x:=by omega
theorem agK (hxy:x<y) (ha:a=m+n) (hb:b=m*x+n*y):(b-x*a) / (y-x)=n:=by
 have e:b-x*a=n*(y-x):=by subst ha hb;grind
 rw [e]
 exact Int.mul_ediv_cancel _ tb_g%
end
end OFF
--%BIG
set_option Elab.async false
set_option maxRecDepth 100000
set_option maxHeartbeats 4000000
namespace My
open PySem L2 MG
set_option genInjectivity false in
set_option genSizeOf false in
structure Ad where
 dU:Addr
 jm:Addr
 jr:Addr
 iB:Addr
 qJ:Addr
 cG:Addr
 jy:Addr
 jt:Addr
 jz:Addr
 tX:Addr
 f'0:Addr
 uh:FuncData
 f'1:Addr
 rK:FuncData
 f'2:Addr
 Qf:FuncData
 f'3:Addr
 um:FuncData
 f'4:Addr
 qj:FuncData
 f'5:Addr
 Jh:FuncData
 f'6:Addr
 Dm:FuncData
 f'7:Addr
 uo:FuncData
 f'8:Addr
 wz:FuncData
 f'9:Addr
 ur:FuncData
 W8:Addr
 uw:FuncData
 W9:Addr
 zE:FuncData
 Xa:Addr
 oh:FuncData
 Xb:Addr
 Ji:FuncData
 QX:Addr
 rM:FuncData
 Xc:Addr
 ou:FuncData
 Xd:Addr
 ux:FuncData
 Xe:Addr
 rN:FuncData
 Xf:Addr
 rO:FuncData
 Xg:Addr
 Jj:FuncData
 Xh:Addr
 ZR:FuncData
 QZ:Addr
 oA:FuncData
 Xi:Addr
 zF:FuncData
 Xj:Addr
 lW:FuncData
 Xk:Addr
 ql:FuncData
 Xl:Addr
 mO:FuncData
 Xm:Addr
 lX:FuncData
 Q5:Addr
 oE:FuncData
 Xn:Addr
 Jk:FuncData
 Xo:Addr
 Dp:FuncData
 Xp:Addr
 qm:FuncData
 Xq:Addr
 qp:FuncData
 Xr:Addr
 qt:FuncData
 Xu:Addr
 oF:FuncData
 Xv:Addr
 mQ:FuncData
 Xw:Addr
 zG:FuncData
 Q6:Addr
 qu:FuncData
 Xx:Addr
 rP:FuncData
 Xy:Addr
 qw:FuncData
 Xz:Addr
 zH:FuncData
 XC:Addr
 ZS:FuncData
 XD:Addr
 zJ:FuncData
 XF:Addr
 wA:FuncData
 XH:Addr
 wB:FuncData
 XJ:Addr
 ZV:FuncData
 XM:Addr
 rQ:FuncData
 XQ:Addr
 qx:FuncData
 XR:Addr
 oG:FuncData
 XS:Addr
 oH:FuncData
 Q7:Addr
 oJ:FuncData
 X3:Addr
 Qg:FuncData
 X4:Addr
 uy:FuncData
 X5:Addr
 uz:FuncData
 X6:Addr
 rR:FuncData
 X7:Addr
 zK:FuncData
 X8:Addr
 uD:FuncData
 Yb:Addr
 Jl:FuncData
 Yc:Addr
 qy:FuncData
 Yd:Addr
 lY:FuncData
 Ye:Addr
 mR:FuncData
 Yg:Addr
 lF:FuncData
 Yh:Addr
 oK:FuncData
 Yi:Addr
 jJ:FuncData
 Yj:Addr
 qz:FuncData
 Yk:Addr
 Dq:FuncData
 Yl:Addr
 qC:FuncData
 Ym:Addr
 Jm:FuncData
 Yn:Addr
 oM:FuncData
 Yo:Addr
 wC:FuncData
 Yp:Addr
 Dr:FuncData
 abB:Addr
 agL:FuncData
structure Tx (K:aW) (mg:Str->Option Value) (A:Ad):Prop where
 cO:Cls K A.dU
 aa5:mg "Rungs" = some (.ref A.dU)
 ajC:Mk K A.dU A.f'7
 aa6:cM K A.dU "room"
 wD:cM K A.dU "total"
 Jo:cM K A.dU "over"
 Jp:cM K A.dU "under"
 xZ:cM K A.dU "turns"
 TQ:cM K A.dU "least"
 TV:cM K A.dU "most"
 Jq:cM K A.dU "rungs"
 gW:Cls K A.jm
 agM:mg "Window" = some (.ref A.jm)
 mk'72:Mk K A.jm A.QX
 aa7:cM K A.jm "room"
 Lh:cM K A.jm "reach"
 wF:cM K A.jm "clock"
 Er:cM K A.jm "boxes"
 jj:Cls K A.jr
 ZW:mg "Distinct" = some (.ref A.jr)
 mk'73:Mk K A.jr A.QZ
 TY:cM K A.jr "room"
 Li:cM K A.jr "arrivals"
 Az:cM K A.jr "level"
 Jr:cM K A.jr "kept"
 f9:Cls K A.iB
 Js:mg "Frequent" = some (.ref A.iB)
 ajD:Mk K A.iB A.Q5
 Lj:cM K A.iB "room"
 Lk:cM K A.iB "total"
 Ln:cM K A.iB "lost"
 zL:cM K A.iB "counts"
 sW:Cls K A.qJ
 acs:mg "Balance" = some (.ref A.qJ)
 mk'75:Mk K A.qJ A.Q6
 Jt:cM K A.qJ "span"
 wG:cM K A.qJ "sums"
 cj:Cls K A.cG
 ZX:mg "Keepsake" = some (.ref A.cG)
 mk'76:Mk K A.cG A.Q7
 Ds:cM K A.cG "room"
 Ju:cM K A.cG "reach"
 Jv:cM K A.cG "span"
 uE:cM K A.cG "came"
 zM:cM K A.cG "went"
 rT:cM K A.cG "up"
 Dt:cM K A.cG "down"
 wH:cM K A.cG "window"
 Du:cM K A.cG "seen"
 zN:cM K A.cG "balance"
 Lp:mg "TooFine" = some (.ref A.jy)
 uF:mg "OutOfReach" = some (.ref A.jt)
 Bb:mg "TooManyOff" = some (.ref A.jz)
 T5:mg "KeepError" = some (.ref A.tX)
 pH:tM K A.jy [.type "ValueError",.type "Exception",.type "BaseException",.type "object"] "ValueError.__new__" = true
 iH:tM K A.jt [.type "ValueError",.type "Exception",.type "BaseException",.type "object"] "ValueError.__new__" = true
 jA:tM K A.jz [.type "ValueError",.type "Exception",.type "BaseException",.type "object"] "ValueError.__new__" = true
 wI:Catch K A.jy A.tX
 sX:Catch K A.jt A.tX
 sY:Catch K A.jz A.tX
 Z0:EY K A.jy
 Kl:EY K A.jt
 Km:EY K A.jz
 d9:fJ K (.ref A.jy) (.ref A.jy)=some true
 dB:fJ K (.ref A.jy) (.ref A.jt)=some false
 dD:fJ K (.ref A.jy) (.ref A.jz)=some false
 dF:fJ K (.ref A.jt) (.ref A.jy)=some false
 cP:fJ K (.ref A.jt) (.ref A.jt)=some true
 cQ:fJ K (.ref A.jt) (.ref A.jz)=some false
 dG:fJ K (.ref A.jz) (.ref A.jy)=some false
 cR:fJ K (.ref A.jz) (.ref A.jt)=some false
 cT:fJ K (.ref A.jz) (.ref A.jz)=some true
 F'0:Fun K "with_thing" "with_thing" s'0 A.f'0 A.uh
 b'0:Binds K A.uh ["lists","thing","weight"] []
 Qh:mg "with_thing" = some (.ref A.f'0)
 F'1:Fun K "left_behind" "left_behind" s'1 A.f'1 A.rK
 b'1:Binds K A.rK ["things"] []
 Ko:mg "left_behind" = some (.ref A.f'1)
 F'2:Fun K "risen" "risen" s'2 A.f'2 A.Qf
 b'2:Binds K A.Qf ["things","turns"] []
 aiB:mg "risen" = some (.ref A.f'2)
 F'3:Fun K "turn" "Rungs.turn" s'3 A.f'3 A.um
 b'3:Binds K A.um ["self","stands_for"] []
 Qi:Meth K A.dU "turn" A.f'3
 F'4:Fun K "settle" "Rungs.settle" s'4 A.f'4 A.qj
 b'4:Binds K A.qj ["self","lists"] []
 Jw:Meth K A.dU "settle" A.f'4
 F'5:Fun K "lesser" "lesser" s'5 A.f'5 A.Jh
 b'5:Binds K A.Jh ["one","other"] []
 agN:mg "lesser" = some (.ref A.f'5)
 F'6:Fun K "greater" "greater" s'6 A.f'6 A.Dm
 b'6:Binds K A.Dm ["one","other"] []
 acu:mg "greater" = some (.ref A.f'6)
 F'7:Fun K "__init__" "Rungs.__init__" s'7 A.f'7 A.uo
 b'7:Binds K A.uo ["self","room"] []
 aiC:Meth K A.dU "__init__" A.f'7
 F'8:Fun K "add" "Rungs.add" s'8 A.f'8 A.wz
 b'8:Binds K A.wz ["self","thing","weight"] []
 Es:Meth K A.dU "add" A.f'8
 F'9:Fun K "near" "Rungs.near" s'9 A.f'9 A.ur
 b'9:Binds K A.ur ["self","thing"] []
 Qj:Meth K A.dU "near" A.f'9
 F'10:Fun K "rank" "Rungs.rank" s'10 A.W8 A.uw
 b'10:Binds K A.uw ["self","thing"] []
 pD:Meth K A.dU "rank" A.W8
 F'11:Fun K "thing_at" "thing_at" s'11 A.W9 A.zE
 b'11:Binds K A.zE ["lists","k"] []
 Z1:mg "thing_at" = some (.ref A.W9)
 F'12:Fun K "by_rank" "Rungs.by_rank" s'12 A.Xa A.oh
 b'12:Binds K A.oh ["self","k"] []
 uQ:Meth K A.dU "by_rank" A.Xa
 F'13:Fun K "joined" "joined" s'13 A.Xb A.Ji
 b'13:Binds K A.Ji ["boxes","room"] []
 agO:mg "joined" = some (.ref A.Xb)
 F'14:Fun K "__init__" "Window.__init__" s'14 A.QX A.rM
 b'14:Binds K A.rM ["self","room","reach"] []
 ahG:Meth K A.jm "__init__" A.QX
 F'15:Fun K "settle" "Window.settle" s'15 A.Xc A.ou
 b'15:Binds K A.ou ["self","boxes"] []
 uR:Meth K A.jm "settle" A.Xc
 F'16:Fun K "add" "Window.add" s'16 A.Xd A.ux
 b'16:Binds K A.ux ["self","weight"] []
 Qk:Meth K A.jm "add" A.Xd
 F'17:Fun K "idle" "Window.idle" s'17 A.Xe A.rN
 b'17:Binds K A.rN ["self","many"] []
 yc:Meth K A.jm "idle" A.Xe
 F'18:Fun K "last" "Window.last" s'18 A.Xf A.rO
 b'18:Binds K A.rO ["self","many"] []
 yd:Meth K A.jm "last" A.Xf
 F'19:Fun K "spread" "spread" s'19 A.Xg A.Jj
 b'19:Binds K A.Jj ["thing"] []
 agP:mg "spread" = some (.ref A.Xg)
 F'20:Fun K "mark" "mark" s'20 A.Xh A.ZR
 b'20:Binds K A.ZR ["thing"] []
 agQ:mg "mark" = some (.ref A.Xh)
 F'21:Fun K "__init__" "Distinct.__init__" s'21 A.QZ A.oA
 b'21:Binds K A.oA ["self","room"] []
 acR:Meth K A.jr "__init__" A.QZ
 F'22:Fun K "of_marks" "of_marks" s'22 A.Xi A.zF
 b'22:Binds K A.zF ["things","level"] []
 Z2:mg "of_marks" = some (.ref A.Xi)
 F'23:Fun K "settle" "Distinct.settle" s'23 A.Xj A.lW
 b'23:Binds K A.lW ["self","things"] []
 Bc:Meth K A.jr "settle" A.Xj
 F'24:Fun K "add" "Distinct.add" s'24 A.Xk A.ql
 b'24:Binds K A.ql ["self","thing"] []
 Jx:Meth K A.jr "add" A.Xk
 F'25:Fun K "exact" "Distinct.exact" s'25 A.Xl A.mO
 b'25:Binds K A.mO ["self"] []
 Dv:Meth K A.jr "exact" A.Xl
 F'26:Fun K "bounds" "Distinct.bounds" s'26 A.Xm A.lX
 b'26:Binds K A.lX ["self"] []
 rm:Meth K A.jr "bounds" A.Xm
 F'27:Fun K "__init__" "Frequent.__init__" s'27 A.Q5 A.oE
 b'27:Binds K A.oE ["self","room"] []
 acS:Meth K A.iB "__init__" A.Q5
 F'28:Fun K "cut_of" "cut_of" s'28 A.Xn A.Jk
 b'28:Binds K A.Jk ["counts","room"] []
 agR:mg "cut_of" = some (.ref A.Xn)
 F'29:Fun K "lowered" "lowered" s'29 A.Xo A.Dp
 b'29:Binds K A.Dp ["counts","cut"] []
 acv:mg "lowered" = some (.ref A.Xo)
 F'30:Fun K "fit" "Frequent.fit" s'30 A.Xp A.qm
 b'30:Binds K A.qm ["self","grown"] []
 Jy:Meth K A.iB "fit" A.Xp
 F'31:Fun K "add" "Frequent.add" s'31 A.Xq A.qp
 b'31:Binds K A.qp ["self","thing","weight"] []
 wJ:Meth K A.iB "add" A.Xq
 F'32:Fun K "low" "Frequent.low" s'32 A.Xr A.qt
 acw:Binds K A.qt ["self","thing"] []
 iz:Meth K A.iB "low" A.Xr
 F'33:Fun K "high" "Frequent.high" s'33 A.Xu A.oF
 agS:Binds K A.oF ["self","thing"] []
 iR:Meth K A.iB "high" A.Xu
 F'34:Fun K "often" "Frequent.often" s'34 A.Xv A.mQ
 b'34:Binds K A.mQ ["self","part","whole"] []
 sZ:Meth K A.iB "often" A.Xv
 F'35:Fun K "with_row" "with_row" s'35 A.Xw A.zG
 b'35:Binds K A.zG ["sums","thing","weight"] []
 zO:mg "with_row" = some (.ref A.Xw)
 F'36:Fun K "__init__" "Balance.__init__" s'36 A.Q6 A.qu
 b'36:Binds K A.qu ["self","span"] []
 agT:Meth K A.qJ "__init__" A.Q6
 F'37:Fun K "put" "Balance.put" s'37 A.Xx A.rP
 b'37:Binds K A.rP ["self","thing","weight"] []
 Kq:Meth K A.qJ "put" A.Xx
 F'38:Fun K "take" "Balance.take" s'38 A.Xy A.qw
 b'38:Binds K A.qw ["self","thing","weight"] []
 Jz:Meth K A.qJ "take" A.Xy
 F'39:Fun K "due_sums" "due_sums" s'39 A.Xz A.zH
 b'39:Binds K A.zH ["span"] []
 Z4:mg "due_sums" = some (.ref A.Xz)
 F'40:Fun K "root" "root" s'40 A.XC A.ZS
 b'40:Binds K A.ZS ["number"] []
 alx:mg "root" = some (.ref A.XC)
 F'41:Fun K "one_pair" "one_pair" s'41 A.XD A.zJ
 b'41:Binds K A.zJ ["rest"] []
 Z6:mg "one_pair" = some (.ref A.XD)
 F'42:Fun K "two_pairs" "two_pairs" s'42 A.XF A.wA
 b'42:Binds K A.wA ["rest","bend"] []
 T6:mg "two_pairs" = some (.ref A.XF)
 F'43:Fun K "pairs_for" "pairs_for" s'43 A.XH A.wB
 b'43:Binds K A.wB ["rest"] []
 T7:mg "pairs_for" = some (.ref A.XH)
 F'44:Fun K "fits" "fits" s'44 A.XJ A.ZV
 b'44:Binds K A.ZV ["pairs","rest","span"] []
 aly:mg "fits" = some (.ref A.XJ)
 F'45:Fun K "off" "Balance.off" s'45 A.XM A.rQ
 b'45:Binds K A.rQ ["self"] []
 yg:Meth K A.qJ "off" A.XM
 F'46:Fun K "put" "Keepsake.put" s'46 A.XQ A.qx
 b'46:Binds K A.qx ["self","thing","weight"] []
 JB:Meth K A.cG "put" A.XQ
 F'47:Fun K "take" "Keepsake.take" s'47 A.XR A.oG
 b'47:Binds K A.oG ["self","thing","weight"] []
 Fb:Meth K A.cG "take" A.XR
 F'48:Fun K "idle" "Keepsake.idle" s'48 A.XS A.oH
 b'48:Binds K A.oH ["self","many"] []
 Fd:Meth K A.cG "idle" A.XS
 F'49:Fun K "__init__" "Keepsake.__init__" s'49 A.Q7 A.oJ
 b'49:Binds K A.oJ ["self","room","reach","span"] []
 acT:Meth K A.cG "__init__" A.Q7
 agU:Fun K "_law_mix" "_law_mix" s'50 A.X3 A.Qg
 b'50:Binds K A.Qg ["_law_cell","_law_factor","_law_prime"] []
 Gb:mg "_law_mix" = some (.ref A.X3)
 F'51:Fun K "_law_far_back" "_law_far_back" s'51 A.X4 A.uy
 b'51:Binds K A.uy [] []
 Ql:mg "_law_far_back" = some (.ref A.X4)
 F'52:Fun K "_law_thing_by" "_law_thing_by" s'52 A.X5 A.uz
 b'52:Binds K A.uz ["_law_cell"] []
 Bd:mg "_law_thing_by" = some (.ref A.X5)
 F'53:Fun K "_law_weight_by" "_law_weight_by" s'53 A.X6 A.rR
 b'53:Binds K A.rR ["_law_cell"] []
 Kr:mg "_law_weight_by" = some (.ref A.X6)
 F'54:Fun K "_law_row_by" "_law_row_by" s'54 A.X7 A.zK
 b'54:Binds K A.zK ["_law_cell"] []
 Z7:mg "_law_row_by" = some (.ref A.X7)
 F'55:Fun K "_law_shape_by" "_law_shape_by" s'55 A.X8 A.uD
 b'55:Binds K A.uD ["_law_cell"] []
 Qm:mg "_law_shape_by" = some (.ref A.X8)
 F'56:Fun K "_law_done" "_law_done" s'56 A.Yb A.Jl
 b'56:Binds K A.Jl ["_law_keepsake","_law_row"] []
 agV:mg "_law_done" = some (.ref A.Yb)
 F'57:Fun K "net" "Keepsake.net" s'57 A.Yc A.qy
 b'57:Binds K A.qy ["self","thing"] []
 JC:Meth K A.cG "net" A.Yc
 F'58:Fun K "ranked" "Keepsake.ranked" s'58 A.Yd A.lY
 b'58:Binds K A.lY ["self","thing"] []
 Bf:Meth K A.cG "ranked" A.Yd
 F'59:Fun K "often" "Keepsake.often" s'59 A.Ye A.mR
 b'59:Binds K A.mR ["self","part","whole"] []
 Dw:Meth K A.cG "often" A.Ye
 F'60:Fun K "by_rank" "Keepsake.by_rank" s'60 A.Yg A.lF
 b'60:Binds K A.lF ["self","k"] []
 zP:Meth K A.cG "by_rank" A.Yg
 F'61:Fun K "last" "Keepsake.last" s'61 A.Yh A.oK
 b'61:Binds K A.oK ["self","many"] []
 Fe:Meth K A.cG "last" A.Yh
 F'62:Fun K "distinct" "Keepsake.distinct" s'62 A.Yi A.jJ
 b'62:Binds K A.jJ ["self"] []
 xP:Meth K A.cG "distinct" A.Yi
 F'63:Fun K "off" "Keepsake.off" s'63 A.Yj A.qz
 b'63:Binds K A.qz ["self"] []
 JD:Meth K A.cG "off" A.Yj
 F'64:Fun K "_law_asked" "_law_asked" s'64 A.Yk A.Dq
 b'64:Binds K A.Dq ["_law_keepsake","_law_one","_law_other","_law_kind"] []
 acy:mg "_law_asked" = some (.ref A.Yk)
 F'65:Fun K "_law_part_asked" "_law_part_asked" s'65 A.Yl A.qC
 b'65:Binds K A.qC ["_law_keepsake","_law_one","_law_other","_law_kind"] []
 JF:mg "_law_part_asked" = some (.ref A.Yl)
 F'66:Fun K "_law_told" "_law_told" s'66 A.Ym A.Jm
 b'66:Binds K A.Jm ["_law_keepsake","_law_one","_law_other","_law_kind","_law_whole"] []
 JG:mg "_law_told" = some (.ref A.Ym)
 F'67:Fun K "_law_due_refused" "_law_due_refused" s'67 A.Yn A.oM
 b'67:Binds K A.oM ["_law_keepsake","_law_one","_law_other","_law_kind"] []
 Fg:mg "_law_due_refused" = some (.ref A.Yn)
 F'68:Fun K "_law_numbers" "_law_numbers" s'68 A.Yo A.wC
 b'68:Binds K A.wC ["_law_keepsake","_law_kind","_law_cell"] []
 T8:mg "_law_numbers" = some (.ref A.Yo)
 F'69:Fun K "_law_right" "_law_right" s'69 A.Yp A.Dr
 b'69:Binds K A.Dr ["_law_keepsake","_law_cell"] []
 Lq:mg "_law_right" = some (.ref A.Yp)
 F'70:Fun K "law" "law" s'70 A.abB A.agL
 b'70:Binds K A.agL ["_law_script"] []
 g_law:mg "law" = some (.ref A.abB)
 alz:mg "dict" = none
 pF:mg "isinstance" = none
 uU:mg "len" = none
 JH:mg "list" = none
 T9:mg "max" = none
 aa8:mg "min" = none
 Qn:mg "range" = none
 JK:mg "reversed" = none
 tu:mg "sorted" = none
 aa9:mg "sum" = none
 n_zip:mg "zip" = none
 agW:∃ u,mg "MOST" = some u/\RelV (.int 1152921504606846976) u
 Fi:∃ u,mg "MOST_HALVINGS" = some u/\RelV (.int 60) u
 agX:∃ u,mg "SPREAD" = some u/\RelV (.int 770093176312745717) u
 amd:fJ K (.type "int") (.type "int")=some true
 Ua:fJ K (.type "list") (.type "list")=some true
 lZ:fJ K (.type "tuple") (.type "list")=some false
 lq:fJ K (.type "NoneType") (.type "list")=some false
variable {P:aV} {w:World} {K:aW} {mg:Str->Option Value} {base:Heap} {A:Ad}
local macro_rules | `(tactic| walk_at "sc") => `(tactic| exact ⟨rfl, rfl, rfl, by decide +kernel, rfl, by decide +kernel, by decide +kernel⟩)
theorem iZ:aM ["lists","thing","weight","grown","place","bits"] ["lists","thing","weight"] (aG s'0):=by walk_at "sc"
theorem JL:aM ["things"] ["things"] (aG s'1):=by walk_at "sc"
theorem agY:aM ["things","turns"] ["things","turns"] (aG s'2):=by walk_at "sc"
theorem Ks:aM ["self","stands_for"] ["self","stands_for"] (aG s'3):=by walk_at "sc"
theorem fU:aM ["self","lists","settled","place","stands_for","things"] ["self","lists"] (aG s'4):=by walk_at "sc"
theorem Lr:aM ["one","other","known"] ["one","other"] (aG s'5):=by walk_at "sc"
theorem JM:aM ["one","other","known"] ["one","other"] (aG s'6):=by walk_at "sc"
theorem Ku:aM ["self","room"] ["self","room"] (aG s'7):=by walk_at "sc"
theorem Qo:aM ["self","thing","weight"] ["self","thing","weight"] (aG s'8):=by walk_at "sc"
theorem jc:aM ["self","thing","told","stands_for","things"] ["self","thing"] (aG s'9):=by walk_at "sc"
theorem yh:aM ["self","thing","near"] ["self","thing"] (aG s'10):=by walk_at "sc"
theorem gn:aM ["lists","k","kept","stands_for","things","thing","near","weight"] ["lists","k"] (aG s'11):=by walk_at "sc"
theorem Dy:aM ["self","k"] ["self","k"] (aG s'12):=by walk_at "sc"
theorem jE:aM ["boxes","room","done","newer","at_hand","box"] ["boxes","room"] (aG s'13):=by walk_at "sc"
theorem JN:aM ["self","room","reach"] ["self","room","reach"] (aG s'14):=by walk_at "sc"
theorem mU:aM ["self","boxes","edge","within"] ["self","boxes"] (aG s'15):=by walk_at "sc"
theorem Kv:aM ["self","weight"] ["self","weight"] (aG s'16):=by walk_at "sc"
theorem JQ:aM ["self","many"] ["self","many"] (aG s'17):=by walk_at "sc"
theorem mj:aM ["self","many","edge","low","across"] ["self","many"] (aG s'18):=by walk_at "sc"
theorem acz:aM ["thing"] ["thing"] (aG s'19):=by walk_at "sc"
theorem Bg:aM ["thing","rest","halvings"] ["thing"] (aG s'20):=by walk_at "sc"
theorem Dz:aM ["self","room"] ["self","room"] (aG s'21):=by walk_at "sc"
theorem Ub:aM ["things","level"] ["things","level"] (aG s'22):=by walk_at "sc"
theorem lG:aM ["self","things","left"] ["self","things"] (aG s'23):=by walk_at "sc"
theorem Fj:aM ["self","thing"] ["self","thing"] (aG s'24):=by walk_at "sc"
theorem Bh:aM ["self"] ["self"] (aG s'25):=by walk_at "sc"
theorem lH:aM ["self","many","others"] ["self"] (aG s'26):=by walk_at "sc"
theorem DG:aM ["self","room"] ["self","room"] (aG s'27):=by walk_at "sc"
theorem Lw:aM ["counts","room","falling"] ["counts","room"] (aG s'28):=by walk_at "sc"
theorem uG:aM ["counts","cut","left","thing","count"] ["counts","cut"] (aG s'29):=by walk_at "sc"
theorem uV:aM ["self","grown","cut"] ["self","grown"] (aG s'30):=by walk_at "sc"
theorem uW:aM ["self","thing","weight","grown"] ["self","thing","weight"] (aG s'31):=by walk_at "sc"
theorem Fl:aM ["self","thing"] ["self","thing"] (aG s'32):=by walk_at "sc"
theorem DK:aM ["self","thing"] ["self","thing"] (aG s'33):=by walk_at "sc"
theorem jk:aM ["self","part","whole","told","thing","high"] ["self","part","whole"] (aG s'34):=by walk_at "sc"
theorem nJ:aM ["sums","thing","weight","grown","share","held"] ["sums","thing","weight"] (aG s'35):=by walk_at "sc"
theorem Fo:aM ["self","span"] ["self","span"] (aG s'36):=by walk_at "sc"
theorem JR:aM ["self","thing","weight"] ["self","thing","weight"] (aG s'37):=by walk_at "sc"
theorem Fp:aM ["self","thing","weight"] ["self","thing","weight"] (aG s'38):=by walk_at "sc"
theorem wK:aM ["span","once","squares"] ["span"] (aG s'39):=by walk_at "sc"
theorem uH:aM ["number","guess","doubling","better"] ["number"] (aG s'40):=by walk_at "sc"
theorem Uc:aM ["rest"] ["rest"] (aG s'41):=by walk_at "sc"
theorem iJ:aM ["rest","bend","both","times","square","apart","low","more"] ["rest","bend"] (aG s'42):=by walk_at "sc"
theorem Bj:aM ["rest","bend"] ["rest"] (aG s'43):=by walk_at "sc"
theorem Bk:aM ["pairs","rest","span","sums","thing","more"] ["pairs","rest","span"] (aG s'44):=by walk_at "sc"
theorem qD:aM ["self","rest","pairs"] ["self"] (aG s'45):=by walk_at "sc"
theorem Ft:aM ["self","thing","weight"] ["self","thing","weight"] (aG s'46):=by walk_at "sc"
theorem DN:aM ["self","thing","weight"] ["self","thing","weight"] (aG s'47):=by walk_at "sc"
theorem DP:aM ["self","many"] ["self","many"] (aG s'48):=by walk_at "sc"
theorem DQ:aM ["self","room","reach","span"] ["self","room","reach","span"] (aG s'49):=by walk_at "sc"
theorem agZ:aM ["_law_cell","_law_factor","_law_prime"] ["_law_cell","_law_factor","_law_prime"] (aG s'50):=by walk_at "sc"
theorem mY:aM ["_law_way","_law_turn"] [] (aG s'51):=by walk_at "sc"
theorem rW:aM ["_law_cell","_law_how","_law_high"] ["_law_cell"] (aG s'52):=by walk_at "sc"
theorem JT:aM ["_law_cell"] ["_law_cell"] (aG s'53):=by walk_at "sc"
theorem rA:aM ["_law_cell","_law_kind","_law_thing","_law_weight"] ["_law_cell"] (aG s'54):=by walk_at "sc"
theorem mZ:aM ["_law_cell","_law_room","_law_reach","_law_span"] ["_law_cell"] (aG s'55):=by walk_at "sc"
theorem acA:aM ["_law_keepsake","_law_row"] ["_law_keepsake","_law_row"] (aG s'56):=by walk_at "sc"
theorem uX:aM ["self","thing","low"] ["self","thing"] (aG s'57):=by walk_at "sc"
theorem lJ:aM ["self","thing","risen","fallen"] ["self","thing"] (aG s'58):=by walk_at "sc"
theorem Bl:aM ["self","part","whole"] ["self","part","whole"] (aG s'59):=by walk_at "sc"
theorem xQ:aM ["self","k"] ["self","k"] (aG s'60):=by walk_at "sc"
theorem DR:aM ["self","many"] ["self","many"] (aG s'61):=by walk_at "sc"
theorem wL:aM ["self"] ["self"] (aG s'62):=by walk_at "sc"
theorem Fv:aM ["self"] ["self"] (aG s'63):=by walk_at "sc"
theorem Z8:aM ["_law_keepsake","_law_one","_law_other","_law_kind"] ["_law_keepsake","_law_one","_law_other","_law_kind"] (aG s'64):=by walk_at "sc"
theorem iU:aM ["_law_keepsake","_law_one","_law_other","_law_kind","_law_came","_law_went","_law_up","_law_down"] ["_law_keepsake","_law_one","_law_other","_law_kind"] (aG s'65):=by walk_at "sc"
theorem tD:aM ["_law_keepsake","_law_one","_law_other","_law_kind","_law_whole","_law_told_here","_law_refused","e"] ["_law_keepsake","_law_one","_law_other","_law_kind","_law_whole"] (aG s'66):=by walk_at "sc"
theorem DW:aM ["_law_keepsake","_law_one","_law_other","_law_kind"] ["_law_keepsake","_law_one","_law_other","_law_kind"] (aG s'67):=by walk_at "sc"
theorem pG:aM ["_law_keepsake","_law_kind","_law_cell","_law_whole","_law_part","_law_most"] ["_law_keepsake","_law_kind","_law_cell"] (aG s'68):=by walk_at "sc"
theorem jw:aM ["_law_keepsake","_law_cell","_law_turn","_law_kind","_law_one","_law_other","_law_told_here","_law_held","_law_due"] ["_law_keepsake","_law_cell"] (aG s'69):=by walk_at "sc"
theorem DX:aM ["_law_script","_law_room","_law_reach","_law_span","_law_keepsake","_law_cell"] ["_law_script"] (aG s'70):=by walk_at "sc"
noncomputable def ag0 (K:aW):Sp:=fun vs H Q _=>∃ (a:Addr) (ns:List Int),vs=[.ref a]/\SqL K H a (ns.map V.int)/\ns.length<=63/\∀ H',Q (.bl true) H'
local macro_rules | `(tactic| walk_at "rec") => `(tactic| repeat first | rw [agD] | rw [aiy] | (rw [aiz ?h]; (case h => decide +kernel)))
noncomputable def rg (aH bC cB bF bG bH cC bI:V):List (Str × V):=[("room",aH),("total",bC),("over",cB),("under",bF),("turns",bG),("least",bH),("most",cC),("rungs",bI)]
theorem aiD (aH bC cB bF bG bH cC bI:V):(rg aH bC cB bF bG bH cC bI).lookup ("room" : Str)=some aH:=by rfl
theorem qF (aH bC cB bF bG bH cC bI:V):(rg aH bC cB bF bG bH cC bI).lookup ("total" : Str)=some bC:=by rfl
theorem Qp (aH bC cB bF bG bH cC bI:V):(rg aH bC cB bF bG bH cC bI).lookup ("over" : Str)=some cB:=by rfl
theorem JV (aH bC cB bF bG bH cC bI:V):(rg aH bC cB bF bG bH cC bI).lookup ("under" : Str)=some bF:=by rfl
theorem wM (aH bC cB bF bG bH cC bI:V):(rg aH bC cB bF bG bH cC bI).lookup ("turns" : Str)=some bG:=by rfl
theorem ag1 (aH bC cB bF bG bH cC bI:V):(rg aH bC cB bF bG bH cC bI).lookup ("least" : Str)=some bH:=by rfl
theorem aiE (aH bC cB bF bG bH cC bI:V):(rg aH bC cB bF bG bH cC bI).lookup ("most" : Str)=some cC:=by rfl
theorem JW (aH bC cB bF bG bH cC bI:V):(rg aH bC cB bF bG bH cC bI).lookup ("rungs" : Str)=some bI:=by rfl
theorem alA (aH bC cB bF bG bH cC bI:V):aD "rungs" bI (aD "most" cC (aD "least" bH (aD "turns" bG (aD "under" bF (aD "over" cB (aD "total" bC (aD "room" aH [])))))))=rg aH bC cB bF bG bH cC bI:=by
 unfold rg
 walk_at "rec"
theorem Qq (aH bC cB bF bG bH cC bI y:V):aD "total" y (rg aH bC cB bF bG bH cC bI)=rg aH y cB bF bG bH cC bI:=by
 unfold rg
 walk_at "rec"
theorem Ud (aH bC cB bF bG bH cC bI y:V):aD "over" y (rg aH bC cB bF bG bH cC bI)=rg aH bC y bF bG bH cC bI:=by
 unfold rg
 walk_at "rec"
theorem Qs (aH bC cB bF bG bH cC bI y:V):aD "under" y (rg aH bC cB bF bG bH cC bI)=rg aH bC cB y bG bH cC bI:=by
 unfold rg
 walk_at "rec"
theorem Bm (aH bC cB bF bG bH cC bI y:V):aD "turns" y (rg aH bC cB bF bG bH cC bI)=rg aH bC cB bF y bH cC bI:=by
 unfold rg
 walk_at "rec"
theorem Qt (aH bC cB bF bG bH cC bI y:V):aD "least" y (rg aH bC cB bF bG bH cC bI)=rg aH bC cB bF bG y cC bI:=by
 unfold rg
 walk_at "rec"
theorem Ue (aH bC cB bF bG bH cC bI y:V):aD "most" y (rg aH bC cB bF bG bH cC bI)=rg aH bC cB bF bG bH y bI:=by
 unfold rg
 walk_at "rec"
theorem Qu (aH bC cB bF bG bH cC bI y:V):aD "rungs" y (rg aH bC cB bF bG bH cC bI)=rg aH bC cB bF bG bH cC y:=by
 unfold rg
 walk_at "rec"
theorem rgN {aH bC cB bF bG bH cC bI:V} {m:Str} (h:m∉[("room" : Str),("total" : Str),("over" : Str),("under" : Str),("turns" : Str),("least" : Str),("most" : Str),("rungs" : Str)]):(rg aH bC cB bF bG bH cC bI).lookup m=none:=by
 simp only [cA,lN,or_false,not_or] at h
 obtain ⟨qG,aiF,alB,aiG,aiH,aiI,alC,aiJ⟩:=h
 unfold rg
 rw [bW qG,bW aiF,bW alB,bW aiG,bW aiH,bW aiI,bW alC,bW aiJ]
 rfl
/-- None,or a whole number -/
noncomputable def oV:Option Int->V
 | none=>.non
 | some i=>.int i
/-- a list of lists -/
structure LL (H:Hp) (a:Addr) (bs:List Addr) (ls:RG.Ls):Prop where
 o:H a=some (.lst (bs.map V.ref))
 n:bs.length=ls.length
 e:∀ (i:Nat) (b:Addr) (l:List Int),bs[i]? = some b->ls[i]? = some l->H b=some (.lst (l.map V.int))
 x:a∉bs
section
variable {H H':Hp} {a c:Addr} {bs:List Addr} {ls:RG.Ls} {m:List Int} {i:Nat}
theorem LL.same (h:LL H a bs ls) (s:Same H H'):LL H' a bs ls:=⟨s _ _ h.o,h.n,fun i b l e1 e2=>s _ _ (h.e i b l e1 e2),h.x⟩
theorem LL.at (h:LL H a bs ls) (hi:i<ls.length):∃ b l,bs[i]? = some b/\ls[i]? = some l/\H b=some (.lst (l.map V.int)):=by
 have hb:i<bs.length:=by rw [h.n];exact hi
 exact ⟨bs[i],ls[i],jL hb,jL hi,h.e i _ _ (jL hb) (jL hi)⟩
theorem LL.ix {b:Addr} (h:bs[i]? = some b):atI (bs.map V.ref) (i:Int)=some (.ref b):=Ph (by rw [jN,h];rfl)
theorem xH {n j:Nat} (h:j<n):ixN n (j:Int)=some j:=by
 unfold ixN
 rw [if_pos tb_g%,if_pos tb_g%]
 simp
theorem LL.set (h:LL H a bs ls) (hc:H c=some (.lst (m.map V.int))) (nc:c≠a):LL (upd H a (.lst ((bs.map V.ref).set i (.ref c)))) a (bs.set i c) (ls.set i m):=by
 refine ⟨by rw [ak,List.map_set],by rw [mq,mq,h.n],fun j b l e1 e2=>?_,fun z=>?_⟩
 ·by_cases ij:i=j
  ·subst ij
   rw [List.getElem?_set] at e1 e2
   rw [if_pos rfl] at e1 e2
   split at e1
   ·split at e2
    ·obtain rfl:=cX e1
     obtain rfl:=cX e2
     rw [aB nc];exact hc
    ·cases e2
   ·cases e1
  ·rw [yj ij] at e1 e2
   have nb:b≠a:=fun z=>h.x (by rw [<- z];exact List.mem_of_getElem? e1)
   rw [aB nb]
   exact h.e j b l e1 e2
 ·rcases zV z with y | y
  ·exact h.x y
  ·exact nc y.symm
theorem LL.app (h:LL H a bs ls) (hc:H c=some (.lst (m.map V.int))) (nc:c≠a):LL (upd H a (.lst (bs.map V.ref++[.ref c]))) a (bs++[c]) (ls++[m]):=by
 refine ⟨by rw [ak,gA];rfl,by rw [eV,eV,h.n];rfl,fun j b l e1 e2=>?_,fun z=>?_⟩
 ·rcases vD j bs.length with lt | ge
  ·rw [Gi lt] at e1
   rw [Gi (by rw [<- h.n];exact lt)] at e2
   have nb:b≠a:=fun z=>h.x (by rw [<- z];exact List.mem_of_getElem? e1)
   rw [aB nb]
   exact h.e j b l e1 e2
  ·rw [zU ge] at e1
   rw [zU (by rw [<- h.n];exact ge),<- h.n] at e2
   obtain e:j-bs.length=0:=by
    have:=(jK.mp e1).1
    have:j-bs.length<1:=this
    lia
   rw [e] at e1 e2
   obtain rfl:=cX e1
   obtain rfl:=cX e2
   rw [aB nc];exact hc
 ·rcases gw.mp z with y | y
  ·exact h.x y
  ·exact nc (gZ.mp y).symm
/-- the same lists,in a new list -/
theorem LL.copy {g:Addr} (h:LL H a bs ls) (hg:H g=none):LL (upd H g (.lst (bs.map V.ref))) g bs ls:=by
 have s:Same H (upd H g (.lst (bs.map V.ref))):=Same.new hg
 refine ⟨ak,h.n,(h.same s).e,fun z=>?_⟩
 obtain ⟨i,hi,e⟩:=Ml.mp z
 obtain ⟨b,l,e1,_,e3⟩:=h.at (i:=i) (by rw [<- h.n];exact hi)
 rw [jL hi,e] at e1
 obtain rfl:=cX e1
 rw [hg] at e3;cases e3
end
noncomputable def alD (σ:St) (_:Hp):Nat:=match σ with
 | [_,_,_,_,_,some (.int n)]=>n.toNat
 | _=>0
noncomputable def aiK:Sp:=fun vs H Q _=>∃ (a:Addr) (bs:List Addr) (ls:RG.Ls) (t w:Int),vs=[.ref a,.int t,.int w]/\LL H a bs ls/\0<=w/\w<2 ^ 64/\ls.length<=800/\(∀ l∈ls,l.length<=900) /\
 ∀ (g:Addr) (bs':List Addr) (H':Hp),H g=none->LL H' g bs' (RG.iy t ls w.toNat)->Same H H'->(∀ c∈bs',c∈bs\/H c=none)->Q (.ref g) H'
theorem ok'0 (T:Tx K mg A):cg P w K mg base CX0 1 A.f'0 A.uh ["lists","thing","weight"] aiK:=by
 k_dat (T.F'0.ok,iZ) "a"
 ·obtain ⟨a,bs,ls,t,w,rfl,_⟩:=h
  rfl
 ·obtain ⟨a,bs0,ls,t,w,rfl,hL,w0,w64,hn,h9,q⟩:=h
  have w64':w.toNat<2 ^ 64:=by lia
  refine ⟨_,(ao (aL (i:=3) iZ.nd rfl (Or.inl rfl) (wW (zc rfl) (by rfl) T.JH N5 (aj (pv 0) aA)))
   (ao (aL (i:=4) iZ.nd rfl (Or.inl rfl) au)
   (ao (aL (i:=5) iZ.nd rfl (Or.inl rfl) (pv 2))
   (ao (vR mD (aK qT (pv 5) au (aQ _)) (ao (cF (aK fY (pv 4) (bU gG (by rfl) T.uU uM (aj (pv 3) aA)) (aQ _)) (aC (cY (En Ek Ei Ej iW (pv 3) (aj (cN aA) aA)))) aZ)
   (ao (cF (aK fY (aF dg (pv 5) au) au (aQ _)) (aC (yZ (bU (uf rfl) (by rfl) T.tu Ho (aj (aF Pu (bO (ixG (bB hr)) (pv 3) (pv 4) (fun _ _=>rfl)) (cN (aj (pv 1) aA))) aA)) (HY (pv 3) (pv 4) (setG (bB hr))))) aZ)
   (ao (aL (i:=4) iZ.nd rfl (Or.inl rfl) (aF bM (pv 4) au))
   (aC (aL (i:=5) iZ.nd rfl (Or.inl rfl) (aF cZ (pv 5) au)))))))
   (aC (aO (pv 3))))))),?_⟩
  refine ⟨_,rfl,.inl ⟨a,_,rfl,.inl (.inl (.inl hL.o)),fun g hg=>?_⟩⟩
  have L0:=hL.copy hg
  have s0:Same H (upd H g (.lst (bs0.map V.ref))):=Same.new hg
  generalize upd H g (.lst (bs0.map V.ref))=H1 at L0 s0 ⊢
  refine ⟨_,rfl,?_⟩
  refine vU (fun σ G=>∃ (bs:List Addr) (ms:RG.Ls) (p k:Nat),σ=[some (.ref a),some (.int t),some (.int w),some (.ref g),some (.int (p:Int)),some (.int (k:Int))]/\LL G g bs ms/\Same H G/\p<=ms.length/\ms.length<=800/\k*2 ^ p<=w.toNat/\ms.take p++RG.iy t (ms.drop p) k=RG.iy t ls w.toNat/\(∀ l∈ms.drop p,l.length<=900)/\∀ c∈bs,c∈bs0\/H c=none) alD
   ⟨bs0,ls,0,w.toNat,by rw [aev w0];rfl,L0,s0,bZ _,hn,by rw [V4];lia,rfl,h9,fun c hc=>.inl hc⟩ ?_ ?_
  ·rintro σ G ⟨bs,ms,p,k,rfl,L,sG,hp,h8,kp,eq,b9,fr⟩
   k_dat hc "j"
   ·have k0:0<k:=by have:=of_decide_eq_true hc;lia
    have p64:p<=63:=by
     rcases vD p (63+1) with z | z
     ·lia
     ·have h1:=Cr (show 0<2 by decide) z
      have h2:=yL (2 ^ p) k0
      lia
    refine ⟨_,rfl,_,rfl,qe (.inl (.inl L.o)) ⟨rfl,_,rfl,cV (fun he=>?_) (fun he=>?_)⟩⟩
    ·have he:p=ms.length:=by
      have:=V.int.inj (of_decide_eq_true he)
      rw [bK,L.n] at this
      lia
     refine ⟨_,rfl,.inl ⟨rfl,_,.inl (.inl L.o)⟩,by show 0<=sizeLine;decide,fun c hc=>?_⟩
     have s1:Same G (upd G c (.lst [])):=Same.new hc
     have f1:(upd G c (.lst [])) c=some (.lst (([]:List Int).map V.int)):=ak
     generalize upd G c (.lst [])=G1 at s1 f1 ⊢
     have nc:c≠g:=aP (aq L.o hc)
     refine ⟨g,_,_,rfl,rfl,s1 _ _ L.o,cH (by rw [bK,L.n];lia),?_⟩
     have L2:=(L.same s1).app f1 nc
     have s2:Same H (upd G1 g (.lst (bs.map V.ref++[.ref c]))):=fun b o e=>by rw [aB (aq e hg)];exact s1 _ _ (sG b o e)
     generalize upd G1 g (.lst (bs.map V.ref++[.ref c]))=GX at L2 s2 ⊢
     have lp:p<(ms++[[]]).length:=by rw [eV];show p<ms.length+1;lia
     have lp8:(ms++[[]]).length<=800:=by rw [eV];show ms.length+1<=800;lia
     have b92:∀ l∈(ms++[[]]).drop p,l.length<=900:=fun l hl=>by
      rw [he,ado] at hl
      rw [gZ.mp hl];exact bZ _
     have fr2:∀ x∈bs++[c],x∈bs0\/H x=none:=fun x hx=>by
      rcases gw.mp hx with z | z
      ·exact fr x z
      ·rw [gZ.mp z];exact .inr (sG.free hc)
     have eq2:=(RG.ZC (t:=t) he (show k≠0 by lia)).trans eq
     obtain ⟨b,l,eb,el,hb⟩:=L2.at lp
     have hl9:l.length<=900:=b92 l (by rw [RG.gj el];exact gq)
     have e9:∀ m,∀ l∈((ms++[[]]).set p m).drop (p+1),l.length<=900:=fun m l hl=>b92 l (by rw [RG.set_drop] at hl;rw [RG.gj el];exact gY _ hl)
     have st:=RG.Iv (t:=t) el (show k≠0 by lia)
     have kh:k / 2*2 ^ (p+1)<=w.toNat:=by
      rw [pN,NT (2 ^ p) 2,<- yM]
      exact fX (yL _ tb_g%) kp
     have ek:((k:Int) / 2)=((k / 2:Nat):Int):=by lia
     have ep:((p:Int)+1)=((p+1:Nat):Int):=by lia
     refine ⟨_,rfl,_,_,rfl,rfl,(by show (0:Int)<2;decide),rfl,_,rfl,cV (fun hb2=>?_) (fun hb2=>?_)⟩
     ·have o2:k % 2=1:=by have:=V.int.inj (of_decide_eq_true hb2);lia
      rw [if_pos o2] at st
      refine ⟨_,rfl,_,rfl,fZ (.inl (.inl L2.o)) (v:=.ref b) (LL.ix eb) ⟨_,rfl,by show 1<=sizeLine;decide,fun c1 hc1=>?_⟩⟩
      have y1:Same GX (upd GX c1 (.lst [.int t])):=Same.new hc1
      have z1:(upd GX c1 (.lst [.int t])) c1=some (.lst [.int t]):=ak
      generalize upd GX c1 (.lst [.int t])=J1 at y1 z1 ⊢
      refine ⟨b,c1,_,_,rfl,rfl,y1 _ _ hb,z1,pL (cH (by rw [bK];show l.length+1<=1000;lia)),fun c2 hc2=>?_⟩
      rw [show l.map V.int++[V.int t]=(l++[t]).map V.int by rw [gA];rfl]
      have y2:Same J1 (upd J1 c2 (.lst ((l++[t]).map V.int))):=Same.new hc2
      have z2:(upd J1 c2 (.lst ((l++[t]).map V.int))) c2=some (.lst ((l++[t]).map V.int)):=ak
      generalize upd J1 c2 (.lst ((l++[t]).map V.int))=J2 at y2 z2 ⊢
      refine .inr ⟨c2,l++[t],rfl,.inl (.inl z2),by rw [eV];show l.length+1<1000;lia,fun c3 ns hc3 pm so=>?_⟩
      obtain rfl:=RG.zx pm so
      have y3:Same J2 (upd J2 c3 (.lst ((RG.srt (l++[t])).map V.int))):=Same.new hc3
      have z3:(upd J2 c3 (.lst ((RG.srt (l++[t])).map V.int))) c3=some (.lst ((RG.srt (l++[t])).map V.int)):=ak
      generalize upd J2 c3 (.lst ((RG.srt (l++[t])).map V.int))=J3 at y3 z3 ⊢
      have y03:=y1.trans (y2.trans y3)
      have M3:=L2.same y03
      have nc3:c3≠g:=aP (aq ((y1.trans y2) _ _ L2.o) hc3)
      refine ⟨_,rfl,_,rfl,.inl ⟨g,_,_,p,rfl,rfl,M3.o,xH (by rw [bK,L2.n];exact lp),?_⟩⟩
      have M4:=M3.set (i:=p) z3 nc3
      have y4:Same H (upd J3 g (.lst (((bs++[c]).map V.ref).set p (.ref c3)))):=fun b o e=>by rw [aB (aq e hg)];exact y03 _ _ (s2 b o e)
      generalize upd J3 g (.lst (((bs++[c]).map V.ref).set p (.ref c3)))=J4 at M4 y4 ⊢
      refine ⟨_,rfl,_,_,rfl,rfl,_,rfl,_,_,rfl,rfl,⟨by decide,by decide⟩,?_,?_⟩
      ·exact ⟨_,_,p+1,k / 2,by rw [<- ek,<- ep];rfl,M4,y4,by rw [mq];lia,by rw [mq];lia,kh,st.trans eq2,e9 _,fun c hc=>by
        rcases zV hc with z | z
        ·exact fr2 c z
        ·rw [z];exact .inr ((s2.trans (y1.trans y2)).free hc3)⟩
      ·show ((k:Int) / 2).toNat<(k:Int).toNat
       lia
     ·have o2:¬ k % 2=1:=fun z=>hb2 (decide_eq_true (congrArg V.int tb_g%))
      rw [if_neg o2,RG.Aw el] at st
      have e9':=e9 l
      rw [RG.Aw el] at e9'
      refine ⟨_,rfl,_,_,rfl,rfl,_,rfl,_,_,rfl,rfl,⟨by decide,by decide⟩,?_,?_⟩
      ·exact ⟨(bs++[c]),(ms++[[]]),p+1,k / 2,by rw [<- ek,<- ep];rfl,L2,s2,by lia,by lia,kh,st.trans eq2,e9',fr2⟩
      ·show ((k:Int) / 2).toNat<(k:Int).toNat
       lia
    ·have he:¬ p=ms.length:=fun z=>he (decide_eq_true (congrArg V.int (by rw [bK,L.n];lia)))
     have lp:p<ms.length:=by lia
     obtain ⟨b,l,eb,el,hb⟩:=L.at lp
     have hl9:l.length<=900:=b9 l (by rw [RG.gj el];exact gq)
     have e9:∀ m,∀ l∈(ms.set p m).drop (p+1),l.length<=900:=fun m l hl=>b9 l (by rw [RG.set_drop] at hl;rw [RG.gj el];exact gY _ hl)
     have st:=RG.Iv (t:=t) el (show k≠0 by lia)
     have kh:k / 2*2 ^ (p+1)<=w.toNat:=by
      rw [pN,NT (2 ^ p) 2,<- yM]
      exact fX (yL _ tb_g%) kp
     have ek:((k:Int) / 2)=((k / 2:Nat):Int):=by lia
     have ep:((p:Int)+1)=((p+1:Nat):Int):=by lia
     refine ⟨_,rfl,_,_,rfl,rfl,(by show (0:Int)<2;decide),rfl,_,rfl,cV (fun hb2=>?_) (fun hb2=>?_)⟩
     ·have o2:k % 2=1:=by have:=V.int.inj (of_decide_eq_true hb2);lia
      rw [if_pos o2] at st
      refine ⟨_,rfl,_,rfl,fZ (.inl (.inl L.o)) (v:=.ref b) (LL.ix eb) ⟨_,rfl,by show 1<=sizeLine;decide,fun c1 hc1=>?_⟩⟩
      have y1:Same G (upd G c1 (.lst [.int t])):=Same.new hc1
      have z1:(upd G c1 (.lst [.int t])) c1=some (.lst [.int t]):=ak
      generalize upd G c1 (.lst [.int t])=J1 at y1 z1 ⊢
      refine ⟨b,c1,_,_,rfl,rfl,y1 _ _ hb,z1,pL (cH (by rw [bK];show l.length+1<=1000;lia)),fun c2 hc2=>?_⟩
      rw [show l.map V.int++[V.int t]=(l++[t]).map V.int by rw [gA];rfl]
      have y2:Same J1 (upd J1 c2 (.lst ((l++[t]).map V.int))):=Same.new hc2
      have z2:(upd J1 c2 (.lst ((l++[t]).map V.int))) c2=some (.lst ((l++[t]).map V.int)):=ak
      generalize upd J1 c2 (.lst ((l++[t]).map V.int))=J2 at y2 z2 ⊢
      refine .inr ⟨c2,l++[t],rfl,.inl (.inl z2),by rw [eV];show l.length+1<1000;lia,fun c3 ns hc3 pm so=>?_⟩
      obtain rfl:=RG.zx pm so
      have y3:Same J2 (upd J2 c3 (.lst ((RG.srt (l++[t])).map V.int))):=Same.new hc3
      have z3:(upd J2 c3 (.lst ((RG.srt (l++[t])).map V.int))) c3=some (.lst ((RG.srt (l++[t])).map V.int)):=ak
      generalize upd J2 c3 (.lst ((RG.srt (l++[t])).map V.int))=J3 at y3 z3 ⊢
      have y03:=y1.trans (y2.trans y3)
      have M3:=L.same y03
      have nc3:c3≠g:=aP (aq ((y1.trans y2) _ _ L.o) hc3)
      refine ⟨_,rfl,_,rfl,.inl ⟨g,_,_,p,rfl,rfl,M3.o,xH (by rw [bK,L.n];exact lp),?_⟩⟩
      have M4:=M3.set (i:=p) z3 nc3
      have y4:Same H (upd J3 g (.lst ((bs.map V.ref).set p (.ref c3)))):=fun b o e=>by rw [aB (aq e hg)];exact y03 _ _ (sG b o e)
      generalize upd J3 g (.lst ((bs.map V.ref).set p (.ref c3)))=J4 at M4 y4 ⊢
      refine ⟨_,rfl,_,_,rfl,rfl,_,rfl,_,_,rfl,rfl,⟨by decide,by decide⟩,?_,?_⟩
      ·exact ⟨_,_,p+1,k / 2,by rw [<- ek,<- ep];rfl,M4,y4,by rw [mq];lia,by rw [mq];lia,kh,st.trans eq,e9 _,fun c hc=>by
        rcases zV hc with z | z
        ·exact fr c z
        ·rw [z];exact .inr ((sG.trans (y1.trans y2)).free hc3)⟩
      ·show ((k:Int) / 2).toNat<(k:Int).toNat
       lia
     ·have o2:¬ k % 2=1:=fun z=>hb2 (decide_eq_true (congrArg V.int tb_g%))
      rw [if_neg o2,RG.Aw el] at st
      have e9':=e9 l
      rw [RG.Aw el] at e9'
      refine ⟨_,rfl,_,_,rfl,rfl,_,rfl,_,_,rfl,rfl,⟨by decide,by decide⟩,?_,?_⟩
      ·exact ⟨bs,ms,p+1,k / 2,by rw [<- ek,<- ep];rfl,L,sG,by lia,by lia,kh,st.trans eq,e9',fr⟩
      ·show ((k:Int) / 2).toNat<(k:Int).toNat
       lia
   ·have k0:k=0:=by have:¬ (0:Int)<k:=fun z=>hc (decide_eq_true z);lia
    subst k0
    rw [RG.iI,Mi] at eq
    rw [eq] at L
    exact ⟨_,rfl,q g bs G hg L sG fr⟩
  ·exact fun σ H Q Q' hq h=>gR (pC (cL 5) (ug _)) σ H Q Q' hq h
noncomputable def alE:Sp:=fun vs H Q _=>∃ (b:Addr) (l:List Int),vs=[.ref b]/\H b=some (.lst (l.map V.int))/\∀ (c:Addr) (H':Hp),H c=none->H' c=some (.lst ((RG.lft l).map V.int))->Same H H'->Q (.ref c) H'
theorem ok'1 (T:Tx K mg A):cg P w K mg base CX0 1 A.f'1 A.rK ["things"] alE:=by
 k_dat (T.F'1.ok,JL) "a"
 ·obtain ⟨b,l,rfl,_⟩:=h
  rfl
 ·obtain ⟨b,l,rfl,hb,q⟩:=h
  have h2:(l.length:Int)-(l.length:Int) % 2=((l.length-l.length % 2:Nat):Int):=by lia
  refine ⟨_,(aC (aO (vV Ac (pv 0) (qW (aF dY (bU gG (by rfl) T.uU uM (aj (pv 0) aA)) (aF dg (bU gG (by rfl) T.uU uM (aj (pv 0) aA)) au))) Ab))),?_⟩
  refine ⟨_,rfl,_,rfl,qe (.inl (.inl hb)) ⟨_,rfl,qe (.inl (.inl hb)) ⟨_,_,rfl,rfl,(by show (0:Int)<2;decide),_,_,rfl,rfl,_,rfl,b,_,rfl,.inl (.inl hb),fun c hc=>?_⟩⟩⟩
  rw [bK,h2]
  have e:Ie (l.map V.int) (some ((l.length-l.length % 2:Nat):Int)) none=(RG.lft l).map V.int:=by
   rw [RG.Tf,Mu]
   unfold Ie HT.sIx
   simp only [bK]
   rw [if_neg tb_g%]
   rw [Bv]
   ·congr 1
    simp
   ·rw [BK,bK]
    simp
  rw [e]
  exact q c _ hc ak (Same.new hc)
noncomputable def aiL:Sp:=fun vs H Q _=>∃ (b:Addr) (l:List Int) (tn:Int),vs=[.ref b,.int tn]/\H b=some (.lst (l.map V.int))/\∀ (c:Addr) (H':Hp),H c=none->H' c=some (.lst ((RG.pick (decide (tn % 2=1)) l).map V.int))->Same H H'->Q (.ref c) H'
theorem ok'2 (T:Tx K mg A):cg P w K mg base CX0 1 A.f'2 A.Qf ["things","turns"] aiL:=by
 k_dat (T.F'2.ok,agY) "a"
 ·obtain ⟨b,l,tn,rfl,_⟩:=h
  rfl
 ·obtain ⟨b,l,tn,rfl,hb,q⟩:=h
  refine ⟨_,(aC (aO (ab8 (pv 0) (qW (aF dg (pv 1) au)) (qW (aF dY (bU gG (by rfl) T.uU uM (aj (pv 0) aA)) (aF dg (bU gG (by rfl) T.uU uM (aj (pv 0) aA)) au))) (qW au)))),?_⟩
  refine ⟨_,rfl,_,rfl,_,_,rfl,rfl,(by show (0:Int)<2;decide),_,rfl,?_⟩
  refine ⟨_,rfl,qe (.inl (.inl hb)) ⟨_,rfl,qe (.inl (.inl hb)) ⟨_,_,rfl,rfl,(by show (0:Int)<2;decide),_,_,rfl,rfl,_,rfl,?_⟩⟩⟩
  refine ⟨_,rfl,rfl,b,_,rfl,.inl (.inl hb),fun c hc=>?_⟩
  rw [bK,ab9 tb_g%]
  exact q c _ hc ak (Same.new hc)
noncomputable def alF (A:Ad):Sp:=fun vs H Q _=>∃ (p dx:Addr) (r T ov un tn st:Int) (mi ma rf:V),vs=[.ref p,.int st]/\H p=some (.ins A.dU dx (rg (.int r) (.int T) (.int ov) (.int un) (.int tn) mi ma rf)) /\
 Q .non (upd H p (.ins A.dU dx (rg (.int r) (.int T) (.int (if tn % 2=0 then ov+st else ov)) (.int (if tn % 2=0 then un else un+st)) (.int (tn+1)) mi ma rf)))
theorem ok'3 (T:Tx K mg A):cg P w K mg base CX0 1 A.f'3 A.um ["self","stands_for"] (alF A):=by
 k_dat (T.F'3.ok,Ks) "a"
 ·obtain ⟨p,dx,r,T,ov,un,tn,st,mi,ma,rf,rfl,_⟩:=h
  rfl
 ·obtain ⟨p,dx,r,T',ov,un,tn,st,mi,ma,rf,rfl,hp,q⟩:=h
  refine ⟨_,(ao (cF (aK fY (aF dg (aJ (pv 0) rfl) au) au (aQ _)) (aC (bN (pv 0) (aF bM (aJ (pv 0) rfl) (pv 1)) rfl)) (aC (bN (pv 0) (aF bM (aJ (pv 0) rfl) (pv 1)) rfl)))
   (aC (bN (pv 0) (aF bM (aJ (pv 0) rfl) au) rfl))),?_⟩
  refine ⟨_,rfl,rdF hp T.cO T.xZ (wM ..) ⟨_,_,rfl,rfl,(by show (0:Int)<2;decide),rfl,_,rfl,cV (fun h=>?_) (fun h=>?_)⟩⟩
  ·have h0:tn % 2=0:=V.int.inj (of_decide_eq_true h)
   rw [if_pos h0,if_pos h0] at q
   refine ⟨_,rfl,rdF hp T.cO T.Jo (Qp ..) ⟨_,rfl,_,_,rfl,rfl,_,rfl,p,_,dx,_,rfl,hp,T.cO,T.Jo,(by show 8<1000;decide),?_⟩⟩
   rw [Ud]
   refine ⟨_,rfl,rdF ak T.cO T.xZ (wM ..) ⟨_,_,rfl,rfl,_,rfl,p,_,dx,_,rfl,ak,T.cO,T.xZ,(by show 8<1000;decide),?_⟩⟩
   rw [Bm,dw]
   exact q
  ·have h0:¬ tn % 2=0:=fun z=>h (decide_eq_true (congrArg V.int z))
   rw [if_neg h0,if_neg h0] at q
   refine ⟨_,rfl,rdF hp T.cO T.Jp (JV ..) ⟨_,rfl,_,_,rfl,rfl,_,rfl,p,_,dx,_,rfl,hp,T.cO,T.Jp,(by show 8<1000;decide),?_⟩⟩
   rw [Qs]
   refine ⟨_,rfl,rdF ak T.cO T.xZ (wM ..) ⟨_,_,rfl,rfl,_,rfl,p,_,dx,_,rfl,ak,T.cO,T.xZ,(by show 8<1000;decide),?_⟩⟩
   rw [Bm,dw]
   exact q
theorem LL.but {H H':Hp} {a p C e:Addr} {bs:List Addr} {ls:RG.Ls} {fs:List (Str × V)} (h:LL H a bs ls) (b:But p H H') (hp:H p=some (.ins C e fs)):LL H' a bs ls :=
 ⟨b _ _ h.o (jP h.o hp (by intro z;cases z)),h.n,fun i c l e1 e2=>b _ _ (h.e i c l e1 e2) (jP (h.e i c l e1 e2) hp (by intro z;cases z)),h.x⟩
noncomputable def placeOf (σ:St) (_:Hp):Nat:=match σ with
 | [_,_,_,some (.int n),_,_]=>(1000-n).toNat
 | _=>0
noncomputable def ag2 (A:Ad):Sp:=fun vs H Q _=>∃ (p dx a:Addr) (bs:List Addr) (ls:RG.Ls) (r tt ov un tn:Int) (mi ma:Option Int) (rf:V),vs=[.ref p,.ref a]/\H p=some (.ins A.dU dx (rg (.int r) (.int tt) (.int ov) (.int un) (.int tn) (oV mi) (oV ma) rf))/\LL H a bs ls/\2<=r/\r<=64/\(∀ l∈ls,l.length<=200)/\ls.length<=400/\RG.val ls<2 ^ 500 /\
 ∀ (g:Addr) (bs':List Addr) (out:RG.Ls) (tn' ov' un':Int) (H':Hp),RG.Stl r 0 tn ov un ls out tn' ov' un'->H g=none->LL H' g bs' out->H' p=some (.ins A.dU dx (rg (.int r) (.int tt) (.int ov') (.int un') (.int tn') (oV mi) (oV ma) (.ref g)))->But p H H'->out.length<=501->(∀ c∈bs',c∈bs\/H c=none)->Q .non H'
theorem ok'4 (T:Tx K mg A):cg P w K mg base CX0 2 A.f'4 A.qj ["self","lists"] (ag2 A):=by
 k_dat (T.F'4.ok,fU) "a"
 ·obtain ⟨p,dx,a,bs,ls,r,tt,ov,un,tn,mi,ma,rf,rfl,_⟩:=h
  rfl
 ·obtain ⟨p,dx,a,bs0,ls,r,tt,ov,un,tn,mi,ma,rf,rfl,hp,hL,r2,r64,h2,h4,h5,q⟩:=h
  refine ⟨_,(ao (aL (i:=2) fU.nd rfl (Or.inl rfl) (wW (zc rfl) (by rfl) T.JH N5 (aj (pv 1) aA)))
   (ao (aL (i:=3) fU.nd rfl (Or.inl rfl) au)
   (ao (aL (i:=4) fU.nd rfl (Or.inl rfl) au)
   (ao (vR mD (aK pZ (pv 3) (bU gG (by rfl) T.uU uM (aj (pv 2) aA)) (aQ _)) (ao (aL (i:=5) fU.nd rfl (Or.inl rfl) (bO (ixG (bB hr)) (pv 2) (pv 3) (fun _ _=>rfl)))
   (ao (cF (aK qT (bU gG (by rfl) T.uU uM (aj (pv 5) aA)) (aJ (pv 0) rfl) (aQ _)) (ao (cF (aK fY (aF bM (pv 3) au) (bU gG (by rfl) T.uU uM (aj (pv 2) aA)) (aQ _)) (aC (cY (En Ek Ei Ej iW (pv 2) (aj (cN aA) aA)))) aZ)
   (ao (yZ (bQ (ok'1 T) tb_g% rfl T.Ko T.F'1.kp T.b'1 .nil aX (aj (pv 5) aA)) (HY (pv 2) (pv 3) (setG (bB hr))))
   (ao (yZ (bU (uf rfl) (by rfl) T.tu Ho (aj (aF Pu (bO (ixG (bB hr)) (pv 2) (aF bM (pv 3) au) (fun _ _=>rfl)) (bQ (ok'2 T) tb_g% rfl T.aiB T.F'2.kp T.b'2 .nil aX (aj (pv 5) (aj (aJ (pv 0) rfl) aA)))) aA)) (HY (pv 2) (aF bM (pv 3) au) (setG (bB hr))))
   (aC (cY (bA (pv 0) T.cO T.Qi (ok'3 T) tb_g% T.b'3 .nil aX (aj (pv 4) aA))))))) aZ)
   (ao (aL (i:=3) fU.nd rfl (Or.inl rfl) (aF bM (pv 3) au))
   (aC (aL (i:=4) fU.nd rfl (Or.inl rfl) (aF fQ (pv 4) au)))))))
   (aC (bN (pv 0) (pv 2) rfl)))))),?_⟩
  refine ⟨_,rfl,.inl ⟨a,_,rfl,.inl (.inl (.inl hL.o)),fun g hg=>?_⟩⟩
  have L0:=hL.copy hg
  have s0:Same H (upd H g (.lst (bs0.map V.ref))):=Same.new hg
  generalize upd H g (.lst (bs0.map V.ref))=H1 at L0 s0 ⊢
  refine vU (fun σ G=>∃ (bs:List Addr) (ms:RG.Ls) (j:Nat) (tn2 ov2 un2:Int) (x:Option V),σ=[some (.ref p),some (.ref a),some (.ref g),some (.int (j:Int)),some (.int (2 ^ j)),x]/\LL G g bs ms/\G p=some (.ins A.dU dx (rg (.int r) (.int tt) (.int ov2) (.int un2) (.int tn2) (oV mi) (oV ma) rf))/\But p H G/\RG.Run r tn ov un ls j tn2 ov2 un2 ms/\ms.length<=501/\∀ c∈bs,c∈bs0\/H c=none) placeOf
   ⟨bs0,ls,0,tn,ov,un,none,rfl,L0,s0 _ _ hp,s0.but p,RG.Run.start h2,by lia,fun c hc=>.inl hc⟩ ?_ ?_
  ·rintro σ G ⟨bs,ms,j,tn2,ov2,un2,x,rfl,L,gp,bt,R,ln,fr⟩
   have jl:=R.le
   have ep:((j:Int)+1)=((j+1:Nat):Int):=by lia
   refine ⟨_,rfl,_,rfl,qe (.inl (.inl L.o)) ⟨_,_,rfl,rfl,_,rfl,cV (fun hc=>?_) (fun hc=>?_)⟩⟩
   ·have hj:j<ms.length:=by
     have:=of_decide_eq_true hc
     rw [bK,L.n] at this
     lia
    obtain ⟨b,l,eb,el,hb⟩:=L.at hj
    have ll4:=R.b1 l (List.mem_of_getElem? el)
    have nbg:b≠g:=fun z=>L.x (by rw [<- z];exact List.mem_of_getElem? eb)
    refine ⟨_,rfl,_,rfl,fZ (.inl (.inl L.o)) (v:=.ref b) (LL.ix eb) ?_⟩
    refine ⟨_,rfl,qe (.inl (.inl hb)) ⟨_,rfl,rdF gp T.cO T.aa6 (aiD ..) ⟨_,_,rfl,rfl,_,rfl,cV (fun hg2=>?_) (fun hg2=>?_)⟩⟩⟩
    ·have hgt:r<(l.length:Int):=by have:=of_decide_eq_true hg2;rw [bK] at this;exact this
     have hl2:2<=l.length:=by lia
     have hbig:=R.big el (fun z=>by rw [z] at hl2;exact absurd hl2 (by decide))
     have j5:j<500:=by
      rcases vD j 500 with z | z
      ·exact z
      ·have:=Cr (show 0<2 by decide) z
       lia
     refine ⟨_,rfl,_,_,rfl,rfl,_,rfl,qe (.inl (.inl L.o)) ⟨rfl,_,rfl,cV (fun he=>?_) (fun he=>?_)⟩⟩
     ·have he:j+1=ms.length:=by
       have:=V.int.inj (of_decide_eq_true he)
       rw [bK,L.n] at this
       lia
      refine ⟨_,rfl,.inl ⟨rfl,_,.inl (.inl L.o)⟩,by show 0<=sizeLine;decide,fun c hc0=>?_⟩
      have s1:Same G (upd G c (.lst [])):=Same.new hc0
      have f1:(upd G c (.lst [])) c=some (.lst (([]:List Int).map V.int)):=ak
      generalize upd G c (.lst [])=G1 at s1 f1 ⊢
      have nc:c≠g:=aP (aq L.o hc0)
      refine ⟨g,_,_,rfl,rfl,s1 _ _ L.o,cH (by rw [bK,L.n];lia),?_⟩
      have LX:=(L.same s1).app f1 nc
      have gx:∀ x o,G x=some o->x≠g->(upd G1 g (.lst (bs.map V.ref++[.ref c]))) x=some o:=fun x o e n=>by rw [aB n];exact s1 _ _ e
      have pX:=gx _ _ gp (jP gp L.o (by intro z;cases z))
      have bX:=gx _ _ hb nbg
      have btX:But p H (upd G1 g (.lst (bs.map V.ref++[.ref c]))):=fun b o e n=>gx _ _ (bt b o e n) (aq e hg)
      generalize upd G1 g (.lst (bs.map V.ref++[.ref c]))=GX at LX pX bX btX ⊢
      obtain ⟨nx,MR⟩:∃ nx:List Int,RG.More j ms (ms++[[]]) nx:=⟨[],.inr ⟨he,rfl,rfl⟩⟩
      have hb:=bX
      have SG:Same GX GX:=Same.refl _
      have fr2:∀ x∈bs++[c],x∈bs0\/H x=none:=fun x hx=>by
       rcases gw.mp hx with z | z
       ·exact fr x z
       ·rw [gZ.mp z];exact .inr (dh bt hc0 fun y=>by rw [y,gp] at hc0;cases hc0)
      have LN:(ms++[[]]).length<=501:=by rw [eV];show ms.length+1<=501;lia
      obtain ⟨h1,h2,_,_,_⟩:=MR.at el
      obtain ⟨hp1,_⟩:=jK.mp h1
      obtain ⟨hp2,_⟩:=jK.mp h2
      have hb':GX b=some (.lst (l.map V.int)):=SG _ _ hb
      refine ⟨_,rfl,b,l,rfl,hb',fun c1 G1 nc1 f1 s1=>?_⟩
      have L1:=LX.same s1
      have n1:c1≠g:=aP (aq LX.o nc1)
      refine ⟨_,rfl,_,rfl,.inl ⟨g,_,_,j,rfl,rfl,L1.o,xH (by rw [bK,LX.n];exact hp1),?_⟩⟩
      have L2:=L1.set (i:=j) f1 n1
      have pg:p≠g:=jP (s1 _ _ pX) L1.o (by intro z;cases z)
      have u2:∀ x o,G1 x=some o->x≠g->(upd G1 g (.lst (((bs++[c]).map V.ref).set j (.ref c1)))) x=some o:=fun x o e n=>by rw [aB n];exact e
      have po2:=u2 _ _ (s1 _ _ pX) pg
      have hb2:=u2 _ _ (s1 _ _ hb') nbg
      have s02:But p H (upd G1 g (.lst (((bs++[c]).map V.ref).set j (.ref c1)))):=fun x o e n=>u2 _ _ (s1 _ _ (btX x o e n)) (aq e hg)
      generalize upd G1 g (.lst (((bs++[c]).map V.ref).set j (.ref c1)))=G2 at L2 po2 hb2 s02 ⊢
      have e2:((ms++[[]]).set j (RG.lft l))[j+1]? = some nx:=by rw [yj tb_g%];exact h2
      obtain ⟨b3,l3,eb3,el3,hb3⟩:=L2.at (i:=j+1) (by rw [mq];exact hp2)
      obtain rfl:l3=nx:=by rw [e2] at el3;exact (cX el3).symm
      have nx2:l3.length<=200:=by
       rcases MR with ⟨_,e⟩ | ⟨_,_,e⟩
       ·exact R.b2 l3 (by rw [RG.gj e];exact gq)
       ·rw [e];exact bZ _
      refine ⟨_,rfl,_,rfl,_,_,rfl,rfl,fZ (.inl (.inl L2.o)) (v:=.ref b3) (by rw [ep];exact LL.ix eb3) ?_⟩
      refine ⟨_,rfl,_,rfl,rdF po2 T.cO T.xZ (wM ..) ⟨b,l,tn2,rfl,hb2,fun c4 G4 nc4 f4 s4=>?_⟩⟩
      have lp:=RG.nG (decide (tn2 % 2=1)) l
      refine ⟨b3,c4,_,_,rfl,rfl,s4 _ _ hb3,f4,pL (cH (by rw [bK,bK];lia)),fun c5 nc5=>?_⟩
      rw [<- gA]
      have s5:Same G4 (upd G4 c5 (.lst ((l3++RG.pick (decide (tn2 % 2=1)) l).map V.int))):=Same.new nc5
      have f5:(upd G4 c5 (.lst ((l3++RG.pick (decide (tn2 % 2=1)) l).map V.int))) c5=some (.lst ((l3++RG.pick (decide (tn2 % 2=1)) l).map V.int)):=ak
      generalize upd G4 c5 (.lst ((l3++RG.pick (decide (tn2 % 2=1)) l).map V.int))=G5 at s5 f5 ⊢
      refine .inr ⟨c5,_,rfl,.inl (.inl f5),by rw [eV];lia,fun c6 ns nc6 pm so=>?_⟩
      obtain rfl:=RG.zx pm so
      have s6:Same G5 (upd G5 c6 (.lst ((RG.srt (l3++RG.pick (decide (tn2 % 2=1)) l)).map V.int))):=Same.new nc6
      have f6:(upd G5 c6 (.lst ((RG.srt (l3++RG.pick (decide (tn2 % 2=1)) l)).map V.int))) c6=some (.lst ((RG.srt (l3++RG.pick (decide (tn2 % 2=1)) l)).map V.int)):=ak
      generalize upd G5 c6 (.lst ((RG.srt (l3++RG.pick (decide (tn2 % 2=1)) l)).map V.int))=G6 at s6 f6 ⊢
      have s26:=s4.trans (s5.trans s6)
      have L6:=L2.same s26
      have n6:c6≠g:=aP (aq ((s4.trans s5) _ _ L2.o) nc6)
      refine ⟨_,rfl,_,rfl,_,_,rfl,rfl,.inl ⟨g,_,_,j+1,rfl,rfl,L6.o,by rw [ep];exact xH (by rw [bK,mq,LX.n];exact hp2),?_⟩⟩
      have L7:=L6.set (i:=j+1) f6 n6
      have po7:(upd G6 g (.lst ((((bs++[c]).set j c1).map V.ref).set (j+1) (.ref c6)))) p=_:=(aB pg).trans (s26 _ _ po2)
      have s07:But p H (upd G6 g (.lst ((((bs++[c]).set j c1).map V.ref).set (j+1) (.ref c6)))):=fun x o e n=>by rw [aB (aq e hg)];exact s26 _ _ (s02 x o e n)
      generalize upd G6 g (.lst ((((bs++[c]).set j c1).map V.ref).set (j+1) (.ref c6)))=G7 at L7 po7 s07 ⊢
      refine ⟨_,rfl,p,dx,_,rfl,po7,rgN tb_g%,_,rfl,p,dx,r,tt,ov2,un2,tn2,2 ^ j,oV mi,oV ma,rf,rfl,po7,?_⟩
      have R8:=R.turn MR el hgt
      have L8:LL (upd G7 p (.ins A.dU dx (rg (.int r) (.int tt) (.int (if tn2 % 2=0 then ov2+2 ^ j else ov2)) (.int (if tn2 % 2=0 then un2 else un2+2 ^ j)) (.int (tn2+1)) (oV mi) (oV ma) rf))) g _ _:=L7.but (But.upd) po7
      have po8:(upd G7 p (.ins A.dU dx (rg (.int r) (.int tt) (.int (if tn2 % 2=0 then ov2+2 ^ j else ov2)) (.int (if tn2 % 2=0 then un2 else un2+2 ^ j)) (.int (tn2+1)) (oV mi) (oV ma) rf))) p=_:=ak
      have s08:But p H (upd G7 p (.ins A.dU dx (rg (.int r) (.int tt) (.int (if tn2 % 2=0 then ov2+2 ^ j else ov2)) (.int (if tn2 % 2=0 then un2 else un2+2 ^ j)) (.int (tn2+1)) (oV mi) (oV ma) rf))):=s07.trans But.upd
      generalize upd G7 p (.ins A.dU dx (rg (.int r) (.int tt) (.int (if tn2 % 2=0 then ov2+2 ^ j else ov2)) (.int (if tn2 % 2=0 then un2 else un2+2 ^ j)) (.int (tn2+1)) (oV mi) (oV ma) rf))=G8 at L8 po8 s08 ⊢
      refine ⟨_,rfl,_,_,rfl,rfl,_,rfl,_,_,rfl,rfl,fO (by decide) (by decide),?_,?_⟩
      ·exact ⟨_,_,j+1,_,_,_,_,by rw [<- ep,nU];rfl,L8,po8,s08,R8,by rw [mq,mq];exact LN,fun c hc=>by
        rcases zV hc with z | z
        ·rcases zV z with z | z
         ·exact fr2 c z
         ·rw [z];exact .inr (dh btX nc1 fun y=>by rw [y,pX] at nc1;cases nc1)
        ·rw [z];exact .inr (dh (s02.trans ((s4.trans s5).but p)) nc6 fun y=>by rw [y,(s4.trans s5) _ _ po2] at nc6;cases nc6)⟩
      ·show (1000-((j:Int)+1)).toNat<(1000-(j:Int)).toNat
       lia
     ·have he:¬ j+1=ms.length:=fun z=>he (decide_eq_true (congrArg V.int (by rw [bK,L.n];lia)))
      obtain ⟨b',nx,eb',el',_⟩:=L.at (i:=j+1) tb_g%
      have MR:RG.More j ms ms nx:=.inl ⟨rfl,el'⟩
      have SG:Same G G:=Same.refl _
      have LN:=ln
      obtain ⟨h1,h2,_,_,_⟩:=MR.at el
      obtain ⟨hp1,_⟩:=jK.mp h1
      obtain ⟨hp2,_⟩:=jK.mp h2
      have hb':G b=some (.lst (l.map V.int)):=SG _ _ hb
      refine ⟨_,rfl,b,l,rfl,hb',fun c1 G1 nc1 f1 s1=>?_⟩
      have L1:=L.same s1
      have n1:c1≠g:=aP (aq L.o nc1)
      refine ⟨_,rfl,_,rfl,.inl ⟨g,_,_,j,rfl,rfl,L1.o,xH (by rw [bK,L.n];exact hp1),?_⟩⟩
      have L2:=L1.set (i:=j) f1 n1
      have pg:p≠g:=jP (s1 _ _ gp) L1.o (by intro z;cases z)
      have u2:∀ x o,G1 x=some o->x≠g->(upd G1 g (.lst ((bs.map V.ref).set j (.ref c1)))) x=some o:=fun x o e n=>by rw [aB n];exact e
      have po2:=u2 _ _ (s1 _ _ gp) pg
      have hb2:=u2 _ _ (s1 _ _ hb') nbg
      have s02:But p H (upd G1 g (.lst ((bs.map V.ref).set j (.ref c1)))):=fun x o e n=>u2 _ _ (s1 _ _ (bt x o e n)) (aq e hg)
      generalize upd G1 g (.lst ((bs.map V.ref).set j (.ref c1)))=G2 at L2 po2 hb2 s02 ⊢
      have e2:(ms.set j (RG.lft l))[j+1]? = some nx:=by rw [yj tb_g%];exact h2
      obtain ⟨b3,l3,eb3,el3,hb3⟩:=L2.at (i:=j+1) (by rw [mq];exact hp2)
      obtain rfl:l3=nx:=by rw [e2] at el3;exact (cX el3).symm
      have nx2:l3.length<=200:=by
       rcases MR with ⟨_,e⟩ | ⟨_,_,e⟩
       ·exact R.b2 l3 (by rw [RG.gj e];exact gq)
       ·rw [e];exact bZ _
      refine ⟨_,rfl,_,rfl,_,_,rfl,rfl,fZ (.inl (.inl L2.o)) (v:=.ref b3) (by rw [ep];exact LL.ix eb3) ?_⟩
      refine ⟨_,rfl,_,rfl,rdF po2 T.cO T.xZ (wM ..) ⟨b,l,tn2,rfl,hb2,fun c4 G4 nc4 f4 s4=>?_⟩⟩
      have lp:=RG.nG (decide (tn2 % 2=1)) l
      refine ⟨b3,c4,_,_,rfl,rfl,s4 _ _ hb3,f4,pL (cH (by rw [bK,bK];lia)),fun c5 nc5=>?_⟩
      rw [<- gA]
      have s5:Same G4 (upd G4 c5 (.lst ((l3++RG.pick (decide (tn2 % 2=1)) l).map V.int))):=Same.new nc5
      have f5:(upd G4 c5 (.lst ((l3++RG.pick (decide (tn2 % 2=1)) l).map V.int))) c5=some (.lst ((l3++RG.pick (decide (tn2 % 2=1)) l).map V.int)):=ak
      generalize upd G4 c5 (.lst ((l3++RG.pick (decide (tn2 % 2=1)) l).map V.int))=G5 at s5 f5 ⊢
      refine .inr ⟨c5,_,rfl,.inl (.inl f5),by rw [eV];lia,fun c6 ns nc6 pm so=>?_⟩
      obtain rfl:=RG.zx pm so
      have s6:Same G5 (upd G5 c6 (.lst ((RG.srt (l3++RG.pick (decide (tn2 % 2=1)) l)).map V.int))):=Same.new nc6
      have f6:(upd G5 c6 (.lst ((RG.srt (l3++RG.pick (decide (tn2 % 2=1)) l)).map V.int))) c6=some (.lst ((RG.srt (l3++RG.pick (decide (tn2 % 2=1)) l)).map V.int)):=ak
      generalize upd G5 c6 (.lst ((RG.srt (l3++RG.pick (decide (tn2 % 2=1)) l)).map V.int))=G6 at s6 f6 ⊢
      have s26:=s4.trans (s5.trans s6)
      have L6:=L2.same s26
      have n6:c6≠g:=aP (aq ((s4.trans s5) _ _ L2.o) nc6)
      refine ⟨_,rfl,_,rfl,_,_,rfl,rfl,.inl ⟨g,_,_,j+1,rfl,rfl,L6.o,by rw [ep];exact xH (by rw [bK,mq,L.n];exact hp2),?_⟩⟩
      have L7:=L6.set (i:=j+1) f6 n6
      have po7:(upd G6 g (.lst (((bs.set j c1).map V.ref).set (j+1) (.ref c6)))) p=_:=(aB pg).trans (s26 _ _ po2)
      have s07:But p H (upd G6 g (.lst (((bs.set j c1).map V.ref).set (j+1) (.ref c6)))):=fun x o e n=>by rw [aB (aq e hg)];exact s26 _ _ (s02 x o e n)
      generalize upd G6 g (.lst (((bs.set j c1).map V.ref).set (j+1) (.ref c6)))=G7 at L7 po7 s07 ⊢
      refine ⟨_,rfl,p,dx,_,rfl,po7,rgN tb_g%,_,rfl,p,dx,r,tt,ov2,un2,tn2,2 ^ j,oV mi,oV ma,rf,rfl,po7,?_⟩
      have R8:=R.turn MR el hgt
      have L8:LL (upd G7 p (.ins A.dU dx (rg (.int r) (.int tt) (.int (if tn2 % 2=0 then ov2+2 ^ j else ov2)) (.int (if tn2 % 2=0 then un2 else un2+2 ^ j)) (.int (tn2+1)) (oV mi) (oV ma) rf))) g _ _:=L7.but (But.upd) po7
      have po8:(upd G7 p (.ins A.dU dx (rg (.int r) (.int tt) (.int (if tn2 % 2=0 then ov2+2 ^ j else ov2)) (.int (if tn2 % 2=0 then un2 else un2+2 ^ j)) (.int (tn2+1)) (oV mi) (oV ma) rf))) p=_:=ak
      have s08:But p H (upd G7 p (.ins A.dU dx (rg (.int r) (.int tt) (.int (if tn2 % 2=0 then ov2+2 ^ j else ov2)) (.int (if tn2 % 2=0 then un2 else un2+2 ^ j)) (.int (tn2+1)) (oV mi) (oV ma) rf))):=s07.trans But.upd
      generalize upd G7 p (.ins A.dU dx (rg (.int r) (.int tt) (.int (if tn2 % 2=0 then ov2+2 ^ j else ov2)) (.int (if tn2 % 2=0 then un2 else un2+2 ^ j)) (.int (tn2+1)) (oV mi) (oV ma) rf))=G8 at L8 po8 s08 ⊢
      refine ⟨_,rfl,_,_,rfl,rfl,_,rfl,_,_,rfl,rfl,fO (by decide) (by decide),?_,?_⟩
      ·exact ⟨_,_,j+1,_,_,_,_,by rw [<- ep,nU];rfl,L8,po8,s08,R8,by rw [mq,mq];exact LN,fun c hc=>by
        rcases zV hc with z | z
        ·rcases zV z with z | z
         ·exact fr c z
         ·rw [z];exact .inr (dh bt nc1 fun y=>by rw [y,gp] at nc1;cases nc1)
        ·rw [z];exact .inr (dh (s02.trans ((s4.trans s5).but p)) nc6 fun y=>by rw [y,(s4.trans s5) _ _ po2] at nc6;cases nc6)⟩
      ·show (1000-((j:Int)+1)).toNat<(1000-(j:Int)).toNat
       lia
    ·have hle:(l.length:Int)<=r:=by
      have:¬ r<((l.map V.int).length:Int):=fun z=>hg2 (decide_eq_true z)
      rw [bK] at this
      lia
     refine ⟨_,rfl,_,_,rfl,rfl,_,rfl,_,_,rfl,rfl,fO (by decide) (by decide),?_,?_⟩
     ·exact ⟨bs,ms,j+1,_,_,_,_,by rw [<- ep,nU];rfl,L,gp,bt,R.keep el hle,ln,fr⟩
     ·show (1000-((j:Int)+1)).toNat<(1000-(j:Int)).toNat
      lia
   ·have hj:ms.length<=j:=by
     have:¬ (j:Int)<((bs.map V.ref).length:Int):=fun z=>hc (decide_eq_true z)
     rw [bK,L.n] at this
     lia
    refine ⟨_,rfl,_,rfl,p,_,dx,_,rfl,gp,T.cO,T.Jq,(by show 8<1000;decide),?_⟩
    rw [Qu]
    exact q g bs ms tn2 ov2 un2 _ (R.done hj) hg (L.but But.upd gp) ak (bt.trans But.upd) ln fr
  ·exact fun σ H Q Q' hq h=>gR (pC (cL 3) (TF (Lf (cL 2) Tz))) σ H Q Q' hq h
noncomputable def lo2:Option Int->Option Int->Option Int
 | none,b=>b
 | a,none=>a
 | some a,some b=>some (min a b)
noncomputable def hi2:Option Int->Option Int->Option Int
 | none,b=>b
 | a,none=>a
 | some a,some b=>some (max a b)
noncomputable def Lx (a b:Option Int):List Int:=a.toList++b.toList
theorem aiM {a b:Option Int} {v:V} (h:Best true (Lx a b) v):v=oV (lo2 a b):=by
 rcases h with ⟨e,rfl⟩ | ⟨m,rfl,hm,hb⟩
 ·cases a <;> cases b <;> first | rfl | cases e
 ·cases a with
  | none=>cases b with
   | none=>cases hm
   | some b=>rw [gZ.mp hm];rfl
  | some a=>cases b with
   | none=>rw [gZ.mp hm];rfl
   | some b =>
    have h1:=hb a gq
    have h2:=hb b (gY _ gq)
    rw [if_pos rfl] at h1 h2
    have:m=min a b:=by
     rcases cA.mp hm with z | z
     ·lia
     ·have:=gZ.mp z;lia
    rw [this];rfl
theorem aiN {a b:Option Int} {v:V} (h:Best false (Lx a b) v):v=oV (hi2 a b):=by
 rcases h with ⟨e,rfl⟩ | ⟨m,rfl,hm,hb⟩
 ·cases a <;> cases b <;> first | rfl | cases e
 ·cases a with
  | none=>cases b with
   | none=>cases hm
   | some b=>rw [gZ.mp hm];rfl
  | some a=>cases b with
   | none=>rw [gZ.mp hm];rfl
   | some b =>
    have h1:=hb a gq
    have h2:=hb b (gY _ gq)
    rw [if_neg (by decide)] at h1 h2
    have:m=max a b:=by
     rcases cA.mp hm with z | z
     ·lia
     ·have:=gZ.mp z;lia
    rw [this];rfl
noncomputable def known (a b:Option Int) (i:Nat):List V:=(([a,b].take i).flatMap Option.toList).map V.int
noncomputable def Ug (f:Option Int->Option Int->Option Int):Sp:=fun vs H Q _=>∃ (a b:Option Int),vs=[oV a,oV b]/\∀ H',Same H H'->Q (oV (f a b)) H'
theorem ok'5 (T:Tx K mg A):cg P w K mg base CX0 1 A.f'5 A.Jh ["one","other"] (Ug lo2):=by
 k_dat (T.F'5.ok,Lr) "a"
 ·obtain ⟨a,b,rfl,_⟩:=h
  rfl
 ·obtain ⟨a,b,rfl,q⟩:=h
  refine ⟨_,(ao (zm (i:=2) (cl:=[]) (N:=["thing"]) (caps:=[]) (tt:=_) (te:=_) Lr.nd rfl (Or.inl rfl) rfl (by with_unfolding_all rfl) tb_g% rfl tb_g% trivial (vY (by with_unfolding_all rfl)) tb_g% rfl rfl rfl (iw.at (k:=1) (show iw _ _ _ _ 1 [] from trivial)) (afq (eE (aj (pv 0) (aj (pv 1) aA)))) (fun _ _ _ _=>(uc (aK O9 (pv 0) nY (aQ _)))) (fun _ _ _ _=>(pv 0)))
   (aC (aO (aio T.aa8 (pv 2) rfl)))),?_⟩
  refine ⟨_,rfl,_,rfl,by show 2<=sizeLine;decide,fun t ht=>?_⟩
  have s1:Same H (upd H t (.tup [oV a,oV b])):=Same.new ht
  have f1:(upd H t (.tup [oV a,oV b])) t=some (.tup [oV a,oV b]):=ak
  generalize upd H t (.tup [oV a,oV b])=H1 at s1 f1 ⊢
  refine ⟨t,rfl,⟨_,.inl (.inl f1)⟩,fun D hD=>?_⟩
  refine IW (K:=K) (a:=t) (xs:=[oV a,oV b]) (fun i ys G=>ys=known a b i/\G=upd H1 D (.lst ys)) ⟨rfl,rfl⟩ ?_ ?_ ?_ ?_ ?_
  ·rintro i ys G hi ⟨rfl,rfl⟩
   refine ⟨.inl (.inl ((Same.new hD) _ _ f1)),ak,cH ?_⟩
   unfold known
   cases a <;> cases b <;> match i,hi with
    | 0,_=>simp
    | 1,_=>simp
    | 2,_=>simp
  ·rintro i ys G x hx ⟨rfl,rfl⟩
   match i,hx with
   | 0,hx =>
    obtain rfl:oV a=x:=cX hx
    cases a with
    | none=>exact ⟨_,rfl,rfl,_,rfl,cV (fun h=>absurd h (by decide)) (fun _=>⟨ak,rfl,rfl⟩)⟩
    | some z=>exact ⟨_,rfl,rfl,_,rfl,cV (fun _=>⟨_,rfl,ak,rfl,by rw [dw]⟩) (fun h=>absurd (show (!decide (V.int z=V.non))=true by rw [decide_eq_false (by intro y;cases y)];rfl) h)⟩
   | 1,hx =>
    obtain rfl:oV b=x:=cX hx
    cases b with
    | none=>exact ⟨_,rfl,rfl,_,rfl,cV (fun h=>absurd h (by decide)) (fun _=>⟨ak,by cases a <;> rfl,by cases a <;> rfl⟩)⟩
    | some z=>exact ⟨_,rfl,rfl,_,rfl,cV (fun _=>⟨_,rfl,ak,by cases a <;> rfl,by rw [dw]⟩) (fun h=>absurd (show (!decide (V.int z=V.non))=true by rw [decide_eq_false (by intro y;cases y)];rfl) h)⟩
  ·rintro ys G ⟨rfl,rfl⟩
   have ek:known a b [oV a,oV b].length=(Lx a b).map V.int:=by cases a <;> cases b <;> rfl
   rw [ek]
   refine ⟨_,rfl,D,Lx a b,rfl,.inl (.inl ak),fun v hv=>?_⟩
   rw [aiM hv]
   exact q _ (s1.trans (Same.new hD))
  ·exact fun σ H R R' hr h=>gR (Ga (r:=fun x y H Q=>y = .non/\Q (.bl (!decide (x = .non))) H) (fun x y H Q Q' hq h=>⟨h.1,hq _ _ h.2⟩) (cL 0) (ug _)) σ H R R' hr h
  ·exact cL 0
theorem ok'6 (T:Tx K mg A):cg P w K mg base CX0 1 A.f'6 A.Dm ["one","other"] (Ug hi2):=by
 k_dat (T.F'6.ok,JM) "a"
 ·obtain ⟨a,b,rfl,_⟩:=h
  rfl
 ·obtain ⟨a,b,rfl,q⟩:=h
  refine ⟨_,(ao (zm (i:=2) (cl:=[]) (N:=["thing"]) (caps:=[]) (tt:=_) (te:=_) JM.nd rfl (Or.inl rfl) rfl (by with_unfolding_all rfl) tb_g% rfl tb_g% trivial (vY (by with_unfolding_all rfl)) tb_g% rfl rfl rfl (iw.at (k:=1) (show iw _ _ _ _ 1 [] from trivial)) (afq (eE (aj (pv 0) (aj (pv 1) aA)))) (fun _ _ _ _=>(uc (aK O9 (pv 0) nY (aQ _)))) (fun _ _ _ _=>(pv 0)))
   (aC (aO (aip T.T9 (pv 2) rfl)))),?_⟩
  refine ⟨_,rfl,_,rfl,by show 2<=sizeLine;decide,fun t ht=>?_⟩
  have s1:Same H (upd H t (.tup [oV a,oV b])):=Same.new ht
  have f1:(upd H t (.tup [oV a,oV b])) t=some (.tup [oV a,oV b]):=ak
  generalize upd H t (.tup [oV a,oV b])=H1 at s1 f1 ⊢
  refine ⟨t,rfl,⟨_,.inl (.inl f1)⟩,fun D hD=>?_⟩
  refine IW (K:=K) (a:=t) (xs:=[oV a,oV b]) (fun i ys G=>ys=known a b i/\G=upd H1 D (.lst ys)) ⟨rfl,rfl⟩ ?_ ?_ ?_ ?_ ?_
  ·rintro i ys G hi ⟨rfl,rfl⟩
   refine ⟨.inl (.inl ((Same.new hD) _ _ f1)),ak,cH ?_⟩
   unfold known
   cases a <;> cases b <;> match i,hi with
    | 0,_=>simp
    | 1,_=>simp
    | 2,_=>simp
  ·rintro i ys G x hx ⟨rfl,rfl⟩
   match i,hx with
   | 0,hx =>
    obtain rfl:oV a=x:=cX hx
    cases a with
    | none=>exact ⟨_,rfl,rfl,_,rfl,cV (fun h=>absurd h (by decide)) (fun _=>⟨ak,rfl,rfl⟩)⟩
    | some z=>exact ⟨_,rfl,rfl,_,rfl,cV (fun _=>⟨_,rfl,ak,rfl,by rw [dw]⟩) (fun h=>absurd (show (!decide (V.int z=V.non))=true by rw [decide_eq_false (by intro y;cases y)];rfl) h)⟩
   | 1,hx =>
    obtain rfl:oV b=x:=cX hx
    cases b with
    | none=>exact ⟨_,rfl,rfl,_,rfl,cV (fun h=>absurd h (by decide)) (fun _=>⟨ak,by cases a <;> rfl,by cases a <;> rfl⟩)⟩
    | some z=>exact ⟨_,rfl,rfl,_,rfl,cV (fun _=>⟨_,rfl,ak,by cases a <;> rfl,by rw [dw]⟩) (fun h=>absurd (show (!decide (V.int z=V.non))=true by rw [decide_eq_false (by intro y;cases y)];rfl) h)⟩
  ·rintro ys G ⟨rfl,rfl⟩
   have ek:known a b [oV a,oV b].length=(Lx a b).map V.int:=by cases a <;> cases b <;> rfl
   rw [ek]
   refine ⟨_,rfl,D,Lx a b,rfl,.inl (.inl ak),fun v hv=>?_⟩
   rw [aiN hv]
   exact q _ (s1.trans (Same.new hD))
  ·exact fun σ H R R' hr h=>gR (Ga (r:=fun x y H Q=>y = .non/\Q (.bl (!decide (x = .non))) H) (fun x y H Q Q' hq h=>⟨h.1,hq _ _ h.2⟩) (cL 0) (ug _)) σ H R R' hr h
  ·exact cL 0
noncomputable def aiO (A:Ad):Sp:=fun vs H Q _=>∃ (p dx:Addr) (r:Int),vs=[.ref p,.int r]/\H p=some (.ins A.dU dx []) /\
 ∀ (d:Addr) (H':Hp),H d=none->H' p=some (.ins A.dU dx (rg (.int r) (.int 0) (.int 0) (.int 0) (.int 0) .non .non (.ref d)))->H' d=some (.lst [])->But p H H'->Q .non H'
theorem ok'7 (T:Tx K mg A):cg P w K mg base CX0 1 A.f'7 A.uo ["self","room"] (aiO A):=by
 k_dat (T.F'7.ok,Ku) "a"
 ·obtain ⟨p,dx,r,rfl,_⟩:=h
  rfl
 ·obtain ⟨p,dx,r,rfl,hp,q⟩:=h
  refine ⟨_,(ao (bN (pv 0) (pv 1) rfl)
   (ao (bN (pv 0) au rfl)
   (ao (bN (pv 0) au rfl)
   (ao (bN (pv 0) au rfl)
   (ao (bN (pv 0) au rfl)
   (ao (bN (pv 0) nY rfl)
   (ao (bN (pv 0) nY rfl)
   (aC (bN (pv 0) (cN aA) rfl))))))))),?_⟩
  refine ⟨_,rfl,_,rfl,p,_,dx,[],rfl,hp,T.cO,T.aa6,(by show 0<1000;decide),?_⟩
  k_dat (p,dx,ak,T.cO,T.wD,1) "f"
  k_dat (p,dx,ak,T.cO,T.Jo,2) "f"
  k_dat (p,dx,ak,T.cO,T.Jp,3) "f"
  k_dat (p,dx,ak,T.cO,T.xZ,4) "f"
  k_dat (p,dx,ak,T.cO,T.TQ,5) "f"
  k_dat (p,dx,ak,T.cO,T.TV,6) "f"
  rw [dw,dw,dw,dw,dw,dw]
  refine ⟨(by show 0<=sizeLine;decide),fun d hd=>?_⟩
  have npd:p≠d:=fun z=>by rw [<- z,ak] at hd;cases hd
  rw [aB (aP npd)] at hd
  refine ⟨_,rfl,p,_,dx,_,rfl,(by rw [aB npd];exact ak),T.cO,T.Jq,(by show 7<1000;decide),?_⟩
  refine q d _ hd (HD ak (by rw [alA])) (by rw [aB (aP npd),ak]) fun b o e hb=>?_
  rw [aB hb,aB (aq e hd),aB hb]
  exact e
/-- a Rungs -/
structure Rn (A:Ad) (H:Hp) (p dx a:Addr) (bs:List Addr) (r tt ov un tn:Int) (mi ma:Option Int) (ls:RG.Ls):Prop where
 o:H p=some (.ins A.dU dx (rg (.int r) (.int tt) (.int ov) (.int un) (.int tn) (oV mi) (oV ma) (.ref a)))
 l:LL H a bs ls
section
variable {A:Ad} {H H':Hp} {p dx a:Addr} {bs:List Addr} {r tt ov un tn:Int} {mi ma:Option Int} {ls:RG.Ls}
theorem Rn.same (h:Rn A H p dx a bs r tt ov un tn mi ma ls) (s:Same H H'):Rn A H' p dx a bs r tt ov un tn mi ma ls:=⟨s _ _ h.o,h.l.same s⟩
theorem Rn.but {q C e:Addr} {fs:List (Str × V)} (h:Rn A H p dx a bs r tt ov un tn mi ma ls) (b:But q H H') (hq:H q=some (.ins C e fs)) (n:p≠q):Rn A H' p dx a bs r tt ov un tn mi ma ls:=⟨b _ _ h.o n,h.l.but b hq⟩
theorem Rn.new {d:Addr} (h1:H p=some (.ins A.dU dx (rg (.int r) (.int 0) (.int 0) (.int 0) (.int 0) .non .non (.ref d)))) (h2:H d=some (.lst [])):Rn A H p dx d [] r 0 0 0 0 none none [] :=
 ⟨h1,⟨h2,rfl,fun i b l e=>by (cases i <;> cases e),fun z=>nomatch z⟩⟩
end
noncomputable def alG (A:Ad):Sp:=fun vs H Q _=>∃ (p dx a:Addr) (bs:List Addr) (r tt ov un tn t w:Int) (mi ma:Option Int) (ls:RG.Ls),vs=[.ref p,.int t,.int w]/\Rn A H p dx a bs r tt ov un tn mi ma ls/\2<=r/\r<=64/\0<=w/\w<2 ^ 64/\ls.length<=400/\(∀ l∈ls,l.length<=199)/\RG.val ls<2 ^ 400 /\
 ∀ (a':Addr) (bs':List Addr) (out:RG.Ls) (tn' ov' un':Int) (H':Hp),RG.Stl r 0 tn ov un (RG.iy t ls w.toNat) out tn' ov' un'->Rn A H' p dx a' bs' r (tt+w) ov' un' tn' (lo2 mi (some t)) (hi2 ma (some t)) out->But p H H'->H a'=none->(∀ c∈bs',c∈bs\/H c=none)->Q .non H'
theorem ok'8 (T:Tx K mg A):cg P w K mg base CX0 5 A.f'8 A.wz ["self","thing","weight"] (alG A):=by
 k_dat (T.F'8.ok,Qo) "a"
 ·obtain ⟨p,dx,a,bs,r,tt,ov,un,tn,t,w,mi,ma,ls,rfl,_⟩:=h
  rfl
 ·obtain ⟨p,dx,a,bs,r,tt,ov,un,tn,t,w,mi,ma,ls,rfl,hR,r2,r64,w0,w64,h3,h1,hv,q⟩:=h
  refine ⟨_,(ao (bN (pv 0) (aF bM (aJ (pv 0) rfl) (pv 2)) rfl)
   (ao (bN (pv 0) (bQ (ok'5 T) tb_g% rfl T.agN T.F'5.kp T.b'5 .nil aX (aj (aJ (pv 0) rfl) (aj (pv 1) aA))) rfl)
   (ao (bN (pv 0) (bQ (ok'6 T) tb_g% rfl T.acu T.F'6.kp T.b'6 .nil aX (aj (aJ (pv 0) rfl) (aj (pv 1) aA))) rfl)
   (aC (cY (bA (pv 0) T.cO T.Jw (ok'4 T) tb_g% T.b'4 .nil aX (aj (bQ (ok'0 T) tb_g% rfl T.Qh T.F'0.kp T.b'0 .nil aX (aj (aJ (pv 0) rfl) (aj (pv 1) (aj (pv 2) aA)))) aA))))))),?_⟩
  refine ⟨_,rfl,rdF hR.o T.cO T.wD (qF ..) ⟨_,rfl,_,_,rfl,rfl,_,rfl,p,_,dx,_,rfl,hR.o,T.cO,T.wD,(by show 8<1000;decide),?_⟩⟩
  rw [Qq]
  have b1:But p H (upd H p (.ins A.dU dx (rg (.int r) (.int (tt+w)) (.int ov) (.int un) (.int tn) (oV mi) (oV ma) (.ref a)))):=But.upd
  have o1:(upd H p (.ins A.dU dx (rg (.int r) (.int (tt+w)) (.int ov) (.int un) (.int tn) (oV mi) (oV ma) (.ref a)))) p=_:=ak
  have L1:=hR.l.but b1 hR.o
  generalize upd H p (.ins A.dU dx (rg (.int r) (.int (tt+w)) (.int ov) (.int un) (.int tn) (oV mi) (oV ma) (.ref a)))=H1 at b1 o1 L1 ⊢
  refine ⟨_,rfl,rdF o1 T.cO T.TQ (ag1 ..) ⟨_,rfl,mi,some t,rfl,fun H2 s2=>⟨_,rfl,p,_,dx,_,rfl,s2 _ _ o1,T.cO,T.TQ,(by show 8<1000;decide),?_⟩⟩⟩
  rw [Qt]
  have b3:But p H2 (upd H2 p (.ins A.dU dx (rg (.int r) (.int (tt+w)) (.int ov) (.int un) (.int tn) (oV (lo2 mi (some t))) (oV ma) (.ref a)))):=But.upd
  have o3:(upd H2 p (.ins A.dU dx (rg (.int r) (.int (tt+w)) (.int ov) (.int un) (.int tn) (oV (lo2 mi (some t))) (oV ma) (.ref a)))) p=_:=ak
  have L3:=(L1.same s2).but b3 (s2 _ _ o1)
  have b03:But p H (upd H2 p (.ins A.dU dx (rg (.int r) (.int (tt+w)) (.int ov) (.int un) (.int tn) (oV (lo2 mi (some t))) (oV ma) (.ref a)))):=(b1.trans (s2.but p)).trans b3
  generalize upd H2 p (.ins A.dU dx (rg (.int r) (.int (tt+w)) (.int ov) (.int un) (.int tn) (oV (lo2 mi (some t))) (oV ma) (.ref a)))=H3 at b03 o3 L3 ⊢
  refine ⟨_,rfl,rdF o3 T.cO T.TV (aiE ..) ⟨_,rfl,ma,some t,rfl,fun H4 s4=>⟨_,rfl,p,_,dx,_,rfl,s4 _ _ o3,T.cO,T.TV,(by show 8<1000;decide),?_⟩⟩⟩
  rw [Ue]
  have b5:But p H4 (upd H4 p (.ins A.dU dx (rg (.int r) (.int (tt+w)) (.int ov) (.int un) (.int tn) (oV (lo2 mi (some t))) (oV (hi2 ma (some t))) (.ref a)))):=But.upd
  have o5:(upd H4 p (.ins A.dU dx (rg (.int r) (.int (tt+w)) (.int ov) (.int un) (.int tn) (oV (lo2 mi (some t))) (oV (hi2 ma (some t))) (.ref a)))) p=_:=ak
  have L5:=(L3.same s4).but b5 (s4 _ _ o3)
  have b05:But p H (upd H4 p (.ins A.dU dx (rg (.int r) (.int (tt+w)) (.int ov) (.int un) (.int tn) (oV (lo2 mi (some t))) (oV (hi2 ma (some t))) (.ref a)))):=(b03.trans (s4.but p)).trans b5
  generalize upd H4 p (.ins A.dU dx (rg (.int r) (.int (tt+w)) (.int ov) (.int un) (.int tn) (oV (lo2 mi (some t))) (oV (hi2 ma (some t))) (.ref a)))=H5 at b05 o5 L5 ⊢
  refine ⟨_,rfl,p,dx,_,rfl,o5,rgN tb_g%,?_⟩
  refine ⟨_,rfl,rdF o5 T.cO T.Jq (JW ..) ⟨_,rfl,_,rfl,a,bs,ls,t,w,rfl,L5,w0,w64,by lia,fun l hl=>by have:=h1 l hl;lia,fun g bs' H6 ng L6 s6 fr6=>?_⟩⟩
  refine ⟨p,dx,g,bs',_,r,tt+w,ov,un,tn,lo2 mi (some t),hi2 ma (some t),.ref a,rfl,s6 _ _ o5,L6,r2,r64,RG.agc t _ _ h1,?_,?_,fun g2 bs2 out tn' ov' un' H7 st ng2 L7 o7 b7 _ fr7=>?_⟩
  ·have:=RG.Lb t 64 w.toNat ls tb_g%
   lia
  ·rw [RG.La]
   have:(2:Nat) ^ 400+2 ^ 64<2 ^ 500:=by decide
   lia
  ·have b07:But p H H7:=(b05.trans (s6.but p)).trans b7
   have n5:H5 g2=none:=s6.free ng2
   refine q g2 bs2 out tn' ov' un' H7 st ⟨o7,L7⟩ b07 (dh b05 n5 fun z=>by rw [z,o5] at n5;cases n5) fun c hc=>?_
   have h5:H5 c=none->c∈bs\/H c=none:=fun n=>.inr (dh b05 n fun z=>by rw [z,o5] at n;cases n)
   rcases fr7 c hc with z | z
   ·rcases fr6 c z with z | z
    ·exact .inl z
    ·exact h5 z
   ·exact h5 (s6.free z)
noncomputable def alH (A:Ad):Sp:=fun vs H Q _=>∃ (p dx a:Addr) (bs:List Addr) (r tt ov un tn x:Int) (mi ma:Option Int) (ls:RG.Ls),vs=[.ref p,.int x]/\Rn A H p dx a bs r tt ov un tn mi ma ls/\ls.length<=400/\(∀ l∈ls,l.length<=900)/\∀ H',Same H H'->Q (.int (RG.nr x ls:Nat)) H'
theorem abb (l:List Int) (x:Int) (i:Nat) {z:Int} (h:l[i]? = some z):((l.take (i+1)).filter fun z=>decide (z<=x))=((l.take i).filter fun z=>decide (z<=x))++if z<=x then [z] else []:=by
 rw [RG.mX h,qL]
 congr 1
 by_cases e:z<=x
 ·rw [if_pos e];simp [e]
 ·rw [if_neg e];simp [e]
theorem ok'9 (T:Tx K mg A):cg P w K mg base CX0 1 A.f'9 A.ur ["self","thing"] (alH A):=by
 k_dat (T.F'9.ok,jc) "a"
 ·obtain ⟨p,dx,a,bs,r,tt,ov,un,tn,x,mi,ma,ls,rfl,_⟩:=h
  rfl
 ·obtain ⟨p,dx,a,bs,r,tt,ov,un,tn,x,mi,ma,ls,rfl,hR,h4,h9,q⟩:=h
  refine ⟨_,(ao (aL (i:=2) jc.nd rfl (Or.inl rfl) au)
   (ao (aL (i:=3) jc.nd rfl (Or.inl rfl) au)
   (ao (mH mD rfl (jB (aJ (pv 0) rfl)) (dR (i:=4) jc.nd rfl (Or.inl rfl)) (ao (aL (i:=2) jc.nd rfl (Or.inl rfl) (aF bM (pv 2) (aF fQ (pv 3) (bU gG (by rfl) T.uU uM (aj (FT (cl:=[("thing",s.heap.objs.size+1)]) (N:=["kept","thing"]) (caps:=[1]) (tt:=_) (te:=_) rfl (by with_unfolding_all rfl) tb_g% rfl tb_g% ⟨rfl,trivial⟩ (vY (by with_unfolding_all rfl)) tb_g% rfl rfl rfl (iw.at (k:=1) (show iw _ _ _ _ 1 [1] from ⟨⟨"thing",_,rfl,rfl,.inl rfl,.inl rfl,rfl⟩,trivial⟩)) (jB (pv 4)) (fun _ _ _ _=>(uc (aK aaC (pv 0) (pv 1) (aQ _)))) (fun _ _ _ _=>(pv 0))) aA)))))
   (aC (aL (i:=3) jc.nd rfl (Or.inl rfl) (aF fQ (pv 3) au)))))
   (aC (aO (pv 2)))))),?_⟩
  refine ⟨_,rfl,rdF hR.o T.cO T.Jq (JW ..) ⟨a,rfl,⟨_,.inl (.inl hR.l.o)⟩,?_⟩⟩
  refine nu (K:=K) (a:=a) (xs:=bs.map V.ref) (fun i σ G=>∃ y:Option V,σ=[some (.ref p),some (.int x),some (.int (RG.nr x (ls.take i):Nat)),some (.int (2 ^ i)),y]/\Same H G) ⟨none,rfl,Same.refl _⟩ (fun i σ G _ ⟨_,_,s⟩=>.inl (.inl (s _ _ hR.l.o))) ?_ ?_
  ·rintro i v σ G hi ⟨y,rfl,sG⟩
   have hi':i<ls.length:=by
    have:=(jK.mp hi).1
    rw [bK,hR.l.n] at this
    exact this
   obtain ⟨b,l,eb,el,hb⟩:=hR.l.at hi'
   obtain rfl:V.ref b=v:=by rw [jN,eb] at hi;exact cX hi
   have hl:=h9 l (List.mem_of_getElem? el)
   have hb2:=sG _ _ hb
   refine ⟨_,rfl,_,rfl,_,rfl,b,rfl,⟨_,.inl (.inl hb2)⟩,fun D hD=>?_⟩
   refine nH (K:=K) (a:=b) (xs:=l.map V.int) (fun i ys H2=>ys=((l.take i).filter fun z=>decide (z<=x)).map V.int/\H2=upd G D (.lst ys)) ⟨rfl,rfl⟩ ?_ ?_ ?_ ?_ ?_
   ·rintro i ys H2 hi ⟨rfl,rfl⟩
    refine ⟨.inl (.inl ((Same.new hD) _ _ hb2)),ak,cH ?_⟩
    have:((l.take i).filter fun z=>decide (z<=x)).length<=(l.take i).length:=vd _ _
    rw [jf] at this
    rw [bK]
    lia
   ·rintro i ys H2 v hx ⟨rfl,rfl⟩
    obtain ⟨z,hz,rfl⟩:=int_at hx
    refine ⟨_,rfl,_,rfl,_,_,rfl,rfl,_,rfl,cV (fun hc=>?_) (fun hc=>?_)⟩
    ·have hc:z<=x:=of_decide_eq_true hc
     refine ⟨_,rfl,ak,?_,by rw [dw]⟩
     rw [abb l x i hz,if_pos hc,gA];rfl
    ·have hc:¬ z<=x:=fun y=>hc (decide_eq_true y)
     refine ⟨ak,?_,rfl⟩
     rw [abb l x i hz,if_neg hc,vf]
   ·rintro ys H2 ⟨rfl,rfl⟩
    refine qe (.inl (.inl ak)) ?_
    rw [bK,bK,uK]
    have s2:Same H (upd G D (.lst ((l.filter fun z=>decide (z<=x)).map V.int))):=sG.trans (Same.new hD)
    generalize upd G D (.lst ((l.filter fun z=>decide (z<=x)).map V.int))=G2 at s2 ⊢
    have ec:(l.filter fun z=>decide (z<=x)).length=RG.cnt x l:=rfl
    have lc:=RG.alo x l
    rw [ec]
    refine ⟨_,_,rfl,rfl,fO tb_g% tb_g%,_,_,rfl,rfl,_,rfl,_,_,rfl,rfl,fO (by decide) (by decide),some (.ref b),?_,s2⟩
    have e1:((RG.nr x (ls.take i):Nat):Int)+2 ^ i*((RG.cnt x l:Nat):Int)=((RG.nr x (ls.take (i+1)):Nat):Int):=by
     rw [RG.aii el,vJ,Oj,tU];rfl
    rw [<- e1,nU];rfl
   ·exact fun σ H R R' hr h=>gR (pC (cL 0) (cL 1)) σ H R R' hr h
   ·exact cL 0
  ·rintro σ G ⟨y,rfl,sG⟩
   rw [bK,hR.l.n,uK]
   exact ⟨_,rfl,q G sG⟩
noncomputable def alI (A:Ad):Sp:=fun vs H Q _=>∃ (p dx a:Addr) (bs:List Addr) (r tt ov un tn x:Int) (mi ma:Option Int) (ls:RG.Ls),vs=[.ref p,.int x]/\Rn A H p dx a bs r tt ov un tn mi ma ls/\ls.length<=400/\(∀ l∈ls,l.length<=900) /\
 ∀ (t:Addr) (H':Hp),H t=none->H' t=some (.tup [.int (max ((RG.nr x ls:Nat)-ov) 0),.int (min ((RG.nr x ls:Nat)+un) tt)])->Same H H'->Q (.ref t) H'
theorem abd (T:Tx K mg A):cg P w K mg base CX0 2 A.W8 A.uw ["self","thing"] (alI A):=by
 k_dat (T.F'10.ok,yh) "a"
 ·obtain ⟨p,dx,a,bs,r,tt,ov,un,tn,x,mi,ma,ls,rfl,_⟩:=h
  rfl
 ·obtain ⟨p,dx,a,bs,r,tt,ov,un,tn,x,mi,ma,ls,rfl,hR,h4,h9,q⟩:=h
  refine ⟨_,(ao (aL (i:=2) yh.nd rfl (Or.inl rfl) (bA (pv 0) T.cO T.Qj (ok'9 T) tb_g% T.b'9 .nil aX (aj (pv 1) aA)))
   (aC (aO (eE (aj (bU (wV rfl) (by rfl) T.T9 N6 (aj (aF dY (pv 2) (aJ (pv 0) rfl)) (aj au aA))) (aj (bU (Dc rfl) (by rfl) T.aa8 V7 (aj (aF bM (pv 2) (aJ (pv 0) rfl)) (aj (aJ (pv 0) rfl) aA))) aA)))))),?_⟩
  refine ⟨_,rfl,p,dx,_,rfl,hR.o,rgN tb_g%,_,rfl,p,dx,a,bs,r,tt,ov,un,tn,x,mi,ma,ls,rfl,hR,h4,h9,fun G sG=>?_⟩
  have R2:=hR.same sG
  refine ⟨_,rfl,_,rfl,rdF R2.o T.cO T.Jo (Qp ..) ⟨_,_,rfl,rfl,_,_,rfl,?_⟩⟩
  refine ⟨_,rfl,_,rfl,rdF R2.o T.cO T.Jp (JV ..) ⟨_,_,rfl,rfl,_,rfl,rdF R2.o T.cO T.wD (qF ..) ⟨_,_,rfl,?_⟩⟩⟩
  refine ⟨by show 2<=sizeLine;decide,fun t ht=>q t _ (sG.free ht) ?_ (sG.trans (Same.new ht))⟩
  rw [ak]
  congr 3
  ·congr 1
   split <;> lia
  ·congr 2
   split <;> lia
noncomputable abbrev Pb:=Addr × (Int × Int)
structure Prs (H:Hp) (l:Addr) (ps:List Pb):Prop where
 l:H l=some (.lst (ps.map fun p=>V.ref p.1))
 t:∀ p∈ps,H p.1=some (.tup [.int p.2.1,.int p.2.2])
noncomputable def pr (ps:List Pb):List (Int × Int):=ps.map (·.2)
theorem ag3 (ps:List Pb):(pr ps).length=ps.length:=bK _
theorem Prs.same {H H':Hp} {l:Addr} {ps:List Pb} (h:Prs H l ps) (s:Same H H'):Prs H' l ps:=⟨s _ _ h.l,fun p m=>s _ _ (h.t p m)⟩
theorem Prs.snoc {H:Hp} {l t:Addr} {ps:List Pb} {q:Int × Int} (h:Prs H l ps) (ht:H t=some (.tup [.int q.1,.int q.2])):Prs (upd H l (.lst (ps.map (fun p=>V.ref p.1)++[.ref t]))) l (ps++[(t,q)]):=by
 refine ⟨by rw [ak,gA];rfl,fun p m=>?_⟩
 have key:H p.1=some (.tup [.int p.2.1,.int p.2.2]):=by
  rcases gw.mp m with m | m
  ·exact h.t p m
  ·rw [gZ.mp m];exact ht
 rw [aB (jP key h.l (by intro z;cases z))];exact key
theorem Prs.ext {H:Hp} {l b:Addr} {ps qs:List Pb} (h:Prs H l ps) (h2:Prs H b qs):Prs (upd H l (.lst (ps.map (fun p=>V.ref p.1)++qs.map (fun p=>V.ref p.1)))) l (ps++qs):=by
 refine ⟨by rw [ak,gA],fun p m=>?_⟩
 have key:H p.1=some (.tup [.int p.2.1,.int p.2.2]):=by
  rcases gw.mp m with m | m
  ·exact h.t p m
  ·exact h2.t p m
 rw [aB (jP key h.l (by intro z;cases z))];exact key
theorem pp_at {ps:List Pb} {i:Nat} {y:V} (h:(ps.map fun p=>V.ref p.1)[i]? = some y):∃ p,ps[i]? = some p/\y=V.ref p.1:=by
 rw [jN] at h
 cases e:ps[i]? with
 | none=>rw [e] at h;cases h
 | some z=>rw [e] at h;exact ⟨z,rfl,(cX h).symm⟩
theorem ag4 {n:Nat} (h:n<=5000):n<sizeLine:=Ef h (by decide)
noncomputable abbrev MM:Int:=2305843009213693952
/-- what is told of the pairs of some lists,sorted -/
structure Sx (ls:RG.Ls) (S:List (Int × Int)):Prop where
 p:S.Perm (RG.prs 0 ls)
 s:S.Pairwise fun p q=>RG.rkP MM p<=RG.rkP MM q
theorem ag5 {ls:RG.Ls} (h:ls.length<=60):∀ p∈RG.prs 0 ls,0<=p.2/\p.2<MM:=fun p m=>by
 obtain ⟨_,i,hi,e⟩:=RG.aaX m
 have:=RG.ab3 (i:=0+i) tb_g%
 rw [e]
 exact ⟨pQ this.1,this.2⟩
theorem Sx.uniq {ls:RG.Ls} {S S':List (Int × Int)} (h:ls.length<=60) (a:Sx ls S) (b:Sx ls S'):S=S' :=
 RG.Iz (a.p.trans b.p.symm) a.s b.s fun p m=>ag5 h p (a.p.mem_iff.mp m)
noncomputable def acB:Sp:=fun vs H Q _=>∃ (a:Addr) (bs:List Addr) (ls:RG.Ls) (k:Int),vs=[.ref a,.int k]/\LL H a bs ls/\ls.length<=60/\(∀ l∈ls,l.length<=64)/\1<=k/\k<=(RG.val ls:Int)/\∀ (x:Int) (S:List (Int × Int)) (H':Hp),Sx ls S->RG.pk k 0 S=some x->Same H H'->Q (.int x) H'
theorem ok'11 (T:Tx K mg A):cg P w K mg base CX0 1 A.W9 A.zE ["lists","k"] acB:=by
 k_dat (T.F'11.ok,gn) "a"
 ·obtain ⟨a,bs,ls,k,rfl,_⟩:=h
  rfl
 ·obtain ⟨a,bs,ls,k,rfl,hL,h60,h64,k1,kv,q⟩:=h
  refine ⟨_,(ao (aL (i:=2) gn.nd rfl (Or.inl rfl) (cN aA))
   (ao (aL (i:=3) gn.nd rfl (Or.inl rfl) au)
   (ao (mH mD rfl (jB (pv 0)) (dR (i:=4) gn.nd rfl (Or.inl rfl)) (ao (mH mD rfl (jB (pv 4)) (dR (i:=5) gn.nd rfl (Or.inl rfl)) (aC (cY (En Ek Ei Ej iW (pv 2) (aj (eE (aj (pv 5) (aj (pv 3) aA))) aA)))))
   (aC (aL (i:=3) gn.nd rfl (Or.inl rfl) (aF fQ (pv 3) au)))))
   (ao (aL (i:=6) gn.nd rfl (Or.inl rfl) au)
   (ao (mH mD rfl (jB (bU Te (by rfl) T.tu Ho (aj (pv 2) aA))) (CT rfl (ig (dR (i:=5) gn.nd rfl (Or.inl rfl)) (ig (dR (i:=7) gn.nd rfl (Or.inl rfl)) wU))) (ao (aL (i:=6) gn.nd rfl (Or.inl rfl) (aF bM (pv 6) (pv 7)))
   (aC (cF (aK aaD (pv 6) (pv 1) (aQ _)) (aC (aO (pv 5))) aZ))))
   (aC (aO nY))))))),?_⟩
  refine ⟨(by show 0<=sizeLine;decide),fun D hD=>?_⟩
  have s1:=Same.new (o:=.lst []) hD
  have f1:(upd H D (.lst [])) D=some (.lst []):=ak
  generalize upd H D (.lst [])=H1 at s1 f1 ⊢
  refine ⟨_,rfl,a,rfl,⟨_,.inl (.inl (s1 _ _ hL.o))⟩,nu (K:=K) (a:=a) (xs:=bs.map V.ref) (fun i σ G=>∃ (ps:List Pb) (y z:Option V),σ=[some (.ref a),some (.int k),some (.ref D),some (.int (2 ^ i)),y,z,none,none]/\Prs G D ps/\pr ps=RG.prs 0 (ls.take i)/\Same H G) ⟨[],none,none,rfl,⟨f1,fun _ h=>nomatch h⟩,rfl,s1⟩ (fun i σ G _ ⟨_,_,_,_,_,_,s⟩=>.inl (.inl (s _ _ hL.o))) ?_ ?_⟩
  ·rintro i v σ G hi ⟨ps,y,z,rfl,hP,eP,sG⟩
   have hi':i<ls.length:=by
    have:=(jK.mp hi).1
    rw [bK,hL.n] at this
    exact this
   obtain ⟨b,l,eb,el,hb⟩:=hL.at hi'
   obtain rfl:V.ref b=v:=by rw [jN,eb] at hi;exact cX hi
   have hl:=h64 l (List.mem_of_getElem? el)
   have b1:=RG.aaY (h:=0) (ls:=ls.take i) (b:=64) fun l m=>h64 l (Uy m)
   rw [jf] at b1
   refine ⟨_,rfl,b,rfl,⟨_,.inl (.inl (sG _ _ hb))⟩,nu (K:=K) (a:=b) (xs:=l.map V.int) (fun j σ G=>∃ (ps:List Pb) (z:Option V),σ=[some (.ref a),some (.int k),some (.ref D),some (.int (2 ^ i)),some (.ref b),z,none,none]/\Prs G D ps/\pr ps=RG.prs 0 (ls.take i)++(l.take j).map (fun t=>(t,(2:Int) ^ i))/\Same H G) ⟨ps,z,rfl,hP,by rw [eP];simp,sG⟩ (fun i σ G _ ⟨_,_,_,_,_,s⟩=>.inl (.inl (s _ _ hb))) ?_ ?_⟩
   ·rintro j v σ G hj ⟨ps,z,rfl,hP,eP,sG⟩
    obtain ⟨t,ht,rfl⟩:=int_at hj
    have lj:j<l.length:=(jK.mp ht).1
    have pl:ps.length<=4900:=by
     rw [<- ag3,eP,eV,bK,jf]
     have:min i ls.length*64<=60*64:=yL _ tb_g%
     lia
    refine ⟨_,rfl,.inl ⟨rfl,_,.inl (.inl hP.l)⟩,_,rfl,_,rfl,by show 2<=sizeLine;decide,fun c hc=>?_⟩
    have s2:=Same.new (o:=.tup [.int t,.int (2 ^ i)]) hc
    have f2:(upd G c (.tup [.int t,.int (2 ^ i)])) c=some (.tup [.int t,.int (2 ^ i)]):=ak
    generalize upd G c (.tup [.int t,.int (2 ^ i)])=G1 at s2 f2 ⊢
    have hP1:=hP.same s2
    refine ⟨D,_,_,rfl,rfl,hP1.l,ag4 (by rw [bK];lia),?_⟩
    refine ⟨ps++[(c,(t,2 ^ i))],_,rfl,hP1.snoc (q:=(t,2 ^ i)) f2,?_,fun b o e=>?_⟩
    ·show (ps++[(c,(t,(2:Int) ^ i))]).map (·.2)=_
     rw [gA,show ps.map (·.2)=pr ps from rfl,eP,jo,RG.mX ht,gA]
     rfl
    ·rw [aB (aq e hD)];exact s2 _ _ (sG b o e)
   ·rintro σ G ⟨ps,z,rfl,hP,eP,sG⟩
    rw [bK,uK,<- RG.agf el] at eP
    exact ⟨_,rfl,_,_,rfl,rfl,fO (by decide) (by decide),ps,_,_,by rw [nU];rfl,hP,eP,sG⟩
  ·rintro σ G ⟨ps,y0,z0,rfl,hP,eP,sG⟩
   rw [bK,hL.n,uK] at eP
   have hPM:∀ p∈ps,G p.1=some (.tup [.int p.2.1,.int p.2.2])/\0<=p.2.2/\p.2.2<MM:=fun p m=>⟨hP.t p m,ag5 h60 p.2 (by rw [<- eP];exact ac8 m)⟩
   refine ⟨_,rfl,D,ps,MM,rfl,hP.l,hPM,fun y ps' hy hperm S6=>?_⟩
   have sx:Sx ls (pr ps'):=⟨by rw [<- eP];exact hperm.map _,BJ.mpr S6⟩
   have s1:=Same.new (o:=.lst (ps'.map fun p=>V.ref p.1)) hy
   have hQ:Prs (upd G y (.lst (ps'.map fun p=>V.ref p.1))) y ps':=⟨ak,fun p m=>s1 _ _ (hP.t p (hperm.mem_iff.mp m))⟩
   generalize upd G y (.lst (ps'.map fun p=>V.ref p.1))=G1 at s1 hQ ⊢
   have sH1:=sG.trans s1
   have swv:RG.sw (pr ps')=(RG.val ls:Int):=by rw [RG.aij sx.p,RG.agh,Int.pow_zero,Wy]
   refine ⟨y,rfl,⟨_,.inl (.inl hQ.l)⟩,nu (K:=K) (a:=y) (xs:=ps'.map fun p=>V.ref p.1) (fun i σ G=>∃ (z u:Option V),σ=[some (.ref a),some (.int k),some (.ref D),some (.int (2 ^ (bs.map V.ref).length)),y0,z,some (.int (RG.sw ((pr ps').take i))),u]/\G=G1/\RG.pk k 0 (pr ps')=RG.pk k (RG.sw ((pr ps').take i)) ((pr ps').drop i)) ⟨_,none,rfl,rfl,rfl⟩ (fun i σ G _ ⟨_,_,_,h,_⟩=>by rw [h];exact .inl (.inl hQ.l)) ?_ ?_⟩
   ·rintro i v σ G hi ⟨z,u,rfl,rfl,inv⟩
    obtain ⟨p,hp,rfl⟩:=pp_at hi
    have hpr:(pr ps')[i]? = some p.2:=by unfold pr;rw [jN,hp];rfl
    have tk:RG.sw ((pr ps').take (i+1))=RG.sw ((pr ps').take i)+p.2.2:=by rw [uJ,hpr,RG.Dj];show _+(_+0)=_;lia
    have dr:(pr ps').drop i=p.2::(pr ps').drop (i+1):=by
     obtain ⟨hl,e⟩:=jK.mp hpr
     rw [Kw hl,e]
    refine ⟨p.1,_,rfl,.inl (.inl (hQ.t p (List.mem_of_getElem? hp))),rfl,_,_,rfl,_,_,rfl,rfl,?_⟩
    refine ⟨_,rfl,_,rfl,_,_,rfl,rfl,?_⟩
    refine ⟨_,rfl,_,rfl,_,_,rfl,rfl,_,rfl,cV (fun h=>?_) (fun h=>?_)⟩
    ·have h:k<=RG.sw ((pr ps').take i)+p.2.2:=of_decide_eq_true h
     refine ⟨_,rfl,q p.2.1 (pr ps') _ sx ?_ sH1⟩
     rw [inv,dr,RG.pk,if_pos h]
    ·have h:¬ k<=RG.sw ((pr ps').take i)+p.2.2:=fun z=>h (decide_eq_true z)
     refine ⟨_,_,by rw [tk];rfl,rfl,?_⟩
     rw [inv,dr,RG.pk,if_neg h,tk]
   ·rintro σ G ⟨z,u,rfl,rfl,inv⟩
    rw [bK,<- ag3,Ms,RG.pk] at inv
    have:=RG.aaZ tb_g% inv
    lia
noncomputable def ag6 (A:Ad):Sp:=fun vs H Q E=>∃ (p dx a:Addr) (bs:List Addr) (r tt ov un tn k:Int) (mi ma:Option Int) (ls:RG.Ls),vs=[.ref p,.int k]/\Rn A H p dx a bs r tt ov un tn mi ma ls/\ls.length<=60/\(∀ l∈ls,l.length<=64)/\(RG.val ls:Int)=tt /\
 ((1<=k/\k<=tt/\∀ (t:Addr) (x:Int) (S:List (Int × Int)) (H':Hp),Sx ls S->RG.pk k 0 S=some x->H' t=some (.tup [.int x,.int (max (k-ov) 1),.int (min (k+un) tt)])->Same H H'->Q (.ref t) H')\/((k<1\/tt<k)/\E (.ref A.jt) none H))
theorem ajE (T:Tx K mg A):cg P w K mg base (CXE P w) 2 A.Xa A.oh ["self","k"] (ag6 A):=by
 k_dat (T.F'12.okE,Dy) "a"
 ·obtain ⟨p,dx,a,bs,r,tt,ov,un,tn,k,mi,ma,ls,rfl,_⟩:=h
  rfl
 ·obtain ⟨p,dx,a,bs,r,tt,ov,un,tn,k,mi,ma,ls,rfl,hR,h60,h64,hv,h⟩:=h
  refine ⟨_,(ao (cF (PT.nox (PW.pt (pw_or (aK pZ (pv 1) au (aQ _)) (pw_or1 (aK qT (pv 1) (aJ (pv 0) rfl) (aQ _)))))) (aC (Ax Ou T.iH rfl T.uF (aj O8 aA))) aZ)
   (aC (PS.nox (aO (eE (aj (bQ (ok'11 T) tb_g% rfl T.Z1 T.F'11.kp T.b'11 .nil aX (aj (aJ (pv 0) rfl) (aj (pv 1) aA))) (aj (bU (wV rfl) (by rfl) T.T9 N6 (aj (aF dY (pv 1) (aJ (pv 0) rfl)) (aj au aA))) (aj (bU (Dc rfl) (by rfl) T.aa8 V7 (aj (aF bM (pv 1) (aJ (pv 0) rfl)) (aj (aJ (pv 0) rfl) aA))) aA)))))))),?_⟩
  rcases h with ⟨k1,kt,q⟩ | ⟨hm,q⟩
  rotate_left
  ·k_dat h "j"
   ·exact Ih ⟨by show 1<=sizeLine;decide,q⟩
   ·have h:¬ k<1:=fun z=>h (decide_eq_true z)
    refine ⟨_,rfl,_,rfl,rdF hR.o T.cO T.wD (qF ..) ⟨_,_,rfl,rfl,_,rfl,?_⟩⟩
    rw [decide_eq_true tb_g%]
    exact Ih ⟨by show 1<=sizeLine;decide,q⟩
  refine ⟨_,rfl,_,_,rfl,rfl,_,rfl,?_⟩
  rw [decide_eq_false tb_g%]
  refine lD ⟨_,rfl,_,rfl,rdF hR.o T.cO T.wD (qF ..) ⟨_,_,rfl,rfl,_,rfl,?_⟩⟩
  rw [decide_eq_false tb_g%]
  refine lD ⟨_,rfl,rdF hR.o T.cO T.Jq (JW ..) ⟨_,rfl,a,bs,ls,k,rfl,hR.l,h60,h64,k1,by lia,fun x S G sx hx sG=>?_⟩⟩
  have R2:=hR.same sG
  refine ⟨_,rfl,_,rfl,rdF R2.o T.cO T.Jo (Qp ..) ⟨_,_,rfl,rfl,_,_,rfl,?_⟩⟩
  refine ⟨_,rfl,_,rfl,rdF R2.o T.cO T.Jp (JV ..) ⟨_,_,rfl,rfl,_,rfl,rdF R2.o T.cO T.wD (qF ..) ⟨_,_,rfl,?_⟩⟩⟩
  refine ⟨by show 3<=sizeLine;decide,fun t ht=>q t x S _ sx hx ?_ (sG.trans (Same.new ht))⟩
  rw [ak]
  congr 3
  ·congr 1
   ·congr 1
    split <;> lia
   ·congr 2
    split <;> lia
noncomputable def wf (aH bh dZ d8:V):List (Str × V):=[("room",aH),("reach",bh),("clock",dZ),("boxes",d8)]
theorem aiP (aH bh dZ d8:V):(wf aH bh dZ d8).lookup ("room" : Str)=some aH:=by rfl
theorem JX (aH bh dZ d8:V):(wf aH bh dZ d8).lookup ("reach" : Str)=some bh:=by rfl
theorem tE (aH bh dZ d8:V):(wf aH bh dZ d8).lookup ("clock" : Str)=some dZ:=by rfl
theorem Bo (aH bh dZ d8:V):(wf aH bh dZ d8).lookup ("boxes" : Str)=some d8:=by rfl
theorem alJ (aH bh dZ d8:V):aD "boxes" d8 (aD "clock" dZ (aD "reach" bh (aD "room" aH [])))=wf aH bh dZ d8:=by
 unfold wf
 walk_at "rec"
theorem Bq (aH bh dZ d8 y:V):aD "clock" y (wf aH bh dZ d8)=wf aH bh y d8:=by
 unfold wf
 walk_at "rec"
theorem Qv (aH bh dZ d8 y:V):aD "boxes" y (wf aH bh dZ d8)=wf aH bh dZ y:=by
 unfold wf
 walk_at "rec"
theorem wfN {aH bh dZ d8:V} {m:Str} (h:m∉[("room" : Str),("reach" : Str),("clock" : Str),("boxes" : Str)]):(wf aH bh dZ d8).lookup m=none:=by
 simp only [cA,lN,or_false,not_or] at h
 obtain ⟨qG,Br,Qw,Qx⟩:=h
 unfold wf
 rw [bW qG,bW Br,bW Qw,bW Qx]
 rfl
theorem Uh (aH bh dZ d8:V) {m:Str} (qG:¬ m = "room") (Br:¬ m = "reach") (Qw:¬ m = "clock") (Qx:¬ m = "boxes"):(wf aH bh dZ d8).lookup m=none:=by
 unfold wf
 rw [bW qG,bW Br,bW Qw,bW Qx]
 rfl
noncomputable abbrev Bp:=Addr × WN.Box
noncomputable def bt (b:WN.Box):HO:=.tup [.int b.f,.int b.l,.int b.s]
structure Bxs (H:Hp) (l:Addr) (ps:List Bp):Prop where
 l:H l=some (.lst (ps.map fun p=>V.ref p.1))
 t:∀ p∈ps,H p.1=some (bt p.2)
noncomputable def bx (ps:List Bp):List WN.Box:=ps.map (·.2)
theorem zQ (ps:List Bp):(bx ps).length=ps.length:=bK _
theorem Bxs.same {H H':Hp} {l:Addr} {ps:List Bp} (h:Bxs H l ps) (s:Same H H'):Bxs H' l ps:=⟨s _ _ h.l,fun p m=>s _ _ (h.t p m)⟩
theorem Bxs.but {H H':Hp} {l q C e:Addr} {fs:List (Str × V)} {ps:List Bp} (h:Bxs H l ps) (s:But q H H') (hq:H q=some (.ins C e fs)):Bxs H' l ps :=
 ⟨s _ _ h.l (jP h.l hq (by intro z;cases z)),fun p m=>s _ _ (h.t p m) (jP (h.t p m) hq (by intro z;cases z))⟩
theorem Ge {ps:List Bp} {i:Nat} {y:V} (h:(ps.map fun p=>V.ref p.1)[i]? = some y):∃ p,ps[i]? = some p/\y=V.ref p.1:=by
 rw [jN] at h
 cases e:ps[i]? with
 | none=>rw [e] at h;cases h
 | some z=>rw [e] at h;exact ⟨z,rfl,(cX h).symm⟩
noncomputable def qH (room edge:Int) (bs:List WN.Box):List WN.Box:=(WN.settled room (bs.filter fun b=>decide (edge<b.l)).reverse).reverse
noncomputable def ag7:Sp:=fun vs H Q _=>∃ (l:Addr) (room:Int) (ps:List Bp),vs=[.ref l,.int room]/\Bxs H l ps/\ps.length<=500/\0<=room/\room<=64 /\
 ∀ (l':Addr) (ps':List Bp) (H':Hp),H l'=none->bx ps'=(WN.settled room (bx ps).reverse).reverse->Bxs H' l' ps'->Same H H'->Q (.ref l') H'
noncomputable def Ui:Option Bp->V
 | none=>.non
 | some h=>.ref h.1
theorem alK {ps:List Bp} {i:Nat} {p:Bp} (h:ps.reverse[i]? = some p):(bx ps).reverse.drop i=p.2::(bx ps).reverse.drop (i+1):=by
 unfold bx
 rw [<- Mt,<- Mu,<- Mu]
 have hi:i<ps.reverse.length:=(jK.mp h).1
 rw [Kw hi,jg]
 rw [(jK.mp h).2]
theorem ok'13 (T:Tx K mg A):cg P w K mg base CX0 1 A.Xb A.Ji ["boxes","room"] ag7:=by
 k_dat (T.F'13.ok,jE) "a"
 ·obtain ⟨l,room,ps,rfl,_⟩:=h
  rfl
 ·obtain ⟨l,room,ps,rfl,hb,h500,r0,r64,q⟩:=h
  refine ⟨_,(ao (aL (i:=2) jE.nd rfl (Or.inl rfl) (cN aA))
   (ao (aL (i:=3) jE.nd rfl (Or.inl rfl) au)
   (ao (aL (i:=4) jE.nd rfl (Or.inl rfl) nY)
   (ao (mH mD rfl (alq rfl T.JK (aj (pv 0) aA)) (dR (i:=5) jE.nd rfl (Or.inl rfl)) (aC (cF (aK afu (pv 4) nY (aQ _)) (aC (aL (i:=4) jE.nd rfl (Or.inl rfl) (pv 5))) (aC (cF (aK aaC (aF fQ (aF bM (bO (ixG (bB hr)) (pv 4) au (fun _ _=>rfl)) (bO (ixG (bB hr)) (pv 5) au (fun _ _=>rfl))) (pv 1)) (pv 3) (aQ _)) (aC (aL (i:=4) jE.nd rfl (Or.inl rfl) (eE (aj (bO (ixG (bB hr)) (pv 5) au (fun _ _=>rfl)) (aj (bO (ixG (bB hr)) (pv 4) au (fun _ _=>rfl)) (aj (aF bM (bO (ixG (bB hr)) (pv 5) au (fun _ _=>rfl)) (bO (ixG (bB hr)) (pv 4) au (fun _ _=>rfl))) aA)))))) (ao (cY (En Ek Ei Ej iW (pv 2) (aj (pv 4) aA)))
   (ao (aL (i:=3) jE.nd rfl (Or.inl rfl) (aF bM (pv 3) (bO (ixG (bB hr)) (pv 4) au (fun _ _=>rfl))))
   (aC (aL (i:=4) jE.nd rfl (Or.inl rfl) (pv 5))))))))))
   (ao (cF (aK O9 (pv 4) nY (aQ _)) (aC (cY (En Ek Ei Ej iW (pv 2) (aj (pv 4) aA)))) aZ)
   (aC (aO (ZJ T.JH T.JK (aj (pv 2) aA) rfl)))))))),?_⟩
  refine ⟨(by show 0<=sizeLine;decide),fun D hD=>?_⟩
  have sD:Same H (upd H D (.lst [])):=Same.new hD
  refine ⟨_,rfl,l,_,rfl,.inl (.inl (sD _ _ hb.l)),air (K:=K) (a:=l) (xs:=ps.map fun p=>V.ref p.1) (fun i σ H2=>∃ (xb:Option V) (S:Int) (ds:List Bp) (hand:Option Bp),σ=[some (.ref l),some (.int room),some (.ref D),some (.int S),some (Ui hand),xb]/\Same H H2/\Bxs H2 D ds/\ds.length<=i /\
    (hand=none->i=0/\ds=[]/\S=0)/\(∀ h,hand=some h->1<=i/\H2 h.1=some (bt h.2)/\bx ds++WN.settle room S h.2 ((bx ps).reverse.drop i)=WN.settled room (bx ps).reverse))
   ⟨none,0,[],none,rfl,sD,⟨ak,(fun p m=>nomatch m)⟩,cJ _,fun _=>⟨rfl,rfl,rfl⟩,(fun h e=>nomatch e)⟩ (fun i σ H2 _ ⟨_,_,_,_,_,s,_⟩=>.inl (.inl (s _ _ hb.l))) ?_ ?_⟩
  ·rintro i y σ H2 hi ⟨xb,S,ds,hand,rfl,s2,hD2,hlen,hn,hs⟩
   rw [<- Mt] at hi
   obtain ⟨p,hp,rfl⟩:=Ge hi
   have hip:i<ps.length:=by
    have:=(jK.mp hp).1
    rwa [yq] at this
   have pm:p∈ps:=Gp.mp (List.mem_of_getElem? hp)
   have ht:=s2 _ _ (hb.t p pm)
   have hdrop:=alK hp
   cases hand with
   | none =>
    obtain ⟨rfl,rfl,rfl⟩:=hn rfl
    refine ⟨_,rfl,rfl,_,rfl,?_⟩
    rw [show decide (Ui none=V.non)=true from Jg]
    refine Ih ⟨_,rfl,_,0,[],some p,rfl,s2,hD2,bZ _,(fun e=>nomatch e),fun h e=>?_⟩
    obtain rfl:=cX e
    refine ⟨cJ _,ht,?_⟩
    rw [adp] at hdrop
    rw [hdrop];rfl
   | some h =>
    obtain ⟨i1,hht,heq⟩:=hs h rfl
    rw [hdrop,WN.v9] at heq
    refine ⟨_,rfl,rfl,_,rfl,?_⟩
    rw [show decide (Ui (some h)=V.non)=false from TJ]
    refine lD ?_
    refine ⟨_,rfl,eX (.inl (.inl hht)) (v:=.int h.2.s) rfl ⟨_,rfl,eX (.inl (.inl ht)) (v:=.int p.2.s) rfl ⟨_,_,rfl,rfl,_,rfl,_,_,rfl,rfl,fO tb_g% tb_g%,_,rfl,_,_,rfl,rfl,_,rfl,cV (fun hc=>?_) (fun hc=>?_)⟩⟩⟩
    ·have hc:(h.2.s+p.2.s)*room<=S:=of_decide_eq_true hc
     rw [if_pos hc] at heq
     refine ⟨_,rfl,eX (.inl (.inl ht)) (v:=.int p.2.f) rfl ⟨_,rfl,eX (.inl (.inl hht)) (v:=.int h.2.l) rfl ⟨_,rfl,eX (.inl (.inl ht)) (v:=.int p.2.s) rfl ⟨_,rfl,eX (.inl (.inl hht)) (v:=.int h.2.s) rfl ⟨_,_,rfl,rfl,(by show 3<=sizeLine;decide),fun t1 ht1=>?_⟩⟩⟩⟩⟩
     have s3:Same H2 (upd H2 t1 (bt ⟨p.2.f,h.2.l,p.2.s+h.2.s⟩)):=Same.new ht1
     refine ⟨_,S,ds,some (t1,⟨p.2.f,h.2.l,p.2.s+h.2.s⟩),rfl,s2.trans s3,hD2.same s3,by lia,(fun e=>nomatch e),fun h' e=>?_⟩
     obtain rfl:=cX e
     refine ⟨by lia,ak,?_⟩
     rw [show p.2.s+h.2.s=h.2.s+p.2.s by lia]
     exact heq
    ·have hc:¬ (h.2.s+p.2.s)*room<=S:=fun z=>hc (decide_eq_true z)
     rw [if_neg hc] at heq
     refine ⟨_,rfl,.inl ⟨rfl,_,.inl (.inl hD2.l)⟩,_,rfl,D,_,_,rfl,rfl,hD2.l,cH (by rw [bK];lia),?_⟩
     have nD:∀ a b,H2 a=some (bt b)->a≠D:=fun a b e=>jP e hD2.l (by intro z;cases z)
     have ht3:∀ L,(upd H2 D L) h.1=some (bt h.2):=fun L=>by rw [aB (nD _ _ hht)];exact hht
     refine ⟨_,rfl,_,rfl,eX (.inl (.inl (ht3 _))) (v:=.int h.2.s) rfl ⟨_,_,rfl,rfl,?_⟩⟩
     refine ⟨_,rfl,_,S+h.2.s,ds++[h],some p,rfl,fun b o e=>?_,⟨?_,fun z m=>?_⟩,by rw [eV];show ds.length+1<=i+1;lia,(fun e=>nomatch e),fun h' e=>?_⟩
     ·rw [aB (aq e hD)];exact s2 _ _ e
     ·rw [ak,gA];rfl
     ·rcases gw.mp m with m | m
      ·have:=hD2.t z m
       rw [aB (nD _ _ this)];exact this
      ·rw [gZ.mp m];exact ht3 _
     ·obtain rfl:=cX e
      refine ⟨by lia,by rw [aB (nD _ _ ht)];exact ht,?_⟩
      unfold bx at heq ⊢
      rw [gA,jo]
      exact heq
  ·rintro σ H2 ⟨xb,S,ds,hand,rfl,s2,hD2,hlen,hn,hs⟩
   rw [bK] at hlen hn hs
   cases hand with
   | none =>
    obtain ⟨h0,rfl,rfl⟩:=hn rfl
    have e0:ps=[]:=KC.mp h0
    subst e0
    refine ⟨_,rfl,rfl,_,rfl,?_⟩
    rw [show decide (Ui none=V.non)=true from Jg]
    refine lD ⟨_,rfl,D,_,rfl,.inl (.inl hD2.l),fun l' hl'=>?_⟩
    exact q l' [] _ (s2.free hl') rfl ⟨ak,(fun p m=>nomatch m)⟩ (s2.trans (Same.new hl'))
   | some h =>
    obtain ⟨i1,hht,heq⟩:=hs h rfl
    refine ⟨_,rfl,rfl,_,rfl,?_⟩
    rw [show decide (Ui (some h)=V.non)=false from TJ]
    refine Ih ⟨_,rfl,.inl ⟨rfl,_,.inl (.inl hD2.l)⟩,_,rfl,D,_,_,rfl,rfl,hD2.l,cH (by rw [bK];lia),?_⟩
    have nD:∀ a b,H2 a=some (bt b)->a≠D:=fun a b e=>jP e hD2.l (by intro z;cases z)
    have eL:((ds.map fun p=>V.ref p.1)++[V.ref h.1])=(ds++[h]).map fun p=>V.ref p.1:=by rw [gA];rfl
    have s3:Same H (upd H2 D (.lst ((ds.map fun p=>V.ref p.1)++[V.ref h.1]))):=fun b o e=>by rw [aB (aq e hD)];exact s2 _ _ e
    have t3:∀ p∈ds++[h],(upd H2 D (.lst ((ds.map fun p=>V.ref p.1)++[V.ref h.1]))) p.1=some (bt p.2):=fun z m=>by
     rcases gw.mp m with m | m
     ·have:=hD2.t z m
      rw [aB (nD _ _ this)];exact this
     ·rw [gZ.mp m,aB (nD _ _ hht)];exact hht
    refine ⟨_,rfl,D,_,rfl,.inl (.inl ak),fun l' hl'=>?_⟩
    refine q l' (ds++[h]).reverse _ (s3.free hl') ?_ ⟨?_,fun z m=>?_⟩ (s3.trans (Same.new hl'))
    ·rw [Uw (by rw [yq,zQ];exact cJ _),WN.IK] at heq
     rw [<- heq]
     unfold bx
     rw [Mt,gA];rfl
    ·rw [ak,Mt,<- eL];rfl
    ·rw [aB (aq (t3 z (Gp.mp m)) hl')]
     exact t3 z (Gp.mp m)
noncomputable def aiQ (A:Ad):Sp:=fun vs H Q _=>∃ (p dx:Addr) (r k:Int),vs=[.ref p,.int r,.int k]/\H p=some (.ins A.jm dx []) /\
 ∀ (d:Addr) (H':Hp),H d=none->H' p=some (.ins A.jm dx (wf (.int r) (.int k) (.int 0) (.ref d)))->H' d=some (.lst [])->But p H H'->Q .non H'
theorem ok'14 (T:Tx K mg A):cg P w K mg base CX0 1 A.QX A.rM ["self","room","reach"] (aiQ A):=by
 k_dat (T.F'14.ok,JN) "a"
 ·obtain ⟨p,dx,r,k,rfl,_⟩:=h
  rfl
 ·obtain ⟨p,dx,r,k,rfl,hp,q⟩:=h
  refine ⟨_,(ao (bN (pv 0) (pv 1) rfl)
   (ao (bN (pv 0) (pv 2) rfl)
   (ao (bN (pv 0) au rfl)
   (aC (bN (pv 0) (cN aA) rfl))))),?_⟩
  refine ⟨_,rfl,_,rfl,p,_,dx,[],rfl,hp,T.gW,T.aa7,(by show 0<1000;decide),?_⟩
  refine ⟨_,rfl,_,rfl,p,_,dx,_,rfl,ak,T.gW,T.Lh,(by show 1<1000;decide),?_⟩
  k_dat (p,dx,ak,T.gW,T.wF,2) "f"
  rw [dw,dw]
  refine ⟨(by show 0<=sizeLine;decide),fun d hd=>?_⟩
  have npd:p≠d:=fun z=>by rw [<- z,ak] at hd;cases hd
  rw [aB (aP npd)] at hd
  refine ⟨_,rfl,p,_,dx,_,rfl,(by rw [aB npd];exact ak),T.gW,T.Er,(by show 3<1000;decide),?_⟩
  refine q d _ hd (HD ak (by rw [alJ])) (by rw [aB (aP npd),ak]) fun b o e hb=>?_
  rw [aB hb,aB (aq e hd),aB hb]
  exact e
/-- a Window -/
structure Wn (A:Ad) (H:Hp) (p dx l:Addr) (r k c:Int) (ps:List Bp):Prop where
 o:H p=some (.ins A.jm dx (wf (.int r) (.int k) (.int c) (.ref l)))
 b:Bxs H l ps
theorem Wn.same {A:Ad} {H H':Hp} {p dx l:Addr} {r k c:Int} {ps:List Bp} (h:Wn A H p dx l r k c ps) (s:Same H H'):Wn A H' p dx l r k c ps:=⟨s _ _ h.o,h.b.same s⟩
theorem Wn.but {A:Ad} {H H':Hp} {p dx l q C e:Addr} {fs:List (Str × V)} {r k c:Int} {ps:List Bp} (h:Wn A H p dx l r k c ps) (s:But q H H') (hq:H q=some (.ins C e fs)) (n:p≠q):Wn A H' p dx l r k c ps:=⟨s _ _ h.o n,h.b.but s hq⟩
noncomputable def acC (A:Ad):Sp:=fun vs H Q _=>∃ (p dx l l0:Addr) (r k c:Int) (ps:List Bp),vs=[.ref p,.ref l]/\H p=some (.ins A.jm dx (wf (.int r) (.int k) (.int c) (.ref l0)))/\Bxs H l ps/\ps.length<=500/\0<=r/\r<=64 /\
 ∀ (l':Addr) (ps':List Bp) (H':Hp),bx ps'=qH r (c-k) (bx ps)->Wn A H' p dx l' r k c ps'->But p H H'->H l'=none->Q .non H'
theorem ajF (T:Tx K mg A):cg P w K mg base CX0 2 A.Xc A.ou ["self","boxes"] (acC A):=by
 k_dat (T.F'15.ok,mU) "a"
 ·obtain ⟨p,dx,l,l0,r,k,c,ps,rfl,_⟩:=h
  rfl
 ·obtain ⟨p,dx,l,l0,r,k,c,ps,rfl,hp,hb,h500,r0,r64,q⟩:=h
  refine ⟨_,(ao (aL (i:=2) mU.nd rfl (Or.inr rfl) (aF dY (aJ (pv 0) rfl) (aJ (pv 0) rfl)))
   (ao (zm (i:=3) (cl:=[("edge",s.heap.objs.size+1)]) (N:=["box","edge"]) (caps:=[2]) (tt:=(KQ (tOp _ (tOp (Ke K) _ _) _))) (te:=_) mU.nd rfl (Or.inl rfl) rfl (by with_unfolding_all rfl) tb_g% rfl tb_g% ⟨rfl,trivial⟩ (vY (by with_unfolding_all rfl)) tb_g% rfl rfl rfl (iw.at (k:=1) (show iw _ _ _ _ 1 [2] from ⟨⟨"edge",_,rfl,rfl,.inl rfl,.inl rfl,rfl⟩,trivial⟩)) (jB (pv 1)) (fun _ _ _ _=>(uc (aK qT (bO (ixG (by exact bB hr)) (pv 0) au (fun _ _=>rfl)) (pv 1) (aQ _)))) (fun _ _ _ _=>(pv 0)))
   (aC (bN (pv 0) (bQ (ok'13 T) tb_g% rfl T.agO T.F'13.kp T.b'13 .nil aX (aj (pv 3) (aj (aJ (pv 0) rfl) aA))) rfl)))),?_⟩
  refine ⟨_,rfl,rdF hp T.gW T.wF (tE _ _ _ _) ⟨_,rfl,rdF hp T.gW T.Lh (JX _ _ _ _) ⟨_,_,rfl,rfl,?_⟩⟩⟩
  refine ⟨_,rfl,l,rfl,⟨_,.inl (.inl hb.l)⟩,fun D hD=>?_⟩
  refine nH (K:=K) (a:=l) (xs:=ps.map fun p=>V.ref p.1) (fun i ys H2=>ys=((ps.take i).filter fun p=>decide (c-k<p.2.l)).map (fun p=>V.ref p.1)/\H2=upd H D (.lst ys)) ⟨by simp,rfl⟩ ?_ ?_ ?_ ?_ ?_
  ·rintro i ys H2 hi ⟨rfl,rfl⟩
   refine ⟨.inl (.inl ((Same.new hD) _ _ hb.l)),ak,cH ?_⟩
   rw [bK]
   have:=vd (fun p:Bp=>decide (c-k<p.2.l)) (ps.take i)
   rw [jf] at this
   lia
  ·rintro i ys H2 x hx ⟨rfl,rfl⟩
   obtain ⟨z,hz,rfl⟩:=Ge hx
   have ht:=(Same.new (o:=.lst (((ps.take i).filter fun p=>decide (c-k<p.2.l)).map (fun p=>V.ref p.1))) hD) _ _ (hb.t z (List.mem_of_getElem? hz))
   refine ⟨_,rfl,eX (.inl (.inl ht)) (v:=.int z.2.l) rfl ⟨_,rfl,_,_,rfl,rfl,_,rfl,cV (fun hc=>?_) (fun hc=>?_)⟩⟩
   ·have hc:c-k<z.2.l:=of_decide_eq_true hc
    refine ⟨_,rfl,ak,?_,by rw [dw]⟩
    rw [uJ,hz,qL,gA]
    show _=_++(([z]:List Bp).filter fun p=>decide (c-k<p.2.l)).map (fun p=>V.ref p.1)
    rw [Gj (by simpa using hc)];rfl
   ·have hc:¬ c-k<z.2.l:=fun y=>hc (decide_eq_true y)
    refine ⟨ak,?_,rfl⟩
    rw [uJ,hz,qL,gA]
    show _=_++(([z]:List Bp).filter fun p=>decide (c-k<p.2.l)).map (fun p=>V.ref p.1)
    rw [zW (by simpa using hc)];simp
  ·rintro ys H2 ⟨rfl,rfl⟩
   rw [bK,uK]
   have sD:Same H (upd H D (.lst ((ps.filter fun p=>decide (c-k<p.2.l)).map (fun p=>V.ref p.1)))):=Same.new hD
   have bD:Bxs (upd H D (.lst ((ps.filter fun p=>decide (c-k<p.2.l)).map (fun p=>V.ref p.1)))) D (ps.filter fun p=>decide (c-k<p.2.l)):=⟨ak,fun z m=>sD _ _ (hb.t z (BL.mp m).1)⟩
   generalize upd H D (.lst ((ps.filter fun p=>decide (c-k<p.2.l)).map (fun p=>V.ref p.1)))=H3 at sD bD ⊢
   have hlen:=vd (fun p:Bp=>decide (c-k<p.2.l)) ps
   refine ⟨_,rfl,_,rfl,rdF (sD _ _ hp) T.gW T.aa7 (aiP _ _ _ _) ?_⟩
   refine ⟨D,r,_,rfl,bD,by lia,r0,r64,fun l' ps' H4 hl' e' b' s4=>?_⟩
   have hp4:=s4 _ _ (sD _ _ hp)
   k_dat (p,dx,hp4,T.gW,T.Er,4) "f"
   rw [Qv]
   have npl:∀ b o,H4 b=some o->(∀ C d fs,o ≠ .ins C d fs)->b≠p:=fun b o e n z=>by rw [z,hp4] at e;exact n _ _ _ (cX e).symm
   refine q l' ps' _ ?_ ⟨ak,⟨by rw [aB (npl _ _ b'.l (by intro _ _ _ z;cases z))];exact b'.l,fun z m=>by rw [aB (npl _ _ (b'.t z m) (by intro _ _ _ z;cases z))];exact b'.t z m⟩⟩ (fun b o e n=>by rw [aB n];exact s4 _ _ (sD _ _ e)) (sD.free hl')
   rw [e']
   unfold qH bx
   rw [U4];rfl
  ·exact fun σ H R R' hr h=>gR (pC (xG (cL 0) (ug _)) (cL 1)) σ H R R' hr h
  ·exact cL 0
noncomputable def alL (A:Ad):Sp:=fun vs H Q _=>∃ (p dx l:Addr) (r k c v:Int) (ps:List Bp),vs=[.ref p,.int v]/\Wn A H p dx l r k c ps/\ps.length<=400/\0<=r/\r<=64 /\
 ∀ (l':Addr) (ps':List Bp) (H':Hp),bx ps'=qH r (c+1-k) (bx ps++[⟨c+1,c+1,v⟩])->Wn A H' p dx l' r k (c+1) ps'->But p H H'->H l'=none->Q .non H'
theorem ok'16 (T:Tx K mg A):cg P w K mg base CX0 5 A.Xd A.ux ["self","weight"] (alL A):=by
 k_dat (T.F'16.ok,Kv) "a"
 ·obtain ⟨p,dx,l,r,k,c,v,ps,rfl,_⟩:=h
  rfl
 ·obtain ⟨p,dx,l,r,k,c,v,ps,rfl,hw,h400,r0,r64,q⟩:=h
  refine ⟨_,(ao (bN (pv 0) (aF bM (aJ (pv 0) rfl) au) rfl)
   (aC (cY (bA (pv 0) T.gW T.uR (ajF T) tb_g% T.b'15 .nil aX (aj (aF Pu (aJ (pv 0) rfl) (cN (aj (eE (aj (aJ (pv 0) rfl) (aj (aJ (pv 0) rfl) (aj (pv 1) aA)))) aA))) aA))))),?_⟩
  refine ⟨_,rfl,rdF hw.o T.gW T.wF (tE _ _ _ _) ⟨_,_,rfl,rfl,_,rfl,p,_,dx,_,rfl,hw.o,T.gW,T.wF,(by show 4<1000;decide),?_⟩⟩
  rw [Bq]
  have b1:But p H (upd H p (.ins A.jm dx (wf (.int r) (.int k) (.int (c+1)) (.ref l)))):=But.upd
  have w1:(upd H p (.ins A.jm dx (wf (.int r) (.int k) (.int (c+1)) (.ref l)))) p=some (.ins A.jm dx (wf (.int r) (.int k) (.int (c+1)) (.ref l))):=ak
  have x1:=hw.b.but b1 hw.o
  generalize upd H p (.ins A.jm dx (wf (.int r) (.int k) (.int (c+1)) (.ref l)))=H1 at b1 w1 x1 ⊢
  refine ⟨_,rfl,p,dx,_,rfl,w1,Uh _ _ _ _ tb_g% tb_g% tb_g% tb_g%,?_⟩
  refine ⟨_,rfl,rdF w1 T.gW T.Er (Bo _ _ _ _) ?_⟩
  refine ⟨_,rfl,rdF w1 T.gW T.wF (tE _ _ _ _) ⟨_,rfl,rdF w1 T.gW T.wF (tE _ _ _ _) ⟨_,rfl,(by show 3<=sizeLine;decide),fun t ht=>⟨(by show 1<=sizeLine;decide),fun l1 hl1=>?_⟩⟩⟩⟩
  have s2:Same H1 (upd H1 t (bt ⟨c+1,c+1,v⟩)):=Same.new ht
  have t2:(upd H1 t (bt ⟨c+1,c+1,v⟩)) t=some (bt ⟨c+1,c+1,v⟩):=ak
  show rCat _ _ (upd (upd H1 t (bt ⟨c+1,c+1,v⟩)) l1 (.lst [.ref t])) _
  have hl1':(upd H1 t (bt ⟨c+1,c+1,v⟩)) l1=none:=hl1
  generalize upd H1 t (bt ⟨c+1,c+1,v⟩)=H2 at s2 t2 hl1' ⊢
  have s3:Same H2 (upd H2 l1 (.lst [.ref t])):=Same.new hl1'
  have t3:(upd H2 l1 (.lst [.ref t])) l1=some (.lst [.ref t]):=ak
  generalize upd H2 l1 (.lst [.ref t])=H3 at s3 t3 ⊢
  refine ⟨l,l1,_,_,rfl,rfl,s3 _ _ (s2 _ _ x1.l),t3,pL (cH (by rw [bK];show ps.length+1<=1000;lia)),fun l2 hl2=>?_⟩
  have s4:Same H3 (upd H3 l2 (.lst ((ps.map fun p=>V.ref p.1)++[.ref t]))):=Same.new hl2
  have s14:Same H1 (upd H3 l2 (.lst ((ps.map fun p=>V.ref p.1)++[.ref t]))):=s2.trans (s3.trans s4)
  have x4:Bxs (upd H3 l2 (.lst ((ps.map fun p=>V.ref p.1)++[.ref t]))) l2 (ps++[(t,⟨c+1,c+1,v⟩)]):=by
   refine ⟨by rw [ak,gA];rfl,fun z m=>?_⟩
   rcases gw.mp m with m | m
   ·exact s14 _ _ (x1.t z m)
   ·rw [gZ.mp m];exact s4 _ _ (s3 _ _ t2)
  generalize upd H3 l2 (.lst ((ps.map fun p=>V.ref p.1)++[.ref t]))=H4 at s4 s14 x4 ⊢
  refine ⟨p,dx,l2,l,r,k,c+1,_,rfl,s14 _ _ w1,x4,by rw [eV];show ps.length+1<=500;lia,r0,r64,fun l' ps' H5 e' w5 b5 n5=>?_⟩
  have bb:But p H H5:=fun b o e n=>b5 b o (s14 _ _ (b1 b o e n)) n
  refine q l' ps' H5 (by rw [e'];unfold bx;rw [gA];rfl) w5 bb ?_
  exact dh b1 (s14.free n5) (fun z=>by rw [z,s14 _ _ w1] at n5;cases n5)
noncomputable def aiR (A:Ad):Sp:=fun vs H Q _=>∃ (p dx l:Addr) (r k c v:Int) (ps:List Bp),vs=[.ref p,.int v]/\Wn A H p dx l r k c ps/\ps.length<=400/\0<=r/\r<=64 /\
 ∀ (l':Addr) (ps':List Bp) (H':Hp),bx ps'=qH r (c+v-k) (bx ps)->Wn A H' p dx l' r k (c+v) ps'->But p H H'->H l'=none->Q .non H'
theorem ajG (T:Tx K mg A):cg P w K mg base CX0 5 A.Xe A.rN ["self","many"] (aiR A):=by
 k_dat (T.F'17.ok,JQ) "a"
 ·obtain ⟨p,dx,l,r,k,c,v,ps,rfl,_⟩:=h
  rfl
 ·obtain ⟨p,dx,l,r,k,c,v,ps,rfl,hw,h400,r0,r64,q⟩:=h
  refine ⟨_,(ao (bN (pv 0) (aF bM (aJ (pv 0) rfl) (pv 1)) rfl)
   (aC (cY (bA (pv 0) T.gW T.uR (ajF T) tb_g% T.b'15 .nil aX (aj (aJ (pv 0) rfl) aA))))),?_⟩
  refine ⟨_,rfl,rdF hw.o T.gW T.wF (tE _ _ _ _) ⟨_,rfl,_,_,rfl,rfl,_,rfl,p,_,dx,_,rfl,hw.o,T.gW,T.wF,(by show 4<1000;decide),?_⟩⟩
  rw [Bq]
  have b1:But p H (upd H p (.ins A.jm dx (wf (.int r) (.int k) (.int (c+v)) (.ref l)))):=But.upd
  have w1:(upd H p (.ins A.jm dx (wf (.int r) (.int k) (.int (c+v)) (.ref l)))) p=some (.ins A.jm dx (wf (.int r) (.int k) (.int (c+v)) (.ref l))):=ak
  have x1:=hw.b.but b1 hw.o
  generalize upd H p (.ins A.jm dx (wf (.int r) (.int k) (.int (c+v)) (.ref l)))=H1 at b1 w1 x1 ⊢
  refine ⟨_,rfl,p,dx,_,rfl,w1,Uh _ _ _ _ tb_g% tb_g% tb_g% tb_g%,?_⟩
  refine ⟨_,rfl,rdF w1 T.gW T.Er (Bo _ _ _ _) ?_⟩
  refine ⟨p,dx,l,l,r,k,c+v,ps,rfl,w1,x1,by lia,r0,r64,fun l' ps' H5 e' w5 b5 n5=>?_⟩
  exact q l' ps' H5 e' w5 (fun b o e n=>b5 b o (b1 b o e n) n) (dh b1 n5 (fun z=>by rw [z,w1] at n5;cases n5))
noncomputable def DY (e:Int) (ps:List Bp):List Int:=(ps.filter fun p=>decide (e<p.2.f)).map fun p=>p.2.s
noncomputable def Ea (e:Int) (ps:List Bp):List Int:=(ps.filter fun p=>decide (p.2.f<=e/\e<p.2.l)).map fun p=>p.2.s
theorem ag8 (e:Int) (ps:List Bp):(DY e ps).sum=WN.low e (bx ps):=by
 unfold DY WN.low WN.sum bx
 rw [U4,pI];rfl
theorem ag9 (e:Int) (ps:List Bp):(Ea e ps).sum=WN.cut e (bx ps):=by
 unfold Ea WN.cut WN.sum bx
 rw [U4,pI];rfl
theorem aha (e:Int) (ps:List Bp):(DY e ps).length<=ps.length:=by unfold DY;rw [bK];exact vd _ _
theorem ahb (e:Int) (ps:List Bp):(Ea e ps).length<=ps.length:=by unfold Ea;rw [bK];exact vd _ _
theorem Ly {e:Int} {ps:List Bp} {i:Nat} {p:Bp} (h:ps[i]? = some p):DY e (ps.take (i+1))=DY e (ps.take i)++if e<p.2.f then [p.2.s] else []:=by
 unfold DY
 rw [uJ,h,qL,gA]
 congr 1
 show (([p]:List Bp).filter _).map _=_
 by_cases c:e<p.2.f
 ·rw [if_pos c,Gj (by simpa using c)];rfl
 ·rw [if_neg c,zW (by simpa using c)];rfl
theorem Eb {e:Int} {ps:List Bp} {i:Nat} {p:Bp} (h:ps[i]? = some p):Ea e (ps.take (i+1))=Ea e (ps.take i)++if p.2.f<=e/\e<p.2.l then [p.2.s] else []:=by
 unfold Ea
 rw [uJ,h,qL,gA]
 congr 1
 show (([p]:List Bp).filter _).map _=_
 by_cases c:p.2.f<=e/\e<p.2.l
 ·rw [if_pos c,Gj (by simpa using c)];rfl
 ·rw [if_neg c,zW (by simpa using c)];rfl
noncomputable def alM (A:Ad):Sp:=fun vs H Q _=>∃ (p dx l:Addr) (r k c m:Int) (ps:List Bp),vs=[.ref p,.int m]/\Wn A H p dx l r k c ps/\ps.length<=500/\1<=m/\m<=k /\
 ∀ (t:Addr) (H':Hp),H t=none->H' t=some (.tup [.int (WN.low (c-m) (bx ps)),.int (WN.low (c-m) (bx ps)+WN.cut (c-m) (bx ps))])->Same H H'->Q (.ref t) H'
noncomputable def Qy (A:Ad):Sp:=fun vs H Q E=>alM A vs H Q E\/∃ (p dx l:Addr) (r k c m:Int) (ps:List Bp),vs=[.ref p,.int m]/\Wn A H p dx l r k c ps/\(m<1\/k<m)/\E (.ref A.jt) none H
theorem ajH (T:Tx K mg A):cg P w K mg base (CXE P w) 1 A.Xf A.rO ["self","many"] (Qy A):=by
 k_dat (T.F'18.okE,mj) "a"
 ·rcases h with ⟨p,dx,l,r,k,c,m,ps,rfl,_⟩ | ⟨p,dx,l,r,k,c,m,ps,rfl,_⟩ <;> rfl
 ·skip
  refine ⟨_,(ao (cF (PT.nox (PW.pt (pw_or (aK pZ (pv 1) au (aQ _)) (pw_or1 (aK qT (pv 1) (aJ (pv 0) rfl) (aQ _)))))) (aC (Ax Ou T.iH rfl T.uF (aj O8 aA))) aZ)
   (ao (PS.nox (aL (i:=2) mj.nd rfl (Or.inr rfl) (aF dY (aJ (pv 0) rfl) (pv 1))))
   (ao (PS.nox (aL (i:=3) mj.nd rfl (Or.inl rfl) (bU (xu rfl) (by rfl) T.aa9 N7 (aj (FT (cl:=[("edge",s.heap.objs.size+1)]) (N:=["box","edge"]) (caps:=[2]) (tt:=(KQ (tOp _ (tOp (Ke K) _ _) _))) (te:=(tOp (Ke K) _ _)) rfl (by with_unfolding_all rfl) tb_g% rfl tb_g% ⟨rfl,trivial⟩ (vY (by with_unfolding_all rfl)) tb_g% rfl rfl rfl (iw.at (k:=1) (show iw _ _ _ _ 1 [2] from ⟨⟨"edge",_,rfl,rfl,.inl rfl,.inl rfl,rfl⟩,trivial⟩)) (jB (aJ (pv 0) rfl)) (fun _ _ _ _=>(uc (aK qT (bO (ixG (by exact bB hr)) (pv 0) au (fun _ _=>rfl)) (pv 1) (aQ _)))) (fun _ _ _ _=>(bO (ixG (by exact bB hr)) (pv 0) au (fun _ _=>rfl)))) aA))))
   (ao (PS.nox (aL (i:=4) mj.nd rfl (Or.inl rfl) (bU (xu rfl) (by rfl) T.aa9 N7 (aj (FT (cl:=[("edge",s.heap.objs.size+1)]) (N:=["box","edge"]) (caps:=[2]) (tt:=(tAnd (KQ (tOp _ (tOp (Ke K) _ _) _)) (KQ (tOp _ (tOp (Ke K) _ _) _)))) (te:=(tOp (Ke K) _ _)) rfl (by with_unfolding_all rfl) tb_g% rfl tb_g% ⟨rfl,trivial⟩ (vY (by with_unfolding_all rfl)) tb_g% rfl rfl rfl (iw.at (k:=1) (show iw _ _ _ _ 1 [2] from ⟨⟨"edge",_,rfl,rfl,.inl rfl,.inl rfl,rfl⟩,trivial⟩)) (jB (aJ (pv 0) rfl)) (fun _ _ _ _=>(uc (PW.pt (pw_and (aK aaC (bO (ixG (by exact bB hr)) (pv 0) au (fun _ _=>rfl)) (pv 1) (aQ _)) (pw_and1 (aK qT (bO (ixG (by exact bB hr)) (pv 0) au (fun _ _=>rfl)) (pv 1) (aQ _))))))) (fun _ _ _ _=>(bO (ixG (by exact bB hr)) (pv 0) au (fun _ _=>rfl)))) aA))))
   (aC (PS.nox (aO (eE (aj (pv 3) (aj (aF bM (pv 3) (pv 4)) aA)))))))))),?_⟩
  rcases h with ⟨p,dx,l,r,k,c,m,ps,rfl,hw,h500,m1,mk,q⟩ | ⟨p,dx,l,r,k,c,m,ps,rfl,hw,hm,q⟩
  rotate_left
  ·k_dat h "j"
   ·exact Ih ⟨by show 1<=sizeLine;decide,q⟩
   ·have h:¬ m<1:=fun z=>h (decide_eq_true z)
    refine ⟨_,rfl,_,rfl,rdF hw.o T.gW T.Lh (JX _ _ _ _) ⟨_,_,rfl,rfl,_,rfl,?_⟩⟩
    rw [decide_eq_true tb_g%]
    exact Ih ⟨by show 1<=sizeLine;decide,q⟩
  refine ⟨_,rfl,_,_,rfl,rfl,_,rfl,?_⟩
  rw [decide_eq_false tb_g%]
  refine lD ⟨_,rfl,_,rfl,rdF hw.o T.gW T.Lh (JX _ _ _ _) ⟨_,_,rfl,rfl,_,rfl,?_⟩⟩
  rw [decide_eq_false tb_g%]
  refine lD ⟨_,rfl,rdF hw.o T.gW T.wF (tE _ _ _ _) ⟨_,rfl,_,_,rfl,rfl,?_⟩⟩
  refine ⟨_,rfl,rdF hw.o T.gW T.Er (Bo _ _ _ _) ⟨l,rfl,⟨_,.inl (.inl hw.b.l)⟩,fun D hD=>?_⟩⟩
  refine nH (K:=K) (a:=l) (xs:=ps.map fun p=>V.ref p.1) (fun i ys H2=>ys=(DY (c-m) (ps.take i)).map V.int/\H2=upd H D (.lst ys)) ⟨by simp [DY],rfl⟩ ?_ ?_ ?_ ?_ ?_
  ·rintro i ys H2 hi ⟨rfl,rfl⟩
   refine ⟨.inl (.inl ((Same.new hD) _ _ hw.b.l)),ak,cH ?_⟩
   rw [bK]
   have:=aha (c-m) (ps.take i)
   rw [jf] at this
   lia
  ·rintro i ys H2 x hx ⟨rfl,rfl⟩
   obtain ⟨z,hz,rfl⟩:=Ge hx
   have ht:=(Same.new (o:=.lst ((DY (c-m) (ps.take i)).map V.int)) hD) _ _ (hw.b.t z (List.mem_of_getElem? hz))
   refine ⟨_,rfl,eX (.inl (.inl ht)) (v:=.int z.2.f) rfl ⟨_,rfl,_,_,rfl,rfl,_,rfl,cV (fun hc=>?_) (fun hc=>?_)⟩⟩
   ·have hc:c-m<z.2.f:=of_decide_eq_true hc
    refine ⟨_,rfl,eX (.inl (.inl ht)) (v:=.int z.2.s) rfl ⟨ak,?_,by rw [dw]⟩⟩
    rw [Ly hz,if_pos hc,gA];rfl
   ·have hc:¬ c-m<z.2.f:=fun y=>hc (decide_eq_true y)
    refine ⟨ak,?_,rfl⟩
    rw [Ly hz,if_neg hc,vf]
  ·rintro ys H2 ⟨rfl,rfl⟩
   rw [bK,uK]
   refine ⟨D,DY (c-m) ps,rfl,.inl (.inl ak),?_⟩
   have sD:Same H (upd H D (.lst ((DY (c-m) ps).map V.int))):=Same.new hD
   generalize upd H D (.lst ((DY (c-m) ps).map V.int))=H3 at sD ⊢
   rw [ag8]
   have hw3:=hw.same sD
   refine ⟨_,rfl,rdF hw3.o T.gW T.Er (Bo _ _ _ _) ⟨l,rfl,⟨_,.inl (.inl hw3.b.l)⟩,fun D2 hD2=>?_⟩⟩
   refine nH (K:=K) (a:=l) (xs:=ps.map fun p=>V.ref p.1) (fun i ys H2=>ys=(Ea (c-m) (ps.take i)).map V.int/\H2=upd H3 D2 (.lst ys)) ⟨by simp [Ea],rfl⟩ ?_ ?_ ?_ ?_ ?_
   ·rintro i ys H2 hi ⟨rfl,rfl⟩
    refine ⟨.inl (.inl ((Same.new hD2) _ _ hw3.b.l)),ak,cH ?_⟩
    rw [bK]
    have:=ahb (c-m) (ps.take i)
    rw [jf] at this
    lia
   ·rintro i ys H2 x hx ⟨rfl,rfl⟩
    obtain ⟨z,hz,rfl⟩:=Ge hx
    have ht:=(Same.new (o:=.lst ((Ea (c-m) (ps.take i)).map V.int)) hD2) _ _ (hw3.b.t z (List.mem_of_getElem? hz))
    refine ⟨_,rfl,eX (.inl (.inl ht)) (v:=.int z.2.f) rfl ⟨_,rfl,_,_,rfl,rfl,_,rfl,cV (fun hc=>?_) (fun hc=>?_)⟩⟩
    ·have hc:z.2.f<=c-m:=of_decide_eq_true hc
     refine ⟨_,rfl,eX (.inl (.inl ht)) (v:=.int z.2.l) rfl ⟨_,rfl,_,_,rfl,rfl,_,rfl,cV (fun hd=>?_) (fun hd=>?_)⟩⟩
     ·have hd:c-m<z.2.l:=of_decide_eq_true hd
      refine ⟨_,rfl,eX (.inl (.inl ht)) (v:=.int z.2.s) rfl ⟨ak,?_,by rw [dw]⟩⟩
      rw [Eb hz,if_pos ⟨hc,hd⟩,gA];rfl
     ·have hd:¬ c-m<z.2.l:=fun y=>hd (decide_eq_true y)
      refine ⟨ak,?_,rfl⟩
      rw [Eb hz,if_neg (fun y=>hd y.2),vf]
    ·have hc:¬ z.2.f<=c-m:=fun y=>hc (decide_eq_true y)
     refine lD ⟨ak,?_,rfl⟩
     rw [Eb hz,if_neg (fun y=>hc y.1),vf]
   ·rintro ys H2 ⟨rfl,rfl⟩
    rw [bK,uK]
    refine ⟨D2,Ea (c-m) ps,rfl,.inl (.inl ak),?_⟩
    have sD2:Same H3 (upd H3 D2 (.lst ((Ea (c-m) ps).map V.int))):=Same.new hD2
    generalize upd H3 D2 (.lst ((Ea (c-m) ps).map V.int))=H4 at sD2 ⊢
    rw [ag9]
    refine ⟨_,rfl,_,rfl,_,rfl,_,_,rfl,rfl,(by show 2<=sizeLine;decide),fun t ht=>?_⟩
    exact q t _ ((sD.trans sD2).free ht) ak ((sD.trans sD2).trans (Same.new ht))
   ·exact acp (gR (pC (xG (cL 0) (ug _)) (cL 1))) (gR (pC (xG (cL 0) (ug _)) (cL 1)))
   ·exact xG (cL 0) (ug _)
  ·exact fun σ H R R' hr h=>gR (pC (xG (cL 0) (ug _)) (cL 1)) σ H R R' hr h
  ·exact xG (cL 0) (ug _)
open MK
noncomputable def ahc:Sp:=fun vs H Q _=>∃ n:Int,vs=[.int n]/\Q (.int (n*770093176312745717 % 1152921504606846976)) H
theorem ok'19 (T:Tx K mg A):cg P w K mg base CX0 1 A.Xg A.Jj ["thing"] ahc:=by
 k_dat (T.F'19.ok,acz) "a"
 ·obtain ⟨n,rfl,_⟩:=h
  rfl
 ·obtain ⟨n,rfl,q⟩:=h
  obtain ⟨_,Qz,QB⟩:=T.agW
  obtain ⟨_,ahd,ahe⟩:=T.agX
  refine ⟨_,(aC (aO (aF dg (aF fQ (pv 0) (qR (v:=.int 770093176312745717) rfl ahd ahe)) (qR (v:=.int 1152921504606846976) rfl Qz QB)))),?_⟩
  exact ⟨_,rfl,_,_,rfl,rfl,fO (by decide) (by decide),_,_,rfl,rfl,(by show (0:Int)<1152921504606846976;decide),q⟩
noncomputable def zR (r:Int) (h:Nat):Prop:=(r=0/\h=60)\/Kf r h
theorem zR.uniq {r:Int} {h k:Nat} (a:zR r h) (b:zR r k):h=k:=by
 rcases a with ⟨a,rfl⟩ | a
 ·rcases b with ⟨_,rfl⟩ | b
  ·rfl
  ·exact absurd a b.ne
 ·rcases b with ⟨b,rfl⟩ | b
  ·exact absurd b a.ne
  ·exact a.uniq b
noncomputable def alN:Sp:=fun vs H Q _=>∃ n:Int,vs=[.int n]/\∀ h:Nat,zR (n*770093176312745717 % 1152921504606846976) h->Q (.int h) H
/-- what is left to halve -/
noncomputable def restOf (σ:St) (_:Hp):Nat:=match σ with
 | [_,some (.int x),_]=>x.toNat
 | _=>0
theorem ajI (T:Tx K mg A):cg P w K mg base CX0 2 A.Xh A.ZR ["thing"] alN:=by
 k_dat (T.F'20.ok,Bg) "a"
 ·obtain ⟨n,rfl,_⟩:=h
  rfl
 ·obtain ⟨n,rfl,q⟩:=h
  obtain ⟨_,Fw,Fx⟩:=T.Fi
  refine ⟨_,(ao (aL (i:=1) Bg.nd rfl (Or.inl rfl) (bQ (ok'19 T) tb_g% rfl T.agP T.F'19.kp T.b'19 .nil aX (aj (pv 0) aA)))
   (ao (cF (aK fY (pv 1) au (aQ _)) (aC (aO (qR (v:=.int 60) rfl Fw Fx))) aZ)
   (ao (aL (i:=2) Bg.nd rfl (Or.inl rfl) au)
   (ao (vR mD (aK fY (aF dg (pv 1) au) au (aQ _)) (ao (aL (i:=1) Bg.nd rfl (Or.inl rfl) (aF cZ (pv 1) au))
   (aC (aL (i:=2) Bg.nd rfl (Or.inl rfl) (aF bM (pv 2) au)))))
   (aC (aO (pv 2))))))),?_⟩
  refine ⟨_,rfl,n,rfl,?_⟩
  have z0:=tV (n*770093176312745717) (show (1152921504606846976:Int)≠0 by decide)
  have z1:=xV (n*770093176312745717) (show (0:Int)<1152921504606846976 by decide)
  generalize n*770093176312745717 % 1152921504606846976=r at q z0 z1
  k_dat h "e"
  ·have e:V.int r=V.int 0:=of_decide_eq_true h
   exact q 60 (.inl ⟨V.int.inj e,rfl⟩)
  ·have ne:r≠0:=fun z=>h (decide_eq_true (congrArg V.int z))
   refine vU (fun σ H'=>∃ (x:Int) (i:Nat),σ=[some (.int n),some (.int x),some (.int (i:Int))]/\To r x i/\H'=H) restOf ⟨r,0,rfl,⟨by simp,ne⟩,rfl⟩ ?_
    (fun σ H Q Q' hq ⟨v,e,i,j,e1,e2,h,sc,k,e3,q⟩=>⟨v,e,i,j,e1,e2,h,sc,k,e3,hq _ _ q⟩)
   rintro σ H' ⟨x,i,rfl,ht,rfl⟩
   refine ⟨_,rfl,_,_,rfl,rfl,(by show (0:Int)<2;decide),rfl,_,rfl,cV (fun h=>?_) (fun h=>?_)⟩
   ·have e:x % 2=0:=V.int.inj (of_decide_eq_true h)
    have hx:=ht.lt tb_g% z1
    refine ⟨_,rfl,_,_,rfl,rfl,⟨by decide,by decide⟩,_,rfl,_,_,rfl,rfl,⟨x / 2,i+1,?_,ht.step e,rfl⟩,?_⟩
    ·rw [show ((i+1:Nat):Int)=(i:Int)+1 by lia];rfl
    ·show (x / 2).toNat<x.toNat
     lia
   ·have e:¬ x % 2=0:=fun z=>h (decide_eq_true (congrArg V.int z))
    exact ⟨_,rfl,q i (.inr (ht.stop e))⟩
noncomputable def df (aH bL dN fV:V):List (Str × V):=[("room",aH),("arrivals",bL),("level",dN),("kept",fV)]
theorem abe (aH bL dN fV:V):(df aH bL dN fV).lookup ("room" : Str)=some aH:=by rfl
theorem Et (aH bL dN fV:V):(df aH bL dN fV).lookup ("arrivals" : Str)=some bL:=by rfl
theorem tH (aH bL dN fV:V):(df aH bL dN fV).lookup ("level" : Str)=some dN:=by rfl
theorem QC (aH bL dN fV:V):(df aH bL dN fV).lookup ("kept" : Str)=some fV:=by rfl
theorem alO (aH bL dN fV:V):aD "kept" fV (aD "level" dN (aD "arrivals" bL (aD "room" aH [])))=df aH bL dN fV:=by
 unfold df
 walk_at "rec"
theorem Fy (aH bL dN fV y:V):aD "arrivals" y (df aH bL dN fV)=df aH y dN fV:=by
 unfold df
 walk_at "rec"
theorem QD (aH bL dN fV y:V):aD "level" y (df aH bL dN fV)=df aH bL y fV:=by
 unfold df
 walk_at "rec"
theorem Uj (aH bL dN fV y:V):aD "kept" y (df aH bL dN fV)=df aH bL dN y:=by
 unfold df
 walk_at "rec"
theorem dfN {aH bL dN fV:V} {m:Str} (h:m∉[("room" : Str),("arrivals" : Str),("level" : Str),("kept" : Str)]):(df aH bL dN fV).lookup m=none:=by
 simp only [cA,lN,or_false,not_or] at h
 obtain ⟨qG,zT,QF,Z9⟩:=h
 unfold df
 rw [bW qG,bW zT,bW QF,bW Z9]
 rfl
theorem ahf (aH bL dN fV:V) {m:Str} (qG:¬ m = "room") (zT:¬ m = "arrivals") (QF:¬ m = "level") (Z9:¬ m = "kept"):(df aH bL dN fV).lookup m=none:=by
 unfold df
 rw [bW qG,bW zT,bW QF,bW Z9]
 rfl
noncomputable def aiS (A:Ad):Sp:=fun vs H Q _=>∃ (p dx:Addr) (r:Int),vs=[.ref p,.int r]/\H p=some (.ins A.jr dx []) /\
 ∀ (d:Addr) (H':Hp),H d=none->H' p=some (.ins A.jr dx (df (.int r) (.int 0) (.int 0) (.ref d)))->H' d=some (.lst [])->But p H H'->Q .non H'
theorem ok'21 (T:Tx K mg A):cg P w K mg base CX0 1 A.QZ A.oA ["self","room"] (aiS A):=by
 k_dat (T.F'21.ok,Dz) "a"
 ·obtain ⟨p,dx,r,rfl,_⟩:=h
  rfl
 ·obtain ⟨p,dx,r,rfl,hp,q⟩:=h
  refine ⟨_,(ao (bN (pv 0) (pv 1) rfl)
   (ao (bN (pv 0) au rfl)
   (ao (bN (pv 0) au rfl)
   (aC (bN (pv 0) (cN aA) rfl))))),?_⟩
  refine ⟨_,rfl,_,rfl,p,_,dx,[],rfl,hp,T.jj,T.TY,(by show 0<1000;decide),?_⟩
  k_dat (p,dx,ak,T.jj,T.Li,1) "f"
  k_dat (p,dx,ak,T.jj,T.Az,2) "f"
  rw [dw,dw]
  refine ⟨(by show 0<=sizeLine;decide),fun d hd=>?_⟩
  have npd:p≠d:=fun z=>by rw [<- z,ak] at hd;cases hd
  rw [aB (aP npd)] at hd
  refine ⟨_,rfl,p,_,dx,_,rfl,(by rw [aB npd];exact ak),T.jj,T.Jr,(by show 3<1000;decide),?_⟩
  refine q d _ hd (HD ak (by rw [alO])) (by rw [aB (aP npd),ak]) fun b o e hb=>?_
  rw [aB hb,aB (aq e hd),aB hb]
  exact e
theorem aiT {n:Int} {h:Nat} (m:zR (n*770093176312745717 % 1152921504606846976) h):h<=60:=by
 rcases m with ⟨_,rfl⟩ | m
 ·exact cJ _
 ·have:=m.lt (tV _ (by decide)) (xV _ (by decide))
  lia
theorem abf:∀ (n:Nat) (r:Int),r.natAbs<=n->r≠0->∃ h,Kf r h
 | 0,r,h,h0=>absurd (show r=0 by lia) h0
 | n+1,r,h,h0=>by
  by_cases e:r % 2=1
  ·exact ⟨0,r,by simp,e⟩
  ·obtain ⟨k,m,e1,e2⟩:=abf n (r / 2) tb_g% tb_g%
   refine ⟨k+1,m,?_,e2⟩
   rw [nU,<- yU,<- e1]
   lia
theorem QG (k:Int):∃ h,zR (k*770093176312745717 % 1152921504606846976) h:=by
 by_cases e:k*770093176312745717 % 1152921504606846976=0
 ·exact ⟨60,.inl ⟨e,rfl⟩⟩
 ·obtain ⟨h,hh⟩:=abf _ _ (cJ _) e
  exact ⟨h,.inr hh⟩
/-- the mark of k -/
noncomputable def mkOf (k:Int):Int:=(ae0 (QG k):Nat)
theorem mk_eq {k:Int} {h:Nat} (m:zR (k*770093176312745717 % 1152921504606846976) h):(h:Int)=mkOf k:=by
 rw [m.uniq (aeZ (QG k))];rfl
theorem mk_le (k:Int):mkOf k<=60:=by
 obtain ⟨h,m⟩:=QG k
 have:=aiT m
 rw [<- mk_eq m];lia
noncomputable def up (v:Int) (ks:List Int):List Int:=ks.filter fun z=>decide (v<=mkOf z)
theorem ahg {v w:Int} (h:v<=w) (ks:List Int):up w (up v ks)=up w ks:=by
 unfold up
 rw [List.filter_filter]
 apply List.filter_congr
 intro x _
 by_cases e:w<=mkOf x
 ·rw [decide_eq_true e,decide_eq_true (show v<=mkOf x by lia)];rfl
 ·rw [decide_eq_false e];rfl
theorem alP {v:Int} {ks:List Int} (h:∀ z∈ks,v<=mkOf z):up v ks=ks:=by
 unfold up
 rw [ac4]
 exact fun z hz=>decide_eq_true (h z hz)
theorem abg {v:Int} (h:60<v) (ks:List Int):up v ks=[]:=by
 unfold up
 rw [Mf]
 intro z _ e
 have:=of_decide_eq_true e
 have:=mk_le z
 lia
theorem aac {v z:Int} {ks:List Int}:z∈up v ks↔z∈ks/\v<=mkOf z:=by
 unfold up;rw [BL,decide_eq_true_iff]
/-- the sorted one -/
noncomputable def srt (ns:List Int):List Int:=ns.mergeSort fun a b=>decide (a<=b)
theorem mL:∀ {xs ys:List Int},xs.Perm ys->xs.Pairwise (· <= ·)->ys.Pairwise (· <= ·)->xs=ys
 | [],ys,p,_,_=>by rw [U8.mp p]
 | x::xs,[],p,_,_=>absurd p (by simp)
 | x::xs,y::ys,p,h1,h2=>by
  have a1:=jM.mp h1
  have a2:=jM.mp h2
  have e:x=y:=by
   have m1:x∈y::ys:=p.mem_iff.mp gq
   have m2:y∈x::xs:=p.mem_iff.mpr gq
   rcases cA.mp m1 with z | z
   ·exact z
   ·rcases cA.mp m2 with z' | z'
    ·exact z'.symm
    ·exact Ws (a1.1 y z') (a2.1 x z)
  subst e
  rw [mL (WR p) a1.2 a2.2]
theorem ju (ns:List Int):(srt ns).Perm ns:=ac5 _ _
theorem v8 (ns:List Int):(srt ns).Pairwise (· <= ·):=by
 have:=acW (le:=fun a b:Int=>decide (a<=b)) (fun a b c h1 h2=>by simp only [decide_eq_true_eq] at *; lia) (fun a b=>by simp only [aeo,decide_eq_true_eq];lia) ns
 exact this.imp fun h=>of_decide_eq_true h
theorem zx {ns ms:List Int} (p:ms.Perm ns) (h:ms.Pairwise (· <= ·)):ms=srt ns:=mL (p.trans (ju ns).symm) h (v8 ns)
theorem acD {ns ms:List Int} (p:ms.Perm ns):srt ms=srt ns:=mL ((ju ms).trans (p.trans (ju ns).symm)) (v8 _) (v8 _)
theorem ahh (v:Int) (ns:List Int):up v (srt ns)=srt (up v ns):=zx ((ju ns).filter _) ((v8 ns).filter _)
theorem jD (ns:List Int):(srt ns).length=ns.length:=(ju ns).length_eq
theorem Av {z:Int} {ns:List Int}:z∈srt ns↔z∈ns:=(ju ns).mem_iff
noncomputable def acE:Sp:=fun vs H Q _=>∃ (l:Addr) (v:Int) (ks:List Int),vs=[.ref l,.int v]/\H l=some (.lst (ks.map V.int))/\ks.length<=900 /\
 ∀ (l':Addr) (H':Hp),H l'=none->H' l'=some (.lst ((up v ks).map V.int))->Same H H'->Q (.ref l') H'
theorem ok'22 (T:Tx K mg A):cg P w K mg base CX0 3 A.Xi A.zF ["things","level"] acE:=by
 k_dat (T.F'22.ok,Ub) "a"
 ·obtain ⟨l,v,ks,rfl,_⟩:=h
  rfl
 ·obtain ⟨l,v,ks,rfl,hl,h500,q⟩:=h
  refine ⟨_,(aC (aO (FT (cl:=[("level",s.heap.objs.size+1)]) (N:=["thing","level"]) (caps:=[1]) (tt:=_) (te:=_) rfl (by with_unfolding_all rfl) tb_g% rfl tb_g% ⟨rfl,trivial⟩ (vY (by with_unfolding_all rfl)) tb_g% rfl rfl rfl (iw.at (k:=1) (show iw _ _ _ _ 1 [1] from ⟨⟨"level",_,rfl,rfl,.inl rfl,.inl rfl,rfl⟩,trivial⟩)) (jB (pv 0)) (fun _ _ _ _=>(uc (aK aaD (bQ (ajI T) (by exact hr.mono (by decide)) rfl T.agQ T.F'20.kp T.b'20 .nil aX (aj (pv 0) aA)) (pv 1) (aQ _)))) (fun _ _ _ _=>(pv 0))))),?_⟩
  refine ⟨_,rfl,l,rfl,⟨_,.inl (.inl hl)⟩,fun D hD=>?_⟩
  refine nH (K:=K) (a:=l) (xs:=ks.map V.int) (fun i ys H2=>ys=(up v (ks.take i)).map V.int/\H2=upd H D (.lst ys)) ⟨rfl,rfl⟩ ?_ ?_ ?_ ?_ ?_
  ·rintro i ys H2 hi ⟨rfl,rfl⟩
   refine ⟨.inl (.inl ((Same.new hD) _ _ hl)),ak,cH ?_⟩
   have:(up v (ks.take i)).length<=(ks.take i).length:=vd _ _
   rw [jf] at this
   rw [bK]
   lia
  ·rintro i ys H2 x hx ⟨rfl,rfl⟩
   obtain ⟨z,hz,rfl⟩:=int_at hx
   refine ⟨_,rfl,z,rfl,fun h hh=>⟨_,rfl,_,_,rfl,rfl,_,rfl,cV (fun hc=>?_) (fun hc=>?_)⟩⟩
   ·have hc:v<=(h:Int):=of_decide_eq_true hc
    rw [mk_eq hh] at hc
    refine ⟨_,rfl,ak,?_,by rw [dw]⟩
    have e:up v (ks.take (i+1))=up v (ks.take i)++[z]:=by
     rw [uJ,hz]
     unfold up
     rw [qL]
     simp [hc]
    rw [e,gA];rfl
   ·have hc:¬ v<=(h:Int):=fun y=>hc (decide_eq_true y)
    rw [mk_eq hh] at hc
    refine ⟨ak,?_,rfl⟩
    have e:up v (ks.take (i+1))=up v (ks.take i):=by
     rw [uJ,hz]
     unfold up
     rw [qL]
     simp [hc]
    rw [e]
  ·rintro ys H2 ⟨rfl,rfl⟩
   rw [bK,uK]
   exact q D _ hD ak (Same.new hD)
  ·exact fun σ H R R' hr ⟨v,e,n,en,q⟩=>⟨v,e,n,en,fun h m=>by
    obtain ⟨u,eu,i,j,ei,ej,k,ek,r⟩:=q h m
    exact ⟨u,eu,i,j,ei,ej,k,ek,hr _ _ r⟩⟩
  ·exact cL 0
/-- a Distinct -/
structure Dn (A:Ad) (H:Hp) (p dx l:Addr) (r n v:Int) (ks:List Int):Prop where
 o:H p=some (.ins A.jr dx (df (.int r) (.int n) (.int v) (.ref l)))
 l:H l=some (.lst (ks.map V.int))
theorem Dn.same {A:Ad} {H H':Hp} {p dx l:Addr} {r n v:Int} {ks:List Int} (h:Dn A H p dx l r n v ks) (s:Same H H'):Dn A H' p dx l r n v ks:=⟨s _ _ h.o,s _ _ h.l⟩
theorem Dn.but {A:Ad} {H H':Hp} {p dx l q C e:Addr} {fs:List (Str × V)} {r n v:Int} {ks:List Int} (h:Dn A H p dx l r n v ks) (s:But q H H') (hq:H q=some (.ins C e fs)) (m:p≠q):Dn A H' p dx l r n v ks:=⟨s _ _ h.o m,s _ _ h.l (jP h.l hq (by intro z;cases z))⟩
/-- the level that v must rise to -/
noncomputable def Lvl (r v v':Int) (ks:List Int):Prop:=v<=v'/\((up v' ks).length:Int)<=r/\∀ w,v<=w->w<v'->r<((up w ks).length:Int)
theorem Lvl.le {r v v':Int} {ks:List Int} (h:Lvl r v v' ks) (r0:0<=r) (hv:v<=61):v'<=61:=by
 rcases (show v'<=61\/61<v' by lia) with z | z
 ·exact z
 ·have:=h.2.2 61 hv z
  rw [abg (by decide)] at this
  have e:(([]:List Int).length:Int)=0:=rfl
  lia
noncomputable def acF (A:Ad):Sp:=fun vs H Q _=>∃ (p dx l l0:Addr) (r n v:Int) (ks:List Int),vs=[.ref p,.ref l]/\H p=some (.ins A.jr dx (df (.int r) (.int n) (.int v) (.ref l0)))/\H l=some (.lst (ks.map V.int))/\ks.length<=900/\0<=r/\0<=v/\v<=61/\(∀ z∈ks,v<=mkOf z) /\
 ∀ (l':Addr) (v':Int) (H':Hp),Lvl r v v' ks->Dn A H' p dx l' r n v' (up v' (srt ks))->But p H H'->H l'=none->Q .non H'
noncomputable def lvV:Option V->Nat
 | some (.int v)=>(100-v).toNat
 | _=>0
noncomputable def lvO:Option HO->Nat
 | some (.ins _ _ fs)=>lvV (fs.lookup ("level" : Str))
 | _=>0
noncomputable def lvOf (σ:St) (H:Hp):Nat:=match σ with
 | some (.ref p)::_=>lvO (H p)
 | _=>0
theorem abh {p C dx:Addr} {a b c:V} {v:Int} {σ:St} {H:Hp} (h:H p=some (.ins C dx (df a b (.int v) c))):lvOf (some (.ref p)::σ) H=(100-v).toNat:=by
 show lvO (H p)=_
 rw [h]
 show lvV ((df a b (.int v) c).lookup ("level" : Str))=_
 rw [tH];rfl
theorem ok'23 (T:Tx K mg A):cg P w K mg base CX0 4 A.Xj A.lW ["self","things"] (acF A):=by
 k_dat (T.F'23.ok,lG) "a"
 ·obtain ⟨p,dx,l,l0,r,n,v,ks,rfl,_⟩:=h
  rfl
 ·obtain ⟨p,dx,l,l0,r,n,v,ks,rfl,hp,hl,h900,r0,v0,v61,hv,q⟩:=h
  refine ⟨_,(ao (aL (i:=2) lG.nd rfl (Or.inl rfl) (bU (uf rfl) (by rfl) T.tu Ho (aj (pv 1) aA)))
   (ao (vR mD (aK qT (bU gG (by rfl) T.uU uM (aj (pv 2) aA)) (aJ (pv 0) rfl) (aQ _)) (ao (bN (pv 0) (aF bM (aJ (pv 0) rfl) au) rfl)
   (aC (aL (i:=2) lG.nd rfl (Or.inl rfl) (bQ (ok'22 T) tb_g% rfl T.Z2 T.F'22.kp T.b'22 .nil aX (aj (pv 2) (aj (aJ (pv 0) rfl) aA)))))))
   (aC (bN (pv 0) (pv 2) rfl)))),?_⟩
  refine ⟨_,rfl,.inr ⟨l,ks,rfl,.inl (.inl hl),by lia,fun l1 ms hl1 pm so=>?_⟩⟩
  have s1:Same H (upd H l1 (.lst (ms.map V.int))):=Same.new hl1
  have f1:(upd H l1 (.lst (ms.map V.int))) l1=some (.lst (ms.map V.int)):=ak
  obtain rfl:ms=srt ks:=zx pm so
  have lm:=pm.length_eq
  show Y4 _ _ _ [some (.ref p),some (.ref l),some (.ref l1)] (upd H l1 (.lst ((srt ks).map V.int)))
  generalize upd H l1 (.lst ((srt ks).map V.int))=H1 at s1 f1 ⊢
  have e0:up v (srt ks)=srt ks:=alP fun z hz=>hv z (Av.mp hz)
  have lu:∀ w,(up w (srt ks)).length=(up w ks).length:=fun w=>by rw [ahh,jD]
  refine vU (fun σ G=>∃ (l2:Addr) (w:Int),σ=[some (.ref p),some (.ref l),some (.ref l2)]/\H l2=none/\G p=some (.ins A.jr dx (df (.int r) (.int n) (.int w) (.ref l0)))/\G l2=some (.lst ((up w (srt ks)).map V.int))/\But p H G/\v<=w/\(w<=61)/\∀ u,v<=u->u<w->r<((up u ks).length:Int)) lvOf
   ⟨l1,v,rfl,hl1,s1 _ _ hp,by rw [e0];exact f1,s1.but p,fM _,v61,fun u a b=>by lia⟩ ?_ ?_
  ·rintro σ G ⟨l2,w,rfl,nl2,gp,gl,bt,hvw,hw,hd⟩
   have lms:(up w (srt ks)).length<=ks.length:=by rw [lu];exact vd _ _
   refine ⟨_,rfl,qe (.inl (.inl gl)) ⟨_,rfl,rdF gp T.jj T.TY (abe _ _ _ _) ⟨_,_,rfl,rfl,_,rfl,cV (fun hc=>?_) (fun hc=>?_)⟩⟩⟩
   ·have hc:r<(((up w (srt ks)).map V.int).length:Int):=of_decide_eq_true hc
    rw [bK] at hc
    have hw60:w<=60:=by
     rcases (show w<=60\/60<w by lia) with z | z
     ·exact z
     ·rw [abg z] at hc
      have e:(([]:List Int).length:Int)=0:=rfl
      lia
    refine ⟨_,rfl,rdF gp T.jj T.Az (tH _ _ _ _) ⟨_,_,rfl,rfl,_,rfl,p,_,dx,_,rfl,gp,T.jj,T.Az,(by show 4<1000;decide),?_⟩⟩
    rw [QD]
    have npl:l2≠p:=jP gl gp (by intro z;cases z)
    have b2:But p G (upd G p (.ins A.jr dx (df (.int r) (.int n) (.int (w+1)) (.ref l0)))):=But.upd
    have o2:(upd G p (.ins A.jr dx (df (.int r) (.int n) (.int (w+1)) (.ref l0)))) p=some (.ins A.jr dx (df (.int r) (.int n) (.int (w+1)) (.ref l0))):=ak
    have lw:=abh (σ:=[some (.ref l),some (.ref l2)]) gp
    have gl2:=b2 _ _ gl npl
    refine ⟨_,rfl,_,rfl,rdF o2 T.jj T.Az (tH _ _ _ _) ⟨l2,w+1,_,rfl,gl2,by lia,fun l3 G3 nl3 gl3 s3=>?_⟩⟩
    have nl3':H l3=none:=by
     refine dh (fun b o e m=>b2 b o (bt b o e m) m) nl3 fun z=>?_
     rw [z,o2] at nl3;cases nl3
    rw [ahg (show w<=w+1 by lia)] at gl3
    refine ⟨⟨l3,w+1,rfl,nl3',s3 _ _ o2,gl3,fun b o e m=>s3 _ _ (b2 b o (bt b o e m) m),by lia,by lia,fun u a b=>?_⟩,?_⟩
    ·rcases (show u<w\/u=w by lia) with z | z
     ·exact hd u a z
     ·rw [z,<- lu];exact hc
    ·rw [lw]
     refine Ef (NQ (abh (s3 _ _ o2))) ?_
     lia
   ·have hc:¬ r<(((up w (srt ks)).map V.int).length:Int):=fun z=>hc (decide_eq_true z)
    rw [bK] at hc
    refine ⟨_,rfl,_,rfl,p,_,dx,_,rfl,gp,T.jj,T.Jr,(by show 4<1000;decide),?_⟩
    rw [Uj]
    have npl:l2≠p:=jP gl gp (by intro z;cases z)
    refine q l2 w _ ⟨hvw,by rw [<- lu];lia,hd⟩ ⟨ak,by rw [aB npl];exact gl⟩ (fun b o e m=>by rw [aB m];exact bt b o e m) nl2
  ·exact fun σ H Q Q' hq h=>gR (pC (TF (Lf (cL 2) Tz)) (agC (cL 0))) σ H Q Q' hq h
theorem ahi (k:Int) (ks:List Int):inV (.int k) (ks.map V.int)=decide (k∈ks):=by
 induction ks with
 | nil=>rfl
 | cons x r ih =>
  show (eqV (.int x) (.int k) || inV (.int k) (r.map V.int))=_
  rw [ih]
  show ((x == k) || decide (k∈r))=decide (k∈x::r)
  by_cases e:k=x
  ·subst e;simp
  ·have:(x == k)=false:=by simp;exact fun z=>e z.symm
   rw [this];simp [e]
theorem ahj (ks:List Int):(ks.map V.int).all sJ=true:=by
 rw [Mr]
 intro x m
 obtain ⟨z,_,rfl⟩:=oN.mp m
 rfl
/-- the different things that came,k behind them -/
noncomputable def came (C:List Int) (k:Int):List Int:=if k∈C then C else C++[k]
theorem ahk (C:List Int) (k:Int):C.length<=(came C k).length/\(came C k).length<=C.length+1:=by
 unfold came
 split
 ·lia
 ·rw [eV];show C.length<=C.length+1/\_;exact ⟨by lia,cJ _⟩
theorem aiU {C:List Int} {k w:Int}:(up w C).length<=(up w (came C k)).length:=by
 unfold came
 split
 ·exact cJ _
 ·unfold up;rw [qL,eV];lia
/-- a level v of the different things C: the least that will do -/
noncomputable def JZ (r v:Int) (C:List Int):Prop:=0<=v/\((up v C).length:Int)<=r/\∀ w,0<=w->w<v->r<((up w C).length:Int)
theorem JZ.lvl {r v v':Int} {C D:List Int} (h:JZ r v C) (g:Lvl r v v' D) (hm:∀ w,(up w C).length<=(up w D).length):JZ r v' D:=by
 have:=h.1
 have:=g.1
 refine ⟨by lia,g.2.1,fun w a b=>?_⟩
 rcases (show w<v\/v<=w by lia) with z | z
 ·have:=h.2.2 w a z;have:=hm w;lia
 ·exact g.2.2 w z b
theorem JZ.le {r v:Int} {C:List Int} (h:JZ r v C) (r0:0<=r):v<=61:=Lvl.le (ks:=C) (v:=0) ⟨h.1,h.2.1,h.2.2⟩ r0 (by decide)
noncomputable def alQ (A:Ad):Sp:=fun vs H Q _=>∃ (p dx l:Addr) (r n v k:Int) (C:List Int),vs=[.ref p,.int k]/\Dn A H p dx l r n v (srt (up v C))/\JZ r v C/\C.length<=800/\0<=r/\r<=800 /\
 ∀ (l':Addr) (v':Int) (H':Hp),Lvl r v v' (came C k)->Dn A H' p dx l' r (n+1) v' (srt (up v' (came C k)))->But p H H'->(l'=l\/H l'=none)->Q .non H'
theorem ok'24 (T:Tx K mg A):cg P w K mg base CX0 5 A.Xk A.ql ["self","thing"] (alQ A):=by
 k_dat (T.F'24.ok,Fj) "a"
 ·obtain ⟨p,dx,l,r,n,v,k,C,rfl,_⟩:=h
  rfl
 ·obtain ⟨p,dx,l,r,n,v,k,C,rfl,hd,hL,h8,r0,r8,q⟩:=h
  have v0:=hL.1
  have v61:=hL.le r0
  have hlen:(srt (up v C)).length<=800:=by have:=hL.2.1;rw [jD];lia
  refine ⟨_,(ao (bN (pv 0) (aF bM (aJ (pv 0) rfl) au) rfl)
   (aC (cF (PW.pt (pw_and (aK aaD (bQ (ajI T) tb_g% rfl T.agQ T.F'20.kp T.b'20 .nil aX (aj (pv 1) aA)) (aJ (pv 0) rfl) (aQ _)) (pw_and1 (aK (alg (bB hr)) (pv 1) (aJ (pv 0) rfl) (by with_unfolding_all rfl))))) (aC (cY (bA (pv 0) T.jj T.Bc (ok'23 T) tb_g% T.b'23 .nil aX (aj (aF Pu (aJ (pv 0) rfl) (cN (aj (pv 1) aA))) aA)))) aZ))),?_⟩
  refine ⟨_,rfl,rdF hd.o T.jj T.Li (Et _ _ _ _) ⟨_,_,rfl,rfl,_,rfl,p,_,dx,_,rfl,hd.o,T.jj,T.Li,(by show 4<1000;decide),?_⟩⟩
  rw [Fy]
  have b1:But p H (upd H p (.ins A.jr dx (df (.int r) (.int (n+1)) (.int v) (.ref l)))):=But.upd
  have d1:Dn A (upd H p (.ins A.jr dx (df (.int r) (.int (n+1)) (.int v) (.ref l)))) p dx l r (n+1) v (srt (up v C)):=⟨ak,by rw [aB (jP hd.l hd.o (by intro z;cases z))];exact hd.l⟩
  generalize upd H p (.ins A.jr dx (df (.int r) (.int (n+1)) (.int v) (.ref l)))=H1 at b1 d1 ⊢
  refine ⟨_,rfl,k,rfl,fun h hh=>⟨_,rfl,rdF d1.o T.jj T.Az (tH _ _ _ _) ⟨_,_,rfl,rfl,_,rfl,cV (fun hc=>?_) (fun hc=>?_)⟩⟩⟩
  ·have hc:v<=(h:Int):=of_decide_eq_true hc
   rw [mk_eq hh] at hc
   refine ⟨_,rfl,_,rfl,rdF d1.o T.jj T.Jr (QC _ _ _ _) (.inl ⟨l,_,rfl,.inl (.inl (.inl d1.l)),rfl,ahj _,_,rfl,?_⟩)⟩
   rw [if_pos rfl,ahi]
   by_cases m:k∈srt (up v C)
   ·rw [decide_eq_true m]
    have ec:came C k=C:=by unfold came;rw [if_pos (aac.mp (Av.mp m)).1]
    rw [ec] at q
    exact lD (q l v _ ⟨fM _,hL.2.1,fun w a b=>by lia⟩ d1 b1 (.inl rfl))
   ·rw [decide_eq_false m]
    have hk:k∉C:=fun z=>m (Av.mpr (aac.mpr ⟨z,hc⟩))
    have ec:came C k=C++[k]:=by unfold came;rw [if_neg hk]
    have eu:∀ w,v<=w->up w (srt (up v C)++[k])=up w (srt (up v C))++up w [k]:=fun w _=>by unfold up;rw [qL]
    refine Ih ⟨_,rfl,p,dx,_,rfl,d1.o,ahf _ _ _ _ tb_g% tb_g% tb_g% tb_g%,?_⟩
    refine ⟨_,rfl,rdF d1.o T.jj T.Jr (QC _ _ _ _) ⟨_,rfl,(by show 1<=sizeLine;decide),fun l1 hl1=>?_⟩⟩
    have s2:Same H1 (upd H1 l1 (.lst [.int k])):=Same.new hl1
    refine ⟨l,l1,_,_,rfl,rfl,s2 _ _ d1.l,ak,pL (cH (by rw [bK];show (srt (up v C)).length+1<=1000;lia)),fun l2 hl2=>?_⟩
    have s3:Same H1 (upd (upd H1 l1 (.lst [.int k])) l2 (.lst ((srt (up v C)++[k]).map V.int))):=s2.trans (Same.new hl2)
    have f3:(upd (upd H1 l1 (.lst [.int k])) l2 (.lst ((srt (up v C)++[k]).map V.int))) l2=some (.lst ((srt (up v C)++[k]).map V.int)):=ak
    rw [show (srt (up v C)).map V.int++[V.int k]=(srt (up v C)++[k]).map V.int by rw [gA];rfl]
    generalize upd (upd H1 l1 (.lst [.int k])) l2 (.lst ((srt (up v C)++[k]).map V.int))=H3 at s3 f3 ⊢
    have d3:=d1.same s3
    have pm:(srt (up v C)++[k]).Perm (up v (C++[k])):=by
     have:up v (C++[k])=up v C++[k]:=by unfold up;rw [qL];simp [hc]
     rw [this]
     exact (ju _).append_right _
    refine ⟨p,dx,l2,l,r,n+1,v,_,rfl,d3.o,f3,by rw [eV];show (srt (up v C)).length+1<=900;lia,r0,v0,v61,(fun z hz=>(aac.mp (pm.mem_iff.mp hz)).2),fun l' v' H' lv dn bt nl=>?_⟩
    have el:∀ w,v<=w->(up w (srt (up v C)++[k])).length=(up w (C++[k])).length:=fun w hw=>(pm.filter _).length_eq.trans (congrArg pJ (ahg hw _))
    have nl1:H1 l'=none:=s3.free nl
    have nl0:H l'=none:=dh b1 nl1 fun z=>by rw [z,d1.o] at nl1;cases nl1
    refine q l' v' H' ?_ ?_ (fun b o e m'=>bt b o (s3 _ _ (b1 b o e m')) m') (.inr nl0)
    ·rw [ec]
     exact ⟨lv.1,by rw [<- el _ lv.1];exact lv.2.1,fun w a b=>by rw [<- el _ a];exact lv.2.2 w a b⟩
    ·rw [ec]
     have:up v' (srt (srt (up v C)++[k]))=srt (up v' (C++[k])):=by
      rw [acD pm,ahh,ahg lv.1]
     rw [this] at dn
     exact dn
  ·have hc:¬ v<=(h:Int):=fun z=>hc (decide_eq_true z)
   rw [mk_eq hh] at hc
   have ew:∀ w,v<=w->up w (came C k)=up w C:=fun w hw=>by
    unfold came
    split
    ·rfl
    ·unfold up;rw [qL];simp [show ¬ w<=mkOf k by lia]
   refine lD (q l v _ ⟨fM _,by rw [ew v (fM _)];exact hL.2.1,fun w a b=>by lia⟩ ?_ b1 (.inl rfl))
   rw [ew v (fM _)];exact d1
noncomputable def aiV (A:Ad):Sp:=fun vs H Q _=>∃ (p dx l:Addr) (r n v:Int) (ks:List Int),vs=[.ref p]/\Dn A H p dx l r n v ks/\Q (.bl (decide (v=0))) H
theorem ahl {v w:Int}:decide (V.int v=V.int w)=decide (v=w):=by
 by_cases h:v=w
 ·rw [decide_eq_true h,h,decide_eq_true rfl]
 ·rw [decide_eq_false h,decide_eq_false (fun z=>h (V.int.inj z))]
theorem ok'25 (T:Tx K mg A):cg P w K mg base CX0 1 A.Xl A.mO ["self"] (aiV A):=by
 k_dat (T.F'25.ok,Bh) "a"
 ·obtain ⟨p,dx,l,r,n,v,ks,rfl,_⟩:=h
  rfl
 ·obtain ⟨p,dx,l,r,n,v,ks,rfl,hd,q⟩:=h
  refine ⟨_,(aC (aO (pA fY (aJ (pv 0) rfl) au (aQ _)))),?_⟩
  refine ⟨_,rfl,rdF hd.o T.jj T.Az (tH _ _ _ _) ⟨rfl,?_⟩⟩
  rw [ahl]
  exact q
/-- the two bounds -/
noncomputable def lowB (r v:Int) (ks:List Int):Int:=if v=0 then ks.length else r+1
noncomputable def abj (n v:Int) (ks:List Int):Int:=if v=0 then ks.length else if (ks.length:Int)+(1152921504606846976-1152921504606846976 / 2 ^ v.toNat)<n then (ks.length:Int)+(1152921504606846976-1152921504606846976 / 2 ^ v.toNat) else n
noncomputable def J0 (A:Ad):Sp:=fun vs H Q _=>∃ (p dx l:Addr) (r n v:Int) (ks:List Int),vs=[.ref p]/\Dn A H p dx l r n v ks/\0<=v/\∀ (t:Addr) (H':Hp),H' t=some (.tup [.int (lowB r v ks),.int (abj n v ks)])->Same H H'->Q (.ref t) H'
theorem ajJ (T:Tx K mg A):cg P w K mg base CX0 2 A.Xm A.lX ["self"] (J0 A):=by
 k_dat (T.F'26.ok,lH) "a"
 ·obtain ⟨p,dx,l,r,n,v,ks,rfl,_⟩:=h
  rfl
 ·obtain ⟨p,dx,l,r,n,v,ks,rfl,hd,v0,q⟩:=h
  obtain ⟨_,Qz,QB⟩:=T.agW
  refine ⟨_,(ao (aL (i:=1) lH.nd rfl (Or.inl rfl) (bU gG (by rfl) T.uU uM (aj (aJ (pv 0) rfl) aA)))
   (ao (cF (HW (p8 (pv 0) T.jj T.Dv (ok'25 T) tb_g% T.b'25 .nil aX)) (aC (aO (eE (aj (pv 1) (aj (pv 1) aA))))) aZ)
   (ao (aL (i:=2) lH.nd rfl (Or.inl rfl) (aF dY (qR (v:=.int 1152921504606846976) rfl Qz QB) (aF ak7 (qR (v:=.int 1152921504606846976) rfl Qz QB) (aJ (pv 0) rfl))))
   (aC (aO (eE (aj (aF bM (aJ (pv 0) rfl) au) (aj (bU (Dc rfl) (by rfl) T.aa8 V7 (aj (aJ (pv 0) rfl) (aj (aF bM (pv 1) (pv 2)) aA))) aA)))))))),?_⟩
  refine ⟨_,rfl,rdF hd.o T.jj T.Jr (QC _ _ _ _) (qe (.inl (.inl hd.l)) ?_)⟩
  rw [bK]
  refine ⟨_,rfl,p,dx,_,rfl,hd.o,ahf _ _ _ _ tb_g% tb_g% tb_g% tb_g%,p,dx,l,r,n,v,ks,rfl,hd,_,rfl,cV (fun hv=>?_) (fun hv=>?_)⟩
  ·have hv:v=0:=of_decide_eq_true hv
   refine ⟨_,rfl,_,rfl,(by show 2<=sizeLine;decide),fun t ht=>q t _ ?_ (Same.new ht)⟩
   rw [ak];unfold lowB abj;rw [if_pos hv,if_pos hv]
  ·have hv:¬ v=0:=fun z=>hv (decide_eq_true z)
   refine ⟨_,rfl,rdF hd.o T.jj T.Az (tH _ _ _ _) ⟨_,_,rfl,rfl,v0,_,_,rfl,rfl,?_⟩⟩
   refine ⟨_,rfl,rdF hd.o T.jj T.TY (abe _ _ _ _) ⟨_,_,rfl,rfl,_,rfl,rdF hd.o T.jj T.Li (Et _ _ _ _) ⟨_,rfl,_,rfl,_,_,rfl,rfl,_,_,rfl,(by show 2<=sizeLine;decide),fun t ht=>q t _ ?_ (Same.new ht)⟩⟩⟩
   rw [ak];unfold lowB abj;rw [if_neg hv,if_neg hv]
noncomputable def fl (r t l:Int) (d:Addr):List (Str × V):=[("room",.int r),("total",.int t),("lost",.int l),("counts",.ref d)]
theorem QH (r t l:Int) (d:Addr):(fl r t l d).lookup ("room" : Str)=some (.int r):=by rfl
theorem Uk (r t l:Int) (d:Addr):(fl r t l d).lookup ("total" : Str)=some (.int t):=by rfl
theorem abk (r t l:Int) (d:Addr):(fl r t l d).lookup ("lost" : Str)=some (.int l):=by rfl
theorem Ec (r t l:Int) (d:Addr):(fl r t l d).lookup ("counts" : Str)=some (.ref d):=by rfl
theorem ne1:¬ (("room" : Str) = "total"):=by decide +kernel
theorem ne2:¬ (("room" : Str) = "lost"):=by decide +kernel
theorem ne3:¬ (("room" : Str) = "counts"):=by decide +kernel
theorem ne4:¬ (("total" : Str) = "lost"):=by decide +kernel
theorem ne5:¬ (("total" : Str) = "counts"):=by decide +kernel
theorem ne6:¬ (("lost" : Str) = "counts"):=by decide +kernel
theorem QJ (f:Str) (v:V) (r:List (Str × V)) (u:V):aD f v ((f,u)::r)=(f,v)::r:=by unfold aD;rw [if_pos rfl]
theorem lA {f g:Str} (h:¬ g=f) (v:V) (r:List (Str × V)) (u:V):aD f v ((g,u)::r)=(g,u)::aD f v r:=by rw [aD,if_neg h]
theorem alR (r t l:Int) (d:Addr):aD "counts" (.ref d) (aD "lost" (.int l) (aD "total" (.int t) (aD "room" (.int r) [])))=fl r t l d:=by
 unfold fl
 rw [show aD "room" (.int r) []=[(("room" : Str),V.int r)] from rfl,lA ne1,show aD "total" (.int t) []=[(("total" : Str),V.int t)] from rfl,lA ne2,lA ne4,
  show aD "lost" (.int l) []=[(("lost" : Str),V.int l)] from rfl,lA ne3,lA ne5,lA ne6]
 rfl
theorem aiW (r t l y:Int) (d:Addr):aD "total" (.int y) (fl r t l d)=fl r y l d:=by
 unfold fl;rw [lA ne1,QJ]
theorem aiX (r t l y:Int) (d:Addr):aD "lost" (.int y) (fl r t l d)=fl r t y d:=by
 unfold fl;rw [lA ne2,lA ne4,QJ]
theorem aiY (r t l:Int) (d e:Addr):aD "counts" (.ref e) (fl r t l d)=fl r t l e:=by
 unfold fl;rw [lA ne3,lA ne5,lA ne6,QJ]
theorem Gg {f m:Str} {v:V} {r:List (Str × V)} (h:¬ m=f):((f,v)::r).lookup m=r.lookup m:=by
 rw [UL]
 rw [beq_eq_false_iff_ne.mpr h]
theorem oO (r t l:Int) (d:Addr) {m:Str} (h1:¬ m = "room") (h2:¬ m = "total") (h3:¬ m = "lost") (h4:¬ m = "counts"):(fl r t l d).lookup m=none:=by
 unfold fl
 rw [Gg h1,Gg h2,Gg h3,Gg h4]
 rfl
noncomputable def alS (A:Ad):Sp:=fun vs H Q _=>∃ (p dx:Addr) (r:Int),vs=[.ref p,.int r]/\H p=some (.ins A.iB dx []) /\
 ∀ (d:Addr) (H':Hp),H d=none->H' p=some (.ins A.iB dx (fl r 0 0 d))->H' d=some (.dK (emb []))->But p H H'->Q .non H'
theorem ajK (T:Tx K mg A):cg P w K mg base CX0 1 A.Q5 A.oE ["self","room"] (alS A):=by
 k_dat (T.F'27.ok,DG) "a"
 ·obtain ⟨p,dx,r,rfl,_⟩:=h
  rfl
 ·obtain ⟨p,dx,r,rfl,hp,k⟩:=h
  refine ⟨_,(ao (bN (pv 0) (pv 1) rfl)
   (ao (bN (pv 0) au rfl)
   (ao (bN (pv 0) au rfl)
   (aC (bN (pv 0) R7 rfl))))),?_⟩
  refine ⟨_,rfl,_,rfl,p,_,dx,[],rfl,hp,T.f9,T.Lj,(by show 0<1000;decide),?_⟩
  k_dat (p,dx,ak,T.f9,T.Lk,1) "f"
  k_dat (p,dx,ak,T.f9,T.Ln,2) "f"
  rw [dw,dw]
  intro d hd
  have npd:p≠d:=fun z=>by rw [<- z,ak] at hd;cases hd
  rw [aB (aP npd)] at hd
  refine ⟨_,rfl,p,_,dx,_,rfl,(by rw [aB npd];exact ak),T.f9,T.zL,(by show 3<1000;decide),?_⟩
  refine k d _ hd (HD ak (by rw [alR])) (by rw [aB (aP npd),ak];rfl) fun b o e hb=>?_
  rw [aB hb,aB (aq e hd),aB hb]
  exact e
/-- the cut of the counts c -/
noncomputable def Lz (room:Nat) (c:Tab) (cut:Int):Prop:=if c.length<=room then cut=0 else IsCut room c cut
theorem Lz.alT {room:Nat} {c:Tab} {cut:Int} (h:Lz room c cut) (hp:∀ p∈c,1<=p.2):rJ room c (dz c cut) cut:=by
 unfold Lz at h;unfold rJ
 by_cases e:c.length<=room
 ·rw [if_pos e] at h ⊢; exact ⟨h,by rw [h,afS hp]⟩
 ·rw [if_neg e] at h ⊢; exact ⟨h,rfl⟩
noncomputable def spCut:Sp:=fun vs H Q _=>∃ (g:Addr) (c:Tab) (room:Nat),vs=[.ref g,.int room]/\H g=some (.dK (emb c))/\c.length<1000/\∀ (cut:Int) (H':Hp),Lz room c cut->Same H H'->Q (.int cut) H'
theorem ok'28 (T:Tx K mg A):cg P w K mg base CX0 1 A.Xn A.Jk ["counts","room"] spCut:=by
 k_dat (T.F'28.ok,Lw) "a"
 ·obtain ⟨g,c,room,rfl,_⟩:=h
  rfl
 ·obtain ⟨g,c,room,rfl,hg,h64,q⟩:=h
  refine ⟨_,(ao (cF (aK aaC (bU gG (by rfl) T.uU uM (aj (pv 0) aA)) (pv 1) (aQ _)) (aC (aO au)) aZ)
   (ao (aL (i:=2) Lw.nd rfl (Or.inl rfl) (abY T.tu (pv 0) ⟨rfl,rfl⟩ rfl))
   (aC (aO (bO (ixG (bB hr)) (pv 2) (pv 1) (fun _ _=>rfl)))))),?_⟩
  refine ⟨_,rfl,alm (.inl hg) ⟨_,rfl,_,_,rfl,rfl,_,rfl,cV (fun h=>?_) (fun h=>?_)⟩⟩
  ·have h':((emb c).length:Int)<=room:=of_decide_eq_true h
   rw [Ai] at h'
   exact q 0 H (by unfold Lz;rw [if_pos tb_g%]) (Same.refl H)
  ·have h':¬ ((emb c).length:Int)<=room:=fun z=>h (decide_eq_true z)
   rw [Ai] at h'
   refine ⟨_,rfl,g,emb c,vals c,rfl,.inl hg,afT c,(by unfold vals;rw [bK];exact h64),fun l d hl hp hs=>?_⟩
   have hlen:d.length=c.length:=by rw [hp.length_eq];unfold vals;rw [bK]
   have e:d[room]? = some d[room]:=jL tb_g%
   refine ⟨_,rfl,_,rfl,fZ (.inl (.inl ak)) (v:=.int d[room]) (Ph (by rw [jN,e];rfl)) (q _ _ ?_ (Same.new hl))⟩
   unfold Lz
   rw [if_neg tb_g%]
   exact ⟨d,hp,hs,e⟩
noncomputable def acG:Sp:=fun vs H Q _=>∃ (g:Addr) (c:Tab) (cut:Int),vs=[.ref g,.int cut]/\H g=some (.dK (emb c))/\(keys c).Nodup/\c.length<=1000 /\
 ∀ (d:Addr) (H':Hp),H d=none->H' d=some (.dK (emb (dz c cut)))->Same H H'->Q (.ref d) H'
theorem Ul (c:Tab) (p:Int × Int) (cut:Int):dz (c++[p]) cut=if cut<p.2 then dz c cut++[(p.1,p.2-cut)] else dz c cut:=by
 unfold dz
 rw [qL,gA]
 by_cases h:cut<p.2
 ·rw [if_pos h];simp [h]
 ·rw [if_neg h];simp [h]
theorem take_snoc {c:Tab} {i:Nat} {p:Int × Int} (h:c[i]? = some p):c.take (i+1)=c.take i++[p]:=by
 rw [uJ,h];rfl
theorem aiZ {c:Tab} {i:Nat} {p:Int × Int} {cut:Int} (hn:(keys c).Nodup) (h:c[i]? = some p) (hc:cut<p.2):put (dz (c.take i) cut) p.1 (p.2-cut)=dz (c.take (i+1)) cut:=by
 rw [take_snoc h,Ul,if_pos hc]
 refine FN fun z=>?_
 have z1:=Pz z
 have e:keys (c.take (i+1))=keys (c.take i)++[p.1]:=by rw [take_snoc h];unfold keys;rw [gA];rfl
 have hn':(keys (c.take (i+1))).Nodup:=ae2 (ae5 _ (ada _ _)) hn
 rw [e,adb] at hn'
 exact hn'.2.2 p.1 z1 p.1 (by simp) rfl
theorem ok'29 (T:Tx K mg A):cg P w K mg base CX0 1 A.Xo A.Dp ["counts","cut"] acG:=by
 k_dat (T.F'29.ok,uG) "a"
 ·obtain ⟨g,c,cut,rfl,_⟩:=h
  rfl
 ·obtain ⟨g,c,cut,rfl,hg,hn,hl,q⟩:=h
  refine ⟨_,(ao (aL (i:=2) uG.nd rfl (Or.inl rfl) R7)
   (ao (ahY mD rfl (pv 0) ⟨rfl,rfl⟩ (CT rfl (ig (dR (i:=3) uG.nd rfl (Or.inl rfl)) (ig (dR (i:=4) uG.nd rfl (Or.inl rfl)) wU))) (aC (cF (aK qT (pv 4) (pv 1) (aQ _)) (aC (yZ (aF dY (pv 4) (pv 1)) (HY (pv 2) (pv 3) (setG (bB hr))))) aZ)))
   (aC (aO (pv 2))))),?_⟩
  intro d hd
  have ngd:g≠d:=aq hg hd
  have hg1:(upd H d (.dK [])) g=some (.dK (emb c)):=by rw [aB ngd];exact hg
  refine ⟨_,rfl,g,emb c,rfl,hg1,fun o wm=>abT (fun i σ H2=>∃ (x y:Option V),σ=[some (.ref g),some (.int cut),some (.ref d),x,y]/\H2 g=some (.frz o (.dK (emb c)))/\H2 d=some (.dK (emb (dz (c.take i) cut)))/\(∀ b u,H b=some u->b≠g->H2 b=some u))
   ⟨none,none,rfl,ak,by rw [aB (aP ngd),ak];rfl,fun b u e hb=>by rw [aB hb,aB (aq e hd)];exact e⟩ (fun i σ H2 ⟨_,_,_,h,_⟩=>h) ?_ ?_⟩
  ·rintro i p t σ H2 hi ⟨x,y,rfl,f1,f2,f3⟩ ht
   obtain ⟨pr,hpr,rfl⟩:=alk hi
   have ngt:g≠t:=aq f1 ht
   have ndt:d≠t:=aq f2 ht
   have f1':(upd H2 t (.tup [.int pr.1,.int pr.2])) g=some (.frz o (.dK (emb c))):=by rw [aB ngt];exact f1
   have f2':(upd H2 t (.tup [.int pr.1,.int pr.2])) d=some (.dK (emb (dz (c.take i) cut))):=by rw [aB ndt];exact f2
   have f3':∀ b u,H b=some u->b≠g->(upd H2 t (.tup [.int pr.1,.int pr.2])) b=some u:=fun b u e hb=>by
    have:=f3 b u e hb
    rw [aB (aq this ht)];exact this
   refine ⟨t,_,rfl,.inl (.inl ak),rfl,_,_,rfl,_,_,rfl,rfl,?_⟩
   refine ⟨_,rfl,_,rfl,_,_,rfl,rfl,_,rfl,cV (fun h=>?_) (fun h=>?_)⟩
   ·have hc:cut<pr.2:=of_decide_eq_true h
    have hz:(emb (dz (c.take i) cut)).length<sizeLine:=by
     rw [Ai]
     have:=ah2 (c.take i) cut
     rw [jf] at this
     exact cH tb_g%
    refine ⟨_,rfl,_,rfl,_,_,rfl,rfl,_,rfl,_,rfl,afW f2' hz ?_⟩
    rw [Ss,aiZ hn hpr hc]
    refine ⟨_,_,rfl,by rw [aB ngd];exact f1',ak,fun b u e hb=>?_⟩
    have nb:b≠d:=aq e hd
    rw [aB nb];exact f3' b u e hb
   ·have hc:¬ cut<pr.2:=fun z=>h (decide_eq_true z)
    refine ⟨_,_,rfl,f1',?_,f3'⟩
    rw [take_snoc hpr,Ul,if_neg hc];exact f2'
  ·rintro σ H2 ⟨x,y,rfl,f1,f2,f3⟩
   rw [Ai,uK] at f2
   refine ⟨g,emb c,o,wm,f1,_,rfl,q d _ hd ?_ fun b u e=>?_⟩
   ·rw [aB (aP ngd)];exact f2
   ·by_cases hb:b=g
    ·subst hb;rw [ak,<- e,hg]
    ·rw [aB hb];exact f3 b u e hb
noncomputable def spFit (A:Ad):Sp:=fun vs H Q _=>∃ (p dx g d:Addr) (room:Nat) (t l:Int) (c:Tab),vs=[.ref p,.ref g]/\H p=some (.ins A.iB dx (fl room t l d))/\H g=some (.dK (emb c))/\(keys c).Nodup/\(∀ p∈c,1<=p.2)/\c.length<1000 /\
 ∀ (d':Addr) (c':Tab) (cut:Int) (H':Hp),H d'=none->rJ room c c' cut->H' p=some (.ins A.iB dx (fl room t (l+cut) d'))->H' d'=some (.dK (emb c'))->But p H H'->Q .non H'
theorem ok'30 (T:Tx K mg A):cg P w K mg base CX0 2 A.Xp A.qm ["self","grown"] (spFit A):=by
 k_dat (T.F'30.ok,uV) "a"
 ·obtain ⟨p,dx,g,d,room,t,l,c,rfl,_⟩:=h
  rfl
 ·obtain ⟨p,dx,g,d,room,t,l,c,rfl,hp,hg,hn,pos,h64,q⟩:=h
  refine ⟨_,(ao (aL (i:=2) uV.nd rfl (Or.inl rfl) (bQ (ok'28 T) tb_g% rfl T.agR T.F'28.kp T.b'28 .nil aX (aj (pv 1) (aj (aJ (pv 0) rfl) aA))))
   (ao (bN (pv 0) (bQ (ok'29 T) tb_g% rfl T.acv T.F'29.kp T.b'29 .nil aX (aj (pv 1) (aj (pv 2) aA))) rfl)
   (aC (bN (pv 0) (aF bM (aJ (pv 0) rfl) (pv 2)) rfl)))),?_⟩
  refine ⟨_,rfl,_,rfl,rdF hp T.f9 T.Lj (QH _ _ _ _) ⟨g,c,room,rfl,hg,h64,fun cut H1 hc s1=>?_⟩⟩
  refine ⟨_,rfl,_,rfl,g,c,cut,rfl,s1 _ _ hg,hn,by lia,fun d' H2 hd' e2 s2=>?_⟩
  have hp2:=s2 _ _ (s1 _ _ hp)
  have npd:p≠d':=aq (s1 _ _ hp) hd'
  k_dat (p,dx,hp2,T.f9,T.zL,4) "f"
  rw [aiY]
  refine ⟨_,rfl,rdF ak T.f9 T.Ln (abk _ _ _ _) ⟨_,rfl,_,_,rfl,rfl,_,rfl,p,_,dx,_,rfl,ak,T.f9,T.Ln,(by show 4<1000;decide),?_⟩⟩
  rw [aiX,dw]
  refine q d' (dz c cut) cut _ (s1.free hd') (hc.alT pos) ak (by rw [aB (aP npd)];exact e2) fun b o e hb=>?_
  rw [aB hb];exact s2 _ _ (s1 _ _ e)
noncomputable def spAdd (A:Ad):Sp:=fun vs H Q _=>∃ (p dx d:Addr) (room:Nat) (t l k v:Int) (c:Tab),vs=[.ref p,.int k,.int v]/\H p=some (.ins A.iB dx (fl room t l d))/\H d=some (.dK (emb c))/\(keys c).Nodup/\(∀ p∈c,1<=p.2)/\1<=v/\c.length<999 /\
 ∀ (d':Addr) (c':Tab) (cut:Int) (H':Hp),H d'=none->rJ room (put c k (low c k+v)) c' cut->H' p=some (.ins A.iB dx (fl room (t+v) (l+cut) d'))->H' d'=some (.dK (emb c'))->But p H H'->Q .non H'
theorem ajL (T:Tx K mg A):cg P w K mg base CX0 3 A.Xq A.qp ["self","thing","weight"] (spAdd A):=by
 k_dat (T.F'31.ok,uW) "a"
 ·obtain ⟨p,dx,d,room,t,l,k,v,c,rfl,_⟩:=h
  rfl
 ·obtain ⟨p,dx,d,room,t,l,k,v,c,rfl,hp,hd,hn,pos,hv,h63,q⟩:=h
  have npd:p≠d:=jP hp hd (by intro z;cases z)
  refine ⟨_,(ao (bN (pv 0) (aF bM (aJ (pv 0) rfl) (pv 2)) rfl)
   (ao (aL (i:=3) uW.nd rfl (Or.inl rfl) (wW Zg (by rfl) T.alz ajV (aj (aJ (pv 0) rfl) aA)))
   (ao (yZ (aF bM (R9 (bB hr) (pv 3) (pv 1) au ⟨rfl,rfl,rfl,rfl⟩) (pv 2)) (HY (pv 3) (pv 1) (setG (bB hr))))
   (aC (cY (bA (pv 0) T.f9 T.Jy (ok'30 T) tb_g% T.b'30 .nil aX (aj (pv 3) aA))))))),?_⟩
  refine ⟨_,rfl,rdF hp T.f9 T.Lk (Uk _ _ _ _) ⟨_,rfl,_,_,rfl,rfl,_,rfl,p,_,dx,_,rfl,hp,T.f9,T.Lk,(by show 4<1000;decide),?_⟩⟩
  rw [aiW]
  have hd1:(upd H p (.ins A.iB dx (fl room (t+v) l d))) d=some (.dK (emb c)):=by rw [aB (aP npd)];exact hd
  refine ⟨_,rfl,rdF ak T.f9 T.zL (Ec _ _ _ _) ⟨d,emb c,rfl,.inl hd1,fun g hg=>?_⟩⟩
  have ngp:p≠g:=fun z=>by rw [<- z,ak] at hg;cases hg
  have hg0:H g=none:=by rw [aB (aP ngp)] at hg;exact hg
  refine ⟨_,rfl,g,rfl,.inl ⟨emb c,.inl ak⟩,_,rfl,_,ajt (.inl ak),?_⟩
  rw [aaO]
  refine ⟨_,rfl,_,_,rfl,rfl,_,rfl,_,rfl,afW ak (by rw [Ai];exact cH tb_g%) ?_⟩
  rw [Ss,dw]
  have hp2:∀ o,(upd (upd H p (.ins A.iB dx (fl room (t+v) l d))) g o) p=some (.ins A.iB dx (fl room (t+v) l d)):=fun o=>by rw [aB ngp];exact ak
  refine ⟨_,rfl,p,dx,_,rfl,hp2 _,oO _ _ _ _ tb_g% tb_g% tb_g% tb_g%,_,rfl,p,dx,g,d,room,t+v,l,_,rfl,hp2 _,ak,afO hn _ _,aaM pos (by have:=zf pos k;lia),?_,fun d' c' cut H' e1 e2 e3 e4 e5=>?_⟩
  ·have:=ahZ c k (low c k+v);lia
  ·have ngd:g≠d':=fun z=>by rw [<- z,ak] at e1;cases e1
   have npd':p≠d':=fun z=>by rw [<- z,hp2] at e1;cases e1
   rw [aB (aP ngd),aB (aP npd')] at e1
   refine q d' c' cut H' e1 e2 e3 e4 fun b o e hb=>e5 b o ?_ hb
   rw [aB (aq e hg0),aB hb];exact e
noncomputable def spLow (A:Ad):Sp:=fun vs H Q _=>∃ (p dx d:Addr) (r t l k:Int) (c:Tab),vs=[.ref p,.int k]/\H p=some (.ins A.iB dx (fl r t l d))/\H d=some (.dK (emb c))/\Q (.int (low c k)) H
theorem LC (T:Tx K mg A):cg P w K mg base CX0 1 A.Xr A.qt ["self","thing"] (spLow A):=by
 k_dat (T.F'32.ok,Fl) "a"
 ·obtain ⟨p,dx,d,r,t,l,k,c,rfl,_⟩:=h
  rfl
 ·obtain ⟨p,dx,d,r,t,l,k,c,rfl,hp,hd,q⟩:=h
  refine ⟨_,(aC (aO (R9 (bB hr) (aJ (pv 0) rfl) (pv 1) au ⟨rfl,rfl,rfl,rfl⟩))),?_⟩
  refine ⟨_,rfl,rdF hp T.f9 T.zL (Ec _ _ _ _) ⟨d,rfl,.inl ⟨emb c,.inl hd⟩,_,rfl,_,ajt (.inl hd),?_⟩⟩
  rw [aaO];exact q
noncomputable def alU (A:Ad):Sp:=fun vs H Q _=>∃ (p dx d:Addr) (r t l k:Int) (c:Tab),vs=[.ref p,.int k]/\H p=some (.ins A.iB dx (fl r t l d))/\H d=some (.dK (emb c))/\Q (.int (low c k+l)) H
theorem Um (T:Tx K mg A):cg P w K mg base CX0 2 A.Xu A.oF ["self","thing"] (alU A):=by
 k_dat (T.F'33.ok,DK) "a"
 ·obtain ⟨p,dx,d,r,t,l,k,c,rfl,_⟩:=h
  rfl
 ·obtain ⟨p,dx,d,r,t,l,k,c,rfl,hp,hd,q⟩:=h
  refine ⟨_,(aC (aO (aF bM (bA (pv 0) T.f9 T.iz (LC T) tb_g% T.acw .nil aX (aj (pv 1) aA)) (aJ (pv 0) rfl)))),?_⟩
  refine ⟨_,rfl,p,dx,_,rfl,hp,oO _ _ _ _ tb_g% tb_g% tb_g% tb_g%,_,rfl,p,dx,d,r,t,l,k,c,rfl,hp,hd,?_⟩
  exact ⟨_,rfl,rdF hp T.f9 T.Ln (abk _ _ _ _) ⟨_,_,rfl,rfl,q⟩⟩
/-- the things that often tells,in rising order -/
noncomputable def Told (c:Tab) (lost total part whole:Int) (ks:List Int):Prop:=∃ srt:List Int,srt.Perm (keys c)/\srt.Pairwise (· <= ·)/\ks=srt.filter fun k=>decide (total*part<(low c k+lost)*whole)
noncomputable def Uo (c:Tab) (lost:Int) (H:Hp):List Addr->List Int->Prop:=Paired fun t k=>H t=some (.tup [.int k,.int (low c k),.int (low c k+lost)])
theorem Uo.same {c:Tab} {lost:Int} {H H':Hp} {ts:List Addr} {ks:List Int} (h:Uo c lost H ts ks) (s:∀ t k,t∈ts->H t=some (.tup k)->H' t=some (.tup k)):Uo c lost H' ts ks:=by
 unfold Uo at h ⊢
 induction h with
 | nil=>exact .nil
 | cons r t ih=>exact .cons (s _ _ gq r) (ih fun t k m e=>s t k (gY _ m) e)
noncomputable def ai0 (A:Ad):Sp:=fun vs H Q _=>∃ (p dx d:Addr) (room:Nat) (t l part whole:Int) (c:Tab),vs=[.ref p,.int part,.int whole]/\H p=some (.ins A.iB dx (fl room t l d))/\H d=some (.dK (emb c))/\room<=1000/\0<=part/\part<=1000000/\0<=whole/\whole<=1000000 /\
 whole<=part*((room:Int)+1)/\c.length<=63 /\
 ∀ (x:Addr) (ts:List Addr) (ks:List Int) (H':Hp),H x=none->(∀ t∈ts,H t=none)->Told c l t part whole ks->H' x=some (.lst (ts.map V.ref))->Uo c l H' ts ks->Same H H'->Q (.ref x) H'
noncomputable def J5 (A:Ad):Sp:=fun vs H Q E=>ai0 A vs H Q E\/∃ (p dx d:Addr) (r t l part whole:Int),vs=[.ref p,.int part,.int whole]/\H p=some (.ins A.iB dx (fl r t l d))/\0<=part/\part<=1000000/\part*(r+1)<whole/\E (.ref A.jy) none H
theorem ajM (T:Tx K mg A):cg P w K mg base (CXE P w) 3 A.Xv A.mQ ["self","part","whole"] (J5 A):=by
 k_dat (T.F'34.okE,jk) "a"
 ·rcases h with ⟨p,dx,d,room,t,l,part,whole,c,rfl,_⟩ | ⟨p,dx,d,r,t,l,part,whole,rfl,_⟩ <;> rfl
 ·skip
  refine ⟨_,(ao (cF (PT.nox (aK pZ (aF fQ (pv 1) (aF bM (aJ (pv 0) rfl) au)) (pv 2) (aQ _))) (aC (Ax Ou T.pH rfl T.Lp (aj O8 aA))) aZ)
   (ao (PS.nox (aL (i:=3) jk.nd rfl (Or.inl rfl) (cN aA)))
   (ao (PS.nox (mH mD rfl (jB (bU (PK rfl) (by rfl) T.tu Ho (aj (aJ (pv 0) rfl) aA))) (dR (i:=4) jk.nd rfl (Or.inl rfl)) (ao (aL (i:=5) jk.nd rfl (Or.inl rfl) (bA (pv 0) T.f9 T.iR (Um T) tb_g% T.agS .nil aX (aj (pv 4) aA)))
   (aC (cF (aK qT (aF fQ (pv 5) (pv 2)) (aF fQ (aJ (pv 0) rfl) (pv 1)) (aQ _)) (aC (cY (En Ek Ei Ej iW (pv 3) (aj (eE (aj (pv 4) (aj (bA (pv 0) T.f9 T.iz (LC T) tb_g% T.acw .nil aX (aj (pv 4) aA)) (aj (pv 5) aA)))) aA)))) aZ)))))
   (aC (PS.nox (aO (pv 3))))))),?_⟩
  rcases h with ⟨p,dx,d,room,t,l,part,whole,c,rfl,hp,hd,hr1,p0,p1,w0,w1,fine,h64,q⟩ | ⟨p,dx,d,r,t,l,part,whole,rfl,hp,p0,p1,fine,q⟩
  rotate_left
  ·refine ⟨_,rfl,_,rfl,rdF hp T.f9 T.Lj (QH _ _ _ _) ⟨_,_,rfl,rfl,_,_,rfl,rfl,qg tb_g% tb_g%,_,rfl,_,_,rfl,rfl,_,rfl,?_⟩⟩
   rw [decide_eq_true tb_g%]
   exact Ih ⟨by show 1<=sizeLine;decide,q⟩
  refine ⟨_,rfl,_,rfl,rdF hp T.f9 T.Lj (QH _ _ _ _) ⟨_,_,rfl,rfl,_,_,rfl,rfl,qg tb_g% tb_g%,_,rfl,_,_,rfl,rfl,_,rfl,?_⟩⟩
  rw [decide_eq_false tb_g%]
  refine lD ⟨(by show 0<=sizeLine;exact bZ _),fun x hx=>?_⟩
  have npx:p≠x:=aq hp hx
  have ndx:d≠x:=aq hd hx
  have hp1:(upd H x (.lst [])) p=some (.ins A.iB dx (fl room t l d)):=by rw [aB npx];exact hp
  have hd1:(upd H x (.lst [])) d=some (.dK (emb c)):=by rw [aB ndx];exact hd
  refine ⟨_,rfl,rdF hp1 T.f9 T.zL (Ec _ _ _ _) (.inl ⟨d,emb c,keys c,rfl,.inl hd1,afU c,(by unfold keys;rw [bK];lia),fun y srt hy hperm S6=>?_⟩)⟩
  have nxy:x≠y:=fun z=>by rw [<- z,ak] at hy;cases hy
  have hy0:H y=none:=by rw [aB (aP nxy)] at hy;exact hy
  refine ⟨y,rfl,⟨_,.inl (.inl ak)⟩,nu (K:=K) (a:=y) (xs:=srt.map V.int) (fun i σ H2=>∃ (ts:List Addr) (x4 x5:Option V),σ=[some (.ref p),some (.int part),some (.int whole),some (.ref x),x4,x5]/\Same H H2/\H2 y=some (.lst (srt.map V.int))/\H2 x=some (.lst (ts.map V.ref))/\ts.length<=i /\
   (∀ t∈ts,H t=none)/\Uo c l H2 ts ((srt.take i).filter fun k=>decide (t*part<(low c k+l)*whole))) ⟨[],none,none,rfl,?_,ak,?_,cJ _,fun _ h=>(nomatch h),?_⟩ (fun i σ H2 _ ⟨_,_,_,_,_,h,_⟩=>.inl (.inl h)) ?_ ?_⟩
  ·exact (Same.new hx).trans (Same.new hy)
  ·rw [aB nxy,ak];rfl
  ·exact .nil
  ·rintro i v σ H2 hi ⟨ts,x4,x5,rfl,s2,hy2,hx2,hl2,hf2,tr2⟩
   have hil:i<srt.length:=by have:=(jK.mp hi).1;rw [bK] at this;exact this
   obtain ⟨k,hk,rfl⟩:∃ z,srt[i]? = some z/\v=V.int z:=by
    rw [jN] at hi
    cases e:srt[i]? with
    | none=>rw [e] at hi;cases hi
    | some z=>rw [e] at hi;exact ⟨z,rfl,(cX hi).symm⟩
   have hlen:srt.length<=63:=by rw [hperm.length_eq];unfold keys;rw [bK];lia
   have tk:(srt.take (i+1))=srt.take i++[k]:=by rw [uJ,hk];rfl
   refine ⟨_,rfl,p,dx,_,rfl,s2 _ _ hp,oO _ _ _ _ tb_g% tb_g% tb_g% tb_g%,_,rfl,p,dx,d,_,_,_,k,c,rfl,s2 _ _ hp,s2 _ _ hd,?_⟩
   refine ⟨_,rfl,_,rfl,_,_,rfl,rfl,fO tb_g% tb_g%,_,rfl,rdF (s2 _ _ hp) T.f9 T.Lk (Uk _ _ _ _) ⟨_,rfl,_,_,rfl,rfl,fO tb_g% tb_g%,_,_,rfl,rfl,_,rfl,cV (fun h=>?_) (fun h=>?_)⟩⟩
   ·have hh:t*part<(low c k+l)*whole:=of_decide_eq_true h
    refine ⟨_,rfl,.inl ⟨rfl,_,.inl (.inl hx2)⟩,?_⟩
    refine ⟨_,rfl,_,rfl,p,dx,_,rfl,s2 _ _ hp,oO _ _ _ _ tb_g% tb_g% tb_g% tb_g%,_,rfl,p,dx,d,_,_,_,k,c,rfl,s2 _ _ hp,s2 _ _ hd,?_⟩
    refine ⟨_,rfl,(by show 3<=sizeLine;decide),fun u hu=>?_⟩
    have nxu:x≠u:=aq hx2 hu
    have nyu:y≠u:=aq hy2 hu
    refine ⟨x,_,_,rfl,rfl,by rw [aB nxu];exact hx2,?_,?_⟩
    ·rw [bK];exact cH tb_g%
    refine ⟨ts++[u],_,_,rfl,fun b o e=>?_,?_,?_,?_,fun t ht=>?_,?_⟩
    ·rw [aB (aq e hx),aB (aq (s2 b o e) hu)];exact s2 b o e
    ·rw [aB (aP nxy),aB nyu];exact hy2
    ·rw [ak,gA];rfl
    ·rw [eV];show ts.length+1<=i+1;lia
    ·rcases gw.mp ht with m | m
     ·exact hf2 t m
     ·have e:t=u:=by simpa using m
      rw [e];exact s2.free hu
    ·rw [tk,qL]
     have e1:([k].filter fun k=>decide (t*part<(low c k+l)*whole))=[k]:=by simp [hh]
     rw [e1]
     refine W4 (tr2.same fun t' k' m e=>?_) ?_
     ·rw [aB (fun z=>by rw [z,hx2] at e;cases e),aB (aq e hu)];exact e
     ·show (upd (upd H2 u _) x _) u=_
      rw [aB (aP nxu),ak]
   ·have hh:¬ t*part<(low c k+l)*whole:=fun z=>h (decide_eq_true z)
    refine ⟨ts,_,_,rfl,s2,hy2,hx2,by lia,hf2,?_⟩
    rw [tk,qL]
    have e1:([k].filter fun k=>decide (t*part<(low c k+l)*whole))=[]:=by simp [hh]
    rw [e1,vf];exact tr2
  ·rintro σ H2 ⟨ts,x4,x5,rfl,s2,hy2,hx2,hl2,hf2,tr2⟩
   rw [bK,uK] at tr2
   exact ⟨_,rfl,q x ts _ H2 hx hf2 ⟨srt,hperm,S6,rfl⟩ hx2 tr2 s2⟩
noncomputable def bf (cu lK:V):List (Str × V):=[("span",cu),("sums",lK)]
theorem abl (cu lK:V):(bf cu lK).lookup ("span" : Str)=some cu:=by rfl
theorem QK (cu lK:V):(bf cu lK).lookup ("sums" : Str)=some lK:=by rfl
theorem alV (cu lK:V):aD "sums" lK (aD "span" cu [])=bf cu lK:=by
 unfold bf
 walk_at "rec"
theorem Eu (cu lK y:V):aD "sums" y (bf cu lK)=bf cu y:=by
 unfold bf
 walk_at "rec"
theorem bfN {cu lK:V} {m:Str} (h:m∉[("span" : Str),("sums" : Str)]):(bf cu lK).lookup m=none:=by
 simp only [cA,lN,or_false,not_or] at h
 obtain ⟨J6,aad⟩:=h
 unfold bf
 rw [bW J6,bW aad]
 rfl
theorem ajN (cu lK:V) {m:Str} (J6:¬ m = "span") (aad:¬ m = "sums"):(bf cu lK).lookup m=none:=by
 unfold bf
 rw [bW J6,bW aad]
 rfl
structure Q4 where
 a:Int
 b:Int
 c:Int
 d:Int
noncomputable def L4 (q:Q4):List Int:=[q.a,q.b,q.c,q.d]
noncomputable def addQ (q p:Q4):Q4:=⟨q.a+p.a,q.b+p.b,q.c+p.c,q.d+p.d⟩
noncomputable def pwQ (t w:Int):Q4:=⟨w,w*t,w*t*t,w*t*t*t⟩
noncomputable def iV:Q4:=⟨0,0,0,0⟩
noncomputable def ahm (t w:Int):Nat->Int
 | 0=>w
 | n+1=>ahm t w n*t
/-- a Balance -/
structure Bn (A:Ad) (H:Hp) (p dx l:Addr) (s:Int) (q:Q4):Prop where
 o:H p=some (.ins A.qJ dx (bf (.int s) (.ref l)))
 l:H l=some (.lst ((L4 q).map V.int))
theorem Bn.same {A:Ad} {H H':Hp} {p dx l:Addr} {s:Int} {q:Q4} (h:Bn A H p dx l s q) (z:Same H H'):Bn A H' p dx l s q:=⟨z _ _ h.o,z _ _ h.l⟩
theorem Bn.but {A:Ad} {H H':Hp} {p dx l x C e:Addr} {fs:List (Str × V)} {s:Int} {q:Q4} (h:Bn A H p dx l s q) (z:But x H H') (hq:H x=some (.ins C e fs)) (m:p≠x):Bn A H' p dx l s q:=⟨z _ _ h.o m,z _ _ h.l (jP h.l hq (by intro z;cases z))⟩
noncomputable def acH:Sp:=fun vs H Q _=>∃ (l:Addr) (t w:Int) (q:Q4),vs=[.ref l,.int t,.int w]/\H l=some (.lst ((L4 q).map V.int))/\0<=t/\t<2 ^ 64/\∀ (l':Addr) (H':Hp),H l'=none->H' l'=some (.lst ((L4 (addQ q (pwQ t w))).map V.int))->Same H H'->Q (.ref l') H'
theorem mV {q:Q4} {i:Nat} {x:V} (h:((L4 q).map V.int)[i]? = some x):(i=0/\x = .int q.a)\/(i=1/\x = .int q.b)\/(i=2/\x = .int q.c)\/(i=3/\x = .int q.d):=by
 match i,h with
 | 0,h=>exact .inl ⟨rfl,(cX h).symm⟩
 | 1,h=>exact .inr (.inl ⟨rfl,(cX h).symm⟩)
 | 2,h=>exact .inr (.inr (.inl ⟨rfl,(cX h).symm⟩))
 | 3,h=>exact .inr (.inr (.inr ⟨rfl,(cX h).symm⟩))
 | n+4,h=>simp [L4] at h
theorem ahn (T:Tx K mg A):cg P w K mg base CX0 1 A.Xw A.zG ["sums","thing","weight"] acH:=by
 k_dat (T.F'35.ok,nJ) "a"
 ·obtain ⟨l,t,w,q,rfl,_⟩:=h
  rfl
 ·obtain ⟨l,t,w,q,rfl,hl,t0,t1,k⟩:=h
  refine ⟨_,(ao (aL (i:=3) nJ.nd rfl (Or.inl rfl) (cN aA))
   (ao (aL (i:=4) nJ.nd rfl (Or.inl rfl) (pv 2))
   (ao (mH mD rfl (jB (pv 0)) (dR (i:=5) nJ.nd rfl (Or.inl rfl)) (ao (cY (En Ek Ei Ej iW (pv 3) (aj (aF bM (pv 5) (pv 4)) aA)))
   (aC (aL (i:=4) nJ.nd rfl (Or.inl rfl) (aF fQ (pv 4) (pv 1))))))
   (aC (aO (pv 3)))))),?_⟩
  refine ⟨(by show 0<=sizeLine;decide),fun D hD=>?_⟩
  refine ⟨_,rfl,?_⟩
  have sD:Same H (upd H D (.lst [])):=Same.new hD
  refine ⟨_,rfl,l,rfl,⟨_,.inl (.inl (sD _ _ hl))⟩,nu (K:=K) (a:=l) (xs:=(L4 q).map V.int) (fun i σ H2=>∃ x,σ=[some (.ref l),some (.int t),some (.int w),some (.ref D),some (.int (ahm t w i)),x]/\H2 D=some (.lst (((L4 (addQ q (pwQ t w))).take i).map V.int))/\Same H H2) ⟨none,rfl,ak,sD⟩ (fun i σ H2 _ ⟨_,_,_,s⟩=>.inl (.inl (s _ _ hl))) ?_ ?_⟩
  ·rintro i y σ H2 hi ⟨x,rfl,f,s2⟩
   have hz:∀ n:Nat,n<=4->(((L4 (addQ q (pwQ t w))).take n).map V.int).length<sizeLine:=fun n hn=>cH (by rw [bK,jf];lia)
   have keep:∀ L b o,H b=some o->(upd H2 D L) b=some o:=fun L b o e=>by rw [aB (aq e hD)];exact s2 _ _ e
   rcases mV hi with ⟨rfl,rfl⟩ | ⟨rfl,rfl⟩ | ⟨rfl,rfl⟩ | ⟨rfl,rfl⟩
   ·refine ⟨_,rfl,.inl ⟨rfl,_,.inl (.inl f)⟩,_,rfl,_,rfl,_,_,rfl,rfl,D,_,_,rfl,rfl,f,hz 0 (by decide),?_⟩
    exact ⟨_,rfl,_,rfl,_,_,rfl,rfl,fO tb_g% t1,_,rfl,ak,keep _⟩
   ·refine ⟨_,rfl,.inl ⟨rfl,_,.inl (.inl f)⟩,_,rfl,_,rfl,_,_,rfl,rfl,D,_,_,rfl,rfl,f,hz 1 (by decide),?_⟩
    exact ⟨_,rfl,_,rfl,_,_,rfl,rfl,fO tb_g% t1,_,rfl,ak,keep _⟩
   ·refine ⟨_,rfl,.inl ⟨rfl,_,.inl (.inl f)⟩,_,rfl,_,rfl,_,_,rfl,rfl,D,_,_,rfl,rfl,f,hz 2 (by decide),?_⟩
    exact ⟨_,rfl,_,rfl,_,_,rfl,rfl,fO tb_g% t1,_,rfl,ak,keep _⟩
   ·refine ⟨_,rfl,.inl ⟨rfl,_,.inl (.inl f)⟩,_,rfl,_,rfl,_,_,rfl,rfl,D,_,_,rfl,rfl,f,hz 3 (by decide),?_⟩
    exact ⟨_,rfl,_,rfl,_,_,rfl,rfl,fO tb_g% t1,_,rfl,ak,keep _⟩
  ·rintro σ H2 ⟨x,rfl,f,s2⟩
   exact ⟨_,rfl,k D H2 hD f s2⟩
noncomputable def ai1 (A:Ad):Sp:=fun vs H Q _=>∃ (p dx:Addr) (s:Int),vs=[.ref p,.int s]/\H p=some (.ins A.qJ dx [])/\∀ (d:Addr) (H':Hp),H d=none->Bn A H' p dx d s iV->But p H H'->Q .non H'
theorem ok'36 (T:Tx K mg A):cg P w K mg base CX0 1 A.Q6 A.qu ["self","span"] (ai1 A):=by
 k_dat (T.F'36.ok,Fo) "a"
 ·obtain ⟨p,dx,s,rfl,_⟩:=h
  rfl
 ·obtain ⟨p,dx,sp,rfl,hp,q⟩:=h
  refine ⟨_,(ao (bN (pv 0) (pv 1) rfl)
   (aC (bN (pv 0) (cN (aj au (aj au (aj au (aj au aA))))) rfl))),?_⟩
  refine ⟨_,rfl,_,rfl,p,_,dx,[],rfl,hp,T.sW,T.Jt,(by show 0<1000;decide),?_⟩
  refine ⟨(by show 4<=sizeLine;decide),fun d hd=>?_⟩
  have npd:p≠d:=fun z=>by rw [<- z,ak] at hd;cases hd
  rw [aB (aP npd)] at hd
  refine ⟨_,rfl,p,_,dx,_,rfl,(by rw [aB npd];exact ak),T.sW,T.wG,(by show 1<1000;decide),?_⟩
  refine q d _ hd ⟨HD ak (by rw [alV]),by rw [aB (aP npd),ak];rfl⟩ fun b o e hb=>?_
  rw [aB hb,aB (aq e hd),aB hb]
  exact e
noncomputable def aho (A:Ad) (sg:Bool):Sp:=fun vs H Q _=>∃ (p dx l:Addr) (s t w:Int) (q:Q4),vs=[.ref p,.int t,.int w]/\Bn A H p dx l s q/\0<=t/\t<2 ^ 64/\∀ (l':Addr) (H':Hp),Bn A H' p dx l' s (addQ q (pwQ t (if sg then -w else w)))->But p H H'->H l'=none->Q .non H'
theorem ok'37 (T:Tx K mg A):cg P w K mg base CX0 2 A.Xx A.rP ["self","thing","weight"] (aho A false):=by
 k_dat (T.F'37.ok,JR) "a"
 ·obtain ⟨p,dx,l,sp,t,w,q,rfl,_⟩:=h
  rfl
 ·obtain ⟨p,dx,l,sp,t,w,q,rfl,hb,t0,t1,k⟩:=h
  refine ⟨_,(aC (bN (pv 0) (bQ (ahn T) tb_g% rfl T.zO T.F'35.kp T.b'35 .nil aX (aj (aJ (pv 0) rfl) (aj (pv 1) (aj (pv 2) aA)))) rfl)),?_⟩
  refine ⟨_,rfl,rdF hb.o T.sW T.wG (QK _ _) ⟨_,rfl,_,rfl,l,t,w,q,rfl,hb.l,t0,t1,fun l' H1 nl' f1 s1=>?_⟩⟩
  refine ⟨_,rfl,p,_,dx,_,rfl,s1 _ _ hb.o,T.sW,T.wG,(by show 2<1000;decide),?_⟩
  rw [Eu]
  have npl:l'≠p:=aP (aq hb.o nl')
  exact k l' _ ⟨ak,by rw [aB npl];exact f1⟩ (fun b o e m=>by rw [aB m];exact s1 _ _ e) nl'
theorem ok'38 (T:Tx K mg A):cg P w K mg base CX0 2 A.Xy A.qw ["self","thing","weight"] (aho A true):=by
 k_dat (T.F'38.ok,Fp) "a"
 ·obtain ⟨p,dx,l,sp,t,w,q,rfl,_⟩:=h
  rfl
 ·obtain ⟨p,dx,l,sp,t,w,q,rfl,hb,t0,t1,k⟩:=h
  refine ⟨_,(aC (bN (pv 0) (bQ (ahn T) tb_g% rfl T.zO T.F'35.kp T.b'35 .nil aX (aj (aJ (pv 0) rfl) (aj (pv 1) (aj (RX Ia (pv 2)) aA)))) rfl)),?_⟩
  refine ⟨_,rfl,rdF hb.o T.sW T.wG (QK _ _) ⟨_,rfl,_,rfl,_,rfl,l,t,-w,q,rfl,hb.l,t0,t1,fun l' H1 nl' f1 s1=>?_⟩⟩
  refine ⟨_,rfl,p,_,dx,_,rfl,s1 _ _ hb.o,T.sW,T.wG,(by show 2<1000;decide),?_⟩
  rw [Eu]
  have npl:l'≠p:=aP (aq hb.o nl')
  exact k l' _ ⟨ak,by rw [aB npl];exact f1⟩ (fun b o e m=>by rw [aB m];exact s1 _ _ e) nl'
theorem acI {n g:Int} (hg:0<g) (hn:0<=n):n<((g+n / g) / 2+1)*((g+n / g) / 2+1):=by
 have h1:n<(n / g+1)*g:=Int.lt_ediv_add_one_mul_self n hg
 have h0:0<=n / g:=aey hn tb_g%
 generalize n / g=q at *
 generalize hb:(g+q) / 2=b
 have h2:g+q+1<=2*(b+1):=by lia
 have h3:(g+q+1)*(g+q+1)<=(2*(b+1))*(2*(b+1)):=vK h2 h2 tb_g% tb_g%
 have h4:0<=(g-(q+1))*(g-(q+1)):=by
  rcases Int.le_total 0 (g-(q+1)) with h | h
  ·exact Wu h h
  ·exact Int.mul_nonneg_of_nonpos_of_nonpos h h
 have e1:(g+q+1)*(g+q+1)=(g-(q+1))*(g-(q+1))+4*((q+1)*g):=by grind
 have e2:(2*(b+1))*(2*(b+1))=4*((b+1)*(b+1)):=by grind
 lia
theorem acJ {n g:Int} (hg:0<g) (h:¬ (g+n / g) / 2<g):g*g<=n:=by
 have h1:g<=n / g:=by lia
 have h2:n / g*g<=n:=Int.ediv_mul_le n tb_g%
 have h3:g*g<=n / g*g:=zZ h1 tb_g%
 lia
theorem ahp {n g:Int} (hg:0<g) (hn:0<n):0<(g+n / g) / 2:=by
 have h0:0<=n / g:=aey tb_g% tb_g%
 by_cases h:g=1
 ·subst h
  rw [Int.ediv_one];lia
 ·lia
noncomputable def dueL (n:Int):List Int:=[n,n*(n-1) / 2,n*(n-1)*(2*n-1) / 6,n*(n-1) / 2*(n*(n-1) / 2)]
noncomputable def spDue:Sp:=fun vs H Q _=>∃ n:Int,vs=[.int n]/\1<=n/\n<=2000000000/\∀ p,H p=none->Q (.ref p) (upd H p (.lst ((dueL n).map V.int)))
theorem ok'39 (T:Tx K mg A):cg P w K mg base CX0 1 A.Xz A.zH ["span"] spDue:=by
 k_dat (T.F'39.ok,wK) "a"
 ·obtain ⟨n,rfl,_⟩:=h
  rfl
 ·obtain ⟨n,rfl,h1,h2,q⟩:=h
  refine ⟨_,(ao (aL (i:=1) wK.nd rfl (Or.inl rfl) (aF cZ (aF fQ (pv 0) (aF dY (pv 0) au)) au))
   (ao (aL (i:=2) wK.nd rfl (Or.inl rfl) (aF cZ (aF fQ (aF fQ (pv 0) (aF dY (pv 0) au)) (aF dY (aF fQ au (pv 0)) au)) au))
   (aC (aO (cN (aj (pv 0) (aj (pv 1) (aj (pv 2) (aj (aF fQ (pv 1) (pv 1)) aA))))))))),?_⟩
  have b0:0<=n*(n-1):=Wu tb_g% tb_g%
  have b1:n*(n-1)<=2000000000*2000000000:=vK h2 tb_g% tb_g% tb_g%
  refine ⟨_,rfl,_,rfl,_,_,rfl,rfl,_,_,rfl,rfl,qg tb_g% tb_g%,_,_,rfl,rfl,⟨by decide,by decide⟩,?_⟩
  refine ⟨_,rfl,_,rfl,_,_,rfl,rfl,_,_,rfl,rfl,qg tb_g% tb_g%,_,rfl,_,_,rfl,rfl,qg (by decide) (by decide),_,_,rfl,rfl,_,_,rfl,rfl,fO tb_g% tb_g%,_,_,rfl,rfl,⟨by decide,by decide⟩,?_⟩
  refine ⟨_,rfl,_,rfl,_,rfl,_,rfl,_,rfl,_,_,rfl,rfl,qg tb_g% tb_g%,(by show 4<=sizeLine;decide),fun p hp=>q p hp⟩
noncomputable def alW:Sp:=fun vs H Q _=>∃ n:Int,vs=[.int n]/\0<=n/\n<2 ^ 2000/\∀ r:Int,0<=r->r*r<=n->n<(r+1)*(r+1)->Q (.int r) H
noncomputable def ai2 (σ:St) (_:Hp):Nat:=match σ with
 | [_,some (.int x),_,_]=>x.toNat
 | _=>0
theorem acK (n:Int):(((sy n:Nat):Int)+1) / 2=(((sy n+1) / 2:Nat):Int):=by lia
theorem ok'40 (T:Tx K mg A):cg P w K mg base CX0 1 A.XC A.ZS ["number"] alW:=by
 k_dat (T.F'40.ok,uH) "a"
 ·obtain ⟨n,rfl,_⟩:=h
  rfl
 ·obtain ⟨n,rfl,h0,h1,q⟩:=h
  refine ⟨_,(ao (cF (aK fY (pv 0) au (aQ _)) (aC (aO au)) aZ)
   (ao (aL (i:=1) uH.nd rfl (Or.inl rfl) au)
   (ao (mH mD rfl (CV rfl T.Qn (aj (aF cZ (aF bM (alb PySem.F.plainAttrs_int aeD PySem.F.type_int_bit_length aiv (pv 0)) au) au) aA)) (dR (i:=2) uH.nd rfl (Or.inl rfl)) (aC (aL (i:=1) uH.nd rfl (Or.inl rfl) (aF fQ (pv 1) au))))
   (ao (aL (i:=3) uH.nd rfl (Or.inl rfl) (aF cZ (aF bM (pv 1) (aF Je (pv 0) (pv 1))) au))
   (ao (vR mD (aK pZ (pv 3) (pv 1) (aQ _)) (ao (aL (i:=1) uH.nd rfl (Or.inl rfl) (pv 3))
   (aC (aL (i:=3) uH.nd rfl (Or.inl rfl) (aF cZ (aF bM (pv 1) (aF Je (pv 0) (pv 1))) au)))))
   (aC (aO (pv 1)))))))),?_⟩
  k_dat h "e"
  ·have e:n=0:=V.int.inj (of_decide_eq_true h)
   exact q 0 tb_g% tb_g% tb_g%
  ·have ne:n≠0:=fun z=>h (decide_eq_true (congrArg V.int z))
   have hb:=bits_le (Lg h0 h1)
   have hb2:=aix h0
   generalize hbb:sy n=b at *
   refine ⟨_,rfl,rfl,n,rfl,rfl,_,_,rfl,rfl,_,_,rfl,rfl,⟨by decide,by decide⟩,?_⟩
   refine ⟨(((b+1) / 2:Nat):Int),by show [V.int ((((sy n:Nat):Int)+1) / 2)]=_;rw [acK,hbb],by lia,by lia,CZ (n:=(b+1) / 2) (fun i σ H2=>∃ x,σ=[some (.int n),some (.int (2 ^ i)),x,none]/\H2=H) ⟨none,rfl,rfl⟩ ?_ ?_⟩
   ·rintro i σ H2 hi ⟨x,rfl,rfl⟩
    refine ⟨_,rfl,_,_,rfl,rfl,fO (by decide) (by decide),some (.int (0+(i:Int))),?_,rfl⟩
    rw [nU];rfl
   ·rintro σ H2 ⟨x,rfl,rfl⟩
    have g0:(0:Int)<2 ^ ((b+1) / 2):=Oq (by decide)
    have g1:(2:Int) ^ ((b+1) / 2)<2 ^ 1100:=by
     have:(2:Nat) ^ ((b+1) / 2)<2 ^ 1100:=Nat.pow_lt_pow_right (by decide) tb_g%
     exact_mod_cast this
    have g2:n<(2 ^ ((b+1) / 2)+1)*(2 ^ ((b+1) / 2)+1):=by
     have e:(2:Int) ^ b<=2 ^ ((b+1) / 2)*2 ^ ((b+1) / 2):=by
      rw [<- Ot]
      have:(2:Nat) ^ b<=2 ^ ((b+1) / 2+(b+1) / 2):=Cr (by decide) tb_g%
      exact_mod_cast this
     have:=vK (show (2:Int) ^ ((b+1) / 2)<=2 ^ ((b+1) / 2)+1 by lia) (show (2:Int) ^ ((b+1) / 2)<=2 ^ ((b+1) / 2)+1 by lia) tb_g% tb_g%
     lia
    generalize (2:Int) ^ ((b+1) / 2)=g at g0 g1 g2
    refine ⟨_,rfl,_,rfl,_,rfl,_,_,rfl,rfl,⟨g0,1100,by decide,g1⟩,_,_,rfl,rfl,_,_,rfl,rfl,⟨by decide,by decide⟩,?_⟩
    refine vU (fun σ H'=>∃ g:Int,σ=[some (.int n),some (.int g),x,some (.int ((g+n / g) / 2))]/\0<g/\g<2 ^ 1100/\n<(g+1)*(g+1)/\H'=H2) ai2 ⟨g,rfl,g0,g1,g2,rfl⟩ ?_
     (fun σ H Q Q' hq ⟨v,e,v',e',i,j,e1,e2,k,e3,q⟩=>⟨v,e,v',e',i,j,e1,e2,k,e3,hq _ _ q⟩)
    rintro σ H' ⟨g,rfl,g0,g1,g2,rfl⟩
    refine ⟨_,rfl,_,rfl,_,_,rfl,rfl,_,rfl,cV (fun h=>?_) (fun h=>?_)⟩
    ·have hlt:(g+n / g) / 2<g:=of_decide_eq_true h
     have p0:=ahp g0 (show 0<n by lia)
     have p1:=acI g0 h0
     generalize (g+n / g) / 2=g' at hlt p0 p1
     refine ⟨_,rfl,_,rfl,_,rfl,_,rfl,_,_,rfl,rfl,⟨p0,1100,by decide,by lia⟩,_,_,rfl,rfl,_,_,rfl,rfl,⟨by decide,by decide⟩,⟨g',rfl,p0,by lia,p1,rfl⟩,?_⟩
     show g'.toNat<g.toNat
     lia
    ·have hlt:¬ (g+n / g) / 2<g:=fun z=>h (decide_eq_true z)
     exact ⟨_,rfl,q g tb_g% (acJ g0 hlt) g2⟩
noncomputable def Fz (n:Int):Q4:=⟨n,n*(n-1) / 2,n*(n-1)*(2*n-1) / 6,n*(n-1) / 2*(n*(n-1) / 2)⟩
noncomputable def Sm (q:Q4):Prop:=q.a.natAbs<2 ^ 200/\q.b.natAbs<2 ^ 200/\q.c.natAbs<2 ^ 200/\q.d.natAbs<2 ^ 200
/-- pairs in the heap -/
noncomputable abbrev Po:=Addr × (Int × Int)
structure Pos (H:Hp) (l:Addr) (ps:List Po):Prop where
 l:H l=some (.lst (ps.map fun p=>V.ref p.1))
 t:∀ p∈ps,H p.1=some (.tup [.int p.2.1,.int p.2.2])
noncomputable def po (ps:List Po):List (Int × Int):=ps.map (·.2)
theorem Pos.same {H H':Hp} {l:Addr} {ps:List Po} (h:Pos H l ps) (s:Same H H'):Pos H' l ps:=⟨s _ _ h.l,fun p m=>s _ _ (h.t p m)⟩
theorem Uq {a b:Int} (hb:b≠0):(a.fdiv b).natAbs<=a.natAbs:=by
 rcases Int.lt_or_lt_of_ne hb with h | h
 ·rw [<- Int.neg_fdiv_neg,Hx _ tb_g%]
  have:=Hy (-a) (-b)
  rw [Int.natAbs_neg] at this
  exact this
 ·rw [Hx _ tb_g%]
  exact Hy a b
theorem jx {a b:Int} {n m:Nat} (ha:a.natAbs<2 ^ n) (hb:b.natAbs<2 ^ m):(a*b).natAbs<2 ^ (n+m):=by
 rw [vL,Nat.pow_add]
 exact Nat.mul_lt_mul'' ha hb
theorem qI {a b:Int} {n:Nat} (ha:a.natAbs<2 ^ n) (hb:b.natAbs<2 ^ n):(a-b).natAbs<2 ^ (n+1):=by
 have:=aex a b
 rw [pN];lia
theorem J7 {a:Int} {n m:Nat} (h:a.natAbs<2 ^ n) (hm:n<=m):a.natAbs<2 ^ m:=fW h (Cr (by decide) hm)
noncomputable def bend (q:Q4):Int:=q.b*q.b-q.a*q.c
noncomputable def mF (q:Q4):Int:=(q.b*q.c-q.a*q.d).fdiv (bend q)
noncomputable def QL (q:Q4):Int:=(q.c*q.c-q.b*q.d).fdiv (bend q)
noncomputable def gM (q:Q4):Int:=mF q*mF q-4*QL q
/-- what pairs_for tells -/
inductive Tof (q:Q4):Option (List (Int × Int))->Prop
 | zero (h:q=iV):Tof q (some [])
 | abm (h:q≠iV) (hb:bend q=0) (ha:q.a=0):Tof q none
 | one (h:q≠iV) (hb:bend q=0) (ha:q.a≠0):Tof q (some [(q.b.fdiv q.a,q.a)])
 | abn (h:q≠iV) (hb:bend q≠0) (hs:gM q<1):Tof q none
 | two (h:q≠iV) (hb:bend q≠0) (hs:1<=gM q) (d:Int) (d1:1<=d) (e1:d*d<=gM q) (e2:gM q<(d+1)*(d+1)) :
   Tof q (some [((mF q-d) / 2,q.a-(q.b-(mF q-d) / 2*q.a) / d),((mF q-d) / 2+d,(q.b-(mF q-d) / 2*q.a) / d)])
theorem abo {q p:Q4}:L4 q=L4 p↔q=p:=by
 refine ⟨fun h=>?_,fun h=>by rw [h]⟩
 obtain ⟨a,b,c,d⟩:=q
 obtain ⟨a',b',c',d'⟩:=p
 unfold L4 at h
 simp only [akY] at h
 obtain ⟨h1,h2,h3,h4,_⟩:=h
 subst h1 h2 h3 h4
 rfl
noncomputable def spOne:Sp:=fun vs H Q _=>∃ (l:Addr) (q:Q4),vs=[.ref l]/\H l=some (.lst ((L4 q).map V.int))/\Sm q/\(q.a=0->Q .non H)/\(q.a≠0->∀ (x:Addr) (ps:List Po) (H':Hp),po ps=[(q.b.fdiv q.a,q.a)]->Pos H' x ps->Same H H'->H x=none->Q (.ref x) H')
theorem ok'41 (T:Tx K mg A):cg P w K mg base CX0 1 A.XD A.zJ ["rest"] spOne:=by
 k_dat (T.F'41.ok,Uc) "a"
 ·obtain ⟨l,q,rfl,_⟩:=h
  rfl
 ·obtain ⟨l,q,rfl,hl,sm,k0,k1⟩:=h
  refine ⟨_,(ao (cF (aK fY (bO (ixG (bB hr)) (pv 0) au (fun _ _=>rfl)) au (aQ _)) (aC (aO nY)) aZ)
   (aC (aO (cN (aj (eE (aj (aF Dl (bO (ixG (bB hr)) (pv 0) au (fun _ _=>rfl)) (bO (ixG (bB hr)) (pv 0) au (fun _ _=>rfl))) (aj (bO (ixG (bB hr)) (pv 0) au (fun _ _=>rfl)) aA))) aA))))),?_⟩
  refine ⟨_,rfl,fZ (.inl (.inl hl)) (v:=.int q.a) rfl ⟨rfl,_,rfl,cV (fun h=>?_) (fun h=>?_)⟩⟩
  ·exact k0 (V.int.inj (of_decide_eq_true h))
  ·have ha:q.a≠0:=fun z=>h (decide_eq_true (congrArg V.int z))
   refine ⟨_,rfl,fZ (.inl (.inl hl)) (v:=.int q.b) rfl ⟨_,rfl,fZ (.inl (.inl hl)) (v:=.int q.a) rfl ⟨_,_,rfl,rfl,⟨ha,200,by decide,sm.1⟩,_,rfl,fZ (.inl (.inl hl)) (v:=.int q.a) rfl ⟨(by show 2<=sizeLine;decide),fun t ht=>⟨(by show 1<=sizeLine;decide),fun x hx=>?_⟩⟩⟩⟩⟩
   have s1:Same H (upd H t (.tup [.int (q.b.fdiv q.a),.int q.a])):=Same.new ht
   refine k1 ha x [(t,(q.b.fdiv q.a,q.a))] _ rfl ⟨ak,fun p m=>?_⟩ (s1.trans (Same.new hx)) (s1.free hx)
   rw [gZ.mp m]
   exact (Same.new hx) _ _ ak
noncomputable def spTwo:Sp:=fun vs H Q _=>∃ (l:Addr) (q:Q4),vs=[.ref l,.int (bend q)]/\H l=some (.lst ((L4 q).map V.int))/\Sm q/\bend q≠0/\(gM q<1->Q .non H)/\(1<=gM q->∀ d:Int,1<=d->d*d<=gM q->gM q<(d+1)*(d+1)->∀ (x:Addr) (ps:List Po) (H':Hp),po ps=[((mF q-d) / 2,q.a-(q.b-(mF q-d) / 2*q.a) / d),((mF q-d) / 2+d,(q.b-(mF q-d) / 2*q.a) / d)]->Pos H' x ps->Same H H'->H x=none->Q (.ref x) H')
theorem ok'42 (T:Tx K mg A):cg P w K mg base CX0 2 A.XF A.wA ["rest","bend"] spTwo:=by
 k_dat (T.F'42.ok,iJ) "a"
 ·obtain ⟨l,q,rfl,_⟩:=h
  rfl
 ·obtain ⟨l,q,rfl,hl,sm,hb,k0,k1⟩:=h
  refine ⟨_,(ao (aL (i:=2) iJ.nd rfl (Or.inl rfl) (aF Dl (aF dY (aF qY (bO (ixG (bB hr)) (pv 0) au (fun _ _=>rfl)) (bO (ixG (bB hr)) (pv 0) au (fun _ _=>rfl))) (aF qY (bO (ixG (bB hr)) (pv 0) au (fun _ _=>rfl)) (bO (ixG (bB hr)) (pv 0) au (fun _ _=>rfl)))) (pv 1)))
   (ao (aL (i:=3) iJ.nd rfl (Or.inl rfl) (aF Dl (aF dY (aF qY (bO (ixG (bB hr)) (pv 0) au (fun _ _=>rfl)) (bO (ixG (bB hr)) (pv 0) au (fun _ _=>rfl))) (aF qY (bO (ixG (bB hr)) (pv 0) au (fun _ _=>rfl)) (bO (ixG (bB hr)) (pv 0) au (fun _ _=>rfl)))) (pv 1)))
   (ao (aL (i:=4) iJ.nd rfl (Or.inl rfl) (aF dY (aF qY (pv 2) (pv 2)) (aF fQ au (pv 3))))
   (ao (cF (aK pZ (pv 4) au (aQ _)) (aC (aO nY)) aZ)
   (ao (aL (i:=5) iJ.nd rfl (Or.inl rfl) (bQ (ok'40 T) tb_g% rfl T.alx T.F'40.kp T.b'40 .nil aX (aj (pv 4) aA)))
   (ao (aL (i:=6) iJ.nd rfl (Or.inl rfl) (aF cZ (aF dY (pv 2) (pv 5)) au))
   (ao (aL (i:=7) iJ.nd rfl (Or.inl rfl) (aF Je (aF dY (bO (ixG (bB hr)) (pv 0) au (fun _ _=>rfl)) (aF qY (pv 6) (bO (ixG (bB hr)) (pv 0) au (fun _ _=>rfl)))) (pv 5)))
   (aC (aO (cN (aj (eE (aj (pv 6) (aj (aF dY (bO (ixG (bB hr)) (pv 0) au (fun _ _=>rfl)) (pv 7)) aA))) (aj (eE (aj (aF bM (pv 6) (pv 5)) (aj (pv 7) aA))) aA)))))))))))),?_⟩
  obtain ⟨sa,sb,sc,sd⟩:=sm
  have bb:(bend q).natAbs<2 ^ 401:=qI (jx sb sb) (jx sa sc)
  have cb:(mF q).natAbs<2 ^ 401:=Ef (Uq hb) (qI (jx sb sc) (jx sa sd))
  have ct:(QL q).natAbs<2 ^ 401:=Ef (Uq hb) (qI (jx sc sc) (jx sb sd))
  have cs:(gM q).natAbs<2 ^ 803:=by
   have h1:=jx cb cb
   have h2:(4*QL q).natAbs<2 ^ 802:=J7 (jx (a:=4) (n:=3) (by decide) ct) (by decide)
   exact qI h1 h2
  refine ⟨_,rfl,fZ (.inl (.inl hl)) (v:=.int q.b) rfl ⟨_,rfl,fZ (.inl (.inl hl)) (v:=.int q.c) rfl ⟨_,_,rfl,rfl,⟨200,200,sb,sc,by decide⟩,_,rfl,fZ (.inl (.inl hl)) (v:=.int q.a) rfl ⟨_,rfl,fZ (.inl (.inl hl)) (v:=.int q.d) rfl ⟨_,_,rfl,rfl,⟨200,200,sa,sd,by decide⟩,_,_,rfl,rfl,_,rfl,_,_,rfl,rfl,⟨hb,401,by decide,bb⟩,?_⟩⟩⟩⟩⟩
  refine ⟨_,rfl,fZ (.inl (.inl hl)) (v:=.int q.c) rfl ⟨_,rfl,fZ (.inl (.inl hl)) (v:=.int q.c) rfl ⟨_,_,rfl,rfl,⟨200,200,sc,sc,by decide⟩,_,rfl,fZ (.inl (.inl hl)) (v:=.int q.b) rfl ⟨_,rfl,fZ (.inl (.inl hl)) (v:=.int q.d) rfl ⟨_,_,rfl,rfl,⟨200,200,sb,sd,by decide⟩,_,_,rfl,rfl,_,rfl,_,_,rfl,rfl,⟨hb,401,by decide,bb⟩,?_⟩⟩⟩⟩⟩
  refine ⟨_,rfl,_,rfl,_,_,rfl,rfl,⟨401,401,cb,cb,by decide⟩,_,rfl,_,_,rfl,rfl,qg (by decide) (by decide),_,_,rfl,rfl,?_⟩
  k_dat h "j"
  ·exact k0 (of_decide_eq_true h)
  ·have h1:¬ gM q<1:=fun z=>h (decide_eq_true z)
   have hsq:gM q<2 ^ 2000:=by
    have:((gM q).natAbs:Int)<((2 ^ 803:Nat):Int):=Om.mpr cs
    have e:(((2:Nat) ^ 803:Nat):Int)<=2 ^ 2000:=by decide
    lia
   refine ⟨_,rfl,_,rfl,by show 0<=gM q;lia,hsq,fun d d0 e1 e2=>?_⟩
   have e1:d*d<=gM q:=e1
   have e2:gM q<(d+1)*(d+1):=e2
   have d1:1<=d:=by
    rcases (show d=0\/1<=d by lia) with z | z
    ·rw [z] at e2;lia
    ·exact z
   have dlt:d<2 ^ 2000:=by
    have:=vK d1 (fM d) tb_g% d0
    lia
   have dab:d.natAbs<2 ^ 2000:=Lg d0 dlt
   refine ⟨_,rfl,_,rfl,_,_,rfl,rfl,_,_,rfl,rfl,⟨by decide,by decide⟩,?_⟩
   have lowb:((mF q-d) / 2).natAbs<2 ^ 2001:=Ef (Hy _ _) (qI (J7 cb (by decide)) dab)
   refine ⟨_,rfl,fZ (.inl (.inl hl)) (v:=.int q.b) rfl ⟨_,rfl,_,rfl,fZ (.inl (.inl hl)) (v:=.int q.a) rfl ⟨_,_,rfl,rfl,⟨2001,200,lowb,sa,by decide⟩,_,_,rfl,rfl,_,rfl,_,_,rfl,rfl,⟨by lia,2000,by decide,dlt⟩,?_⟩⟩⟩
   refine ⟨_,rfl,_,rfl,fZ (.inl (.inl hl)) (v:=.int q.a) rfl ⟨_,rfl,_,_,rfl,rfl,(by show 2<=sizeLine;decide),fun t1 ht1=>?_⟩⟩
   refine ⟨_,rfl,_,rfl,_,_,rfl,rfl,_,rfl,(by show 2<=sizeLine;decide),fun t2 ht2=>⟨(by show 2<=sizeLine;decide),fun x hx=>?_⟩⟩
   refine k1 tb_g% d d1 e1 e2 x [(t1,((mF q-d) / 2,q.a-(q.b-(mF q-d) / 2*q.a) / d)),(t2,((mF q-d) / 2+d,(q.b-(mF q-d) / 2*q.a) / d))] _ rfl ⟨ak,fun p m=>?_⟩ ((Same.new ht1).trans ((Same.new ht2).trans (Same.new hx))) (((Same.new ht1).trans (Same.new ht2)).free hx)
   simp only [cA,lN,or_false] at m
   rcases m with rfl | rfl
   ·exact (Same.new hx) _ _ ((Same.new ht2) _ _ ak)
   ·exact (Same.new hx) _ _ ak
noncomputable def aae:Sp:=fun vs H Q _=>∃ (l:Addr) (q:Q4),vs=[.ref l]/\H l=some (.lst ((L4 q).map V.int))/\Sm q/\(∀ H',Tof q none->Same H H'->Q .non H')/\∀ (x:Addr) (ps:List Po) (H':Hp),Tof q (some (po ps))->Pos H' x ps->Same H H'->H x=none->Q (.ref x) H'
theorem ok'43 (T:Tx K mg A):cg P w K mg base CX0 3 A.XH A.wB ["rest"] aae:=by
 k_dat (T.F'43.ok,Bj) "a"
 ·obtain ⟨l,q,rfl,_⟩:=h
  rfl
 ·obtain ⟨l,q,rfl,hl,sm,k0,k1⟩:=h
  refine ⟨_,(ao (cF (aK (agE hr.units) (pv 0) (cN (aj au (aj au (aj au (aj au aA))))) (aQ _)) (aC (aO (cN aA))) aZ)
   (ao (aL (i:=1) Bj.nd rfl (Or.inl rfl) (aF dY (aF qY (bO (ixG (bB hr)) (pv 0) au (fun _ _=>rfl)) (bO (ixG (bB hr)) (pv 0) au (fun _ _=>rfl))) (aF qY (bO (ixG (bB hr)) (pv 0) au (fun _ _=>rfl)) (bO (ixG (bB hr)) (pv 0) au (fun _ _=>rfl)))))
   (ao (cF (aK fY (pv 1) au (aQ _)) (aC (aO (bQ (ok'41 T) tb_g% rfl T.Z6 T.F'41.kp T.b'41 .nil aX (aj (pv 0) aA)))) aZ)
   (aC (aO (bQ (ok'42 T) tb_g% rfl T.T6 T.F'42.kp T.b'42 .nil aX (aj (pv 0) (aj (pv 1) aA)))))))),?_⟩
  refine ⟨_,rfl,(by show 4<=sizeLine;decide),fun z hz=>?_⟩
  have s1:Same H (upd H z (.lst ((L4 iV).map V.int))):=Same.new hz
  have f1:(upd H z (.lst ((L4 iV).map V.int))) z=some (.lst ((L4 iV).map V.int)):=ak
  rw [show (HO.lst [V.int 0,V.int 0,V.int 0,V.int 0]) = .lst ((L4 iV).map V.int) from rfl]
  generalize upd H z (.lst ((L4 iV).map V.int))=H1 at s1 f1 ⊢
  refine ⟨l,z,L4 q,L4 iV,rfl,rfl,.inl (.inl (s1 _ _ hl)),.inl (.inl f1),rfl,_,rfl,cV (fun h=>?_) (fun h=>?_)⟩
  ·have e:q=iV:=abo.mp (of_decide_eq_true h)
   refine ⟨(by show 0<=sizeLine;decide),fun x hx=>?_⟩
   exact k1 x [] _ (.zero e) ⟨ak,(fun p m=>nomatch m)⟩ (s1.trans (Same.new hx)) (s1.free hx)
  ·have hne:q≠iV:=fun e=>h (decide_eq_true (abo.mpr e))
   have hl1:=s1 _ _ hl
   refine ⟨_,rfl,fZ (.inl (.inl hl1)) (v:=.int q.b) rfl ⟨_,rfl,fZ (.inl (.inl hl1)) (v:=.int q.b) rfl ⟨_,_,rfl,rfl,⟨200,200,sm.2.1,sm.2.1,by decide⟩,_,rfl,fZ (.inl (.inl hl1)) (v:=.int q.a) rfl ⟨_,rfl,fZ (.inl (.inl hl1)) (v:=.int q.c) rfl ⟨_,_,rfl,rfl,⟨200,200,sm.1,sm.2.2.1,by decide⟩,_,_,rfl,rfl,?_⟩⟩⟩⟩⟩
   k_dat hb "e"
   ·have hb:bend q=0:=V.int.inj (of_decide_eq_true hb)
    refine ⟨_,rfl,l,q,rfl,hl1,sm,fun ha=>k0 _ (.abm hne hb ha) s1,fun ha x ps H' e p' s' n'=>?_⟩
    exact k1 x ps H' (by rw [e];exact .one hne hb ha) p' (s1.trans s') (s1.free n')
   ·have hb:bend q≠0:=fun e=>hb (decide_eq_true (congrArg V.int e))
    refine ⟨_,rfl,_,rfl,l,q,rfl,hl1,sm,hb,fun hs=>k0 _ (.abn hne hb hs) s1,fun hs d d1 e1 e2 x ps H' e p' s' n'=>?_⟩
    exact k1 x ps H' (by rw [e];exact .two hne hb hs d d1 e1 e2) p' (s1.trans s') (s1.free n')
noncomputable def lM (L:List (Int × Int)):Q4:=L.foldl (fun q p=>addQ q (pwQ p.1 p.2)) iV
theorem acL (L:List (Int × Int)) (p:Int × Int):lM (L++[p])=addQ (lM L) (pwQ p.1 p.2):=by
 unfold lM
 rw [List.foldl_append];rfl
theorem alX {ps:List Po} {i:Nat} {y:V} (h:(ps.map fun p=>V.ref p.1)[i]? = some y):∃ p,ps[i]? = some p/\y = .ref p.1:=by
 rw [jN] at h
 cases e:ps[i]? with
 | none=>rw [e] at h;cases h
 | some p=>rw [e] at h;exact ⟨p,rfl,(cX h).symm⟩
noncomputable def In (s:Int) (L:List (Int × Int)):Prop:=∀ p∈L,0<=p.1/\p.1<s
noncomputable def ai3:Sp:=fun vs H Q _=>∃ (x l:Addr) (s:Int) (ps:List Po) (q:Q4),vs=[.ref x,.ref l,.int s]/\Pos H x ps/\H l=some (.lst ((L4 q).map V.int))/\s<=2000000000/\(In s (po ps)->lM (po ps)=q->∀ H',Same H H'->Q (.bl true) H')/\(¬ (In s (po ps)/\lM (po ps)=q)->∀ H',Same H H'->Q (.bl false) H')
theorem ok'44 (T:Tx K mg A):cg P w K mg base CX0 2 A.XJ A.ZV ["pairs","rest","span"] ai3:=by
 k_dat (T.F'44.ok,Bk) "a"
 ·obtain ⟨x,l,sp,ps,q,rfl,_⟩:=h
  rfl
 ·obtain ⟨x,l,sp,ps,q,rfl,hx,hl,s9,k1,k0⟩:=h
  refine ⟨_,(ao (aL (i:=3) Bk.nd rfl (Or.inl rfl) (cN (aj au (aj au (aj au (aj au aA))))))
   (ao (mH mD rfl (jB (pv 0)) (CT rfl (ig (dR (i:=4) Bk.nd rfl (Or.inl rfl)) (ig (dR (i:=5) Bk.nd rfl (Or.inl rfl)) wU))) (ao (cF (PW.pt (pw_or (aK pZ (pv 4) au (aQ _)) (pw_or1 (aK aaD (pv 4) (pv 2) (aQ _))))) (aC (aO ji)) aZ)
   (aC (aL (i:=3) Bk.nd rfl (Or.inl rfl) (bQ (ahn T) tb_g% rfl T.zO T.F'35.kp T.b'35 .nil aX (aj (pv 3) (aj (pv 4) (aj (pv 5) aA))))))))
   (aC (aO (pA (agE hr.units) (pv 3) (pv 1) (aQ _)))))),?_⟩
  refine ⟨(by show 4<=sizeLine;decide),fun z hz=>?_⟩
  have s1:Same H (upd H z (.lst ((L4 iV).map V.int))):=Same.new hz
  have f1:(upd H z (.lst ((L4 iV).map V.int))) z=some (.lst ((L4 iV).map V.int)):=ak
  rw [show (HO.lst [V.int 0,V.int 0,V.int 0,V.int 0]) = .lst ((L4 iV).map V.int) from rfl]
  generalize upd H z (.lst ((L4 iV).map V.int))=H1 at s1 f1 ⊢
  have hx1:=hx.same s1
  refine ⟨_,rfl,x,rfl,⟨_,.inl (.inl hx1.l)⟩,nu (K:=K) (a:=x) (xs:=ps.map fun p=>V.ref p.1) (fun i σ G=>∃ (z:Addr) (x4 x5:Option V),σ=[some (.ref x),some (.ref l),some (.int sp),some (.ref z),x4,x5]/\Same H1 G/\G z=some (.lst ((L4 (lM (po (ps.take i)))).map V.int))/\In sp (po (ps.take i))) ⟨z,none,none,rfl,Same.refl _,f1,fun p m=>nomatch m⟩ (fun i σ G _ ⟨_,_,_,_,s,_⟩=>.inl (.inl (s _ _ hx1.l))) ?_ ?_⟩
  ·rintro i y σ G hi ⟨z',x4,x5,rfl,sG,fG,iG⟩
   obtain ⟨p,hp,rfl⟩:=alX hi
   have ht:=sG _ _ (hx1.t p (List.mem_of_getElem? hp))
   have mem:p.2∈po ps:=ac8 (List.mem_of_getElem? hp)
   refine ⟨p.1,_,rfl,.inl (.inl ht),rfl,_,_,rfl,_,_,rfl,rfl,?_⟩
   k_dat h "j"
   ·have h:p.2.1<0:=of_decide_eq_true h
    exact k0 (fun z=>by have:=z.1 p.2 mem;lia) _ (s1.trans sG)
   have h:¬ p.2.1<0:=fun z=>h (decide_eq_true z)
   refine ⟨_,rfl,_,rfl,_,_,rfl,rfl,_,rfl,cV (fun h2=>?_) (fun h2=>?_)⟩
   ·have h2:sp<=p.2.1:=of_decide_eq_true h2
    exact k0 (fun z=>by have:=z.1 p.2 mem;lia) _ (s1.trans sG)
   have h2:¬ sp<=p.2.1:=fun z=>h2 (decide_eq_true z)
   refine ⟨_,rfl,_,rfl,_,rfl,z',p.2.1,p.2.2,_,rfl,fG,by lia,by lia,fun z2 G2 n2 f2 s2=>?_⟩
   have e:po (ps.take (i+1))=po (ps.take i)++[p.2]:=by unfold po;rw [uJ,hp,gA];rfl
   refine ⟨z2,_,_,rfl,sG.trans s2,?_,fun r hr=>?_⟩
   ·rw [e,acL];exact f2
   ·rw [e] at hr
    rcases gw.mp hr with m | m
    ·exact iG r m
    ·rw [gZ.mp m];lia
  ·rintro σ G ⟨z',x4,x5,rfl,sG,fG,iG⟩
   rw [bK,uK] at fG iG
   refine ⟨_,rfl,_,rfl,z',l,L4 (lM (po ps)),L4 q,rfl,rfl,.inl (.inl fG),.inl (.inl (sG _ _ (s1 _ _ hl))),rfl,?_⟩
   by_cases e:lM (po ps)=q
   ·rw [decide_eq_true (abo.mpr e)]
    exact k1 iG e _ (s1.trans sG)
   ·rw [decide_eq_false (fun z=>e (abo.mp z))]
    exact k0 (fun z=>e z.2) _ (s1.trans sG)
noncomputable def subQ (q p:Q4):Q4:=⟨q.a-p.a,q.b-p.b,q.c-p.c,q.d-p.d⟩
/-- the pairs off,in rising order -/
structure QM (L:List (Int × Int)):Prop where
 two:L.length<=2
 nz:∀ p∈L,p.2≠0
 up:L.Pairwise fun p q=>p.1<q.1
theorem LQ {L:List (Int × Int)} {r:Option (List (Int × Int))} (n:QM L) (t:Tof (lM L) r):r=some L:=by
 match L,n with
 | [],n =>
  have e:lM []=iV:=rfl
  rw [e] at t
  cases t with
  | zero h=>rfl
  | abm h _ _=>exact absurd rfl h
  | one h _ _=>exact absurd rfl h
  | abn h _ _=>exact absurd rfl h
  | two h _ _ _ _ _ _=>exact absurd rfl h
 | [(x,m)],n =>
  have hm:m≠0:=n.nz (x,m) gq
  have ea:(lM [(x,m)]).a=m:=rH _
  have eb:(lM [(x,m)]).b=m*x:=rH _
  have ec:(lM [(x,m)]).c=m*x*x:=rH _
  have hb:=OFF.agG ea eb ec
  have nz:lM [(x,m)]≠iV:=fun z=>hm (by rw [<- ea,z];rfl)
  cases t with
  | zero h=>exact absurd h nz
  | abm _ _ ha=>exact absurd (by rw [<- ea];exact ha) hm
  | one _ _ _=>rw [OFF.agH hm ea eb,ea]
  | abn _ h _=>exact absurd hb h
  | two _ h _ _ _ _ _=>exact absurd hb h
 | [(x,m),(y,k)],n =>
  have hm:m≠0:=n.nz (x,m) gq
  have hk:k≠0:=n.nz (y,k) (gY _ gq)
  have hxy:x<y:=by
   have:=n.up
   rw [jM] at this
   exact this.1 (y,k) gq
  have ea:(lM [(x,m),(y,k)]).a=m+k:=by show 0+m+k=_;lia
  have eb:(lM [(x,m),(y,k)]).b=m*x+k*y:=by show 0+m*x+k*y=_;rw [rH]
  have ec:(lM [(x,m),(y,k)]).c=m*x*x+k*y*y:=by show 0+m*x*x+k*y*y=_;rw [rH]
  have ed:(lM [(x,m),(y,k)]).d=m*x*x*x+k*y*y*y:=by show 0+m*x*x*x+k*y*y*y=_;rw [rH]
  have hb:=OFF.wu hm hk hxy ea eb ec
  have e1:mF (lM [(x,m),(y,k)])=x+y:=OFF.agI hm hk hxy ea eb ec ed
  have e2:QL (lM [(x,m),(y,k)])=x*y:=OFF.acr hm hk hxy ea eb ec ed
  have e3:gM (lM [(x,m),(y,k)])=(y-x)*(y-x):=by
   unfold gM
   rw [e1,e2,OFF.ZQ]
  have pos:1<=(y-x)*(y-x):=by
   have:=vK (show 1<=y-x by lia) (show 1<=y-x by lia) tb_g% tb_g%
   lia
  cases t with
  | zero h=>exact absurd (by rw [h];rfl) hb
  | abm _ h _=>exact absurd h hb
  | one _ h _=>exact absurd h hb
  | abn _ _ h=>rw [e3] at h;lia
  | two _ _ _ d d1 h1 h2 =>
   rw [e3] at h1 h2
   have ed':d=y-x:=OFF.agJ d1 tb_g% h1 h2
   subst ed'
   rw [e1,OFF.aiA,OFF.agK hxy ea eb,ea]
   congr 3
   ·congr 1;lia
   ·congr 2;lia
 | _::_::_::_,n=>exact absurd n.two (by simp)
theorem acM {q:Q4} {L:List (Int × Int)} (t:Tof q (some L)) (e:lM L=q):QM L:=by
 cases t with
 | zero h=>exact ⟨by simp,(fun p m=>nomatch m),List.Pairwise.nil⟩
 | one h hb ha=>exact ⟨by simp,fun p m=>by rw [gZ.mp m];exact ha,by simp⟩
 | two h hb hs d d1 e1 e2 =>
  generalize (mF q-d) / 2=x at e ⊢
  generalize (q.b-x*q.a) / d=k at e ⊢
  have ea:q.a=q.a-k+k:=by lia
  have eb:q.b=(q.a-k)*x+k*(x+d):=by
   have:=congrArg Q4.b e
   have e3:(lM [(x,q.a-k),(x+d,k)]).b=0+(q.a-k)*x+k*(x+d):=rfl
   rw [e3,rH] at this
   exact this.symm
  have ec:q.c=(q.a-k)*x*x+k*(x+d)*(x+d):=by
   have:=congrArg Q4.c e
   have e3:(lM [(x,q.a-k),(x+d,k)]).c=0+(q.a-k)*x*x+k*(x+d)*(x+d):=rfl
   rw [e3,rH] at this
   exact this.symm
  have abp:bend q = -((q.a-k)*k*((x+d-x)*(x+d-x))):=OFF.Ay ea eb ec
  refine ⟨by simp,fun p m=>?_,?_⟩
  ·simp only [cA,lN,or_false] at m
   rcases m with rfl | rfl
   ·intro z
    have z:q.a-k=0:=z
    rw [z,Ww,Ww] at abp
    exact hb abp
   ·intro z
    have z:k=0:=z
    rw [z,aeB,Ww] at abp
    exact hb abp
  ·rw [jM]
   refine ⟨fun p m=>?_,by simp⟩
   rw [gZ.mp m]
   show x<x+d
   lia
noncomputable def aaf (A:Ad):Sp:=fun vs H Q E=>∃ (p dx l:Addr) (s:Int) (q:Q4),vs=[.ref p]/\Bn A H p dx l s q/\1<=s/\s<=1000000000/\Sm (subQ q (Fz s)) /\
 (∀ (x:Addr) (ps:List Po) (H':Hp),QM (po ps)->In s (po ps)->lM (po ps)=subQ q (Fz s)->(∀ M,QM M->lM M=subQ q (Fz s)->M=po ps)->Pos H' x ps->Same H H'->H x=none->Q (.ref x) H') /\
 ((∀ L,QM L->In s L->lM L≠subQ q (Fz s))->∀ H',Same H H'->E (.ref A.jz) none H')
theorem ajO (T:Tx K mg A):cg P w K mg base (CXE P w) 4 A.XM A.rQ ["self"] (aaf A):=by
 k_dat (T.F'45.okE,qD) "a"
 ·obtain ⟨p,dx,l,sp,q,rfl,_⟩:=h
  rfl
 ·obtain ⟨p,dx,l,sp,q,rfl,hb,s1,s9,sm,k1,k0⟩:=h
  refine ⟨_,(ao (PS.nox (Tt (i:=1) (g:=(gTup K 2 (HX (vQ 0) (HX (vQ 1) gNil)))) (k:=2) (cl:=[]) (N:=["held","due"]) (caps:=[]) (tt:=_) (te:=_) qD.nd rfl (Or.inl rfl) rfl (by with_unfolding_all rfl) tb_g% rfl tb_g% trivial (vY (by with_unfolding_all rfl)) (fun _ _ _ _=>CT rfl (ig (dR (i:=0) (show (["held","due"]:List Str).Nodup by decide +kernel) rfl (Or.inl rfl)) (ig (dR (i:=1) (show (["held","due"]:List Str).Nodup by decide +kernel) rfl (Or.inl rfl)) wU))) rfl (iw.at (k:=2) (show iw _ _ _ _ 2 [] from trivial)) (alr rfl T.n_zip (aj (aJ (pv 0) rfl) (aj (bQ (ok'39 T) tb_g% rfl T.Z4 T.F'39.kp T.b'39 .nil aX (aj (aJ (pv 0) rfl) aA)) aA))) (fun _ _ _ _=>ah5) (fun _ _ _ _=>(aF dY (pv 0) (pv 1)))))
   (ao (PS.nox (aL (i:=2) qD.nd rfl (Or.inl rfl) (bQ (ok'43 T) tb_g% rfl T.T7 T.F'43.kp T.b'43 .nil aX (aj (pv 1) aA))))
   (ao (cF (PT.nox (PW.pt (pw_or (aK afu (pv 2) nY (aQ _)) (pw_or1 (afn (HW (bQ (ok'44 T) tb_g% rfl T.aly T.F'44.kp T.b'44 .nil aX (aj (pv 2) (aj (pv 1) (aj (aJ (pv 0) rfl) aA)))))))))) (aC (Ax Ou T.jA rfl T.Bb (aj O8 aA))) aZ)
   (aC (PS.nox (aO (pv 2))))))),?_⟩
  refine ⟨_,rfl,rdF hb.o T.sW T.wG (QK _ _) ⟨_,rfl,rdF hb.o T.sW T.Jt (abl _ _) ⟨sp,rfl,s1,by lia,fun dl hdl=>?_⟩⟩⟩
  have sD:=Same.new (o:=.lst ((dueL sp).map V.int)) hdl
  have fD:(upd H dl (.lst ((dueL sp).map V.int))) dl=some (.lst ((L4 (Fz sp)).map V.int)):=ak
  generalize upd H dl (.lst ((dueL sp).map V.int))=H1 at sD fD ⊢
  have hb1:=hb.same sD
  refine ⟨l,dl,_,_,rfl,hb1.l,fD,fun D hD=>?_⟩
  refine ace (xs:=(L4 q).map V.int) (ys:=(L4 (Fz sp)).map V.int) (fun i zs H2=>zs=((L4 (subQ q (Fz sp))).take i).map V.int/\H2 D=some (.lst zs)/\Same H1 H2) ⟨rfl,ak,Same.new hD⟩ ?_ ?_ ?_ (ZP 0 1) ?_
  ·rintro i zs H2 ⟨rfl,f,s2⟩
   exact ⟨s2 _ _ hb1.l,s2 _ _ fD,f,cH (by rw [bK,jf];show min i 4<=1000;lia)⟩
  ·rintro i zs H2 u v t ws hu hv ⟨rfl,f,s2⟩ ht hw
   obtain ⟨w0,w1,rfl⟩:∃ w0 w1,ws=[w0,w1]:=by
    match ws,hw with
    | [a,b],_=>exact ⟨a,b,rfl⟩
   have s3:Same H2 (upd H2 t (.tup [u,v])):=Same.new ht
   have keep:∀ L b o,H1 b=some o->(upd (upd H2 t (.tup [u,v])) D L) b=some o:=fun L b o e=>by rw [aB (aq e hD)];exact s3 _ _ (s2 _ _ e)
   refine ⟨t,_,rfl,.inl (.inl ak),rfl,_,_,rfl,_,_,rfl,rfl,⟨[some u,some v],rfl,rfl⟩,?_⟩
   rcases mV hu with ⟨rfl,rfl⟩ | ⟨rfl,rfl⟩ | ⟨rfl,rfl⟩ | ⟨rfl,rfl⟩
   ·rcases mV hv with ⟨_,rfl⟩ | ⟨h,_⟩ | ⟨h,_⟩ | ⟨h,_⟩
    ·exact ⟨_,rfl,_,rfl,_,_,rfl,rfl,s3 _ _ f,rfl,ak,keep _⟩
    all_goals lia
   ·rcases mV hv with ⟨h,_⟩ | ⟨_,rfl⟩ | ⟨h,_⟩ | ⟨h,_⟩
    ·lia
    ·exact ⟨_,rfl,_,rfl,_,_,rfl,rfl,s3 _ _ f,rfl,ak,keep _⟩
    all_goals lia
   ·rcases mV hv with ⟨h,_⟩ | ⟨h,_⟩ | ⟨_,rfl⟩ | ⟨h,_⟩
    ·lia
    ·lia
    ·exact ⟨_,rfl,_,rfl,_,_,rfl,rfl,s3 _ _ f,rfl,ak,keep _⟩
    ·lia
   ·rcases mV hv with ⟨h,_⟩ | ⟨h,_⟩ | ⟨h,_⟩ | ⟨_,rfl⟩
    ·lia
    ·lia
    ·lia
    ·exact ⟨_,rfl,_,rfl,_,_,rfl,rfl,s3 _ _ f,rfl,ak,keep _⟩
  ·rintro zs H2 ⟨rfl,f,s2⟩
   have f:H2 D=some (.lst ((L4 (subQ q (Fz sp))).map V.int)):=f
   refine ⟨_,rfl,D,_,rfl,f,sm,fun H3 t3 s3=>?_,fun x ps H3 t3 p3 s3 n3=>?_⟩
   ·refine ⟨_,rfl,rfl,_,rfl,?_⟩
    rw [Jg]
    refine Ih ⟨by show 1<=sizeLine;decide,k0 (fun L n _ e=>?_) _ ((sD.trans s2).trans s3)⟩
    rw [<- e] at t3
    cases LQ n t3
   have f3:=s3 _ _ f
   have s123:=(sD.trans s2).trans s3
   have uq:∀ M,QM M->lM M=subQ q (Fz sp)->M=po ps:=fun M n e=>by
    rw [<- e] at t3
    exact (cX (LQ n t3)).symm
   refine ⟨_,rfl,rfl,_,rfl,lD ?_⟩
   refine ⟨_,rfl,_,rfl,_,rfl,rdF (s123 _ _ hb.o) T.sW T.Jt (abl _ _) ⟨x,D,sp,ps,_,rfl,p3,f3,by lia,fun hin hs H4 s4=>?_,fun hn H4 s4=>?_⟩⟩
   ·exact ⟨_,rfl,lD ⟨_,rfl,k1 x ps H4 (acM t3 hs) hin hs uq (p3.same s4) (s123.trans s4) ((sD.trans s2).free n3)⟩⟩
   ·refine ⟨_,rfl,Ih ⟨by show 1<=sizeLine;decide,k0 (fun L n hi e=>?_) _ (s123.trans s4)⟩⟩
    have e2:=uq L n e
    subst e2
    exact hn ⟨hi,e⟩
  ·exact pC (cL 0) (cL 1)
noncomputable def kf (aH bh cu eF eG mW eO cI eU bV:V):List (Str × V):=[("room",aH),("reach",bh),("span",cu),("came",eF),("went",eG),("up",mW),("down",eO),("window",cI),("seen",eU),("balance",bV)]
theorem QS (aH bh cu eF eG mW eO cI eU bV:V):(kf aH bh cu eF eG mW eO cI eU bV).lookup ("room" : Str)=some aH:=by rfl
theorem Ur (aH bh cu eF eG mW eO cI eU bV:V):(kf aH bh cu eF eG mW eO cI eU bV).lookup ("reach" : Str)=some bh:=by rfl
theorem abq (aH bh cu eF eG mW eO cI eU bV:V):(kf aH bh cu eF eG mW eO cI eU bV).lookup ("span" : Str)=some cu:=by rfl
theorem xJ (aH bh cu eF eG mW eO cI eU bV:V):(kf aH bh cu eF eG mW eO cI eU bV).lookup ("came" : Str)=some eF:=by rfl
theorem Gh (aH bh cu eF eG mW eO cI eU bV:V):(kf aH bh cu eF eG mW eO cI eU bV).lookup ("went" : Str)=some eG:=by rfl
theorem J8 (aH bh cu eF eG mW eO cI eU bV:V):(kf aH bh cu eF eG mW eO cI eU bV).lookup ("up" : Str)=some mW:=by rfl
theorem QT (aH bh cu eF eG mW eO cI eU bV:V):(kf aH bh cu eF eG mW eO cI eU bV).lookup ("down" : Str)=some eO:=by rfl
theorem tK (aH bh cu eF eG mW eO cI eU bV:V):(kf aH bh cu eF eG mW eO cI eU bV).lookup ("window" : Str)=some cI:=by rfl
theorem QV (aH bh cu eF eG mW eO cI eU bV:V):(kf aH bh cu eF eG mW eO cI eU bV).lookup ("seen" : Str)=some eU:=by rfl
theorem uI (aH bh cu eF eG mW eO cI eU bV:V):(kf aH bh cu eF eG mW eO cI eU bV).lookup ("balance" : Str)=some bV:=by rfl
theorem alY (aH bh cu eF eG mW eO cI eU bV:V):aD "balance" bV (aD "seen" eU (aD "window" cI (aD "down" eO (aD "up" mW (aD "went" eG (aD "came" eF (aD "span" cu (aD "reach" bh (aD "room" aH [])))))))))=kf aH bh cu eF eG mW eO cI eU bV:=by
 unfold kf
 walk_at "rec"
theorem kfN {aH bh cu eF eG mW eO cI eU bV:V} {m:Str} (h:m∉[("room" : Str),("reach" : Str),("span" : Str),("came" : Str),("went" : Str),("up" : Str),("down" : Str),("window" : Str),("seen" : Str),("balance" : Str)]):(kf aH bh cu eF eG mW eO cI eU bV).lookup m=none:=by
 simp only [cA,lN,or_false,not_or] at h
 obtain ⟨qG,Br,J6,alZ,al0,h_up,al1,ahq,al2,acN⟩:=h
 unfold kf
 rw [bW qG,bW Br,bW J6,bW alZ,bW al0,bW h_up,bW al1,bW ahq,bW al2,bW acN]
 rfl
structure Fq where
 (p dx d:Addr) (t l:Int) (c:Tab)
structure Rs where
 (dx a:Addr) (bs:List Addr) (r tt ov un tn:Int) (mi ma:Option Int) (ls:RG.Ls)
noncomputable abbrev RnX (A:Ad) (H:Hp) (p:Addr) (x:Rs):Prop:=Rn A H p x.dx x.a x.bs x.r x.tt x.ov x.un x.tn x.mi x.ma x.ls
structure Ru where
 (p:Addr) (x:Rs)
structure Wi where
 (p dx l:Addr) (c:Int) (ps:List Bp)
structure Di where
 (p dx l:Addr) (n v:Int) (C:List Int)
structure Ba where
 (p dx l:Addr) (q:Q4)
structure KS where
 (k dk:Addr) (room:Nat) (reach span:Int) (cm wn:Fq) (up dn:Ru) (wi:Wi) (di:Di) (ba:Ba)
structure Bs (A:Ad) (H:Hp) (room:Nat) (f:Fq):Prop where
 o:H f.p=some (.ins A.iB f.dx (fl room f.t f.l f.d))
 d:H f.d=some (.dK (emb f.c))
theorem Bs.same {A:Ad} {H H':Hp} {room:Nat} {f:Fq} (h:Bs A H room f) (s:Same H H'):Bs A H' room f:=⟨s _ _ h.o,s _ _ h.d⟩
theorem Bs.but {A:Ad} {H H':Hp} {room:Nat} {f:Fq} {q C e:Addr} {fs:List (Str × V)} (h:Bs A H room f) (s:L2.But q H H') (hq:H q=some (.ins C e fs)) (n:f.p≠q):Bs A H' room f :=
 ⟨s _ _ h.o n,s _ _ h.d (jP h.d hq (by intro z;cases z))⟩
noncomputable def KS.all (x:KS):List Addr:=[x.k,x.cm.p,x.wn.p,x.up.p,x.dn.p,x.wi.p,x.di.p,x.ba.p]
structure Kp (A:Ad) (H:Hp) (x:KS):Prop where
 o:H x.k=some (.ins A.cG x.dk (kf (.int x.room) (.int x.reach) (.int x.span) (.ref x.cm.p) (.ref x.wn.p) (.ref x.up.p) (.ref x.dn.p) (.ref x.wi.p) (.ref x.di.p) (.ref x.ba.p)))
 cm:Bs A H x.room x.cm
 wn:Bs A H x.room x.wn
 up:RnX A H x.up.p x.up.x
 dn:RnX A H x.dn.p x.dn.x
 wi:Wn A H x.wi.p x.wi.dx x.wi.l x.room x.reach x.wi.c x.wi.ps
 di:Dn A H x.di.p x.di.dx x.di.l x.room x.di.n x.di.v (srt (My.up x.di.v x.di.C))
 ba:Bn A H x.ba.p x.ba.dx x.ba.l x.span x.ba.q
 nd:x.all.Nodup
theorem Kp.same {A:Ad} {H H':Hp} {x:KS} (h:Kp A H x) (s:Same H H'):Kp A H' x:=⟨s _ _ h.o,h.cm.same s,h.wn.same s,h.up.same s,h.dn.same s,h.wi.same s,h.di.same s,h.ba.same s,h.nd⟩
open MK
theorem ahr (r e:Int) (bs:List WN.Box):(qH r e bs).length<=bs.length:=by
 unfold qH
 rw [yq]
 have h1:=WN.Tn r (bs.filter fun b=>decide (e<b.l)).reverse
 rw [yq] at h1
 exact fX h1 (vd _ _)
theorem wN {r T ov un:Int} {ls:RG.Ls} {n:Nat} (g:RG.Good r T ov un ls) (h:T<=1000000000000*n) (hn:n<=100):ls.length<=60/\RG.val ls<2 ^ 400:=by
 have e:(2:Int) ^ 60=1152921504606846976:=by decide
 refine ⟨g.len (by rw [e];lia),?_⟩
 have:=g.vl
 have e:(1152921504606846976:Nat)<2 ^ 400:=by decide
 lia
noncomputable def KS.pts (x:KS):List Addr:=[x.cm.p,x.wn.p,x.up.p,x.dn.p,x.wi.p,x.di.p,x.ba.p]
structure Pp (A:Ad) (H:Hp) (x:KS):Prop where
 cm:Bs A H x.room x.cm
 wn:Bs A H x.room x.wn
 up:RnX A H x.up.p x.up.x
 dn:RnX A H x.dn.p x.dn.x
 wi:Wn A H x.wi.p x.wi.dx x.wi.l x.room x.reach x.wi.c x.wi.ps
 di:Dn A H x.di.p x.di.dx x.di.l x.room x.di.n x.di.v (srt (My.up x.di.v x.di.C))
 ba:Bn A H x.ba.p x.ba.dx x.ba.l x.span x.ba.q
 nd:x.pts.Nodup
theorem Kp.pp {A:Ad} {H:Hp} {x:KS} (h:Kp A H x):Pp A H x:=⟨h.cm,h.wn,h.up,h.dn,h.wi,h.di,h.ba,(vg.mp h.nd).2⟩
theorem Kp.nk {A:Ad} {H:Hp} {x:KS} (h:Kp A H x):x.k∉x.pts:=(vg.mp h.nd).1
section
variable {A:Ad} {H H':Hp} {x:KS}
theorem Pp.kp (h:Pp A H x) (o:H x.k=some (.ins A.cG x.dk (kf (.int x.room) (.int x.reach) (.int x.span) (.ref x.cm.p) (.ref x.wn.p) (.ref x.up.p) (.ref x.dn.p) (.ref x.wi.p) (.ref x.di.p) (.ref x.ba.p)))) (n:x.k∉x.pts):Kp A H x :=
 ⟨o,h.cm,h.wn,h.up,h.dn,h.wi,h.di,h.ba,vg.mpr ⟨n,h.nd⟩⟩
theorem Pp.but {q C e:Addr} {fs:List (Str × V)} (h:Pp A H x) (b:L2.But q H H') (hq:H q=some (.ins C e fs)) (n:q∉x.pts):Pp A H' x:=by
 unfold KS.pts at n
 simp only [cA,lN,or_false,not_or] at n
 obtain ⟨n1,n2,n3,n4,n5,n6,n7⟩:=n
 exact ⟨h.cm.but b hq (aP n1),h.wn.but b hq (aP n2),h.up.but b hq (aP n3),h.dn.but b hq (aP n4),h.wi.but b hq (aP n5),h.di.but b hq (aP n6),h.ba.but b hq (aP n7),h.nd⟩
/-- the seven are seven -/
structure Ap7 (x:KS):Prop where
 c:x.cm.p≠x.wn.p/\x.cm.p≠x.up.p/\x.cm.p≠x.dn.p/\x.cm.p≠x.wi.p/\x.cm.p≠x.di.p/\x.cm.p≠x.ba.p
 w:x.wn.p≠x.up.p/\x.wn.p≠x.dn.p/\x.wn.p≠x.wi.p/\x.wn.p≠x.di.p/\x.wn.p≠x.ba.p
 u:x.up.p≠x.dn.p/\x.up.p≠x.wi.p/\x.up.p≠x.di.p/\x.up.p≠x.ba.p
 d:x.dn.p≠x.wi.p/\x.dn.p≠x.di.p/\x.dn.p≠x.ba.p
 i:x.wi.p≠x.di.p/\x.wi.p≠x.ba.p
 s:x.di.p≠x.ba.p
theorem Pp.ap (h:Pp A H x):Ap7 x:=by
 have n:=h.nd
 unfold KS.pts at n
 simp only [vg,cA,lN,or_false,not_or,U6,and_true,not_false_eq_true] at n
 obtain ⟨c,w,u,d,i,s⟩:=n
 exact ⟨c,w,u,d,i,s⟩
theorem Pp.setC (h:Pp A H x) {f:Fq} (e:f.p=x.cm.p) (b:L2.But x.cm.p H H') (hf:Bs A H' x.room f):Pp A H' { x with cm:=f }:=by
 have a:=h.ap
 have q:=h.cm.o
 obtain ⟨a1,a2,a3,a4,a5,a6⟩:=a.c
 exact ⟨hf,h.wn.but b q (aP a1),h.up.but b q (aP a2),h.dn.but b q (aP a3),h.wi.but b q (aP a4),h.di.but b q (aP a5),h.ba.but b q (aP a6),by
  show [f.p,x.wn.p,x.up.p,x.dn.p,x.wi.p,x.di.p,x.ba.p].Nodup
  rw [e];exact h.nd⟩
theorem Pp.setW (h:Pp A H x) {f:Fq} (e:f.p=x.wn.p) (b:L2.But x.wn.p H H') (hf:Bs A H' x.room f):Pp A H' { x with wn:=f }:=by
 have a:=h.ap
 have q:=h.wn.o
 obtain ⟨a2,a3,a4,a5,a6⟩:=a.w
 exact ⟨h.cm.but b q a.c.1,hf,h.up.but b q (aP a2),h.dn.but b q (aP a3),h.wi.but b q (aP a4),h.di.but b q (aP a5),h.ba.but b q (aP a6),by
  show [x.cm.p,f.p,x.up.p,x.dn.p,x.wi.p,x.di.p,x.ba.p].Nodup
  rw [e];exact h.nd⟩
theorem Pp.setU (h:Pp A H x) {f:Ru} (e:f.p=x.up.p) (b:L2.But x.up.p H H') (hf:RnX A H' f.p f.x):Pp A H' { x with up:=f }:=by
 have a:=h.ap
 have q:=h.up.o
 obtain ⟨a3,a4,a5,a6⟩:=a.u
 exact ⟨h.cm.but b q a.c.2.1,h.wn.but b q a.w.1,hf,h.dn.but b q (aP a3),h.wi.but b q (aP a4),h.di.but b q (aP a5),h.ba.but b q (aP a6),by
  show [x.cm.p,x.wn.p,f.p,x.dn.p,x.wi.p,x.di.p,x.ba.p].Nodup
  rw [e];exact h.nd⟩
theorem Pp.setD (h:Pp A H x) {f:Ru} (e:f.p=x.dn.p) (b:L2.But x.dn.p H H') (hf:RnX A H' f.p f.x):Pp A H' { x with dn:=f }:=by
 have a:=h.ap
 have q:=h.dn.o
 obtain ⟨a4,a5,a6⟩:=a.d
 exact ⟨h.cm.but b q a.c.2.2.1,h.wn.but b q a.w.2.1,h.up.but b q a.u.1,hf,h.wi.but b q (aP a4),h.di.but b q (aP a5),h.ba.but b q (aP a6),by
  show [x.cm.p,x.wn.p,x.up.p,f.p,x.wi.p,x.di.p,x.ba.p].Nodup
  rw [e];exact h.nd⟩
theorem Pp.setI (h:Pp A H x) {f:Wi} (e:f.p=x.wi.p) (b:L2.But x.wi.p H H') (hf:Wn A H' f.p f.dx f.l x.room x.reach f.c f.ps):Pp A H' { x with wi:=f }:=by
 have a:=h.ap
 have q:=h.wi.o
 exact ⟨h.cm.but b q a.c.2.2.2.1,h.wn.but b q a.w.2.2.1,h.up.but b q a.u.2.1,h.dn.but b q a.d.1,hf,h.di.but b q (aP a.i.1),h.ba.but b q (aP a.i.2),by
  show [x.cm.p,x.wn.p,x.up.p,x.dn.p,f.p,x.di.p,x.ba.p].Nodup
  rw [e];exact h.nd⟩
theorem Pp.setS (h:Pp A H x) {f:Di} (e:f.p=x.di.p) (b:L2.But x.di.p H H') (hf:Dn A H' f.p f.dx f.l x.room f.n f.v (srt (My.up f.v f.C))):Pp A H' { x with di:=f }:=by
 have a:=h.ap
 have q:=h.di.o
 exact ⟨h.cm.but b q a.c.2.2.2.2.1,h.wn.but b q a.w.2.2.2.1,h.up.but b q a.u.2.2.1,h.dn.but b q a.d.2.1,h.wi.but b q a.i.1,hf,h.ba.but b q (aP a.s),by
  show [x.cm.p,x.wn.p,x.up.p,x.dn.p,x.wi.p,f.p,x.ba.p].Nodup
  rw [e];exact h.nd⟩
theorem Pp.setB (h:Pp A H x) {f:Ba} (e:f.p=x.ba.p) (b:L2.But x.ba.p H H') (hf:Bn A H' f.p f.dx f.l x.span f.q):Pp A H' { x with ba:=f }:=by
 have a:=h.ap
 have q:=h.ba.o
 exact ⟨h.cm.but b q a.c.2.2.2.2.2,h.wn.but b q a.w.2.2.2.2,h.up.but b q a.u.2.2.2,h.dn.but b q a.d.2.2,h.wi.but b q a.i.2,h.di.but b q a.s,hf,by
  show [x.cm.p,x.wn.p,x.up.p,x.dn.p,x.wi.p,x.di.p,f.p].Nodup
  rw [e];exact h.nd⟩
/-- nothing but these parts has changed -/
structure Far (A:Ad) (ps:List Addr) (H H':Hp):Prop where
 pb:∀ b o,H b=some o->b∉ps->H' b=some o
 py:∀ y:KS,Pp A H y->(∀ b∈y.pts,b∉ps)->Pp A H' y
theorem Far.of {ps:List Addr} {p C e:Addr} {fs:List (Str × V)} (m:p∈ps) (hq:H p=some (.ins C e fs)) (b:L2.But p H H'):Far A ps H H' :=
 ⟨fun c o e n=>b c o e fun z=>n (by rw [z];exact m),fun y h d=>h.but b hq fun z=>d p z m⟩
theorem Far.trans {ps:List Addr} {H1:Hp} (a:Far A ps H H1) (b:Far A ps H1 H'):Far A ps H H':=⟨fun c o e n=>b.pb c o (a.pb c o e n) n,fun y h d=>b.py y (a.py y h d) d⟩
end
noncomputable def FS (room:Nat) (th w:Int) (f g:Fq):Prop:=∃ cut,rJ room (put f.c th (low f.c th+w)) g.c cut/\g.t=f.t+w/\g.l=f.l+cut
structure RS (th w:Int) (f g:Rs):Prop where
 r:g.r=f.r
 tt:g.tt=f.tt+w
 mi:g.mi=lo2 f.mi (some th)
 ma:g.ma=hi2 f.ma (some th)
 st:RG.Stl f.r 0 f.tn f.ov f.un (RG.iy th f.ls w.toNat) g.ls g.tn g.ov g.un
noncomputable def WS (room:Nat) (reach c:Int) (bs:List WN.Box) (g:Wi):Prop:=g.c=c/\bx g.ps=qH room (c-reach) bs
noncomputable def DS (room:Nat) (th:Int) (f g:Di):Prop:=g.n=f.n+1/\g.C=came f.C th/\Lvl room f.v g.v (came f.C th)
structure SB (x x':KS):Prop where
 room:x'.room=x.room
 reach:x'.reach=x.reach
 span:x'.span=x.span
 pts:x'.pts=x.pts
 k:x'.k=x.k
 dk:x'.dk=x.dk
structure SP (th w:Int) (x x':KS):Prop where
 sb:SB x x'
 cm:FS x.room th w x.cm x'.cm
 wn:x'.wn=x.wn
 up:RS th w x.up.x x'.up.x
 dn:x'.dn=x.dn
 wi:WS x.room x.reach (x.wi.c+1) (bx x.wi.ps++[⟨x.wi.c+1,x.wi.c+1,w⟩]) x'.wi
 di:DS x.room th x.di x'.di
 ba:x'.ba.q=if th<x.span then addQ x.ba.q (pwQ th w) else x.ba.q
structure ST (th w:Int) (x x':KS):Prop where
 sb:SB x x'
 cm:x'.cm=x.cm
 wn:FS x.room th w x.wn x'.wn
 up:x'.up=x.up
 dn:RS th w x.dn.x x'.dn.x
 wi:WS x.room x.reach (x.wi.c+1) (bx x.wi.ps) x'.wi
 di:x'.di=x.di
 ba:x'.ba.q=if th<x.span then addQ x.ba.q (pwQ th (-w)) else x.ba.q
structure SI (w:Int) (x x':KS):Prop where
 sb:SB x x'
 cm:x'.cm=x.cm
 wn:x'.wn=x.wn
 up:x'.up=x.up
 dn:x'.dn=x.dn
 wi:WS x.room x.reach (x.wi.c+w) (bx x.wi.ps) x'.wi
 di:x'.di=x.di
 ba:x'.ba=x.ba
/-- the same data -/
structure EF (f g:Fq):Prop where
 t:f.t=g.t
 l:f.l=g.l
 c:f.c=g.c
structure ER (f g:Rs):Prop where
 r:f.r=g.r
 tt:f.tt=g.tt
 ov:f.ov=g.ov
 un:f.un=g.un
 tn:f.tn=g.tn
 mi:f.mi=g.mi
 ma:f.ma=g.ma
 ls:f.ls=g.ls
structure EW (f g:Wi):Prop where
 c:f.c=g.c
 b:bx f.ps=bx g.ps
structure ED (f g:Di):Prop where
 n:f.n=g.n
 v:f.v=g.v
 C:f.C=g.C
structure Eqp (x y:KS):Prop where
 room:x.room=y.room
 reach:x.reach=y.reach
 span:x.span=y.span
 cm:EF x.cm y.cm
 wn:EF x.wn y.wn
 up:ER x.up.x y.up.x
 dn:ER x.dn.x y.dn.x
 wi:EW x.wi y.wi
 di:ED x.di y.di
 ba:x.ba.q=y.ba.q
theorem Eqp.idle {w:Int} {x y x' y':KS} (e:Eqp x y) (a:SI w x x') (b:SI w y y'):Eqp x' y' :=
 ⟨by rw [a.sb.room,b.sb.room,e.room],by rw [a.sb.reach,b.sb.reach,e.reach],by rw [a.sb.span,b.sb.span,e.span],by rw [a.cm,b.cm];exact e.cm,by rw [a.wn,b.wn];exact e.wn,by rw [a.up,b.up];exact e.up,by rw [a.dn,b.dn];exact e.dn,
  ⟨by rw [a.wi.1,b.wi.1,e.wi.c],by rw [a.wi.2,b.wi.2,e.wi.c,e.wi.b,e.room,e.reach]⟩,by rw [a.di,b.di];exact e.di,by rw [a.ba,b.ba,e.ba]⟩
structure Gf (room:Nat) (f:Fq) (n:Nat):Prop where
 ok:∃ W,Ok room f.c f.t f.l W
 t:f.t<=1000000000000*n
structure Gr (room:Nat) (f:Rs) (n:Nat):Prop where
 r:f.r=room
 g:RG.Good f.r f.tt f.ov f.un f.ls
 t:f.tt<=1000000000000*n
structure Kh (x:KS) (n:Nat):Prop where
 r2:2<=x.room
 r64:x.room<=64
 cm:Gf x.room x.cm n
 wn:Gf x.room x.wn n
 up:Gr x.room x.up.x n
 dn:Gr x.room x.dn.x n
 wl:x.wi.ps.length<=n
 dl:JZ x.room x.di.v x.di.C
 dc:x.di.C.length<=n
 few:n<=100
theorem Gf.add {room:Nat} {f g:Fq} {n:Nat} {th w:Int} (h:Gf room f n) (s:FS room th w f g) (w1:1<=w) (w2:w<=1000000000000):Gf room g (n+1):=by
 obtain ⟨cut,a,b,c⟩:=s
 obtain ⟨W,ok⟩:=h.ok
 have:=h.t
 exact ⟨⟨_,by rw [b,c];exact (ok.add (k:=th) w1).fit a⟩,by rw [b];lia⟩
theorem Gf.next {room:Nat} {f:Fq} {n:Nat} (h:Gf room f n):Gf room f (n+1):=⟨h.ok,by have:=h.t;lia⟩
theorem Gr.add {room:Nat} {f g:Rs} {n:Nat} {th w:Int} (h:Gr room f n) (s:RS th w f g) (w1:1<=w) (w2:w<=1000000000000):Gr room g (n+1):=by
 have:=h.t
 obtain ⟨g',_⟩:=h.g.add w1 s.st
 exact ⟨by rw [s.r,h.r],by rw [s.r,s.tt];exact g',by rw [s.tt];lia⟩
theorem Gr.next {room:Nat} {f:Rs} {n:Nat} (h:Gr room f n):Gr room f (n+1):=⟨h.r,h.g,by have:=h.t;lia⟩
theorem WS.len {room:Nat} {reach c:Int} {bs:List WN.Box} {g:Wi} (h:WS room reach c bs g):g.ps.length<=bs.length:=by
 have h1:=ahr room (c-reach) bs
 rw [<- h.2,zQ] at h1
 exact h1
theorem Kh.put {x x':KS} {n:Nat} {th w:Int} (h:Kh x n) (hn:n<100) (s:SP th w x x') (w1:1<=w) (w2:w<=1000000000000):Kh x' (n+1):=by
 have r:=s.sb.room
 refine ⟨by rw [r];exact h.r2,by rw [r];exact h.r64,by rw [r];exact h.cm.add s.cm w1 w2,by rw [r,s.wn];exact h.wn.next,by rw [r];exact h.up.add s.up w1 w2,by rw [r,s.dn];exact h.dn.next,?_,?_,?_,hn⟩
 ·have:=s.wi.len
  rw [eV,zQ] at this
  have l1:=h.wl
  exact fX this (by show x.wi.ps.length+1<=n+1;lia)
 ·rw [r,s.di.2.1];exact h.dl.lvl s.di.2.2 fun w=>aiU
 ·rw [s.di.2.1];have:=(ahk x.di.C th).2;have:=h.dc;lia
theorem Kh.take {x x':KS} {n:Nat} {th w:Int} (h:Kh x n) (hn:n<100) (s:ST th w x x') (w1:1<=w) (w2:w<=1000000000000):Kh x' (n+1):=by
 have r:=s.sb.room
 refine ⟨by rw [r];exact h.r2,by rw [r];exact h.r64,by rw [r,s.cm];exact h.cm.next,by rw [r];exact h.wn.add s.wn w1 w2,by rw [r,s.up];exact h.up.next,by rw [r];exact h.dn.add s.dn w1 w2,?_,by rw [r,s.di];exact h.dl,by rw [s.di];have:=h.dc;lia,hn⟩
 have:=s.wi.len
 rw [zQ] at this
 have l1:=h.wl
 lia
theorem Kh.idle {x x':KS} {n:Nat} {w:Int} (h:Kh x n) (hn:n<100) (s:SI w x x'):Kh x' (n+1):=by
 have r:=s.sb.room
 refine ⟨by rw [r];exact h.r2,by rw [r];exact h.r64,by rw [r,s.cm];exact h.cm.next,by rw [r,s.wn];exact h.wn.next,by rw [r,s.up];exact h.up.next,by rw [r,s.dn];exact h.dn.next,?_,by rw [r,s.di];exact h.dl,by rw [s.di];have:=h.dc;lia,hn⟩
 have:=s.wi.len
 rw [zQ] at this
 have l1:=h.wl
 lia
noncomputable def R0 (room:Nat):Rs:=⟨0,0,[],room,0,0,0,0,none,none,[]⟩
/-- the data of a keepsake to which nothing came -/
noncomputable def K0 (room:Nat) (reach span:Int):KS:=⟨0,0,room,reach,span,⟨0,0,0,0,0,[]⟩,⟨0,0,0,0,0,[]⟩,⟨0,R0 room⟩,⟨0,R0 room⟩,⟨0,0,0,0,[]⟩,⟨0,0,0,0,0,[]⟩,⟨0,0,0,iV⟩⟩
theorem Kh.eq {x y:KS} {n:Nat} (h:Kh y n) (e:Eqp x y):Kh x n:=by
 have gf:∀ {f g:Fq},EF f g->Gf y.room g n->Gf x.room f n:=fun {f g} e1 g1=>⟨by rw [e.room,e1.t,e1.l,e1.c];exact g1.ok,by rw [e1.t];exact g1.t⟩
 have gr:∀ {f g:Rs},ER f g->Gr y.room g n->Gr x.room f n:=fun {f g} e1 g1=>⟨by rw [e.room,e1.r];exact g1.r,by rw [e1.r,e1.tt,e1.ov,e1.un,e1.ls];exact g1.g,by rw [e1.tt];exact g1.t⟩
 refine ⟨by rw [e.room];exact h.r2,by rw [e.room];exact h.r64,gf e.cm h.cm,gf e.wn h.wn,gr e.up h.up,gr e.dn h.dn,?_,by rw [e.room,e.di.v,e.di.C];exact h.dl,by rw [e.di.C];exact h.dc,h.few⟩
 rw [<- zQ,e.wi.b,zQ];exact h.wl
theorem kh0 {room:Nat} (reach span:Int) (r2:2<=room) (r64:room<=64) (ev:room % 2=0):Kh (K0 room reach span) 0:=by
 have ok0:Gf room ⟨0,0,0,0,0,[]⟩ 0:=⟨⟨_,Ok.empty room⟩,fM _⟩
 have g0:RG.Good (room:Int) 0 0 0 []:=RG.Good.new tb_g% tb_g% tb_g%
 exact ⟨r2,r64,ok0,ok0,⟨rfl,g0,fM _⟩,⟨rfl,g0,fM _⟩,cJ _,⟨fM _,by show ((0:Nat):Int)<=room;lia,fun w a b=>absurd a (by have b2:w<0:=b;lia)⟩,cJ _,by decide⟩
open MK
noncomputable def al3 (A:Ad):Sp:=fun vs H Q _=>∃ (x:KS) (n:Nat) (th w:Int),vs=[.ref x.k,.int th,.int w]/\Kp A H x/\Kh x n/\n<100/\0<=th/\th<1152921504606846976/\1<=w/\w<=1000000000000 /\
 ∀ (x':KS) (H':Hp),Kp A H' x'->SP th w x x'->Far A x.pts H H'->Q .non H'
theorem ok'46 (T:Tx K mg A):cg P w K mg base CX0 6 A.XQ A.qx ["self","thing","weight"] (al3 A):=by
 k_dat (T.F'46.ok,Ft) "a"
 ·obtain ⟨x,n,th,w,rfl,_⟩:=h
  rfl
 ·obtain ⟨x,n,th,w,rfl,hK,hG,hn,th0,th1,w1,w2,q⟩:=h
  have e64:(2:Int) ^ 64=18446744073709551616:=by decide
  have r2:=hG.r2
  have r64:=hG.r64
  have lu:=wN hG.up.g hG.up.t hG.few
  have su:=hG.up.g.small
  have hrm:=hG.up.r
  obtain ⟨W,okf⟩:=hG.cm.ok
  refine ⟨_,(ao (cY (bA (aJ (pv 0) rfl) T.f9 T.wJ (ajL T) tb_g% T.b'31 .nil aX (aj (pv 1) (aj (pv 2) aA))))
   (ao (cY (bA (aJ (pv 0) rfl) T.cO T.Es (ok'8 T) tb_g% T.b'8 .nil aX (aj (pv 1) (aj (pv 2) aA))))
   (ao (cY (bA (aJ (pv 0) rfl) T.gW T.Qk (ok'16 T) tb_g% T.b'16 .nil aX (aj (pv 2) aA)))
   (ao (cY (bA (aJ (pv 0) rfl) T.jj T.Jx (ok'24 T) tb_g% T.b'24 .nil aX (aj (pv 1) aA)))
   (aC (cF (aK pZ (pv 1) (aJ (pv 0) rfl) (aQ _)) (aC (cY (bA (aJ (pv 0) rfl) T.sW T.Kq (ok'37 T) tb_g% T.b'37 .nil aX (aj (pv 1) (aj (pv 2) aA))))) aZ)))))),?_⟩
  refine ⟨_,rfl,rdF hK.o T.cj T.uE (xJ ..) ⟨x.cm.p,x.cm.dx,_,rfl,hK.cm.o,oO _ _ _ _ tb_g% tb_g% tb_g% tb_g%,_,rfl,_,rfl,x.cm.p,x.cm.dx,x.cm.d,x.room,x.cm.t,x.cm.l,th,w,x.cm.c,rfl,hK.cm.o,hK.cm.d,okf.nd,okf.pos,w1,by have:=okf.len;lia,fun d1 c1 cut H1 hd1 ft o1 e1 b1=>?_⟩⟩
  have P1:=hK.pp.setC (f:=⟨x.cm.p,x.cm.dx,d1,x.cm.t+w,x.cm.l+cut,c1⟩) rfl b1 ⟨o1,e1⟩
  have f1:Far A x.pts H H1:=Far.of (by simp [KS.pts]) hK.cm.o b1
  refine ⟨_,rfl,rdF (f1.pb _ _ hK.o hK.nk) T.cj T.rT (J8 ..) ⟨x.up.p,x.up.x.dx,_,rfl,P1.up.o,rgN tb_g%,_,rfl,_,rfl,x.up.p,x.up.x.dx,x.up.x.a,x.up.x.bs,x.up.x.r,x.up.x.tt,x.up.x.ov,x.up.x.un,x.up.x.tn,th,w,x.up.x.mi,x.up.x.ma,x.up.x.ls,rfl,P1.up,hG.up.g.r2,hG.up.g.r64,by lia,by rw [e64];lia,by lia,fun l hl=>by have:=su l hl;lia,lu.2,fun a' bs' out tn' ov' un' H2 st rn b2 na2 nb2=>?_⟩⟩
  have P2:=P1.setU (f:=⟨x.up.p,⟨x.up.x.dx,a',bs',x.up.x.r,x.up.x.tt+w,ov',un',tn',_,_,out⟩⟩) rfl b2 rn
  have f2:=f1.trans (Far.of (A:=A) (ps:=x.pts) (by simp [KS.pts]) P1.up.o b2)
  refine ⟨_,rfl,rdF (f2.pb _ _ hK.o hK.nk) T.cj T.wH (tK ..) ⟨x.wi.p,x.wi.dx,_,rfl,P2.wi.o,Uh _ _ _ _ tb_g% tb_g% tb_g% tb_g%,_,rfl,x.wi.p,x.wi.dx,x.wi.l,x.room,x.reach,x.wi.c,w,x.wi.ps,rfl,P2.wi,by have:=hG.wl;lia,by lia,by lia,fun l3 ps3 H3 eb3 wn3 b3 nl3=>?_⟩⟩
  have P3:=P2.setI (f:=⟨x.wi.p,x.wi.dx,l3,x.wi.c+1,ps3⟩) rfl b3 wn3
  have f3:=f2.trans (Far.of (A:=A) (ps:=x.pts) (by simp [KS.pts]) P2.wi.o b3)
  refine ⟨_,rfl,rdF (f3.pb _ _ hK.o hK.nk) T.cj T.Du (QV ..) ⟨x.di.p,x.di.dx,_,rfl,P3.di.o,ahf _ _ _ _ tb_g% tb_g% tb_g% tb_g%,_,rfl,x.di.p,x.di.dx,x.di.l,x.room,x.di.n,x.di.v,th,x.di.C,rfl,P3.di,hG.dl,by have:=hG.dc;lia,by lia,by lia,fun l4 v4 H4 lv4 dn4 b4 nl4=>?_⟩⟩
  have P4:=P3.setS (f:=⟨x.di.p,x.di.dx,l4,x.di.n+1,v4,came x.di.C th⟩) rfl b4 dn4
  have f4:=f3.trans (Far.of (A:=A) (ps:=x.pts) (by simp [KS.pts]) P3.di.o b4)
  have o4:=f4.pb _ _ hK.o hK.nk
  refine ⟨_,rfl,_,rfl,rdF o4 T.cj T.Jv (abq ..) ⟨_,_,rfl,rfl,_,rfl,cV (fun hs=>?_) (fun hs=>?_)⟩⟩
  ·have hs:th<x.span:=of_decide_eq_true hs
   refine ⟨_,rfl,rdF o4 T.cj T.zN (uI ..) ⟨x.ba.p,x.ba.dx,_,rfl,P4.ba.o,ajN _ _ tb_g% tb_g%,_,rfl,_,rfl,x.ba.p,x.ba.dx,x.ba.l,x.span,th,w,x.ba.q,rfl,P4.ba,th0,by rw [e64];lia,fun l5 H5 bn5 b5 nl5=>?_⟩⟩
   have P5:=P4.setB (f:=⟨x.ba.p,x.ba.dx,l5,_⟩) rfl b5 bn5
   have f5:=f4.trans (Far.of (A:=A) (ps:=x.pts) (by simp [KS.pts]) P4.ba.o b5)
   exact q _ H5 (P5.kp (f5.pb _ _ hK.o hK.nk) hK.nk) ⟨⟨rfl,rfl,rfl,rfl,rfl,rfl⟩,⟨cut,ft,rfl,rfl⟩,rfl,⟨rfl,rfl,rfl,rfl,st⟩,rfl,⟨rfl,eb3⟩,⟨rfl,rfl,lv4⟩,(if_pos hs).symm⟩ f5
  ·have hs:¬ th<x.span:=fun z=>hs (decide_eq_true z)
   exact q _ H4 (P4.kp o4 hK.nk) ⟨⟨rfl,rfl,rfl,rfl,rfl,rfl⟩,⟨cut,ft,rfl,rfl⟩,rfl,⟨rfl,rfl,rfl,rfl,st⟩,rfl,⟨rfl,eb3⟩,⟨rfl,rfl,lv4⟩,(if_neg hs).symm⟩ f4
noncomputable def ai4 (A:Ad):Sp:=fun vs H Q _=>∃ (x:KS) (n:Nat) (th w:Int),vs=[.ref x.k,.int th,.int w]/\Kp A H x/\Kh x n/\n<100/\0<=th/\th<1152921504606846976/\1<=w/\w<=1000000000000 /\
 ∀ (x':KS) (H':Hp),Kp A H' x'->ST th w x x'->Far A x.pts H H'->Q .non H'
theorem ok'47 (T:Tx K mg A):cg P w K mg base CX0 7 A.XR A.oG ["self","thing","weight"] (ai4 A):=by
 k_dat (T.F'47.ok,DN) "a"
 ·obtain ⟨x,n,th,w,rfl,_⟩:=h
  rfl
 ·obtain ⟨x,n,th,w,rfl,hK,hG,hn,th0,th1,w1,w2,q⟩:=h
  have e64:(2:Int) ^ 64=18446744073709551616:=by decide
  have r2:=hG.r2
  have r64:=hG.r64
  have lu:=wN hG.dn.g hG.dn.t hG.few
  have su:=hG.dn.g.small
  have hrm:=hG.dn.r
  obtain ⟨W,okf⟩:=hG.wn.ok
  refine ⟨_,(ao (cY (bA (aJ (pv 0) rfl) T.f9 T.wJ (ajL T) tb_g% T.b'31 .nil aX (aj (pv 1) (aj (pv 2) aA))))
   (ao (cY (bA (aJ (pv 0) rfl) T.cO T.Es (ok'8 T) tb_g% T.b'8 .nil aX (aj (pv 1) (aj (pv 2) aA))))
   (ao (cY (bA (aJ (pv 0) rfl) T.gW T.yc (ajG T) tb_g% T.b'17 .nil aX (aj au aA)))
   (aC (cF (aK pZ (pv 1) (aJ (pv 0) rfl) (aQ _)) (aC (cY (bA (aJ (pv 0) rfl) T.sW T.Jz (ok'38 T) tb_g% T.b'38 .nil aX (aj (pv 1) (aj (pv 2) aA))))) aZ))))),?_⟩
  refine ⟨_,rfl,rdF hK.o T.cj T.zM (Gh ..) ⟨x.wn.p,x.wn.dx,_,rfl,hK.wn.o,oO _ _ _ _ tb_g% tb_g% tb_g% tb_g%,_,rfl,_,rfl,x.wn.p,x.wn.dx,x.wn.d,x.room,x.wn.t,x.wn.l,th,w,x.wn.c,rfl,hK.wn.o,hK.wn.d,okf.nd,okf.pos,w1,by have:=okf.len;lia,fun d1 c1 cut H1 hd1 ft o1 e1 b1=>?_⟩⟩
  have P1:=hK.pp.setW (f:=⟨x.wn.p,x.wn.dx,d1,x.wn.t+w,x.wn.l+cut,c1⟩) rfl b1 ⟨o1,e1⟩
  have f1:Far A x.pts H H1:=Far.of (by simp [KS.pts]) hK.wn.o b1
  refine ⟨_,rfl,rdF (f1.pb _ _ hK.o hK.nk) T.cj T.Dt (QT ..) ⟨x.dn.p,x.dn.x.dx,_,rfl,P1.dn.o,rgN tb_g%,_,rfl,_,rfl,x.dn.p,x.dn.x.dx,x.dn.x.a,x.dn.x.bs,x.dn.x.r,x.dn.x.tt,x.dn.x.ov,x.dn.x.un,x.dn.x.tn,th,w,x.dn.x.mi,x.dn.x.ma,x.dn.x.ls,rfl,P1.dn,hG.dn.g.r2,hG.dn.g.r64,by lia,by rw [e64];lia,by lia,fun l hl=>by have:=su l hl;lia,lu.2,fun a' bs' out tn' ov' un' H2 st rn b2 na2 nb2=>?_⟩⟩
  have P2:=P1.setD (f:=⟨x.dn.p,⟨x.dn.x.dx,a',bs',x.dn.x.r,x.dn.x.tt+w,ov',un',tn',_,_,out⟩⟩) rfl b2 rn
  have f2:=f1.trans (Far.of (A:=A) (ps:=x.pts) (by simp [KS.pts]) P1.dn.o b2)
  refine ⟨_,rfl,rdF (f2.pb _ _ hK.o hK.nk) T.cj T.wH (tK ..) ⟨x.wi.p,x.wi.dx,_,rfl,P2.wi.o,Uh _ _ _ _ tb_g% tb_g% tb_g% tb_g%,x.wi.p,x.wi.dx,x.wi.l,x.room,x.reach,x.wi.c,1,x.wi.ps,rfl,P2.wi,by have:=hG.wl;lia,by lia,by lia,fun l3 ps3 H3 eb3 wn3 b3 nl3=>?_⟩⟩
  have P3:=P2.setI (f:=⟨x.wi.p,x.wi.dx,l3,x.wi.c+1,ps3⟩) rfl b3 wn3
  have f3:=f2.trans (Far.of (A:=A) (ps:=x.pts) (by simp [KS.pts]) P2.wi.o b3)
  have o3:=f3.pb _ _ hK.o hK.nk
  refine ⟨_,rfl,_,rfl,rdF o3 T.cj T.Jv (abq ..) ⟨_,_,rfl,rfl,_,rfl,cV (fun hs=>?_) (fun hs=>?_)⟩⟩
  ·have hs:th<x.span:=of_decide_eq_true hs
   refine ⟨_,rfl,rdF o3 T.cj T.zN (uI ..) ⟨x.ba.p,x.ba.dx,_,rfl,P3.ba.o,ajN _ _ tb_g% tb_g%,_,rfl,_,rfl,x.ba.p,x.ba.dx,x.ba.l,x.span,th,w,x.ba.q,rfl,P3.ba,th0,by rw [e64];lia,fun l5 H5 bn5 b5 nl5=>?_⟩⟩
   have P5:=P3.setB (f:=⟨x.ba.p,x.ba.dx,l5,_⟩) rfl b5 bn5
   have f5:=f3.trans (Far.of (A:=A) (ps:=x.pts) (by simp [KS.pts]) P3.ba.o b5)
   exact q _ H5 (P5.kp (f5.pb _ _ hK.o hK.nk) hK.nk) ⟨⟨rfl,rfl,rfl,rfl,rfl,rfl⟩,rfl,⟨cut,ft,rfl,rfl⟩,rfl,⟨rfl,rfl,rfl,rfl,st⟩,⟨rfl,eb3⟩,rfl,(if_pos hs).symm⟩ f5
  ·have hs:¬ th<x.span:=fun z=>hs (decide_eq_true z)
   exact q _ H3 (P3.kp o3 hK.nk) ⟨⟨rfl,rfl,rfl,rfl,rfl,rfl⟩,rfl,⟨cut,ft,rfl,rfl⟩,rfl,⟨rfl,rfl,rfl,rfl,st⟩,⟨rfl,eb3⟩,rfl,(if_neg hs).symm⟩ f3
noncomputable def ai5 (A:Ad):Sp:=fun vs H Q _=>∃ (x:KS) (n:Nat) (w:Int),vs=[.ref x.k,.int w]/\Kp A H x/\Kh x n /\
 ∀ (x':KS) (H':Hp),Kp A H' x'->SI w x x'->Far A x.pts H H'->Q .non H'
theorem ok'48 (T:Tx K mg A):cg P w K mg base CX0 6 A.XS A.oH ["self","many"] (ai5 A):=by
 k_dat (T.F'48.ok,DP) "a"
 ·obtain ⟨x,n,w,rfl,_⟩:=h
  rfl
 ·obtain ⟨x,n,w,rfl,hK,hG,q⟩:=h
  have r2:=hG.r2
  have r64:=hG.r64
  have few:=hG.few
  refine ⟨_,(aC (cY (bA (aJ (pv 0) rfl) T.gW T.yc (ajG T) tb_g% T.b'17 .nil aX (aj (pv 1) aA)))),?_⟩
  refine ⟨_,rfl,rdF hK.o T.cj T.wH (tK ..) ⟨x.wi.p,x.wi.dx,_,rfl,hK.wi.o,Uh _ _ _ _ tb_g% tb_g% tb_g% tb_g%,_,rfl,x.wi.p,x.wi.dx,x.wi.l,x.room,x.reach,x.wi.c,w,x.wi.ps,rfl,hK.wi,by have:=hG.wl;lia,by lia,by lia,fun l3 ps3 H3 eb3 wn3 b3 nl3=>?_⟩⟩
  have P3:=hK.pp.setI (f:=⟨x.wi.p,x.wi.dx,l3,x.wi.c+w,ps3⟩) rfl b3 wn3
  have f3:Far A x.pts H H3:=Far.of (by simp [KS.pts]) hK.wi.o b3
  exact q _ H3 (P3.kp (f3.pb _ _ hK.o hK.nk) hK.nk) ⟨⟨rfl,rfl,rfl,rfl,rfl,rfl⟩,rfl,rfl,rfl,rfl,⟨rfl,eb3⟩,rfl,rfl⟩ f3
open MK
noncomputable def ai6 (A:Ad):Sp:=fun vs H Q _=>∃ (k dk:Addr) (room:Nat) (reach span:Int),vs=[.ref k,.int room,.int reach,.int span]/\H k=some (.ins A.cG dk [])/\2<=room/\room<=64/\room % 2=0 /\
 ∀ (x:KS) (H':Hp),Kp A H' x->Eqp x (K0 room reach span)->x.k=k->(∀ b∈x.pts,H b=none)->But k H H'->Q .non H'
theorem ok'49 (T:Tx K mg A):cg P w K mg base CX0 3 A.Q7 A.oJ ["self","room","reach","span"] (ai6 A):=by
 k_dat (T.F'49.ok,DQ) "a"
 ·obtain ⟨k,dk,room,reach,span,rfl,_⟩:=h
  rfl
 ·obtain ⟨k,dk,room,reach,span,rfl,hk,r2,r64,ev,q⟩:=h
  refine ⟨_,(ao (bN (pv 0) (pv 1) rfl)
   (ao (bN (pv 0) (pv 2) rfl)
   (ao (bN (pv 0) (pv 3) rfl)
   (ao (bN (pv 0) (qU T.ajD (ajK T) tb_g% rfl T.Js T.b'27 .nil aX (aj (pv 1) aA)) rfl)
   (ao (bN (pv 0) (qU T.ajD (ajK T) tb_g% rfl T.Js T.b'27 .nil aX (aj (pv 1) aA)) rfl)
   (ao (bN (pv 0) (qU T.ajC (ok'7 T) tb_g% rfl T.aa5 T.b'7 .nil aX (aj (pv 1) aA)) rfl)
   (ao (bN (pv 0) (qU T.ajC (ok'7 T) tb_g% rfl T.aa5 T.b'7 .nil aX (aj (pv 1) aA)) rfl)
   (ao (bN (pv 0) (qU T.mk'72 (ok'14 T) tb_g% rfl T.agM T.b'14 .nil aX (aj (pv 1) (aj (pv 2) aA))) rfl)
   (ao (bN (pv 0) (qU T.mk'73 (ok'21 T) tb_g% rfl T.ZW T.b'21 .nil aX (aj (pv 1) aA)) rfl)
   (aC (bN (pv 0) (qU T.mk'75 (ok'36 T) tb_g% rfl T.acs T.b'36 .nil aX (aj (pv 3) aA)) rfl))))))))))),?_⟩
  refine ⟨_,rfl,_,rfl,k,_,dk,[],rfl,hk,T.cj,T.Ds,(by show 0<1000;decide),?_⟩
  refine ⟨_,rfl,_,rfl,k,_,dk,_,rfl,ak,T.cj,T.Ju,(by show 1<1000;decide),?_⟩
  refine ⟨_,rfl,_,rfl,k,_,dk,_,rfl,ak,T.cj,T.Jv,(by show 2<1000;decide),?_⟩
  rw [dw,dw]
  have b0:But k H (upd H k (.ins A.cG dk (aD "span" (.int span) (aD "reach" (.int reach) (aD "room" (.int room) []))))):=But.upd
  have o0:(upd H k (.ins A.cG dk (aD "span" (.int span) (aD "reach" (.int reach) (aD "room" (.int room) []))))) k=some (.ins A.cG dk (aD "span" (.int span) (aD "reach" (.int reach) (aD "room" (.int room) [])))):=ak
  generalize upd H k (.ins A.cG dk (aD "span" (.int span) (aD "reach" (.int reach) (aD "room" (.int room) []))))=G0 at b0 o0 ⊢
  refine ⟨_,rfl,fun p1 dx1 n1 m1 z1=>⟨p1,dx1,(room:Int),rfl,ak,fun d1 I1 hd1 e1 g1 bt1=>⟨rfl,?_⟩⟩⟩
  have s1:Same G0 I1:=fun b o e=>bt1 b o (by rw [aB (aq e n1),aB (aq e m1)];exact e) (aq e n1)
  have nk1:p1≠k:=aP (aq o0 n1)
  have ok1:=s1 _ _ o0
  k_dat (k,dk,ok1,T.cj,T.uE,3) "f"
  have u1:But k I1 (upd I1 k (.ins A.cG dk (aD "came" (.ref p1) (aD "span" (.int span) (aD "reach" (.int reach) (aD "room" (.int room) [])))))):=But.upd
  have F1:Bs A I1 room ⟨p1,dx1,d1,0,0,[]⟩:=⟨e1,g1⟩
  replace F1:=F1.but u1 ok1 nk1
  have o1:(upd I1 k (.ins A.cG dk (aD "came" (.ref p1) (aD "span" (.int span) (aD "reach" (.int reach) (aD "room" (.int room) [])))))) k=some (.ins A.cG dk (aD "came" (.ref p1) (aD "span" (.int span) (aD "reach" (.int reach) (aD "room" (.int room) []))))):=ak
  have b1:But k H (upd I1 k (.ins A.cG dk (aD "came" (.ref p1) (aD "span" (.int span) (aD "reach" (.int reach) (aD "room" (.int room) [])))))):=(b0.trans (s1.but k)).trans u1
  have v1:H p1=none:=dh b0 n1 nk1
  generalize upd I1 k (.ins A.cG dk (aD "came" (.ref p1) (aD "span" (.int span) (aD "reach" (.int reach) (aD "room" (.int room) [])))))=G1 at u1 o1 b1 F1 ⊢
  refine ⟨_,rfl,fun p2 dx2 n2 m2 z2=>⟨p2,dx2,(room:Int),rfl,ak,fun d2 I2 hd2 e2 g2 bt2=>⟨rfl,?_⟩⟩⟩
  have s2:Same G1 I2:=fun b o e=>bt2 b o (by rw [aB (aq e n2),aB (aq e m2)];exact e) (aq e n2)
  have q12:p1≠p2:=aq F1.o n2
  have nk2:p2≠k:=aP (aq o1 n2)
  have ok2:=s2 _ _ o1
  k_dat (k,dk,ok2,T.cj,T.zM,4) "f"
  have u2:But k I2 (upd I2 k (.ins A.cG dk (aD "went" (.ref p2) (aD "came" (.ref p1) (aD "span" (.int span) (aD "reach" (.int reach) (aD "room" (.int room) []))))))):=But.upd
  have F2:Bs A I2 room ⟨p2,dx2,d2,0,0,[]⟩:=⟨e2,g2⟩
  replace F2:=F2.but u2 ok2 nk2
  replace F1:=(F1.same s2).but u2 ok2 nk1
  have o2:(upd I2 k (.ins A.cG dk (aD "went" (.ref p2) (aD "came" (.ref p1) (aD "span" (.int span) (aD "reach" (.int reach) (aD "room" (.int room) []))))))) k=some (.ins A.cG dk (aD "went" (.ref p2) (aD "came" (.ref p1) (aD "span" (.int span) (aD "reach" (.int reach) (aD "room" (.int room) [])))))):=ak
  have b2:But k H (upd I2 k (.ins A.cG dk (aD "went" (.ref p2) (aD "came" (.ref p1) (aD "span" (.int span) (aD "reach" (.int reach) (aD "room" (.int room) []))))))):=(b1.trans (s2.but k)).trans u2
  have v2:H p2=none:=dh b1 n2 nk2
  generalize upd I2 k (.ins A.cG dk (aD "went" (.ref p2) (aD "came" (.ref p1) (aD "span" (.int span) (aD "reach" (.int reach) (aD "room" (.int room) []))))))=G2 at u2 o2 b2 F1 F2 ⊢
  refine ⟨_,rfl,fun p3 dx3 n3 m3 z3=>⟨p3,dx3,(room:Int),rfl,ak,fun d3 I3 hd3 e3 g3 bt3=>⟨rfl,?_⟩⟩⟩
  have s3:Same G2 I3:=fun b o e=>bt3 b o (by rw [aB (aq e n3),aB (aq e m3)];exact e) (aq e n3)
  have q13:p1≠p3:=aq F1.o n3
  have q23:p2≠p3:=aq F2.o n3
  have nk3:p3≠k:=aP (aq o2 n3)
  have ok3:=s3 _ _ o2
  k_dat (k,dk,ok3,T.cj,T.rT,5) "f"
  have u3:But k I3 (upd I3 k (.ins A.cG dk (aD "up" (.ref p3) (aD "went" (.ref p2) (aD "came" (.ref p1) (aD "span" (.int span) (aD "reach" (.int reach) (aD "room" (.int room) [])))))))):=But.upd
  have F3:Rn A I3 p3 dx3 d3 [] room 0 0 0 0 none none []:=Rn.new e3 g3
  replace F3:=F3.but u3 ok3 nk3
  replace F1:=(F1.same s3).but u3 ok3 nk1
  replace F2:=(F2.same s3).but u3 ok3 nk2
  have o3:(upd I3 k (.ins A.cG dk (aD "up" (.ref p3) (aD "went" (.ref p2) (aD "came" (.ref p1) (aD "span" (.int span) (aD "reach" (.int reach) (aD "room" (.int room) [])))))))) k=some (.ins A.cG dk (aD "up" (.ref p3) (aD "went" (.ref p2) (aD "came" (.ref p1) (aD "span" (.int span) (aD "reach" (.int reach) (aD "room" (.int room) []))))))):=ak
  have b3:But k H (upd I3 k (.ins A.cG dk (aD "up" (.ref p3) (aD "went" (.ref p2) (aD "came" (.ref p1) (aD "span" (.int span) (aD "reach" (.int reach) (aD "room" (.int room) [])))))))):=(b2.trans (s3.but k)).trans u3
  have vd3:H d3=none:=by
   have y:(upd (upd G2 dx3 (.own p3)) p3 (.ins A.dU dx3 [])) d3=none:=hd3
   have np:d3≠p3:=fun z=>by rw [z,ak] at y;cases y
   rw [aB np] at y
   have nq:d3≠dx3:=fun z=>by rw [z,ak] at y;cases y
   rw [aB nq] at y
   exact dh b2 y (aP (aq o2 y))
  have v3:H p3=none:=dh b2 n3 nk3
  generalize upd I3 k (.ins A.cG dk (aD "up" (.ref p3) (aD "went" (.ref p2) (aD "came" (.ref p1) (aD "span" (.int span) (aD "reach" (.int reach) (aD "room" (.int room) [])))))))=G3 at u3 o3 b3 F1 F2 F3 ⊢
  refine ⟨_,rfl,fun p4 dx4 n4 m4 z4=>⟨p4,dx4,(room:Int),rfl,ak,fun d4 I4 hd4 e4 g4 bt4=>⟨rfl,?_⟩⟩⟩
  have s4:Same G3 I4:=fun b o e=>bt4 b o (by rw [aB (aq e n4),aB (aq e m4)];exact e) (aq e n4)
  have q14:p1≠p4:=aq F1.o n4
  have q24:p2≠p4:=aq F2.o n4
  have q34:p3≠p4:=aq F3.o n4
  have nk4:p4≠k:=aP (aq o3 n4)
  have ok4:=s4 _ _ o3
  k_dat (k,dk,ok4,T.cj,T.Dt,6) "f"
  have u4:But k I4 (upd I4 k (.ins A.cG dk (aD "down" (.ref p4) (aD "up" (.ref p3) (aD "went" (.ref p2) (aD "came" (.ref p1) (aD "span" (.int span) (aD "reach" (.int reach) (aD "room" (.int room) []))))))))):=But.upd
  have F4:Rn A I4 p4 dx4 d4 [] room 0 0 0 0 none none []:=Rn.new e4 g4
  replace F4:=F4.but u4 ok4 nk4
  replace F1:=(F1.same s4).but u4 ok4 nk1
  replace F2:=(F2.same s4).but u4 ok4 nk2
  replace F3:=(F3.same s4).but u4 ok4 nk3
  have o4:(upd I4 k (.ins A.cG dk (aD "down" (.ref p4) (aD "up" (.ref p3) (aD "went" (.ref p2) (aD "came" (.ref p1) (aD "span" (.int span) (aD "reach" (.int reach) (aD "room" (.int room) []))))))))) k=some (.ins A.cG dk (aD "down" (.ref p4) (aD "up" (.ref p3) (aD "went" (.ref p2) (aD "came" (.ref p1) (aD "span" (.int span) (aD "reach" (.int reach) (aD "room" (.int room) [])))))))):=ak
  have b4:But k H (upd I4 k (.ins A.cG dk (aD "down" (.ref p4) (aD "up" (.ref p3) (aD "went" (.ref p2) (aD "came" (.ref p1) (aD "span" (.int span) (aD "reach" (.int reach) (aD "room" (.int room) []))))))))):=(b3.trans (s4.but k)).trans u4
  have vd4:H d4=none:=by
   have y:(upd (upd G3 dx4 (.own p4)) p4 (.ins A.dU dx4 [])) d4=none:=hd4
   have np:d4≠p4:=fun z=>by rw [z,ak] at y;cases y
   rw [aB np] at y
   have nq:d4≠dx4:=fun z=>by rw [z,ak] at y;cases y
   rw [aB nq] at y
   exact dh b3 y (aP (aq o3 y))
  have v4:H p4=none:=dh b3 n4 nk4
  generalize upd I4 k (.ins A.cG dk (aD "down" (.ref p4) (aD "up" (.ref p3) (aD "went" (.ref p2) (aD "came" (.ref p1) (aD "span" (.int span) (aD "reach" (.int reach) (aD "room" (.int room) []))))))))=G4 at u4 o4 b4 F1 F2 F3 F4 ⊢
  refine ⟨_,rfl,_,rfl,fun p5 dx5 n5 m5 z5=>⟨p5,dx5,(room:Int),reach,rfl,ak,fun d5 I5 hd5 e5 g5 bt5=>⟨rfl,?_⟩⟩⟩
  have s5:Same G4 I5:=fun b o e=>bt5 b o (by rw [aB (aq e n5),aB (aq e m5)];exact e) (aq e n5)
  have q15:p1≠p5:=aq F1.o n5
  have q25:p2≠p5:=aq F2.o n5
  have q35:p3≠p5:=aq F3.o n5
  have q45:p4≠p5:=aq F4.o n5
  have nk5:p5≠k:=aP (aq o4 n5)
  have ok5:=s5 _ _ o4
  k_dat (k,dk,ok5,T.cj,T.wH,7) "f"
  have u5:But k I5 (upd I5 k (.ins A.cG dk (aD "window" (.ref p5) (aD "down" (.ref p4) (aD "up" (.ref p3) (aD "went" (.ref p2) (aD "came" (.ref p1) (aD "span" (.int span) (aD "reach" (.int reach) (aD "room" (.int room) [])))))))))):=But.upd
  have F5:Wn A I5 p5 dx5 d5 room reach 0 []:=⟨e5,⟨g5,fun _ h=>(nomatch h)⟩⟩
  replace F5:=F5.but u5 ok5 nk5
  replace F1:=(F1.same s5).but u5 ok5 nk1
  replace F2:=(F2.same s5).but u5 ok5 nk2
  replace F3:=(F3.same s5).but u5 ok5 nk3
  replace F4:=(F4.same s5).but u5 ok5 nk4
  have o5:(upd I5 k (.ins A.cG dk (aD "window" (.ref p5) (aD "down" (.ref p4) (aD "up" (.ref p3) (aD "went" (.ref p2) (aD "came" (.ref p1) (aD "span" (.int span) (aD "reach" (.int reach) (aD "room" (.int room) [])))))))))) k=some (.ins A.cG dk (aD "window" (.ref p5) (aD "down" (.ref p4) (aD "up" (.ref p3) (aD "went" (.ref p2) (aD "came" (.ref p1) (aD "span" (.int span) (aD "reach" (.int reach) (aD "room" (.int room) []))))))))):=ak
  have b5:But k H (upd I5 k (.ins A.cG dk (aD "window" (.ref p5) (aD "down" (.ref p4) (aD "up" (.ref p3) (aD "went" (.ref p2) (aD "came" (.ref p1) (aD "span" (.int span) (aD "reach" (.int reach) (aD "room" (.int room) [])))))))))):=(b4.trans (s5.but k)).trans u5
  have vd5:H d5=none:=by
   have y:(upd (upd G4 dx5 (.own p5)) p5 (.ins A.jm dx5 [])) d5=none:=hd5
   have np:d5≠p5:=fun z=>by rw [z,ak] at y;cases y
   rw [aB np] at y
   have nq:d5≠dx5:=fun z=>by rw [z,ak] at y;cases y
   rw [aB nq] at y
   exact dh b4 y (aP (aq o4 y))
  have v5:H p5=none:=dh b4 n5 nk5
  generalize upd I5 k (.ins A.cG dk (aD "window" (.ref p5) (aD "down" (.ref p4) (aD "up" (.ref p3) (aD "went" (.ref p2) (aD "came" (.ref p1) (aD "span" (.int span) (aD "reach" (.int reach) (aD "room" (.int room) [])))))))))=G5 at u5 o5 b5 F1 F2 F3 F4 F5 ⊢
  refine ⟨_,rfl,fun p6 dx6 n6 m6 z6=>⟨p6,dx6,(room:Int),rfl,ak,fun d6 I6 hd6 e6 g6 bt6=>⟨rfl,?_⟩⟩⟩
  have s6:Same G5 I6:=fun b o e=>bt6 b o (by rw [aB (aq e n6),aB (aq e m6)];exact e) (aq e n6)
  have q16:p1≠p6:=aq F1.o n6
  have q26:p2≠p6:=aq F2.o n6
  have q36:p3≠p6:=aq F3.o n6
  have q46:p4≠p6:=aq F4.o n6
  have q56:p5≠p6:=aq F5.o n6
  have nk6:p6≠k:=aP (aq o5 n6)
  have ok6:=s6 _ _ o5
  k_dat (k,dk,ok6,T.cj,T.Du,8) "f"
  have u6:But k I6 (upd I6 k (.ins A.cG dk (aD "seen" (.ref p6) (aD "window" (.ref p5) (aD "down" (.ref p4) (aD "up" (.ref p3) (aD "went" (.ref p2) (aD "came" (.ref p1) (aD "span" (.int span) (aD "reach" (.int reach) (aD "room" (.int room) []))))))))))):=But.upd
  have F6:Dn A I6 p6 dx6 d6 room 0 0 (srt (My.up 0 [])):=⟨e6,by rw [show srt (My.up 0 [])=[] from KC.mp (jD _)];exact g6⟩
  replace F6:=F6.but u6 ok6 nk6
  replace F1:=(F1.same s6).but u6 ok6 nk1
  replace F2:=(F2.same s6).but u6 ok6 nk2
  replace F3:=(F3.same s6).but u6 ok6 nk3
  replace F4:=(F4.same s6).but u6 ok6 nk4
  replace F5:=(F5.same s6).but u6 ok6 nk5
  have o6:(upd I6 k (.ins A.cG dk (aD "seen" (.ref p6) (aD "window" (.ref p5) (aD "down" (.ref p4) (aD "up" (.ref p3) (aD "went" (.ref p2) (aD "came" (.ref p1) (aD "span" (.int span) (aD "reach" (.int reach) (aD "room" (.int room) []))))))))))) k=some (.ins A.cG dk (aD "seen" (.ref p6) (aD "window" (.ref p5) (aD "down" (.ref p4) (aD "up" (.ref p3) (aD "went" (.ref p2) (aD "came" (.ref p1) (aD "span" (.int span) (aD "reach" (.int reach) (aD "room" (.int room) [])))))))))):=ak
  have b6:But k H (upd I6 k (.ins A.cG dk (aD "seen" (.ref p6) (aD "window" (.ref p5) (aD "down" (.ref p4) (aD "up" (.ref p3) (aD "went" (.ref p2) (aD "came" (.ref p1) (aD "span" (.int span) (aD "reach" (.int reach) (aD "room" (.int room) []))))))))))):=(b5.trans (s6.but k)).trans u6
  have vd6:H d6=none:=by
   have y:(upd (upd G5 dx6 (.own p6)) p6 (.ins A.jr dx6 [])) d6=none:=hd6
   have np:d6≠p6:=fun z=>by rw [z,ak] at y;cases y
   rw [aB np] at y
   have nq:d6≠dx6:=fun z=>by rw [z,ak] at y;cases y
   rw [aB nq] at y
   exact dh b5 y (aP (aq o5 y))
  have v6:H p6=none:=dh b5 n6 nk6
  generalize upd I6 k (.ins A.cG dk (aD "seen" (.ref p6) (aD "window" (.ref p5) (aD "down" (.ref p4) (aD "up" (.ref p3) (aD "went" (.ref p2) (aD "came" (.ref p1) (aD "span" (.int span) (aD "reach" (.int reach) (aD "room" (.int room) []))))))))))=G6 at u6 o6 b6 F1 F2 F3 F4 F5 F6 ⊢
  refine ⟨_,rfl,fun p7 dx7 n7 m7 z7=>⟨p7,dx7,span,rfl,ak,fun d7 I7 hd7 e7 bt7=>⟨rfl,?_⟩⟩⟩
  have s7:Same G6 I7:=fun b o e=>bt7 b o (by rw [aB (aq e n7),aB (aq e m7)];exact e) (aq e n7)
  have q17:p1≠p7:=aq F1.o n7
  have q27:p2≠p7:=aq F2.o n7
  have q37:p3≠p7:=aq F3.o n7
  have q47:p4≠p7:=aq F4.o n7
  have q57:p5≠p7:=aq F5.o n7
  have q67:p6≠p7:=aq F6.o n7
  have nk7:p7≠k:=aP (aq o6 n7)
  have ok7:=s7 _ _ o6
  k_dat (k,dk,ok7,T.cj,T.zN,9) "f"
  have u7:But k I7 (upd I7 k (.ins A.cG dk (aD "balance" (.ref p7) (aD "seen" (.ref p6) (aD "window" (.ref p5) (aD "down" (.ref p4) (aD "up" (.ref p3) (aD "went" (.ref p2) (aD "came" (.ref p1) (aD "span" (.int span) (aD "reach" (.int reach) (aD "room" (.int room) [])))))))))))):=But.upd
  have F7:Bn A I7 p7 dx7 d7 span iV:=e7
  replace F7:=F7.but u7 ok7 nk7
  replace F1:=(F1.same s7).but u7 ok7 nk1
  replace F2:=(F2.same s7).but u7 ok7 nk2
  replace F3:=(F3.same s7).but u7 ok7 nk3
  replace F4:=(F4.same s7).but u7 ok7 nk4
  replace F5:=(F5.same s7).but u7 ok7 nk5
  replace F6:=(F6.same s7).but u7 ok7 nk6
  have o7:(upd I7 k (.ins A.cG dk (aD "balance" (.ref p7) (aD "seen" (.ref p6) (aD "window" (.ref p5) (aD "down" (.ref p4) (aD "up" (.ref p3) (aD "went" (.ref p2) (aD "came" (.ref p1) (aD "span" (.int span) (aD "reach" (.int reach) (aD "room" (.int room) [])))))))))))) k=some (.ins A.cG dk (aD "balance" (.ref p7) (aD "seen" (.ref p6) (aD "window" (.ref p5) (aD "down" (.ref p4) (aD "up" (.ref p3) (aD "went" (.ref p2) (aD "came" (.ref p1) (aD "span" (.int span) (aD "reach" (.int reach) (aD "room" (.int room) []))))))))))):=ak
  have b7:But k H (upd I7 k (.ins A.cG dk (aD "balance" (.ref p7) (aD "seen" (.ref p6) (aD "window" (.ref p5) (aD "down" (.ref p4) (aD "up" (.ref p3) (aD "went" (.ref p2) (aD "came" (.ref p1) (aD "span" (.int span) (aD "reach" (.int reach) (aD "room" (.int room) [])))))))))))):=(b6.trans (s7.but k)).trans u7
  have vd7:H d7=none:=by
   have y:(upd (upd G6 dx7 (.own p7)) p7 (.ins A.qJ dx7 [])) d7=none:=hd7
   have np:d7≠p7:=fun z=>by rw [z,ak] at y;cases y
   rw [aB np] at y
   have nq:d7≠dx7:=fun z=>by rw [z,ak] at y;cases y
   rw [aB nq] at y
   exact dh b6 y (aP (aq o6 y))
  have v7:H p7=none:=dh b6 n7 nk7
  generalize upd I7 k (.ins A.cG dk (aD "balance" (.ref p7) (aD "seen" (.ref p6) (aD "window" (.ref p5) (aD "down" (.ref p4) (aD "up" (.ref p3) (aD "went" (.ref p2) (aD "came" (.ref p1) (aD "span" (.int span) (aD "reach" (.int reach) (aD "room" (.int room) [])))))))))))=G7 at u7 o7 b7 F1 F2 F3 F4 F5 F6 F7 ⊢
  rw [alY] at o7
  refine q ⟨k,dk,room,reach,span,⟨p1,dx1,d1,0,0,[]⟩,⟨p2,dx2,d2,0,0,[]⟩,⟨p3,⟨dx3,d3,[],room,0,0,0,0,none,none,[]⟩⟩,⟨p4,⟨dx4,d4,[],room,0,0,0,0,none,none,[]⟩⟩,⟨p5,dx5,d5,0,[]⟩,⟨p6,dx6,d6,0,0,[]⟩,⟨p7,dx7,d7,iV⟩⟩ G7 ⟨o7,F1,F2,F3,F4,F5,F6,F7,?_⟩
   ⟨rfl,rfl,rfl,⟨rfl,rfl,rfl⟩,⟨rfl,rfl,rfl⟩,⟨rfl,rfl,rfl,rfl,rfl,rfl,rfl,rfl⟩,⟨rfl,rfl,rfl,rfl,rfl,rfl,rfl,rfl⟩,⟨rfl,rfl⟩,⟨rfl,rfl,rfl⟩,rfl⟩ rfl ?_ b7
  ·show [k,p1,p2,p3,p4,p5,p6,p7].Nodup
   simp only [vg,cA,lN,or_false,not_or,U6,and_true,not_false_eq_true]
   exact ⟨⟨aP nk1,aP nk2,aP nk3,aP nk4,aP nk5,aP nk6,aP nk7⟩,⟨q12,q13,q14,q15,q16,q17⟩,⟨q23,q24,q25,q26,q27⟩,⟨q34,q35,q36,q37⟩,⟨q45,q46,q47⟩,⟨q56,q57⟩,q67⟩
  ·intro b m
   unfold KS.pts at m
   simp only [cA,lN,or_false] at m
   rcases m with rfl | rfl | rfl | rfl | rfl | rfl | rfl
   all_goals assumption
open MK
noncomputable def spMix:Sp:=fun vs H Q _=>∃ c f p:Int,vs=[.int c,.int f,.int p]/\0<f/\f<2 ^ 64/\0<p/\∀ v:Int,0<=v->v<p->Q (.int v) H
theorem abr (T:Tx K mg A):cg P w K mg base CX0 1 A.X3 A.Qg ["_law_cell","_law_factor","_law_prime"] spMix:=by
 k_dat (T.agU.ok,agZ) "a"
 ·obtain ⟨c,f,p,rfl,_⟩:=h
  rfl
 ·obtain ⟨c,f,p,rfl,f0,f1,p0,q⟩:=h
  refine ⟨_,(aC (aO (aF dg (aF fQ (pv 0) (pv 1)) (pv 2)))),?_⟩
  exact ⟨_,rfl,_,rfl,_,_,rfl,rfl,fO tb_g% f1,_,rfl,_,_,rfl,rfl,p0,q _ (tV _ tb_g%) (xV _ p0)⟩
noncomputable def spFar:Sp:=fun vs H Q _=>vs=[]/\∀ v:Int,0<=v->v<1152921504606846976->Q (.int v) H
theorem ok'51 (T:Tx K mg A):cg P w K mg base CX0 1 A.X4 A.uy [] spFar:=by
 k_dat (T.F'51.ok,mY) "a"
 ·obtain ⟨rfl,_⟩:=h
  rfl
 ·obtain ⟨rfl,q⟩:=h
  refine ⟨_,(ao (aL (i:=0) mY.nd rfl (Or.inl rfl) au)
   (ao (mH mD rfl (CV rfl T.Qn (aj au aA)) (dR (i:=1) mY.nd rfl (Or.inl rfl)) (aC (aL (i:=0) mY.nd rfl (Or.inl rfl) (aF dg (aF fQ (pv 0) (aF dY au (aF fQ au (pv 0)))) au))))
   (aC (aO (pv 0))))),?_⟩
  refine ⟨5,rfl,by decide,by decide,?_⟩
  refine CZ (fun i σ G=>∃ (v:Int) (y:Option V),σ=[some (.int v),y]/\0<=v/\v<1152921504606846976/\G=H) ⟨770093176312745717,none,rfl,by decide,by decide,rfl⟩ ?_ ?_
  ·rintro i σ G hi ⟨v,y,rfl,v0,v1,rfl⟩
   refine ⟨_,rfl,_,rfl,_,_,rfl,rfl,qg (by decide) (by decide),_,_,rfl,rfl,_,_,rfl,rfl,qg tb_g% tb_g%,_,_,rfl,rfl,(by show (0:Int)<1152921504606846976;decide),?_⟩
   exact ⟨_,_,rfl,tV _ (by decide),xV _ (by decide),rfl⟩
  ·rintro σ G ⟨v,y,rfl,v0,v1,rfl⟩
   exact ⟨_,rfl,q v v0 v1⟩
noncomputable def ahs:Sp:=fun vs H Q _=>∃ c:Int,vs=[.int c]/\∀ (v:Int) (H':Hp),0<=v->v<1152921504606846976->Same H H'->Q (.int v) H'
theorem ajP (T:Tx K mg A):cg P w K mg base CX0 2 A.X5 A.uz ["_law_cell"] ahs:=by
 k_dat (T.F'52.ok,rW) "a"
 ·obtain ⟨c,rfl,_⟩:=h
  rfl
 ·obtain ⟨c,rfl,q⟩:=h
  refine ⟨_,(ao (aL (i:=1) rW.nd rfl (Or.inl rfl) (aF dg (pv 0) au))
   (ao (cF (aK pZ (pv 1) au (aQ _)) (aC (aO (aF dg (aF cZ (pv 0) au) (bO (ixG (bB hr)) (cN (aj au (aj au aA))) (pv 1) (fun _ _=>rfl))))) aZ)
   (ao (cF (aK fY (pv 1) au (aQ _)) (aC (aO (aF dg (aF fQ (aF cZ (pv 0) au) au) au))) aZ)
   (ao (aL (i:=2) rW.nd rfl (Or.inl rfl) (aF ak6 (aF bM au (aF dg (aF cZ (pv 0) au) au)) (aF dg (aF cZ (pv 0) au) au)))
   (aC (aO (aF dg (aF fQ (pv 2) (afy (ok'51 T) tb_g% rfl T.Ql T.F'51.kp T.b'51 .nil aX)) au))))))),?_⟩
  refine ⟨_,rfl,_,_,rfl,rfl,(by show (0:Int)<4;decide),?_⟩
  k_dat h "j"
  ·have h:c % 4<2:=of_decide_eq_true h
   refine ⟨_,rfl,_,_,rfl,rfl,⟨by decide,by decide⟩,(by show 2<=sizeLine;decide),fun p hp=>⟨_,rfl,?_⟩⟩
   obtain ⟨v,hv,e⟩:=qZ (ns:=[7,60]) (i:=c % 4) tb_g% (by show c % 4<2;lia)
   have hv:v=7\/v=60:=by simpa using hv
   refine fZ (.inl (.inl ak)) (v:=.int v) e ⟨_,_,rfl,rfl,(by show (0:Int)<v;lia),?_⟩
   have a1:=tV (c / 4) (show v≠0 by lia)
   have a2:=xV (c / 4) (show 0<v by lia)
   exact q _ _ a1 (by show c / 4 % v<_;lia) (Same.new hp)
  k_dat h "e"
  ·refine ⟨_,rfl,_,_,rfl,rfl,⟨by decide,by decide⟩,_,_,rfl,rfl,fO (by decide) (by decide),_,_,rfl,rfl,(by show (0:Int)<1152921504606846976;decide),?_⟩
   exact q _ _ (tV _ (by decide)) (xV _ (by decide)) (Same.refl H)
  ·refine ⟨_,rfl,_,_,rfl,rfl,⟨by decide,by decide⟩,_,_,rfl,rfl,(by show (0:Int)<40;decide),_,_,rfl,rfl,_,rfl,_,_,rfl,rfl,⟨by decide,by decide⟩,_,_,rfl,rfl,(by show (0:Int)<50;decide),_,_,rfl,rfl,⟨by lia,by lia,?_⟩,?_⟩
   ·lia
   refine ⟨_,rfl,rfl,fun v v0 v1=>⟨_,_,rfl,rfl,fO tb_g% tb_g%,_,_,rfl,rfl,(by show (0:Int)<1152921504606846976;decide),?_⟩⟩
   exact q _ _ (tV _ (by decide)) (xV _ (by decide)) (Same.refl H)
noncomputable def acO:Sp:=fun vs H Q _=>∃ c:Int,vs=[.int c]/\∀ v:Int,1<=v->v<=1000000000000->Q (.int v) H
theorem ok'53 (T:Tx K mg A):cg P w K mg base CX0 1 A.X6 A.rR ["_law_cell"] acO:=by
 k_dat (T.F'53.ok,JT) "a"
 ·obtain ⟨c,rfl,_⟩:=h
  rfl
 ·obtain ⟨c,rfl,q⟩:=h
  refine ⟨_,(ao (cF (aK fY (aF dg (pv 0) au) au (aQ _)) (aC (aO (aF bM au (aF dg (aF fQ (aF cZ (pv 0) au) au) au)))) aZ)
   (aC (aO (aF bM au (aF dg (aF cZ (pv 0) au) au))))),?_⟩
  refine ⟨_,rfl,_,_,rfl,rfl,(by show (0:Int)<5;decide),rfl,_,rfl,cV (fun h=>?_) (fun h=>?_)⟩
  ·refine ⟨_,rfl,_,_,rfl,rfl,⟨by decide,by decide⟩,_,_,rfl,rfl,fO (by decide) (by decide),_,_,rfl,rfl,(by show (0:Int)<1000000000000;decide),_,_,rfl,rfl,?_⟩
   exact q _ tb_g% tb_g%
  ·refine ⟨_,rfl,_,_,rfl,rfl,⟨by decide,by decide⟩,_,_,rfl,rfl,(by show (0:Int)<12;decide),_,_,rfl,rfl,?_⟩
   exact q _ tb_g% tb_g%
/-- a row: its kind,its thing,its weight -/
structure R3 where
 (kd th w:Int)
structure R3.ok (r:R3):Prop where
 k0:0<=r.kd
 k2:r.kd<=2
 t0:0<=r.th
 t1:r.th<1152921504606846976
 w1:1<=r.w
 w2:r.w<=1000000000000
noncomputable def r3V (r:R3):HO:=.tup [.int r.kd,.int r.th,.int r.w]
noncomputable def ai7:Sp:=fun vs H Q _=>∃ c:Int,vs=[.int c]/\∀ (t:Addr) (r:R3) (H':Hp),r.ok->H t=none->H' t=some (r3V r)->Same H H'->Q (.ref t) H'
theorem ok'54 (T:Tx K mg A):cg P w K mg base CX0 3 A.X7 A.zK ["_law_cell"] ai7:=by
 k_dat (T.F'54.ok,rA) "a"
 ·obtain ⟨c,rfl,_⟩:=h
  rfl
 ·obtain ⟨c,rfl,q⟩:=h
  refine ⟨_,(ao (aL (i:=1) rA.nd rfl (Or.inl rfl) (bO (ixG (bB hr)) (cN (aj au (aj au (aj au (aj au (aj au (aj au (aj au aA)))))))) (aF dg (pv 0) au) (fun _ _=>rfl)))
   (ao (aL (i:=2) rA.nd rfl (Or.inl rfl) (bQ (ajP T) tb_g% rfl T.Bd T.F'52.kp T.b'52 .nil aX (aj (bQ (abr T) tb_g% rfl T.Gb T.agU.kp T.b'50 .nil aX (aj (pv 0) (aj au (aj au aA)))) aA)))
   (ao (aL (i:=3) rA.nd rfl (Or.inl rfl) (bQ (ok'53 T) tb_g% rfl T.Kr T.F'53.kp T.b'53 .nil aX (aj (bQ (abr T) tb_g% rfl T.Gb T.agU.kp T.b'50 .nil aX (aj (pv 0) (aj au (aj au aA)))) aA)))
   (aC (aO (eE (aj (pv 1) (aj (pv 2) (aj (pv 3) aA))))))))),?_⟩
  refine ⟨(by show 7<=sizeLine;decide),fun p hp=>⟨_,rfl,_,_,rfl,rfl,(by show (0:Int)<7;decide),?_⟩⟩
  obtain ⟨kd,hkd,e⟩:=qZ (ns:=[0,0,0,0,1,1,2]) (i:=c % 7) tb_g% (by show c % 7<7;lia)
  have hkd:0<=kd/\kd<=2:=by
   simp only [cA,lN,or_false] at hkd
   lia
  refine fZ (.inl (.inl ak)) (v:=.int kd) e ?_
  have s1:=Same.new (o:=.lst [.int 0,.int 0,.int 0,.int 0,.int 1,.int 1,.int 2]) hp
  generalize upd H p (.lst [.int 0,.int 0,.int 0,.int 0,.int 1,.int 1,.int 2])=H1 at s1 ⊢
  refine ⟨_,rfl,c,6364136223846793005,18446744073709551557,rfl,by decide,by decide,by decide,fun m _ _=>⟨m,rfl,fun th H2 t0 t1 s2=>?_⟩⟩
  refine ⟨_,rfl,c,69621,2147483629,rfl,by decide,by decide,by decide,fun m2 _ _=>⟨m2,rfl,fun w w1 w2=>?_⟩⟩
  exact ⟨_,rfl,_,rfl,_,rfl,by show 3<=sizeLine;decide,fun t ht=>q t ⟨kd,th,w⟩ _ ⟨hkd.1,hkd.2,t0,t1,w1,w2⟩ ((s1.trans s2).free ht) ak (s1.trans (s2.trans (Same.new ht)))⟩
noncomputable def ai8:Sp:=fun vs H Q _=>∃ c:Int,vs=[.int c]/\∀ (t:Addr) (room:Nat) (reach span:Int) (H':Hp),2<=room->room<=64->room % 2=0->room<=16->1<=reach->reach<=1000000000->1<=span->span<=1000000000->H' t=some (.tup [.int room,.int reach,.int span])->Same H H'->Q (.ref t) H'
theorem rooms {v:Int} (h:v∈[2,4,2,6,8,16]):∃ r:Nat,v=r/\2<=r/\r<=64/\r % 2=0/\r<=16:=by
 simp only [cA,lN,or_false] at h
 exact ⟨v.toNat,by lia,by lia,by lia,by lia,by lia⟩
theorem ok'55 (T:Tx K mg A):cg P w K mg base CX0 1 A.X8 A.uD ["_law_cell"] ai8:=by
 k_dat (T.F'55.ok,mZ) "a"
 ·obtain ⟨c,rfl,_⟩:=h
  rfl
 ·obtain ⟨c,rfl,q⟩:=h
  refine ⟨_,(ao (aL (i:=1) mZ.nd rfl (Or.inl rfl) (bO (ixG (bB hr)) (cN (aj au (aj au (aj au (aj au (aj au (aj au aA))))))) (aF dg (pv 0) au) (fun _ _=>rfl)))
   (ao (aL (i:=2) mZ.nd rfl (Or.inl rfl) (bO (ixG (bB hr)) (cN (aj au (aj (aF bM au (aF dg (aF cZ (pv 0) au) au)) (aj (aF bM au (aF dg (aF cZ (pv 0) au) au)) aA)))) (aF dg (aF cZ (pv 0) au) au) (fun _ _=>rfl)))
   (ao (aL (i:=3) mZ.nd rfl (Or.inl rfl) (bO (ixG (bB hr)) (cN (aj (aF bM au (aF dg (aF cZ (pv 0) au) au)) (aj au (aj au aA)))) (aF dg (aF cZ (pv 0) au) au) (fun _ _=>rfl)))
   (aC (aO (eE (aj (pv 1) (aj (pv 2) (aj (pv 3) aA))))))))),?_⟩
  refine ⟨(by show 6<=sizeLine;decide),fun p hp=>⟨_,rfl,_,_,rfl,rfl,(by show (0:Int)<6;decide),?_⟩⟩
  obtain ⟨rv,hrv,e⟩:=qZ (ns:=[2,4,2,6,8,16]) (i:=c % 6) tb_g% (by show c % 6<6;lia)
  obtain ⟨room,rfl,r2,r64,ev,r16⟩:=rooms hrv
  refine fZ (.inl (.inl ak)) (v:=.int room) e ?_
  have s1:=Same.new (o:=.lst [.int 2,.int 4,.int 2,.int 6,.int 8,.int 16]) hp
  generalize upd H p (.lst [.int 2,.int 4,.int 2,.int 6,.int 8,.int 16])=H1 at s1 ⊢
  refine ⟨_,rfl,_,_,rfl,rfl,⟨by decide,by decide⟩,_,_,rfl,rfl,(by show (0:Int)<9;decide),_,_,rfl,rfl,_,rfl,_,_,rfl,rfl,⟨by decide,by decide⟩,_,_,rfl,rfl,(by show (0:Int)<1000000;decide),_,_,rfl,rfl,(by show 3<=sizeLine;decide),fun p2 hp2=>⟨_,rfl,_,_,rfl,rfl,⟨by decide,by decide⟩,_,_,rfl,rfl,(by show (0:Int)<3;decide),?_⟩⟩
  obtain ⟨reach,hre,e2⟩:=qZ (ns:=[1000000000,1+c / 6 % 9,1+c / 6 % 1000000]) (i:=c / 6 % 3) tb_g% (by show c / 6 % 3<3;lia)
  refine fZ (.inl (.inl ak)) (v:=.int reach) e2 ?_
  have s2:=s1.trans (Same.new (o:=.lst [.int 1000000000,.int (1+c / 6 % 9),.int (1+c / 6 % 1000000)]) hp2)
  generalize upd H1 p2 (.lst [.int 1000000000,.int (1+c / 6 % 9),.int (1+c / 6 % 1000000)])=H2 at s2 ⊢
  refine ⟨_,rfl,_,_,rfl,rfl,⟨by decide,by decide⟩,_,_,rfl,rfl,(by show (0:Int)<9;decide),_,_,rfl,rfl,(by show 3<=sizeLine;decide),fun p3 hp3=>⟨_,rfl,_,_,rfl,rfl,⟨by decide,by decide⟩,_,_,rfl,rfl,(by show (0:Int)<3;decide),?_⟩⟩
  obtain ⟨span,hsp,e3⟩:=qZ (ns:=[1+c / 18 % 9,60,1000000000]) (i:=c / 18 % 3) tb_g% (by show c / 18 % 3<3;lia)
  refine fZ (.inl (.inl ak)) (v:=.int span) e3 ?_
  have s3:=s2.trans (Same.new (o:=.lst [.int (1+c / 18 % 9),.int 60,.int 1000000000]) hp3)
  generalize upd H2 p3 (.lst [.int (1+c / 18 % 9),.int 60,.int 1000000000])=H3 at s3 ⊢
  simp only [cA,lN,or_false] at hre hsp
  exact ⟨_,rfl,_,rfl,_,rfl,by show 3<=sizeLine;decide,fun t ht=>q t room reach span _ r2 r64 ev r16 tb_g% tb_g% tb_g% tb_g% ak (s3.trans (Same.new ht))⟩
/-- what a row does -/
noncomputable def SR (r:R3) (x x':KS):Prop:=if r.kd=0 then SP r.th r.w x x' else if r.kd=1 then ST r.th r.w x x' else SI r.w x x'
theorem SR.sb {r:R3} {x x':KS} (h:SR r x x'):SB x x':=by
 unfold SR at h
 split at h
 ·exact h.sb
 ·split at h
  ·exact h.sb
  ·exact h.sb
theorem Kh.row {r:R3} {x x':KS} {n:Nat} (h:Kh x n) (hn:n<100) (ok:r.ok) (s:SR r x x'):Kh x' (n+1):=by
 unfold SR at s
 split at s
 ·exact h.put hn s ok.w1 ok.w2
 ·split at s
  ·exact h.take hn s ok.w1 ok.w2
  ·exact h.idle hn s
noncomputable def al4 (A:Ad):Sp:=fun vs H Q _=>∃ (x:KS) (n:Nat) (t:Addr) (r:R3),vs=[.ref x.k,.ref t]/\Kp A H x/\Kh x n/\n<100/\H t=some (r3V r)/\r.ok /\
 ∀ (x':KS) (H':Hp),Kp A H' x'->SR r x x'->Far A x.pts H H'->Q .non H'
theorem ok'56 (T:Tx K mg A):cg P w K mg base CX0 8 A.Yb A.Jl ["_law_keepsake","_law_row"] (al4 A):=by
 k_dat (T.F'56.ok,acA) "a"
 ·obtain ⟨x,n,t,r,rfl,_⟩:=h
  rfl
 ·obtain ⟨x,n,t,r,rfl,hK,hG,hn,ht,ok,q⟩:=h
  unfold r3V at ht
  unfold SR at q
  refine ⟨_,(aC (cF (aK fY (bO (ixG (bB hr)) (pv 1) au (fun _ _=>rfl)) au (aQ _)) (aC (cY (bA (pv 0) T.cj T.JB (ok'46 T) tb_g% T.b'46 .nil aX (aj (bO (ixG (bB hr)) (pv 1) au (fun _ _=>rfl)) (aj (bO (ixG (bB hr)) (pv 1) au (fun _ _=>rfl)) aA))))) (aC (cF (aK fY (bO (ixG (bB hr)) (pv 1) au (fun _ _=>rfl)) au (aQ _)) (aC (cY (bA (pv 0) T.cj T.Fb (ok'47 T) tb_g% T.b'47 .nil aX (aj (bO (ixG (bB hr)) (pv 1) au (fun _ _=>rfl)) (aj (bO (ixG (bB hr)) (pv 1) au (fun _ _=>rfl)) aA))))) (aC (cY (bA (pv 0) T.cj T.Fd (ok'48 T) tb_g% T.b'48 .nil aX (aj (bO (ixG (bB hr)) (pv 1) au (fun _ _=>rfl)) aA)))))))),?_⟩
  refine ⟨_,rfl,eX (.inl (.inl ht)) (v:=.int r.kd) rfl ⟨rfl,_,rfl,cV (fun h=>?_) (fun h=>?_)⟩⟩
  ·have h:r.kd=0:=V.int.inj (of_decide_eq_true h)
   simp only [if_pos h] at q
   exact ⟨_,rfl,x.k,x.dk,_,rfl,hK.o,kfN tb_g%,_,rfl,eX (.inl (.inl ht)) (v:=.int r.th) rfl ⟨_,rfl,eX (.inl (.inl ht)) (v:=.int r.w) rfl ⟨x,n,r.th,r.w,rfl,hK,hG,hn,ok.t0,ok.t1,ok.w1,ok.w2,q⟩⟩⟩
  have h:¬ r.kd=0:=fun z=>h (decide_eq_true (congrArg V.int z))
  simp only [if_neg h] at q
  refine ⟨_,rfl,eX (.inl (.inl ht)) (v:=.int r.kd) rfl ⟨rfl,_,rfl,cV (fun h2=>?_) (fun h2=>?_)⟩⟩
  ·have h2:r.kd=1:=V.int.inj (of_decide_eq_true h2)
   simp only [if_pos h2] at q
   exact ⟨_,rfl,x.k,x.dk,_,rfl,hK.o,kfN tb_g%,_,rfl,eX (.inl (.inl ht)) (v:=.int r.th) rfl ⟨_,rfl,eX (.inl (.inl ht)) (v:=.int r.w) rfl ⟨x,n,r.th,r.w,rfl,hK,hG,hn,ok.t0,ok.t1,ok.w1,ok.w2,q⟩⟩⟩
  ·have h2:¬ r.kd=1:=fun z=>h2 (decide_eq_true (congrArg V.int z))
   simp only [if_neg h2] at q
   exact ⟨_,rfl,x.k,x.dk,_,rfl,hK.o,kfN tb_g%,_,rfl,eX (.inl (.inl ht)) (v:=.int r.w) rfl ⟨x,n,r.w,rfl,hK,hG,q⟩⟩
open MK
noncomputable def al5 (A:Ad):Sp:=fun vs H Q _=>∃ (x:KS) (th:Int),vs=[.ref x.k,.int th]/\Kp A H x /\
 ∀ (t:Addr) (H':Hp),H' t=some (.tup [.int (low x.cm.c th-(low x.wn.c th+x.wn.l)),.int (low x.cm.c th+x.cm.l-low x.wn.c th)])->Same H H'->Q (.ref t) H'
theorem ok'57 (T:Tx K mg A):cg P w K mg base CX0 3 A.Yc A.qy ["self","thing"] (al5 A):=by
 k_dat (T.F'57.ok,uX) "a"
 ·obtain ⟨x,th,rfl,_⟩:=h
  rfl
 ·obtain ⟨x,th,rfl,hK,q⟩:=h
  refine ⟨_,(ao (aL (i:=2) uX.nd rfl (Or.inl rfl) (aF dY (bA (aJ (pv 0) rfl) T.f9 T.iz (LC T) tb_g% T.acw .nil aX (aj (pv 1) aA)) (bA (aJ (pv 0) rfl) T.f9 T.iR (Um T) tb_g% T.agS .nil aX (aj (pv 1) aA))))
   (aC (aO (eE (aj (pv 2) (aj (aF dY (bA (aJ (pv 0) rfl) T.f9 T.iR (Um T) tb_g% T.agS .nil aX (aj (pv 1) aA)) (bA (aJ (pv 0) rfl) T.f9 T.iz (LC T) tb_g% T.acw .nil aX (aj (pv 1) aA))) aA)))))),?_⟩
  refine ⟨_,rfl,rdF hK.o T.cj T.uE (xJ ..) ⟨x.cm.p,x.cm.dx,_,rfl,hK.cm.o,oO _ _ _ _ tb_g% tb_g% tb_g% tb_g%,_,rfl,x.cm.p,x.cm.dx,x.cm.d,x.room,x.cm.t,x.cm.l,th,x.cm.c,rfl,hK.cm.o,hK.cm.d,?_⟩⟩
  refine ⟨_,rfl,rdF hK.o T.cj T.zM (Gh ..) ⟨x.wn.p,x.wn.dx,_,rfl,hK.wn.o,oO _ _ _ _ tb_g% tb_g% tb_g% tb_g%,_,rfl,x.wn.p,x.wn.dx,x.wn.d,x.room,x.wn.t,x.wn.l,th,x.wn.c,rfl,hK.wn.o,hK.wn.d,?_⟩⟩
  refine ⟨_,_,rfl,rfl,_,rfl,?_⟩
  refine ⟨_,rfl,rdF hK.o T.cj T.uE (xJ ..) ⟨x.cm.p,x.cm.dx,_,rfl,hK.cm.o,oO _ _ _ _ tb_g% tb_g% tb_g% tb_g%,_,rfl,x.cm.p,x.cm.dx,x.cm.d,x.room,x.cm.t,x.cm.l,th,x.cm.c,rfl,hK.cm.o,hK.cm.d,?_⟩⟩
  refine ⟨_,rfl,rdF hK.o T.cj T.zM (Gh ..) ⟨x.wn.p,x.wn.dx,_,rfl,hK.wn.o,oO _ _ _ _ tb_g% tb_g% tb_g% tb_g%,_,rfl,x.wn.p,x.wn.dx,x.wn.d,x.room,x.wn.t,x.wn.l,th,x.wn.c,rfl,hK.wn.o,hK.wn.d,?_⟩⟩
  exact ⟨_,_,rfl,rfl,by show 2<=sizeLine;decide,fun t ht=>q t _ ak (Same.new ht)⟩
noncomputable def acP (A:Ad):Sp:=fun vs H Q _=>∃ (x:KS) (th:Int),vs=[.ref x.k,.int th]/\Kp A H x/\x.up.x.ls.length<=60/\(∀ l∈x.up.x.ls,l.length<=64)/\x.dn.x.ls.length<=60/\(∀ l∈x.dn.x.ls,l.length<=64) /\
 ∀ (t:Addr) (H':Hp),H' t=some (.tup [.int (max ((RG.nr th x.up.x.ls:Nat)-x.up.x.ov) 0-min ((RG.nr th x.dn.x.ls:Nat)+x.dn.x.un) x.dn.x.tt),.int (min ((RG.nr th x.up.x.ls:Nat)+x.up.x.un) x.up.x.tt-max ((RG.nr th x.dn.x.ls:Nat)-x.dn.x.ov) 0)])->Same H H'->Q (.ref t) H'
theorem ok'58 (T:Tx K mg A):cg P w K mg base CX0 3 A.Yd A.lY ["self","thing"] (acP A):=by
 k_dat (T.F'58.ok,lJ) "a"
 ·obtain ⟨x,th,rfl,_⟩:=h
  rfl
 ·obtain ⟨x,th,rfl,hK,l1,l2,l3,l4,q⟩:=h
  refine ⟨_,(ao (aL (i:=2) lJ.nd rfl (Or.inl rfl) (bA (aJ (pv 0) rfl) T.cO T.pD (abd T) tb_g% T.b'10 .nil aX (aj (pv 1) aA)))
   (ao (aL (i:=3) lJ.nd rfl (Or.inl rfl) (bA (aJ (pv 0) rfl) T.cO T.pD (abd T) tb_g% T.b'10 .nil aX (aj (pv 1) aA)))
   (aC (aO (eE (aj (aF dY (bO (ixG (bB hr)) (pv 2) au (fun _ _=>rfl)) (bO (ixG (bB hr)) (pv 3) au (fun _ _=>rfl))) (aj (aF dY (bO (ixG (bB hr)) (pv 2) au (fun _ _=>rfl)) (bO (ixG (bB hr)) (pv 3) au (fun _ _=>rfl))) aA))))))),?_⟩
  refine ⟨_,rfl,rdF hK.o T.cj T.rT (J8 ..) ⟨x.up.p,x.up.x.dx,_,rfl,hK.up.o,rgN tb_g%,_,rfl,x.up.p,x.up.x.dx,x.up.x.a,x.up.x.bs,x.up.x.r,x.up.x.tt,x.up.x.ov,x.up.x.un,x.up.x.tn,th,x.up.x.mi,x.up.x.ma,x.up.x.ls,rfl,hK.up,by lia,fun l hl=>by have:=l2 l hl;lia,fun t1 H1 _ ht1 s1=>?_⟩⟩
  have K1:=hK.same s1
  refine ⟨_,rfl,rdF K1.o T.cj T.Dt (QT ..) ⟨x.dn.p,x.dn.x.dx,_,rfl,K1.dn.o,rgN tb_g%,_,rfl,x.dn.p,x.dn.x.dx,x.dn.x.a,x.dn.x.bs,x.dn.x.r,x.dn.x.tt,x.dn.x.ov,x.dn.x.un,x.dn.x.tn,th,x.dn.x.mi,x.dn.x.ma,x.dn.x.ls,rfl,K1.dn,by lia,fun l hl=>by have:=l4 l hl;lia,fun t2 H2 _ ht2 s2=>?_⟩⟩
  have aht:=s2 _ _ ht1
  refine ⟨_,rfl,eX (.inl (.inl aht)) (v:=.int _) rfl ⟨_,rfl,eX (.inl (.inl ht2)) (v:=.int _) rfl ⟨_,_,rfl,rfl,?_⟩⟩⟩
  refine ⟨_,rfl,eX (.inl (.inl aht)) (v:=.int _) rfl ⟨_,rfl,eX (.inl (.inl ht2)) (v:=.int _) rfl ⟨_,_,rfl,rfl,?_⟩⟩⟩
  exact ⟨by show 2<=sizeLine;decide,fun t ht=>q t _ ak (s1.trans (s2.trans (Same.new ht)))⟩
inductive Tr where
 | f (v:V)
 | l (ts:List Tr)
 | t (ts:List Tr)
inductive Is (H:Hp) (P:Addr->Prop):Nat->V->Tr->Prop where
 | flat {n:Nat} {v:V} (h:sJ v=true):Is H P n v (.f v)
 | lst {n:Nat} {a:Addr} {xs:List V} {ts:List Tr} (pa:P a) (ha:H a=some (.lst xs)) (hl:xs.length=ts.length) (h:∀ (i:Nat) (x:V) (t:Tr),xs[i]? = some x->ts[i]? = some t->Is H P n x t):Is H P (n+1) (.ref a) (.l ts)
 | tup {n:Nat} {a:Addr} {xs:List V} {ts:List Tr} (ha:H a=some (.tup xs)) (hl:xs.length=ts.length) (h:∀ (i:Nat) (x:V) (t:Tr),xs[i]? = some x->ts[i]? = some t->Is H P n x t):Is H P (n+1) (.ref a) (.t ts)
theorem Is.keep {H H':Hp} {P P':Addr->Prop} (k1:∀ b xs,P b->H b=some (.lst xs)->H' b=some (.lst xs)) (k2:∀ b xs,H b=some (.tup xs)->H' b=some (.tup xs)) (kp:∀ b,P b->P' b) {n:Nat} {v:V} {t:Tr} (h:Is H P n v t):Is H' P' n v t:=by
 induction h with
 | flat h=>exact .flat h
 | lst pa ha hl _ ih=>exact .lst (kp _ pa) (k1 _ _ pa ha) hl ih
 | tup ha hl _ ih=>exact .tup (k2 _ _ ha) hl ih
theorem Is.same {H H':Hp} {P:Addr->Prop} (s:Same H H') {n:Nat} {v:V} {t:Tr} (h:Is H P n v t):Is H' P n v t:=h.keep (fun _ _ _=>s _ _) (fun _ _=>s _ _) fun _ p=>p
/-- a list that is not in it may change -/
theorem Is.upd {H:Hp} {P:Addr->Prop} {L:Addr} {zs ys:List V} (hL:H L=some (.lst zs)) (n1:¬ P L) {n:Nat} {v:V} {t:Tr} (h:Is H P n v t):Is (L2.upd H L (.lst ys)) P n v t :=
 h.keep (fun b xs p e=>by rw [aB (fun z=>n1 (by rw [<- z];exact p))];exact e) (fun b xs e=>by rw [aB (jP e hL (by intro z;cases z))];exact e) fun _ p=>p
theorem Is.alike {K:aW} {H:Hp} {P P':Addr->Prop} {n:Nat} {u:V} {t:Tr} (h:Is H P n u t):∀ {v:V},Is H P' n v t->Alike K H n u v:=by
 induction h with
 | flat h=>intro v g;cases g with | flat _=>exact .flat h
 | @lst n a xs ts _ ha hl _ ih =>
  intro v g
  cases g with
  | @lst _ b ys _ _ hb gl gh =>
   exact .lst (.inl (.inl ha)) (.inl (.inl hb)) (hl.trans gl.symm) fun i x y e1 e2=>by
    have li:i<ts.length:=by rw [<- hl];exact (jK.mp e1).1
    exact ih i x _ e1 (jL li) (gh i y _ e2 (jL li))
 | @tup n a xs ts ha hl _ ih =>
  intro v g
  cases g with
  | @tup _ b ys _ hb gl gh =>
   exact .tup (.inl (.inl ha)) (.inl (.inl hb)) (hl.trans gl.symm) fun i x y e1 e2=>by
    have li:i<ts.length:=by rw [<- hl];exact (jK.mp e1).1
    exact ih i x _ e1 (jL li) (gh i y _ e2 (jL li))
inductive IsL (H:Hp) (P:Addr->Prop) (n:Nat):List V->List Tr->Prop where
 | nil:IsL H P n [] []
 | cons {v:V} {t:Tr} {vs:List V} {ts:List Tr} (h:Is H P n v t) (r:IsL H P n vs ts):IsL H P n (v::vs) (t::ts)
theorem IsL.at {H:Hp} {P:Addr->Prop} {n:Nat} {vs:List V} {ts:List Tr} (h:IsL H P n vs ts):vs.length=ts.length/\∀ (i:Nat) (x:V) (t:Tr),vs[i]? = some x->ts[i]? = some t->Is H P n x t:=by
 induction h with
 | nil=>exact ⟨rfl,fun i x t e=>by cases i <;> cases e⟩
 | cons h _ ih =>
  refine ⟨congrArg (· + 1) ih.1,fun i x t e1 e2=>?_⟩
  cases i with
  | zero=>cases e1;cases e2;exact h
  | succ i=>exact ih.2 i x t e1 e2
theorem IsL.imp {H H':Hp} {P P':Addr->Prop} {n:Nat} {vs:List V} {ts:List Tr} (f:∀ v t,Is H P n v t->Is H' P' n v t) (h:IsL H P n vs ts):IsL H' P' n vs ts:=by
 induction h with
 | nil=>exact .nil
 | cons h _ ih=>exact .cons (f _ _ h) ih
theorem IsL.snoc {H:Hp} {P:Addr->Prop} {n:Nat} {vs:List V} {ts:List Tr} {v:V} {t:Tr} (h:IsL H P n vs ts) (g:Is H P n v t):IsL H P n (vs++[v]) (ts++[t]):=by
 induction h with
 | nil=>exact .cons g .nil
 | cons h _ ih=>exact .cons h ih
theorem Is.ofL {H:Hp} {P:Addr->Prop} {n:Nat} {a:Addr} {xs:List V} {ts:List Tr} (pa:P a) (ha:H a=some (.lst xs)) (h:IsL H P n xs ts):Is H P (n+1) (.ref a) (.l ts):=.lst pa ha h.at.1 h.at.2
theorem Is.ofT {H:Hp} {P:Addr->Prop} {n:Nat} {a:Addr} {xs:List V} {ts:List Tr} (ha:H a=some (.tup xs)) (h:IsL H P n xs ts):Is H P (n+1) (.ref a) (.t ts):=.tup ha h.at.1 h.at.2
theorem IsL.map {α:Type} {H:Hp} {P:Addr->Prop} {n:Nat} {f:α->V} {g:α->Tr}:∀ {xs:List α},(∀ x∈xs,Is H P n (f x) (g x))->IsL H P n (xs.map f) (xs.map g)
 | [],_=>.nil
 | x::r,h=>.cons (h x (gq ..)) (IsL.map fun y m=>h y (gY _ m))
noncomputable abbrev iT (i:Int):Tr:=.f (.int i)
theorem xR {H:Hp} {P:Addr->Prop} {n:Nat} (i:Int):Is H P n (.int i) (iT i):=.flat rfl
/-- a list that grows: what is in it was not there before -/
structure Gw (H G:Hp) (L:Addr) (n:Nat) (xs:List V) (ts:List Tr):Prop where
 s:Same H G
 fL:H L=none
 gL:G L=some (.lst xs)
 is:IsL G (fun a=>H a=none/\a≠L) n xs ts
theorem Gw.done {H G:Hp} {L:Addr} {n:Nat} {xs:List V} {ts:List Tr} (h:Gw H G L n xs ts):Is G (fun a=>H a=none) (n+1) (.ref L) (.l ts):=.ofL h.fL h.gL (h.is.imp fun _ _ q=>q.keep (fun _ _ _ e=>e) (fun _ _ e=>e) fun _ p=>p.1)
open MK
theorem pw_bd {th w:Int} (t0:0<=th) (t9:th<1000000000) (w2:w.natAbs<=1000000000000):∀ z∈L4 (pwQ th w),z.natAbs<=2 ^ 130:=by
 have t1:th.natAbs<=1000000000:=by lia
 have key:∀ {a b c d:Nat},a<=c->b<=d->a*b<=c*d:=fun h1 h2=>ad2 h1 h2
 intro z m
 have m:z=w\/z=w*th\/z=w*th*th\/z=w*th*th*th:=by
  have:z∈[w,w*th,w*th*th,w*th*th*th]:=m
  simpa using this
 have a1:=key w2 t1
 have a2:=key a1 t1
 have a3:=key a2 t1
 rcases m with rfl | rfl | rfl | rfl
 ·exact fX w2 (by decide)
 ·rw [vL];exact fX a1 (by decide)
 ·rw [vL,vL];exact fX a2 (by decide)
 ·rw [vL,vL,vL];exact fX a3 (by decide)
theorem ajQ {q p:Q4} {n:Nat} (h:∀ z∈L4 q,z.natAbs<=n*2 ^ 130) (g:∀ z∈L4 p,z.natAbs<=2 ^ 130):∀ z∈L4 (addQ q p),z.natAbs<=(n+1)*2 ^ 130:=by
 intro z m
 have m:z=q.a+p.a\/z=q.b+p.b\/z=q.c+p.c\/z=q.d+p.d:=by
  have:z∈[q.a+p.a,q.b+p.b,q.c+p.c,q.d+p.d]:=m
  simpa using this
 have e:∀ {a b:Int},a∈L4 q->b∈L4 p->(a+b).natAbs<=(n+1)*2 ^ 130:=fun {a b} m1 m2=>by
  have h1:=h a m1
  have h2:=g b m2
  rw [Nat.succ_mul]
  generalize 2 ^ 130=B at h1 h2 ⊢
  generalize n*B=C at h1 ⊢
  lia
 rcases m with rfl | rfl | rfl | rfl <;> exact e (by simp [L4]) (by simp [L4])
theorem ahu {q:Q4} {n:Nat} (h:∀ z∈L4 q,z.natAbs<=n*2 ^ 130):∀ z∈L4 q,z.natAbs<=(n+1)*2 ^ 130:=fun z m=>fX (h z m) (yL _ (nQ n))
theorem al6 {s:Int} (h1:1<=s) (h2:s<=1000000000):∀ z∈L4 (Fz s),z.natAbs<=2 ^ 130:=by
 have e:s.natAbs<=1000000000:=by lia
 have e1:(s-1).natAbs<=1000000000:=by lia
 have e2:(2*s-1).natAbs<=2000000000:=by lia
 have key:∀ {a b:Int} {c d:Nat},a.natAbs<=c->b.natAbs<=d->(a*b).natAbs<=c*d:=fun h1 h2=>by rw [vL];exact ad2 h1 h2
 have a1:=key e e1
 have a2:=key a1 e2
 have d1:=fX (Hy (s*(s-1)) 2) a1
 have d2:=fX (Hy (s*(s-1)*(2*s-1)) 6) a2
 have d3:=key d1 d1
 intro z m
 have m:z=s\/z=s*(s-1) / 2\/z=s*(s-1)*(2*s-1) / 6\/z=s*(s-1) / 2*(s*(s-1) / 2):=by
  have:z∈[s,s*(s-1) / 2,s*(s-1)*(2*s-1) / 6,s*(s-1) / 2*(s*(s-1) / 2)]:=m
  simpa using this
 rcases m with rfl | rfl | rfl | rfl
 ·exact fX e (by decide)
 ·exact fX d1 (by decide)
 ·exact fX d2 (by decide)
 ·exact fX d3 (by decide)
noncomputable def pairT (p:Int × Int):Tr:=.t [iT p.1,iT p.2]
noncomputable def tri (c:Tab) (l k:Int):Tr:=.t [iT k,iT (low c k),iT (low c k+l)]
noncomputable def acQ:Tr:=.f .non
noncomputable abbrev KS.rest (x:KS):Q4:=subQ x.ba.q (Fz x.span)
noncomputable abbrev KS.kept (x:KS):List Int:=srt (My.up x.di.v x.di.C)
inductive Ans (x:KS):Nat->Int->Int->Tr->List Bool->Prop where
 | often {a b:Int} {ks:List Int} (h:b<=a*((x.room:Int)+1)) (t:Told x.cm.c x.cm.l x.cm.t a b ks):Ans x 0 a b (.l (ks.map (tri x.cm.c x.cm.l))) []
 | fine {a b:Int} (h:a*((x.room:Int)+1)<b):Ans x 0 a b acQ [true,false,false]
 | rank {a b z:Int} {S:List (Int × Int)} (h1:1<=a) (h2:a<=x.up.x.tt) (sx:Sx x.up.x.ls S) (hz:RG.pk a 0 S=some z):Ans x 1 a b (.t [iT z,iT (max (a-x.up.x.ov) 1),iT (min (a+x.up.x.un) x.up.x.tt)]) []
 | place {a b:Int} (h:a<1\/x.up.x.tt<a):Ans x 1 a b acQ [false,true,false]
 | last {a b:Int} (h1:1<=a) (h2:a<=x.reach):Ans x 2 a b (.t [iT (WN.low (x.wi.c-a) (bx x.wi.ps)),iT (WN.low (x.wi.c-a) (bx x.wi.ps)+WN.cut (x.wi.c-a) (bx x.wi.ps))]) []
 | far {a b:Int} (h:a<1\/x.reach<a):Ans x 2 a b acQ [false,true,false]
 | dist {a b:Int}:Ans x 3 a b (.t [iT (lowB x.room x.di.v x.kept),iT (abj x.di.n x.di.v x.kept)]) []
 | off {a b:Int} {L:List (Int × Int)} (e:lM L=x.rest) (n:QM L) (i:In x.span L) (u:∀ M,QM M->lM M=x.rest->M=L):Ans x 4 a b (.l (L.map pairT)) []
 | many {a b:Int} (h:∀ L,QM L->In x.span L->lM L≠x.rest):Ans x 4 a b acQ [false,false,true]
 | net {a b:Int}:Ans x 5 a b (.t [iT (low x.cm.c a-(low x.wn.c a+x.wn.l)),iT (low x.cm.c a+x.cm.l-low x.wn.c a)]) []
 | ranked {a b:Int}:Ans x 6 a b (.t [iT (max ((RG.nr a x.up.x.ls:Nat)-x.up.x.ov) 0-min ((RG.nr a x.dn.x.ls:Nat)+x.dn.x.un) x.dn.x.tt),iT (min ((RG.nr a x.up.x.ls:Nat)+x.up.x.un) x.up.x.tt-max ((RG.nr a x.dn.x.ls:Nat)-x.dn.x.ov) 0)]) []
theorem Told.uniq {c:Tab} {l t a b:Int} {ks ks':List Int} (h:Told c l t a b ks) (g:Told c l t a b ks'):ks=ks':=by
 obtain ⟨s,p,o,rfl⟩:=h
 obtain ⟨s',p',o',rfl⟩:=g
 rw [mL (p.trans p'.symm) o o']
theorem Ans.uniq {x:KS} {k:Nat} {a b:Int} {t t':Tr} {bs bs':List Bool} (h60:x.up.x.ls.length<=60) (h:Ans x k a b t bs) (g:Ans x k a b t' bs'):t=t'/\bs=bs':=by
 cases h with
 | often h t =>
  cases g with
  | often _ t'=>rw [t.uniq t'];exact ⟨rfl,rfl⟩
  | fine h'=>lia
 | fine h =>
  cases g with
  | often h' _=>lia
  | fine _=>exact ⟨rfl,rfl⟩
 | rank h1 h2 sx hz =>
  cases g with
  | rank _ _ sx' hz' =>
   rw [sx.uniq h60 sx'] at hz
   rw [cX (hz.symm.trans hz')];exact ⟨rfl,rfl⟩
  | place h=>lia
 | place h =>
  cases g with
  | rank _ _ _ _=>lia
  | place _=>exact ⟨rfl,rfl⟩
 | last h1 h2 =>
  cases g with
  | last _ _=>exact ⟨rfl,rfl⟩
  | far h=>lia
 | far h =>
  cases g with
  | last _ _=>lia
  | far _=>exact ⟨rfl,rfl⟩
 | dist=>cases g;exact ⟨rfl,rfl⟩
 | off e n i u =>
  cases g with
  | off e' n' i' u'=>rw [u' _ n e];exact ⟨rfl,rfl⟩
  | many h=>exact absurd e (h _ n i)
 | many h =>
  cases g with
  | off e n i u=>exact absurd e (h _ n i)
  | many _=>exact ⟨rfl,rfl⟩
 | net=>cases g;exact ⟨rfl,rfl⟩
 | ranked=>cases g;exact ⟨rfl,rfl⟩
/-- which classes are told apart -/
noncomputable def Cx3 (A:Ad) (C:Addr) (bs:List Bool):Prop:=(C=A.jy/\bs=[true,false,false])\/(C=A.jt/\bs=[false,true,false])\/(C=A.jz/\bs=[false,false,true])
noncomputable def T2 (A:Ad) (x:KS) (k:Nat) (a b:Int) (H:Hp) (Q:VK) (E:XK):Prop :=
 (∀ (v:V) (t:Tr) (H':Hp),Ans x k a b t []->Is H' (fun z=>H z=none) 2 v t->Same H H'->Q v H')/\∀ (C:Addr) (bs:List Bool) (H':Hp),Ans x k a b acQ bs->Cx3 A C bs->Same H H'->E (.ref C) none H'
structure Kn (x:KS) (n:Nat):Prop where
 r16:x.room<=16
 c1:1<=x.reach
 c2:x.reach<=1000000000
 s1:1<=x.span
 s2:x.span<=1000000000
 ba:∀ z∈L4 x.ba.q,z.natAbs<=n*2 ^ 130
theorem Kn.row {r:R3} {x x':KS} {n:Nat} (h:Kn x n) (ok:r.ok) (s:SR r x x'):Kn x' (n+1):=by
 have sb:=s.sb
 have w1:=ok.w1
 have w2:=ok.w2
 have s2:=h.s2
 refine ⟨by rw [sb.room];exact h.r16,by rw [sb.reach];exact h.c1,by rw [sb.reach];exact h.c2,by rw [sb.span];exact h.s1,by rw [sb.span];exact s2,?_⟩
 unfold SR at s
 split at s
 ·rw [s.ba]
  split
  ·exact ajQ h.ba (pw_bd ok.t0 tb_g% tb_g%)
  ·exact ahu h.ba
 split at s
 ·rw [s.ba]
  split
  ·exact ajQ h.ba (pw_bd ok.t0 tb_g% tb_g%)
  ·exact ahu h.ba
 ·rw [s.ba];exact ahu h.ba
theorem Kn.eq {x y:KS} {n:Nat} (h:Kn y n) (e:Eqp x y):Kn x n:=⟨by rw [e.room];exact h.r16,by rw [e.reach];exact h.c1,by rw [e.reach];exact h.c2,by rw [e.span];exact h.s1,by rw [e.span];exact h.s2,by rw [e.ba];exact h.ba⟩
theorem kn0 {room:Nat} {reach span:Int} (r:room<=16) (c1:1<=reach) (c2:reach<=1000000000) (s1:1<=span) (s2:span<=1000000000):Kn (K0 room reach span) 0:=⟨r,c1,c2,s1,s2,fun z m=>by
 have:z∈[(0:Int),0,0,0]:=m
 simp at this
 subst this
 exact bZ _⟩
theorem Kn.sm {x:KS} {n:Nat} (h:Kn x n) (few:n<=100):Sm x.rest:=by
 have d:=al6 h.s1 h.s2
 have key:∀ {a b:Int},a∈L4 x.ba.q->b∈L4 (Fz x.span)->(a-b).natAbs<2 ^ 200:=fun {a b} m1 m2=>by
  have h1:=fX (h.ba a m1) (yL _ few)
  have h2:=d b m2
  refine Ef (fX (aex a b) (V1 h1 h2)) (by decide)
 exact ⟨key (by simp [L4]) (by simp [L4]),key (by simp [L4]) (by simp [L4]),key (by simp [L4]) (by simp [L4]),key (by simp [L4]) (by simp [L4])⟩
theorem ai9 {H:Hp} {P:Addr->Prop} {c:Tab} {l:Int} {ts:List Addr} {ks:List Int} (h:Uo c l H ts ks):IsL H P 1 (ts.map V.ref) (ks.map (tri c l)):=by
 unfold Uo at h
 induction h with
 | nil=>exact .nil
 | cons r t ih=>exact .cons (.ofT r (.cons (xR _) (.cons (xR _) (.cons (xR _) .nil)))) ih
structure Gd (A:Ad) (H:Hp) (x:KS) (n:Nat):Prop where
 kp:Kp A H x
 kh:Kh x n
 kn:Kn x n
theorem Gd.same {A:Ad} {H H':Hp} {x:KS} {n:Nat} (h:Gd A H x n) (s:Same H H'):Gd A H' x n:=⟨h.kp.same s,h.kh,h.kn⟩
noncomputable def ahv (k:Nat) (a b:Int):Prop:=k=0->1<=a/\a<=1000000/\1<=b/\b<=1000000
section
variable {A:Ad} {H:Hp} {x:KS} {n:Nat} {a b:Int} {Q:VK} {E:XK}
theorem Us (g:Gd A H x n) (f:ahv 0 a b) (q:T2 A x 0 a b H Q E):J5 A [.ref x.cm.p,.int a,.int b] H Q E:=by
 obtain ⟨a1,a2,b1,b2⟩:=f rfl
 have r16:=g.kn.r16
 by_cases h:b<=a*((x.room:Int)+1)
 ·obtain ⟨W,ok⟩:=g.kh.cm.ok
  have:=ok.len
  exact .inl ⟨x.cm.p,x.cm.dx,x.cm.d,x.room,x.cm.t,x.cm.l,a,b,x.cm.c,rfl,g.kp.cm.o,g.kp.cm.d,by lia,by lia,by lia,by lia,by lia,h,by lia,fun y ts ks H' hy hts told hl tr s=>q.1 (.ref y) _ H' (.often h told) (.ofL hy hl (ai9 tr)) s⟩
 ·exact .inr ⟨x.cm.p,x.cm.dx,x.cm.d,x.room,x.cm.t,x.cm.l,a,b,rfl,g.kp.cm.o,by lia,by lia,by lia,q.2 _ _ H (.fine tb_g%) (.inl ⟨rfl,rfl⟩) (Same.refl H)⟩
theorem abt (g:Gd A H x n) (q:T2 A x 1 a b H Q E):ag6 A [.ref x.up.p,.int a] H Q E:=by
 have lu:=wN g.kh.up.g g.kh.up.t g.kh.few
 have r64:=g.kh.r64
 have er:=g.kh.up.r
 refine ⟨x.up.p,x.up.x.dx,x.up.x.a,x.up.x.bs,x.up.x.r,x.up.x.tt,x.up.x.ov,x.up.x.un,x.up.x.tn,a,x.up.x.mi,x.up.x.ma,x.up.x.ls,rfl,g.kp.up,lu.1,fun l m=>by have:=g.kh.up.g.sm l m;lia,g.kh.up.g.vl,?_⟩
 by_cases h:1<=a/\a<=x.up.x.tt
 ·exact .inl ⟨h.1,h.2,fun t z S H' sx hz ht s=>q.1 (.ref t) _ H' (.rank h.1 h.2 sx hz) (.ofT ht (.cons (xR _) (.cons (xR _) (.cons (xR _) .nil)))) s⟩
 ·exact .inr ⟨by lia,q.2 _ _ H (.place tb_g%) (.inr (.inl ⟨rfl,rfl⟩)) (Same.refl H)⟩
theorem abu (g:Gd A H x n) (q:T2 A x 2 a b H Q E):Qy A [.ref x.wi.p,.int a] H Q E:=by
 have wl:=g.kh.wl
 have few:=g.kh.few
 by_cases h:1<=a/\a<=x.reach
 ·exact .inl ⟨x.wi.p,x.wi.dx,x.wi.l,x.room,x.reach,x.wi.c,a,x.wi.ps,rfl,g.kp.wi,by lia,h.1,h.2,fun t H' _ ht s=>q.1 (.ref t) _ H' (.last h.1 h.2) (.ofT ht (.cons (xR _) (.cons (xR _) .nil))) s⟩
 ·exact .inr ⟨x.wi.p,x.wi.dx,x.wi.l,x.room,x.reach,x.wi.c,a,x.wi.ps,rfl,g.kp.wi,by lia,q.2 _ _ H (.far tb_g%) (.inr (.inl ⟨rfl,rfl⟩)) (Same.refl H)⟩
theorem abv (g:Gd A H x n) (q:T2 A x 3 a b H Q E):J0 A [.ref x.di.p] H Q E0:=⟨x.di.p,x.di.dx,x.di.l,x.room,x.di.n,x.di.v,_,rfl,g.kp.di,g.kh.dl.1,fun t H' ht s=>q.1 (.ref t) _ H' .dist (.ofT ht (.cons (xR _) (.cons (xR _) .nil))) s⟩
theorem ahw (g:Gd A H x n) (q:T2 A x 4 a b H Q E):aaf A [.ref x.ba.p] H Q E :=
 ⟨x.ba.p,x.ba.dx,x.ba.l,x.span,x.ba.q,rfl,g.kp.ba,g.kn.s1,g.kn.s2,g.kn.sm g.kh.few,fun y ps H' nc i e u hp s hy=>q.1 (.ref y) _ H' (.off e nc i u) (.ofL hy hp.l (by
  unfold po
  rw [pI]
  exact IsL.map fun p m=>.ofT (hp.t p m) (.cons (xR _) (.cons (xR _) .nil)))) s,fun h H' s=>q.2 _ _ H' (.many h) (.inr (.inr ⟨rfl,rfl⟩)) s⟩
theorem ahx {H':Hp} {t:Addr} (q:T2 A x 5 a b H Q E) (ht:H' t=some (.tup [.int (low x.cm.c a-(low x.wn.c a+x.wn.l)),.int (low x.cm.c a+x.cm.l-low x.wn.c a)])) (s:Same H H'):Q (.ref t) H':=q.1 (.ref t) _ H' .net (.ofT ht (.cons (xR _) (.cons (xR _) .nil))) s
theorem LR {H':Hp} {t:Addr} (q:T2 A x 6 a b H Q E) (ht:H' t=some (.tup [.int (max ((RG.nr a x.up.x.ls:Nat)-x.up.x.ov) 0-min ((RG.nr a x.dn.x.ls:Nat)+x.dn.x.un) x.dn.x.tt),.int (min ((RG.nr a x.up.x.ls:Nat)+x.up.x.un) x.up.x.tt-max ((RG.nr a x.dn.x.ls:Nat)-x.dn.x.ov) 0)])) (s:Same H H'):Q (.ref t) H':=q.1 (.ref t) _ H' .ranked (.ofT ht (.cons (xR _) (.cons (xR _) .nil))) s
end
open MK
noncomputable def ahy (A:Ad):Sp:=fun vs H Q E=>∃ (x:KS) (a b:Int),vs=[.ref x.k,.int a,.int b]/\Kp A H x/\J5 A [.ref x.cm.p,.int a,.int b] H Q E
theorem ok'59 (T:Tx K mg A):cg P w K mg base (CXE P w) 4 A.Ye A.mR ["self","part","whole"] (ahy A):=by
 k_dat (T.F'59.okE,Bl) "a"
 ·obtain ⟨x,a,b,rfl,_⟩:=h
  rfl
 ·obtain ⟨x,a,b,rfl,hK,q⟩:=h
  refine ⟨_,(aC (aO (bA (aJ (pv 0) rfl) T.f9 T.sZ (ajM T) tb_g% T.b'34 .nil n8 (aj (pv 1) (aj (pv 2) aA))))),?_⟩
  exact ⟨_,rfl,rdF hK.o T.cj T.uE (xJ ..) ⟨x.cm.p,x.cm.dx,_,rfl,hK.cm.o,oO _ _ _ _ tb_g% tb_g% tb_g% tb_g%,_,rfl,_,rfl,q⟩⟩
noncomputable def aja (A:Ad):Sp:=fun vs H Q E=>∃ (x:KS) (a:Int),vs=[.ref x.k,.int a]/\Kp A H x/\ag6 A [.ref x.up.p,.int a] H Q E
theorem ok'60 (T:Tx K mg A):cg P w K mg base (CXE P w) 3 A.Yg A.lF ["self","k"] (aja A):=by
 k_dat (T.F'60.okE,xQ) "a"
 ·obtain ⟨x,a,rfl,_⟩:=h
  rfl
 ·obtain ⟨x,a,rfl,hK,q⟩:=h
  refine ⟨_,(aC (aO (bA (aJ (pv 0) rfl) T.cO T.uQ (ajE T) tb_g% T.b'12 .nil n8 (aj (pv 1) aA)))),?_⟩
  exact ⟨_,rfl,rdF hK.o T.cj T.rT (J8 ..) ⟨x.up.p,x.up.x.dx,_,rfl,hK.up.o,rgN tb_g%,_,rfl,q⟩⟩
noncomputable def ajb (A:Ad):Sp:=fun vs H Q E=>∃ (x:KS) (a:Int),vs=[.ref x.k,.int a]/\Kp A H x/\Qy A [.ref x.wi.p,.int a] H Q E
theorem ok'61 (T:Tx K mg A):cg P w K mg base (CXE P w) 2 A.Yh A.oK ["self","many"] (ajb A):=by
 k_dat (T.F'61.okE,DR) "a"
 ·obtain ⟨x,a,rfl,_⟩:=h
  rfl
 ·obtain ⟨x,a,rfl,hK,q⟩:=h
  refine ⟨_,(aC (aO (bA (aJ (pv 0) rfl) T.gW T.yd (ajH T) tb_g% T.b'18 .nil n8 (aj (pv 1) aA)))),?_⟩
  exact ⟨_,rfl,rdF hK.o T.cj T.wH (tK ..) ⟨x.wi.p,x.wi.dx,_,rfl,hK.wi.o,wfN tb_g%,_,rfl,q⟩⟩
noncomputable def ajc (A:Ad):Sp:=fun vs H Q _=>∃ x:KS,vs=[.ref x.k]/\Kp A H x/\J0 A [.ref x.di.p] H Q E0
theorem ok'62 (T:Tx K mg A):cg P w K mg base CX0 3 A.Yi A.jJ ["self"] (ajc A):=by
 k_dat (T.F'62.ok,wL) "a"
 ·obtain ⟨x,rfl,_⟩:=h
  rfl
 ·obtain ⟨x,rfl,hK,q⟩:=h
  refine ⟨_,(aC (aO (p8 (aJ (pv 0) rfl) T.jj T.rm (ajJ T) tb_g% T.b'26 .nil aX))),?_⟩
  exact ⟨_,rfl,rdF hK.o T.cj T.Du (QV ..) ⟨x.di.p,x.di.dx,_,rfl,hK.di.o,dfN tb_g%,q⟩⟩
noncomputable def al7 (A:Ad):Sp:=fun vs H Q E=>∃ x:KS,vs=[.ref x.k]/\Kp A H x/\aaf A [.ref x.ba.p] H Q E
theorem ok'63 (T:Tx K mg A):cg P w K mg base (CXE P w) 5 A.Yj A.qz ["self"] (al7 A):=by
 k_dat (T.F'63.okE,Fv) "a"
 ·obtain ⟨x,rfl,_⟩:=h
  rfl
 ·obtain ⟨x,rfl,hK,q⟩:=h
  refine ⟨_,(aC (aO (p8 (aJ (pv 0) rfl) T.sW T.yg (ajO T) tb_g% T.b'45 .nil n8))),?_⟩
  exact ⟨_,rfl,rdF hK.o T.cj T.zN (uI ..) ⟨x.ba.p,x.ba.dx,_,rfl,hK.ba.o,bfN tb_g%,q⟩⟩
noncomputable def ahz (A:Ad):Sp:=fun vs H Q E=>∃ (x:KS) (n k:Nat) (a b:Int),vs=[.ref x.k,.int a,.int b,.int k]/\Gd A H x n/\k<=6/\ahv k a b/\T2 A x k a b H Q E
theorem Gd.lens {A:Ad} {H:Hp} {x:KS} {n:Nat} (g:Gd A H x n):x.up.x.ls.length<=60/\(∀ l∈x.up.x.ls,l.length<=64)/\x.dn.x.ls.length<=60/\(∀ l∈x.dn.x.ls,l.length<=64):=by
 have lu:=wN g.kh.up.g g.kh.up.t g.kh.few
 have ld:=wN g.kh.dn.g g.kh.dn.t g.kh.few
 have r64:=g.kh.r64
 have e1:=g.kh.up.r
 have e2:=g.kh.dn.r
 exact ⟨lu.1,fun l m=>by have:=g.kh.up.g.sm l m;lia,ld.1,fun l m=>by have:=g.kh.dn.g.sm l m;lia⟩
theorem ok'64 (T:Tx K mg A):cg P w K mg base (CXE P w) 6 A.Yk A.Dq ["_law_keepsake","_law_one","_law_other","_law_kind"] (ahz A):=by
 k_dat (T.F'64.okE,Z8) "a"
 ·obtain ⟨x,n,k,a,b,rfl,_⟩:=h
  rfl
 ·obtain ⟨x,n,k,a,b,rfl,g,hk,f,q⟩:=h
  refine ⟨_,(ao (cF (PT.nox (aK fY (pv 3) au (aQ _))) (aC (aO (bA (pv 0) T.cj T.Dw (ok'59 T) tb_g% T.b'59 .nil n8 (aj (pv 1) (aj (pv 2) aA))))) aZ)
   (ao (cF (PT.nox (aK fY (pv 3) au (aQ _))) (aC (aO (bA (pv 0) T.cj T.zP (ok'60 T) tb_g% T.b'60 .nil n8 (aj (pv 1) aA)))) aZ)
   (ao (cF (PT.nox (aK fY (pv 3) au (aQ _))) (aC (aO (bA (pv 0) T.cj T.Fe (ok'61 T) tb_g% T.b'61 .nil n8 (aj (pv 1) aA)))) aZ)
   (ao (PS.nox (cF (aK fY (pv 3) au (aQ _)) (aC (aO (p8 (pv 0) T.cj T.xP (ok'62 T) tb_g% T.b'62 .nil aX))) aZ))
   (ao (cF (PT.nox (aK fY (pv 3) au (aQ _))) (aC (aO (p8 (pv 0) T.cj T.JD (ok'63 T) tb_g% T.b'63 .nil n8))) aZ)
   (ao (PS.nox (cF (aK fY (pv 3) au (aQ _)) (aC (aO (bA (pv 0) T.cj T.JC (ok'57 T) tb_g% T.b'57 .nil aX (aj (pv 1) aA)))) aZ))
   (aC (PS.nox (aO (bA (pv 0) T.cj T.Bf (ok'58 T) tb_g% T.b'58 .nil aX (aj (pv 1) aA))))))))))),?_⟩
  have o:=g.kp.o
  k_dat h "e"
  rotate_left
  have h0:¬ k=0:=fun z=>h (decide_eq_true (congrArg V.int tb_g%))
  clear h
  rotate_left
  have h:(k:Int)=0:=V.int.inj (of_decide_eq_true h)
  obtain rfl:k=0:=by lia
  ·exact ⟨_,rfl,x.k,x.dk,_,rfl,o,kfN tb_g%,_,rfl,_,rfl,x,a,b,rfl,g.kp,Us g f q⟩
  k_dat h "e"
  rotate_left
  have h1:¬ k=1:=fun z=>h (decide_eq_true (congrArg V.int tb_g%))
  clear h
  rotate_left
  have h:(k:Int)=1:=V.int.inj (of_decide_eq_true h)
  obtain rfl:k=1:=by lia
  ·exact ⟨_,rfl,x.k,x.dk,_,rfl,o,kfN tb_g%,_,rfl,x,a,rfl,g.kp,abt g q⟩
  k_dat h "e"
  rotate_left
  have h2:¬ k=2:=fun z=>h (decide_eq_true (congrArg V.int tb_g%))
  clear h
  rotate_left
  have h:(k:Int)=2:=V.int.inj (of_decide_eq_true h)
  obtain rfl:k=2:=by lia
  ·exact ⟨_,rfl,x.k,x.dk,_,rfl,o,kfN tb_g%,_,rfl,x,a,rfl,g.kp,abu g q⟩
  k_dat h "e"
  rotate_left
  have h3:¬ k=3:=fun z=>h (decide_eq_true (congrArg V.int tb_g%))
  clear h
  rotate_left
  have h:(k:Int)=3:=V.int.inj (of_decide_eq_true h)
  obtain rfl:k=3:=by lia
  ·exact ⟨_,rfl,x.k,x.dk,_,rfl,o,kfN tb_g%,x,rfl,g.kp,abv g q⟩
  k_dat h "e"
  rotate_left
  have h4:¬ k=4:=fun z=>h (decide_eq_true (congrArg V.int tb_g%))
  clear h
  rotate_left
  have h:(k:Int)=4:=V.int.inj (of_decide_eq_true h)
  obtain rfl:k=4:=by lia
  ·exact ⟨_,rfl,x.k,x.dk,_,rfl,o,kfN tb_g%,x,rfl,g.kp,ahw g q⟩
  k_dat h "e"
  rotate_left
  have h5:¬ k=5:=fun z=>h (decide_eq_true (congrArg V.int tb_g%))
  clear h
  rotate_left
  have h:(k:Int)=5:=V.int.inj (of_decide_eq_true h)
  obtain rfl:k=5:=by lia
  ·exact ⟨_,rfl,x.k,x.dk,_,rfl,o,kfN tb_g%,_,rfl,x,a,rfl,g.kp,fun t H' ht s'=>ahx q ht s'⟩
  obtain rfl:k=6:=by lia
  obtain ⟨l1,l2,l3,l4⟩:=g.lens
  exact ⟨_,rfl,x.k,x.dk,_,rfl,o,kfN tb_g%,_,rfl,x,a,rfl,g.kp,l1,l2,l3,l4,fun t H' ht s'=>LR q ht s'⟩
theorem ok'65 (T:Tx K mg A):cg P w K mg base (CXE P w) 6 A.Yl A.qC ["_law_keepsake","_law_one","_law_other","_law_kind"] (ahz A):=by
 k_dat (T.F'65.okE,iU) "a"
 ·obtain ⟨x,n,k,a,b,rfl,_⟩:=h
  rfl
 ·obtain ⟨x,n,k,a,b,rfl,g,hk,f,q⟩:=h
  refine ⟨_,(ao (cF (PT.nox (aK fY (pv 3) au (aQ _))) (aC (aO (bA (aJ (pv 0) rfl) T.f9 T.sZ (ajM T) tb_g% T.b'34 .nil n8 (aj (pv 1) (aj (pv 2) aA))))) aZ)
   (ao (cF (PT.nox (aK fY (pv 3) au (aQ _))) (aC (aO (bA (aJ (pv 0) rfl) T.cO T.uQ (ajE T) tb_g% T.b'12 .nil n8 (aj (pv 1) aA)))) aZ)
   (ao (cF (PT.nox (aK fY (pv 3) au (aQ _))) (aC (aO (bA (aJ (pv 0) rfl) T.gW T.yd (ajH T) tb_g% T.b'18 .nil n8 (aj (pv 1) aA)))) aZ)
   (ao (PS.nox (cF (aK fY (pv 3) au (aQ _)) (aC (aO (p8 (aJ (pv 0) rfl) T.jj T.rm (ajJ T) tb_g% T.b'26 .nil aX))) aZ))
   (ao (cF (PT.nox (aK fY (pv 3) au (aQ _))) (aC (aO (p8 (aJ (pv 0) rfl) T.sW T.yg (ajO T) tb_g% T.b'45 .nil n8))) aZ)
   (ao (PS.nox (aL (i:=4) iU.nd rfl (Or.inl rfl) (aJ (pv 0) rfl)))
   (ao (PS.nox (aL (i:=5) iU.nd rfl (Or.inl rfl) (aJ (pv 0) rfl)))
   (ao (PS.nox (cF (aK fY (pv 3) au (aQ _)) (aC (aO (eE (aj (aF dY (bA (pv 4) T.f9 T.iz (LC T) tb_g% T.acw .nil aX (aj (pv 1) aA)) (bA (pv 5) T.f9 T.iR (Um T) tb_g% T.agS .nil aX (aj (pv 1) aA))) (aj (aF dY (bA (pv 4) T.f9 T.iR (Um T) tb_g% T.agS .nil aX (aj (pv 1) aA)) (bA (pv 5) T.f9 T.iz (LC T) tb_g% T.acw .nil aX (aj (pv 1) aA))) aA))))) aZ))
   (ao (PS.nox (aL (i:=6) iU.nd rfl (Or.inl rfl) (bA (aJ (pv 0) rfl) T.cO T.pD (abd T) tb_g% T.b'10 .nil aX (aj (pv 1) aA))))
   (ao (PS.nox (aL (i:=7) iU.nd rfl (Or.inl rfl) (bA (aJ (pv 0) rfl) T.cO T.pD (abd T) tb_g% T.b'10 .nil aX (aj (pv 1) aA))))
   (aC (PS.nox (aO (eE (aj (aF dY (bO (ixG (bB hr)) (pv 6) au (fun _ _=>rfl)) (bO (ixG (bB hr)) (pv 7) au (fun _ _=>rfl))) (aj (aF dY (bO (ixG (bB hr)) (pv 6) au (fun _ _=>rfl)) (bO (ixG (bB hr)) (pv 7) au (fun _ _=>rfl))) aA)))))))))))))))),?_⟩
  have hK:=g.kp
  have o:=hK.o
  k_dat h "e"
  rotate_left
  have h0:¬ k=0:=fun z=>h (decide_eq_true (congrArg V.int tb_g%))
  clear h
  rotate_left
  have h:(k:Int)=0:=V.int.inj (of_decide_eq_true h)
  obtain rfl:k=0:=by lia
  ·exact ⟨_,rfl,rdF o T.cj T.uE (xJ ..) ⟨x.cm.p,x.cm.dx,_,rfl,hK.cm.o,oO _ _ _ _ tb_g% tb_g% tb_g% tb_g%,_,rfl,_,rfl,Us g f q⟩⟩
  k_dat h "e"
  rotate_left
  have h1:¬ k=1:=fun z=>h (decide_eq_true (congrArg V.int tb_g%))
  clear h
  rotate_left
  have h:(k:Int)=1:=V.int.inj (of_decide_eq_true h)
  obtain rfl:k=1:=by lia
  ·exact ⟨_,rfl,rdF o T.cj T.rT (J8 ..) ⟨x.up.p,x.up.x.dx,_,rfl,hK.up.o,rgN tb_g%,_,rfl,abt g q⟩⟩
  k_dat h "e"
  rotate_left
  have h2:¬ k=2:=fun z=>h (decide_eq_true (congrArg V.int tb_g%))
  clear h
  rotate_left
  have h:(k:Int)=2:=V.int.inj (of_decide_eq_true h)
  obtain rfl:k=2:=by lia
  ·exact ⟨_,rfl,rdF o T.cj T.wH (tK ..) ⟨x.wi.p,x.wi.dx,_,rfl,hK.wi.o,wfN tb_g%,_,rfl,abu g q⟩⟩
  k_dat h "e"
  rotate_left
  have h3:¬ k=3:=fun z=>h (decide_eq_true (congrArg V.int tb_g%))
  clear h
  rotate_left
  have h:(k:Int)=3:=V.int.inj (of_decide_eq_true h)
  obtain rfl:k=3:=by lia
  ·exact ⟨_,rfl,rdF o T.cj T.Du (QV ..) ⟨x.di.p,x.di.dx,_,rfl,hK.di.o,dfN tb_g%,abv g q⟩⟩
  k_dat h "e"
  rotate_left
  have h4:¬ k=4:=fun z=>h (decide_eq_true (congrArg V.int tb_g%))
  clear h
  rotate_left
  have h:(k:Int)=4:=V.int.inj (of_decide_eq_true h)
  obtain rfl:k=4:=by lia
  ·exact ⟨_,rfl,rdF o T.cj T.zN (uI ..) ⟨x.ba.p,x.ba.dx,_,rfl,hK.ba.o,bfN tb_g%,ahw g q⟩⟩
  refine ⟨_,rfl,rdF o T.cj T.uE (xJ ..) ?_⟩
  refine ⟨_,rfl,rdF o T.cj T.zM (Gh ..) ?_⟩
  k_dat h "e"
  rotate_left
  have h5:¬ k=5:=fun z=>h (decide_eq_true (congrArg V.int tb_g%))
  clear h
  rotate_left
  have h:(k:Int)=5:=V.int.inj (of_decide_eq_true h)
  obtain rfl:k=5:=by lia
  ·skip
   refine ⟨_,rfl,x.cm.p,x.cm.dx,_,rfl,hK.cm.o,oO _ _ _ _ tb_g% tb_g% tb_g% tb_g%,_,rfl,x.cm.p,x.cm.dx,x.cm.d,x.room,x.cm.t,x.cm.l,a,x.cm.c,rfl,hK.cm.o,hK.cm.d,?_⟩
   refine ⟨_,rfl,x.wn.p,x.wn.dx,_,rfl,hK.wn.o,oO _ _ _ _ tb_g% tb_g% tb_g% tb_g%,_,rfl,x.wn.p,x.wn.dx,x.wn.d,x.room,x.wn.t,x.wn.l,a,x.wn.c,rfl,hK.wn.o,hK.wn.d,?_⟩
   refine ⟨_,_,rfl,rfl,?_⟩
   refine ⟨_,rfl,x.cm.p,x.cm.dx,_,rfl,hK.cm.o,oO _ _ _ _ tb_g% tb_g% tb_g% tb_g%,_,rfl,x.cm.p,x.cm.dx,x.cm.d,x.room,x.cm.t,x.cm.l,a,x.cm.c,rfl,hK.cm.o,hK.cm.d,?_⟩
   refine ⟨_,rfl,x.wn.p,x.wn.dx,_,rfl,hK.wn.o,oO _ _ _ _ tb_g% tb_g% tb_g% tb_g%,_,rfl,x.wn.p,x.wn.dx,x.wn.d,x.room,x.wn.t,x.wn.l,a,x.wn.c,rfl,hK.wn.o,hK.wn.d,?_⟩
   exact ⟨_,_,rfl,rfl,by show 2<=sizeLine;decide,fun t ht=>ahx q ak (Same.new ht)⟩
  obtain rfl:k=6:=by lia
  obtain ⟨l1,l2,l3,l4⟩:=g.lens
  refine ⟨_,rfl,rdF o T.cj T.rT (J8 ..) ⟨x.up.p,x.up.x.dx,_,rfl,hK.up.o,rgN tb_g%,_,rfl,x.up.p,x.up.x.dx,x.up.x.a,x.up.x.bs,x.up.x.r,x.up.x.tt,x.up.x.ov,x.up.x.un,x.up.x.tn,a,x.up.x.mi,x.up.x.ma,x.up.x.ls,rfl,hK.up,by lia,fun l hl=>by have:=l2 l hl;lia,fun t1 H1 _ ht1 s1=>?_⟩⟩
  have K1:=hK.same s1
  refine ⟨_,rfl,rdF K1.o T.cj T.Dt (QT ..) ⟨x.dn.p,x.dn.x.dx,_,rfl,K1.dn.o,rgN tb_g%,_,rfl,x.dn.p,x.dn.x.dx,x.dn.x.a,x.dn.x.bs,x.dn.x.r,x.dn.x.tt,x.dn.x.ov,x.dn.x.un,x.dn.x.tn,a,x.dn.x.mi,x.dn.x.ma,x.dn.x.ls,rfl,K1.dn,by lia,fun l hl=>by have:=l4 l hl;lia,fun t2 H2 _ ht2 s2=>?_⟩⟩
  have aht:=s2 _ _ ht1
  refine ⟨_,rfl,eX (.inl (.inl aht)) (v:=.int _) rfl ⟨_,rfl,eX (.inl (.inl ht2)) (v:=.int _) rfl ⟨_,_,rfl,rfl,?_⟩⟩⟩
  refine ⟨_,rfl,eX (.inl (.inl aht)) (v:=.int _) rfl ⟨_,rfl,eX (.inl (.inl ht2)) (v:=.int _) rfl ⟨_,_,rfl,rfl,?_⟩⟩⟩
  exact ⟨by show 2<=sizeLine;decide,fun t ht=>LR q ak (s1.trans (s2.trans (Same.new ht)))⟩
open MK
theorem cx3 {K:aW} {mg:Str->Option Value} {A:Ad} (T:Tx K mg A) {C:Addr} {bs:List Bool} (h:Cx3 A C bs):∃ b0 b1 b2,bs=[b0,b1,b2]/\Catch K C A.tX/\EY K C/\fJ K (.ref C) (.ref A.jy)=some b0/\fJ K (.ref C) (.ref A.jt)=some b1/\fJ K (.ref C) (.ref A.jz)=some b2:=by
 rcases h with ⟨rfl,rfl⟩ | ⟨rfl,rfl⟩ | ⟨rfl,rfl⟩
 ·exact ⟨_,_,_,rfl,T.wI,T.Z0,T.d9,T.dB,T.dD⟩
 ·exact ⟨_,_,_,rfl,T.sX,T.Kl,T.dF,T.cP,T.cQ⟩
 ·exact ⟨_,_,_,rfl,T.sY,T.Km,T.dG,T.cR,T.cT⟩
theorem ahA {w:Bool} {P R S:Prop} (f:S->P) (g:S->R) (s:S):if w=true then P else R:=cV (fun _=>f s) fun _=>g s
/-- what the law's told holds -/
structure Td (x:KS) (k:Nat) (a b:Int) (H H':Hp) (t r:Addr) (v:V) (tr:Tr) (bs:List Bool):Prop where
 an:Ans x k a b tr bs
 et:H' t=some (.tup [v,.ref r])
 er:H' r=some (.lst (bs.map V.bl))
 fr:H r=none
 is:Is H' (fun z=>H z=none/\z≠r) 2 v tr
 s:Same H H'
noncomputable def ajd (A:Ad):Sp:=fun vs H Q _=>∃ (x:KS) (n k:Nat) (a b:Int) (w:Bool),vs=[.ref x.k,.int a,.int b,.int k,.bl w]/\Gd A H x n/\k<=6/\ahv k a b/\∀ (t r:Addr) (v:V) (tr:Tr) (bs:List Bool) (H':Hp),Td x k a b H H' t r v tr bs->Q (.ref t) H'
theorem ahB (T:Tx K mg A):cg P w K mg base CX0 7 A.Ym A.Jm ["_law_keepsake","_law_one","_law_other","_law_kind","_law_whole"] (ajd A):=by
 k_dat (T.F'66.ok,tD) "a"
 ·obtain ⟨x,n,k,a,b,w,rfl,_⟩:=h
  rfl
 ·obtain ⟨x,n,k,a,b,w,rfl,g,hk,f,q⟩:=h
  refine ⟨_,(ao (aL (i:=5) tD.nd rfl (Or.inl rfl) nY)
   (ao (aL (i:=6) tD.nd rfl (Or.inl rfl) (cN aA))
   (ao (aco (i:=7) (j:=5) (B:=A.tX) rfl rfl rfl T.T5 tD.nd rfl rfl rfl (Or.inl rfl) (HW (pv 4)) (aa3 (ok'64 T) tb_g% rfl T.acy T.F'64.kp T.b'64 .nil (aj (pv 0) (aj (pv 1) (aj (pv 2) (aj (pv 3) aA))))) (aa3 (ok'65 T) tb_g% rfl T.JF T.F'65.kp T.b'65 .nil (aj (pv 0) (aj (pv 1) (aj (pv 2) (aj (pv 3) aA))))) (fun _=>(aC (aL (i:=6) tD.nd rfl (Or.inl rfl) (cN (aj (bU zB (by rfl) T.pF NZ (aj (pv 7) (aj (qR (v:=.ref A.jy) (by rfl) T.Lp (by rfl)) aA))) (aj (bU zB (by rfl) T.pF NZ (aj (pv 7) (aj (qR (v:=.ref A.jt) (by rfl) T.uF (by rfl)) aA))) (aj (bU zB (by rfl) T.pF NZ (aj (pv 7) (aj (qR (v:=.ref A.jz) (by rfl) T.Bb (by rfl)) aA))) aA))))))))
   (aC (aO (eE (aj (pv 5) (aj (pv 6) aA)))))))),?_⟩
  refine ⟨(by show 0<=sizeLine;exact bZ _),fun r fr=>?_⟩
  have s1:=Same.new (o:=.lst []) fr
  have e1:(upd H r (.lst [])) r=some (.lst []):=ak
  generalize upd H r (.lst [])=H1 at s1 e1 ⊢
  have g1:=g.same s1
  refine ⟨_,rfl,w,rfl,ahA (fun z=>⟨_,rfl,_,rfl,_,rfl,_,rfl,x,n,k,a,b,rfl,g1,hk,f,z⟩) (fun z=>⟨_,rfl,_,rfl,_,rfl,_,rfl,x,n,k,a,b,rfl,g1,hk,f,z⟩) ⟨fun v tr H2 an i s2=>?_,fun C bs H2 an c3 s2=>?_⟩⟩
  ·refine ⟨_,rfl,_,rfl,by show 2<=sizeLine;decide,fun t ht=>q t r v tr [] _ ⟨an,ak,(Same.new ht) _ _ (s2 _ _ e1),fr,?_,s1.trans (s2.trans (Same.new ht))⟩⟩
   exact (i.same (Same.new ht)).keep (fun _ _ _ e=>e) (fun _ _ e=>e) fun z hz=>⟨s1.free hz,aP (aq e1 hz)⟩
  ·obtain ⟨b0,b1,b2,rfl,ct,xc,k0,k1,k2⟩:=cx3 T c3
   refine ⟨C,rfl,ct,fun e he=>?_⟩
   refine ⟨_,rfl,⟨e,C,_,_,b0,rfl,ak,xc,rfl,(fun _ h=>h),k0,?_⟩⟩
   refine ⟨_,rfl,⟨e,C,_,_,b1,rfl,ak,xc,rfl,(fun _ h=>h),k1,?_⟩⟩
   refine ⟨_,rfl,⟨e,C,_,_,b2,rfl,ak,xc,rfl,(fun _ h=>h),k2,?_⟩⟩
   refine ⟨by show 3<=sizeLine;decide,fun r2 fr2=>?_⟩
   have s3:Same H2 (upd (upd H2 e (Ez e C)) r2 (.lst [.bl b0,.bl b1,.bl b2])):=(Same.new he).trans (Same.new fr2)
   have e3:(upd (upd H2 e (Ez e C)) r2 (.lst [.bl b0,.bl b1,.bl b2])) r2=some (.lst [.bl b0,.bl b1,.bl b2]):=ak
   have f3:H r2=none:=(s1.trans (s2.trans (Same.new he))).free fr2
   generalize upd (upd H2 e (Ez e C)) r2 (.lst [.bl b0,.bl b1,.bl b2])=H3 at s3 e3 ⊢
   exact ⟨_,rfl,_,rfl,by show 2<=sizeLine;decide,fun t ht=>q t r2 .non acQ [b0,b1,b2] _ ⟨an,ak,(Same.new ht) _ _ e3,f3,.flat rfl,s1.trans (s2.trans (s3.trans (Same.new ht)))⟩⟩
noncomputable def due (x:KS) (k:Nat) (a b:Int):List Bool:=if k=0 then [decide (a*((x.room:Int)+1)<b),false,false] else if k=1 then [false,decide (a<1\/x.up.x.tt<a),false] else if k=2 then [false,decide (a<1\/x.reach<a),false] else [false,false,false]
theorem Ans.due {x:KS} {k:Nat} {a b:Int} {t:Tr} {bs:List Bool} (h:Ans x k a b t bs):(k<4->(bs=[]/\My.due x k a b=[false,false,false])\/(bs=My.due x k a b/\∃ b0 b1 b2:Bool,bs=[b0,b1,b2]/\(b0 || b1 || b2)=true))/\(k=4->bs=[]\/bs=[false,false,true])/\(4<k->bs=[]):=by
 unfold My.due
 cases h with
 | often h _=>exact ⟨fun _=>.inl ⟨rfl,by rw [if_pos rfl,decide_eq_false tb_g%]⟩,fun z=>by lia,fun _=>rfl⟩
 | fine h=>exact ⟨fun _=>.inr ⟨by rw [if_pos rfl,decide_eq_true h],_,_,_,rfl,rfl⟩,fun z=>by lia,fun z=>by lia⟩
 | rank h1 h2=>exact ⟨fun _=>.inl ⟨rfl,by rw [if_neg (by decide),if_pos rfl,decide_eq_false tb_g%]⟩,fun z=>by lia,fun _=>rfl⟩
 | place h=>exact ⟨fun _=>.inr ⟨by rw [if_neg (by decide),if_pos rfl,decide_eq_true h],_,_,_,rfl,rfl⟩,fun z=>by lia,fun z=>by lia⟩
 | last h1 h2=>exact ⟨fun _=>.inl ⟨rfl,by rw [if_neg (by decide),if_neg (by decide),if_pos rfl,decide_eq_false tb_g%]⟩,fun z=>by lia,fun _=>rfl⟩
 | far h=>exact ⟨fun _=>.inr ⟨by rw [if_neg (by decide),if_neg (by decide),if_pos rfl,decide_eq_true h],_,_,_,rfl,rfl⟩,fun z=>by lia,fun z=>by lia⟩
 | dist=>exact ⟨fun _=>.inl ⟨rfl,by rw [if_neg (by decide),if_neg (by decide),if_neg (by decide)]⟩,fun z=>by lia,fun _=>rfl⟩
 | off=>exact ⟨fun z=>by lia,fun _=>.inl rfl,fun _=>rfl⟩
 | many=>exact ⟨fun z=>by lia,fun _=>.inr rfl,fun z=>by lia⟩
 | net=>exact ⟨fun z=>by lia,fun z=>by lia,fun _=>rfl⟩
 | ranked=>exact ⟨fun z=>by lia,fun z=>by lia,fun _=>rfl⟩
noncomputable def al8 (A:Ad):Sp:=fun vs H Q _=>∃ (x:KS) (n k:Nat) (a b:Int),vs=[.ref x.k,.int a,.int b,.int k]/\Gd A H x n/\ahv k a b/\∀ (d:Addr) (H':Hp),H d=none->H' d=some (.lst ((due x k a b).map V.bl))->Same H H'->Q (.ref d) H'
theorem ok'67 (T:Tx K mg A):cg P w K mg base CX0 1 A.Yn A.oM ["_law_keepsake","_law_one","_law_other","_law_kind"] (al8 A):=by
 k_dat (T.F'67.ok,DW) "a"
 ·obtain ⟨x,n,k,a,b,rfl,_⟩:=h
  rfl
 ·obtain ⟨x,n,k,a,b,rfl,g,f,q⟩:=h
  have hK:=g.kp
  have o:=hK.o
  unfold due at q
  refine ⟨_,(ao (cF (aK fY (pv 3) au (aQ _)) (aC (aO (cN (aj (pA pZ (aF fQ (pv 1) (aF bM (aJ (pv 0) rfl) au)) (pv 2) (aQ _)) (aj ji (aj ji aA)))))) aZ)
   (ao (cF (aK fY (pv 3) au (aQ _)) (aC (aO (cN (aj ji (aj (aji (pA pZ (pv 1) au (aQ _)) (afo (pA qT (pv 1) (aJ (aJ (pv 0) rfl) rfl) (aQ _)))) (aj ji aA)))))) aZ)
   (ao (cF (aK fY (pv 3) au (aQ _)) (aC (aO (cN (aj ji (aj (aji (pA pZ (pv 1) au (aQ _)) (afo (pA qT (pv 1) (aJ (pv 0) rfl) (aQ _)))) (aj ji aA)))))) aZ)
   (aC (aO (cN (aj ji (aj ji (aj ji aA))))))))),?_⟩
  k_dat h "e"
  rotate_left
  have h0:¬ k=0:=fun z=>h (decide_eq_true (congrArg V.int tb_g%))
  clear h
  rotate_left
  have h:(k:Int)=0:=V.int.inj (of_decide_eq_true h)
  obtain rfl:k=0:=by lia
  ·simp only [if_pos (rfl:(0:Nat)=0)] at q
   obtain ⟨a1,a2,b1,b2⟩:=f rfl
   exact ⟨_,rfl,_,rfl,rdF o T.cj T.Ds (QS ..) ⟨_,_,rfl,rfl,_,_,rfl,rfl,qg tb_g% tb_g%,_,rfl,_,_,rfl,rfl,by show 3<=sizeLine;decide,fun d fd=>q d _ fd ak (Same.new fd)⟩⟩
  simp only [if_neg h0] at q
  k_dat h "e"
  rotate_left
  have h1:¬ k=1:=fun z=>h (decide_eq_true (congrArg V.int tb_g%))
  clear h
  rotate_left
  have h:(k:Int)=1:=V.int.inj (of_decide_eq_true h)
  obtain rfl:k=1:=by lia
  ·simp only [if_pos (rfl:(1:Nat)=1)] at q
   k_dat h "j"
   ·have h:a<1:=of_decide_eq_true h
    refine ⟨by show 3<=sizeLine;decide,fun d fd=>q d _ fd ?_ (Same.new fd)⟩
    rw [ak,decide_eq_true (.inl h)];rfl
   ·have h:¬ a<1:=fun z=>h (decide_eq_true z)
    refine ⟨_,rfl,_,rfl,rdF o T.cj T.rT (J8 ..) <| rdF hK.up.o T.cO T.wD (qF ..) ⟨_,_,rfl,rfl,by show 3<=sizeLine;decide,fun d fd=>q d _ fd ?_ (Same.new fd)⟩⟩
    rw [ak]
    by_cases h2:x.up.x.tt<a
    ·rw [decide_eq_true (.inr h2)];dsimp only;rw [decide_eq_true h2];rfl
    ·rw [decide_eq_false (fun z=>z.elim h h2)];dsimp only;rw [decide_eq_false h2];rfl
  simp only [if_neg h1] at q
  k_dat h "e"
  rotate_left
  have h2:¬ k=2:=fun z=>h (decide_eq_true (congrArg V.int tb_g%))
  clear h
  rotate_left
  have h:(k:Int)=2:=V.int.inj (of_decide_eq_true h)
  obtain rfl:k=2:=by lia
  ·simp only [if_pos (rfl:(2:Nat)=2)] at q
   k_dat h "j"
   ·have h:a<1:=of_decide_eq_true h
    refine ⟨by show 3<=sizeLine;decide,fun d fd=>q d _ fd ?_ (Same.new fd)⟩
    rw [ak,decide_eq_true (.inl h)];rfl
   ·have h:¬ a<1:=fun z=>h (decide_eq_true z)
    refine ⟨_,rfl,_,rfl,rdF o T.cj T.Ju (Ur ..) ⟨_,_,rfl,rfl,by show 3<=sizeLine;decide,fun d fd=>q d _ fd ?_ (Same.new fd)⟩⟩
    rw [ak]
    by_cases h2:x.reach<a
    ·rw [decide_eq_true (.inr h2)];dsimp only;rw [decide_eq_true h2];rfl
    ·rw [decide_eq_false (fun z=>z.elim h h2)];dsimp only;rw [decide_eq_false h2];rfl
  simp only [if_neg h2] at q
  exact ⟨by show 3<=sizeLine;decide,fun d fd=>q d _ fd ak (Same.new fd)⟩
open MK
theorem share {α:Type} (C:α->Prop) {G:α->Prop} {R:Prop} (f:(∀ x,C x->G x)->R) (k:∀ x,C x->G x):R:=f k
theorem al9 {α β:Type} (C:α->β->Prop) {G:α->β->Prop} {R:Prop} (f:(∀ a b,C a b->G a b)->R) (k:∀ a b,C a b->G a b):R:=f k
noncomputable def ama (A:Ad):Sp:=fun vs H Q _=>∃ (x:KS) (n k:Nat) (c:Int),vs=[.ref x.k,.int k,.int c]/\Gd A H x n/\∀ (t:Addr) (a b:Int) (H':Hp),ahv k a b->H' t=some (.tup [.int a,.int b])->Same H H'->Q (.ref t) H'
theorem ok'68 (T:Tx K mg A):cg P w K mg base CX0 3 A.Yo A.wC ["_law_keepsake","_law_kind","_law_cell"] (ama A):=by
 k_dat (T.F'68.ok,pG) "a"
 ·obtain ⟨x,n,k,c,rfl,_⟩:=h
  rfl
 ·obtain ⟨x,n,k,c,rfl,g,q⟩:=h
  have r16:=g.kn.r16
  refine ⟨_,(ao (cF (aK fY (pv 1) au (aQ _)) (ao (aL (i:=3) pG.nd rfl (Or.inl rfl) (aF bM au (aF dg (bQ (abr T) tb_g% rfl T.Gb T.agU.kp T.b'50 .nil aX (aj (pv 2) (aj au (aj au aA)))) (bO (ixG (bB hr)) (cN (aj au (aj au (aj au aA)))) (aF dg (pv 2) au) (fun _ _=>rfl)))))
   (ao (aL (i:=4) pG.nd rfl (Or.inl rfl) (bO (ixG (bB hr)) (cN (aj (aF cZ (pv 3) (aF bM (aJ (pv 0) rfl) au)) (aj (RX Ia (aF cZ (RX Ia (pv 3)) (aF bM (aJ (pv 0) rfl) au))) (aj (aF bM au (aF dg (aF cZ (pv 2) au) (pv 3))) aA)))) (aF dg (aF cZ (pv 2) au) au) (fun _ _=>rfl)))
   (aC (aO (eE (aj (bU (wV rfl) (by rfl) T.T9 N6 (aj au (aj (pv 4) aA))) (aj (pv 3) aA))))))) aZ)
   (ao (cF (aK qT (pv 1) au (aQ _)) (aC (aO (eE (aj (bQ (ajP T) tb_g% rfl T.Bd T.F'52.kp T.b'52 .nil aX (aj (pv 2) aA)) (aj au aA))))) aZ)
   (ao (aL (i:=5) pG.nd rfl (Or.inl rfl) (afp (aK fY (pv 1) au (aQ _)) (aJ (aJ (pv 0) rfl) rfl) (aJ (pv 0) rfl)))
   (aC (aO (eE (aj (bO (ixG (bB hr)) (cN (aj au (aj au (aj (pv 5) (aj (aF bM (pv 5) au) (aj (aF bM au (aF dg (aF cZ (pv 2) au) (bU (wV rfl) (by rfl) T.T9 N6 (aj au (aj (pv 5) aA))))) (aj (RX Ia au) aA))))))) (aF dg (pv 2) au) (fun _ _=>rfl)) (aj au aA)))))))),?_⟩
  k_dat h "e"
  rotate_left
  have h0:¬ k=0:=fun z=>h (decide_eq_true (congrArg V.int tb_g%))
  clear h
  rotate_left
  have h:(k:Int)=0:=V.int.inj (of_decide_eq_true h)
  obtain rfl:k=0:=by lia
  ·refine ⟨_,rfl,c,16807,2147483399,rfl,by decide,by decide,by decide,fun m m0 m1=>⟨(by show 3<=sizeLine;decide),fun p hp=>⟨_,rfl,_,_,rfl,rfl,(by show (0:Int)<3;decide),?_⟩⟩⟩
   obtain ⟨v,hv,e⟩:=qZ (ns:=[3,100,1000000]) (i:=c % 3) tb_g% (by show c % 3<3;lia)
   have hv:v=3\/v=100\/v=1000000:=by simpa using hv
   refine fZ (.inl (.inl ak)) (v:=.int v) e ⟨_,_,rfl,rfl,(by show (0:Int)<v;lia),_,_,rfl,rfl,?_⟩
   have w0:=tV m (show v≠0 by lia)
   have w1:=xV m (show 0<v by lia)
   have s1:=Same.new (o:=.lst [.int 3,.int 100,.int 1000000]) hp
   generalize upd H p (.lst [.int 3,.int 100,.int 1000000])=H1 at s1 ⊢
   dsimp only
   have hw1:1<=1+m % v:=by lia
   have hw2:1+m % v<=1000000:=by lia
   generalize 1+m % v=W at hw1 hw2 ⊢
   have o:=s1 _ _ g.kp.o
   have dv:CDiv W ((x.room:Int)+1):=⟨by lia,by lia⟩
   have dn:CDiv (-W) ((x.room:Int)+1):=⟨by lia,by lia⟩
   refine ⟨_,rfl,_,rfl,rdF o T.cj T.Ds (QS ..) ⟨_,_,rfl,rfl,_,_,rfl,rfl,dv,?_⟩⟩
   refine ⟨_,rfl,_,rfl,_,rfl,rdF o T.cj T.Ds (QS ..) ⟨_,_,rfl,rfl,_,_,rfl,rfl,dn,_,rfl,?_⟩⟩
   refine ⟨_,rfl,_,_,rfl,rfl,⟨by decide,by decide⟩,_,rfl,_,_,rfl,rfl,(by show (0:Int)<W;lia),_,_,rfl,rfl,?_⟩
   refine ⟨(by show 3<=sizeLine;decide),fun p2 hp2=>⟨_,rfl,_,_,rfl,rfl,⟨by decide,by decide⟩,_,_,rfl,rfl,(by show (0:Int)<3;decide),?_⟩⟩
   obtain ⟨pv,hpv,e2⟩:=qZ (ns:=[W / ((x.room:Int)+1),-(-W / ((x.room:Int)+1)),1+c / 3 % W]) (i:=c / 3 % 3) tb_g% (by show c / 3 % 3<3;lia)
   have hpv:pv=W / ((x.room:Int)+1)\/pv = -(-W / ((x.room:Int)+1))\/pv=1+c / 3 % W:=by simpa using hpv
   have pb:pv<=1000000:=by
    rcases hpv with rfl | rfl | rfl
    ·have:=Int.ediv_le_self ((x.room:Int)+1) (show 0<=W by lia);lia
    ·have h2:-W*((x.room:Int)+1) <= -W:=by
      have:=aes (show (1:Int)<=(x.room:Int)+1 by lia) (show 0<=W by lia)
      rw [Wx] at this
      rw [Int.neg_mul];lia
     have:=Int.le_ediv_of_mul_le (show (0:Int)<(x.room:Int)+1 by lia) h2
     lia
    ·have:=xV (c / 3) (show 0<W by lia);lia
   refine fZ (.inl (.inl ak)) (v:=.int pv) e2 ?_
   refine ⟨_,rfl,_,_,rfl,_,rfl,by show 2<=sizeLine;decide,fun t ht=>q t _ W _ (fun _=>?_) ak (s1.trans ((Same.new hp2).trans (Same.new ht)))⟩
   split <;> lia
  k_dat h "j"
  ·exact ⟨_,rfl,c,rfl,fun v H' _ _ s'=>⟨by show 2<=sizeLine;decide,fun t ht=>q t v 0 _ (fun z=>absurd z h0) ak (s'.trans (Same.new ht))⟩⟩
  clear h
  apply share (fun _:Int=>True)
  ·intro key
   refine ⟨_,rfl,rfl,_,rfl,cV (fun _=>?_) (fun _=>?_)⟩
   ·refine ⟨_,rfl,rdF g.kp.o T.cj T.rT (J8 ..) (rdF g.kp.up.o T.cO T.wD (qF ..) ?_)⟩
    generalize x.up.x.tt=M
    exact key M trivial
   ·refine ⟨_,rfl,rdF g.kp.o T.cj T.Ju (Ur ..) ?_⟩
    exact key _ trivial
  intro M _
  refine ⟨_,rfl,_,rfl,_,_,rfl,rfl,_,rfl,_,_,rfl,rfl,⟨by decide,by decide⟩,_,rfl,_,_,rfl,_,_,rfl,rfl,(by show (0:Int)<(if M>1 then M else 1);split <;> lia),_,_,rfl,rfl,_,rfl,?_⟩
  refine ⟨(by show 6<=sizeLine;decide),fun p hp=>⟨_,rfl,_,_,rfl,rfl,(by show (0:Int)<6;decide),?_⟩⟩
  obtain ⟨v,_,e⟩:=qZ (ns:=[0,1,M,M+1,1+c / 6 % (if M>1 then M else 1),-1]) (i:=c % 6) tb_g% (by show c % 6<6;lia)
  exact fZ (.inl (.inl ak)) (v:=.int v) e ⟨by show 2<=sizeLine;decide,fun t ht=>q t v 0 _ (fun z=>absurd z h0) ak ((Same.new hp).trans (Same.new ht))⟩
open MK
noncomputable abbrev bT (b:Bool):Tr:=.f (.bl b)
theorem Bt {H:Hp} {P:Addr->Prop} {n:Nat} {a:Addr} {bs:List Bool} (pa:P a) (h:H a=some (.lst (bs.map V.bl))):Is H P (n+1) (.ref a) (.l (bs.map bT)):=.ofL pa h (.map fun i _=>.flat rfl)
theorem Is.all {H:Hp} {P:Addr->Prop} {n:Nat} {v:V} {t:Tr} (h:Is H P n v t):Is H (fun _=>True) n v t:=h.keep (fun _ _ _ e=>e) (fun _ _ e=>e) fun _ _=>trivial
theorem Td.whole {x:KS} {k:Nat} {a b:Int} {H H':Hp} {t r:Addr} {v:V} {tr:Tr} {bs:List Bool} (h:Td x k a b H H' t r v tr bs):Is H' (fun _=>True) 3 (.ref t) (.t [tr,.l (bs.map bT)]) :=
 .ofT h.et (.cons h.is.all (.cons (Bt trivial h.er) .nil))
theorem Is.bare {H:Hp} {P:Addr->Prop} {n:Nat} {v:V} {ys:List Int} (h:Is H P n v (.t (ys.map iT))):Is H (fun _=>False) n v (.t (ys.map iT)):=by
 cases h with
 | tup ha hl h =>
  refine .tup ha hl fun i x t e1 e2=>?_
  have q:=h i x t e1 e2
  rw [jN] at e2
  cases e:ys[i]? with
  | none=>rw [e] at e2;cases e2
  | some y =>
   rw [e] at e2
   cases e2
   cases q with
   | flat h=>exact .flat h
theorem ahC {c:Tab} {l t a b:Int} {ks:List Int} (h:Told c l t a b ks):ks.length<=c.length:=by
 obtain ⟨s,p,_,rfl⟩:=h
 refine fX (vd _ _) ?_
 rw [p.length_eq]
 unfold keys
 rw [bK];exact cJ _
/-- a list is told,or no list -/
theorem aje {K:aW} {mg:Str->Option Value} {A:Ad} (T:Tx K mg A) {x:KS} {k:Nat} {a b:Int} {H:Hp} {P:Addr->Prop} {v:V} {tr:Tr} {bs:List Bool} (an:Ans x k a b tr bs) (hc:x.cm.c.length<=64) (i:Is H P 2 v tr) :
  (∃ (L:Addr) (xs:List V) (ts:List Tr),v = .ref L/\tr = .l ts/\bs=[]/\H L=some (.lst xs)/\P L/\xs.length<=64/\xs.length=ts.length/\∀ (i:Nat) (y:V) (t:Tr),xs[i]? = some y->ts[i]? = some t->Is H (fun _=>False) 1 y t)\/∃ ty,xM K H v ty/\fJ K ty (.type "list")=some false:=by
 cases an with
 | often _ td =>
  cases i with
  | lst pa ha hl h =>
   have:=ahC td
   have hl2:=hl
   rw [bK] at hl2
   refine .inl ⟨_,_,_,rfl,rfl,rfl,ha,pa,by lia,hl,fun i y t e1 e2=>?_⟩
   have q:=h i y t e1 e2
   obtain ⟨z,_,rfl⟩:=oN.mp (List.mem_of_getElem? e2)
   exact Is.bare (ys:=[z,low x.cm.c z,low x.cm.c z+x.cm.l]) q
 | off _ nc =>
  cases i with
  | lst pa ha hl h =>
   have:=nc.two
   have hl2:=hl
   rw [bK] at hl2
   refine .inl ⟨_,_,_,rfl,rfl,rfl,ha,pa,by lia,hl,fun i y t e1 e2=>?_⟩
   have q:=h i y t e1 e2
   obtain ⟨z,_,rfl⟩:=oN.mp (List.mem_of_getElem? e2)
   exact Is.bare (ys:=[z.1,z.2]) q
 | fine=>cases i;exact .inr ⟨_,.non,T.lq⟩
 | place=>cases i;exact .inr ⟨_,.non,T.lq⟩
 | far=>cases i;exact .inr ⟨_,.non,T.lq⟩
 | many=>cases i;exact .inr ⟨_,.non,T.lq⟩
 | rank=>cases i with | tup ha _ _=>exact .inr ⟨_,.tup ha,T.lZ⟩
 | last=>cases i with | tup ha _ _=>exact .inr ⟨_,.tup ha,T.lZ⟩
 | dist=>cases i with | tup ha _ _=>exact .inr ⟨_,.tup ha,T.lZ⟩
 | net=>cases i with | tup ha _ _=>exact .inr ⟨_,.tup ha,T.lZ⟩
 | ranked=>cases i with | tup ha _ _=>exact .inr ⟨_,.tup ha,T.lZ⟩
theorem ajf {K:aW} {H:Hp} {v:V} {Q:VK} {C:Prop} (h:C\/∃ ty,xM K H v ty/\fJ K ty (.type "list")=some false) (hl:C->xM K H v (.type "list")) (kl:fJ K (.type "list") (.type "list")=some true) (hf:Q (.bl false) H) (ht:C->Q (.bl true) H):rIsi K [v,.ty "list"] H Q:=by
 rcases h with c | ⟨ty,h1,h2⟩
 ·exact ⟨_,_,_,_,true,rfl,rfl,fun _ h=>h,hl c,kl,ht c⟩
 ·exact ⟨_,_,_,_,false,rfl,rfl,fun _ h=>h,h1,h2,hf⟩
theorem ahD (bs:List Bool):inV (.bl true) (bs.map V.bl)=bs.any id:=by
 induction bs with
 | nil=>rfl
 | cons b r ih =>
  show (eqV (.bl b) (.bl true) || inV (.bl true) (r.map V.bl))=_
  rw [ih,vm]
  cases b <;> rfl
theorem abw (bs:List Bool):(bs.map V.bl).all sJ=true:=by
 induction bs with
 | nil=>rfl
 | cons b r ih=>rw [jg,U7,ih];rfl
theorem lQ {K:aW} {H:Hp} {p q:Addr} {bs:List Bool} (hp:H p=some (.lst (bs.map V.bl))) (hq:H q=some (.lst (bs.map V.bl))):Alike K H 1 (.ref p) (.ref q):=Is.alike (P:=fun _=>True) (Bt (n:=0) trivial hp) (P':=fun _=>True) (Bt (n:=0) trivial hq)
noncomputable def ahE (A:Ad):Sp:=fun vs H Q _=>∃ (x:KS) (n:Nat) (c:Int),vs=[.ref x.k,.int c]/\Gd A H x n/\∀ H',Same H H'->Q (.bl true) H'
theorem ajR (T:Tx K mg A):cg P w K mg base CX0 8 A.Yp A.Dr ["_law_keepsake","_law_cell"] (ahE A):=by
 k_dat (T.F'69.ok,jw) "a"
 ·obtain ⟨x,n,c,rfl,_⟩:=h
  rfl
 ·obtain ⟨x,n,c,rfl,g,q⟩:=h
  have h60:=g.lens.1
  have hc:x.cm.c.length<=64:=by
   obtain ⟨W,ok⟩:=g.kh.cm.ok
   have:=ok.len
   have:=g.kn.r16
   lia
  refine ⟨_,(ao (mH mD rfl (CV rfl T.Qn (aj au aA)) (dR (i:=2) jw.nd rfl (Or.inl rfl)) (ao (aL (i:=3) jw.nd rfl (Or.inl rfl) (aF dg (aF bM (aF dg (pv 1) au) (aF fQ (pv 2) (aF bM au (aF dg (aF cZ (pv 1) au) au)))) au))
   (ao (yZ (bQ (ok'68 T) tb_g% rfl T.T8 T.F'68.kp T.b'68 .nil aX (aj (pv 0) (aj (pv 3) (aj (bQ (abr T) tb_g% rfl T.Gb T.agU.kp T.b'50 .nil aX (aj (aF bM (pv 1) (pv 2)) (aj au (aj au aA)))) aA)))) (CT rfl (ig (dR (i:=4) jw.nd rfl (Or.inl rfl)) (ig (dR (i:=5) jw.nd rfl (Or.inl rfl)) wU))))
   (ao (aL (i:=6) jw.nd rfl (Or.inl rfl) (bQ (ahB T) tb_g% rfl T.JG T.F'66.kp T.b'66 .nil aX (aj (pv 0) (aj (pv 4) (aj (pv 5) (aj (pv 3) (aj ji aA)))))))
   (ao (cF (aK (ZM hr.units) (pv 6) (bQ (ahB T) tb_g% rfl T.JG T.F'66.kp T.b'66 .nil aX (aj (pv 0) (aj (pv 4) (aj (pv 5) (aj (pv 3) (aj ji aA)))))) (aQ _)) (aC (aO ji)) aZ)
   (ao (cF (HW (bU call_isinstance (by rfl) T.pF NZ (aj (bO (ixG (bB hr)) (pv 6) au (fun _ _=>rfl)) (aj (ahN (v:=.ty "list") rfl T.JH N5 rfl) aA)))) (ao (aL (i:=7) jw.nd rfl (Or.inl rfl) (wW (zc rfl) (by rfl) T.JH N5 (aj (bO (ixG (bB hr)) (pv 6) au (fun _ _=>rfl)) aA)))
   (ao (cY (En Ek Ei Ej iW (bO (ixG (bB hr)) (pv 6) au (fun _ _=>rfl)) (aj (vV Ac (bO (ixG (bB hr)) (pv 6) au (fun _ _=>rfl)) Ab (qW au)) aA)))
   (aC (cF (aK (ZM hr.units) (bQ (ahB T) tb_g% rfl T.JG T.F'66.kp T.b'66 .nil aX (aj (pv 0) (aj (pv 4) (aj (pv 5) (aj (pv 3) (aj ji aA)))))) (eE (aj (pv 7) (aj (cN aA) aA))) (aQ _)) (aC (aO ji)) aZ)))) aZ)
   (ao (aL (i:=8) jw.nd rfl (Or.inl rfl) (bQ (ok'67 T) tb_g% rfl T.Fg T.F'67.kp T.b'67 .nil aX (aj (pv 0) (aj (pv 4) (aj (pv 5) (aj (pv 3) aA))))))
   (ao (cF (PW.pt (pw_and (aK pZ (pv 3) au (aQ _)) (pw_and1 (aK op_ne (pA (agB hr.units) (bO (ixG (bB hr)) (pv 6) au (fun _ _=>rfl)) (cN aA) (aQ _)) (pA (inG (bB hr)) ji (pv 8) (by with_unfolding_all rfl)) (aQ _))))) (aC (aO ji)) aZ)
   (ao (cF (PW.pt (pw_and (aK pZ (pv 3) au (aQ _)) (pw_and1 (aK (Le hr.units) (bO (ixG (bB hr)) (pv 6) au (fun _ _=>rfl)) (eE (aj (cN aA) (aj (pv 8) aA))) (by with_unfolding_all rfl))))) (aC (aO ji)) aZ)
   (aC (cF (PW.pt (pw_or (PW.pt (pw_and (aK fY (pv 3) au (aQ _)) (pw_and1 (aK (Le hr.units) (bO (ixG (bB hr)) (pv 6) au (fun _ _=>rfl)) (eE (aj (cN aA) (aj (cN (aj ji (aj ji (aj ji aA)))) aA))) (by with_unfolding_all rfl))))) (pw_or1 (PW.pt (pw_and (aK qT (pv 3) au (aQ _)) (pw_and1 (aK (agB hr.units) (bO (ixG (bB hr)) (pv 6) au (fun _ _=>rfl)) (cN aA) (aQ _)))))))) (aC (aO ji)) aZ)))))))))))
   (aC (aO ji))),?_⟩
  refine ⟨7,rfl,by decide,by decide,CZ (fun i σ G=>∃ y2 y3 y4 y5 y6 y7 y8:Option V,σ=[some (.ref x.k),some (.int c),y2,y3,y4,y5,y6,y7,y8]/\Same H G) ⟨none,none,none,none,none,none,none,rfl,Same.refl _⟩ ?_ ?_⟩
  rotate_left
  ·rintro σ G ⟨y2,y3,y4,y5,y6,y7,y8,rfl,sG⟩
   exact q _ sG
  rintro i σ G0 hi ⟨y2,y3,y4,y5,y6,y7,y8,rfl,sG0⟩
  have hi7:i<7:=hi
  refine ⟨_,rfl,_,_,rfl,rfl,(by show (0:Int)<7;decide),_,rfl,_,rfl,_,_,rfl,rfl,⟨by decide,by decide⟩,_,_,rfl,rfl,(by show (0:Int)<6;decide),_,_,rfl,rfl,_,_,rfl,rfl,qg tb_g% tb_g%,_,_,rfl,rfl,_,_,rfl,rfl,(by show (0:Int)<7;decide),?_⟩
  have m0:=tV (c % 7+(0+(i:Int))*(1+c / 7 % 6)) (show (7:Int)≠0 by decide)
  have m1:=xV (c % 7+(0+(i:Int))*(1+c / 7 % 6)) (show (0:Int)<7 by decide)
  dsimp only
  generalize (c % 7+(0+(i:Int))*(1+c / 7 % 6)) % 7=kk at m0 m1 ⊢
  obtain ⟨k,rfl⟩:=Int.eq_ofNat_of_zero_le m0
  have hk:k<=6:=by lia
  have g0:=g.same sG0
  refine ⟨_,rfl,_,rfl,_,rfl,_,rfl,_,_,rfl,rfl,_,39373,2147483587,rfl,by decide,by decide,by decide,fun m _ _=>⟨x,n,k,m,rfl,g0,fun tn a b G1 f htn s1=>?_⟩⟩
  refine ⟨tn,_,rfl,.inl (.inl htn),rfl,_,_,rfl,_,_,rfl,rfl,?_⟩
  have g1:=g0.same s1
  refine ⟨_,rfl,_,rfl,_,rfl,_,rfl,x,n,k,a,b,true,rfl,g1,hk,f,fun t1 r1 v1 tr bs G2 d1=>?_⟩
  refine ⟨_,rfl,_,rfl,_,rfl,_,rfl,_,rfl,x,n,k,a,b,false,rfl,g1.same d1.s,hk,f,fun t2 r2 v2 tr2 bs2 G3 d2=>?_⟩
  obtain ⟨rfl,rfl⟩:=d1.an.uniq h60 d2.an
  refine ⟨3,t1,t2,rfl,rfl,by decide,(d1.whole.same d2.s).alike d2.whole,_,rfl,lD ?_⟩
  have t3:=d2.s _ _ d1.et
  have r3:=d2.s _ _ d1.er
  have s13:=d1.s.trans d2.s
  have i3:=d1.is.same d2.s
  apply al9 (fun (G:Hp) (_:Option V)=>Same G1 G/\G t1=some (.tup [v1,.ref r1])/\G r1=some (.lst (bs.map V.bl)))
  ·intro key
   refine ⟨_,rfl,eX (.inl (.inl t3)) (v:=v1) rfl ?_⟩
   refine ajf (aje T d1.an hc i3) (fun ⟨L,xs,ts,ev,_,_,hL,_⟩=>by rw [ev];exact .lst hL) T.Ua ?_ (fun hcl=>?_)
   ·refine ⟨_,rfl,lD ?_⟩
    generalize hG:G3=Gn
    generalize y7=yn
    exact key Gn yn (by rw [<- hG];exact ⟨s13,t3,r3⟩)
   obtain ⟨L,xs,ts,ev,et,eb,hL,⟨fL,nL⟩,xl,hl,hits⟩:=hcl
   subst ev et eb
   refine ⟨_,rfl,Ih ?_⟩
   refine ⟨_,rfl,eX (.inl (.inl t3)) (v:=.ref L) rfl (.inl ⟨L,xs,rfl,.inl (.inl (.inl hL)),fun l fl=>?_⟩)⟩
   have s4:=Same.new (o:=.lst xs) fl
   have l4:(upd G3 l (.lst xs)) l=some (.lst xs):=ak
   generalize upd G3 l (.lst xs)=G4 at s4 l4 ⊢
   have t4:=s4 _ _ t3
   have L4:=s4 _ _ hL
   refine ⟨_,rfl,eX (.inl (.inl t4)) (v:=.ref L) rfl ⟨.inl ⟨rfl,_,.inl (.inl L4)⟩,_,rfl,eX (.inl (.inl t4)) (v:=.ref L) rfl ⟨_,rfl,L,xs,rfl,.inl (.inl L4),fun p fp=>?_⟩⟩⟩
   have s5:=s4.trans (Same.new (o:=.lst (Ie xs none (some 1))) fp)
   have l5:=(Same.new (o:=.lst (Ie xs none (some 1))) fp) _ _ l4
   generalize upd G4 p (.lst (Ie xs none (some 1)))=G5 at s5 l5 ⊢
   have L5:=s5 _ _ hL
   have nl:l≠L:=aP (aq hL fl)
   refine ⟨L,xs,_,rfl,rfl,L5,cH tb_g%,?_⟩
   have s16:Same G1 (upd G5 L (.lst (xs++[.ref p]))):=fun b o e=>by rw [aB (aq e fL)];exact s5 _ _ (s13 _ _ e)
   have l6:(upd G5 L (.lst (xs++[.ref p]))) l=some (.lst xs):=by rw [aB nl];exact l5
   have t6:(upd G5 L (.lst (xs++[.ref p]))) t1=some (.tup [.ref L,.ref r1]):=by rw [aB (jP t3 hL (by intro z;cases z))];exact s5 _ _ t3
   have r6:(upd G5 L (.lst (xs++[.ref p]))) r1=some (.lst (([]:List Bool).map V.bl)):=by rw [aB (aP nL)];exact s5 _ _ r3
   have ajS:∀ (i:Nat) (y:V) (t:Tr),xs[i]? = some y->ts[i]? = some t->Is (upd G5 L (.lst (xs++[.ref p]))) (fun _=>False) 1 y t:=fun i y t e1 e2=>((hits i y t e1 e2).same s5).upd L5 fun z=>z
   generalize upd G5 L (.lst (xs++[.ref p]))=G6 at s16 l6 t6 r6 ajS ⊢
   refine ⟨_,rfl,_,rfl,_,rfl,_,rfl,x,n,k,a,b,true,rfl,g1.same s16,hk,f,fun t4 r4 v4 tr4 bs4 G7 d4=>?_⟩
   obtain ⟨rfl,rfl⟩:=d1.an.uniq h60 d4.an
   refine ⟨_,rfl,(by show 0<=sizeLine;exact bZ _),fun e fe=>⟨by show 2<=sizeLine;decide,fun u fu=>?_⟩⟩
   have s8:Same G7 (upd (upd G7 e (.lst [])) u (.tup [.ref l,.ref e])):=(Same.new fe).trans (Same.new fu)
   have e8:(upd (upd G7 e (.lst [])) u (.tup [.ref l,.ref e])) e=some (.lst (([]:List Bool).map V.bl)):=(Same.new fu) _ _ ak
   have u8:(upd (upd G7 e (.lst [])) u (.tup [.ref l,.ref e])) u=some (.tup [.ref l,.ref e]):=ak
   generalize upd (upd G7 e (.lst [])) u (.tup [.ref l,.ref e])=G8 at s8 e8 u8 ⊢
   have s68:=d4.s.trans s8
   have w8:Is G8 (fun _=>True) 3 (.ref u) (.t [.l ts,.l (([]:List Bool).map bT)]):=.ofT u8 (.cons (.lst trivial (s68 _ _ l6) hl fun i y t e1 e2=>((ajS i y t e1 e2).same s68).all) (.cons (Bt trivial e8) .nil))
   refine ⟨3,t4,u,rfl,rfl,by decide,(d4.whole.same s8).alike w8,_,rfl,lD ?_⟩
   exact key G8 (some (.ref l)) ⟨s16.trans s68,s68 _ _ t6,s68 _ _ r6⟩
  intro G y7 ⟨sG,tG,rG⟩
  clear t3 r3 s13 i3
  refine ⟨_,rfl,_,rfl,_,rfl,_,rfl,x,n,k,a,b,rfl,g1.same sG,f,fun d G4 fd hd s4=>?_⟩
  have t4:=s4 _ _ tG
  have r4:=s4 _ _ rG
  have nrd:r1≠d:=aq rG fd
  obtain ⟨D1,D2,D3⟩:=d1.an.due
  have sH4:Same H G4:=sG0.trans (s1.trans (sG.trans s4))
  clear tG rG fd
  apply share (fun G:Hp=>Same G4 G)
  ·intro key
   refine ⟨_,rfl,_,_,rfl,rfl,_,rfl,cV (fun h4=>?_) (fun h4=>lD ?_)⟩
   rotate_left
   ·generalize hG:G4=Gn
    exact key Gn (by rw [<- hG];exact Same.refl _)
   have h4:k<4:=by have:=of_decide_eq_true h4;lia
   refine ⟨_,rfl,eX (.inl (.inl t4)) (v:=.ref r1) rfl ⟨(by show 0<=sizeLine;exact bZ _),fun e fe=>?_⟩⟩
   have s5:=Same.new (o:=.lst []) fe
   have e5:(upd G4 e (.lst [])) e=some (.lst []):=ak
   generalize upd G4 e (.lst [])=G5 at s5 e5 ⊢
   have r5:=s5 _ _ r4
   have d5:=s5 _ _ hd
   rcases D1 h4 with ⟨rfl,ed⟩ | ⟨ed,b0,b1,b2,rfl,hb⟩
   ·refine .inl ⟨1,r1,e,rfl,rfl,by decide,lQ (bs:=[]) r5 e5,?_⟩
    refine ⟨_,rfl,.inl ⟨d,_,rfl,.inl (.inl (.inl d5)),rfl,abw _,rfl,_,rfl,?_⟩⟩
    rw [ahD,ed]
    exact ajq rfl (key G5 s5)
   ·refine .inr ⟨r1,e,_,_,rfl,rfl,.inl (.inl r5),.inl (.inl e5),(by show (3:Nat)≠0;decide),?_⟩
    refine ⟨_,rfl,.inl ⟨d,_,rfl,.inl (.inl (.inl d5)),rfl,abw _,rfl,_,rfl,?_⟩⟩
    rw [ahD,<- ed,show ([b0,b1,b2].any id)=true by rw [<- hb];simp [Bool.or_assoc]]
    exact ajq rfl (key G5 s5)
  intro G5 s5
  have t5:=s5 _ _ t4
  have r5:=s5 _ _ r4
  have hd5:=s5 _ _ hd
  apply share (fun G:Hp=>Same G5 G)
  ·intro key
   refine ⟨_,rfl,_,_,rfl,rfl,_,rfl,cV (fun h4=>?_) (fun h4=>lD ?_)⟩
   rotate_left
   ·generalize hG:G5=Gn
    exact key Gn (by rw [<- hG];exact Same.refl _)
   have h4:k<4:=by have:=of_decide_eq_true h4;lia
   refine ⟨_,rfl,eX (.inl (.inl t5)) (v:=.ref r1) rfl ⟨(by show 0<=sizeLine;exact bZ _),fun e fe=>⟨_,rfl,by show 2<=sizeLine;decide,fun u fu=>?_⟩⟩⟩
   have s6:Same G5 (upd (upd G5 e (.lst [])) u (.tup [.ref e,.ref d])):=(Same.new fe).trans (Same.new fu)
   have e6:(upd (upd G5 e (.lst [])) u (.tup [.ref e,.ref d])) e=some (.lst []):=(Same.new fu) _ _ ak
   have u6:(upd (upd G5 e (.lst [])) u (.tup [.ref e,.ref d])) u=some (.tup [.ref e,.ref d]):=ak
   have ner:e≠r1:=aP (aq r5 fe)
   have ned:e≠d:=aP (aq hd5 fe)
   generalize upd (upd G5 e (.lst [])) u (.tup [.ref e,.ref d])=G6 at s6 e6 u6 ⊢
   have r6:=s6 _ _ r5
   have d6:=s6 _ _ hd5
   rcases D1 h4 with ⟨rfl,ed⟩ | ⟨ed,b0,b1,b2,rfl,hb⟩
   ·rw [ed] at d6
    exact ⟨r1,u,e,d,true,false,rfl,rfl,u6,ned,⟨1,by decide,lQ (bs:=[]) e6 r6⟩,⟨aP nrd,_,_,.inl (.inl d6),.inl (.inl r6),by decide⟩,_,rfl,lD (key G6 s6)⟩
   ·rw [<- ed] at d6
    exact ⟨r1,u,e,d,false,true,rfl,rfl,u6,ned,⟨ner,_,_,.inl (.inl e6),.inl (.inl r6),(by show (0:Nat)≠3;decide)⟩,⟨1,by decide,lQ d6 r6⟩,_,rfl,lD (key G6 s6)⟩
  intro G6 s6
  have t6:=s6 _ _ t5
  have r6:=s6 _ _ r5
  have sH6:=sH4.trans (s5.trans s6)
  refine ⟨_,rfl,rfl,_,rfl,cV (fun h4=>?_) (fun h4=>lD ?_)⟩
  ·have h4:(k:Int)=4:=V.int.inj (of_decide_eq_true h4)
   obtain rfl:k=4:=by lia
   refine ⟨_,rfl,eX (.inl (.inl t6)) (v:=.ref r1) rfl ⟨(by show 0<=sizeLine;exact bZ _),fun e fe=>⟨(by show 3<=sizeLine;decide),fun e2 fe2=>⟨by show 2<=sizeLine;decide,fun u fu=>?_⟩⟩⟩⟩
   have nee:e≠e2:=fun z=>by rw [<- z,ak] at fe2;cases fe2
   have sn:=Same.new (o:=.lst []) fe
   have s7:Same G6 (upd (upd (upd G6 e (.lst [])) e2 (.lst [.bl false,.bl false,.bl true])) u (.tup [.ref e,.ref e2])):=sn.trans ((Same.new fe2).trans (Same.new fu))
   have e7:(upd (upd (upd G6 e (.lst [])) e2 (.lst [.bl false,.bl false,.bl true])) u (.tup [.ref e,.ref e2])) e=some (.lst []):=(Same.new fu) _ _ ((Same.new fe2) _ _ ak)
   have f7:(upd (upd (upd G6 e (.lst [])) e2 (.lst [.bl false,.bl false,.bl true])) u (.tup [.ref e,.ref e2])) e2=some (.lst ([false,false,true].map V.bl)):=(Same.new fu) _ _ ak
   have u7:(upd (upd (upd G6 e (.lst [])) e2 (.lst [.bl false,.bl false,.bl true])) u (.tup [.ref e,.ref e2])) u=some (.tup [.ref e,.ref e2]):=ak
   have ner:e≠r1:=aP (aq r6 fe)
   have ner2:e2≠r1:=aP (aq (sn _ _ r6) fe2)
   generalize upd (upd (upd G6 e (.lst [])) e2 (.lst [.bl false,.bl false,.bl true])) u (.tup [.ref e,.ref e2])=G7 at s7 e7 f7 u7 ⊢
   have r7:=s7 _ _ r6
   rcases D2 rfl with rfl | rfl
   ·exact ⟨r1,u,e,e2,true,false,rfl,rfl,u7,nee,⟨1,by decide,lQ (bs:=[]) e7 r7⟩,⟨ner2,_,_,.inl (.inl f7),.inl (.inl r7),by decide⟩,_,rfl,lD ⟨_,rfl,_,_,rfl,rfl,_,rfl,lD (lD ⟨_,_,_,_,_,_,_,rfl,sH6.trans s7⟩)⟩⟩
   ·exact ⟨r1,u,e,e2,false,true,rfl,rfl,u7,nee,⟨ner,_,_,.inl (.inl e7),.inl (.inl r7),by decide⟩,⟨1,by decide,lQ f7 r7⟩,_,rfl,lD ⟨_,rfl,_,_,rfl,rfl,_,rfl,lD (lD ⟨_,_,_,_,_,_,_,rfl,sH6.trans s7⟩)⟩⟩
  refine ⟨_,rfl,_,_,rfl,rfl,_,rfl,cV (fun h5=>?_) (fun h5=>lD ?_)⟩
  rotate_left
  ·exact ⟨_,_,_,_,_,_,_,rfl,sH6⟩
  have h5:4<k:=by have:=of_decide_eq_true h5;lia
  obtain rfl:=D3 h5
  refine ⟨_,rfl,eX (.inl (.inl t6)) (v:=.ref r1) rfl ⟨(by show 0<=sizeLine;exact bZ _),fun e fe=>?_⟩⟩
  have s7:=Same.new (o:=.lst []) fe
  have e7:(upd G6 e (.lst [])) e=some (.lst []):=ak
  generalize upd G6 e (.lst [])=G7 at s7 e7 ⊢
  exact .inl ⟨1,r1,e,rfl,rfl,by decide,lQ (bs:=[]) (s7 _ _ r6) e7,_,rfl,lD ⟨_,_,_,_,_,_,_,rfl,sH6.trans s7⟩⟩
open MK
theorem Kp.apart {A:Ad} {H:Hp} {x:KS} {b:Addr} {xs:List V} (h:Kp A H x) (hb:H b=some (.lst xs)):b∉x.pts:=fun m=>by
 unfold KS.pts at m
 simp only [cA,lN,or_false] at m
 rcases m with rfl | rfl | rfl | rfl | rfl | rfl | rfl
 ·rw [h.cm.o] at hb;cases hb
 ·rw [h.wn.o] at hb;cases hb
 ·rw [h.up.o] at hb;cases hb
 ·rw [h.dn.o] at hb;cases hb
 ·rw [h.wi.o] at hb;cases hb
 ·rw [h.di.o] at hb;cases hb
 ·rw [h.ba.o] at hb;cases hb
structure W1 (A:Ad) (H0 H:Hp) (z:Addr) (cs:List Int) (x:KS) (n:Nat):Prop where
 scr:Same H0 H
 gd:Gd A H x n
 z:H z=some (.lst (cs.map V.int))
 fx:∀ b∈x.pts,H0 b=none
theorem W1.same {A:Ad} {H0 H H':Hp} {z:Addr} {cs:List Int} {x:KS} {n:Nat} (h:W1 A H0 H z cs x n) (s:Same H H'):W1 A H0 H' z cs x n:=⟨h.scr.trans s,h.gd.same s,s _ _ h.z,h.fx⟩
theorem W1.row {A:Ad} {H0 H H1:Hp} {z:Addr} {cs:List Int} {x x':KS} {n:Nat} {r:R3} (h:W1 A H0 H z cs x n) (hn:n<100) (ok:r.ok) (k1:Kp A H1 x') (s1:SR r x x') (f1:Far A x.pts H H1):W1 A H0 H1 z cs x' (n+1):=by
 refine ⟨fun b o e=>f1.pb _ _ (h.scr b o e) fun m=>?_,⟨k1,h.gd.kh.row hn ok s1,h.gd.kn.row ok s1⟩,f1.pb _ _ h.z (h.gd.kp.apart h.z),by rw [s1.sb.pts];exact h.fx⟩
 have:=h.fx b m
 rw [e] at this
 cases this
theorem ok'70 (T:Tx K mg A):cg P w K mg base CX0 9 A.abB A.agL ["_law_script"] (ag0 K):=by
 k_dat (T.F'70.ok,DX) "a"
 ·obtain ⟨a,ns,rfl,_⟩:=h
  rfl
 ·obtain ⟨a,ns,rfl,hS,hlen,q⟩:=h
  refine ⟨_,(ao (yZ (bQ (ok'55 T) tb_g% rfl T.Qm T.F'55.kp T.b'55 .nil aX (aj (bU (xu rfl) (by rfl) T.aa9 N7 (aj (vV Ac (pv 0) Ab (qW au)) aA)) aA)) (CT rfl (ig (dR (i:=1) DX.nd rfl (Or.inl rfl)) (ig (dR (i:=2) DX.nd rfl (Or.inl rfl)) (ig (dR (i:=3) DX.nd rfl (Or.inl rfl)) wU)))))
   (ao (aL (i:=4) DX.nd rfl (Or.inl rfl) (qU T.mk'76 (ok'49 T) tb_g% rfl T.ZX T.b'49 .nil aX (aj (pv 1) (aj (pv 2) (aj (pv 3) aA)))))
   (ao (mH mD rfl (jB (vV Ac (pv 0) Ab (qW au))) (dR (i:=5) DX.nd rfl (Or.inl rfl)) (ao (cY (bQ (ok'56 T) tb_g% rfl T.agV T.F'56.kp T.b'56 .nil aX (aj (pv 4) (aj (bQ (ok'54 T) tb_g% rfl T.Z7 T.F'54.kp T.b'54 .nil aX (aj (pv 5) aA)) aA))))
   (aC (cF (PW.pt (pw_and (aK fY (aF dg (aF cZ (pv 5) au) au) au (aQ _)) (pw_and1 (afn (HW (bQ (ajR T) tb_g% rfl T.Lq T.F'69.kp T.b'69 .nil aX (aj (pv 4) (aj (aF cZ (pv 5) au) aA)))))))) (aC (aO ji)) aZ))))
   (aC (aO (bQ (ajR T) tb_g% rfl T.Lq T.F'69.kp T.b'69 .nil aX (aj (pv 4) (aj (aF cZ (bU (xu rfl) (by rfl) T.aa9 N7 (aj (vV Ac (pv 0) (qW (RX Ia au)) Ab) aA)) au) aA)))))))),?_⟩
  obtain ⟨cs,ecs,lcs,_⟩:=Jf ns none (some 1)
  refine ⟨_,rfl,_,rfl,a,_,rfl,hS,fun z hz=>?_⟩
  rw [ecs]
  refine ⟨z,_,rfl,.inl (.inl ak),?_⟩
  have s0:=Same.new (o:=.lst (cs.map V.int)) hz
  generalize upd H z (.lst (cs.map V.int))=H0 at s0 ⊢
  refine ⟨_,rfl,fun t room reach span H1 r2 r64 ev r16 c1 c2 p1 p2 ht s1=>?_⟩
  refine ⟨t,_,rfl,.inl (.inl ht),rfl,_,_,rfl,_,_,rfl,_,_,rfl,rfl,?_⟩
  have s01:=s0.trans s1
  refine ⟨_,rfl,_,rfl,_,rfl,fun k dk n1 n2 n3=>⟨k,dk,room,reach,span,rfl,ak,r2,r64,ev,fun x H2 kp eqx ek hpts bt=>⟨rfl,?_⟩⟩⟩
  have up2:Same H1 (upd (upd H1 dk (.own k)) k (.ins A.cG dk [])):=fun b o e=>by rw [aB (aq e n1),aB (aq e n2)];exact e
  have s2:Same H1 H2:=fun b o e=>bt b o (up2 b o e) (aq e n1)
  have gd0:Gd A H2 x 0:=⟨kp,(kh0 reach span r2 r64 ev).eq eqx,(kn0 r16 c1 c2 p1 p2).eq eqx⟩
  have fx0:∀ b∈x.pts,H b=none:=fun b m=>(s01.trans up2).free (hpts b m)
  have s02:=s01.trans s2
  clear n1 n2 n3 up2 bt hpts
  obtain ⟨ms,ems,lms,_⟩:=Jf ns none (some 70)
  refine ⟨_,rfl,_,rfl,a,_,rfl,s02.seq hS,fun z1 hz1=>?_⟩
  rw [ems]
  have t1:=Same.new (o:=.lst (ms.map V.int)) hz1
  have W0:W1 A H (upd H2 z1 (.lst (ms.map V.int))) z1 ms x 0:=⟨s02.trans t1,gd0.same t1,ak,fx0⟩
  generalize upd H2 z1 (.lst (ms.map V.int))=H3 at W0 ⊢
  refine ⟨z1,rfl,⟨_,.inl (.inl W0.z)⟩,nu (K:=K) (a:=z1) (xs:=ms.map V.int) (fun i σ G=>∃ (x':KS) (y:Option V),σ=[some (.ref a),some (.int room),some (.int reach),some (.int span),some (.ref k),y]/\W1 A H G z1 ms x' i/\x'.k=k) ⟨x,none,rfl,W0,ek⟩ (fun i σ G _ ⟨_,_,_,h,_⟩=>.inl (.inl h.z)) ?_ ?_⟩
  ·rintro i v σ G hi ⟨x1,y,rfl,W,hk⟩
   have hi63:i<63:=by
    have:=(jK.mp hi).1
    rw [bK] at this
    lia
   obtain ⟨cell,_,rfl⟩:=int_at hi
   refine ⟨_,rfl,_,rfl,cell,rfl,fun tr r G1 ok nt htr s1=>?_⟩
   have W1:=W.same s1
   refine ⟨x1,i,tr,r,by rw [hk];rfl,W1.gd.kp,W1.gd.kh,by lia,htr,ok,fun x3 G2 k3 sr3 f3=>?_⟩
   have W3:=W1.row tb_g% ok k3 sr3 f3
   have hk3:x3.k=k:=sr3.sb.k.trans hk
   refine ⟨_,rfl,_,_,rfl,rfl,⟨by decide,by decide⟩,_,_,rfl,rfl,(by show (0:Int)<3;decide),rfl,_,rfl,cV (fun _=>?_) (fun _=>lD ?_)⟩
   ·exact ⟨_,rfl,_,rfl,_,_,rfl,rfl,⟨by decide,by decide⟩,x3,i+1,_,by rw [hk3];rfl,W3.gd,fun G4 s4=>⟨_,rfl,lD ⟨x3,_,rfl,W3.same s4,hk3⟩⟩⟩
   ·exact ⟨x3,_,rfl,W3,hk3⟩
  ·rintro σ G ⟨x1,y,rfl,W,hk⟩
   obtain ⟨es,ees,_,_⟩:=Jf ns (some (-1)) none
   refine ⟨_,rfl,_,rfl,_,rfl,_,rfl,a,_,rfl,W.scr.seq hS,fun z2 hz2=>?_⟩
   rw [ees]
   have t2:=Same.new (o:=.lst (es.map V.int)) hz2
   refine ⟨z2,_,rfl,.inl (.inl ak),_,_,rfl,rfl,⟨by decide,by decide⟩,x1,_,_,by rw [hk];rfl,W.gd.same t2,fun H' s'=>q _⟩
theorem bOf0 {K:aW} {x q:Str} {st:Stmt} {f:Addr} {fd:FuncData} (F:Fun K x q st f fd) (h:∀ (kV dc pm:Value) (an:Option Addr) (cd ct:Value),vC (qM x q (jT st) (jh st) (aG st) .none kV dc pm an cd ct) ⟨[],[]⟩=pure []):Binds K fd [] [] :=
 F.binds fun _ _ _ _ _ _ us hl=>match us,hl with | [],_=>h _ _ _ _ _ _
theorem wO {K:aW} {x q:Str} {st:Stmt} {f:Addr} {fd:FuncData} {p0:Str} (F:Fun K x q st f fd) (h:∀ (kV dc pm:Value) (an:Option Addr) (cd ct u0:Value),vC (qM x q (jT st) (jh st) (aG st) .none kV dc pm an cd ct) ⟨[u0],[]⟩=pure [(p0,u0)]):Binds K fd [p0] [] :=
 F.binds fun _ _ _ _ _ _ us hl=>match us,hl with | [u0],_=>h _ _ _ _ _ _ u0
theorem jF {K:aW} {x q:Str} {st:Stmt} {f:Addr} {fd:FuncData} {p0 p1:Str} (F:Fun K x q st f fd) (h:∀ (kV dc pm:Value) (an:Option Addr) (cd ct u0 u1:Value),vC (qM x q (jT st) (jh st) (aG st) .none kV dc pm an cd ct) ⟨[u0,u1],[]⟩=pure [(p0,u0),(p1,u1)]):Binds K fd [p0,p1] [] :=
 F.binds fun _ _ _ _ _ _ us hl=>match us,hl with | [u0,u1],_=>h _ _ _ _ _ _ u0 u1
theorem Bu {K:aW} {x q:Str} {st:Stmt} {f:Addr} {fd:FuncData} {p0 p1 p2:Str} (F:Fun K x q st f fd) (h:∀ (kV dc pm:Value) (an:Option Addr) (cd ct u0 u1 u2:Value),vC (qM x q (jT st) (jh st) (aG st) .none kV dc pm an cd ct) ⟨[u0,u1,u2],[]⟩=pure [(p0,u0),(p1,u1),(p2,u2)]):Binds K fd [p0,p1,p2] [] :=
 F.binds fun _ _ _ _ _ _ us hl=>match us,hl with | [u0,u1,u2],_=>h _ _ _ _ _ _ u0 u1 u2
theorem bOf4 {K:aW} {x q:Str} {st:Stmt} {f:Addr} {fd:FuncData} {p0 p1 p2 p3:Str} (F:Fun K x q st f fd) (h:∀ (kV dc pm:Value) (an:Option Addr) (cd ct u0 u1 u2 u3:Value),vC (qM x q (jT st) (jh st) (aG st) .none kV dc pm an cd ct) ⟨[u0,u1,u2,u3],[]⟩=pure [(p0,u0),(p1,u1),(p2,u2),(p3,u3)]):Binds K fd [p0,p1,p2,p3] [] :=
 F.binds fun _ _ _ _ _ _ us hl=>match us,hl with | [u0,u1,u2,u3],_=>h _ _ _ _ _ _ u0 u1 u2 u3
theorem bOf5 {K:aW} {x q:Str} {st:Stmt} {f:Addr} {fd:FuncData} {p0 p1 p2 p3 p4:Str} (F:Fun K x q st f fd) (h:∀ (kV dc pm:Value) (an:Option Addr) (cd ct u0 u1 u2 u3 u4:Value),vC (qM x q (jT st) (jh st) (aG st) .none kV dc pm an cd ct) ⟨[u0,u1,u2,u3,u4],[]⟩=pure [(p0,u0),(p1,u1),(p2,u2),(p3,u3),(p4,u4)]):Binds K fd [p0,p1,p2,p3,p4] [] :=
 F.binds fun _ _ _ _ _ _ us hl=>match us,hl with | [u0,u1,u2,u3,u4],_=>h _ _ _ _ _ _ u0 u1 u2 u3 u4
theorem LK.fn {K:aW} {n q:Str} {s:Stmt} {f:Addr} (h:LK K n q s f):∃ fd,Fun K n q s f fd:=by
 obtain ⟨oc,od,an,sl,kV,dc,pm,cd,ct,l,c,k⟩:=h
 exact ⟨_,alf l c k⟩
noncomputable def fdOf {K:aW} {n q:Str} {s:Stmt} {f:Addr} (h:LK K n q s f):FuncData:=ae0 h.fn
theorem aN {K:aW} {n q:Str} {s:Stmt} {f:Addr} (h:LK K n q s f):Fun K n q s f (fdOf h):=aeZ h.fn
theorem CK.cl {K:aW} {C:Addr} (h:CK K C):Cls K C:=⟨h.1,h.2.1,h.2.2.1,h.2.2.2.1⟩
theorem CK.mk {K:aW} {C f:Addr} {q:Str} {s:Stmt} (h:CK K C) (m:MeK K C "__init__" q s f):Mk K C f:=⟨h.2.2.2.2.1,m.1,m.2.1,h.2.2.2.2.2⟩
theorem MeK.mt {K:aW} {C f:Addr} {n q:Str} {s:Stmt} {fd:FuncData} (m:MeK K C n q s f) (F:Fun K n q s f fd):Meth K C n f:=⟨m.1,m.2.1,F.kp⟩
noncomputable def RR (w:World) (K:aW) (mg:Str->Option Value) (fa:Addr):Prop:=∃ fd:FuncData,(∀ (s:Shared) (v:Value),Cj s fd ⟨[v],[]⟩ [("_law_script",v)])/\∀ base:Heap,K.In base->base.Ns fK mg->cg Eh.prog w K mg base CX0 9 fa fd ["_law_script"] (ag0 K)
theorem all_mk:afl RR:=by
 intro w K h mg fa dU jm jr iB qJ cG jy jt jz tX f'0 f'1 f'2 f'3 f'4 f'5 f'6 f'7 f'8 f'9 W8 W9 Xa Xb QX Xc Xd Xe Xf Xg Xh QZ Xi Xj Xk Xl Xm Q5 Xn Xo Xp Xq Xr Xu Xv Xw Q6 Xx Xy Xz XC XD XF XH XJ XM XQ XR XS Q7 X3 X4 X5 X6 X7 X8 Yb Yc Yd Ye Yg Yh Yi Yj Yk Yl Ym Yn Yo Yp abB X G hfa aal vN z9 aam sH wQ aan m9 qO aao ni qP aap pR tY aaq nj qQ aar aas aat aau pH iH jA gB gC gD eY eZ fj fB fC fH oR oU oW oX oY oZ o8 o9 pq jU jV jW jX jY jZ j6 j7 j8 j9 kj kE kI kJ kO kW kY kZ d9 dB dD dF cP cQ dG cR cT a'0 a'1 a'2 a'3 a'4 a'5 a'6 a'7 a'8 a'9 Q8 Yq Q9 Yr O1 Ra Rb Rf Rg Ys Yt O2 Yu Rh Ri Rj Rm O3 Yv Yw Ro Rp Rq Rr Rt Yx O4 Rv Rw Yy Yz YB YC YD YF Rx Ry Rz RB O5 YG YH YJ YK YL YM YQ RD RJ RK RL RM RN RP YS YT YW YX YZ Y0 J9 zk aav O6 sI lg KN Aa
 have e:=hfa.symm.trans (c7 X G J9.1)
 cases e
 obtain ⟨aa6,wD,Jo,Jp,xZ,TQ,TV,Jq,_⟩:=z9
 obtain ⟨aa7,Lh,wF,Er,_⟩:=wQ
 obtain ⟨TY,Li,Az,Jr,_⟩:=qO
 obtain ⟨Lj,Lk,Ln,zL,_⟩:=qP
 obtain ⟨Jt,wG,_⟩:=tY
 obtain ⟨Ds,Ju,Jv,uE,zM,rT,Dt,wH,Du,zN,_⟩:=qQ
 obtain ⟨amb,QW,z_len,amc,z_max,z_min,ajg,aag,ahF,z_sum,z_zip,_⟩:=zk
 have T:Tx K mg ⟨dU,jm,jr,iB,qJ,cG,jy,jt,jz,tX,f'0,fdOf a'0.2,f'1,fdOf a'1.2,f'2,fdOf a'2.2,f'3,fdOf a'3.2.2,f'4,fdOf a'4.2.2,f'5,fdOf a'5.2,f'6,fdOf a'6.2,f'7,fdOf a'7.2.2,f'8,fdOf a'8.2.2,f'9,fdOf a'9.2.2,W8,fdOf Q8.2.2,W9,fdOf Yq.2,Xa,fdOf Q9.2.2,Xb,fdOf Yr.2,QX,fdOf O1.2.2,Xc,fdOf Ra.2.2,Xd,fdOf Rb.2.2,Xe,fdOf Rf.2.2,Xf,fdOf Rg.2.2,Xg,fdOf Ys.2,Xh,fdOf Yt.2,QZ,fdOf O2.2.2,Xi,fdOf Yu.2,Xj,fdOf Rh.2.2,Xk,fdOf Ri.2.2,Xl,fdOf Rj.2.2,Xm,fdOf Rm.2.2,Q5,fdOf O3.2.2,Xn,fdOf Yv.2,Xo,fdOf Yw.2,Xp,fdOf Ro.2.2,Xq,fdOf Rp.2.2,Xr,fdOf Rq.2.2,Xu,fdOf Rr.2.2,Xv,fdOf Rt.2.2,Xw,fdOf Yx.2,Q6,fdOf O4.2.2,Xx,fdOf Rv.2.2,Xy,fdOf Rw.2.2,Xz,fdOf Yy.2,XC,fdOf Yz.2,XD,fdOf YB.2,XF,fdOf YC.2,XH,fdOf YD.2,XJ,fdOf YF.2,XM,fdOf Rx.2.2,XQ,fdOf Ry.2.2,XR,fdOf Rz.2.2,XS,fdOf RB.2.2,Q7,fdOf O5.2.2,X3,fdOf YG.2,X4,fdOf YH.2,X5,fdOf YJ.2,X6,fdOf YK.2,X7,fdOf YL.2,X8,fdOf YM.2,Yb,fdOf YQ.2,Yc,fdOf RD.2.2,Yd,fdOf RJ.2.2,Ye,fdOf RK.2.2,Yg,fdOf RL.2.2,Yh,fdOf RM.2.2,Yi,fdOf RN.2.2,Yj,fdOf RP.2.2,Yk,fdOf YS.2,Yl,fdOf YT.2,Ym,fdOf YW.2,Yn,fdOf YX.2,Yo,fdOf YZ.2,Yp,fdOf Y0.2,fa,fdOf J9.2⟩:=⟨vN.cl,
  c7 X G aal,
  vN.mk a'7,
  aa6,
  wD,
  Jo,
  Jp,
  xZ,
  TQ,
  TV,
  Jq,
  sH.cl,
  c7 X G aam,
  sH.mk O1,
  aa7,
  Lh,
  wF,
  Er,
  m9.cl,
  c7 X G aan,
  m9.mk O2,
  TY,
  Li,
  Az,
  Jr,
  ni.cl,
  c7 X G aao,
  ni.mk O3,
  Lj,
  Lk,
  Ln,
  zL,
  pR.cl,
  c7 X G aap,
  pR.mk O4,
  Jt,
  wG,
  nj.cl,
  c7 X G aaq,
  nj.mk O5,
  Ds,
  Ju,
  Jv,
  uE,
  zM,
  rT,
  Dt,
  wH,
  Du,
  zN,
  c7 X G aar,
  c7 X G aas,
  c7 X G aat,
  c7 X G aau,
  pH,
  iH,
  jA,
  ⟨gB,gC,gD⟩,
  ⟨eY,eZ,fj⟩,
  ⟨fB,fC,fH⟩,
  ⟨oR,oU,oW,o9,pq,oX,oY,o8,oZ⟩,
  ⟨jU,jV,jW,j7,j8,jX,jY,j6,jZ⟩,
  ⟨j9,kj,kE,kY,kZ,kI,kJ,kW,kO⟩,
  d9,
  dB,
  dD,
  dF,
  cP,
  cQ,
  dG,
  cR,
  cT,
  aN a'0.2,
  Bu (aN a'0.2) (by intros;rfl),
  c7 X G a'0.1,
  aN a'1.2,
  wO (aN a'1.2) (by intros;rfl),
  c7 X G a'1.1,
  aN a'2.2,
  jF (aN a'2.2) (by intros;rfl),
  c7 X G a'2.1,
  aN a'3.2.2,
  jF (aN a'3.2.2) (by intros;rfl),
  a'3.mt (aN a'3.2.2),
  aN a'4.2.2,
  jF (aN a'4.2.2) (by intros;rfl),
  a'4.mt (aN a'4.2.2),
  aN a'5.2,
  jF (aN a'5.2) (by intros;rfl),
  c7 X G a'5.1,
  aN a'6.2,
  jF (aN a'6.2) (by intros;rfl),
  c7 X G a'6.1,
  aN a'7.2.2,
  jF (aN a'7.2.2) (by intros;rfl),
  a'7.mt (aN a'7.2.2),
  aN a'8.2.2,
  Bu (aN a'8.2.2) (by intros;rfl),
  a'8.mt (aN a'8.2.2),
  aN a'9.2.2,
  jF (aN a'9.2.2) (by intros;rfl),
  a'9.mt (aN a'9.2.2),
  aN Q8.2.2,
  jF (aN Q8.2.2) (by intros;rfl),
  Q8.mt (aN Q8.2.2),
  aN Yq.2,
  jF (aN Yq.2) (by intros;rfl),
  c7 X G Yq.1,
  aN Q9.2.2,
  jF (aN Q9.2.2) (by intros;rfl),
  Q9.mt (aN Q9.2.2),
  aN Yr.2,
  jF (aN Yr.2) (by intros;rfl),
  c7 X G Yr.1,
  aN O1.2.2,
  Bu (aN O1.2.2) (by intros;rfl),
  O1.mt (aN O1.2.2),
  aN Ra.2.2,
  jF (aN Ra.2.2) (by intros;rfl),
  Ra.mt (aN Ra.2.2),
  aN Rb.2.2,
  jF (aN Rb.2.2) (by intros;rfl),
  Rb.mt (aN Rb.2.2),
  aN Rf.2.2,
  jF (aN Rf.2.2) (by intros;rfl),
  Rf.mt (aN Rf.2.2),
  aN Rg.2.2,
  jF (aN Rg.2.2) (by intros;rfl),
  Rg.mt (aN Rg.2.2),
  aN Ys.2,
  wO (aN Ys.2) (by intros;rfl),
  c7 X G Ys.1,
  aN Yt.2,
  wO (aN Yt.2) (by intros;rfl),
  c7 X G Yt.1,
  aN O2.2.2,
  jF (aN O2.2.2) (by intros;rfl),
  O2.mt (aN O2.2.2),
  aN Yu.2,
  jF (aN Yu.2) (by intros;rfl),
  c7 X G Yu.1,
  aN Rh.2.2,
  jF (aN Rh.2.2) (by intros;rfl),
  Rh.mt (aN Rh.2.2),
  aN Ri.2.2,
  jF (aN Ri.2.2) (by intros;rfl),
  Ri.mt (aN Ri.2.2),
  aN Rj.2.2,
  wO (aN Rj.2.2) (by intros;rfl),
  Rj.mt (aN Rj.2.2),
  aN Rm.2.2,
  wO (aN Rm.2.2) (by intros;rfl),
  Rm.mt (aN Rm.2.2),
  aN O3.2.2,
  jF (aN O3.2.2) (by intros;rfl),
  O3.mt (aN O3.2.2),
  aN Yv.2,
  jF (aN Yv.2) (by intros;rfl),
  c7 X G Yv.1,
  aN Yw.2,
  jF (aN Yw.2) (by intros;rfl),
  c7 X G Yw.1,
  aN Ro.2.2,
  jF (aN Ro.2.2) (by intros;rfl),
  Ro.mt (aN Ro.2.2),
  aN Rp.2.2,
  Bu (aN Rp.2.2) (by intros;rfl),
  Rp.mt (aN Rp.2.2),
  aN Rq.2.2,
  jF (aN Rq.2.2) (by intros;rfl),
  Rq.mt (aN Rq.2.2),
  aN Rr.2.2,
  jF (aN Rr.2.2) (by intros;rfl),
  Rr.mt (aN Rr.2.2),
  aN Rt.2.2,
  Bu (aN Rt.2.2) (by intros;rfl),
  Rt.mt (aN Rt.2.2),
  aN Yx.2,
  Bu (aN Yx.2) (by intros;rfl),
  c7 X G Yx.1,
  aN O4.2.2,
  jF (aN O4.2.2) (by intros;rfl),
  O4.mt (aN O4.2.2),
  aN Rv.2.2,
  Bu (aN Rv.2.2) (by intros;rfl),
  Rv.mt (aN Rv.2.2),
  aN Rw.2.2,
  Bu (aN Rw.2.2) (by intros;rfl),
  Rw.mt (aN Rw.2.2),
  aN Yy.2,
  wO (aN Yy.2) (by intros;rfl),
  c7 X G Yy.1,
  aN Yz.2,
  wO (aN Yz.2) (by intros;rfl),
  c7 X G Yz.1,
  aN YB.2,
  wO (aN YB.2) (by intros;rfl),
  c7 X G YB.1,
  aN YC.2,
  jF (aN YC.2) (by intros;rfl),
  c7 X G YC.1,
  aN YD.2,
  wO (aN YD.2) (by intros;rfl),
  c7 X G YD.1,
  aN YF.2,
  Bu (aN YF.2) (by intros;rfl),
  c7 X G YF.1,
  aN Rx.2.2,
  wO (aN Rx.2.2) (by intros;rfl),
  Rx.mt (aN Rx.2.2),
  aN Ry.2.2,
  Bu (aN Ry.2.2) (by intros;rfl),
  Ry.mt (aN Ry.2.2),
  aN Rz.2.2,
  Bu (aN Rz.2.2) (by intros;rfl),
  Rz.mt (aN Rz.2.2),
  aN RB.2.2,
  jF (aN RB.2.2) (by intros;rfl),
  RB.mt (aN RB.2.2),
  aN O5.2.2,
  bOf4 (aN O5.2.2) (by intros;rfl),
  O5.mt (aN O5.2.2),
  aN YG.2,
  Bu (aN YG.2) (by intros;rfl),
  c7 X G YG.1,
  aN YH.2,
  bOf0 (aN YH.2) (by intros;rfl),
  c7 X G YH.1,
  aN YJ.2,
  wO (aN YJ.2) (by intros;rfl),
  c7 X G YJ.1,
  aN YK.2,
  wO (aN YK.2) (by intros;rfl),
  c7 X G YK.1,
  aN YL.2,
  wO (aN YL.2) (by intros;rfl),
  c7 X G YL.1,
  aN YM.2,
  wO (aN YM.2) (by intros;rfl),
  c7 X G YM.1,
  aN YQ.2,
  jF (aN YQ.2) (by intros;rfl),
  c7 X G YQ.1,
  aN RD.2.2,
  jF (aN RD.2.2) (by intros;rfl),
  RD.mt (aN RD.2.2),
  aN RJ.2.2,
  jF (aN RJ.2.2) (by intros;rfl),
  RJ.mt (aN RJ.2.2),
  aN RK.2.2,
  Bu (aN RK.2.2) (by intros;rfl),
  RK.mt (aN RK.2.2),
  aN RL.2.2,
  jF (aN RL.2.2) (by intros;rfl),
  RL.mt (aN RL.2.2),
  aN RM.2.2,
  jF (aN RM.2.2) (by intros;rfl),
  RM.mt (aN RM.2.2),
  aN RN.2.2,
  wO (aN RN.2.2) (by intros;rfl),
  RN.mt (aN RN.2.2),
  aN RP.2.2,
  wO (aN RP.2.2) (by intros;rfl),
  RP.mt (aN RP.2.2),
  aN YS.2,
  bOf4 (aN YS.2) (by intros;rfl),
  c7 X G YS.1,
  aN YT.2,
  bOf4 (aN YT.2) (by intros;rfl),
  c7 X G YT.1,
  aN YW.2,
  bOf5 (aN YW.2) (by intros;rfl),
  c7 X G YW.1,
  aN YX.2,
  bOf4 (aN YX.2) (by intros;rfl),
  c7 X G YX.1,
  aN YZ.2,
  Bu (aN YZ.2) (by intros;rfl),
  c7 X G YZ.1,
  aN Y0.2,
  jF (aN Y0.2) (by intros;rfl),
  c7 X G Y0.1,
  aN J9.2,
  wO (aN J9.2) (by intros;rfl),
  c7 X G J9.1,
  vo X G amb,
  vo X G QW,
  vo X G z_len,
  vo X G amc,
  vo X G z_max,
  vo X G z_min,
  vo X G ajg,
  vo X G aag,
  vo X G ahF,
  vo X G z_sum,
  vo X G z_zip,
  ⟨_,c7 X G O6,_,rfl⟩,
  ⟨_,c7 X G lg,_,rfl⟩,
  ⟨_,c7 X G Aa,_,rfl⟩,
  Sv _ _ (by decide),
  Sv _ _ (by decide),
  afX (by decide) tb_g% tb_g%,
  afX (by decide) tb_g% tb_g%⟩
 refine ⟨fdOf J9.2,fun s v=>?_,fun base _ _=>ok'70 T⟩
 obtain ⟨_,_,_,_,_,_,_,_,_,e,_⟩:=(aN J9.2).ex
 rw [e];exact .of_eq rfl
theorem walk {q:aV} {loose:List Str} {XP:(Str->Option Value)->Heap->Prop} {YP:World->Heap->Prop} {d:Nr} {K:Ck->aW} (hn:Eh.most=some 63) (hdf:d.params.defaults=[]) (hY:∀ (w:World) (h:Heap),YP w h->(K w.params).In h) (F:∀ (w:World) (mg:Str->Option Value) (fa:Addr) (h:Heap),(K w.params).In h->h.Ns fK mg->mg d.name=some (.ref fa)->RR w (K w.params) mg fa):Vj q loose XP YP Eh.row.toRowW d [] (fun f vs=>Ng f vs) :=
 L2.ahV (n:=63) (k:=9) (x := "_law_script") (CX:=fun _=>CX0) (sp:=fun w=>ag0 (K w.params)) hn (by decide) hdf ⟨rfl,by decide,by decide⟩ hY F (fun _ _ a ns hl _ hS=>⟨a,ns,rfl,hS,hl,fun _=>rfl⟩) fun _ _ _ _ _ z=>z
end My
theorem PySem.Challenge.cw_sketchbounds_k29_questions_of_a_keepsake_holds : PySem.Challenge.rw_sketchbounds_k29_questions_of_a_keepsake.Holds := by
  exact My.head My.RR My.all_mk My.walk

