import PyProof.Rows.All
import Wide.All
import OpenK.AllK
import Wide.FinOn
import Lean
import PyProof.EqAt
import PyProof.EqKinds
import PyProof.TupleCall
import PyProof.NeKinds
import PyProof.Rows.SumAny
import PyProof.Rows.Range3
import PyProof.AutoIntG2
import KE.KRevIter
import KE.KSortTup
import PyProof.Rows.StrWeight2
import PyProof.StrCalls
import PyProof.Rows.RuleN_abs
import PyProof.JoinWalk
import PyProof.Rows.StrDigits
import PyProof.StrBlock
import PyProof.StrBlockL
import PySem.Challenge.RW_sketchbounds_k30_written
set_option linter.defProp false
open List renaming length_map->aZ,mem_cons_of_mem->eU,length_append->dR,mem_cons_self->eF,getElem?_eq_some_iff->gZ,size_toArray->cO,length_cons->cX,mem_cons->cC,map_append->cW,getElem?_eq_getElem->gw,mem_singleton->fP,pairwise_cons->gA,map_cons->dZ,mem_append->gB,length_take->iw,append_assoc->iU,length_set->ji,getElem?_map->kW,sum_cons->iK,mem_or_eq_of_mem_set->uI,take_add_one->lY,take_length->lZ,mem_append_right->rZ,map_map->iM,length_reverse->sy,nodup_cons->nO,filter_cons->pZ,cons_ne_nil->p8,not_mem_nil->qb,filter_append->sE,mem_map->kj,length_filter_le->xR,filter_cons_of_neg->zJ,filterMap_cons->xT,length->kE,length_eq_zero_iff->Dw,map_reverse->uJ,getElem?_append_right->JN,flatMap_cons->xU,getElem?_append_left->JQ,getElem?_set_ne->vJ,filter_cons_of_pos->zK,mem_filter->qD,map_congr_left->vK,flatMap_append->vL,filter_eq_nil_iff->zL,find?_cons->sX,mergeSort_perm->zM,pairwise_mergeSort->Fg,cons_append->vM,getElem?_set_self->Fi,any_cons->sY,pairwise_map->zN,exists_cons_of_ne_nil->M5,mem_of_mem_take->Fj,getElem?_eq_none_iff->M6,mem_reverse->zO,mem_map_of_mem->Fl,drop_of_length_le->M7,take_of_length_le->M8,lookup->sZ,length_filterMap_eq_countP->Xc,map_nil->vN,getElem?_reverse->M9,length_drop->Fo,mem_of_mem_drop->Nf,append_nil->Fp,sum_append->Ft,drop_set_of_lt->Ng,take_succ_cons->Nh,reverse_append->Ni,filterMap_map->Nj,replicate->Fv,nodup_nil->Fw,drop_eq_getElem_cons->Xd,range->vO,getLast?_cons_cons->Xe,take_nil->Fx,getElem?_cons_succ->Xf,map_drop->Fy,lookup_cons->Nk,getElem_mem->Nm,drop_length->Np,nil_append->Nq,of_mem_zip->Nr,getElem?_eq_none->Xg,foldl_cons->Nt,mem_append_left->Xh,mem_of_mem_tail->Xi,filter_eq_self->Xj,drop_succ_cons->Xk,take_set_of_le->Xl,mem_filterMap->Xm,nil_perm->Nu,take_sublist->Xn,reverse_cons->Xo,nodup_append->Xp,all_eq_true->Xq,length_tail->Xr,sum_reverse->Xu,mem_flatMap->Xv,length_nil->Xw,mem_range->Xx,drop_left->Xy,drop_zero->Xz,take_zero->XC,all_cons->XD,map_id'->XF,sum_nil->XH
open PySem.W renaming Frag->bh,findIn->jC,nsIn->kY,kia_one->qF,emptyDict->uK,openGood->uL,keepIn->sH,instObj->qG,plainGet->vP,fnOf->qH,hasDictIn->zP,plainOver->Fz,codeIn->zQ,kitOne->zR,makesIn->FJ,plainGet_of->Nv,isFn->zT,callWith_K->Nx,lookIn->FN,methodObj->Ny,cellsFrom_some->XJ,takerIn->Nz,kdu_collect->XM,specialIn->XQ,kitx_list->XR,kitx_dict->XS,handedIn->X3,kdl_dict->X4,kat_cons->X5,kat_yes->X6,kIn_of->aen,KdlSrc->X7,kat_no->X8,WalkO->Yb
open PySem renaming wpAny_bind->aP,Shared->aG,wpAny_pure->bH,FuncData->bJ,Program->bG,mainGlobals->fG,starEach->dM,Around->bQ,wpAny_holding->nP,wpAny_tryCatch->qI,wpAny_Call_Name_kw->xV,sliceBounds->kZ,wpAny_newObj_type->xW,boot_len->mQ,wpAny_mono->iG,plainId_quiet->mR,wpAny_seqItems->oK,mem_of_lookup->vQ,codeAny_builtin->qJ,wpAny_passesOwn->tu,compareOp->iV,wpAny_updateSeq->tD,argBest->gk,wpAny_letGo->oM,wpAny_ite_split->vR,sysModules->mU,wpAny_truthy_bool->zU,attributeBase->tE,wpAny_pyIter_revIter->FP,wpAny_call_entry->zV,codeAny->g8,tupleKind_room_in1->FQ,intItems->jN,foldedSetIterable->FT,relabel->iW,bootBuiltins->vU,binaryOp->mV,importedModules->FW,backTo->ig,wpAny_execs_nil->FZ,letOwnedTupleGo->Ga,call_reversed_list->NP,Builtin->lg,assignEach->vV,slot_list_getitem->NQ,wpAny_getItem_list_slice->Yc,wpAny_Call_method->NT,wpAny_comprehension_free->Yd,behindInMarks->Gb,keywordEach->zW,wpAny_newList->Gd,wpAny_eqBool_int->NZ,wpAny_Call_method_late->Ye,tupleKind->vX,codeAny_mono->Ge,Keyword->oN,wpAny_typeOf->Gg,wpAny_specialOf->N5,builtinLookup_eq_fast->Yg,NameKind->tG,codeAny_call_builtin->Yh,gives_joinTail->N6,sizeLine_eq->Gh,evalArgs_none->Yi,intItems_at->Gi,treeTable->zX,slicePick->zY,nums_intItems->N7,wpAny_assign_Name->Yj,wpAny_call->Gj,valueAt->tH,callerA->tK,wpAny_rule->Gk,Within->N8,assign->oO,seqIndex_neg->Oa,wpAny_execs_cons->Yk,backToKw->zZ,swapsWith->Gm,Result->qK,IsPart->qL,wpAny_field->Ob,getItem->vY,seqIndex_of->Oc,subscripted->Od,typeLookup_type->Yl,method_meetsIn->Ym,call->Oe,builtinsNs->Og,wpAny_Name->Oh,typeLookup->Oi,typeIs_str->Oj,checkCount->Ol,holding->z8,wpAny_standAt->Yn,intBits_le_64->Yo,BindsTo->z9,evalPart_none->Yp,call_list_seq->Yq,numAt_eq->Gn,ItemsOf->Aa,PassesOwn->Om,getMethod->Oo,cellsFrom->Oq,call_meetsIn->Yr,DictEntry->Ot,argsOk->vZ,iter_intList->Ys,pyIter->Ab,IntMulOk->Ou,compEnvC->Ov,Params->Gp,isTrue->Gq
open PySem.Heap renaming get?_push_of_some->eZ,lt_size->bY,get?_push_size->fW,get?_update_other->nQ,get?_update_self->v8,size_push->Ac,SameBut->Ae,get?_update_ne->Yt,get?_push_ne->Yu
open PySem.Str renaming ofString->bM,ofString_eq_toList->Yv,empty->Ow
open Option.some renaming inj->bZ
open Nat renaming le_refl->aX,ne_of_lt->cZ,lt_of_lt_of_le->gC,zero_le->dN,le_trans->fH,mul_le_mul_right->xX,pow_succ->lq,le_of_lt->mj,lt_irrefl->qd,lt_or_ge->nR,lt_trans->lA,lt_succ_of_lt->tL,mul_assoc->oR,eq_zero_or_pos->v9,pow_le_pow_right->Af,lt_of_le_of_lt->Ag,zero_add->qM,le_succ->oU,strongRecOn->wg,ne_of_gt->tO,le_succ_of_le->Gs,lt_succ_self->Gv,mul_add->wu,le_of_eq->Gx,mul_comm->Gy,pow_zero->Gz,add_le_add->Ox,mul_le_mul_left->Yw,digitChar->Oz,succ_mul->OD,min_eq_left->Yx,log2_lt->OJ,mul_le_mul->Yy,repr->GC
open PySem.F renaming plainAttrs_list->fJ,slot_list_append->iQ,type_list_append->iR,slot_list_extend->Ah,type_list_extend->Ai,slot_str_join->xY,plainAttrs_str->Aj,type_str_join->wz,plain_min_loop->tQ,plain_max_loop->tR,plainAttrs_dict->O1,slot_dict_get->O2,slot_dict_itemiterator_iter->Yz,slot_dict_values->YB,args_dict_get_3->YC,slot_dict_items->YD,plain_list_iadd->YF,entry_min_loop->O3,entry_max_loop->O4,entry_dict_get->YG,args_list_extend_2->YH,entry_list_extend->YJ,slot_list_extend->YK
open Ne renaming symm->aL
open Bool renaming false_ne_true->gF,false_eq_true->GF,and_eq_true->GJ,eq_iff_iff->GP,or_eq_true->GQ,and_eq_true_iff->YL,and_false->YM,false_or->YQ
open Int renaming le_refl->cT,mul_le_mul_of_nonneg_right->xZ,mul_le_mul_of_nonneg_left->yc,emod_lt_of_pos->tU,pow_succ->lB,natCast_add->qN,mul_assoc->oW,emod_nonneg->tV,mul_add->mW,le_trans->qO,natAbs_mul->wA,add_mul->tW,natCast_mul->GR,natCast_pow->GZ,fdiv_eq_ediv_of_nonneg->YS,mul_neg_of_neg_of_pos->YT,one_mul->Ak,le_of_lt->Hf,mul_one->Hg,toNat_of_nonneg->YW,mul_right_comm->YX,mul_comm->O5,pow_pos->O6,pow_add->O7,le_antisymm->YZ,mul_le_mul->Y0,pow_nonneg->Y4,mul_nonneg->Y5,not_lt->O8,ne_of_gt->Y6,lt_or_le->Y7
open Array renaming length_toList->lC,getElem?_toList->Al,toList_append->Hh,toList_inj->Hi,perm_iff_toList_perm->Y8,size_append->O9,toArray_toList->Y9,size_replicate->Za,append_assoc->Zb,size_push->Zc,size_map->Zd,toList->Ze
open PySem.PassesOwn renaming never->jD
open PySem.Builtin.List renaming listExtendWith->Am,listTooLong->Pa,listItems->Pb,listLengthHint->Zf,listSameRef->Zg,listUpdate->aeo
open PyProof.Rows renaming wpS_bind->d8,boot_list->yd,callWith_type1->Dy,wpS_pure->fQ,boot_sorted->Ao,setArr->cU,seqObj->dh,slot_tuple_getitem->Pg,getElem?_mirror_all->Aq,boot_str->Hj,wpS_forRange->tX,pendingOf->mX,reverseSlice'_eq->Hl,wpS_modify->tY,SortSt->iu,pairsOf_size->Ar,IntsAre->mY,subscriptTail->Ho,reverseSlice'->Hq,listUpdate_at->Hr,subscriptTail_builtinR->Zh,entry_list_sort->Ph,wpS_mono->tZ,slot_list_sort->Pj,AllBare->qP,mirror_perm->Hs,pairsOf->qQ,Constant_none->Pk,failedOf->wB,boot_reversed->Pn,size_push'->Ht,sortedHeap->Hu,envOfC->oX,callWith_builtin1->aep,plain_sorted->Pq,entry_sorted->Pr,boot_isinstance->aer,kind_sorted->Pu,callWith_kw->Px,getElem?_bubble->Zi,wpS_get->wC,seqEpoch_at->Py,slicePart_none->Zj,sortedHeap_old->Zk,args_list_sort->Zm,pairsOf_toList->Zn,Subscript_->Pz,mirror->uc,Constant_bool->Zo,sortedHeap_at->Zq,sortedAll_old->Zr,boot_dict->aes,floordiv_int->Zt,args_sorted1->Zu,sortedAll_at->Zv,mem_zip_self->Zw,boot_abs->aeu,boot_sum->aev,lt_int->aew,kws_cons->PB,wpS_lift->PJ
open PySem.Challenge renaming rw_sketchbounds_k30_written->Ub,pw_sketchbounds_k30_written->aex
open PySem.Txt renaming join->eV,zfill->Hv
open PySem.Around renaming under_plainId->yg,under->PK
open PySem.Calls renaming spliced_cons->yh,spliced_nil->ud,callWith_builtin->PL,evalArgs_plain->PN,Name_function_global->Zx,call_function_entry->Zy
open PySem.Obj renaming mapSeq->jE
open False renaming elim->iH
open PySem.Builtin.Int renaming intBits->wD,intTooBig->Zz
open PySem.Builtin.Slice renaming slicePlaces->Hw,sliceAdjust->PX,sliceApplied->ZC,slicePartIndex->aey,sliceFields->aez
open PySem.Builtin.Tuple renaming tupleExact->Hx,tupleItemsOf->aeA
open Prod renaming ext->jj
open Option renaming map_eq_some_iff->Qa,isSome_iff_exists->ZD,bind_eq_some_iff->ZF,isSome_map->ZG,mem_toList->ZJ,getD_none->ZL,map_some->ZM
open PySem.Builtin.Str renaming glued->Hy,padded->aeB
open PySem.Builtin.Builtins renaming bindParams->ZP
open List.Perm renaming cons_inv->Qc,append_left->aeC,refl->aeD
open PySem.SeqAt.EqAt renaming same->Qd,int_str->ZQ,str_int->ZR,of_refs->ZS,none_bool->aeE,bool_none->aeF,bool_bool->aeG,none_int->aeH,none_str->aeI,bool_int->aeJ,bool_str->aeK,int_none->aeL,int_bool->aeM,str_none->aeN,str_bool->aeO,int_int->aeP,str_str->aeQ
open Array.Perm renaming refl->Qe
open PySem.SeqAt renaming EqAt->Av
open PySem.Paired renaming length->Qf,snoc->ZV
open PySem.Heap.IsSliceOf renaming new->ZW
open List.Nodup renaming sublist->ZX
open PySem.AutoSeq1 renaming list_extend_list_list_0->aeR
open PySem.Walks renaming list->Hz
open PySem.SeqAt.RcAt renaming tuples->Z0,lists->Z1
open PySem.Code renaming isFrame->Qg,frames->Z2
open List.Sublist renaming map->Z4
open Eq renaming trans->Aw
open PySem.EqNone renaming eq_none_none->aeS,eq_none_bool->aeT,eq_bool_none->aeU,ne_none_none->aeV,ne_none_bool->aeW,ne_bool_none->aeX,eq_none_int->aeY,eq_none_str->aeZ,eq_int_none->ae0,eq_str_none->ae1,ne_none_int->ae2,ne_none_str->ae3,ne_int_none->ae4,ne_str_none->ae5
open PySem.EqMixed renaming eq_bool_str->ae6,eq_str_bool->ae7,ne_bool_str->ae8,ne_str_bool->ae9,eq_int_str->afa,eq_str_int->afb,ne_int_str->afc,ne_str_int->afd
open PySem.Bind renaming checkArgs->Z5
open List.Pairwise renaming imp_of_mem->afe
open PySem.Value renaming isStrOf->Z6,isInt->Z7
open PySem.Builtin.Range renaming rangeSize->afg
open Classical renaming choose_spec->afh,choose->afi
open PySem.W.KatTups renaming cons->afj,nil->afk
open Sum.inl renaming inj->Z8
open PySem.W.Looks renaming here->afl
open PySem.Within renaming cons->afm
open PySem.Heap.Ns1 renaming of_empty->afn
open PyProof.Rows.SortSt renaming mk'->Z9
open Char renaming toNat->aac
open PySem.DictEntry renaming refKey->afo
open PySem.IsL renaming update->afp
open PySem.Heap.DictOf renaming new->afq
open PySem.SC renaming zfill->afr
open Nat.succ renaming inj->afs
set_option maxRecDepth 100000
namespace L2
open PySem
def inClass (s:Stmt) (j:Nat):Stmt:=match s with
 | .ClassDef _ _ _ body _ _ _ _ _ _ _=>body.getD j (.Pass ⟨0,0,0,0⟩)
 | _=>.Pass ⟨0,0,0,0⟩
def rJ (s:Stmt):Arguments:=match s with
 | .FunctionDef _ a _ _ _ _ _ _ _ _=>a
 | _=>{ posonlyargs:=[],args:=[],vararg:=none,kwonlyargs:=[],kw_defaults:=[],kwarg:=none,defaults:=[] }
def oY (s:Stmt):List Stmt:=match s with
 | .FunctionDef _ _ b _ _ _ _ _ _ _=>b
 | _=>[]
def aK (s:Stmt):Scope:=match s with
 | .FunctionDef _ _ _ _ _ _ sc _ _ _=>sc
 | _=>{ kind:=.function,names:=[],isGenerator:=false,isCoroutine:=false }
end L2
namespace My
open PySem PySem.W PyProof.Rows
def za (tb:String->Option lg) (p:bG) (w:World) (n₀:Nat) (ann:Option Value):Nat->SharedT->Thread->Option SharedT
 | 0,_,_=>none
 | n+1,s,t=>match through t with
  | true=>some s
  | false=>match stepOk n₀ ann t with
   | false=>none
   | true=>match stepT (denote tb) p w s t with
    | some (s',t')=>za tb p w n₀ ann n s' t'
    | none=>none
def Ax {tb:String->Option lg} {p:bG} {w:World} {n₀:Nat} {ann:Option Value}:∀ {n:Nat} {s s':SharedT} {t:Thread},za tb p w n₀ ann n s t=some s'->topRun tb p w n₀ ann n s.abs t=some s'.abs
 | 0,_,_,_,h=>by cases h
 | n+1,s,s',t,h=>by
  unfold za at h
  unfold topRun
  cases ht:through t with
  | true =>
   rw [ht] at h
   obtain rfl:=bZ h
   rfl
  | false =>
   rw [ht] at h
   dsimp only at h ⊢
   cases hs:stepOk n₀ ann t with
   | false=>rw [hs] at h;cases h
   | true =>
    rw [hs] at h
    dsimp only at h ⊢
    cases hq:stepT (denote tb) p w s t with
    | none=>rw [hq] at h;cases h
    | some x =>
     obtain ⟨s2,t2⟩:=x
     rw [hq] at h
     rw [stepT_spec hq]
     exact Ax h
def treeOf:List Obj->Nat->BT->Option BT
 | [],_,t=>some t
 | o::r,n,t=>match ((t.ins n o).get n).isSome with
  | true=>treeOf r (n+1) (t.ins n o)
  | false=>none
def Dz {life:Life}:∀ {l:List Obj} {n:Nat} {t t':BT},treeOf l n t=some t'->absHeap t' (n+l.length) life=⟨((t.list n)++l).toArray,life⟩
 | [],n,t,t',h=>by
  obtain rfl:=bZ h
  rw [Fp];rfl
 | o::r,n,t,t',h=>by
  unfold treeOf at h
  cases g:((t.ins n o).get n).isSome with
  | false=>rw [g] at h;cases h
  | true =>
   rw [g] at h
   have e:=Dz (life:=life) h
   rw [show n+(o::r).length=n+1+r.length by rw [cX];omega,e]
   have e2:=absHeap_ins (life:=life) g
   have e3:(t.ins n o).list (n+1)=t.list n++[o]:=by
    have:=congrArg (fun h:Heap=>h.objs.toList) e2
    simpa [absHeap,Heap.push] using this
   rw [e3,iU];rfl
def aad (h:Heap):Option BT:=treeOf h.objs.toList 0 .nil
def Vz {h:Heap} {T:BT} (e:aad h=some T):absHeap T h.objs.size h.life=h:=by
 have:=Dz (life:=h.life) e
 rw [qM,lC] at this
 rw [this]
 show Heap.mk (([]++h.objs.toList).toArray) h.life=h
 rw [Nq]
/-- the opening and the top -/
def runT (p:bG) (w:World) (N:Nat):Option (aG × SharedT):=(fencedOpening zX p w N).bind fun s₀ =>
 match s₀.heap.isNs fG && s₀.gens.size == 0 with
 | true=>(aad s₀.heap).bind fun T=>(za zX p w s₀.heap.objs.size (s₀.heap.nsMap fG "__annotations__") N ⟨T,s₀.heap.objs.size,s₀.heap.life,s₀.gens,s₀.drawn,s₀.toks,s₀.os⟩ (topStub p)).map fun s₁=>(s₀,s₁)
 | false=>none
def okT (p:bG) (x:aG × SharedT):Bool:=staticsOk (FW p.main.body) x.1.heap x.2.abs.heap && namesBound p x.2.abs.heap && gensDone x.2.abs && laidKept x.1.heap x.2.abs.heap
/-- what is told of it,look by look -/
abbrev nT (p q:bG) (Xt:aG->Bool) (x:aG × SharedT):=openSeen q [] (FW p.main.body) Xt true x.2.abs
def ab8 {p:bG} {w:World} {N:Nat} {x:aG × SharedT} (h:runT p w N=some x) (ok:okT p x=true):openEnds zX p w N=some x.2.abs:=by
 unfold runT at h
 obtain ⟨s₀,e0,e1⟩:=ZF.mp h
 unfold openEnds
 rw [e0]
 show topFrom zX p w N s₀=_
 unfold topFrom
 cases g:(s₀.heap.isNs fG && s₀.gens.size == 0) with
 | false=>rw [g] at e1;cases e1
 | true =>
  rw [g] at e1
  dsimp only at e1 ⊢
  obtain ⟨T,eT,e2⟩:=ZF.mp e1
  obtain ⟨s₁,e3,e4⟩:=Qa.mp e2
  subst e4
  have r:=Ax e3
  have ab:(SharedT.mk T s₀.heap.objs.size s₀.heap.life s₀.gens s₀.drawn s₀.toks s₀.os).abs=s₀:=by
   show Shared.mk (absHeap T s₀.heap.objs.size s₀.heap.life) _ _ _ _=s₀
   rw [Vz eT]
  rw [ab] at r
  rw [r]
  show (match staticsOk (FW p.main.body) s₀.heap s₁.abs.heap && namesBound p s₁.abs.heap && gensDone s₁.abs && laidKept s₀.heap s₁.abs.heap with
   | true=>some s₁.abs
   | false=>none)=_
  have ok':(staticsOk (FW p.main.body) s₀.heap s₁.abs.heap && namesBound p s₁.abs.heap && gensDone s₁.abs && laidKept s₀.heap s₁.abs.heap)=true:=ok
  rw [ok']
/-- one look -/
def Look (p:bG) (N:Nat) {β:Type} (f:aG × SharedT->β) (b:World->β):Prop:=∀ w:World,(runT p w N).map f=some (b w)
def Look.at {p:bG} {N:Nat} {β:Type} {f:aG × SharedT->β} {b:World->β} (h:Look p N f b) {w:World} {x:aG × SharedT} (e:runT p w N=some x):f x=b w:=by
 have:=h w
 rw [e] at this
 exact bZ this
def ab9 {p q:bG} {Xt:aG->Bool} {α:Type} {Yf:aG->α} {Ya:World->α} {N:Nat}
  (h0:Look p N (okT p) fun _=>true)
  (h1:Look p N (fun x=>(nT p q Xt x).1) fun _=>(openGood q []).1)
  (h2:Look p N (fun x=>(nT p q Xt x).2.1) fun _=>(openGood q []).2.1)
  (h3:Look p N (fun x=>(nT p q Xt x).2.2.1) fun _=>(openGood q []).2.2.1)
  (h4:Look p N (fun x=>(nT p q Xt x).2.2.2.1) fun _=>(openGood q []).2.2.2.1)
  (h5:Look p N (fun x=>(nT p q Xt x).2.2.2.2.1) fun _=>(openGood q []).2.2.2.2.1)
  (h6:Look p N (fun x=>(nT p q Xt x).2.2.2.2.2.1) fun _=>(openGood q []).2.2.2.2.2.1)
  (h7:Look p N (fun x=>(nT p q Xt x).2.2.2.2.2.2.1) fun _=>(openGood q []).2.2.2.2.2.2.1)
  (h8:Look p N (fun x=>(nT p q Xt x).2.2.2.2.2.2.2.1) fun _=>(openGood q []).2.2.2.2.2.2.2.1)
  (h9:Look p N (fun x=>(nT p q Xt x).2.2.2.2.2.2.2.2) fun _=>(openGood q []).2.2.2.2.2.2.2.2)
  (hY:Look p N (fun x=>Yf x.2.abs) Ya):LeftO p q [] Xt Yf Ya N:=fun w=>by
 obtain ⟨x,e,_⟩:=Qa.mp (h0 w)
 show (openEnds zX p w N).map _=_
 rw [ab8 e (h0.at e)]
 show some (nT p q Xt x,Yf x.2.abs)=some (openGood q [],Ya w)
 have a:=hY.at e
 have b:nT p q Xt x=openGood q []:=jj (h1.at e) (jj (h2.at e) (jj (h3.at e) (jj (h4.at e) (jj (h5.at e) (jj (h6.at e) (jj (h7.at e) (jj (h8.at e) (h9.at e))))))))
 rw [b]
 exact congrArg some (jj rfl a)
end My
namespace My
open PySem L2
def top (i:Nat):Stmt:=aex.main.body.getD i (.Pass ⟨0,0,0,0⟩)
abbrev s'0:Stmt:=top 30
abbrev s'1:Stmt:=top 31
abbrev s'2:Stmt:=top 32
abbrev s'3:Stmt:=inClass (top 27) 3
abbrev s'4:Stmt:=inClass (top 27) 2
abbrev s'5:Stmt:=top 28
abbrev s'6:Stmt:=top 29
abbrev s'7:Stmt:=inClass (top 27) 0
abbrev s'8:Stmt:=inClass (top 27) 1
abbrev s'9:Stmt:=top 35
abbrev s'10:Stmt:=inClass (top 34) 0
abbrev s'11:Stmt:=inClass (top 34) 3
abbrev s'12:Stmt:=inClass (top 34) 1
abbrev s'13:Stmt:=inClass (top 34) 2
abbrev s'14:Stmt:=top 17
abbrev s'15:Stmt:=top 18
abbrev s'16:Stmt:=inClass (top 20) 0
abbrev s'17:Stmt:=top 21
abbrev s'18:Stmt:=inClass (top 20) 2
abbrev s'19:Stmt:=inClass (top 20) 1
abbrev s'20:Stmt:=inClass (top 23) 0
abbrev s'21:Stmt:=top 24
abbrev s'22:Stmt:=top 25
abbrev s'23:Stmt:=inClass (top 23) 2
abbrev s'24:Stmt:=inClass (top 23) 1
abbrev s'25:Stmt:=top 12
abbrev s'26:Stmt:=inClass (top 11) 0
abbrev s'27:Stmt:=inClass (top 11) 1
abbrev s'28:Stmt:=inClass (top 11) 2
abbrev s'29:Stmt:=inClass (top 37) 1
abbrev s'30:Stmt:=inClass (top 37) 2
abbrev s'31:Stmt:=inClass (top 37) 3
abbrev s'32:Stmt:=inClass (top 37) 0
abbrev s'33:Stmt:=top 39
abbrev s'34:Stmt:=top 40
abbrev s'35:Stmt:=top 41
abbrev s'36:Stmt:=top 42
abbrev s'37:Stmt:=top 43
abbrev s'38:Stmt:=top 48
abbrev s'39:Stmt:=top 44
abbrev s'40:Stmt:=top 45
abbrev s'41:Stmt:=top 46
abbrev s'42:Stmt:=top 47
abbrev s'43:Stmt:=top 9
abbrev s'44:Stmt:=top 8
abbrev s'45:Stmt:=top 49
abbrev s'46:Stmt:=top 7
abbrev s'47:Stmt:=top 6
abbrev s'48:Stmt:=top 5
abbrev s'49:Stmt:=top 4
abbrev s'50:Stmt:=top 50
abbrev s'51:Stmt:=top 51
abbrev s'52:Stmt:=top 52
abbrev s'53:Stmt:=top 53
abbrev s'54:Stmt:=top 54
def LK (K:bh) (n q:Str) (s:Stmt) (f:Addr):Prop:=∃ (oc:Value) (od an:Option Addr) (sl:Array (Option Value)) (kV dc pm cd ct:Value),K.lookup f=some ⟨oc,od,.func (qH n q (rJ s) (oY s) (aK s) .none kV dc pm an cd ct),sl⟩/\zQ K cd q=true/\sH K (.ref f)=true
def GK (K:bh) (n q:Str) (s:Stmt) (f:Addr):Prop:=kY K fG n=some (some (.ref f))/\LK K n q s f
def MeK (K:bh) (C:Addr) (n q:Str) (s:Stmt) (f:Addr):Prop:=jC K (.ref C) n=some (some (.ref f))/\zT K (.ref f)=true/\LK K n q s f
def CK (K:bh) (C:Addr):Prop:=vP K C Ow=true/\zP K C=true/\Fz K C=true/\jC K (.ref C) "__setattr__" = some (some (.builtin "object.__setattr__"))/\FJ K C=true/\sH K (.ref C)=true
def NK (K:bh) (C:Addr):List Str->Prop
 | []=>True
 | f::r=>jC K (.ref C) f=some none/\NK K C r
def ZK (K:bh):List Str->Prop
 | []=>True
 | n::r=>kY K fG n=some none/\ZK K r
def LK.of {K:bh} {n q:Str} {s:Stmt} {f:Addr} {oc:Value} {od an:Option Addr} {sl:Array (Option Value)} {kV dc pm cd ct:Value} (l:K.lookup f=some ⟨oc,od,.func (qH n q (rJ s) (oY s) (aK s) .none kV dc pm an cd ct),sl⟩) (c:zQ K cd q=true) (k:sH K (.ref f)=true):LK K n q s f:=⟨oc,od,an,sl,kV,dc,pm,cd,ct,l,c,k⟩
def GK.of {K:bh} {n q:Str} {s:Stmt} {f:Addr} (a:kY K fG n=some (some (.ref f))) (l:LK K n q s f):GK K n q s f:=⟨a,l⟩
def MeK.of {K:bh} {C:Addr} {n q:Str} {s:Stmt} {f:Addr} (a:jC K (.ref C) n=some (some (.ref f))) (i:zT K (.ref f)=true) (l:LK K n q s f):MeK K C n q s f:=⟨a,i,l⟩
def CK.of {K:bh} {C:Addr} (a:vP K C Ow=true) (b:zP K C=true) (c:Fz K C=true) (d:jC K (.ref C) "__setattr__" = some (some (.builtin "object.__setattr__"))) (e:FJ K C=true) (f:sH K (.ref C)=true):CK K C:=⟨a,b,c,d,e,f⟩
def NK.nil {K:bh} {C:Addr}:NK K C []:=trivial
def NK.cons {K:bh} {C:Addr} {f:Str} {r:List Str} (a:jC K (.ref C) f=some none) (b:NK K C r):NK K C (f::r):=⟨a,b⟩
def ZK.nil {K:bh}:ZK K []:=trivial
def ZK.cons {K:bh} {f:Str} {r:List Str} (a:kY K fG f=some none) (b:ZK K r):ZK K (f::r):=⟨a,b⟩
abbrev eG:PySem.W.OpenRow:=Ub.row
def view:PySem.Program:={ eG.prog with main:={ eG.prog.main with body:=[top 0,top 2,top 3,top 4,top 5,top 6,top 7,top 8,top 9,top 11,top 12,top 14,top 15,top 16,top 17,top 18,top 20,top 21,top 23,top 24,top 25,top 27,top 28,top 29,top 30,top 31,top 32,top 34,top 35,top 37,top 39,top 40,top 41,top 42,top 43,top 44,top 45,top 46,top 47,top 48,top 49,top 50,top 51,top 52,top 53,top 54] } }
abbrev sO:aG->Bool:=fun s=>PySem.W.xlAt view [] s && PySem.W.recOk eG.records s
set_option maxRecDepth 100000 in
set_option maxHeartbeats 0 in
def see0:Look eG.prog 20000 (okT eG.prog) (fun _=>true):=by intro w;kernel_rfl
set_option maxRecDepth 100000 in
set_option maxHeartbeats 0 in
def see1:Look eG.prog 20000 (fun x=>(nT eG.prog view sO x).1) (fun _=>(uL view []).1):=by intro w;kernel_rfl
set_option maxRecDepth 100000 in
set_option maxHeartbeats 0 in
def see2:Look eG.prog 20000 (fun x=>(nT eG.prog view sO x).2.1) (fun _=>(uL view []).2.1):=by intro w;kernel_rfl
set_option maxRecDepth 100000 in
set_option maxHeartbeats 0 in
def see3:Look eG.prog 20000 (fun x=>(nT eG.prog view sO x).2.2.1) (fun _=>(uL view []).2.2.1):=by intro w;kernel_rfl
set_option maxRecDepth 100000 in
set_option maxHeartbeats 0 in
def see4:Look eG.prog 20000 (fun x=>(nT eG.prog view sO x).2.2.2.1) (fun _=>(uL view []).2.2.2.1):=by intro w;kernel_rfl
set_option maxRecDepth 100000 in
set_option maxHeartbeats 0 in
def see5:Look eG.prog 20000 (fun x=>(nT eG.prog view sO x).2.2.2.2.1) (fun _=>(uL view []).2.2.2.2.1):=by intro w;kernel_rfl
set_option maxRecDepth 100000 in
set_option maxHeartbeats 0 in
def see6:Look eG.prog 20000 (fun x=>(nT eG.prog view sO x).2.2.2.2.2.1) (fun _=>(uL view []).2.2.2.2.2.1):=by intro w;kernel_rfl
set_option maxRecDepth 100000 in
set_option maxHeartbeats 0 in
def see7:Look eG.prog 20000 (fun x=>(nT eG.prog view sO x).2.2.2.2.2.2.1) (fun _=>(uL view []).2.2.2.2.2.2.1):=by intro w;kernel_rfl
set_option maxRecDepth 100000 in
set_option maxHeartbeats 0 in
def see8:Look eG.prog 20000 (fun x=>(nT eG.prog view sO x).2.2.2.2.2.2.2.1) (fun _=>(uL view []).2.2.2.2.2.2.2.1):=by intro w;kernel_rfl
set_option maxRecDepth 100000 in
set_option maxHeartbeats 0 in
def see9:Look eG.prog 20000 (fun x=>(nT eG.prog view sO x).2.2.2.2.2.2.2.2) (fun _=>(uL view []).2.2.2.2.2.2.2.2):=by intro w;kernel_rfl
def aae (R:World->bh->(Str->Option Value)->Addr->Prop):Prop:=∀ {w:World} {K:bh} {h:Heap} {mg:Str->Option Value} {fa dB gP iI iY nU cD f'0 f'1 f'2 f'3 f'4 f'5 f'6 f'7 f'8 f'9 JR Qh Qi Qj Qk Ql JT Qm Qn Qo JV Qp Qq Qs Qt Qu JW Qv Qw Qx Qy Qz JX QB QC QD QF QG QH QJ QK QL QM QS QT QV QW QX QZ Q0 Q5 Q6 Q7 Q8 VB:Addr} (X:K.In h) (G:h.Ns fG mg) (hfa:mg "law" = some (.ref fa))
  (Uc:kY K fG "Rungs" = some (some (.ref dB)))
  (qR:CK K dB)
  (uM:NK K dB ["room","total","over","under","turns","least","most","rungs"])
  (Ud:kY K fG "Window" = some (some (.ref gP)))
  (nW:CK K gP)
  (rK:NK K gP ["room","reach","clock","boxes"])
  (Ue:kY K fG "Distinct" = some (some (.ref iI)))
  (jF:CK K iI)
  (mq:NK K iI ["room","arrivals","level","kept"])
  (Ug:kY K fG "Frequent" = some (some (.ref iY)))
  (jG:CK K iY)
  (mC:NK K iY ["room","total","lost","counts"])
  (Uh:kY K fG "Balance" = some (some (.ref nU)))
  (lD:CK K nU)
  (oZ:NK K nU ["span","sums"])
  (Ui:kY K fG "Keepsake" = some (some (.ref cD)))
  (jH:CK K cD)
  (mD:NK K cD ["room","reach","span","came","went","up","down","window","seen","balance"])
  (a'0:GK K "with_thing" "with_thing" s'0 f'0)
  (a'1:GK K "left_behind" "left_behind" s'1 f'1)
  (a'2:GK K "risen" "risen" s'2 f'2)
  (a'3:MeK K dB "turn" "Rungs.turn" s'3 f'3)
  (a'4:MeK K dB "settle" "Rungs.settle" s'4 f'4)
  (a'5:GK K "lesser" "lesser" s'5 f'5)
  (a'6:GK K "greater" "greater" s'6 f'6)
  (a'7:MeK K dB "__init__" "Rungs.__init__" s'7 f'7)
  (a'8:MeK K dB "add" "Rungs.add" s'8 f'8)
  (a'9:GK K "joined" "joined" s'9 f'9)
  (HB:MeK K gP "__init__" "Window.__init__" s'10 JR)
  (JZ:MeK K gP "settle" "Window.settle" s'11 Qh)
  (J0:MeK K gP "add" "Window.add" s'12 Qi)
  (J5:MeK K gP "idle" "Window.idle" s'13 Qj)
  (Q9:GK K "spread" "spread" s'14 Qk)
  (Ra:GK K "mark" "mark" s'15 Ql)
  (HD:MeK K iI "__init__" "Distinct.__init__" s'16 JT)
  (Rb:GK K "of_marks" "of_marks" s'17 Qm)
  (J6:MeK K iI "settle" "Distinct.settle" s'18 Qn)
  (J7:MeK K iI "add" "Distinct.add" s'19 Qo)
  (HF:MeK K iY "__init__" "Frequent.__init__" s'20 JV)
  (Rf:GK K "cut_of" "cut_of" s'21 Qp)
  (Rg:GK K "lowered" "lowered" s'22 Qq)
  (J8:MeK K iY "fit" "Frequent.fit" s'23 Qs)
  (J9:MeK K iY "add" "Frequent.add" s'24 Qt)
  (Rh:GK K "with_row" "with_row" s'25 Qu)
  (HJ:MeK K nU "__init__" "Balance.__init__" s'26 JW)
  (Ka:MeK K nU "put" "Balance.put" s'27 Qv)
  (Kc:MeK K nU "take" "Balance.take" s'28 Qw)
  (Kd:MeK K cD "put" "Keepsake.put" s'29 Qx)
  (Ke:MeK K cD "take" "Keepsake.take" s'30 Qy)
  (Kf:MeK K cD "idle" "Keepsake.idle" s'31 Qz)
  (HN:MeK K cD "__init__" "Keepsake.__init__" s'32 JX)
  (Ri:GK K "_law_mix" "_law_mix" s'33 QB)
  (Rj:GK K "_law_far_back" "_law_far_back" s'34 QC)
  (Rm:GK K "_law_thing_by" "_law_thing_by" s'35 QD)
  (Ro:GK K "_law_weight_by" "_law_weight_by" s'36 QF)
  (Rp:GK K "_law_row_by" "_law_row_by" s'37 QG)
  (Rq:GK K "_law_shape_by" "_law_shape_by" s'38 QH)
  (Rr:GK K "_law_done" "_law_done" s'39 QJ)
  (Rt:GK K "_law_frequent" "_law_frequent" s'40 QK)
  (Rv:GK K "_law_rungs" "_law_rungs" s'41 QL)
  (Rw:GK K "_law_state" "_law_state" s'42 QM)
  (Rx:GK K "figures" "figures" s'43 QS)
  (Ry:GK K "row" "row" s'44 QT)
  (Rz:GK K "_law_line" "_law_line" s'45 QV)
  (RB:GK K "window_words" "window_words" s'46 QW)
  (RD:GK K "rungs_words" "rungs_words" s'47 QX)
  (RJ:GK K "frequent_words" "frequent_words" s'48 QZ)
  (RK:GK K "written" "written" s'49 Q0)
  (RL:GK K "_law_counts_line" "_law_counts_line" s'50 Q5)
  (RM:GK K "_law_rungs_line" "_law_rungs_line" s'51 Q6)
  (RN:GK K "_law_lines" "_law_lines" s'52 Q7)
  (RP:GK K "_law_right" "_law_right" s'53 Q8)
  (Dh:GK K "law" "law" s'54 VB)
  (zk:ZK K ["abs","dict","isinstance","len","list","max","min","range","reversed","sorted","str","sum"])
  {Uj:Tok}
  (HS:kY K fG "MOST" = some (some (.int 1152921504606846976 Uj)))
  {nY:Tok}
  (iB:kY K fG "MOST_HALVINGS" = some (some (.int 60 nY)))
  {Kg:Tok}
  (zc:kY K fG "PIECE" = some (some (.int 1000000000000000000000000000000 Kg)))
  {nZ:Tok}
  (iC:kY K fG "PIECE_FIGURES" = some (some (.int 30 nZ)))
  {DG:Tok}
  (uN:kY K fG "SPREAD" = some (some (.int 770093176312745717 DG))),
  R w K mg fa
end My
section
open PySem PySem.W PyProof.Rows L2
local macro_rules
  | `(tactic| o_head $H) => `(tactic|
    (refine holds_open (r := My.eG) (q := My.view) (loose := []) (N := 20000)
        (Xt := My.sO) (XP := XL My.view [])
        (Yf := Hook.obs $H) (Ya := Hook.val $H) (YP := Hook.says $H) ?hl (Hook.of $H) (Hook.keeps $H)
        (fun s e => xl_of s (YL.mp e).1) XL.keeps
        (by rfl) (by rfl) (by rfl)
        (fun s e => recFacts_of (YL.mp e).2) (by rfl)
        (by first | assumption | decide +kernel) (by decide +kernel)
        ⟨rfl, rfl, rfl, rfl, rfl, by decide +kernel⟩ ?hw ?hc;
     (case hl => exact My.ab9 My.see0 My.see1 My.see2 My.see3 My.see4 My.see5 My.see6 My.see7 My.see8 My.see9 (by intro w; kernel_rfl))))
local macro_rules
  | `(tactic| k_is) => `(tactic| first
    | (refine' My.LK.of ?lkl ?lkc ?lkk; (case lkl => k_is); (case lkc => k_is); (case lkk => k_is))
    | (refine' My.GK.of ?gka ?gkl; (case gka => k_is); (case gkl => k_is))
    | (refine' My.MeK.of ?mka ?mki ?mkl; (case mka => k_is); (case mki => k_is); (case mkl => k_is))
    | exact My.NK.nil
    | exact My.ZK.nil
    | (refine' My.NK.cons ?nka ?nkb; (case nka => k_is); (case nkb => k_is))
    | (refine' My.ZK.cons ?zka ?zkb; (case zka => k_is); (case zkb => k_is))
    | (refine' My.CK.of ?ck1 ?ck2 ?ck3 ?ck4 ?ck5 ?ck6; (case ck1 => k_is); (case ck2 => k_is); (case ck3 => k_is); (case ck4 => k_is); (case ck5 => k_is); (case ck6 => k_is))
    | fail)
open My in
set_option maxRecDepth 100000 in
set_option maxHeartbeats 0 in
def My.head (R:World->bh->(Str->Option Value)->Addr->Prop) (mk:My.aae R)
  (wk:∀ {q:bG} {loose:List Str} {XP:(Str->Option Value)->Heap->Prop} {YP:World->Heap->Prop} {d:DefRec} {K:Gp->bh},Ub.most=some 63->d.params.defaults=[]->(∀ (w:World) (h:Heap),YP w h->(K w.params).In h)->(∀ (w:World) (mg:Str->Option Value) (fa:Addr) (h:Heap),(K w.params).In h->h.Ns fG mg->mg d.name=some (.ref fa)->R w (K w.params) mg fa)->Yb q loose XP YP Ub.row.toRowW d [] (fun f vs=>Oe f vs)):Ub.Holds:=by
 w_on;o_law;k_head;(case hw=>w_witness2)
 k_fill
 refine wk rfl rfl (fun w h Y=>aen Y) ?F
 case F =>
  intro w mg fa h KX G hmg
  refine' mk KX G hmg ?Uc ?qR ?uM ?Ud ?nW ?rK ?Ue ?jF ?mq ?Ug ?jG ?mC ?Uh ?lD ?oZ ?Ui ?jH ?mD ?a'0 ?a'1 ?a'2 ?a'3 ?a'4 ?a'5 ?a'6 ?a'7 ?a'8 ?a'9 ?HB ?JZ ?J0 ?J5 ?Q9 ?Ra ?HD ?Rb ?J6 ?J7 ?HF ?Rf ?Rg ?J8 ?J9 ?Rh ?HJ ?Ka ?Kc ?Kd ?Ke ?Kf ?HN ?Ri ?Rj ?Rm ?Ro ?Rp ?Rq ?Rr ?Rt ?Rv ?Rw ?Rx ?Ry ?Rz ?RB ?RD ?RJ ?RK ?RL ?RM ?RN ?RP ?Dh ?zk ?HS ?iB ?zc ?iC ?uN
  (case Uc=>k_is)
  (case qR=>k_is)
  (case uM=>k_is)
  (case Ud=>k_is)
  (case nW=>k_is)
  (case rK=>k_is)
  (case Ue=>k_is)
  (case jF=>k_is)
  (case mq=>k_is)
  (case Ug=>k_is)
  (case jG=>k_is)
  (case mC=>k_is)
  (case Uh=>k_is)
  (case lD=>k_is)
  (case oZ=>k_is)
  (case Ui=>k_is)
  (case jH=>k_is)
  (case mD=>k_is)
  (case a'0=>k_is)
  (case a'1=>k_is)
  (case a'2=>k_is)
  (case a'3=>k_is)
  (case a'4=>k_is)
  (case a'5=>k_is)
  (case a'6=>k_is)
  (case a'7=>k_is)
  (case a'8=>k_is)
  (case a'9=>k_is)
  (case HB=>k_is)
  (case JZ=>k_is)
  (case J0=>k_is)
  (case J5=>k_is)
  (case Q9=>k_is)
  (case Ra=>k_is)
  (case HD=>k_is)
  (case Rb=>k_is)
  (case J6=>k_is)
  (case J7=>k_is)
  (case HF=>k_is)
  (case Rf=>k_is)
  (case Rg=>k_is)
  (case J8=>k_is)
  (case J9=>k_is)
  (case Rh=>k_is)
  (case HJ=>k_is)
  (case Ka=>k_is)
  (case Kc=>k_is)
  (case Kd=>k_is)
  (case Ke=>k_is)
  (case Kf=>k_is)
  (case HN=>k_is)
  (case Ri=>k_is)
  (case Rj=>k_is)
  (case Rm=>k_is)
  (case Ro=>k_is)
  (case Rp=>k_is)
  (case Rq=>k_is)
  (case Rr=>k_is)
  (case Rt=>k_is)
  (case Rv=>k_is)
  (case Rw=>k_is)
  (case Rx=>k_is)
  (case Ry=>k_is)
  (case Rz=>k_is)
  (case RB=>k_is)
  (case RD=>k_is)
  (case RJ=>k_is)
  (case RK=>k_is)
  (case RL=>k_is)
  (case RM=>k_is)
  (case RN=>k_is)
  (case RP=>k_is)
  (case Dh=>k_is)
  (case zk=>k_is)
  (case HS=>k_is)
  (case iB=>k_is)
  (case zc=>k_is)
  (case iC=>k_is)
  (case uN=>k_is)
end
set_option Elab.async false
set_option linter.all false
set_option maxRecDepth 100000
namespace L2
open PySem PySem.Spec PyProof.Rows
abbrev Key:=Sum Int Str
def Ay:Key->Value->Bool
 | .inl k,v=>Z7 k v
 | .inr x,v=>Z6 x v
def keyH (w:World):Key->Int
 | .inl k=>hashInt k
 | .inr x=>hashStr w x
def eO:∀ {k:Key} {v:Value},Ay k v=true->(∃ i t,k=Sum.inl i/\v=Value.int i t)\/(∃ x t,k=Sum.inr x/\v=Value.str x t)
 | .inl i,v,h=>by
  obtain ⟨t,e⟩:=Value.isInt_shape (k:=i) (v:=v) h
  exact .inl ⟨i,t,rfl,e⟩
 | .inr x,v,h=>by
  obtain ⟨t,e⟩:=Value.isStrOf_shape (x:=x) (v:=v) h
  exact .inr ⟨x,t,rfl,e⟩
def VD (i:Int) (t:Tok):Ay (.inl i) (.int i t)=true:=by simp [Ay,Z7]
def VF (x:Str) (t:Tok):Ay (.inr x) (.str x t)=true:=by simp [Ay,Z6]
def aft (a b:Int):decide ((Sum.inl a:Key)=Sum.inl b)=(a == b):=by
 by_cases e:a=b
 ·subst e;simp
 ·have h:¬ (Sum.inl a:Key)=Sum.inl b:=fun q=>e (Z8 q)
  rw [decide_eq_false h]
  exact (beq_eq_false_iff_ne.mpr e).symm
def afu (a b:Str):decide ((Sum.inr a:Key)=Sum.inr b)=decide (a=b):=by
 by_cases e:a=b
 ·subst e;simp
 ·have h:¬ (Sum.inr a:Key)=Sum.inr b:=fun q=>e (Sum.inr.inj q)
  rw [decide_eq_false h,decide_eq_false e]
def afv (a:Int) (b:Str):decide ((Sum.inl a:Key)=Sum.inr b)=false:=decide_eq_false (fun q=>nomatch q)
def afw (a:Str) (b:Int):decide ((Sum.inr a:Key)=Sum.inl b)=false:=decide_eq_false (fun q=>nomatch q)
def cR (prog:bG) (w:World):PySem.KeyKind prog w Key where
 is:=Ay
 hash:=keyH w
 inj:=fun v a b ha hb=>by
  rcases eO ha with ⟨i,t,rfl,rfl⟩ | ⟨x,t,rfl,rfl⟩
  ·rcases eO hb with ⟨j,u,rfl,e⟩ | ⟨y,u,rfl,e⟩
   ·injection e with e1 _;rw [e1]
   ·exact nomatch e
  ·rcases eO hb with ⟨j,u,rfl,e⟩ | ⟨y,u,rfl,e⟩
   ·exact nomatch e
   ·injection e with e1 _;rw [e1]
 byValue:=fun k v h=>by
  rcases eO h with ⟨i,t,rfl,rfl⟩ | ⟨x,t,rfl,rfl⟩ <;> rfl
 pyHash:=fun hv h=>by
  rcases eO hv with ⟨i,t,rfl,rfl⟩ | ⟨x,t,rfl,rfl⟩
  ·exact wpAny_pyHash_int h
  ·exact wpAny_pyHash_str h
 eqBool:=fun hu hv h=>by
  rcases eO hu with ⟨i,t,rfl,rfl⟩ | ⟨x,t,rfl,rfl⟩
  ·rcases eO hv with ⟨j,u,rfl,rfl⟩ | ⟨y,u,rfl,rfl⟩
   ·rw [aft] at h;exact NZ h
   ·rw [afv] at h;exact ZQ i t y u _ _ _ _ h
  ·rcases eO hv with ⟨j,u,rfl,rfl⟩ | ⟨y,u,rfl,rfl⟩
   ·rw [afw] at h;exact ZR x t j u _ _ _ _ h
   ·rw [afu] at h;exact wpAny_eqBool_str h
 «strs» := fun k x t v h=>by
  rcases eO h with ⟨i,u,rfl,e⟩ | ⟨y,u,rfl,e⟩
  ·exact nomatch e
  ·injection e with e1 _
   subst e1
   cases v <;> rfl
def Kl (prog:bG) (w:World) (i:Int) (t:Tok):(cR prog w).is (.inl i) (.int i t)=true:=VD i t
def Ko (prog:bG) (w:World) (x:Str) (t:Tok):(cR prog w).is (.inr x) (.str x t)=true:=VF x t
end L2
namespace L2
open PySem PySem.Spec PyProof.Rows
inductive V where
 | non | bl (b:Bool) | int (i:Int) | str (x:Str) | byt (b:Array UInt8) | flt (b:UInt64) | ref (a:Addr) | ty (n:String)
 deriving DecidableEq
def RelV:V->Value->Prop
 | .non,u=>u=Value.none
 | .bl b,u=>u=Value.bool b
 | .int i,u=>∃ t,u=Value.int i t
 | .str x,u=>∃ t,u=Value.str x t
 | .byt b,u=>∃ t,u=Value.bytes b t
 | .flt b,u=>∃ t,u=Value.float b t
 | .ref a,u=>u=Value.ref a
 | .ty n,u=>u=Value.type n
abbrev Vals:List V->List Value->Prop:=Paired RelV
def Vals.length {xs:List V} {us:List Value} (r:Vals xs us):xs.length=us.length:=Qf r
def Vals.get:∀ {xs:List V} {us:List Value} {i:Nat} {x:V},Vals xs us->xs[i]? = some x->∃ u,us[i]? = some u/\RelV x u
 | _,_,_,_,.nil,e=>by simp at e
 | _,_,0,_,.cons r _,e=>by simp at e;subst e;exact ⟨_,rfl,r⟩
 | _,_,i+1,x,.cons _ t,e=>by
  obtain ⟨u,h1,h2⟩:=Vals.get (i:=i) (x:=x) t (by simpa using e)
  exact ⟨u,by simpa using h1,h2⟩
def Vals.set {x:V} {u:Value} (r:RelV x u):∀ {xs:List V} {us:List Value} (i:Nat),Vals xs us->Vals (xs.set i x) (us.set i u)
 | _,_,_,.nil=>.nil
 | _,_,0,.cons _ t=>.cons r t
 | _,_,i+1,.cons q t=>.cons q (Vals.set r i t)
def Vals.append:∀ {xs ys:List V} {us ws:List Value},Vals xs us->Vals ys ws->Vals (xs++ys) (us++ws)
 | _,_,_,_,.nil,s=>s
 | _,_,_,_,.cons r t,s=>.cons r (Vals.append t s)
def Vals.take:∀ {xs:List V} {us:List Value} (n:Nat),Vals xs us->Vals (xs.take n) (us.take n)
 | _,_,0,_=>.nil
 | _,_,_+1,.nil=>.nil
 | _,_,n+1,.cons r t=>.cons r (Vals.take n t)
def Vals.drop:∀ {xs:List V} {us:List Value} (n:Nat),Vals xs us->Vals (xs.drop n) (us.drop n)
 | _,_,0,r=>r
 | _,_,_+1,.nil=>.nil
 | _,_,n+1,.cons _ t=>Vals.drop n t
def Vals.none_of:∀ {xs:List V} {us:List Value} {i:Nat},Vals xs us->xs[i]? = none->us[i]? = none:=fun {xs us i} r e=>by
 have h1:=r.length
 have h2:xs.length<=i:=M6.mp e
 exact M6.mpr (by omega)
def qx:Option V->Option Value->Prop
 | some v,some u=>RelV v u
 | none,none=>True
 | _,_=>False
def KV {κ:Type}:List (κ × V)->List (κ × Value)->Prop:=Paired fun (p:κ × V) (q:κ × Value)=>p.1=q.1/\RelV p.2 q.2
def kV:Key->V
 | .inl i=>.int i
 | .inr x=>.str x
inductive HO where
 /-- a list -/
 | lst (xs:List V)
 /-- a tuple (never changes) -/
 | tup (xs:List V)
 /-- a dict whose keys are ints and texts;one whose keys are tuples of ints and texts (the empty one is both) -/
 | dK (kvs:List (Key × V)) | dT (kvs:List (List Key × V))
 /-- a set of ints: its members,its size -/
 | set (S:Int->Bool) (n:Nat)
 /-- an instance of the class at C,its dict at dx,its attributes -/
 | ins (C dx:Addr) (fs:List (Str × V))
 /-- the dict of the instance at x -/
 | own (x:Addr)
 /-- the dict of an exception -/
 | xd (fs:List (Str × V))
 /-- a bound method,f of x -/
 | met (f x:Addr)
 /-- a range object lo,lo+1,.. below hi -/
 | rng (lo hi:Int)
 /-- a thing that is known to the object (the script;a dict while a loop walks it): read,never written while it is so -/
 | frz (o:Obj) (u:HO)
 /-- a code object's table -/
 | tbl (ps:Array Value)
 /-- any other thing,by what is true of its one object (a def of one's own: SetO a S n:=HO.ext fun h=>..) -/
 | ext (φ:Heap->Prop)
abbrev Hp:=Addr->Option HO
def upd (H:Hp) (a:Addr) (o:HO):Hp:=fun b=>if b=a then some o else H b
def ak {H:Hp} {a:Addr} {o:HO}:upd H a o a=some o:=by unfold upd;rw [if_pos rfl]
def aA {H:Hp} {a b:Addr} {o:HO} (h:b≠a):upd H a o b=H b:=by unfold upd;rw [if_neg h]
def cY {H:Hp} {a:Addr} {o u:HO}:upd (upd H a o) a u=upd H a u:=by
 funext b;unfold upd;split <;> rfl
def iZ {H:Hp} {a b:Addr} {o u:HO} (h:H a=some o) (h':H b=some u) (d:o≠u):a≠b:=by
 intro e;subst e;rw [h] at h';exact d (bZ h')
def ao {H:Hp} {a b:Addr} {o:HO} (h:H a=some o) (h':H b=none):a≠b:=by
 intro e;subst e;rw [h] at h';cases h'
section
variable (P:bG) (w:World)
def dw (H:Hp) (h:Heap) (a:Addr):HO->Prop
 | .lst xs=>xs.length<=sizeLine/\∃ (its:List Value) (n:Nat),Vals xs its/\h.get? a=some { cls:=.type "list",data:=.seq its.toArray n }
 | .tup xs=>xs.length<=sizeLine/\∃ its:List Value,Vals xs its/\IsTup h a its.toArray
 | .dK kvs=>kvs.length<=sizeLine/\(a == mU)=false/\∃ vs,KV kvs vs/\h.DictOf (cR P w) a vs
 | .dT kvs=>kvs.length<=sizeLine/\(a == mU)=false/\∃ xs:List (List Key × Addr × Value),
   Paired (fun (p:List Key × V) (q:List Key × Addr × Value)=>p.1=q.1/\H q.2.1=some (.tup (p.1.map kV))/\RelV p.2 q.2.2) kvs xs /\
   ∃ o es ep,h.get? a=some o/\o.ExactDict/\o.data = .dict es ep/\es.toList=xs.map (entryOfKey (vX (cR P w)))/\(xs.map (·.1)).Nodup
 | .set S n=>h.SetOf (intKind P w) a S n
 | .ins C dx fs=>H dx=some (.own a)/\fs.length<=1000/\dx≠a/\h.get? a=some (qG C dx) /\
   ∃ mA,h.Ns1 dx mA/\(∀ f,qx (fs.lookup f) (mA f))/\N8 mA (fs.map (·.1))
 | .own _=>∃ o,h.get? a=some o
 | .xd fs=>∃ mA,h.Ns1 a mA/\∀ f,qx (fs.lookup f) (mA f)
 | .rng lo hi=>∃ t u v,h.get? a=some { cls:=.type "range",data:=.fields #[.int lo t,.int hi u,.int 1 v] }
 | .frz o u=>h.get? a=some o/\dw H h a u
 | .tbl ps=>h.get? a=some { cls:=.none,data:=.fields ps }
 | .met f x=>h.get? a=some (Ny (.ref f) (.ref x))
 | .ext φ=>φ h/\(∃ o,h.get? a=some o)/\∀ h1 h2:Heap,φ h1->(∀ o,h1.get? a=some o->h2.get? a=some o)->φ h2
def HOk (H:Hp) (h:Heap):Prop:=∀ a o,H a=some o->dw P w H h a o
end
section
variable {P:bG} {w:World} {H H':Hp} {h h':Heap} {a:Addr} {o:HO}
def dw.lt (x:dw P w H h a o):a<h.objs.size:=by
 cases o with
 | lst xs=>obtain ⟨_,_,_,_,e⟩:=x;exact bY e
 | tup xs=>obtain ⟨_,_,_,p⟩:=x;exact p.lt
 | dK kvs=>obtain ⟨_,_,_,_,o,_,_,e,_⟩:=x;exact bY e
 | dT kvs=>obtain ⟨_,_,_,_,o,_,_,e,_⟩:=x;exact bY e
 | set S n=>obtain ⟨o,_,_,_,e,_⟩:=x;exact bY e
 | ins C dx fs=>obtain ⟨_,_,_,e,_⟩:=x;exact bY e
 | own y=>obtain ⟨_,e⟩:=x;exact bY e
 | xd fs=>obtain ⟨_,⟨_,_,_,e,_⟩,_⟩:=x;exact bY e
 | rng lo hi=>obtain ⟨_,_,_,e⟩:=x;exact bY e
 | frz ob u=>obtain ⟨e,_⟩:=x;exact bY e
 | tbl ps=>exact bY (show h.get? a=some _ from x)
 | met f y=>exact bY (show h.get? a=some _ from x)
 | ext φ=>obtain ⟨_,⟨_,e⟩,_⟩:=x;exact bY e
def Paired.mapP {α β:Type} {F G:α->β->Prop}:∀ {l₁:List α} {l₂:List β},Paired F l₁ l₂->(∀ a b,F a b->G a b)->Paired G l₁ l₂
 | _,_,.nil,_=>.nil
 | _,_,.cons r t,f=>.cons (f _ _ r) (Paired.mapP t f)
def dw.stay (x:dw P w H h a o) (k:∀ b u,(b=a\/H b=some (.own a))->h.get? b=some u->h'.get? b=some u)
  (ho:∀ b,H b=some (.own a)->H' b=some (.own a)) (ht:∀ b xs,H b=some (.tup xs)->H' b=some (.tup xs)):dw P w H' h' a o:=by
 induction o with
 | lst xs=>obtain ⟨z,its,n,r,e⟩:=x;exact ⟨z,its,n,r,k _ _ (.inl rfl) e⟩
 | tup xs=>obtain ⟨z,its,r,ob,e,c⟩:=x;exact ⟨z,its,r,ob,k _ _ (.inl rfl) e,c⟩
 | dK kvs=>obtain ⟨z,y,vs,r,ob,es,ep,e,c⟩:=x;exact ⟨z,y,vs,r,ob,es,ep,k _ _ (.inl rfl) e,c⟩
 | dT kvs =>
  obtain ⟨z,y,xs,r,ob,es,ep,e,c⟩:=x
  exact ⟨z,y,xs,Paired.mapP r fun p q z=>⟨z.1,ht _ _ z.2.1,z.2.2⟩,ob,es,ep,k _ _ (.inl rfl) e,c⟩
 | set S n=>obtain ⟨ob,es,ep,t,e,c⟩:=x;exact ⟨ob,es,ep,t,k _ _ (.inl rfl) e,c⟩
 | ins C dx fs =>
  obtain ⟨d,z,ne,e,mA,⟨od,es,ep,e2,c⟩,r⟩:=x
  exact ⟨ho _ d,z,ne,k _ _ (.inl rfl) e,mA,⟨od,es,ep,k _ _ (.inr d) e2,c⟩,r⟩
 | own y=>obtain ⟨ob,e⟩:=x;exact ⟨ob,k _ _ (.inl rfl) e⟩
 | xd fs=>obtain ⟨mA,⟨od,es,ep,e,c⟩,r⟩:=x;exact ⟨mA,⟨od,es,ep,k _ _ (.inl rfl) e,c⟩,r⟩
 | rng lo hi=>obtain ⟨t,u,v,e⟩:=x;exact ⟨t,u,v,k _ _ (.inl rfl) e⟩
 | frz ob u ih=>obtain ⟨e,q⟩:=x;exact ⟨k _ _ (.inl rfl) e,ih q⟩
 | tbl ps =>
  have e:h.get? a=some { cls:=.none,data:=.fields ps }:=x
  show h'.get? a=some { cls:=.none,data:=.fields ps }
  exact k a _ (.inl rfl) e
 | met f y =>
  have e:h.get? a=some (Ny (.ref f) (.ref y)):=x
  show h'.get? a=some (Ny (.ref f) (.ref y))
  exact k a _ (.inl rfl) e
 | ext φ=>obtain ⟨p,⟨o,e⟩,st⟩:=x;exact ⟨st _ _ p fun o q=>k _ _ (.inl rfl) q,⟨o,k _ _ (.inl rfl) e⟩,st⟩
def HOk.lt (x:HOk P w H h) (e:H a=some o):a<h.objs.size:=(x a o e).lt
def HOk.fresh (x:HOk P w H h) (e:h.objs.size<=a):H a=none:=by
 cases q:H a with
 | none=>rfl
 | some u=>exact absurd (gC (x.lt q) e) (qd _)
def HOk.kept (x:HOk P w H h) (k:∀ b u,h.get? b=some u->h'.get? b=some u):HOk P w H h':=fun a o e =>
 (x a o e).stay (fun b u _ q=>k b u q) (fun _ q=>q) fun _ _ q=>q
def HOk.laid (x:HOk P w H h) (k:∀ b u,h.get? b=some u->h'.get? b=some u) (hp:h.objs.size<=a) (new:dw P w (upd H a o) h' a o):HOk P w (upd H a o) h':=fun b u e=>by
 have hn:=x.fresh hp
 by_cases hb:b=a
 ·subst hb;rw [ak] at e;cases e;exact new
 ·rw [aA hb] at e
  exact (x b u e).stay (fun c v _ q=>k c v q) (fun c q=>by rw [aA (ao q hn)];exact q) fun c xs q=>by rw [aA (ao q hn)];exact q
end
def Rd (H:Hp) (a:Addr) (u:HO):Prop:=H a=some u\/∃ o,H a=some (.frz o u)
def Rd.of {H:Hp} {a:Addr} {u:HO} (h:H a=some u):Rd H a u:=.inl h
def Rd.ok {P:bG} {w:World} {H:Hp} {h:Heap} {a:Addr} {u:HO} (r:Rd H a u) (x:HOk P w H h):dw P w H h a u:=by
 rcases r with r | ⟨o,r⟩
 ·exact x a u r
 ·obtain ⟨_,q⟩:=x a _ r
  exact q
def Mut:Option HO->Prop
 | some (.lst _)=>True
 | some (.dK _)=>True
 | some (.dT _)=>True
 | some (.set _ _)=>True
 | some (.ins _ _ _)=>True
 | some (.ext _)=>True
 | _=>False
section
variable {P:bG} {w:World} {H:Hp} {h h':Heap} {x e:Addr} {o':HO}
def HOk.write (ok:HOk P w H h) (mu:Mut (H x)) (he:e=x\/H e=some (.own x)) (k:∀ b u,b≠e->h.get? b=some u->h'.get? b=some u) (heo:∃ u,h'.get? e=some u)
  (new:dw P w (upd H x o') h' x o'):HOk P w (upd H x o') h':=fun b u q=>by
 have nown:∀ c y,H c=some (.own y)->c≠x:=fun c y r z=>by subst z;rw [r] at mu;exact mu
 have ntup:∀ c xs,H c=some (.tup xs)->c≠x:=fun c xs r z=>by subst z;rw [r] at mu;exact mu
 by_cases hb:b=x
 ·subst hb;rw [ak] at q;cases q;exact new
 ·rw [aA hb] at q
  by_cases hbe:b=e
  ·have q':H b=some (.own x):=by
    rcases he with z | z
    ·exact absurd (hbe.trans z) hb
    ·rw [hbe];exact z
   rw [q] at q';cases q'
   obtain ⟨v,hv⟩:=heo
   exact ⟨v,by rw [hbe];exact hv⟩
  ·refine (ok b u q).stay (fun c v hc r=>k c v ?_ r) (fun c r=>by rw [aA (nown c b r)];exact r) fun c xs r=>by rw [aA (ntup c xs r)];exact r
   rcases hc with rfl | hc
   ·exact hbe
   ·rintro rfl
    rcases he with z | z
    ·exact nown c b hc z
    ·rw [hc] at z;cases z;exact hb rfl
end
structure Un (fs ex:List Addr) (H H':Hp) (h h':Heap):Prop where
 keep:∀ b o,h.get? b=some o->H b=none->b∉fs->b∉ex->h'.get? b=some o
 slot:∀ b o,h.get? b=some o->H b=none->b∈fs->b∉ex->∃ sl,h'.get? b=some { o with slots:=sl }
 free:∀ b o,h.get? b=some o->H b=none->b∉ex->H' b=none
 there:∀ b o,h.get? b=some o->b∉ex->∃ o',h'.get? b=some o'
 tups:∀ b xs,H b=some (.tup xs)->H' b=some (.tup xs)
 qT:∀ b o u,H b=some (.frz o u)->H' b=some (.frz o u)
 uf:∀ b ps,H b=some (.tbl ps)->∃ more,H' b=some (.tbl (ps++more))
section
variable {fs fs' ex ex':List Addr} {H H1 H2:Hp} {h h1 h2 h':Heap} {a x e:Addr} {o:HO}
def Un.any (u:Un fs ex H H1 h h1) {b:Addr} {ob:Obj} (q:h.get? b=some ob) (n:H b=none) (hx:b∉ex):∃ sl,h1.get? b=some { ob with slots:=sl }:=by
 by_cases hb:b∈fs
 ·exact u.slot b ob q n hb hx
 ·exact ⟨ob.slots,u.keep b ob q n hb hx⟩
def Un.trans (a:Un fs ex H H1 h h1) (b:Un fs ex H1 H2 h1 h2):Un fs ex H H2 h h2 where
 keep:=fun c ob q n hc hx=>b.keep c ob (a.keep c ob q n hc hx) (a.free c ob q n hx) hc hx
 slot:=fun c ob q n hc hx=>by
  obtain ⟨sl,e1⟩:=a.slot c ob q n hc hx
  obtain ⟨sl',e2⟩:=b.slot c _ e1 (a.free c ob q n hx) hc hx
  exact ⟨sl',e2⟩
 free:=fun c ob q n hx=>by
  obtain ⟨o',e1⟩:=a.there c ob q hx
  exact b.free c o' e1 (a.free c ob q n hx) hx
 there:=fun c ob q hx=>by
  obtain ⟨o',e1⟩:=a.there c ob q hx
  exact b.there c o' e1 hx
 tups:=fun c xs q=>b.tups c xs (a.tups c xs q)
 qT:=fun c ob xs q=>b.qT c ob xs (a.qT c ob xs q)
 uf:=fun c ps q=>by
  obtain ⟨m1,e1⟩:=a.uf c ps q
  obtain ⟨m2,e2⟩:=b.uf c _ e1
  exact ⟨m1++m2,by rw [e2,Zb]⟩
def Un.kept (k:∀ b u,h.get? b=some u->h'.get? b=some u):Un fs ex H H h h' :=
 ⟨fun b ob q _ _ _=>k b ob q,fun b ob q _ _ _=>⟨ob.slots,k b ob q⟩,fun _ _ _ n _=>n,fun b ob q _=>⟨ob,k b ob q⟩,fun _ _ q=>q,fun _ _ _ q=>q,fun _ ps q=>⟨#[],by rw [q];simp⟩⟩
def Un.refl:Un fs ex H H h h:=Un.kept fun _ _ q=>q
def Un.laid (k:∀ b u,h.get? b=some u->h'.get? b=some u) (hp:h.objs.size<=a) (hn:H a=none):Un fs ex H (upd H a o) h h' where
 keep:=fun b u q _ _ _=>k b u q
 slot:=fun b u q _ _ _=>⟨u.slots,k b u q⟩
 free:=fun b u q n _=>by rw [aA (cZ (gC (bY q) hp))];exact n
 there:=fun b u q _=>⟨u,k b u q⟩
 tups:=fun b xs q=>by rw [aA (ao q hn)];exact q
 qT:=fun b u xs q=>by rw [aA (ao q hn)];exact q
 uf:=fun b ps q=>⟨#[],by rw [aA (ao q hn),q];simp⟩
def Un.write (mu:Mut (H x)) (he:e=x\/H e=some (.own x)) (k:∀ b u,b≠e->h.get? b=some u->h'.get? b=some u) (heo:∃ u,h'.get? e=some u):Un fs ex H (upd H x o) h h':=by
 have hx:∀ b,H b=none->b≠x:=fun b n z=>by subst z;rw [n] at mu;exact mu
 have hb:∀ b,H b=none->b≠e:=fun b n z=>by
  subst z
  rcases he with r | r
  ·exact hx b n r
  ·rw [n] at r;cases r
 have hm:∀ b u,H b=some u->¬ Mut (some u)->b≠x:=fun b u q nm z=>by subst z;rw [q] at mu;exact nm mu
 refine ⟨fun b u q n _ _=>k b u (hb b n) q,fun b u q n _ _=>⟨u.slots,k b u (hb b n) q⟩,fun b u q n _=>by rw [aA (hx b n)];exact n,fun b u q _=>?_,
  fun b xs q=>by rw [aA (hm b _ q fun z=>z)];exact q,fun b u xs q=>by rw [aA (hm b _ q fun z=>z)];exact q,fun b ps q=>⟨#[],by rw [aA (hm b _ q fun z=>z),q];simp⟩⟩
 by_cases hbe:b=e
 ·subst hbe;exact heo
 ·exact ⟨u,k b u hbe q⟩
def Un.mono (u:Un fs ex H H1 h h1) (hs:∀ b∈fs,b∈fs') (hx:∀ b∈ex,b∈ex'):Un fs' ex' H H1 h h1 :=
 ⟨fun b ob q n hb he=>u.keep b ob q n (fun z=>hb (hs b z)) fun z=>he (hx b z),fun _ _ q n _ he=>u.any q n fun z=>he (hx _ z),fun b ob q n he=>u.free b ob q n fun z=>he (hx b z),fun b ob q he=>u.there b ob q fun z=>he (hx b z),u.tups,u.qT,u.uf⟩
end
def trk (h:Heap) (H:Hp):List Addr:=(vO h.objs.size).filter fun a=>(H a).isSome
def HW (h:Heap) (H:Hp):Heap:=PySem.W.hideAll h (trk h H)
def VG (h:Heap) (H:Hp):(HW h H).objs.size=h.objs.size:=PySem.W.hideAll_size _ _
def aaf {h:Heap} {H:Hp} {b:Addr} {o:Obj} (e:h.get? b=some o) (n:H b=none):(HW h H).get? b=some o :=
 PySem.W.hideAll_get _ e fun hm=>by
  have q:(H b).isSome=true:=(qD.mp hm).2
  rw [n] at q;simp at q
def acd {h:Heap} {H:Hp} {b:Addr} {o:Obj} (e:(HW h H).get? b=some o):h.get? b=some o/\H b=none:=by
 have e':h.get? b=some o:=PySem.W.of_hideAll (trk h H) e
 refine ⟨e',?_⟩
 cases q:H b with
 | none=>rfl
 | some x =>
  have hm:b∈trk h H:=qD.mpr ⟨Xx.mpr (bY e'),by simp [q]⟩
  have z:(HW h H).get? b=none:=PySem.W.hideAll_none (trk h H) hm
  rw [z] at e;cases e
def ace (g h:Heap) (L:Addr):List (Addr × Obj):=(vO h.objs.size).filterMap fun a=>if a=L\/(g.get? a).isSome=true then none else (h.get? a).map fun o=>(a,o)
def rest (g h:Heap) (L d:Addr):List (Addr × Obj):=(ace g h L).filter fun p=>decide (p.1≠d)
end L2
namespace L2
open PySem PySem.Spec PyProof.Rows
structure Mod (K:bh) (mg:Str->Option Value) (base:Heap):Prop where
 kin:K.In base
 glob:base.Ns fG mg
 blt:∃ mb,base.Ns Og mb/\∀ x:Str,x ≠ "__name__" -> mb x=vU x
 nolimit:base.NoLimit
structure Cx where
 prog:bG
 w:World
 K:bh
 mg:Str->Option Value
 base:Heap
 A:bQ
 N:List Str
 s₀:aG
 H₀:Hp
 env:Env
 outer:List Env
 stack:List Env
 ex:List Addr
 fn:Str->Bool
 calm:Bool
 pn:List (Addr × Obj)
 xe:Value->aG->Prop
def frs (l:List Env):List Addr:=l.filterMap (·.frame)
abbrev Cx.fs (X:Cx):List Addr:=frs X.outer
def Vis (sc:Scope) (x:Str):Prop:=sc.names.lookup x=some .local\/sc.names.lookup x=some .cell\/sc.names.lookup x=some .free
def Loc (sc:Scope) (x:Str):Prop:=sc.names.lookup x=some .local\/sc.names.lookup x=some .cell
def Look (env:Env) (h:Heap) (m:Str->Option Value) (x:Str) (u:Value):Prop :=
 (env.kindOf x=some .local/\m x=some u)\/((env.kindOf x=some .cell\/env.kindOf x=some .free)/\∃ c,env.cells.lookup x=some c/\h.IsCell c (some u))
structure Cx.Ok (X:Cx):Prop where
 mod:Mod X.K X.mg X.base
 kind:X.env.scope.kind = .function
 glob:X.env.globals=fG
 blt:X.env.builtins=Og
 above:X.s₀.heap.objs.size<=X.env.locals
 inj:∀ x y c,X.env.cells.lookup x=some c->X.env.cells.lookup y=some c->x=y
 has:∀ x,(X.env.kindOf x=some .cell\/X.env.kindOf x=some .free)->∃ c,X.env.cells.lookup x=some c
 cab:∀ x c,X.fn x=true->X.env.cells.lookup x=some c->X.s₀.heap.objs.size<=c
 hd:X.calm=true->X.A.handled=none
 frames:X.A.frames=some X.stack
 stk:X.stack=X.outer\/(X.stack=X.env::X.outer/\X.env.frame=some X.env.locals)
 exf:∀ b∈X.ex,b≠X.env.locals/\∀ x c,X.env.cells.lookup x=some c->c≠b
 bs:∀ b o,X.base.get? b=some o->X.s₀.heap.get? b=some o/\X.H₀ b=none
 bsz:X.base.objs.size<=X.s₀.heap.objs.size
 aag:∀ b o,X.base.get? b=some o->b∉X.ex
 exfs:∀ b∈X.ex,b∉X.fs
 wF:X.s₀.heap.FunFrames X.base X.outer
 frf:∀ b∈X.fs,X.H₀ b=none
structure Inv (X:Cx) (pins:List (Addr × Obj)) (σ:List (Option V)) (H:Hp) (s:aG):Prop where
 ok:X.Ok
 os:s.os=X.s₀.os
 bare:qP s.gens
 base:Un X.fs X.ex X.H₀ H X.s₀.heap s.heap
 loc:∃ m,s.heap.Ns X.env.locals m/\∀ (i:Nat) (x:Str) (v:V),X.N[i]? = some x->σ[i]? = some (some v)->Vis X.env.scope x->∃ u,RelV v u/\Look X.env s.heap m x u
 cell:∀ x c,X.env.cells.lookup x=some c->∃ v,s.heap.IsCell c v
 free:H X.env.locals=none
 qU:∀ x c,X.env.cells.lookup x=some c->H c=none
 pin:∀ p∈X.pn++pins,s.heap.get? p.1=some p.2/\H p.1=none/\p.1≠X.env.locals/\p.1∉X.fs/\∀ v,p.2.data ≠ .cell v
 hok:HOk X.prog X.w H s.heap
 len:σ.length=X.N.length
section
variable {X:Cx} {pins:List (Addr × Obj)} {σ:List (Option V)} {H H':Hp} {s:aG} {h':Heap}
def Cx.Ok.nofr (ok:X.Ok) {b:Addr} {o:Obj} (e:X.base.get? b=some o):b∉X.fs:=fun hb=>by
 have:=(ok.wF.mem hb).1
 rw [e] at this;cases this
def Inv.bs (I:Inv X pins σ H s):∀ b o,X.base.get? b=some o->s.heap.get? b=some o/\H b=none:=fun b o e =>
 ⟨I.base.keep b o (I.ok.bs b o e).1 (I.ok.bs b o e).2 (I.ok.nofr e) (I.ok.aag b o e),I.base.free b o (I.ok.bs b o e).1 (I.ok.bs b o e).2 (I.ok.aag b o e)⟩
def Inv.bk (I:Inv X pins σ H s):∀ b o,X.base.get? b=some o->s.heap.get? b=some o:=fun b o e=>(I.bs b o e).1
def Inv.mod (I:Inv X pins σ H s):Mod X.K X.mg X.base:=I.ok.mod
def Inv.kIn (I:Inv X pins σ H s):X.K.In s.heap:=I.ok.mod.kin.keeps I.bk
def Inv.nolimit (I:Inv X pins σ H s):s.heap.NoLimit:=I.ok.mod.nolimit.keeps I.bk
def Inv.lt (I:Inv X pins σ H s):X.env.locals<s.heap.objs.size:=let ⟨_,hn,_⟩:=I.loc;hn.lt
def Inv.sz (I:Inv X pins σ H s):X.s₀.heap.objs.size<=s.heap.objs.size:=fH I.ok.above (mj I.lt)
def Inv.nofs (I:Inv X pins σ H s) {a:Addr} (h:s.heap.objs.size<=a):a∉X.fs:=fun hb=>by
 obtain ⟨_,o,ho,_⟩:=I.ok.wF.mem hb
 exact absurd (gC (bY ho) (fH I.sz h)) (qd _)
def Inv.cne (I:Inv X pins σ H s):∀ x c,X.env.cells.lookup x=some c->c≠X.env.locals:=fun x c e z=>by
 obtain ⟨v,o,ho,hd⟩:=I.cell x c e
 obtain ⟨m,⟨o',es,ep,ho',hd',_⟩,_⟩:=I.loc
 rw [z,ho'] at ho;cases ho;rw [hd'] at hd;cases hd
def Inv.wF (I:Inv X pins σ H s):s.heap.FunFrames X.base X.outer:=by
 have all:∀ (l:List Env),(∀ b∈frs l,b∈X.fs)->X.s₀.heap.FunFrames X.base l->s.heap.FunFrames X.base l:=by
  intro l
  induction l with
  | nil=>intro _ _;trivial
  | cons env r ih =>
   intro hs hl
   obtain ⟨hk,⟨L,o,hf,hn,ho,hd⟩,hr⟩:=hl
   have hL:L∈X.fs:=hs L (by unfold frs;rw [xT,hf];exact eF)
   obtain ⟨sl,e⟩:=I.base.slot L o ho (I.ok.frf L hL) hL fun z=>I.ok.exfs L z hL
   exact ⟨hk,⟨L,_,hf,hn,e,hd⟩,ih (fun b hb=>hs b (by unfold frs;rw [xT,hf];exact eU _ hb)) hr⟩
 exact all X.outer (fun _ hb=>hb) I.ok.wF
def Inv.stack (I:Inv X pins σ H s):s.heap.FunFrames X.base X.stack:=by
 rcases I.ok.stk with e | ⟨e,hf⟩
 ·rw [e];exact I.wF
 ·rw [e]
  obtain ⟨m,hn,_⟩:=I.loc
  refine .cons (by rw [I.ok.kind];decide) hf hn ?_ I.wF
  exact Heap.get?_none_of_le (fH I.ok.bsz I.ok.above)
def Inv.HX (I:Inv X pins σ H s):∀ b∈frs X.stack,b∈X.env.locals::X.fs:=fun b hb=>by
 rcases I.ok.stk with e | ⟨e,hf⟩
 ·rw [e] at hb;exact eU _ hb
 ·rw [e] at hb
  unfold frs at hb
  rw [xT,hf] at hb
  exact hb
def Inv.Uk (I:Inv X pins σ H s):∀ b∈frs X.stack,H b=none:=fun b hb=>by
 rcases cC.mp (I.HX b hb) with e | hb
 ·rw [e];exact I.free
 ·obtain ⟨_,o,ho,_⟩:=I.ok.wF.mem hb
  exact I.base.free b o ho (I.ok.frf b hb) fun z=>I.ok.exfs b z hb
def Inv.step {g':Array GenState} {t':Nat} {d':Drawn} {ch:List Addr} (I:Inv X pins σ H s)
  (hch:∀ b∈ch,(b∈X.ex\/X.s₀.heap.objs.size<=b)/\b≠X.env.locals/\(∀ x c,X.env.cells.lookup x=some c->c≠b)/\∀ p∈X.pn++pins,p.1≠b)
  (keep:∀ b o,b≠X.env.locals->b∉X.fs->b∉ch->s.heap.get? b=some o->H b=none->h'.get? b=some o)
  (slot:∀ b o,b≠X.env.locals->b∈X.fs->b∉ch->s.heap.get? b=some o->H b=none->∃ sl,h'.get? b=some { o with slots:=sl }) (free:∀ b o,b∉ch->s.heap.get? b=some o->H b=none->H' b=none)
  (there:∀ b o,b∉ch->s.heap.get? b=some o->∃ o',h'.get? b=some o')
  (tups:∀ b xs,H b=some (.tup xs)->H' b=some (.tup xs)) (qT:∀ b o u,H b=some (.frz o u)->H' b=some (.frz o u)) (uf:∀ b ps,H b=some (.tbl ps)->∃ more,H' b=some (.tbl (ps++more)))
  (ns:∀ m,s.heap.Ns X.env.locals m->h'.Ns X.env.locals m) (hok:HOk X.prog X.w H' h') (hg:qP g') :
  Inv X pins σ H' { s with heap:=h',gens:=g',drawn:=d',toks:=t' }:=by
 have neL:∀ b o,X.s₀.heap.get? b=some o->b≠X.env.locals:=fun b o e=>cZ (gC (bY e) I.ok.above)
 have neC:∀ b o,X.s₀.heap.get? b=some o->b∉X.ex->b∉ch:=fun b o e hx hb=>by
  rcases (hch b hb).1 with z | z
  ·exact hx z
  ·exact absurd (gC (bY e) z) (qd _)
 have cellK:∀ x c,X.env.cells.lookup x=some c->∀ v,s.heap.IsCell c v->h'.IsCell c v:=fun x c e v ⟨o,ho,hd⟩=>by
  have nch:c∉ch:=fun z=>(hch c z).2.2.1 x c e rfl
  by_cases hc:c∈X.fs
  ·obtain ⟨sl,q⟩:=slot c o (I.cne x c e) hc nch ho (I.qU x c e)
   exact ⟨_,q,hd⟩
  ·exact ⟨o,keep c o (I.cne x c e) hc nch ho (I.qU x c e),hd⟩
 refine ⟨I.ok,I.os,hg,⟨fun b o e n hb hx=>?_,fun b o e n hb hx=>?_,fun b o e n hx=>?_,fun b o e hx=>?_,fun b xs e=>tups b xs (I.base.tups b xs e),fun b o xs e=>qT b o xs (I.base.qT b o xs e),fun b ps e=>?_⟩,?_,fun x c e=>?_,?_,fun x c e=>?_,fun p hp=>?_,hok,I.len⟩
 ·exact keep b o (neL b o e) hb (neC b o e hx) (I.base.keep b o e n hb hx) (I.base.free b o e n hx)
 ·obtain ⟨sl,e1⟩:=I.base.slot b o e n hb hx
  obtain ⟨sl',e2⟩:=slot b _ (neL b o e) hb (neC b o e hx) e1 (I.base.free b o e n hx)
  exact ⟨sl',e2⟩
 ·obtain ⟨o',e1⟩:=I.base.there b o e hx
  exact free b o' (neC b o e hx) e1 (I.base.free b o e n hx)
 ·obtain ⟨o',e1⟩:=I.base.there b o e hx
  exact there b o' (neC b o e hx) e1
 ·obtain ⟨m1,e1⟩:=I.base.uf b ps e
  obtain ⟨m2,e2⟩:=uf b _ e1
  exact ⟨m1++m2,by rw [e2,Zb]⟩
 ·obtain ⟨m,hn,hl⟩:=I.loc
  refine ⟨m,ns m hn,fun i x v e1 e2 e3=>?_⟩
  obtain ⟨u,r,l⟩:=hl i x v e1 e2 e3
  refine ⟨u,r,?_⟩
  rcases l with l | ⟨k,c,e,z⟩
  ·exact .inl l
  ·exact .inr ⟨k,c,e,cellK x c e _ z⟩
 ·obtain ⟨v,z⟩:=I.cell x c e
  exact ⟨v,cellK x c e v z⟩
 ·obtain ⟨m,⟨o,_,_,ho,_⟩,_⟩:=I.loc
  exact free _ o (fun z=>(hch _ z).2.1 rfl) ho I.free
 ·obtain ⟨v,o,ho,hd⟩:=I.cell x c e
  exact free c o (fun z=>(hch c z).2.2.1 x c e rfl) ho (I.qU x c e)
 ·obtain ⟨e,n,ne,nf,d⟩:=I.pin p hp
  have nch:p.1∉ch:=fun z=>(hch p.1 z).2.2.2 p hp rfl
  exact ⟨keep p.1 p.2 ne nf nch e n,free p.1 p.2 nch e n,ne,nf,d⟩
def Inv.un {t':Nat} (I:Inv X pins σ H s) (u:Un X.fs [] H H' s.heap h') (hok:HOk X.prog X.w H' h'):Inv X pins σ H' { s with heap:=h',toks:=t' }:=by
 obtain ⟨m,⟨o,es,ep,ho,r⟩,_⟩:=id I.loc
 obtain ⟨sl,hL⟩:=u.any ho I.free (by simp)
 exact I.step (g':=s.gens) (d':=s.drawn) (ch:=[]) (fun _ z=>nomatch z) (fun b o _ hb _ e n=>u.keep b o e n hb (by simp)) (fun b o _ hb _ e n=>u.slot b o e n hb (by simp)) (fun b o _ e n=>u.free b o e n (by simp)) (fun b o _ e=>u.there b o e (by simp)) u.tups u.qT u.uf (fun m' hm=>by
  obtain ⟨o',es',ep',ho',r'⟩:=hm
  rw [ho] at ho';cases ho'
  exact ⟨_,es',ep',hL,r'⟩) hok I.bare
def Inv.call {g':Array GenState} {t':Nat} {d':Drawn} {ch:List Addr} (I:Inv X pins σ H s) (u:Un (frs X.stack) ch H H' s.heap h') (hok:HOk X.prog X.w H' h') (hg:qP g')
  (hch:∀ b∈ch,(b∈X.ex\/X.s₀.heap.objs.size<=b)/\b≠X.env.locals/\(∀ x c,X.env.cells.lookup x=some c->c≠b)/\∀ p∈X.pn++pins,p.1≠b) :
  Inv X pins σ H' { s with heap:=h',gens:=g',drawn:=d',toks:=t' }:=by
 obtain ⟨m,⟨o,es,ep,ho,r⟩,_⟩:=id I.loc
 obtain ⟨sl,hL⟩:=u.any ho I.free fun z=>(hch _ z).2.1 rfl
 exact I.step (ch:=ch) hch (fun b o hL hb hc e n=>u.keep b o e n (fun z=>(cC.mp (I.HX b z)).elim hL hb) hc) (fun b o _ _ hc e n=>u.any e n hc) (fun b o hc e n=>u.free b o e n hc) (fun b o hc e=>u.there b o e hc) u.tups u.qT u.uf (fun m' hm=>by
  obtain ⟨o',es',ep',ho',r'⟩:=hm
  rw [ho] at ho';cases ho'
  exact ⟨_,es',ep',hL,r'⟩) hok hg
def Inv.turned {t':Nat} {it:Addr} (I:Inv X pins σ H s) (k:∀ b o,b≠it->s.heap.get? b=some o->h'.get? b=some o) (hn:H it=none) (hL:it≠X.env.locals)
  (h1:it∈X.ex\/X.s₀.heap.objs.size<=it) (h2:∀ x c,X.env.cells.lookup x=some c->c≠it) (h3:∀ p∈X.pn++pins,p.1≠it):Inv X pins σ H { s with heap:=h',toks:=t' }:=by
 have nit:∀ b u,H b=some u->b≠it:=fun b u e z=>by rw [z,hn] at e;cases e
 refine I.step (g':=s.gens) (d':=s.drawn) (ch:=[it]) (fun b hb=>?_) (fun b o _ _ hc e _=>k b o (fun z=>hc (by simp [z])) e) (fun b o _ _ hc e _=>⟨o.slots,k b o (fun z=>hc (by simp [z])) e⟩) (fun _ _ _ _ n=>n)
  (fun b o hc e=>⟨o,k b o (fun z=>hc (by simp [z])) e⟩) (fun _ _ e=>e) (fun _ _ _ e=>e) (fun b ps e=>⟨#[],by rw [e];simp⟩) (fun m hm=>?_) (fun b u e=>?_) I.bare
 ·have e:b=it:=by simpa using hb
  subst e
  exact ⟨h1,hL,h2,h3⟩
 ·obtain ⟨o,es,ep,ho,r⟩:=hm
  exact ⟨o,es,ep,k _ o (aL hL) ho,r⟩
 ·refine (I.hok b u e).stay (fun c v hc q=>k c v ?_ q) (fun _ q=>q) fun _ _ q=>q
  rcases hc with z | z
  ·rw [z];exact nit b u e
  ·exact nit c _ z
def Inv.tok (I:Inv X pins σ H s) (t:Nat):Inv X pins σ H { s with toks:=t }:=I.un (h':=s.heap) (t':=t) Un.refl I.hok
def Inv.kept {t':Nat} (I:Inv X pins σ H s) (k:∀ b u,s.heap.get? b=some u->h'.get? b=some u):Inv X pins σ H { s with heap:=h',toks:=t' }:=I.un (Un.kept k) (I.hok.kept k)
def Inv.laid {a:Addr} {o:HO} {t':Nat} (I:Inv X pins σ H s) (k:∀ b u,s.heap.get? b=some u->h'.get? b=some u) (hp:s.heap.objs.size<=a) (new:dw X.prog X.w (upd H a o) h' a o) :
  Inv X pins σ (upd H a o) { s with heap:=h',toks:=t' }:=I.un (Un.laid k hp (I.hok.fresh hp)) (I.hok.laid k hp new)
def Inv.write {x e:Addr} {o:HO} {t':Nat} (I:Inv X pins σ H s) (mu:Mut (H x)) (he:e=x\/H e=some (.own x)) (k:∀ b u,b≠e->s.heap.get? b=some u->h'.get? b=some u) (heo:∃ u,h'.get? e=some u)
  (new:dw X.prog X.w (upd H x o) h' x o):Inv X pins σ (upd H x o) { s with heap:=h',toks:=t' }:=I.un (Un.write mu he k heo) (I.hok.write mu he k heo new)
def Inv.Ul {Um:List (Addr × Obj)} (I:Inv X pins σ H s) (h:∀ p∈Um,s.heap.get? p.1=some p.2/\H p.1=none/\p.1≠X.env.locals/\p.1∉X.fs/\∀ v,p.2.data ≠ .cell v):Inv X Um σ H s :=
 ⟨I.ok,I.os,I.bare,I.base,I.loc,I.cell,I.free,I.qU,fun p hp=>(gB.mp hp).elim (fun z=>I.pin p (Xh _ z)) (h p),I.hok,I.len⟩
def Kq {N:List Str} (hN:N.Nodup) {i j:Nat} {x:Str} (a:N[i]? = some x) (b:N[j]? = some x):i=j:=by
 obtain ⟨h1,e1⟩:=gZ.mp a
 obtain ⟨h2,e2⟩:=gZ.mp b
 exact (List.getElem_inj hN).mp (e1.trans e2.symm)
def DK {M:Model} {A:bQ} {E:Value->aG->Prop} {i:Nat} {x:Str} {v:V} {u:Value} {Q:Unit->aG->Prop} (I:Inv X pins σ H s) (hN:X.N.Nodup) (hi:X.N[i]? = some x) (hx:Loc X.env.scope x) (r:RelV v u)
  (h:∀ s',Inv X pins (σ.set i (some v)) H s'->(∃ a,Ae a s.heap s'.heap/\(a=X.env.locals\/X.env.cells.lookup x=some a))->Q () s') (hf:X.fn x=true\/X.env.scope.names.lookup x=some .local:=by first | exact .inl rfl | exact .inr rfl | assumption):wpAny M A (storeName X.env x u) Q E s:=by
 obtain ⟨m,hn,hl⟩:=id I.loc
 have hcls:(X.env.scope.kind == .class || (X.env.scope.kind == .module && X.env.locals != X.env.globals))=false:=by rw [I.ok.kind];rfl
 have hiσ:i<σ.length:=by rw [I.len];exact (gZ.mp hi).1
 have cne:=I.cne
 have tracked:∀ {a:Addr} {h':Heap},(∃ o,s.heap.get? a=some o/\H a=none)->Ae a s.heap h'->HOk X.prog X.w H h':=fun {a h'} ha hs b ob e=>by
  obtain ⟨_,_,hfree⟩:=ha
  refine (I.hok b ob e).stay (fun c w' hc q=>(hs.2 c ?_).trans q) (fun _ q=>q) fun _ _ q=>q
  rintro rfl
  rcases hc with rfl | hc
  ·rw [hfree] at e;cases e
  ·rw [hfree] at hc;cases hc
 rcases hx with hk | hk
 ·refine wpAny_storeName_local hk hn (fun h' hn' hs=>?_) hcls
  obtain ⟨oL,_,_,hoL,_⟩:=id hn
  refine h _ ⟨I.ok,I.os,I.bare,⟨fun b o e n hb hx=>?_,fun b o e n hb hx=>?_,I.base.free,fun b o e hx=>?_,I.base.tups,I.base.qT,I.base.uf⟩,⟨_,hn',fun j y v' e1 e2 e3=>?_⟩,fun y c e=>?_,I.free,I.qU,fun p hp=>?_,tracked ⟨oL,hoL,I.free⟩ hs,by simpa using I.len⟩ ⟨_,hs,.inl rfl⟩
  ·exact (hs.2 b (cZ (gC (bY e) I.ok.above))).trans (I.base.keep b o e n hb hx)
  ·obtain ⟨sl,e1⟩:=I.base.slot b o e n hb hx
   exact ⟨sl,(hs.2 b (cZ (gC (bY e) I.ok.above))).trans e1⟩
  ·obtain ⟨o',e1⟩:=I.base.there b o e hx
   exact ⟨o',(hs.2 b (cZ (gC (bY e) I.ok.above))).trans e1⟩
  ·by_cases hj:j=i
   ·subst hj
    rw [hi] at e1;cases e1
    rw [Fi hiσ] at e2
    cases e2
    exact ⟨u,r,.inl ⟨hk,by simp⟩⟩
   ·rw [vJ (aL hj)] at e2
    obtain ⟨u',r',q⟩:=hl j y v' e1 e2 e3
    refine ⟨u',r',?_⟩
    rcases q with ⟨k,e⟩ | ⟨k,c,e,z⟩
    ·refine .inl ⟨k,?_⟩
     have:y≠x:=fun e=>hj (Kq hN e1 (e ▸ hi))
     simp [this,e]
    ·exact .inr ⟨k,c,e,z.sameBut hs (cne y c e)⟩
  ·obtain ⟨w',z⟩:=I.cell y c e
   exact ⟨w',z.sameBut hs (cne y c e)⟩
  ·obtain ⟨e,n,ne,nf,d⟩:=I.pin p hp
   exact ⟨(hs.2 p.1 ne).trans e,n,ne,nf,d⟩
 ·have hfn:X.fn x=true:=by
   rcases hf with z | z
   ·exact z
   ·rw [z] at hk;cases hk
  obtain ⟨c,hc⟩:=I.ok.has x (.inl hk)
  obtain ⟨w',z⟩:=I.cell x c hc
  refine wpAny_storeName_cell I.ok.kind hk hc z (fun h' hc' hs=>?_)
  obtain ⟨oc,hoc,hocd⟩:=id z
  refine h { s with heap:=h' } ⟨I.ok,I.os,I.bare,⟨fun b o e n hb hx=>?_,fun b o e n hb hx=>?_,I.base.free,fun b o e hx=>?_,I.base.tups,I.base.qT,I.base.uf⟩,⟨m,hn.sameBut hs (aL (cne x c hc)),fun j y v' e1 e2 e3=>?_⟩,fun y c' e=>?_,I.free,I.qU,fun p hp=>?_,tracked ⟨oc,hoc,I.qU x c hc⟩ hs,by simpa using I.len⟩ ⟨c,hs,.inr hc⟩
  ·exact (hs.2 b (cZ (gC (bY e) (I.ok.cab x c hfn hc)))).trans (I.base.keep b o e n hb hx)
  ·obtain ⟨sl,e1⟩:=I.base.slot b o e n hb hx
   exact ⟨sl,(hs.2 b (cZ (gC (bY e) (I.ok.cab x c hfn hc)))).trans e1⟩
  ·obtain ⟨o',e1⟩:=I.base.there b o e hx
   exact ⟨o',(hs.2 b (cZ (gC (bY e) (I.ok.cab x c hfn hc)))).trans e1⟩
  ·by_cases hj:j=i
   ·subst hj
    rw [hi] at e1;cases e1
    rw [Fi hiσ] at e2
    cases e2
    exact ⟨u,r,.inr ⟨.inl hk,c,hc,hc'⟩⟩
   ·rw [vJ (aL hj)] at e2
    obtain ⟨u',r',q⟩:=hl j y v' e1 e2 e3
    refine ⟨u',r',?_⟩
    rcases q with q | ⟨k,c',e,z'⟩
    ·exact .inl q
    ·refine .inr ⟨k,c',e,z'.sameBut hs ?_⟩
     rintro rfl
     exact hj (Kq hN e1 (I.ok.inj _ _ _ e hc ▸ hi))
  ·by_cases hcc:c'=c
   ·subst hcc;exact ⟨_,hc'⟩
   ·obtain ⟨w2,z2⟩:=I.cell y c' e
    exact ⟨w2,z2.sameBut hs hcc⟩
  ·obtain ⟨e,n,ne,nf,d⟩:=I.pin p hp
   refine ⟨(hs.2 p.1 ?_).trans e,n,ne,nf,d⟩
   intro q
   rw [q,hoc] at e
   have q':oc=p.2:=bZ e
   exact d w' (by rw [<- q'];exact hocd)
def Kr {M:Model} {A:bQ} {E:Value->aG->Prop} {i:Nat} {x:Str} {v:V} {u:Value} {Q:Unit->aG->Prop} (I:Inv X pins σ H s) (hN:X.N.Nodup) (hi:X.N[i]? = some x) (hx:Loc X.env.scope x) (r:RelV v u)
  (h:∀ s',Inv X pins (σ.set i (some v)) H s'->Q () s') (hf:X.fn x=true\/X.env.scope.names.lookup x=some .local:=by first | exact .inl rfl | exact .inr rfl | assumption):wpAny M A (storeName X.env x u) Q E s :=
 DK I hN hi hx r (fun s' I' _=>h s' I') hf
end
abbrev XK:=Value->Option Addr->Hp->Prop
abbrev St:=List (Option V)
abbrev VK:=V->Hp->Prop
abbrev TE:=St->Hp->VK->Prop
abbrev TT:=St->Hp->(Bool->Hp->Prop)->Prop
abbrev TA:=St->Hp->(List V->Hp->Prop)->Prop
structure Ends where
 nx:St->Hp->Prop
 rt:VK
 bk:St->Hp->Prop:=fun _ _=>False
 ct:St->Hp->Prop:=fun _ _=>False
abbrev TS:=Ends->St->Hp->Prop
def EP (X:Cx) (pins:List (Addr × Obj)) (σ:St) (Q:VK) (u:Value) (s':aG):Prop:=∃ v H',Inv X pins σ H' s'/\RelV v u/\Q v H'
def TP (X:Cx) (pins:List (Addr × Obj)) (σ:St) (Q:Bool->Hp->Prop) (b:Bool) (s':aG):Prop:=∃ H',Inv X pins σ H' s'/\Q b H'
def AP (X:Cx) (pins:List (Addr × Obj)) (σ:St) (Q:List V->Hp->Prop) (us:List Value) (s':aG):Prop:=∃ vs H',Inv X pins σ H' s'/\Vals vs us/\Q vs H'
def SP (X:Cx) (pins:List (Addr × Obj)) (D:Ends) (f:Flow) (s':aG):Prop :=
 match f with
 | .next=>∃ σ' H',Inv X pins σ' H' s'/\D.nx σ' H'
 | .brk=>∃ σ' H',Inv X pins σ' H' s'/\D.bk σ' H'
 | .cont=>∃ σ' H',Inv X pins σ' H' s'/\D.ct σ' H'
 | .ret u=>∃ v σ' H',Inv X pins σ' H' s'/\RelV v u/\D.rt v H'
def PE (X:Cx) (e:Expr) (t:TE):Prop :=
 ∀ (pins:List (Addr × Obj)) (s:aG) (σ:St) (H:Hp) (Q:VK),Inv X pins σ H s->t σ H Q->wpAny (model X.prog X.w) X.A (eval e X.env) (EP X pins σ Q) X.xe s
def PT (X:Cx) (e:Expr) (t:TT):Prop :=
 ∀ (pins:List (Addr × Obj)) (s:aG) (σ:St) (H:Hp) (Q:Bool->Hp->Prop),Inv X pins σ H s->t σ H Q->wpAny (model X.prog X.w) X.A (Gq e X.env (eval e X.env)) (TP X pins σ Q) X.xe s
def PW (X:Cx) (e:Expr) (t:TT):Prop :=
 ∀ (whole:Sem Value) (pins:List (Addr × Obj)) (s:aG) (σ:St) (H:Hp) (Q:Bool->Hp->Prop),Inv X pins σ H s->t σ H Q->wpAny (model X.prog X.w) X.A (Gq e X.env whole) (TP X pins σ Q) X.xe s
def PW.pt {X:Cx} {e:Expr} {t:TT} (h:PW X e t):PT X e t:=h _
def PA (X:Cx) (es:List Expr) (t:TA):Prop :=
 ∀ (pos:Pos) (pins:List (Addr × Obj)) (s:aG) (σ:St) (H:Hp) (Q:List V->Hp->Prop),Inv X pins σ H s->t σ H Q->wpAny (model X.prog X.w) X.A (spliced (ig pos (dM es X.env))) (AP X pins σ Q) X.xe s
def PS (X:Cx) (st:Stmt) (t:TS):Prop :=
 ∀ (pins:List (Addr × Obj)) (s:aG) (σ:St) (H:Hp) (D:Ends),Inv X pins σ H s->t D σ H->wpAny (model X.prog X.w) X.A (exec st X.env) (SP X pins D) X.xe s
def PSs (X:Cx) (st:List Stmt) (t:TS):Prop :=
 ∀ (pins:List (Addr × Obj)) (s:aG) (σ:St) (H:Hp) (D:Ends),Inv X pins σ H s->t D σ H->wpAny (model X.prog X.w) X.A (execs st X.env) (SP X pins D) X.xe s
def thn {α:Type} {t:Sem α} {Q Q':α->aG->Prop} {M:Model} {A:bQ} {E:Value->aG->Prop} {s:aG} (h:wpAny M A t Q E s) (hQ:∀ a s,Q a s->Q' a s):wpAny M A t Q' E s:=iG h hQ fun _ _ x=>x
end L2
namespace L2
open PySem PySem.Spec PyProof.Rows
section
variable {X:Cx}
@[reducible] def tVar (i:Nat):TE:=fun σ H Q=>∃ v,σ[i]? = some (some v)/\Q v H
@[reducible] def tC (v:V):TE:=fun _ H Q=>Q v H
def afx {i:Nat} {x:Str} {pos:Pos} (hN:X.N[i]? = some x) (hv:Vis X.env.scope x) (hd:(x == ("__debug__" : Str))=false:=by decide) (hcd:(x == ("__classdict__" : Str))=false:=by decide):PE X (.Name x pos) (tVar i):=by
 intro pins s σ H Q I h
 obtain ⟨v,e,h⟩:=h
 obtain ⟨m,hn,hl⟩:=I.loc
 obtain ⟨u,r,l⟩:=hl i x v hN e hv
 have fin:EP X pins σ Q u s:=⟨v,H,I,r,h⟩
 rcases l with ⟨hk,hm⟩ | ⟨hk,c,hc,hcell⟩
 ·exact Oh (wpAny_loadName_local I.ok.kind hk hn hm fin) hd
 ·rcases hk with hk | hk
  ·exact Oh (wpAny_loadName_cell I.ok.kind hk hc hcell fin) hd
  ·exact Oh (wpAny_loadName_free I.ok.kind hk hc hcell fin hcd) hd
def aC {i j pos}:PE X (.Constant (.int i) j pos) (tC (.int i)):=fun _ _ _ H _ I h=>wpAny_Constant_int ⟨.int i,H,I.tok _,⟨_,rfl⟩,h⟩
def pe_bl {b j pos}:PE X (.Constant (.bool b) j pos) (tC (.bl b)):=fun _ _ _ H _ I h=>Zo ⟨.bl b,H,I,rfl,h⟩
def ug {j pos}:PE X (.Constant .none j pos) (tC .non):=fun _ _ _ H _ I h=>Pk ⟨.non,H,I,rfl,h⟩
def dX {x j pos}:PE X (.Constant (.str x) j pos) (tC (.str x)):=fun _ _ _ H _ I h=>Calls.Constant_str ⟨.str x,H,I.tok _,⟨_,rfl⟩,h⟩
def Gl (X:Cx) (x:Str):Prop:=X.env.kindOf x=some .globalImplicit
def zf {E:Value->aG->Prop} {pins:List (Addr × Obj)} {s:aG} {σ:St} {H:Hp} {x:Str} {u:Value} {pos:Pos} {Q:Value->aG->Prop} (I:Inv X pins σ H s) (hg:Gl X x) (hm:X.mg x=some u) (h:Q u s)
  (hd:(x == ("__debug__" : Str))=false:=by decide):wpAny (model X.prog X.w) X.A (eval (.Name x pos) X.env) Q E s :=
 Zx I.ok.kind hg (Calls.loadGlobal_global (by rw [I.ok.glob];exact I.mod.glob.keeps I.bk) hm h) hd
def lE {E:Value->aG->Prop} {pins:List (Addr × Obj)} {s:aG} {σ:St} {H:Hp} {x:Str} {u:Value} {pos:Pos} {Q:Value->aG->Prop} (I:Inv X pins σ H s) (hg:Gl X x) (hm:X.mg x=none) (hv:vU x=some u) (h:Q u s)
  (hn:x ≠ "__name__" := by decide) (hd:(x == ("__debug__" : Str))=false:=by decide):wpAny (model X.prog X.w) X.A (eval (.Name x pos) X.env) Q E s:=by
 obtain ⟨mb,h1,h2⟩:=I.mod.blt
 exact Zx I.ok.kind hg (Calls.loadGlobal_builtin (by rw [I.ok.glob];exact I.mod.glob.keeps I.bk) hm (by rw [I.ok.blt];exact h1.keeps I.bk) ((h2 x hn).trans hv) h) hd
def o8 {x:Str} {v:V} {u:Value} {pos:Pos} (hg:Gl X x) (hm:X.mg x=some u) (r:RelV v u) (hd:(x == ("__debug__" : Str))=false:=by decide):PE X (.Name x pos) (tC v) :=
 fun _ _ _ H _ I h=>zf I hg hm ⟨v,H,I,r,h⟩ hd
def acf {x:Str} {v:V} {u:Value} {pos:Pos} (hg:Gl X x) (hm:X.mg x=none) (hv:vU x=some u) (r:RelV v u) (hn:x ≠ "__name__" := by decide) (hd:(x == ("__debug__" : Str))=false:=by decide):PE X (.Name x pos) (tC v) :=
 fun _ _ _ H _ I h=>lE I hg hm hv ⟨v,H,I,r,h⟩ hn hd
variable {a b:Expr} {ta tb:TE} {pos:Pos}
@[reducible] def tB (t:TE):TT:=fun σ H Q=>t σ H fun x H1=>∃ c,x = .bl c/\Q c H1
def afy {e:Expr} {t:TE} (h:PE X e t) (he:∀ whole,Gq e X.env whole=(do let v <- whole;standAt e.pos;z8 [v] (truthy v)):=by intro _;rfl):PT X e (tB t):=by
 intro pins s σ H Q I hw
 refine isTrue_plain (thn (h pins s σ H _ I hw) fun v s1 ⟨x,H1,I1,r1,q1⟩=>?_) (he _)
 obtain ⟨d,rfl,q⟩:=q1
 cases r1
 exact zU ⟨H1,I1,q⟩
variable {tA tB':TT} {rest:List Expr}
@[reducible] def tAnd (t u:TT):TT:=fun σ H Q=>t σ H fun c H1=>if c=true then u σ H1 Q else Q false H1
@[reducible] def tNot (t:TT):TT:=fun σ H Q=>t σ H fun c H1=>Q (!c) H1
def pw_and1 (ha:PT X a tA):PW X (.BoolOp .And [a] pos) tA:=by
 intro wh pins s σ H Q I h
 refine isTrue_and (thn (ha pins s σ H Q I h) fun c s1 e=>?_)
 cases c with
 | true=>exact isTrue_and_nil e
 | false=>exact e
def pw_and (ha:PT X a tA) (hb:PW X (.BoolOp .And (b::rest) pos) tB'):PW X (.BoolOp .And (a::b::rest) pos) (tAnd tA tB'):=by
 intro wh pins s σ H Q I h
 refine isTrue_and (thn (ha pins s σ H _ I h) fun c s1 ⟨H1,I1,q1⟩=>?_)
 cases c with
 | true=>exact hb wh pins s1 σ H1 Q I1 q1
 | false=>exact ⟨H1,I1,q1⟩
def afz (ha:PT X a tA):PT X (.UnaryOp .Not a pos) (tNot tA):=by
 intro pins s σ H Q I h
 exact isTrue_not (ha pins s σ H (fun c H1=>Q (!c) H1) I h)
@[reducible] def tAndV (ta tb:TE):TE:=fun σ H Q=>ta σ H fun x H1=>∃ c,x = .bl c/\if c=true then tb σ H1 Q else Q (.bl false) H1
def afA {op} {t:TE} (h:PE X a t):PE X (.BoolOp op [a] pos) t:=fun pins s σ H Q I hw=>BoolOp_one (h pins s σ H Q I hw)
def aah (ha:PE X a ta) (hb:PE X (.BoolOp .And (b::rest) pos) tb):PE X (.BoolOp .And (a::b::rest) pos) (tAndV ta tb):=by
 intro pins s σ H Q I h
 refine BoolOp_and (thn (ha pins s σ H _ I h) fun v s1 ⟨x,H1,I1,r1,q1⟩=>?_)
 obtain ⟨c,rfl,q1⟩:=q1
 cases r1
 refine zU ?_
 cases c with
 | true=>exact hb pins s1 σ H1 Q I1 q1
 | false=>exact ⟨.bl false,H1,I1,rfl,q1⟩
end
end L2
namespace L2
open PySem PySem.Spec PyProof.Rows
def SqL (K:bh) (H:Hp) (a:Addr) (xs:List V):Prop :=
 Rd H a (.lst xs) \/
  ∃ (o:Obj) (its:Array Value) (n:Nat),K.lookup a=some o/\o.cls = .type "list" /\ o.dict=none/\o.data = .seq its n/\its.size<=sizeLine/\Vals xs its.toList
def SqT (K:bh) (H:Hp) (a:Addr) (xs:List V):Prop :=
 Rd H a (.tup xs) \/
  ∃ (o:Obj) (its:Array Value) (n:Nat),K.lookup a=some o/\o.cls = .type "tuple" /\ o.data = .seq its n/\its.size<=sizeLine/\Vals xs its.toList
def absV:Value->Option V
 | .none=>some .non
 | .bool b=>some (.bl b)
 | .int i _=>some (.int i)
 | .str x _=>some (.str x)
 | .bytes b _=>some (.byt b)
 | .float b _=>some (.flt b)
 | .ref a=>some (.ref a)
 | .type n=>some (.ty n)
 | _=>none
def RelV.abs {x:V} {u:Value} (r:RelV x u):absV u=some x:=by
 cases x with
 | non=>cases r;rfl
 | bl _=>cases r;rfl
 | int _=>obtain ⟨t,rfl⟩:=r;rfl
 | str _=>obtain ⟨t,rfl⟩:=r;rfl
 | byt _=>obtain ⟨t,rfl⟩:=r;rfl
 | flt _=>obtain ⟨t,rfl⟩:=r;rfl
 | ref _=>cases r;rfl
 | ty _=>cases r;rfl
def RelV.inj {x y:V} {u:Value} (r:RelV x u) (q:RelV y u):x=y:=bZ (r.abs.symm.trans q.abs)
def Vals.inj:∀ {xs ys:List V} {us:List Value},Vals xs us->Vals ys us->xs=ys
 | _,_,_,.nil,.nil=>rfl
 | _,_,_,.cons r t,.cons r' t'=>by rw [r.inj r',Vals.inj t t']
section
variable {X:Cx} {pins:List (Addr × Obj)} {σ:St} {H:Hp} {s:aG} {a:Addr} {xs ys:List V}
def SqL.of {K:bh} (h:H a=some (.lst xs)):SqL K H a xs:=.inl (.inl h)
def SqT.of {K:bh} (h:H a=some (.tup xs)):SqT K H a xs:=.inl (.inl h)
def Inv.list (I:Inv X pins σ H s) (h:SqL X.K H a xs):∃ its:List Value,Vals xs its/\PlainL s.heap a its.toArray/\xs.length<=sizeLine:=by
 rcases h with h | ⟨o,its,n,hk,hc,hd,hs,hz,r⟩
 ·obtain ⟨z,its,n,r,e⟩:=h.ok I.hok
  exact ⟨its,r,⟨_,n,e,rfl,rfl,rfl⟩,z⟩
 ·refine ⟨its.toList,r,⟨o,n,I.kIn a o hk,hc,hd,by simpa using hs⟩,?_⟩
  have e:=r.length
  simp only [lC] at e
  omega
def Inv.tuple (I:Inv X pins σ H s) (h:SqT X.K H a xs):∃ its:List Value,Vals xs its/\IsTup s.heap a its.toArray/\xs.length<=sizeLine:=by
 rcases h with h | ⟨o,its,n,hk,hc,hs,hz,r⟩
 ·obtain ⟨z,its,r,p⟩:=h.ok I.hok
  exact ⟨its,r,p,z⟩
 ·refine ⟨its.toList,r,⟨o,I.kIn a o hk,hc,n,by simpa using hs⟩,?_⟩
  have e:=r.length
  simp only [lC] at e
  omega
def Inv.Ks (I:Inv X pins σ H s) (h:SqL X.K H a xs) (h':SqL X.K H a ys):xs=ys:=by
 obtain ⟨its,r,⟨o,n,e,_,_,d⟩,_⟩:=I.list h
 obtain ⟨its',r',⟨o',n',e',_,_,d'⟩,_⟩:=I.list h'
 rw [e] at e';cases e'
 rw [d] at d'
 injection d' with d1 _
 have:its=its':=by simpa using congrArg Ze d1
 subst this
 exact r.inj r'
def Inv.VH (I:Inv X pins σ H s) (h:SqT X.K H a xs) (h':SqT X.K H a ys):xs=ys:=by
 obtain ⟨its,r,⟨o,e,_,n,d⟩,_⟩:=I.tuple h
 obtain ⟨its',r',⟨o',e',_,n',d'⟩,_⟩:=I.tuple h'
 rw [e] at e';cases e'
 rw [d] at d'
 injection d' with d1 _
 have:its=its':=by simpa using congrArg Ze d1
 subst this
 exact r.inj r'
end
abbrev Cx.wish (X:Cx) (E:Value->aG->Prop):Cx:={ X with xe:=E }
abbrev Cx.nox (X:Cx):Cx:=X.wish fun _ _=>False
def Cx.Ok.wish {X:Cx} (ok:X.Ok) (E:Value->aG->Prop):(X.wish E).Ok :=
 ⟨ok.mod,ok.kind,ok.glob,ok.blt,ok.above,ok.inj,ok.has,ok.cab,ok.hd,ok.frames,ok.stk,ok.exf,ok.bs,ok.bsz,ok.aag,ok.exfs,ok.wF,ok.frf⟩
def Cx.Ok.mZ {X:Cx} {E:Value->aG->Prop} (ok:(X.wish E).Ok):X.Ok :=
 ⟨ok.mod,ok.kind,ok.glob,ok.blt,ok.above,ok.inj,ok.has,ok.cab,ok.hd,ok.frames,ok.stk,ok.exf,ok.bs,ok.bsz,ok.aag,ok.exfs,ok.wF,ok.frf⟩
section
variable {X:Cx} {pins:List (Addr × Obj)} {σ:St} {H:Hp} {s:aG} {E:Value->aG->Prop}
def Inv.wish (I:Inv X pins σ H s) (E:Value->aG->Prop):Inv (X.wish E) pins σ H s:=⟨I.ok.wish E,I.os,I.bare,I.base,I.loc,I.cell,I.free,I.qU,I.pin,I.hok,I.len⟩
def Inv.mZ (I:Inv (X.wish E) pins σ H s):Inv X pins σ H s:=⟨I.ok.mZ,I.os,I.bare,I.base,I.loc,I.cell,I.free,I.qU,I.pin,I.hok,I.len⟩
def SP.mZ {D:Ends} {f:Flow} {s':aG} (h:SP (X.wish E) pins D f s'):SP X pins D f s':=by
 cases f with
 | next=>obtain ⟨σ',H',I,q⟩:=h;exact ⟨σ',H',I.mZ,q⟩
 | brk=>obtain ⟨σ',H',I,q⟩:=h;exact ⟨σ',H',I.mZ,q⟩
 | cont=>obtain ⟨σ',H',I,q⟩:=h;exact ⟨σ',H',I.mZ,q⟩
 | ret u=>obtain ⟨v,σ',H',I,r,q⟩:=h;exact ⟨v,σ',H',I.mZ,r,q⟩
def PE.nox {e:Expr} {t:TE} (h:PE X.nox e t):PE X e t:=fun pins s σ H Q I hw =>
 iG (h pins s σ H Q (I.wish _) hw) (fun _ _ ⟨v,H',I',r,q⟩=>⟨v,H',I'.mZ,r,q⟩) fun _ _ z=>iH z
def PT.nox {e:Expr} {t:TT} (h:PT X.nox e t):PT X e t:=fun pins s σ H Q I hw =>
 iG (h pins s σ H Q (I.wish _) hw) (fun _ _ ⟨H',I',q⟩=>⟨H',I'.mZ,q⟩) fun _ _ z=>iH z
def PSs.nox {st:List Stmt} {t:TS} (h:PSs X.nox st t):PSs X st t:=fun pins s σ H D I hw =>
 iG (h pins s σ H D (I.wish _) hw) (fun _ _ q=>q.mZ) fun _ _ z=>iH z
end
section
variable {X:Cx} {st:Stmt} {rest:List Stmt} {t u:TS} {e:Expr} {te:TE} {pos:Pos}
@[reducible] def tNext:TS:=fun D σ H=>D.nx σ H
@[reducible] def tSeq (t u:TS):TS:=fun D σ H=>t { D with nx:=u D } σ H
def eY:PSs X [] tNext:=fun _ _ σ H _ I h=>FZ ⟨σ,H,I,h⟩
def aq (h1:PS X st t) (h2:PSs X rest u):PSs X (st::rest) (tSeq t u):=by
 intro pins s σ H D I h
 refine Yk (thn (h1 pins s σ H { D with nx:=u D } I h) fun f s1 q=>?_)
 cases f with
 | next =>
  obtain ⟨σ',H',I',q⟩:=q
  exact h2 pins s1 σ' H' D I' q
 | ret v=>exact q
 | brk=>exact q
 | cont=>exact q
def aF (h1:PS X st t):PSs X [st] t:=by
 intro pins s σ H D I h
 refine Yk (thn (h1 pins s σ H D I h) fun f s1 q=>?_)
 cases f with
 | next=>exact FZ q
 | ret v=>exact q
 | brk=>exact q
 | cont=>exact q
def Inv.quiet {pins:List (Addr × Obj)} {σ:St} {H:Hp} {s:aG} (I:Inv X pins σ H s):interactive X.env=false:=by simp [interactive,I.ok.kind]
@[reducible] def tDrop (te:TE):TS:=fun D σ H=>te σ H fun _ H1=>D.nx σ H1
def aY (he:PE X e te) (hs:Gm e none pos.line X.env=pure false:=by rfl):PS X (.Expr e pos) (tDrop te):=by
 intro pins s σ H D I h
 exact wpAny_Expr_any (thn (he pins s σ H _ I h) fun v s1 ⟨x,H1,I1,r1,q1⟩=>⟨σ,H1,I1,q1⟩) I.quiet hs
@[reducible] def tRet (te:TE):TS:=fun D σ H=>te σ H D.rt
def cA (he:PE X e te):PS X (.Return (some e) pos) (tRet te):=by
 intro pins s σ H D I h
 exact wpAny_Return_some (thn (he pins s σ H _ I h) fun v s1 ⟨x,H1,I1,r1,q1⟩=>⟨x,σ,H1,I1,r1,q1⟩)
@[reducible] def tIfS (c:TT) (t u:TS):TS:=fun D σ H=>c σ H fun b H1=>if b=true then t D σ H1 else u D σ H1
def gG {c:Expr} {a b:List Stmt} {tc:TT} (hc:PT X c tc) (ha:PSs X a t) (hb:PSs X b u):PS X (.If c a b pos) (tIfS tc t u):=by
 intro pins s σ H D I h
 refine wpAny_If (thn (hc pins s σ H _ I h) fun d s1 ⟨H1,I1,q1⟩=>?_)
 cases d with
 | true=>exact ha pins s1 σ H1 D I1 q1
 | false=>exact hb pins s1 σ H1 D I1 q1
end
abbrev TG:=V->St->Hp->(St->Hp->Prop)->Prop
abbrev TGs:=List V->St->Hp->(St->Hp->Prop)->Prop
def PG (X:Cx) (target:Expr) (t:TG):Prop :=
 ∀ (pins:List (Addr × Obj)) (s:aG) (σ:St) (H:Hp) (v:V) (u:Value) (Q:St->Hp->Prop),Inv X pins σ H s->RelV v u->t v σ H Q ->
  wpAny (model X.prog X.w) X.A (oO target X.env u) (fun _ s'=>∃ σ' H',Inv X pins σ' H' s'/\Q σ' H') X.xe s
def PGs (X:Cx) (ts:List Expr) (t:TGs):Prop :=
 ∀ (pins:List (Addr × Obj)) (s:aG) (σ:St) (H:Hp) (vs:List V) (us:List Value) (Q:St->Hp->Prop),Inv X pins σ H s->Vals vs us->t vs σ H Q ->
  wpAny (model X.prog X.w) X.A (assignInOrder ((vV ts X.env).map (·.2)) us) (fun _ s'=>∃ σ' H',Inv X pins σ' H' s'/\Q σ' H') X.xe s
abbrev TSet:=V->V->V->Hp->(Hp->Prop)->Prop
def PSet (X:Cx) (t:TSet):Prop :=
 ∀ (pins:List (Addr × Obj)) (s:aG) (σ:St) (H:Hp) (o i v:V) (ov iv u:Value) (Q:Hp->Prop),Inv X pins σ H s->RelV o ov->RelV i iv->RelV v u->t o i v H Q ->
  wpAny (model X.prog X.w) X.A (setItem ov iv u) (fun _ s'=>∃ H',Inv X pins σ H' s'/\Q H') X.xe s
section
variable {X:Cx} {pos:Pos}
@[reducible] def Uo (i:Nat):TG:=fun v σ H Q=>Q (σ.set i (some v)) H
def fB {i:Nat} {x:Str} (hN:X.N.Nodup) (hi:X.N[i]? = some x) (hx:Loc X.env.scope x) (hf:X.fn x=true\/X.env.scope.names.lookup x=some .local:=by first | exact .inl rfl | exact .inr rfl | assumption):PG X (.Name x pos) (Uo i):=by
 intro pins s σ H v u Q I r h
 exact Yj (Kr I hN hi hx r (fun s' I'=>⟨_,H,I',h⟩) hf)
def gNil:TGs:=fun vs σ H Q=>vs=[]/\Q σ H
def gCons (t:TG) (u:TGs):TGs:=fun vs σ H Q=>∃ v r,vs=v::r/\t v σ H fun σ' H'=>u r σ' H' Q
def Uq:PGs X [] gNil:=by
 intro pins s σ H vs us Q I r h
 obtain ⟨e,h⟩:=h
 subst e
 cases r
 exact assignInOrder_nil ⟨σ,H,I,h⟩
def qW {e:Expr} {es:List Expr} {t:TG} {u:TGs} (h1:PG X e t) (h2:PGs X es u)
  (hs:(vV (e::es) X.env).map (·.2)=oO e X.env::(vV es X.env).map (·.2):=by rfl):PGs X (e::es) (gCons t u):=by
 intro pins s σ H vs us Q I r h
 obtain ⟨v,vr,e1,h⟩:=h
 subst e1
 cases r with
 | cons r rr =>
  rw [hs]
  refine assignInOrder_cons (thn (h1 pins s σ H _ _ _ I r h) fun _ s1 ⟨σ1,H1,I1,q1⟩=>?_)
  exact h2 pins s1 σ1 H1 _ _ Q I1 rr q1
def gTup (K:bh) (n:Nat) (t:TGs):TG:=fun v σ H Q=>∃ a xs,v = .ref a/\SqT K H a xs/\xs.length=n/\t xs σ H Q
def aai {es:List Expr} {k:Nat} {t:TGs} {n:Nat} (hc:X.calm=true) (h:PGs X es t)
  (hn:(vV es X.env).length=n:=by rfl) (hst:(vV es X.env).findIdx? (·.1)=none:=by rfl):PG X (.Tuple es k pos) (gTup X.K n t):=by
 intro pins s σ H v u Q I r hw
 obtain ⟨a,xs,e1,hq,hl,hw⟩:=hw
 subst e1
 cases r
 obtain ⟨its,rv,ht,hz⟩:=I.tuple hq
 refine assign_Tuple_tuple (I.ok.hd hc) ht (by simp [hn,<- hl,rv.length]) hst fun h' hx=>?_
 have I1:Inv X pins σ H { s with heap:=h' }:=I.kept (t':=s.toks) fun b o e=>hx b o (cZ (bY e)) e
 exact h pins _ σ H xs _ Q I1 (by simpa using rv) hw
@[reducible] def gSub (to ti:TE) (t:TSet):TG:=fun v σ H Q=>to σ H fun o H1=>ti σ H1 fun i H2=>t o i v H2 fun H3=>Q σ H3
def Az {o i:Expr} {to ti:TE} {t:TSet} (ho:PE X o to) (hi:PE X i ti) (hs:PSet X t)
  (ha:∀ v,oO (.Subscript o i pos) X.env v=(do
   let ov <- z8 [v] (eval o X.env)
   let iv <- z8 [v,ov] (eval i X.env)
   standAt pos
   z8 [v,ov,iv] (setItem ov iv v)
   release [v,ov,iv] []):=by intro _;rfl):PG X (.Subscript o i pos) (gSub to ti t):=by
 intro pins s σ H v u Q I r h
 rw [ha]
 refine aP (nP (thn (ho pins s σ H _ I h) fun ov s1 ⟨x,H1,I1,r1,q1⟩=>?_))
 refine aP (nP (thn (hi pins s1 σ H1 _ I1 q1) fun iv s2 ⟨y,H2,I2,r2,q2⟩=>?_))
 refine aP (Yn (aP (nP (thn (hs pins s2 σ H2 x y v ov iv u _ I2 r1 r2 r q2) fun _ s3 ⟨H3,I3,q3⟩=>?_))))
 exact wpAny_release ⟨σ,H3,I3,q3⟩
@[reducible] def tAsg (te:TE) (g:TG):TS:=fun D σ H=>te σ H fun x H1=>g x σ H1 D.nx
def wG {tg e:Expr} {te:TE} {g:TG} (he:PE X e te) (hg:PG X tg g) (hs:swapsWithSole [tg] e pos.line X.env=pure false:=by rfl) (hw:swappedStores [tg] e X.env=pure none:=by rfl)
  (h1:(vV [tg] X.env).map (·.2)=[oO tg X.env]:=by rfl):PS X (.Assign [tg] e pos) (tAsg te g):=by
 intro pins s σ H D I h
 refine wpAny_Assign_stores (thn (he pins s σ H _ I h) fun v s1 ⟨x,H1,I1,r1,q1⟩=>?_) hs hw
 rw [h1]
 exact thn (hg pins s1 σ H1 x v _ I1 r1 q1) fun _ s2 q=>q
def aU {i:Nat} {x:Str} {e:Expr} {te:TE} {pos':Pos} (hN:X.N.Nodup) (hi:X.N[i]? = some x) (hx:Loc X.env.scope x) (he:PE X e te) (hs:Gm e (some (.Name x pos')) pos.line X.env=pure false:=by rfl) (hf:X.fn x=true\/X.env.scope.names.lookup x=some .local:=by first | exact .inl rfl | exact .inr rfl | assumption) :
  PS X (.Assign [.Name x pos'] e pos) (tAsg te (Uo i)):=by
 intro pins s σ H D I h
 refine wpAny_Assign_Name (thn (he pins s σ H _ I h) fun v s1 ⟨y,H1,I1,r1,q1⟩=>?_) hs
 exact Kr I1 hN hi hx r1 (fun s2 I2=>⟨_,H1,I2,q1⟩) hf
end
section
variable {X:Cx} {pos:Pos}
def RQ (c:TT) (tb:TS):TS:=fun D σ H=>∃ W:Nat->St->Hp->Prop,(∃ m,W m σ H)/\∀ m σ H,W m σ H ->
 c σ H fun b H1=>if b=true then ∃ N:St->Hp->Prop,(∀ σ' H',N σ' H'->∃ m',m'<m/\W m' σ' H')/\tb { D with nx:=N,ct:=N,bk:=D.nx } σ H1 else D.nx σ H1
def qX {c:Expr} {body:List Stmt} {tc:TT} {tb:TS} (hp:Om (model X.prog X.w) X.A X.env X.xe) (hc:PT X c tc) (hb:PSs X body tb):PS X (.While c body [] pos) (RQ tc tb):=by
 intro pins s σ H D I h
 obtain ⟨W,⟨m0,w0⟩,turn⟩:=h
 refine wpAny_While (codeAny_whileLoop (fun n s'=>∃ σ' H',Inv X pins σ' H' s'/\W n σ' H') ?_ m0 ⟨σ,H,I,w0⟩)
 rintro n s1 ⟨σ1,H1,I1,w1⟩
 refine tu hp (thn (hc pins s1 σ1 H1 _ I1 (turn n σ1 H1 w1)) fun b s2 ⟨H2,I2,q2⟩=>?_)
 cases b with
 | true =>
  obtain ⟨N,hN,q2⟩:=q2
  rw [if_pos rfl]
  refine tu hp (thn (hb pins s2 σ1 H2 _ I2 q2) fun f s3 q3=>?_)
  cases f with
  | next =>
   obtain ⟨σ3,H3,I3,n3⟩:=q3
   obtain ⟨m',hm,w3⟩:=hN σ3 H3 n3
   exact ⟨m',hm,σ3,H3,I3,w3⟩
  | cont =>
   obtain ⟨σ3,H3,I3,n3⟩:=q3
   obtain ⟨m',hm,w3⟩:=hN σ3 H3 n3
   exact ⟨m',hm,σ3,H3,I3,w3⟩
  | brk=>exact q3
  | ret v=>exact q3
 | false =>
  rw [if_neg gF]
  exact FZ ⟨σ1,H2,I2,q2⟩
end
structure It where
 go:Nat->Hp->Prop
 yld:Nat->Hp->V->Hp->Prop
 stop:Nat->Hp->Prop
def Dj (X:Cx) (pins:List (Addr × Obj)) (H:Hp) (b:Addr):Prop :=
 H b=none/\b≠X.env.locals/\b∉X.fs/\(b∈X.ex\/X.s₀.heap.objs.size<=b)/\(∀ x c,X.env.cells.lookup x=some c->c≠b)/\∀ p∈X.pn++pins,p.1≠b
def Inv.aaj {X:Cx} {pins:List (Addr × Obj)} {σ:St} {H H':Hp} {s:aG} {b:Addr} (I:Inv X pins σ H s) (hb:s.heap.objs.size<=b) (hn:H' b=none):Dj X pins H' b:=by
 refine ⟨hn,tO (gC I.lt hb),I.nofs hb,.inr (fH I.sz hb),fun x c e z=>?_,fun p hp z=>?_⟩
 ·obtain ⟨v,q⟩:=I.cell x c e
  exact absurd (gC q.lt (by rw [z];exact hb)) (qd _)
 ·exact absurd (gC (bY (I.pin p hp).1) (by rw [z];exact hb)) (qd _)
structure Turn (P:bG) (w:World) (K:bh) (tg:Expr) (J:It) (fp:List Addr) (it:Addr) (tn:Nat->Heap->Prop):Prop where
 mem:it∈fp
 obj:∀ i h,tn i h->∀ b∈fp,∃ o,h.get? b=some o/\∀ v,o.data ≠ .cell v
 keep:∀ i h h',tn i h->(∀ b∈fp,∀ o,h.get? b=some o->h'.get? b=some o)->tn i h'
 item:∀ (X:Cx),X.prog=P->X.w=w->X.K=K->X.calm=true->∀ (i:Nat) (pins:List (Addr × Obj)) (s:aG) (σ:St) (H:Hp) (E:Value->aG->Prop),Inv X pins σ H s->(∀ b∈fp,Dj X pins H b)->tn i s.heap->J.go i H ->
  wpAny (model P w) X.A (pyNext (.ref it)) (fun r s1=>∃ u,r=some u /\
   wpAny (model P w) X.A (Ga tg (.ref it) u) (fun _ s2=>∃ x H',Inv X pins σ H' s2/\RelV x u/\J.yld i H x H'/\tn (i+1) s2.heap/\∀ b∈fp,H' b=none) E s1) E s
 done:∀ (X:Cx),X.prog=P->X.w=w->X.K=K->X.calm=true->∀ (i:Nat) (pins:List (Addr × Obj)) (s:aG) (σ:St) (H:Hp) (E:Value->aG->Prop),Inv X pins σ H s->(∀ b∈fp,Dj X pins H b)->tn i s.heap->J.stop i H ->
  wpAny (model P w) X.A (pyNext (.ref it)) (fun r s1=>r=none/\Inv X pins σ H s1) E s
 self:∀ (A:bQ) (i:Nat) (s:aG) (Q:Value->aG->Prop) (E:Value->aG->Prop),tn i s.heap->Q (.ref it) s->wpAny (model P w) A (Ab (.ref it)) Q E s
abbrev TI:=St->Hp->(It->Hp->Prop)->Prop
def PIE (X:Cx) (pins:List (Addr × Obj)) (σ:St) (tg:Expr) (R:It->Hp->Prop) (itv:Value) (s2:aG):Prop :=
 ∃ (it:Addr) (fp:List Addr) (tn:Nat->Heap->Prop) (J:It) (H':Hp),itv = .ref it/\Inv X pins σ H' s2/\Turn X.prog X.w X.K tg J fp it tn/\tn 0 s2.heap/\(∀ b∈fp,Dj X pins H' b)/\R J H'
def PI (X:Cx) (tg iter:Expr) (wi:TI):Prop :=
 ∀ (pins:List (Addr × Obj)) (s:aG) (σ:St) (H:Hp) (R:It->Hp->Prop),Inv X pins σ H s->wi σ H R ->
  wpAny (model X.prog X.w) X.A (eval iter X.env) (fun v s1=>wpAny (model X.prog X.w) X.A (Ab v) (PIE X pins σ tg R) X.xe s1) X.xe s
def Ur {M:Model} {A:bQ} {E:Value->aG->Prop} {s:aG} {tg:Expr} {it:Addr} {u:Value} {o:Obj} {n:String} {vs:Array Value} {Q:Unit->aG->Prop} (ho:s.heap.get? it=some o) (hc:o.cls = .type n) (hd:o.data = .fields vs)
  (hn:["enumerate","zip","dict_itemiterator","dict_reverseitemiterator","odict_iterator","itertools.zip_longest","itertools.pairwise"].contains n=false) (hQ:Q () s):wpAny M A (Ga tg (.ref it) u) Q E s:=by
 unfold Ga
 cases tg <;> first
  | exact bH hQ
  | (cases u <;> first
    | exact bH hQ
    | (refine aP (wpAny_load ho ?_)
       rw [hc,hd]
       show wpAny M A (if (["enumerate","zip","dict_itemiterator","dict_reverseitemiterator","odict_iterator","itertools.zip_longest","itertools.pairwise"].contains n && vs[0]? == some (rawInt _))=true then _ else _) Q E s
       rw [if_neg (by intro h;rw [hn,Bool.false_and] at h;cases h)]
       exact bH hQ))
def Itl (K:bh) (a:Addr):It :=
 ⟨fun i H=>∃ xs x,SqL K H a xs/\xs[i]? = some x,fun i H x H'=>H'=H/\∀ xs,SqL K H a xs->xs[i]? = some x,fun i H=>∃ xs,SqL K H a xs/\xs.length<=i⟩
def Itt (K:bh) (a:Addr):It :=
 ⟨fun i H=>∃ xs x,SqT K H a xs/\xs[i]? = some x,fun i H x H'=>H'=H/\∀ xs,SqT K H a xs->xs[i]? = some x,fun i H=>∃ xs,SqT K H a xs/\xs.length<=i⟩
def Itr (lo:Int) (n:Nat):It:=⟨fun i _=>i<n,fun i H x H'=>H'=H/\x = .int (lo+i),fun i _=>n<=i⟩
def VJ {P:bG} {w:World} {K:bh} {tg:Expr} (a it:Addr):Turn P w K tg (Itl K a) [it] it (fun i h=>h.IsListIter it a i) where
 mem:=by simp
 obj:=fun i h st b hb=>by
  have e:b=it:=by simpa using hb
  subst e
  obtain ⟨o,e,c,d⟩:=st
  exact ⟨o,e,fun v z=>by rw [d] at z;cases z⟩
 keep:=fun i h h' st k=>st.at fun o e=>k it (by simp) o e
 item:=by
  intro X hP hw hK hc i pins s σ H E I hf st hg
  subst hP hw hK
  obtain ⟨xs,x,hq,hx⟩:=hg
  obtain ⟨its,rv,p,hz⟩:=I.list hq
  obtain ⟨u,hu,ru⟩:=rv.get hx
  obtain ⟨f0,f1,f2,f3,f4,f5⟩:=hf it (by simp)
  refine wpAny_pyNext_list_item st p.isList (x:=u) (by simpa using hu) fun h' st' sb=>?_
  have I1:Inv X pins σ H { s with heap:=h' }:=I.turned (t':=s.toks) (fun b o hb e=>(sb.2 b hb).trans e) f0 f1 f3 f4 f5
  obtain ⟨o,e,c,d⟩:=id st'
  exact ⟨u,rfl,Ur (s:={ s with heap:=h' }) e c d (by decide) ⟨x,H,I1,ru,⟨rfl,fun ys hy=>by rw [I.Ks hy hq];exact hx⟩,st',fun b hb=>(hf b hb).1⟩⟩
 done:=by
  intro X hP hw hK hc i pins s σ H E I hf st hg
  subst hP hw hK
  obtain ⟨xs,hq,hx⟩:=hg
  obtain ⟨its,rv,p,hz⟩:=I.list hq
  obtain ⟨f0,f1,f2,f3,f4,f5⟩:=hf it (by simp)
  have hl:=rv.length
  exact wpAny_pyNext_list_end (I.ok.hd hc) st p.isList (by simp;omega) fun h' eb=>⟨rfl,I.turned (t':=s.toks) (fun b o hb e=>eb b o hb e) f0 f1 f3 f4 f5⟩
 self:=fun _ _ _ _ _ st h=>wpAny_pyIter_listiter st h
def RT {P:bG} {w:World} {K:bh} {tg:Expr} (a it:Addr):Turn P w K tg (Itt K a) [it] it (fun i h=>h.IsTupleIter it a i) where
 mem:=by simp
 obj:=fun i h st b hb=>by
  have e:b=it:=by simpa using hb
  subst e
  obtain ⟨o,e,c,d⟩:=st
  exact ⟨o,e,fun v z=>by rw [d] at z;cases z⟩
 keep:=fun i h h' st k=>st.at fun o e=>k it (by simp) o e
 item:=by
  intro X hP hw hK hc i pins s σ H E I hf st hg
  subst hP hw hK
  obtain ⟨xs,x,hq,hx⟩:=hg
  obtain ⟨its,rv,p,hz⟩:=I.tuple hq
  obtain ⟨u,hu,ru⟩:=rv.get hx
  obtain ⟨f0,f1,f2,f3,f4,f5⟩:=hf it (by simp)
  refine wpAny_pyNext_tuple_item st (show s.heap.IsTuple a its.toArray from p) (x:=u) (by simpa using hu) fun h' st' sb=>?_
  have I1:Inv X pins σ H { s with heap:=h' }:=I.turned (t':=s.toks) (fun b o hb e=>(sb.2 b hb).trans e) f0 f1 f3 f4 f5
  obtain ⟨o,e,c,d⟩:=id st'
  exact ⟨u,rfl,Ur (s:={ s with heap:=h' }) e c d (by decide) ⟨x,H,I1,ru,⟨rfl,fun ys hy=>by rw [I.VH hy hq];exact hx⟩,st',fun b hb=>(hf b hb).1⟩⟩
 done:=by
  intro X hP hw hK hc i pins s σ H E I hf st hg
  subst hP hw hK
  obtain ⟨xs,hq,hx⟩:=hg
  obtain ⟨its,rv,p,hz⟩:=I.tuple hq
  obtain ⟨f0,f1,f2,f3,f4,f5⟩:=hf it (by simp)
  have hl:=rv.length
  exact wpAny_pyNext_tuple_end (I.ok.hd hc) st (show s.heap.IsTuple a its.toArray from p) (by simp;omega) fun h' eb=>⟨rfl,I.turned (t':=s.toks) (fun b o hb e=>eb b o hb e) f0 f1 f3 f4 f5⟩
 self:=fun _ _ _ _ _ st h=>wpAny_pyIter_tupleiter st h
def RV {P:bG} {w:World} {K:bh} {tg:Expr} (it:Addr) (lo:Int) (n:Nat):Turn P w K tg (Itr lo n) [it] it (fun i h=>IsRangeIter h it (lo+(i:Nat)*1) ((n:Int)-(i:Nat)) 1) where
 mem:=by simp
 obj:=fun i h st b hb=>by
  have e:b=it:=by simpa using hb
  subst e
  exact ⟨_,st,fun v z=>by
   have z':Data.fields _=Data.cell v:=z
   cases z'⟩
 keep:=fun i h h' st k=>k it (by simp) _ st
 item:=by
  intro X hP hw hK hc i pins s σ H E I hf st hg
  subst hP hw hK
  obtain ⟨f0,f1,f2,f3,f4,f5⟩:=hf it (by simp)
  have W:=Walks.range (prog:=X.prog) (w:=X.w) (I.ok.hd hc) it lo 1 n
  refine W.item i s _ _ hg st fun v h' tk hv st' kk=>?_
  obtain ⟨t,rfl⟩:=hv
  have I1:Inv X pins σ H { s with heap:=h',toks:=tk }:=I.turned (fun b o hb e=>kk b o (by simpa using hb) e) f0 f1 f3 f4 f5
  refine ⟨_,rfl,Ur (s:={ s with heap:=h',toks:=tk }) (n := "range_iterator") st' rfl rfl (by decide) ⟨.int (lo+i),H,I1,⟨t,?_⟩,⟨rfl,rfl⟩,st',fun b hb=>(hf b hb).1⟩⟩
  rw [Hg]
 done:=by
  intro X hP hw hK hc i pins s σ H E I hf st hg
  subst hP hw hK
  obtain ⟨f0,f1,f2,f3,f4,f5⟩:=hf it (by simp)
  exact wpAny_pyNext_range_end (I.ok.hd hc) st (by have:n<=i:=hg;omega) fun h' eb=>⟨rfl,I.turned (t':=s.toks) (fun b o hb e=>eb b o hb e) f0 f1 f3 f4 f5⟩
 self:=fun _ _ _ _ _ st h=>wpAny_pyIter_rangeiter st h
end L2
namespace L2
open PySem PySem.Spec PyProof.Rows
section
variable {X:Cx} {tg:Expr}
def iList (K:bh) (tl:TE):TI:=fun σ H R=>tl σ H fun x H1=>∃ a,x = .ref a/\(∃ xs,SqL K H1 a xs)/\R (Itl K a) H1
def iTup (K:bh) (tl:TE):TI:=fun σ H R=>tl σ H fun x H1=>∃ a,x = .ref a/\(∃ xs,SqT K H1 a xs)/\R (Itt K a) H1
def fU {l:Expr} {tl:TE} (hl:PE X l tl):PI X tg l (iList X.K tl):=by
 intro pins s σ H R I h
 refine thn (hl pins s σ H _ I h) fun v s1 ⟨x,H1,I1,r1,q1⟩=>?_
 obtain ⟨a,e,⟨xs,hq⟩,q⟩:=q1
 subst e
 cases r1
 obtain ⟨its,rv,p,hz⟩:=I1.list hq
 refine wpAny_pyIter_list p.isList ?_
 refine ⟨s1.heap.objs.size,[s1.heap.objs.size],_,_,H1,rfl,I1.kept (t':=s1.toks) fun b o e=>eZ _ e,VJ a _,⟨_,fW _ rfl,rfl,rfl⟩,fun b hb=>?_,q⟩
 have e:b=s1.heap.objs.size:=by simpa using hb
 subst e
 exact I1.aaj (aX _) (I1.hok.fresh (aX _))
def aak {l:Expr} {tl:TE} (hl:PE X l tl):PI X tg l (iTup X.K tl):=by
 intro pins s σ H R I h
 refine thn (hl pins s σ H _ I h) fun v s1 ⟨x,H1,I1,r1,q1⟩=>?_
 obtain ⟨a,e,⟨xs,hq⟩,q⟩:=q1
 subst e
 cases r1
 obtain ⟨its,rv,p,hz⟩:=I1.tuple hq
 refine wpAny_pyIter_tuple (show s1.heap.IsTuple a its.toArray from p) ?_
 refine ⟨s1.heap.objs.size,[s1.heap.objs.size],_,_,H1,rfl,I1.kept (t':=s1.toks) fun b o e=>eZ _ e,RT a _,⟨_,fW _ rfl,rfl,rfl⟩,fun b hb=>?_,q⟩
 have e:b=s1.heap.objs.size:=by simpa using hb
 subst e
 exact I1.aaj (aX _) (I1.hok.fresh (aX _))
def aal {pins:List (Addr × Obj)} {σ:St} {H:Hp} {s:aG} {R:It->Hp->Prop} {E:Value->aG->Prop} {lo hi:Int} {t u v:Tok} {tk:Nat} (I:Inv X pins σ H s) (h1:-(2 ^ 62)<=lo) (h2:lo<2 ^ 62) (h3:-(2 ^ 62)<=hi) (h4:hi<2 ^ 62)
  (q:R (Itr lo (hi-lo).toNat) H):wpAny (model X.prog X.w) X.A (Ab (.ref s.heap.objs.size)) (PIE X pins σ tg R) E { s with heap:=s.heap.push { cls:=.type "range",data:=.fields #[.int lo t,.int hi u,.int 1 v] },toks:=tk }:=by
 refine wpAny_pyIter_range (IsRange.new ..) (small_one h1 h2 h3 h4) ?_
 have I1:Inv X pins σ H { s with heap:=s.heap.push { cls:=.type "range",data:=.fields #[.int lo t,.int hi u,.int 1 v] },toks:=tk }:=I.kept fun b o e=>eZ _ e
 refine ⟨(s.heap.push { cls:=.type "range",data:=.fields #[.int lo t,.int hi u,.int 1 v] }).objs.size,[(s.heap.push { cls:=.type "range",data:=.fields #[.int lo t,.int hi u,.int 1 v] }).objs.size],_,_,H,rfl,
  I1.kept (t':=tk) fun b o e=>eZ _ e,RV _ lo (hi-lo).toNat,?_,fun b hb=>?_,q⟩
 ·have e1:lo+((0:Nat):Int)*1=lo:=by simp
  have e2:(((hi-lo).toNat:Nat):Int)-((0:Nat):Int)=afg lo hi 1:=by rw [rangeSize_one];split <;> omega
  show IsRangeIter _ _ (lo+((0:Nat):Int)*1) ((((hi-lo).toNat:Nat):Int)-((0:Nat):Int)) 1
  rw [e1,e2]
  exact fW _ rfl
 ·have e:b=(s.heap.push { cls:=.type "range",data:=.fields #[.int lo t,.int hi u,.int 1 v] }).objs.size:=by simpa using hb
  subst e
  exact I1.aaj (aX _) (I1.hok.fresh (aX _))
def iRng1 (ta:TA):TI:=fun σ H R=>ta σ H fun vs H1=>∃ j:Int,vs=[.int j] /\ -(2 ^ 62)<=j/\j<2 ^ 62/\R (Itr 0 j.toNat) H1
def VL {a:Expr} {ta:TA} {p pos:Pos} (hg:Gl X "range") (hm:X.mg "range" = none) (ha:PA X [a] ta) (hs:dM [a] X.env=[(false,eval a X.env)]:=by rfl):PI X tg (.Call (.Name "range" p) [a] [] pos) (iRng1 ta):=by
 intro pins s σ H R I h
 refine Call_ (lE I hg hm boot_range (Dy (thn (ha pos pins s σ H _ I h) fun us s1 ⟨vs,H1,I1,r1,q1⟩=>?_) hs rfl))
 obtain ⟨j,e,q1,q2,q⟩:=q1
 subst e
 cases r1 with
 | cons r rr =>
  cases rr
  obtain ⟨t,rfl⟩:=r
  exact call_range_1 (aal I1 (by omega) (by omega) q1 q2 (by simpa using q))
def tFor (wi:TI) (g:TG) (tb:TS):TS:=fun D σ H=>wi σ H fun J H1=>∃ W:Nat->Nat->St->Hp->Prop,(∃ m,W 0 m σ H1)/\∀ i m σ H,W i m σ H ->
 (J.stop i H/\D.nx σ H)\/(J.go i H/\∃ N:St->Hp->Prop,(∀ σ' H',N σ' H'->∃ m',m'<m/\W (i+1) m' σ' H')/\∀ x H',J.yld i H x H'->g x σ H' fun σ2 H2=>tb { D with nx:=N,ct:=N,bk:=D.nx } σ2 H2)
def Bb (fp:List Addr) (h:Heap):List (Addr × Obj):=fp.filterMap fun b=>(h.get? b).map fun o=>(b,o)
def o9 {fp:List Addr} {h:Heap} {b:Addr} {o:Obj} (hb:b∈fp) (e:h.get? b=some o):(b,o)∈Bb fp h:=Xm.mpr ⟨b,hb,by rw [e];rfl⟩
def VN {fp:List Addr} {h:Heap} {p:Addr × Obj} (hp:p∈Bb fp h):p.1∈fp/\h.get? p.1=some p.2:=by
 obtain ⟨b,hb,e⟩:=Xm.mp hp
 cases q:h.get? b with
 | none=>rw [q] at e;cases e
 | some o =>
  rw [q] at e
  have e':(b,o)=p:=bZ e
  subst e'
  exact ⟨hb,q⟩
def Inv.pinned {pins:List (Addr × Obj)} {σ:St} {H:Hp} {s:aG} {fp:List Addr} (I:Inv X pins σ H s) (hf:∀ b∈fp,Dj X pins H b) (ho:∀ b∈fp,∃ o,s.heap.get? b=some o/\∀ v,o.data ≠ .cell v):Inv X (pins++Bb fp s.heap) σ H s :=
 I.Ul fun p hp=>(gB.mp hp).elim (fun z=>I.pin p (rZ _ z)) fun z=>by
  obtain ⟨hb,e⟩:=VN z
  obtain ⟨f0,f1,f2,_⟩:=hf p.1 hb
  obtain ⟨o,e',d⟩:=ho p.1 hb
  rw [e] at e';cases e'
  exact ⟨e,f0,f1,f2,d⟩
def Inv.qY {pins pl:List (Addr × Obj)} {σ:St} {H:Hp} {s:aG} (I:Inv X (pins++pl) σ H s):Inv X pins σ H s:=I.Ul fun p hp=>I.pin p (rZ _ (Xh _ hp))
def jO {iter:Expr} {body:List Stmt} {wi:TI} {g:TG} {tb:TS} {pos:Pos} (hp:Om (model X.prog X.w) X.A X.env X.xe) (hc:X.calm=true) (hi:PI X tg iter wi) (hg:PG X tg g) (hb:PSs X body tb)
  (hs:∀ x,FT iter X.env x=pure x:=by intro _;rfl):PS X (.For tg iter body [] pos) (tFor wi g tb):=by
 intro pins s σ H D I h
 refine wpAny_For (thn (hi pins s σ H _ I h) fun v s1 h1=>thn h1 fun itv s2 h2=>?_) hs
 obtain ⟨it,fp,tn,J,H2,e,I2,T,st2,f2,W,⟨m0,w0⟩,turn⟩:=h2
 subst e
 have stat:∀ {H':Hp},(∀ b∈fp,H' b=none)->∀ b∈fp,Dj X pins H' b:=fun hn b hb=>⟨hn b hb,(f2 b hb).2⟩
 refine codeAny_forLoop_any (fun n s'=>∃ i σ' H',Inv X pins σ' H' s'/\tn i s'.heap/\(∀ b∈fp,H' b=none)/\W i n σ' H') ?_ m0 ⟨0,σ,H2,I2,st2,fun b hb=>(f2 b hb).1,w0⟩
 rintro n s3 ⟨i,σ3,H3,I3,st3,fr3,w3⟩
 rcases turn i n σ3 H3 w3 with ⟨stop,qn⟩ | ⟨go,N,hN,step⟩
 ·refine tu hp (thn (T.done X rfl rfl rfl hc i pins s3 σ3 H3 X.xe I3 (stat fr3) st3 stop) fun r s4 ⟨hr,I4⟩=>?_)
  subst hr
  exact FZ ⟨σ3,H3,I4,qn⟩
 ·refine tu hp (thn (T.item X rfl rfl rfl hc i pins s3 σ3 H3 X.xe I3 (stat fr3) st3 go) fun r s4 ⟨u,hr,h4⟩=>?_)
  subst hr
  refine tu hp (thn h4 fun _ s5 ⟨x,H5,I5,r5,y5,st5,fr5⟩=>?_)
  have I5':=I5.pinned (stat fr5) (T.obj _ _ st5)
  refine tu hp (thn (hg _ s5 σ3 H5 x u _ I5' r5 (step x H5 y5)) fun _ s6 ⟨σ6,H6,I6,q6⟩=>?_)
  refine tu hp (thn (hb _ s6 σ6 H6 _ I6 q6) fun f s7 q7=>?_)
  have again:∀ {σ7:St} {H7:Hp},Inv X (pins++Bb fp s5.heap) σ7 H7 s7->N σ7 H7->∃ m,m<n/\∃ i σ' H',Inv X pins σ' H' s7/\tn i s7.heap/\(∀ b∈fp,H' b=none)/\W i m σ' H':=fun {σ7 H7} I7 n7=>by
   obtain ⟨m',hm,w7⟩:=hN σ7 H7 n7
   refine ⟨m',hm,i+1,σ7,H7,I7.qY,T.keep _ _ _ st5 fun b hb o e=>(I7.pin (b,o) (rZ _ (rZ _ (o9 hb e)))).1,fun b hb=>?_,w7⟩
   obtain ⟨o,e,d⟩:=T.obj _ _ st5 b hb
   exact (I7.pin (b,o) (rZ _ (rZ _ (o9 hb e)))).2.1
  cases f with
  | next=>obtain ⟨σ7,H7,I7,n7⟩:=q7;exact again I7 n7
  | cont=>obtain ⟨σ7,H7,I7,n7⟩:=q7;exact again I7 n7
  | brk=>obtain ⟨σ7,H7,I7,q7⟩:=q7;exact ⟨σ7,H7,I7.qY,q7⟩
  | ret v=>obtain ⟨x7,σ7,H7,I7,r7,q7⟩:=q7;exact ⟨x7,σ7,H7,I7.qY,r7,q7⟩
end
def jc {K:bh} {a:Addr} {xs:List V} {g:TG} {tb:TS} {D:Ends} {σ:St} {H:Hp} (Pv:Nat->St->Hp->Prop) (h0:Pv 0 σ H) (hl:∀ i σ H,i<=xs.length->Pv i σ H->SqL K H a xs)
  (hs:∀ i x σ H,xs[i]? = some x->Pv i σ H->g x σ H fun σ2 H2=>tb { D with nx:=Pv (i+1),ct:=Pv (i+1),bk:=D.nx } σ2 H2) (hd:∀ σ H,Pv xs.length σ H->D.nx σ H) :
  ∃ W:Nat->Nat->St->Hp->Prop,(∃ m,W 0 m σ H)/\∀ i m σ H,W i m σ H ->
   ((Itl K a).stop i H/\D.nx σ H)\/((Itl K a).go i H/\∃ N:St->Hp->Prop,(∀ σ' H',N σ' H'->∃ m',m'<m/\W (i+1) m' σ' H')/\∀ x H',(Itl K a).yld i H x H'->g x σ H' fun σ2 H2=>tb { D with nx:=N,ct:=N,bk:=D.nx } σ2 H2):=by
 refine ⟨fun i m σ H=>m=xs.length-i/\i<=xs.length/\Pv i σ H,⟨xs.length,by simp,dN _,h0⟩,?_⟩
 rintro i m σ H ⟨rfl,hi,p⟩
 have q:=hl i σ H hi p
 by_cases hlt:i<xs.length
 ·refine .inr ⟨⟨xs,xs[i],q,by simp [hlt]⟩,Pv (i+1),fun σ' H' p'=>⟨xs.length-(i+1),by omega,rfl,hlt,p'⟩,fun x H' y=>?_⟩
  obtain ⟨e,y⟩:=y
  subst e
  exact hs i x σ _ (y xs q) p
 ·have e:i=xs.length:=by omega
  subst e
  exact .inl ⟨⟨xs,q,aX _⟩,hd σ H p⟩
def VP {lo:Int} {n:Nat} {g:TG} {tb:TS} {D:Ends} {σ:St} {H:Hp} (Pv:Nat->St->Hp->Prop) (h0:Pv 0 σ H)
  (hs:∀ i σ H,i<n->Pv i σ H->g (.int (lo+i)) σ H fun σ2 H2=>tb { D with nx:=Pv (i+1),ct:=Pv (i+1),bk:=D.nx } σ2 H2) (hd:∀ σ H,Pv n σ H->D.nx σ H) :
  ∃ W:Nat->Nat->St->Hp->Prop,(∃ m,W 0 m σ H)/\∀ i m σ H,W i m σ H ->
   ((Itr lo n).stop i H/\D.nx σ H)\/((Itr lo n).go i H/\∃ N:St->Hp->Prop,(∀ σ' H',N σ' H'->∃ m',m'<m/\W (i+1) m' σ' H')/\∀ x H',(Itr lo n).yld i H x H'->g x σ H' fun σ2 H2=>tb { D with nx:=N,ct:=N,bk:=D.nx } σ2 H2):=by
 refine ⟨fun i m σ H=>m=n-i/\i<=n/\Pv i σ H,⟨n,by simp,dN _,h0⟩,?_⟩
 rintro i m σ H ⟨rfl,hi,p⟩
 by_cases hlt:i<n
 ·refine .inr ⟨hlt,Pv (i+1),fun σ' H' p'=>⟨n-(i+1),by omega,rfl,hlt,p'⟩,fun x H' y=>?_⟩
  obtain ⟨e,y⟩:=y
  subst e y
  exact hs i σ _ hlt p
 ·have e:i=n:=by omega
  subst e
  exact .inl ⟨aX _,hd σ H p⟩
def qZ {c:TT} {tb:TS} {D:Ends} {σ:St} {H:Hp} (Pv:St->Hp->Prop) (μ:St->Hp->Nat) (h0:Pv σ H)
  (hs:∀ σ H,Pv σ H->c σ H fun b H1=>if b=true then tb { D with nx:=fun σ' H'=>Pv σ' H'/\μ σ' H'<μ σ H,ct:=fun σ' H'=>Pv σ' H'/\μ σ' H'<μ σ H,bk:=D.nx } σ H1 else D.nx σ H1)
  (mono:∀ σ H Q Q',(∀ b H1,Q b H1->Q' b H1)->c σ H Q->c σ H Q'):RQ c tb D σ H:=by
 refine ⟨fun m σ H=>m=μ σ H/\Pv σ H,⟨_,rfl,h0⟩,?_⟩
 rintro m σ H ⟨rfl,p⟩
 refine mono σ H _ _ (fun b H1 q=>?_) (hs σ H p)
 cases b with
 | true=>exact ⟨_,fun σ' H' ⟨p',l⟩=>⟨_,l,rfl,p'⟩,q⟩
 | false=>exact q
end L2
namespace L2
open PySem PySem.Spec PyProof.Rows
abbrev R2:=V->V->Hp->VK->Prop
def OpR (X:Cx) (f:Value->Value->Sem Value) (r:R2):Prop :=
 ∀ (pins:List (Addr × Obj)) (s:aG) (σ:St) (H:Hp) (x y:V) (v u:Value) (Q:VK),Inv X pins σ H s->RelV x v->RelV y u->r x y H Q ->
  wpAny (model X.prog X.w) X.A (f v u) (EP X pins σ Q) X.xe s
def UnR (X:Cx) (f:Value->Sem Value) (r:V->Hp->VK->Prop):Prop :=
 ∀ (pins:List (Addr × Obj)) (s:aG) (σ:St) (H:Hp) (x:V) (v:Value) (Q:VK),Inv X pins σ H s->RelV x v->r x H Q ->
  wpAny (model X.prog X.w) X.A (f v) (EP X pins σ Q) X.xe s
def gY (X:Cx) (f:Value) (r:List V->Hp->VK->Prop):Prop :=
 ∀ (pins:List (Addr × Obj)) (s:aG) (σ:St) (H:Hp) (xs:List V) (us:List Value) (Q:VK),Inv X pins σ H s->Vals xs us->r xs H Q ->
  wpAny (model X.prog X.w) X.A (call f us) (EP X pins σ Q) X.xe s
@[reducible] def tOp (r:R2) (ta tb:TE):TE:=fun σ H Q=>ta σ H fun x H1=>tb σ H1 fun y H2=>r x y H2 Q
def tUn (r:V->Hp->VK->Prop) (ta:TE):TE:=fun σ H Q=>ta σ H fun x H1=>r x H1 Q
def rI (C:Int->Int->Prop) (g:Int->Int->V):R2:=fun x y H Q=>∃ i j,x = .int i/\y = .int j/\C i j/\Q (g i j) H
def rI0 (g:Int->Int->V):R2:=fun x y H Q=>∃ i j,x = .int i/\y = .int j/\Q (g i j) H
def rU (g:Int->V):V->Hp->VK->Prop:=fun x H Q=>∃ i,x = .int i/\Q (g i) H
section
variable {X:Cx} {a b c:Expr} {ta tb tc:TE} {pos:Pos}
def binT (ha:PE X a ta) (hb:PE X b tb) {pins:List (Addr × Obj)} {s:aG} {σ:St} {H:Hp} {R:V->V->Hp->Prop} (I:Inv X pins σ H s)
  (h:ta σ H fun x H1=>tb σ H1 fun y H2=>R x y H2) {Q:Value->aG->Prop} {f:Value->Value->Sem Value}
  (hf:∀ v u s2 x y H2,Inv X pins σ H2 s2->RelV x v->RelV y u->R x y H2->wpAny (model X.prog X.w) X.A (f v u) Q X.xe s2) :
  wpAny (model X.prog X.w) X.A (eval a X.env) (fun v s₁=>wpAny (model X.prog X.w) X.A (eval b X.env) (fun u s₂=>wpAny (model X.prog X.w) X.A (f v u) Q X.xe s₂) X.xe s₁) X.xe s:=by
 refine thn (ha pins s σ H _ I h) fun v s1 ⟨x,H1,I1,r1,q1⟩=>?_
 refine thn (hb pins s1 σ H1 _ I1 q1) fun u s2 ⟨y,H2,I2,r2,q2⟩=>?_
 exact hf v u s2 x y H2 I2 r1 r2 q2
def aM {op:Operator} {r:R2} (ho:OpR X (mV op) r) (ha:PE X a ta) (hb:PE X b tb):PE X (.BinOp a op b pos) (tOp r ta tb):=by
 intro pins s σ H Q I h
 exact wpAny_BinOp (binT ha hb I h fun v u s2 x y H2 I2 rx ry q=>ho pins s2 σ H2 x y v u Q I2 rx ry q)
def pe_un {op:UnaryOp} {r:V->Hp->VK->Prop} (ho:UnR X (unaryOp op) r) (ha:PE X a ta):PE X (.UnaryOp op a pos) (tUn r ta):=by
 intro pins s σ H Q I h
 exact UnaryOp_ (thn (ha pins s σ H _ I h) fun v s1 ⟨x,H1,I1,r1,q1⟩=>ho pins s1 σ H1 x v Q I1 r1 q1)
def opI {f:Value->Value->Sem Value} {C:Int->Int->Prop} {g:Int->Int->Int}
  (rule:∀ (i j:Int) (t u:Tok) (s:aG) (Q:Value->aG->Prop) (E:Value->aG->Prop),C i j->Q (.int (g i j) s.toks) { s with toks:=s.toks+1 }->wpAny (model X.prog X.w) X.A (f (.int i t) (.int j u)) Q E s) :
  OpR X f (rI C fun i j=>.int (g i j)):=by
 intro pins s σ H x y v u Q I rx ry h
 obtain ⟨i,j,rfl,rfl,hc,q⟩:=h
 obtain ⟨t,rfl⟩:=rx
 obtain ⟨t',rfl⟩:=ry
 exact rule i j t t' s _ _ hc ⟨.int (g i j),H,I.tok _,⟨_,rfl⟩,q⟩
def opI0 {f:Value->Value->Sem Value} {g:Int->Int->Int}
  (rule:∀ (i j:Int) (t u:Tok) (s:aG) (Q:Value->aG->Prop) (E:Value->aG->Prop),Q (.int (g i j) s.toks) { s with toks:=s.toks+1 }->wpAny (model X.prog X.w) X.A (f (.int i t) (.int j u)) Q E s) :
  OpR X f (rI0 fun i j=>.int (g i j)):=by
 intro pins s σ H x y v u Q I rx ry h
 obtain ⟨i,j,rfl,rfl,q⟩:=h
 obtain ⟨t,rfl⟩:=rx
 obtain ⟨t',rfl⟩:=ry
 exact rule i j t t' s _ _ ⟨.int (g i j),H,I.tok _,⟨_,rfl⟩,q⟩
def opB0 {f:Value->Value->Sem Value} {g:Int->Int->Bool}
  (rule:∀ (i j:Int) (t u:Tok) (s:aG) (Q:Value->aG->Prop) (E:Value->aG->Prop),Q (.bool (g i j)) s->wpAny (model X.prog X.w) X.A (f (.int i t) (.int j u)) Q E s) :
  OpR X f (rI0 fun i j=>.bl (g i j)):=by
 intro pins s σ H x y v u Q I rx ry h
 obtain ⟨i,j,rfl,rfl,q⟩:=h
 obtain ⟨t,rfl⟩:=rx
 obtain ⟨t',rfl⟩:=ry
 exact rule i j t t' s _ _ ⟨.bl (g i j),H,I,rfl,q⟩
def CDiv (i j:Int):Prop:=0<j/\j<1073741824
def CPow (i j:Int):Prop:=0<=j/\j<=1000000/\i.natAbs<2 ^ 64
def aam (i j:Int):Prop:=(-(2 ^ 64)<i/\i<2 ^ 64)\/(-(2 ^ 64)<j/\j<2 ^ 64)
def aam.ok {i j:Int} (h:aam i j):Ou i j:=by
 rcases h with ⟨h1,h2⟩ | ⟨h1,h2⟩
 ·exact .of_left (Yo h1 h2)
 ·exact .of_right (Yo h1 h2)
def dD:OpR X (mV .Add) (rI0 fun i j=>.int (i+j)):=opI0 fun _ _ _ _ _ _ _ q=>add_int q
def Bc:OpR X (mV .Sub) (rI0 fun i j=>.int (i-j)):=opI0 fun _ _ _ _ _ _ _ q=>sub_int q
def ni:OpR X (mV .Mult) (rI aam fun i j=>.int (i*j)):=opI fun _ _ _ _ _ _ _ hc q=>mul_int q hc.ok
def gn:OpR X (mV .FloorDiv) (rI CDiv fun i j=>.int (i / j)):=opI fun i j _ _ _ _ _ hc q=>by
 have h1:(0:Int)<j:=hc.1
 have h2:j<1073741824:=hc.2
 exact Zt (by omega) (by rw [YS i (by omega)];exact q) (.inl (PyProof.noPylong_small (by omega)))
def dF:OpR X (mV .Mod) (rI (fun _ j=>0<j) fun i j=>.int (i % j)):=opI fun i j _ _ _ _ _ hc q=>by
 have h1:(0:Int)<j:=hc
 exact mod_int' (by omega) (by rw [Int.fmod_eq_emod_of_nonneg i (by omega)];exact q)
def afB:OpR X (mV .LShift) (rI CPow fun i j=>.int (i*2 ^ j.toNat)):=opI fun _ _ _ _ _ _ _ hc q=>lshift_int_small hc.1 hc.2.1 hc.2.2 q
def unI {f:Value->Sem Value} {g:Int->Int}
  (rule:∀ (i:Int) (t:Tok) (s:aG) (Q:Value->aG->Prop) (E:Value->aG->Prop),Q (.int (g i) s.toks) { s with toks:=s.toks+1 }->wpAny (model X.prog X.w) X.A (f (.int i t)) Q E s) :
  UnR X f (rU fun i=>.int (g i)):=by
 intro pins s σ H x v Q I rx h
 obtain ⟨i,rfl,q⟩:=h
 obtain ⟨t,rfl⟩:=rx
 exact rule i t s _ _ ⟨.int (g i),H,I.tok _,⟨_,rfl⟩,q⟩
def afC:UnR X (unaryOp .USub) (rU fun i=>.int (-i)):=unI fun _ _ _ _ _ q=>neg_int q
end
def scal:V->V->Bool
 | .non,.non=>true | .non,.int _=>true | .int _,.non=>true | .non,.bl _=>true | .bl _,.non=>true | .non,.str _=>true | .str _,.non=>true
 | .int _,.int _=>true | .bl _,.bl _=>true | .str _,.str _=>true | .byt _,.byt _=>true
 | .int _,.str _=>true | .str _,.int _=>true | .bl _,.str _=>true | .str _,.bl _=>true
 | _,_=>false
def rEq:R2:=fun x y H Q=>scal x y=true/\Q (.bl (decide (x=y))) H
def rNe:R2:=fun x y H Q=>scal x y=true/\Q (.bl (!decide (x=y))) H
def Us {i j:Int}:decide (V.int i=V.int j)=(i == j):=by
 rw [GP]
 simp
def aan {i j:Bool}:decide (V.bl i=V.bl j)=(i == j):=by
 rw [GP]
 simp
def Ut {i j:Str}:decide (V.str i=V.str j)=(i == j):=by
 rw [GP]
 simp
def Uu {i j:Array UInt8}:decide (V.byt i=V.byt j)=(i.toList == j.toList):=by
 rw [GP]
 cases i
 cases j
 simp
section
variable {X:Cx} {a b c:Expr} {ta tb tc:TE} {pos:Pos}
def cV {pins:List (Addr × Obj)} {σ:St} {H:Hp} {s:aG} {Q:VK} {k k':Bool} (I:Inv X pins σ H s) (q:Q (.bl k) H) (e:k=k'):EP X pins σ Q (.bool k') s:=by
 subst e
 exact ⟨.bl k,H,I,rfl,q⟩
def qe:OpR X (iV .Eq) rEq:=by
 intro pins s σ H x y v u Q I rx ry h
 obtain ⟨hs,q⟩:=h
 cases x with
 | non =>
  cases rx
  cases y with
  | non=>cases ry;exact aeS (cV I q (by simp))
  | bl j=>cases ry;exact aeT (cV I q (by simp))
  | int j=>obtain ⟨t',rfl⟩:=ry;exact aeY (cV I q (by simp))
  | str j=>obtain ⟨t',rfl⟩:=ry;exact aeZ (cV I q (by simp))
  | _=>exact absurd (show false=true from hs) gF
 | bl i =>
  cases rx
  cases y with
  | non=>cases ry;exact aeU (cV I q (by simp))
  | bl j=>cases ry;exact eq_bool (cV I q aan)
  | str j=>obtain ⟨t',rfl⟩:=ry;exact ae6 (cV I q (by simp))
  | _=>exact absurd (show false=true from hs) gF
 | int i =>
  obtain ⟨t,rfl⟩:=rx
  cases y with
  | non=>cases ry;exact ae0 (cV I q (by simp))
  | int j=>obtain ⟨t',rfl⟩:=ry;exact eq_int (cV I q Us)
  | str j=>obtain ⟨t',rfl⟩:=ry;exact afa (cV I q (by simp))
  | _=>exact absurd (show false=true from hs) gF
 | str i =>
  obtain ⟨t,rfl⟩:=rx
  cases y with
  | non=>cases ry;exact ae1 (cV I q (by simp))
  | bl j=>cases ry;exact ae7 (cV I q (by simp))
  | int j=>obtain ⟨t',rfl⟩:=ry;exact afb (cV I q (by simp))
  | str j=>obtain ⟨t',rfl⟩:=ry;exact eq_str (cV I q Ut)
  | _=>exact absurd (show false=true from hs) gF
 | byt i =>
  obtain ⟨t,rfl⟩:=rx
  cases y with
  | byt j=>obtain ⟨t',rfl⟩:=ry;exact PySem.W.eq_bytes (cV I q Uu)
  | _=>exact absurd (show false=true from hs) gF
 | _=>cases y <;> exact absurd (show false=true from hs) gF
def op_ne:OpR X (iV .NotEq) rNe:=by
 intro pins s σ H x y v u Q I rx ry h
 obtain ⟨hs,q⟩:=h
 cases x with
 | non =>
  cases rx
  cases y with
  | non=>cases ry;exact aeV (cV I q (by simp))
  | bl j=>cases ry;exact aeW (cV I q (by simp))
  | int j=>obtain ⟨t',rfl⟩:=ry;exact ae2 (cV I q (by simp))
  | str j=>obtain ⟨t',rfl⟩:=ry;exact ae3 (cV I q (by simp))
  | _=>exact absurd (show false=true from hs) gF
 | bl i =>
  cases rx
  cases y with
  | non=>cases ry;exact aeX (cV I q (by simp))
  | bl j=>cases ry;exact ne_bool (cV I q (congrArg not aan))
  | str j=>obtain ⟨t',rfl⟩:=ry;exact ae8 (cV I q (by simp))
  | _=>exact absurd (show false=true from hs) gF
 | int i =>
  obtain ⟨t,rfl⟩:=rx
  cases y with
  | non=>cases ry;exact ae4 (cV I q (by simp))
  | int j=>obtain ⟨t',rfl⟩:=ry;exact ne_int (cV I q (congrArg not Us))
  | str j=>obtain ⟨t',rfl⟩:=ry;exact afc (cV I q (by simp))
  | _=>exact absurd (show false=true from hs) gF
 | str i =>
  obtain ⟨t,rfl⟩:=rx
  cases y with
  | non=>cases ry;exact ae5 (cV I q (by simp))
  | bl j=>cases ry;exact ae9 (cV I q (by simp))
  | int j=>obtain ⟨t',rfl⟩:=ry;exact afd (cV I q (by simp))
  | str j=>obtain ⟨t',rfl⟩:=ry;exact ne_str (cV I q (congrArg not Ut))
  | _=>exact absurd (show false=true from hs) gF
 | byt i =>
  obtain ⟨t,rfl⟩:=rx
  cases y with
  | byt j=>obtain ⟨t',rfl⟩:=ry;exact PySem.W.ne_bytes (cV I q (congrArg not Uu))
  | _=>exact absurd (show false=true from hs) gF
 | _=>cases y <;> exact absurd (show false=true from hs) gF
def Ku:OpR X (iV .Lt) (rI0 fun i j=>.bl (decide (i<j))):=opB0 fun _ _ _ _ _ _ _ q=>lt_int q
def adG:OpR X (iV .LtE) (rI0 fun i j=>.bl (decide (i<=j))):=opB0 fun _ _ _ _ _ _ _ q=>le_int q
def DN:OpR X (iV .Gt) (rI0 fun i j=>.bl (decide (j<i))):=opB0 fun _ _ _ _ _ _ _ q=>gt_int q
def aao:OpR X (iV .GtE) (rI0 fun i j=>.bl (decide (j<=i))):=opB0 fun _ _ _ _ _ _ _ q=>ge_int q
def afD:OpR X (iV .Is) (fun x y H Q=>y = .non/\Q (.bl (decide (x = .non))) H):=by
 intro pins s σ H x y v u Q I rx ry h
 obtain ⟨rfl,q⟩:=h
 cases ry
 refine is_none_gen (cV I q ?_)
 cases x <;> first
  | (cases rx;rfl)
  | (obtain ⟨t,rfl⟩:=rx;rfl)
def HY:OpR X (iV .IsNot) (fun x y H Q=>y = .non/\Q (.bl (!decide (x = .non))) H):=by
 intro pins s σ H x y v u Q I rx ry h
 obtain ⟨rfl,q⟩:=h
 cases ry
 refine isnot_none_gen (cV I q ?_)
 cases x <;> first
  | (cases rx;rfl)
  | (obtain ⟨t,rfl⟩:=rx;rfl)
def OpR.or {f:Value->Value->Sem Value} {r r':R2} (h:OpR X f r) (h':OpR X f r'):OpR X f (fun x y H Q=>r x y H Q\/r' x y H Q):=by
 intro pins s σ H x y v u Q I rx ry q
 rcases q with q | q
 ·exact h pins s σ H x y v u Q I rx ry q
 ·exact h' pins s σ H x y v u Q I rx ry q
def cP (b:Expr) {op:CmpOp} (h:op ≠ .In:=by decide) (h2:op ≠ .NotIn:=by decide):Gb op b=false:=by
 have e1:(op == CmpOp.In)=false:=by cases op <;> first | rfl | exact absurd rfl h
 have e2:(op == CmpOp.NotIn)=false:=by cases op <;> first | rfl | exact absurd rfl h2
 cases b <;> simp [Gb,e1,e2]
def Uv {op:CmpOp} {r:R2} (ho:OpR X (iV op) r) (ha:PE X a ta) (hb:PE X b tb) (hm:Gb op b=false):PE X (.Compare a [op] [b] pos) (tOp r ta tb):=by
 intro pins s σ H Q I h
 exact wpAny_Compare1 (binT ha hb I h fun v u s2 x y H2 I2 rx ry q=>ho pins s2 σ H2 x y v u Q I2 rx ry q) hm
@[reducible] def aap (t:TE):TT:=fun σ H Q=>t σ H fun x H'=>∃ k,x = .bl k/\Q k H'
def cg {op:CmpOp} {r:R2} (ho:OpR X (iV op) r) (ha:PE X a ta) (hb:PE X b tb) (hm:Gb op b=false):PT X (.Compare a [op] [b] pos) (aap (tOp r ta tb)):=by
 intro pins s σ H Q I h
 refine wpAny_isTrue_Compare1 (thn (ha pins s σ H _ I h) fun v s1 ⟨x,H1,I1,r1,q1⟩=>thn (hb pins s1 σ H1 _ I1 q1) fun u s2 ⟨y,H2,I2,r2,q2⟩ =>
  thn (ho pins s2 σ H2 x y v u _ I2 r1 r2 q2) fun c s3 ⟨z,H3,I3,r3,k,e,q3⟩=>?_) hm
 subst e
 cases r3
 exact zU ⟨H3,I3,q3⟩
def Ia:(sizeLine:Nat)<2 ^ 63:=by rw [Gh];decide
def fV:OpR X (mV .Add) (fun x y H Q=>∃ i j,x = .str i/\y = .str j/\i.length+j.length<=sizeLine/\Q (.str (i++j)) H):=by
 intro pins s σ H x y v u Q I rx ry h
 obtain ⟨i,j,rfl,rfl,hz,q⟩:=h
 obtain ⟨t,rfl⟩:=rx
 obtain ⟨t',rfl⟩:=ry
 exact add_str (fun t' tk=>⟨.str (i++j),H,I.tok _,⟨_,rfl⟩,q⟩) hz
def vals1 {x:V} {us:List Value} (r:Vals [x] us):∃ u,us=[u]/\RelV x u:=by
 cases r with
 | cons r1 r2=>cases r2;exact ⟨_,rfl,r1⟩
def vals2 {x y:V} {us:List Value} (r:Vals [x,y] us):∃ u w',us=[u,w']/\RelV x u/\RelV y w':=by
 cases r with
 | cons r1 r2 =>
  cases r2 with
  | cons r3 r4=>cases r4;exact ⟨_,_,rfl,r1,r3⟩
def pA:gY X (.type "str") (fun xs H Q=>∃ i,xs=[.int i]/\i.natAbs.log2<1920/\Q (.str (toString i)) H):=by
 intro pins s σ H xs us Q I r h
 obtain ⟨i,rfl,hz,q⟩:=h
 obtain ⟨u,rfl,t,rfl⟩:=vals1 r
 exact PySem.P.str_of_int hz ⟨.str _,H,I.tok _,⟨_,rfl⟩,q⟩
def LenV (K:bh) (x:V) (H:Hp) (n:Nat):Prop :=
 match x with
 | .str y=>y.length<=sizeLine/\n=y.length
 | .byt y=>y.size<=sizeLine/\n=y.size
 | .ref p=>(∃ xs,SqL K H p xs/\n=xs.length)\/∃ xs,SqT K H p xs/\n=xs.length
 | _=>False
def aaq:gY X (.builtin "len") (fun xs H Q=>∃ x n,xs=[x]/\LenV X.K x H n/\Q (.int n) H):=by
 intro pins s σ H xs us Q I r h
 obtain ⟨x,n,rfl,e,q⟩:=h
 obtain ⟨u,rfl,rx⟩:=vals1 r
 have hl:=Ia
 have hs:sizeLine=16777216:=Gh
 cases x with
 | str y =>
  obtain ⟨t,rfl⟩:=rx
  obtain ⟨hy,e'⟩:y.length<=sizeLine/\n=y.length:=e
  subst e'
  exact len_str (by omega) ⟨.int _,H,I.tok _,⟨_,rfl⟩,q⟩
 | byt y =>
  obtain ⟨t,rfl⟩:=rx
  obtain ⟨hy,e'⟩:y.size<=sizeLine/\n=y.size:=e
  subst e'
  exact PySem.W.len_bytes (by omega) ⟨.int _,H,I.tok _,⟨_,rfl⟩,q⟩
 | ref p =>
  cases rx
  have e':(∃ xs,SqL X.K H p xs/\n=xs.length)\/∃ xs,SqT X.K H p xs/\n=xs.length:=e
  rcases e' with ⟨xs,hx,e'⟩ | ⟨xs,hx,e'⟩
  ·subst e'
   obtain ⟨its,r',pl,hz⟩:=I.list hx
   have hlen:=r'.length
   exact Calls.call_len_list pl.isList (by simp only [cO];omega) ⟨.int xs.length,H,I.tok _,⟨_,by simp only [cO];rw [hlen]⟩,q⟩
  ·subst e'
   obtain ⟨its,r',pl,hz⟩:=I.tuple hx
   have hlen:=r'.length
   exact len_tuple pl (by simp only [cO];omega) ⟨.int xs.length,H,I.tok _,⟨_,by simp only [cO];rw [hlen]⟩,q⟩
 | _=>exact (show False from e).elim
end
end L2
namespace L2
open PySem PySem.Spec PyProof.Rows
structure RW (h:Heap) (x dx C:Addr) (mA:Str->Option Value):Prop where
 obj:h.get? x=some (qG C dx)
 ns:h.Ns1 dx mA
 ne:dx≠x
def VR {h:Heap} {dx:Addr} {mA:Str->Option Value} (n:h.Ns1 dx mA):∃ od,h.get? dx=some od/\∀ name,FN name od=some (mA name):=by
 obtain ⟨o,es,ep,ho,hd,hk,_,hm⟩:=n
 refine ⟨o,ho,fun name=>?_⟩
 have e:=hm name
 unfold nsFind findBy at e
 rw [<- Array.find?_toList] at e
 unfold FN
 rw [hd]
 dsimp only
 split
 ·rename_i y q
  rw [q] at e
  exact congrArg some e
 ·rename_i q
  rw [q] at e
  have a:es.toList.any (·.refKey)=false:=by
   rw [List.any_eq_false]
   intro y hy
   obtain ⟨z,t,hkey⟩:=hk y (Array.mem_toList_iff.mp hy)
   simp [afo,hkey]
  have a':¬ es.toList.any (·.refKey)=true:=by rw [a];exact gF
  rw [if_neg a']
  exact congrArg some e
def RW.look {h:Heap} {x dx C:Addr} {mA:Str->Option Value} (I:RW h x dx C mA):∃ od,PySem.W.InstAt h x (qG C dx) C (some od)/\∀ name,FN name od=some (mA name) :=
 let ⟨od,ho,hl⟩:=VR I.ns
 ⟨od,⟨I.obj,rfl,rfl,ho⟩,hl⟩
section
variable {prog:bG} {w:World} {A:bQ} {E:Value->aG->Prop} {s:aG} {K:bh} {x dx C f:Addr} {mA:Str->Option Value} {name:Str} {v:Value}
def get_map {expr:Bool} {Q:Value->aG->Prop} (X:K.In s.heap) (I:RW s.heap x dx C mA) (hg:vP K C name=true) (hh:zP K C=true)
  (ha:jC K (.ref C) name=some none) (hv:mA name=some v) (hv':X3 v=true) (h:Q v { s with toks:=s.toks+1 }) :
  wpAny (model prog w) A (getAttr (.ref x) name expr) Q E s:=by
 obtain ⟨od,J,hl⟩:=I.look
 exact PySem.W.get_value X J (Nv hg).1 (PySem.W.findObj_own hh ha rfl (by rw [hl,hv])) hv' h
def aar {pl:Sem Bool} {Q:Value × List Value->aG->Prop} (X:K.In s.heap) (I:RW s.heap x dx C mA) (hg:vP K C name=true)
  (hf:jC K (.ref C) name=some (some (.ref f))) (ht:zT K (.ref f)=true) (hv:mA name=none) (h:Q (.ref f,[.ref x]) s) :
  wpAny (model prog w) A (Oo (.ref x) name pl) Q E s:=by
 obtain ⟨od,J,hl⟩:=I.look
 exact PySem.W.method_fn X J (Nv hg).1 (Nv hg).2 hf (beq_iff_eq.mp ht) (by show (FN name od).map (·.isSome)=some false;rw [hl,hv];rfl) h
def acg {ns:List Str} {Q:Unit->aG->Prop} (X:K.In s.heap) (I:RW s.heap x dx C mA)
  (hs:jC K (.ref C) "__setattr__" = some (some (.builtin "object.__setattr__"))) (hp:Fz K C=true) (ht:Nz K C name=some none) (hh:zP K C=true)
  (hw:N8 mA ns) (hsz:ns.length<=sizeLine)
  (h:∀ h',RW h' x dx C (fun y=>if y=name then some v else mA y)->Ae dx s.heap h'->Q () { s with heap:=h',toks:=s.toks+2 }) :
  wpAny (model prog w) A (setAttr (.ref x) name v) Q E s:=by
 obtain ⟨od,J,hl⟩:=I.look
 refine PySem.W.set_plain X J hs (PySem.W.osa_open (s:={ s with toks:=s.toks+1 }) (r:=none) X J hp ht fun b=>?_)
 obtain ⟨cd,hc,hd'⟩:=PySem.W.any_some hh
 have hx:s.heap.get? x=some ⟨.ref C,some dx,.plain,#[]⟩:=I.obj
 refine aP (bH (aP (aP (wpAny_loadPart hx (aP (afl (s:={ s with toks:=s.toks+1 }) (PySem.W.looks_clsIn X hc) ?_))))))
 rw [hd']
 refine bH (a:=some dx) (aP (bH (aP ?_)))
 refine wpAny_nsSet1 (s:={ s with toks:=s.toks+1 }) I.ns fun h' hn2 hs2=>?_
 obtain ⟨oD,esD,epD,hoD,hdD,hcD⟩:=hn2.count (afm name v hw)
 refine aP (wpAny_lookBehind hoD (by rw [hdD];exact pastItsLine_dict (fH hcD (by rw [cX];omega))) ?_)
 exact bH (h _ ⟨(hs2.2 _ (aL I.ne)).trans I.obj,hn2,I.ne⟩ hs2)
def aas {R:qK->aG->Prop} {vs:List Value} {kw:List (Str × Value)} (X:K.In s.heap) (hm:FJ K C=true)
  (hi:jC K (.ref C) "__init__" = some (some (.ref f))) (hf:PySem.W.typeIn K (.ref f)=some (.type "function"))
  (h:g8 (model prog w) (A.under (.builtin "type.__call__" ⟨.ref C::vs,kw⟩)) (.call (.ref f) ⟨.ref (s.heap.objs.size+1)::vs,kw⟩) (PySem.W.InitBack (s.heap.objs.size+1) R)
   { s with heap:=(s.heap.push uK).push (qG C s.heap.objs.size) }) :
  g8 (model prog w) A (.call (.ref C) ⟨vs,kw⟩) R s:=by
 obtain ⟨hh,g,d,t,os⟩:=s
 exact PySem.W.make_core (PySem.W.makes_of X hm) (PySem.W.looks_findIn X hi) (fun self=>PySem.W.bind_fn X self hf) (.inl rfl) h
end
def aB (f:Str) (v:V):List (Str × V)->List (Str × V)
 | []=>[(f,v)]
 | (g,x)::r=>if g=f then (g,v)::r else (g,x)::aB f v r
def yj (f g:Str) (v:V):∀ fs:List (Str × V),(aB f v fs).lookup g=if g=f then some v else fs.lookup g
 | []=>by
  show sZ g [(f,v)]=_
  by_cases h:g=f
  ·have hb:(g == f)=true:=beq_iff_eq.mpr h
   simp only [sZ,hb,if_pos h]
  ·have hb:(g == f)=false:=beq_eq_false_iff_ne.mpr h
   simp only [sZ,hb,if_neg h]
 | (k,x)::r=>by
  have ih:=yj f g v r
  rw [show aB f v ((k,x)::r)=(if k=f then (k,v)::r else (k,x)::aB f v r) from rfl]
  by_cases hk:k=f
  ·rw [if_pos hk]
   by_cases h:g=k
   ·have hb:(g == k)=true:=beq_iff_eq.mpr h
    simp only [sZ,hb,if_pos (h.trans hk)]
   ·have hb:(g == k)=false:=beq_eq_false_iff_ne.mpr h
    simp only [sZ,hb,if_neg (fun e:g=f=>h (e.trans hk.symm))]
  ·rw [if_neg hk]
   by_cases h:g=k
   ·have hb:(g == k)=true:=beq_iff_eq.mpr h
    simp only [sZ,hb,if_neg (fun e:g=f=>hk (h.symm.trans e))]
   ·have hb:(g == k)=false:=beq_eq_false_iff_ne.mpr h
    simp only [sZ,hb]
    exact ih
def wH (f:Str) (v:V):∀ fs:List (Str × V),f∈(aB f v fs).map (·.1)/\∀ g,g∈fs.map (·.1)->g∈(aB f v fs).map (·.1)
 | []=>⟨by simp [aB],fun g h=>by simp at h⟩
 | (k,x)::r=>by
  obtain ⟨i1,i2⟩:=wH f v r
  rw [show aB f v ((k,x)::r)=(if k=f then (k,v)::r else (k,x)::aB f v r) from rfl]
  by_cases hk:k=f
  ·rw [if_pos hk]
   subst hk
   exact ⟨by simp,fun g h=>by simpa using h⟩
  ·rw [if_neg hk]
   refine ⟨?_,fun g h=>?_⟩
   ·rw [dZ]
    exact eU _ i1
   ·rw [dZ] at h ⊢
    rcases cC.mp h with e | e
    ·exact cC.mpr (.inl e)
    ·exact eU _ (i2 g e)
def yp (f:Str) (v:V):∀ fs:List (Str × V),(aB f v fs).length<=fs.length+1
 | []=>by simp [aB]
 | (k,x)::r=>by
  have ih:=yp f v r
  rw [show aB f v ((k,x)::r)=(if k=f then (k,v)::r else (k,x)::aB f v r) from rfl]
  by_cases hk:k=f
  ·rw [if_pos hk,cX,cX];omega
  ·rw [if_neg hk,cX,cX];omega
def qx.some_of {v:V} {o:Option Value} (r:qx (some v) o):∃ u,o=some u/\RelV v u:=by
 cases o with
 | none=>exact (show False from r).elim
 | some u=>exact ⟨u,rfl,r⟩
def qx.none_of {o:Option Value} (r:qx none o):o=none:=by
 cases o with
 | none=>rfl
 | some u=>exact (show False from r).elim
def V0 {v:V} {u:Value} (r:RelV v u):X3 u=true:=by
 cases v with
 | non=>cases (show u=Value.none from r);rfl
 | bl b=>cases (show u=Value.bool b from r);rfl
 | int i=>obtain ⟨t,e⟩:=(show ∃ t,u=Value.int i t from r);cases e;rfl
 | str x=>obtain ⟨t,e⟩:=(show ∃ t,u=Value.str x t from r);cases e;rfl
 | byt b=>obtain ⟨t,e⟩:=(show ∃ t,u=Value.bytes b t from r);cases e;rfl
 | flt b=>obtain ⟨t,e⟩:=(show ∃ t,u=Value.float b t from r);cases e;rfl
 | ref a=>cases (show u=Value.ref a from r);rfl
 | ty n=>cases (show u=Value.type n from r);rfl
section
variable {P:bG} {w:World} {H H':Hp} {h h':Heap} {a C dx:Addr} {fs fs':List (Str × V)}
def zj (hok:HOk P w H h) (e:H a=some (.ins C dx fs)):∃ mA,RW h a dx C mA/\(∀ f,qx (fs.lookup f) (mA f))/\N8 mA (fs.map (·.1))/\fs.length<=1000/\H dx=some (.own a):=by
 obtain ⟨d,z,ne,ob,mA,n,r,q⟩:=(show dw P w H h a (.ins C dx fs) from hok a _ e)
 exact ⟨mA,⟨ob,n,ne⟩,r,q,z,d⟩
end
structure Cls (K:bh) (C:Addr):Prop where
 pg:vP K C Ow=true
 hd:zP K C=true
 po:Fz K C=true
 sa:jC K (.ref C) "__setattr__" = some (some (.builtin "object.__setattr__"))
def Cls.get {K:bh} {C:Addr} (c:Cls K C) (f:Str):vP K C f=true:=c.pg
def cB (K:bh) (C:Addr) (f:Str):Prop:=jC K (.ref C) f=some none
def cB.taker {K:bh} {C:Addr} {f:Str} (n:cB K C f):Nz K C f=some none:=by
 unfold Nz
 rw [show jC K (.ref C) f=some none from n]
 rfl
structure Con (K:bh) (C:Addr) (f:Str) (v:V) (u:Value):Prop where
 at_:jC K (.ref C) f=some (some u)
 rel:RelV v u
 get:XQ K u "__get__" = some none
 cp:PySem.W.copiedNames.contains f=false
structure Meth (K:bh) (C:Addr) (m:Str) (f:Addr):Prop where
 at_:jC K (.ref C) m=some (some (.ref f))
 fn:zT K (.ref f)=true
 kp:sH K (.ref f)=true
section
variable {X:Cx} {pins:List (Addr × Obj)} {σ:St} {H:Hp} {s:aG} {a C dx:Addr} {fs:List (Str × V)} {f:Str} {v:V} {A:bQ} {E:Value->aG->Prop}
def RX {b:Bool} {Q:Value->aG->Prop} (I:Inv X pins σ H s) (e:H a=some (.ins C dx fs)) (c:Cls X.K C) (n:cB X.K C f) (l:fs.lookup f=some v)
  (h:∀ u s',Inv X pins σ H s'->RelV v u->Q u s'):wpAny (model X.prog X.w) A (getAttr (.ref a) f b) Q E s:=by
 obtain ⟨mA,O,r,_,_,_⟩:=zj I.hok e
 obtain ⟨u,hu,ru⟩:=qx.some_of (v:=v) (o:=mA f) (by rw [<- l];exact r f)
 exact get_map I.kIn O (c.get f) c.hd n hu (V0 ru) (h u _ (I.tok _) ru)
def RZ {m:Str} {g:Addr} {pl:Sem Bool} {Q:Value × List Value->aG->Prop} (I:Inv X pins σ H s) (e:H a=some (.ins C dx fs)) (c:Cls X.K C) (k:Meth X.K C m g) (l:fs.lookup m=none)
  (h:Q (.ref g,[.ref a]) s):wpAny (model X.prog X.w) A (Oo (.ref a) m pl) Q E s:=by
 obtain ⟨mA,O,r,_,_,_⟩:=zj I.hok e
 have hn:mA m=none:=qx.none_of (by rw [<- l];exact r m)
 exact aar I.kIn O (c.get m) k.at_ k.fn hn h
def R4 {y:V} {u:Value} {Q:Unit->aG->Prop} (I:Inv X pins σ H s) (e:H a=some (.ins C dx fs)) (c:Cls X.K C) (n:cB X.K C f) (hl:fs.length<1000) (ry:RelV y u)
  (h:∀ s',Inv X pins σ (upd H a (.ins C dx (aB f y fs))) s'->Q () s'):wpAny (model X.prog X.w) A (setAttr (.ref a) f u) Q E s:=by
 obtain ⟨mA,O,r,wi,_,ho⟩:=zj I.hok e
 have hz:(fs.map (·.1)).length<=sizeLine:=by rw [aZ,Gh];omega
 refine acg I.kIn O c.sa c.po n.taker c.hd wi hz fun h' O' sb=>h _ ?_
 have hd:∃ o,h'.get? dx=some o:=let ⟨o,_,_,e',_⟩:=O'.ns;⟨o,e'⟩
 refine I.write (x:=a) (e:=dx) (by rw [e];exact True.intro) (.inr ho) (fun b q hb z=>(sb.2 b hb).trans z) hd ?_
 refine ⟨by rw [aA O.ne];exact ho,?_,O.ne,O'.obj,_,O'.ns,fun g=>?_,fun g hg=>?_⟩
 ·have:=yp f y fs;omega
 ·show qx ((aB f y fs).lookup g) (if g=f then some u else mA g)
  rw [yj]
  by_cases q:g=f
  ·rw [if_pos q,if_pos q];exact ry
  ·rw [if_neg q,if_neg q];exact r g
 ·by_cases q:g=f
  ·rw [q];exact (wH f y fs).1
  ·refine (wH f y fs).2 g (wi g fun z=>hg ?_)
   show (if g=f then some u else mA g)=none
   rw [if_neg q];exact z
def Inv.made (I:Inv X pins σ H s):Inv X pins σ (upd (upd H s.heap.objs.size (.own (s.heap.objs.size+1))) (s.heap.objs.size+1) (.ins C s.heap.objs.size []))
  { s with heap:=(s.heap.push uK).push (qG C s.heap.objs.size) }:=by
 have e1:(s.heap.push uK).get? s.heap.objs.size=some uK:=fW s.heap rfl
 have e2:((s.heap.push uK).push (qG C s.heap.objs.size)).get? (s.heap.objs.size+1)=some (qG C s.heap.objs.size):=by
  have:=fW (s.heap.push uK) (o:=qG C s.heap.objs.size) rfl
  rwa [Ac] at this
 have e3:(s.heap.push uK).Ns s.heap.objs.size (fun _=>none):=⟨uK,#[],_,e1,rfl,(fun e he=>absurd he (by simp)),fun _=>rfl⟩
 have I1:=I.laid (a:=s.heap.objs.size) (o:=.own (s.heap.objs.size+1)) (h':=s.heap.push uK) (t':=s.toks) (fun b u q=>eZ _ q) (aX _) ⟨_,e1⟩
 refine I1.laid (a:=s.heap.objs.size+1) (o:=.ins C s.heap.objs.size []) (t':=s.toks) (fun b u q=>eZ _ q) (Gx (Ac _ _)) ?_
 have ne:s.heap.objs.size≠s.heap.objs.size+1:=cZ (Gv _)
 refine ⟨by rw [aA ne,ak],dN _,ne,e2,fun _=>none,(afn e3).at fun o q=>eZ _ q,fun _=>True.intro,fun y hy=>absurd rfl hy⟩
def ach {prog:bG} {w:World} {env:Env} {e:Expr} {f:Str} {pos:Pos} {s:aG} {Q:Value->aG->Prop} (hb:tE e f env (eval e env)=eval e env)
  (h:wpAny (model prog w) A (eval e env) (fun o s₁=>wpAny (model prog w) A (getAttr o f true) Q E s₁) E s):wpAny (model prog w) A (eval (.Attribute e f pos) env) Q E s :=
 Attribute_any_ h (by rw [arm_eval_Attribute,hb])
end
def rFld (K:bh) (f:Str) (x:V) (H1:Hp) (Q:VK):Prop:=∃ a C dx fs v,x = .ref a/\H1 a=some (.ins C dx fs)/\Cls K C/\cB K C f/\fs.lookup f=some v/\Q v H1
@[reducible] def tFld (K:bh) (ta:TE) (f:Str):TE:=fun σ H Q=>ta σ H fun x H1=>rFld K f x H1 Q
def sFld (K:bh) (ta tv:TE) (f:Str):TS:=fun D σ H=>tv σ H fun y H1=>ta σ H1 fun x H2=>∃ a C dx fs,x = .ref a/\H2 a=some (.ins C dx fs)/\Cls K C/\cB K C f/\fs.length<1000 /\
 D.nx σ (upd H2 a (.ins C dx (aB f y fs)))
section
variable {X:Cx} {o e value:Expr} {f:Str} {pos pos' tpos:Pos} {ta tv:TE}
def aJ (he:PE X e ta) (hb:tE e f X.env (eval e X.env)=eval e X.env):PE X (.Attribute e f pos) (tFld X.K ta f):=by
 intro pins s σ H Q I h
 refine ach hb (thn (he pins s σ H _ I h) fun u s1 ⟨x,H1,I1,rx,a,C,dx,fs,v,ex,ea,c,n,l,q⟩=>?_)
 subst ex
 obtain rfl:u=Value.ref a:=rx
 exact RX I1 ea c n l fun u' s2 I2 ru=>⟨v,H1,I2,ru,q⟩
def bK (ha:PE X o ta) (hv:PE X value tv) (hs:Gm value (some (.Attribute o f pos')) pos.line X.env=pure false):PS X (.Assign [.Attribute o f pos'] value pos) (sFld X.K ta tv f):=by
 intro pins s σ H D I h
 refine plainObj_wpAny_Assign_Attribute (thn (hv pins s σ H _ I h) fun u s1 ⟨y,H1,I1,ry,q⟩=>thn (ha pins s1 σ H1 _ I1 q) fun ov s2 ⟨x,H2,I2,rx,a,C,dx,fs,ex,ea,c,n,l,q2⟩=>?_) hs
 subst ex
 obtain rfl:ov=Value.ref a:=rx
 exact R4 I2 ea c n l ry fun s3 I3=>⟨σ,_,I3,q2⟩
end
section
variable {X:Cx} {pins:List (Addr × Obj)} {σ:St} {H:Hp} {s:aG} {A:bQ} {E:Value->aG->Prop} {Q:Value->aG->Prop} {c:Value} {b:Bool}
inductive wI (K:bh) (H:Hp):V->Value->Prop where
 | non:wI K H .non (.type "NoneType")
 | bl (x:Bool):wI K H (.bl x) (.type "bool")
 | int (i:Int):wI K H (.int i) (.type "int")
 | str (x:Str):wI K H (.str x) (.type "str")
 | flt (x:UInt64):wI K H (.flt x) (.type "float")
 | lst {a:Addr} {xs:List V} (e:H a=some (.lst xs)):wI K H (.ref a) (.type "list")
 | frz {a:Addr} {o:Obj} {xs:List V} (e:H a=some (.frz o (.lst xs))):wI K H (.ref a) (.type "list")
 | tup {a:Addr} {xs:List V} (e:H a=some (.tup xs)):wI K H (.ref a) (.type "tuple")
 | dK {a:Addr} {kvs:List (Key × V)} (e:H a=some (.dK kvs)):wI K H (.ref a) (.type "dict")
 | dT {a:Addr} {kvs:List (List Key × V)} (e:H a=some (.dT kvs)):wI K H (.ref a) (.type "dict")
 | ins {a C dx:Addr} {fs:List (Str × V)} (e:H a=some (.ins C dx fs)) (cl:Cls K C) (ha:jC K (.ref C) "__class__" = some (some (.builtin "object.__class__")))
   (hn:XQ K (.builtin "object.__class__") "__get__" = some (some (.builtin "getset_descriptor.__get__"))) (htk:PySem.W.takesIn K (.builtin "object.__class__")=some true)
   (hm:PySem.W.mroIn K C (.type "object")=some true):wI K H (.ref a) (.ref C)
def V1 {x:V} {u t:Value} (I:Inv X pins σ H s) (rx:RelV x u) (ty:wI X.K H x t) (e:zR X.K t c=some b) (h:∀ tk,Q (.bool b) { s with toks:=tk }) :
  wpAny (model X.prog X.w) A (call (.builtin "isinstance") [u,c]) Q E s:=by
 cases ty with
 | non=>cases (show u=Value.none from rx);exact qF PySem.W.kitx_none I.kIn True.intro e (fun z=>nomatch z) h
 | bl y=>cases (show u=Value.bool y from rx);exact qF PySem.W.kitx_bool I.kIn True.intro e (fun z=>nomatch z) h
 | int i=>obtain ⟨t,q⟩:=(show ∃ t,u=Value.int i t from rx);cases q;exact qF PySem.W.kitx_int I.kIn True.intro e (fun z=>nomatch z) h
 | str y=>obtain ⟨t,q⟩:=(show ∃ t,u=Value.str y t from rx);cases q;exact qF PySem.W.kitx_str I.kIn True.intro e (fun z=>nomatch z) h
 | flt y=>obtain ⟨t,q⟩:=(show ∃ t,u=Value.float y t from rx);cases q;exact qF PySem.W.kitx_float I.kIn True.intro e (fun z=>nomatch z) h
 | @lst a xs ea =>
  cases (show u=Value.ref a from rx)
  obtain ⟨_,_,n,_,h1⟩:=(show dw X.prog X.w H s.heap a (.lst xs) from I.hok a _ ea)
  exact qF XR I.kIn ⟨_,h1,rfl⟩ e (fun z=>nomatch z) h
 | @frz a ob xs ea =>
  cases (show u=Value.ref a from rx)
  obtain ⟨_,_,_,n,_,h1⟩:=(show dw X.prog X.w H s.heap a (.frz ob (.lst xs)) from I.hok a _ ea)
  exact qF XR I.kIn ⟨_,h1,rfl⟩ e (fun z=>nomatch z) h
 | @tup a xs ea =>
  cases (show u=Value.ref a from rx)
  obtain ⟨_,_,_,p⟩:=(show dw X.prog X.w H s.heap a (.tup xs) from I.hok a _ ea)
  obtain ⟨o,h1,h2,_⟩:=p
  exact qF PySem.W.kitx_tuple I.kIn ⟨o,h1,h2⟩ e (fun z=>nomatch z) h
 | @dK a kvs ea =>
  cases (show u=Value.ref a from rx)
  obtain ⟨_,_,vs,_,p⟩:=(show dw X.prog X.w H s.heap a (.dK kvs) from I.hok a _ ea)
  obtain ⟨o,es,ep,h1,h2,_⟩:=p
  exact qF XS I.kIn ⟨o,h1,h2.1⟩ e (fun z=>nomatch z) h
 | @dT a kvs ea =>
  cases (show u=Value.ref a from rx)
  obtain ⟨_,_,xs,_,o,es,ep,h1,h2,_⟩:=(show dw X.prog X.w H s.heap a (.dT kvs) from I.hok a _ ea)
  exact qF XS I.kIn ⟨o,h1,h2.1⟩ e (fun z=>nomatch z) h
 | @ins a C dx fs ea cl ha hn htk hm =>
  cases (show u=Value.ref a from rx)
  obtain ⟨mA,O,_⟩:=zj I.hok ea
  obtain ⟨od,J,_⟩:=O.look
  exact qF (PySem.W.kitx_own (cl.get _) cl.hd ha hn htk hm) I.kIn J e (fun z=>nomatch z) h
end
end L2
namespace L2
open PySem PySem.Spec PyProof.Rows
structure jh (k:Nat) (A:bQ):Prop where
 hd:A.handled=none
 dp:A.depth+3*k+5<recursionLimit
 un:A.units+16*k+200<cLine
def jh.mono {j k:Nat} {A:bQ} (r:jh k A) (h:j<=k):jh j A:=⟨r.hd,by have:=r.dp;omega,by have:=r.un;omega⟩
def jh.deeper {k:Nat} {A:bQ} (r:jh (k+1) A) (env:Env):jh k (A.deeper env) :=
 ⟨r.hd,by have:=r.dp;show A.depth+1+3*k+5<_;omega,by have:=r.un;show A.units+3+16*k+200<_;omega⟩
def jh.in1 {k:Nat} {A:bQ} (r:jh (k+1) A):jh k A.in1 :=
 ⟨r.hd,by have:=r.dp;show A.depth+3*k+5<_;omega,by have:=r.un;show A.units+1+16*k+200<_;omega⟩
def R5 {A:bQ} {C:Addr} {us:List Value} {kw:List (Str × Value)}:(A.under (.builtin "type.__call__" ⟨.ref C::us,kw⟩)).depth=A.depth+1:=by
 first | rfl | simp [PK,Code.weight,Code.isCreation,Code.isGuard,Code.isCaller,Z2,Qg,guardIds]
def R6 {A:bQ} {C:Addr} {us:List Value} {kw:List (Str × Value)}:(A.under (.builtin "type.__call__" ⟨.ref C::us,kw⟩)).units=A.units+1:=by
 first | rfl | simp [PK,Code.cUnits,Z2,Qg]
def jh.make {k:Nat} {A:bQ} (r:jh (k+1) A) (C:Addr) (us:List Value) (kw:List (Str × Value)):jh k (A.under (.builtin "type.__call__" ⟨.ref C::us,kw⟩)) :=
 ⟨r.hd,by have:=r.dp;rw [R5];omega,by have:=r.un;rw [R6];omega⟩
def jh.depth {k:Nat} {A:bQ} (r:jh k A):A.depth<recursionLimit:=by have:=r.dp;omega
def jh.units {k:Nat} {A:bQ} (r:jh k A):A.units+64<cLine:=by have:=r.un;omega
@[reducible] def aat:TA:=fun _ H Q=>Q [] H
@[reducible] def Kv (ta:TE) (tr:TA):TA:=fun σ H Q=>ta σ H fun x H1=>tr σ H1 fun xs H2=>Q (x::xs) H2
section
variable {X:Cx} {e:Expr} {es:List Expr} {te:TE} {t:TA} {pos:Pos}
def au:PA X [] aat:=fun _ _ _ _ H Q I h=>ud ⟨[],H,I,.nil,h⟩
def aj (ha:PE X e te) (hr:PA X es t) (hs:dM (e::es) X.env=(false,eval e X.env)::dM es X.env:=by rfl):PA X (e::es) (Kv te t):=by
 intro pos pins s σ H Q I h
 rw [hs]
 show wpAny _ _ (spliced ((false,eval e X.env)::ig pos (dM es X.env))) _ _ s
 refine yh (thn (ha pins s σ H _ I h) fun u s1 ⟨x,H1,I1,r1,q1⟩=>?_)
 exact thn (hr pos pins s1 σ H1 _ I1 q1) fun us s2 ⟨xs,H2,I2,r2,q2⟩=>⟨x::xs,H2,I2,.cons r1 r2,q2⟩
def tTup (t:TA):TE:=fun σ H Q=>t σ H fun xs H1=>xs.length<=sizeLine/\∀ p,H1 p=none->Q (.ref p) (upd H1 p (.tup xs))
def tLst (t:TA):TE:=fun σ H Q=>t σ H fun xs H1=>xs.length<=sizeLine/\∀ p,H1 p=none->Q (.ref p) (upd H1 p (.lst xs))
def jP {x1} (h:PA X es t):PE X (.Tuple es x1 pos) (tTup t):=by
 intro pins s σ H Q I hq
 refine wpAny_Tuple_spliced (thn (h pos pins s σ H _ I hq) fun us s1 ⟨xs,H1,I1,r,z,q⟩=>⟨by rw [<- r.length];exact z,?_⟩)
 have hf:H1 s1.heap.objs.size=none:=I1.hok.fresh (aX _)
 refine ⟨.ref s1.heap.objs.size,upd H1 s1.heap.objs.size (.tup xs),I1.laid (t':=s1.toks) (fun b u e=>eZ _ e) (aX _) ?_,rfl,q _ hf⟩
 exact ⟨z,us,r,⟨_,fW _ rfl,rfl,_,rfl⟩⟩
def cM (h:PA X es t):PE X (.List es pos) (tLst t):=by
 intro pins s σ H Q I hq
 refine wpAny_List_spliced (thn (h pos pins s σ H _ I hq) fun us s1 ⟨xs,H1,I1,r,z,q⟩=>⟨by rw [<- r.length];exact z,?_⟩)
 have hf:H1 s1.heap.objs.size=none:=I1.hok.fresh (aX _)
 refine ⟨.ref s1.heap.objs.size,upd H1 s1.heap.objs.size (.lst xs),I1.laid (t':=s1.toks) (fun b u e=>eZ _ e) (aX _) ?_,rfl,q _ hf⟩
 exact ⟨z,us,0,r,fW _ rfl⟩
end
abbrev Sp:=List V->Hp->VK->XK->Prop
abbrev CXT:=List Env->Hp->aG->XK->Value->aG->Prop
structure Dk (P:bG) (w:World) (K:bh) (mg:Str->Option Value) (base:Heap) (A:bQ) (outer:List Env) (s:aG) (H:Hp):Prop where
 frames:A.frames=some outer
 mod:Mod K mg base
 bs:∀ b o,base.get? b=some o->s.heap.get? b=some o/\H b=none
 bsz:base.objs.size<=s.heap.objs.size
 wF:s.heap.FunFrames base outer
 frf:∀ b∈frs outer,H b=none
 hok:HOk P w H s.heap
 bare:qP s.gens
def CE (outer:List Env) (P:bG) (w:World) (H:Hp) (s:aG) (Q:VK) (u:Value) (s':aG):Prop :=
 ∃ v H',s'.os=s.os/\qP s'.gens/\Un (frs outer) [] H H' s.heap s'.heap/\HOk P w H' s'.heap/\RelV v u/\Q v H'
def CR (CX:CXT) (outer:List Env) (P:bG) (w:World) (H:Hp) (s:aG) (Q:VK) (E:XK) (r:qK) (s':aG):Prop :=
 match r with
 | .ok (.ret u)=>CE outer P w H s Q u s'
 | .ok _=>False
 | .error e=>CX outer H s E e s'
structure cI (P:bG) (w:World) (K:bh) (mg:Str->Option Value) (base:Heap) (CX:CXT) (k:Nat) (f:Addr) (fd:bJ) (ps:List Str) (sp:Sp):Prop where
 len:∀ vs H Q E,sp vs H Q E->vs.length=ps.length
 run:∀ (A:bQ) (outer:List Env) (s:aG) (H:Hp) (args:Args) (us:List Value) (vs:List V) (Q:VK) (E:XK),jh k A->Dk P w K mg base A outer s H->z9 s fd args (ps.zip us)->Vals vs us->sp vs H Q E ->
  g8 (model P w) A (.call (.ref f) args) (CR CX outer P w H s Q E) s
def cI.mono {P:bG} {w:World} {K:bh} {mg:Str->Option Value} {base:Heap} {CX:CXT} {j k:Nat} {f:Addr} {fd:bJ} {ps:List Str} {sp:Sp} (F:cI P w K mg base CX j f fd ps sp) (h:j<=k) :
  cI P w K mg base CX k f fd ps sp:=⟨F.len,fun A outer s H args us vs Q E hr=>F.run A outer s H args us vs Q E (hr.mono h)⟩
def cI.imp {P:bG} {w:World} {K:bh} {mg:Str->Option Value} {base:Heap} {CX:CXT} {k:Nat} {f:Addr} {fd:bJ} {ps:List Str} {sp sp':Sp} (F:cI P w K mg base CX k f fd ps sp)
  (h:∀ vs H Q E,sp' vs H Q E->sp vs H Q E):cI P w K mg base CX k f fd ps sp' :=
 ⟨fun vs H Q E q=>F.len vs H Q E (h _ _ _ _ q),fun A outer s H args us vs Q E hr he hb hv hs=>F.run A outer s H args us vs Q E hr he hb hv (h _ _ _ _ hs)⟩
def Dk.make {P:bG} {w:World} {K:bh} {mg:Str->Option Value} {base:Heap} {A:bQ} {outer:List Env} {s:aG} {H:Hp} (e:Dk P w K mg base A outer s H) (C:Addr) (us:List Value) (kw:List (Str × Value)) :
  Dk P w K mg base (A.under (.builtin "type.__call__" ⟨.ref C::us,kw⟩)) outer s H:=⟨by first | exact e.frames | (simpa [PK,Code.envs,Qg,pushEnvs] using e.frames),e.mod,e.bs,e.bsz,e.wF,e.frf,e.hok,e.bare⟩
def Dk.in1 {P:bG} {w:World} {K:bh} {mg:Str->Option Value} {base:Heap} {A:bQ} {outer:List Env} {s:aG} {H:Hp} (e:Dk P w K mg base A outer s H) :
  Dk P w K mg base A.in1 outer s H:=⟨e.frames,e.mod,e.bs,e.bsz,e.wF,e.frf,e.hok,e.bare⟩
section
variable {X:Cx} {pins:List (Addr × Obj)} {σ:St} {H:Hp} {s s':aG}
def Inv.env0 (I:Inv X pins σ H s):Dk X.prog X.w X.K X.mg X.base X.A X.stack s H :=
 ⟨I.ok.frames,I.ok.mod,I.bs,fH I.ok.bsz I.sz,I.stack,I.Uk,I.hok,I.bare⟩
def Inv.after {Q:VK} {u:Value} (I:Inv X pins σ H s) (h:CE X.stack X.prog X.w H s Q u s'):EP X pins σ Q u s':=by
 obtain ⟨v,H',os,bare,un,hok,r,q⟩:=h
 obtain ⟨hh,g,d,t,os'⟩:=s'
 obtain rfl:os'=s.os:=os
 exact ⟨v,H',I.call (h':=hh) (g':=g) (d':=d) (t':=t) (ch:=[]) un hok bare (fun b z=>absurd z (by simp)),r,q⟩
end
@[reducible] def adH (sp:Sp) (dvs:List V) (E:XK) (t:TA):TE:=fun σ H Q=>t σ H fun vs H1=>sp (vs++dvs) H1 Q E
@[reducible] def tMeth (C:Addr) (m:Str) (sp:Sp) (dvs:List V) (E:XK) (ta:TE) (t:TA):TE:=fun σ H Q=>ta σ H fun x H1=>∃ a dx fs,x = .ref a/\H1 a=some (.ins C dx fs)/\fs.lookup m=none /\
 t σ H1 fun vs H2=>sp (x::(vs++dvs)) H2 Q E
def tMake (C:Addr) (sp:Sp) (dvs:List V) (E:XK) (t:TA):TE:=fun σ H Q=>t σ H fun vs H1=>∀ x dx,H1 x=none->H1 dx=none->dx≠x ->
 sp (.ref x::(vs++dvs)) (upd (upd H1 dx (.own x)) x (.ins C dx [])) (fun v H2=>v = .non/\Q (.ref x) H2) E
def Binds (K:bh) (fd:bJ) (ps:List Str) (ds:List Value):Prop :=
 ∀ (s:aG) (us:List Value),K.In s.heap->(us++ds).length=ps.length->z9 s fd ⟨us,[]⟩ (ps.zip (us++ds))
def Binds.all {K:bh} {fd:bJ} {ps:List Str} (h:∀ us:List Value,us.length=ps.length->bindArgs fd ⟨us,[]⟩=pure (ps.zip us)):Binds K fd ps []:=fun s us _ hl=>by
 rw [Fp] at hl ⊢
 exact .of_eq (h us hl)
def Passes (CX:CXT) (X:Cx) (E:XK):Prop:=∀ (pins:List (Addr × Obj)) (σ:St) (H:Hp) (s:aG) (e:Value) (s':aG),Inv X pins σ H s->CX X.stack H s E e s'->X.xe e s'
section
variable {X:Cx} {CX:CXT} {k:Nat} {f C:Addr} {fd:bJ} {ps:List Str} {sp:Sp} {dvs:List V} {ds:List Value} {E:XK} {x m:Str} {p pos apos:Pos} {e o:Expr} {es:List Expr} {ta:TE} {t:TA}
def R7 {pins:List (Addr × Obj)} {σ:St} {H:Hp} {s:aG} {Q:VK} {us:List Value} {vs:List V} (F:cI X.prog X.w X.K X.mg X.base CX k f fd ps sp) (hr:jh k X.A) (hb:Binds X.K fd ps ds) (hd:Vals dvs ds) (hx:Passes CX X E)
  (I:Inv X pins σ H s) (r:Vals vs us) (h:sp (vs++dvs) H Q E):wpAny (model X.prog X.w) X.A (call (.ref f) us) (EP X pins σ Q) X.xe s:=by
 have r2:Vals (vs++dvs) (us++ds):=r.append hd
 have hl:(us++ds).length=ps.length:=by rw [<- r2.length];exact F.len _ _ _ _ h
 refine Gj (Ge (F.run X.A X.stack s H ⟨us,[]⟩ (us++ds) (vs++dvs) Q E hr I.env0 (hb s us I.kIn hl) r2 h) fun r s' hq=>?_)
 cases r with
 | error e=>exact hx pins σ H s e s' I hq
 | ok fl =>
  cases fl with
  | ret u=>exact I.after hq
  | next=>exact iH hq
  | brk=>exact iH hq
  | cont=>exact iH hq
def aQ (F:cI X.prog X.w X.K X.mg X.base CX k f fd ps sp) (hr:jh k X.A) (hg:Gl X x) (hm:X.mg x=some (.ref f)) (hk:sH X.K (.ref f)=true) (hb:Binds X.K fd ps ds) (hd:Vals dvs ds) (hx:Passes CX X E)
  (ha:PA X (e::es) t) (hdb:(x == ("__debug__" : Str))=false:=by decide) (he:dM (e::es) X.env=(false,eval e X.env)::dM es X.env:=by rfl) (hpl:(ig pos (dM es X.env)).any (·.1)=false:=by rfl) :
  PE X (.Call (.Name x p) (e::es) [] pos) (adH sp dvs E t):=by
 intro pins s σ H Q I h
 refine xV (zf I hg hm ?_ hdb)
 refine Nx (h₀:=X.base) I.ok.mod.kin hk (thn (ha pos pins s σ H _ I h) fun us s1 ⟨vs,H1,I1,r,q⟩=>⟨I1.kIn,?_⟩) he hpl
 exact R7 F hr hb hd hx I1 r q
def aau (F:cI X.prog X.w X.K X.mg X.base CX k f fd ps sp) (hr:jh k X.A) (hg:Gl X x) (hm:X.mg x=some (.ref f)) (hk:sH X.K (.ref f)=true) (hb:Binds X.K fd ps ds) (hd:Vals dvs ds) (hx:Passes CX X E)
  (hdb:(x == ("__debug__" : Str))=false:=by decide):PE X (.Call (.Name x p) [] [] pos) (adH sp dvs E aat):=by
 intro pins s σ H Q I h
 refine xV (zf I hg hm ?_ hdb)
 exact PySem.W.callWith_K0 I.kIn hk (R7 (us:=[]) F hr hb hd hx I .nil h)
def eN {pl:Sem Bool} (he:PE X o ta) (c:Cls X.K C) (hm:Meth X.K C m f) (F:cI X.prog X.w X.K X.mg X.base CX k f fd ps sp) (hr:jh k X.A) (hb:Binds X.K fd ps ds) (hd:Vals dvs ds) (hx:Passes CX X E) (ha:PA X (e::es) t)
  (hst:dM (e::es) X.env=(false,eval e X.env)::dM es X.env:=by rfl) (hpl:(ig pos (dM es X.env)).any (·.1)=false:=by rfl)
  (ht:eval (.Call (.Attribute o m apos) (e::es) [] pos) X.env=(do
   let ov <- eval o X.env
   standAt apos.atName
   let (f,first) <- z8 [ov] (Oo ov m pl)
   callWith pos f first (ig pos (dM (e::es) X.env)) (zZ pos (zW [] X.env))):=by rfl) :
  PE X (.Call (.Attribute o m apos) (e::es) [] pos) (tMeth C m sp dvs E ta t):=by
 intro pins s σ H Q I h
 refine PySem.W.methodCall_KW (pl:=pl) (thn (he pins s σ H _ I h) fun u s1 ⟨x,H1,I1,rx,a,dx,fs,ex,ea,l,q⟩=>?_) ht
 subst ex
 obtain rfl:u=Value.ref a:=rx
 refine RZ I1 ea c hm l ?_
 refine Nx (first:=[.ref a]) (h₀:=X.base) I.ok.mod.kin hm.kp (thn (ha pos pins s1 σ H1 _ I1 q) fun us s2 ⟨vs,H2,I2,r,q2⟩=>⟨I2.kIn,?_⟩) hst hpl
 exact R7 (us:=.ref a::us) (vs:=.ref a::vs) F hr hb hd hx I2 (.cons rfl r) q2
structure Mk (K:bh) (C f:Addr):Prop where
 makes:FJ K C=true
 init:jC K (.ref C) "__init__" = some (some (.ref f))
 fn:zT K (.ref f)=true
 kp:sH K (.ref C)=true
def aav {pins:List (Addr × Obj)} {σ:St} {H:Hp} {s:aG} {Q:VK} {us:List Value} {vs:List V} (M:Mk X.K C f) (F:cI X.prog X.w X.K X.mg X.base CX k f fd ps sp) (hr:jh (k+1) X.A) (hb:Binds X.K fd ps ds) (hd:Vals dvs ds)
  (hx:Passes CX X E) (I:Inv X pins σ H s) (r:Vals vs us)
  (h:∀ x dx,H x=none->H dx=none->dx≠x->sp (.ref x::(vs++dvs)) (upd (upd H dx (.own x)) x (.ins C dx [])) (fun v H2=>v = .non/\Q (.ref x) H2) E) :
  wpAny (model X.prog X.w) X.A (call (.ref C) us) (EP X pins σ Q) X.xe s:=by
 have hq:=h (s.heap.objs.size+1) s.heap.objs.size (I.hok.fresh (oU _)) (I.hok.fresh (aX _)) (cZ (Gv _))
 have I2:=Inv.made (C:=C) I
 have r2:Vals (V.ref (s.heap.objs.size+1)::(vs++dvs)) (Value.ref (s.heap.objs.size+1)::(us++ds)):=.cons rfl (r.append hd)
 have hl:(Value.ref (s.heap.objs.size+1)::us++ds).length=ps.length:=by
  have e:=r2.length
  rw [F.len _ _ _ _ hq] at e
  exact e.symm
 refine Gj (aas (f:=f) I.kIn M.makes M.init (beq_iff_eq.mp M.fn) (Ge (F.run _ X.stack _ _ ⟨Value.ref (s.heap.objs.size+1)::us,[]⟩ (Value.ref (s.heap.objs.size+1)::(us++ds)) _ _ E (hr.make C us [])
  (I2.env0.make C us []) (hb _ (Value.ref (s.heap.objs.size+1)::us) I2.kIn hl) r2 hq) fun r s' hq'=>?_))
 cases r with
 | error e=>exact hx pins σ _ _ e s' I2 hq'
 | ok fl =>
  cases fl with
  | ret u =>
   obtain ⟨v,H',I3,rv,ev,q3⟩:=I2.after hq'
   subst ev
   exact ⟨rv,⟨V.ref (s.heap.objs.size+1),H',I3,rfl,q3⟩⟩
  | next=>exact iH hq'
  | brk=>exact iH hq'
  | cont=>exact iH hq'
def mF (M:Mk X.K C f) (F:cI X.prog X.w X.K X.mg X.base CX k f fd ps sp) (hr:jh (k+1) X.A) (hg:Gl X x) (hm:X.mg x=some (.ref C)) (hb:Binds X.K fd ps ds) (hd:Vals dvs ds) (hx:Passes CX X E)
  (ha:PA X (e::es) t) (hdb:(x == ("__debug__" : Str))=false:=by decide) (he:dM (e::es) X.env=(false,eval e X.env)::dM es X.env:=by rfl) (hpl:(ig pos (dM es X.env)).any (·.1)=false:=by rfl) :
  PE X (.Call (.Name x p) (e::es) [] pos) (tMake C sp dvs E t):=by
 intro pins s σ H Q I h
 refine xV (zf I hg hm ?_ hdb)
 refine Nx (h₀:=X.base) I.ok.mod.kin M.kp (thn (ha pos pins s σ H _ I h) fun us s1 ⟨vs,H1,I1,r,q⟩=>⟨I1.kIn,?_⟩) he hpl
 exact aav M F hr hb hd hx I1 r q
end
section
variable {X:Cx} {CX:CXT} {k:Nat} {f C:Addr} {fd:bJ} {ps ks:List Str} {sp:Sp} {E:XK} {x m:Str} {p pos apos kpos:Pos} {e o:Expr} {es:List Expr} {kws:List oN} {te ta:TE} {t tk:TA} {nm:Option Str}
structure KBinds (K:bh) (fd:bJ) (ps ks:List Str) (g:List Value->List Value->List Value) (gV:List V->List V->List V):Prop where
 to:∀ (s:aG) (us ws:List Value),K.In s.heap->(g us ws).length=ps.length->z9 s fd ⟨us,ks.zip ws⟩ (ps.zip (g us ws))
 rel:∀ {vs:List V} {us:List Value} {zs:List V} {ws:List Value},Vals vs us->Vals zs ws->Vals (gV vs zs) (g us ws)
variable {g:List Value->List Value->List Value} {gV:List V->List V->List V}
end
structure aN (N P:List Str) (sc:Scope):Prop where
 kind:sc.kind = .function
 co:sc.isCoroutine=false
 gen:sc.isGenerator=false
 nd:N.Nodup
 pre:N.take P.length=P
 par:∀ x∈P,sc.names.lookup x=some .local\/sc.names.lookup x=some .cell
 afE:∀ y∈sc.names,y.2 ≠ .free
def DP {kindOf:Str->Option tG} {x:Str}:∀ {binds:List (Str × Value)} {m:Str->Option Value},(∀ v,(x,v)∉binds)->bindL kindOf binds m x=m x
 | [],_,_=>rfl
 | (n,v)::r,m,h=>by
  unfold bindL
  rw [DP fun w hw=>h w (eU _ hw)]
  split
  ·have:x≠n:=by rintro rfl;exact h v eF
   simp [this]
  ·rfl
def DQ {kindOf:Str->Option tG} {x:Str}:∀ {binds:List (Str × Value)} {m:Str->Option Value},(∀ v,(x,v)∉binds)->bindC kindOf binds m x=m x
 | [],_,_=>rfl
 | (n,v)::r,m,h=>by
  unfold bindC
  rw [DQ fun w hw=>h w (eU _ hw)]
  split
  ·rfl
  ·have:x≠n:=by rintro rfl;exact h v eF
   simp [this]
def DR {kindOf:Str->Option tG} {x:Str} {v:Value}:∀ {P:List Str} {vs:List Value} {i:Nat} {m:Str->Option Value},P.Nodup->P[i]? = some x->vs[i]? = some v->kindOf x=some .local ->
  bindL kindOf (P.zip vs) m x=some v
 | [],_,_,_,_,h,_,_=>by simp at h
 | _::_,[],_,_,_,_,h,_=>by simp at h
 | p::P,w::vs,0,m,nd,h1,h2,hk=>by
  simp at h1 h2;subst h1;subst h2
  show bindL kindOf ((p,w)::P.zip vs) m p=_
  unfold bindL
  rw [DP fun v hv=>(nO.mp nd).1 (Nr hv).1,if_pos hk]
  simp
 | p::P,w::vs,i+1,m,nd,h1,h2,hk=>by
  show bindL kindOf ((p,w)::P.zip vs) m x=_
  unfold bindL
  exact DR (i:=i) (nO.mp nd).2 (by simpa using h1) (by simpa using h2) hk
def DW {kindOf:Str->Option tG} {x:Str} {v:Value}:∀ {P:List Str} {vs:List Value} {i:Nat} {m:Str->Option Value},P.Nodup->P[i]? = some x->vs[i]? = some v->kindOf x≠some .local ->
  bindC kindOf (P.zip vs) m x=some v
 | [],_,_,_,_,h,_,_=>by simp at h
 | _::_,[],_,_,_,_,h,_=>by simp at h
 | p::P,w::vs,0,m,nd,h1,h2,hk=>by
  simp at h1 h2;subst h1;subst h2
  show bindC kindOf ((p,w)::P.zip vs) m p=_
  unfold bindC
  rw [DQ fun v hv=>(nO.mp nd).1 (Nr hv).1,if_neg hk]
  simp
 | p::P,w::vs,i+1,m,nd,h1,h2,hk=>by
  show bindC kindOf ((p,w)::P.zip vs) m x=_
  unfold bindC
  exact DW (i:=i) (nO.mp nd).2 (by simpa using h1) (by simpa using h2) hk
def start (N:List Str) (vs:List V):St:=vs.map some++Fv (N.length-vs.length) none
def V2 (CX:CXT) (P:bG) (w:World) (K:bh) (mg:Str->Option Value) (base:Heap) (N:List Str) (qual:Str) (scope:Scope) (f:Addr) (cd:Value) (A:bQ) (outer:List Env) (s:aG) (H:Hp) (E:XK):Cx where
 prog:=P
 w:=w
 K:=K
 mg:=mg
 base:=base
 A:=A.deeper (oX qual scope s.heap.objs.size f cd)
 N:=N
 s₀:=s
 H₀:=H
 env:=oX qual scope s.heap.objs.size f cd
 outer:=outer
 stack:=oX qual scope s.heap.objs.size f cd::outer
 ex:=[]
 calm:=true
 fn:=fun _=>true
 pn:=[]
 xe:=fun e s'=>wpAny (model P w) (A.deeper (oX qual scope s.heap.objs.size f cd)) (leaving (oX qual scope s.heap.objs.size f cd) e) (fun _ s''=>CX outer H s E e s'') (fun e' s''=>CX outer H s E e' s'') s'
def Kw {sc:Scope} {n:Nat} {x:Str} (h:sc.names.lookup x=some .cell):∃ c,(Oq n sc.names []).lookup x=some c:=by
 have q:=XJ sc.names n [] (.inl h)
 exact ZD.mp q
def V3 {CX:CXT} {P:bG} {w:World} {K:bh} {mg:Str->Option Value} {base:Heap} {N ps:List Str} {qual:Str} {scope:Scope} {f:Addr} {cd:Value} {A:bQ} {outer:List Env} {s s1:aG} {H:Hp} {E:XK} {us:List Value} {vs:List V}
  (S:aN N ps scope) (hd:A.handled=none) (e0:Dk P w K mg base A outer s H) (hl:vs.length=ps.length) (r:Vals vs us)
  (x:InCallC s s.heap.objs.size (bindL (oX qual scope s.heap.objs.size f cd).kindOf (ps.zip us) fun _=>none) (Oq (s.heap.objs.size+1) scope.names []) (bindC (oX qual scope s.heap.objs.size f cd).kindOf (ps.zip us) fun _=>none) s1) :
  Inv (V2 CX P w K mg base N qual scope f cd A outer s H E) [] (start N vs) H s1:=by
 have hpl:ps.length<=N.length:=by have:=congrArg kE S.pre;rw [iw] at this;omega
 obtain ⟨h1,tk,rfl,hk⟩:=x.done
 have noA:∀ b:Addr,b∉(V2 CX P w K mg base N qual scope f cd A outer s H E).ex:=fun b z=>absurd (show b∈([]:List Addr) from z) (by simp)
 refine ⟨⟨e0.mod,S.kind,rfl,rfl,aX _,fun y z c h1 h2=>?_,fun y hy=>?_,fun y c _ h=>?_,fun _=>hd,Around.frames_deeper e0.frames,.inr ⟨rfl,rfl⟩,fun b z=>absurd z (noA b),e0.bs,e0.bsz,fun b _ _=>noA b,fun b z=>absurd z (noA b),e0.wF,e0.frf⟩,
  rfl,e0.bare,Un.kept hk,⟨_,x.toInCall.ns,fun i y v h1 h2 h3=>?_⟩,fun y c h=>⟨_,x.cell y c h⟩,e0.hok.fresh (aX _),fun y c h=>?_,fun p hp=>absurd (show p∈([]:List (Addr × Obj)) from hp) (by simp),e0.hok.kept hk,?_⟩
 ·exact name_of_addr x.apart (vQ h1) (vQ h2)
 ·have hy:scope.names.lookup y=some .cell\/scope.names.lookup y=some .free:=hy
  rcases hy with hy | hy
  ·exact Kw hy
  ·exact absurd rfl (S.afE _ (vQ hy))
 ·exact mj (x.above y c (vQ h))
 ·have hi:i<vs.length:=by
   unfold start at h2
   by_cases hi:i<vs.length
   ·exact hi
   ·rw [JN (by simpa using hi)] at h2
    rw [List.getElem?_replicate] at h2
    split at h2 <;> cases h2
  have ha:vs[i]? = some v:=by
   unfold start at h2
   rw [JQ (by simpa using hi),kW] at h2
   cases e:vs[i]? with
   | none=>rw [e] at h2;cases h2
   | some a=>rw [e] at h2;cases h2;rfl
  obtain ⟨u,hu,rv⟩:=r.get ha
  have hp:ps[i]? = some y:=by
   rw [<- S.pre,List.getElem?_take_of_lt (by omega)];exact h1
  have ndP:ps.Nodup:=by rw [<- S.pre];exact S.nd.sublist (Xn _ _)
  refine ⟨u,rv,?_⟩
  rcases S.par y (List.mem_of_getElem? hp) with k | k
  ·exact .inl ⟨k,DR ndP hp hu k⟩
  ·obtain ⟨c,e⟩:=Kw (n:=s.heap.objs.size+1) k
   refine .inr ⟨.inl k,c,e,?_⟩
   have q:=x.cell y c e
   rw [DW ndP hp hu (by show scope.names.lookup y≠_;rw [k];decide)] at q
   exact q
 ·exact e0.hok.fresh (mj (x.above y c (vQ h)))
 ·unfold start
  show _=N.length
  rw [dR,aZ,List.length_replicate]
  omega
def fn_of {CX:CXT} {P:bG} {w:World} {K:bh} {mg:Str->Option Value} {base:Heap} {k:Nat} {f:Addr} {name qual:Str} {params:Arguments} {body:List Stmt} {scope:Scope} {dV kV doc pm cdv ct oc:Value} {an od:Option Addr}
  {osl:Array (Option Value)} {N ps:List Str} {sp:Sp} (lk:K.lookup f=some ⟨oc,od,.func (qH name qual params body scope dV kV doc pm an cdv ct),osl⟩) (hcd:zQ K cdv qual=true) (S:aN N ps scope)
  (len:∀ vs H Q E,sp vs H Q E->vs.length=ps.length)
  (hbody:∀ (A:bQ) (outer:List Env) (s:aG) (H:Hp) (vs:List V) (Q:VK) (E:XK),jh k (A.deeper (oX qual scope s.heap.objs.size f cdv))->sp vs H Q E ->
   ∃ t,PSs (V2 CX P w K mg base N qual scope f cdv A outer s H E) body t/\t { nx:=fun _ H'=>Q .non H',rt:=Q } (start N vs) H) :
  cI P w K mg base CX (k+1) f (qH name qual params body scope dV kV doc pm an cdv ct) ps sp:=by
 refine ⟨len,fun A outer s H args us vs Q E hr e0 hb r hsp=>?_⟩
 have hl:=len _ _ _ _ hsp
 have KX:K.In s.heap:=e0.mod.kin.keeps fun b o e=>(e0.bs b o e).1
 have lim:s.heap.NoLimit:=e0.mod.nolimit.keeps fun b o e=>(e0.bs b o e).1
 have hkind:∀ y∈ps.zip us,scope.names.lookup y.1=some .local\/(scope.names.lookup y.1=some .cell/\((Oq (s.heap.objs.size+1) scope.names []).lookup y.1).isSome=true):=fun ⟨n,v⟩ hy=>by
  rcases S.par n (Nr hy).1 with q | q
  ·exact .inl q
  ·exact .inr ⟨q,XJ _ _ _ (.inl q)⟩
 refine codeAny_call_function hr.depth (KX _ _ lk) rfl S.co S.gen rfl (PySem.W.codeRec_of KX hcd) (hb _ _ _ _ ?_)
 refine wpAny_newFunctionEnv_cells S.kind hkind fun env he s1 x=>?_
 subst he
 refine ⟨lim.keeps x.toInCall.keep,codeAny_func ?_⟩
 obtain ⟨t,ht,hq⟩:=hbody A outer s H vs Q E (hr.deeper _) hsp
 have I:Inv (V2 CX P w K mg base N qual scope f cdv A outer s H E) [] (start N vs) H s1:=V3 S hr.hd e0 hl r x
 refine iG (ht [] s1 (start N vs) H _ I hq) (fun fl s' hs=>?_) fun e s' hs=>hs
 have fin:∀ {σ':St} {H':Hp} {v:V} {u:Value},Inv (V2 CX P w K mg base N qual scope f cdv A outer s H E) [] σ' H' s'->RelV v u->Q v H'->CE outer P w H s Q u s' :=
  fun {σ' H' v u} J rv q=>⟨v,H',J.os,J.bare,J.base,J.hok,rv,q⟩
 cases fl with
 | ret u =>
  obtain ⟨v,σ',H',J,rv,q⟩:=hs
  exact fin J rv q
 | next =>
  obtain ⟨σ',H',J,q⟩:=hs
  exact fin (v:=V.non) (u:=Value.none) J rfl q
 | brk =>
  obtain ⟨_,_,_,q⟩:=hs
  exact iH q
 | cont =>
  obtain ⟨_,_,_,q⟩:=hs
  exact iH q
end L2
namespace L2
open PySem PySem.Spec PyProof.Rows
section
variable {X:Cx} {x:Str} {p pos:Pos} {e:Expr} {es:List Expr} {t:TA} {id T:String} {r:List V->Hp->VK->Prop}
@[reducible] def tCB (r:List V->Hp->VK->Prop) (t:TA):TE:=fun σ H Q=>t σ H fun vs H1=>r vs H1 Q
def dz (hc:gY X (.builtin id) r) (hg:Gl X x) (hm:X.mg x=none) (hv:vU x=some (.builtin id)) (ha:PA X (e::es) t) (hn:x ≠ "__name__" := by decide) (hdb:(x == ("__debug__" : Str))=false:=by decide)
  (he:dM (e::es) X.env=(false,eval e X.env)::dM es X.env:=by rfl) (hpl:(ig pos (dM es X.env)).any (·.1)=false:=by rfl):PE X (.Call (.Name x p) (e::es) [] pos) (tCB r t):=by
 intro pins s σ H Q I h
 refine xV (lE I hg hm hv ?_ hn hdb)
 exact aep (thn (ha pos pins s σ H _ I h) fun us s1 ⟨vs,H1,I1,r1,q1⟩=>hc pins s1 σ H1 vs us Q I1 r1 q1) he hpl
def fu (hc:gY X (.type T) r) (hg:Gl X x) (hm:X.mg x=none) (hv:vU x=some (.type T)) (ha:PA X (e::es) t) (hn:x ≠ "__name__" := by decide) (hdb:(x == ("__debug__" : Str))=false:=by decide)
  (he:dM (e::es) X.env=(false,eval e X.env)::dM es X.env:=by rfl) (hpl:(ig pos (dM es X.env)).any (·.1)=false:=by rfl):PE X (.Call (.Name x p) (e::es) [] pos) (tCB r t):=by
 intro pins s σ H Q I h
 refine xV (lE I hg hm hv ?_ hn hdb)
 exact Dy (thn (ha pos pins s σ H _ I h) fun us s1 ⟨vs,H1,I1,r1,q1⟩=>hc pins s1 σ H1 vs us Q I1 r1 q1) he hpl
end
end L2
namespace HT
open PySem PyProof.Rows
section
open PySem.SeqAt
open PySem.AutoSeq1 (wpAny_loadPart')
open PySem.MeetsSeq PySem.MeetsSeq2 PySem.MeetsSeq3
end
section
variable {prog:bG} {w:World} {A:bQ} {E:Value->aG->Prop} {s:aG}
def sIx (n d:Nat):Option Int->Nat
 | none=>d
 | some v=>if v<0 then (v+(n:Int)).toNat else min v.toNat n
def afF (n d:Nat) (hd:d<=n) (o:Option Int):sIx n d o<=n:=by
 cases o with
 | none=>exact hd
 | some v =>
  show (if v<0 then (v+(n:Int)).toNat else min v.toNat n)<=n
  by_cases hv:v<0
  ·rw [if_pos hv];omega
  ·rw [if_neg hv];exact Nat.min_le_right _ _
def Uw (v:Int) (n d:Nat):(if v<0 then max (v+(n:Int)) 0 else min v (n:Int))=((sIx n d (some v):Nat):Int):=by
 show (if v<0 then max (v+(n:Int)) 0 else min v (n:Int))=(((if v<0 then (v+(n:Int)).toNat else min v.toNat n):Nat):Int)
 by_cases hv:v<0
 ·simp only [if_pos hv];omega
 ·simp only [if_neg hv];omega
def R9 (lo hi:Option Int) (n:Nat):PX lo hi 1 (n:Int)=(((sIx n 0 lo:Nat):Int),((sIx n n hi:Nat):Int)):=by
 have h1:¬ ((1:Int)<0):=by omega
 unfold PX
 simp only [h1,if_false]
 refine jj ?_ ?_
 ·cases lo with
  | none=>rfl
  | some v=>exact Uw v n 0
 ·cases hi with
  | none=>rfl
  | some v=>exact Uw v n n
def Sg (i j:Nat):Hw (i:Int) (j:Int) 1=j-i:=by
 unfold Hw
 have h1:(1:Int)>0:=by omega
 simp only [h1,if_true,Int.ediv_one]
 split <;> omega
def Bd {v:Value} {o:Option Int} {Q:Option Int->aG->Prop} (p:qL v o) (h:Q o s):wpAny (model prog w) A (aey v) Q E s:=by
 cases p with
 | none=>exact Zj h
 | int i t=>exact slicePart_int h
def wJ {sl:Addr} {vl vu:Value} {lo hi:Option Int} {n:Nat} {Q:Int × Int × Nat->aG->Prop} (hs:s.heap.IsSliceOf sl vl vu .none) (pl:qL vl lo) (pu:qL vu hi)
  (h:Q (((sIx n 0 lo:Nat):Int),1,sIx n n hi-sIx n 0 lo) s):wpAny (model prog w) A (ZC (.ref sl) (pure (n:Int))) Q E s:=by
 obtain ⟨os,hos,hcs,hds⟩:=id hs
 unfold ZC aez
 refine aP (aP (Ob hos hds (x:=vl) rfl (aP (Ob hos hds (x:=vu) rfl (aP (Ob hos hds (x:=.none) rfl (bH ?_)))))))
 refine aP (Zj ?_)
 show wpAny _ _ (if ((1:Int) == 0)=true then _ else _) _ _ s
 rw [if_neg (by decide)]
 refine aP (Bd pl (aP (Bd pu (aP (bH ?_)))))
 show wpAny _ _ (match PX lo hi 1 (n:Int) with | (lo,hi)=>pure (lo,(1:Int),Hw lo hi 1)) _ _ s
 rw [R9 lo hi n]
 show wpAny _ _ (pure (((sIx n 0 lo:Nat):Int),(1:Int),Hw ((sIx n 0 lo:Nat):Int) ((sIx n n hi:Nat):Int) 1)) _ _ s
 rw [Sg]
 exact bH h
def aaw (xs:Array Value) (i k:Nat):((vO k).filterMap fun (m:Nat)=>xs[((i:Int)+(m:Int)*1).toNat]?).toArray=((xs.toList.drop i).take k).toArray:=by
 have e:(fun (m:Nat)=>xs[((i:Int)+(m:Int)*1).toNat]?)=fun m=>xs[i+m]?:=by
  funext m
  have:((i:Int)+(m:Int)*1).toNat=i+m:=by omega
  rw [this]
 rw [e]
 have:=pick_run xs i k
 rw [Nj] at this
 have e2:((fun x=>xs[x]?) ∘ fun x=>i+x)=fun m=>xs[i+m]?:=rfl
 rw [e2] at this
 rw [this]
def uO {t sl:Addr} {items:Array Value} {vl vu:Value} {lo hi:Option Int} {Q:Value->aG->Prop} (ht:IsTup s.heap t items) (hs:s.heap.IsSliceOf sl vl vu .none) (pl:qL vl lo) (pu:qL vu hi)
  (hw:¬ (sIx items.size 0 lo=0/\sIx items.size items.size hi=items.size))
  (h:Q (.ref s.heap.objs.size) { s with heap:=s.heap.push { cls:=.type "tuple",data:=.seq ((items.toList.drop (sIx items.size 0 lo)).take (sIx items.size items.size hi-sIx items.size 0 lo)).toArray } })
  (hsz:items.size<=sizeLine):wpAny (model prog w) A (vY (.ref t) (.ref sl)) Q E s:=by
 have Ux:sizeOk (.seq ((items.toList.drop (sIx items.size 0 lo)).take (sIx items.size items.size hi-sIx items.size 0 lo)).toArray):=by
  show ((items.toList.drop (sIx items.size 0 lo)).take (sIx items.size items.size hi-sIx items.size 0 lo)).toArray.size<=sizeLine
  rw [cO,iw,Fo,lC]
  omega
 have hj:sIx items.size items.size hi<=items.size:=afF _ _ (aX _) hi
 obtain ⟨os,hos,hcs,hds⟩:=id hs
 have hTs:s.TypeIs (.ref sl) "slice" := ⟨os,hos,hcs⟩
 unfold vY
 try with_reducible refine nP ?_
 first | refine aP (bH ?_) | skip
 refine aP (wpAny_sequenceKey ht.typeIs (by decide) ?_)
 refine aP (wpAny_callSpecial?_slot (name:=bM "__getitem__") ht.typeIs Pg
  (zV Pg ht.typeIs entry_tuple_getitem ?_ (args_tuple_getitem _ _)))
 show wpAny _ _ (aeA (.ref t) >>= _) _ _ s
 refine aP (tupleItemsOf_ ht ?_)
 refine aP (Gg hTs ?_)
 rw [if_pos (by decide)]
 refine aP (wJ hs pl pu ?_)
 have hno:¬ ((((sIx items.size 0 lo:Nat):Int) == 0 && (1:Int) == 1 && (sIx items.size items.size hi-sIx items.size 0 lo) == items.size)=true):=by
  intro q
  rw [GJ,GJ] at q
  have q1:((sIx items.size 0 lo:Nat):Int)=0:=eq_of_beq q.1.1
  have q2:sIx items.size items.size hi-sIx items.size 0 lo=items.size:=eq_of_beq q.2
  exact hw ⟨by omega,by omega⟩
 show wpAny _ _ (if (((sIx items.size 0 lo:Nat):Int) == 0 && (1:Int) == 1 && (sIx items.size items.size hi-sIx items.size 0 lo) == items.size)=true then _ else _) _ _ s
 rw [if_neg hno,aaw]
 first
  | exact aP (m:=Hx _) (xW (bH ⟨_,rfl,bH h⟩) Ux)
  | exact aP (m:=Hx _) (xW (aP (bH (bH ⟨_,rfl,bH h⟩))) Ux)
  | exact aP (aP (m:=Hx _) (xW (bH (bH ⟨_,rfl,bH h⟩)) Ux))
  | exact aP (aP (m:=Hx _) (xW (bH ⟨_,rfl,bH h⟩) Ux))
end
end HT
namespace L2
open PySem PySem.Spec PyProof.Rows
abbrev TO:=St->Hp->(Option Int->Hp->Prop)->Prop
def PO (X:Cx) (e:Option Expr) (t:TO):Prop :=
 ∀ (pins:List (Addr × Obj)) (s:aG) (σ:St) (H:Hp) (Q:Option Int->Hp->Prop),Inv X pins σ H s->t σ H Q ->
  wpAny (model X.prog X.w) X.A (evalPart e X.env) (fun u s'=>∃ o H',Inv X pins σ H' s'/\qL u o/\Q o H') X.xe s
def aci:TO:=fun _ H Q=>Q none H
def tPart (t:TE):TO:=fun σ H Q=>t σ H fun x H1=>∃ i,x = .int i/\Q (some i) H1
def intsAre_of {ns:List Int}:∀ {us:List Value},Vals (ns.map V.int) us->mY us ns:=by
 induction ns with
 | nil=>intro us r;rw [vN] at r;cases r;exact .nil
 | cons n ns ih =>
  intro us r
  rw [dZ] at r
  cases r with
  | cons r1 r2 =>
   obtain ⟨t,e⟩:=r1
   subst e
   exact .cons n t (ih r2)
section
variable {X:Cx} {e:Expr} {te:TE} {lo hi:Option Expr} {tl th:TO} {pos p2:Pos}
def Ib:PO X none aci:=by
 intro pins s σ H Q I h
 rw [Yp]
 exact bH ⟨none,H,I,.none,h⟩
def mG (h:PE X e te):PO X (some e) (tPart te):=by
 intro pins s σ H Q I hw
 rw [evalPart_some]
 refine thn (h pins s σ H _ I hw) fun u s1 ⟨x,H1,I1,r1,q1⟩=>?_
 obtain ⟨i,rfl,q⟩:=q1
 obtain ⟨t,rfl⟩:=r1
 exact ⟨some i,H1,I1,.int i t,q⟩
def SlR (X:Cx) (r:V->Option Int->Option Int->Hp->VK->Prop):Prop :=
 ∀ (pins:List (Addr × Obj)) (s:aG) (σ:St) (H:Hp) (x:V) (v vl vu:Value) (lo hi:Option Int) (sl:Addr) (Q:VK),Inv X pins σ H s->RelV x v->s.heap.IsSliceOf sl vl vu .none->qL vl lo->qL vu hi->r x lo hi H Q ->
  ∃ T id,Oi (.type T) "__getitem__" = pure (some (.builtin id))/\s.TypeIs v T/\wpAny (model X.prog X.w) X.A (vY v (.ref sl)) (EP X pins σ Q) X.xe s
def SlR.or {r r':V->Option Int->Option Int->Hp->VK->Prop} (h:SlR X r) (h':SlR X r'):SlR X (fun x lo hi H Q=>r x lo hi H Q\/r' x lo hi H Q):=by
 intro pins s σ H x v vl vu lo hi sl Q I rx hs pl pu q
 rcases q with q | q
 ·exact h pins s σ H x v vl vu lo hi sl Q I rx hs pl pu q
 ·exact h' pins s σ H x v vl vu lo hi sl Q I rx hs pl pu q
def tSl (r:V->Option Int->Option Int->Hp->VK->Prop) (te:TE) (tl th:TO):TE:=fun σ H Q=>te σ H fun x H1=>tl σ H1 fun l H2=>th σ H2 fun u H3=>r x l u H3 Q
def uP {r:V->Option Int->Option Int->Hp->VK->Prop} (hr:SlR X r) (he:PE X e te) (hl:PO X lo tl) (hu:PO X hi th):PE X (.Subscript e (.Slice lo hi none p2) pos) (tSl r te tl th):=by
 intro pins s σ H Q I h
 refine Pz (thn (he pins s σ H _ I h) fun v s1 ⟨x,H1,I1,r1,q1⟩=>?_)
 refine wpAny_Slice (thn (hl pins s1 σ H1 _ I1 q1) fun vl s2 ⟨l,H2,I2,pl,q2⟩=>thn (hu pins s2 σ H2 _ I2 q2) fun vu s3 ⟨u,H3,I3,pu,q3⟩=>?_)
 rw [Yp]
 refine bH ?_
 have I4:Inv X pins σ H3 { s3 with heap:=s3.heap.push { cls:=.type "slice",data:=.fields #[vl,vu,.none] } }:=I3.kept (t':=s3.toks) fun b ob q=>eZ _ q
 obtain ⟨T,id,hT,ht,hg⟩:=hr pins { s3 with heap:=s3.heap.push { cls:=.type "slice",data:=.fields #[vl,vu,.none] } } σ H3 x v vl vu l u s3.heap.objs.size Q I4 r1 (ZW ..) pl pu q3
 show wpAny (model X.prog X.w) X.A (Ho e (.Slice lo hi none p2) v (.ref s3.heap.objs.size)) (EP X pins σ Q) X.xe { s3 with heap:=s3.heap.push { cls:=.type "slice",data:=.fields #[vl,vu,.none] } }
 exact tail_any (ops:=[.ref s3.heap.objs.size,v]) ht hT hg (by with_unfolding_all rfl)
def Bf (xs:List V) (lo hi:Option Int):List V:=(xs.drop (HT.sIx xs.length 0 lo)).take (HT.sIx xs.length xs.length hi-HT.sIx xs.length 0 lo)
def yq (xs:List V) (lo hi:Option Int):(Bf xs lo hi).length<=xs.length:=by
 unfold Bf
 rw [iw,Fo]
 omega
def rSlT (K:bh):V->Option Int->Option Int->Hp->VK->Prop:=fun x lo hi H Q=>∃ a xs,x = .ref a/\SqT K H a xs /\
 ¬ (HT.sIx xs.length 0 lo=0/\HT.sIx xs.length xs.length hi=xs.length)/\∀ p,H p=none->Q (.ref p) (upd H p (.tup (Bf xs lo hi)))
def afG:SlR X (rSlT X.K):=by
 intro pins s σ H x v vl vu lo hi sl Q I rx hs pl pu h
 obtain ⟨a,xs,rfl,hx,hw,q⟩:=h
 cases rx
 obtain ⟨its,r,ht,hz⟩:=I.tuple hx
 have hlen:its.toArray.size=xs.length:=by rw [cO];exact r.length.symm
 refine ⟨"tuple",_,Pg.lookup,ht.typeIs,?_⟩
 refine HT.uO ht hs pl pu (by rw [hlen];exact hw) ?_ (by rw [hlen];exact hz)
 rw [hlen]
 refine ⟨.ref s.heap.objs.size,_,I.laid (t':=s.toks) (o:=.tup (Bf xs lo hi)) (fun b ob q=>eZ _ q) (aX _) ?_,rfl,q _ (I.hok.fresh (aX _))⟩
 exact ⟨fH (yq xs lo hi) hz,_,(r.drop (HT.sIx xs.length 0 lo)).take (HT.sIx xs.length xs.length hi-HT.sIx xs.length 0 lo),IsTup.new _ _⟩
end
end L2
namespace L2
open PySem PySem.Spec PyProof.Rows
def ixN (n:Nat) (i:Int):Option Nat:=if 0<=i then (if i<n then some i.toNat else none) else if -(n:Int)<=i then some (i+n).toNat else none
def atI {α:Type} (xs:List α) (i:Int):Option α:=(ixN xs.length i).bind fun j=>xs[j]?
def Uy {n:Nat} {i:Int} {j:Nat} (h:ixN n i=some j):seqIndex? i n=some j/\j<n /\ -(n:Int)<=i/\i<n:=by
 unfold ixN at h
 by_cases h0:0<=i
 ·rw [if_pos h0] at h
  by_cases h1:i<n
  ·rw [if_pos h1] at h
   have e:i.toNat=j:=bZ h
   exact ⟨by rw [Oc h0 h1,e],by omega,by omega,h1⟩
  ·rw [if_neg h1] at h;cases h
 ·rw [if_neg h0] at h
  by_cases h1:-(n:Int)<=i
  ·rw [if_pos h1] at h
   have e:(i+n).toNat=j:=bZ h
   exact ⟨by rw [Oa (by omega) h1,e],by omega,h1,by omega⟩
  ·rw [if_neg h1] at h;cases h
def Uz {α:Type} {xs:List α} {i:Int} {v:α} (h:atI xs i=some v):∃ j,seqIndex? i xs.length=some j/\xs[j]? = some v/\j<xs.length /\ -(xs.length:Int)<=i/\i<xs.length:=by
 unfold atI at h
 cases e:ixN xs.length i with
 | none=>rw [e] at h;cases h
 | some j =>
  rw [e] at h
  obtain ⟨h1,h2,h3,h4⟩:=Uy e
  exact ⟨j,h1,h,h2,h3,h4⟩
def Ie {α:Type} {xs:List α} {j:Nat} {v:α} (h:xs[j]? = some v):atI xs (j:Int)=some v:=by
 have hj:j<xs.length:=(gZ.mp h).1
 have e:ixN xs.length (j:Int)=some j:=by
  unfold ixN
  rw [if_pos (by omega),if_pos (by omega)];simp
 unfold atI;rw [e];exact h
def acj (b:Expr):Prop:=∀ o i,Od b false o i=operate [o,i] (vY o i)
def IxR (X:Cx) (r:R2):Prop :=
 ∀ (value slice:Expr) (pins:List (Addr × Obj)) (s:aG) (σ:St) (H:Hp) (x y:V) (v u:Value) (Q:VK),Inv X pins σ H s->RelV x v->RelV y u->r x y H Q ->
  Od slice false v u=operate [v,u] (vY v u)->wpAny (model X.prog X.w) X.A (Ho value slice v u) (EP X pins σ Q) X.xe s
def MtR (X:Cx) (id:String) (r:V->List V->Hp->VK->Prop):Prop :=
 ∀ (pins:List (Addr × Obj)) (s:aG) (σ:St) (H:Hp) (x:V) (xs:List V) (v:Value) (us:List Value) (Q:VK),Inv X pins σ H s->RelV x v->Vals xs us->r x xs H Q ->
  wpAny (model X.prog X.w) X.A (call (.builtin id) (v::us)) (EP X pins σ Q) X.xe s
section
variable {X:Cx} {a b:Expr} {ta tb:TE} {pos:Pos}
def IxR.or {r r':R2} (h:IxR X r) (h':IxR X r'):IxR X (fun x y H Q=>r x y H Q\/r' x y H Q):=by
 intro value slice pins s σ H x y v u Q I rx ry q hs
 rcases q with q | q
 ·exact h value slice pins s σ H x y v u Q I rx ry q hs
 ·exact h' value slice pins s σ H x y v u Q I rx ry q hs
def MtR.or {id:String} {r r':V->List V->Hp->VK->Prop} (h:MtR X id r) (h':MtR X id r'):MtR X id (fun x xs H Q=>r x xs H Q\/r' x xs H Q):=by
 intro pins s σ H x xs v us Q I rx rs q
 rcases q with q | q
 ·exact h pins s σ H x xs v us Q I rx rs q
 ·exact h' pins s σ H x xs v us Q I rx rs q
def cu {r:R2} (hr:IxR X r) (ha:PE X a ta) (hb:PE X b tb) (hs:acj b):PE X (.Subscript a b pos) (tOp r ta tb):=by
 intro pins s σ H Q I h
 exact Pz (binT ha hb I h fun v u s2 x y H2 I2 rx ry q=>hr a b pins s2 σ H2 x y v u Q I2 rx ry q (hs _ _))
def rIxL (K:bh):R2:=fun x y H Q=>∃ p xs i v,x = .ref p/\y = .int i/\SqL K H p xs/\atI xs i=some v/\Q v H
def rIxT (K:bh):R2:=fun x y H Q=>∃ p xs i v,x = .ref p/\y = .int i/\SqT K H p xs/\atI xs i=some v/\Q v H
def acn:IxR X (rIxL X.K):=by
 intro value slice pins s σ H x y v u Q I rx ry h hs
 obtain ⟨p,xs,i,z,rfl,rfl,hq,he,q⟩:=h
 cases rx
 obtain ⟨t,rfl⟩:=ry
 obtain ⟨its,r,pl,hz⟩:=I.list hq
 obtain ⟨j,h1,h2,h3,h4,h5⟩:=Uz he
 obtain ⟨w,ew,rw'⟩:=r.get h2
 have hl:=r.length
 have hn:=Ia
 have fin:EP X pins σ Q w s:=⟨z,H,I,rw',q⟩
 by_cases h0:0<=i
 ·have hj:i.toNat=j:=by
   rw [Oc h0 h5] at h1
   exact bZ h1
  exact item_listR pl.isList h0 (by omega) (by rw [hj];simpa using ew) fin hs
 ·have hj:(i+(its.toArray.size:Int)).toNat=j:=by
   rw [Oa (by omega) h4] at h1
   rw [cO,<- hl]
   exact bZ h1
  exact Zh (x:=w) pl.isList.typeIs NQ.lookup
   (wpAny_getItem_list_neg (Q:=fun r s'=>r=w/\EP X pins σ Q r s') pl.isList (by omega) (by rw [cO] <;> omega) (by omega) (by rw [hj];simpa using ew) ⟨rfl,fin⟩) hs
def afH:IxR X (rIxT X.K):=by
 intro value slice pins s σ H x y v u Q I rx ry h hs
 obtain ⟨p,xs,i,z,rfl,rfl,hq,he,q⟩:=h
 cases rx
 obtain ⟨t,rfl⟩:=ry
 obtain ⟨its,r,pl,hz⟩:=I.tuple hq
 obtain ⟨j,h1,h2,h3,h4,h5⟩:=Uz he
 obtain ⟨w,ew,rw'⟩:=r.get h2
 have hl:=r.length
 have hn:=Ia
 have fin:EP X pins σ Q w s:=⟨z,H,I,rw',q⟩
 exact Zh (x:=w) pl.typeIs slot_tuple_getitem.lookup
  (getItem_tuple (j:=j) (Q:=fun r s'=>r=w/\EP X pins σ Q r s') pl (by omega) (by omega) (by rw [cO,<- hl];exact h1) (by simpa using ew) ⟨rfl,fin⟩) hs
def Sh (its:List Value) (n j:Nat) (u:Value):jE (·.setIfInBounds j u) { cls:=.type "list",data:=.seq its.toArray n }={ cls:=.type "list",data:=.seq (its.set j u).toArray n }:=by
 simp [jE]
def Inv.lst {pins:List (Addr × Obj)} {σ:St} {H:Hp} {s:aG} {p:Addr} {xs:List V} (I:Inv X pins σ H s) (h:H p=some (.lst xs)) :
  ∃ (its:List Value) (n:Nat),Vals xs its/\s.heap.get? p=some { cls:=.type "list",data:=.seq its.toArray n }/\xs.length<=sizeLine:=by
 obtain ⟨z,its,n,r,e⟩:=I.hok p _ h
 exact ⟨its,n,r,e,z⟩
def Inv.afI {pins:List (Addr × Obj)} {σ:St} {H:Hp} {s:aG} {p:Addr} {xs ys:List V} {its its':List Value} {n n':Nat} {f:Obj->Obj} (I:Inv X pins σ H s) (h:H p=some (.lst xs))
  (ho:s.heap.get? p=some { cls:=.type "list",data:=.seq its.toArray n }) (hf:f { cls:=.type "list",data:=.seq its.toArray n }={ cls:=.type "list",data:=.seq its'.toArray n' }) (r:Vals ys its') (hz:ys.length<=sizeLine) (t:Nat) :
  Inv X pins σ (upd H p (.lst ys)) { s with heap:=s.heap.update p f,toks:=t }:=by
 have e:(s.heap.update p f).get? p=some { cls:=.type "list",data:=.seq its'.toArray n' }:=by
  rw [v8 f ho (by rw [hf] <;> rfl),hf]
 refine I.write (x:=p) (e:=p) (by rw [h];trivial) (.inl rfl) (fun b u hb q=>(nQ _ _ (aL hb)).trans q) ⟨_,e⟩ ?_
 exact ⟨hz,its',n',r,e⟩
def adI:V->V->V->Hp->(Hp->Prop)->Prop:=fun o i v H Q=>∃ p xs k j,o = .ref p/\i = .int k/\H p=some (.lst xs)/\ixN xs.length k=some j/\Q (upd H p (.lst (xs.set j v)))
def set_list:PSet X adI:=by
 intro pins s σ H o i v ov iv u Q I ro ri rv h
 obtain ⟨p,xs,k,j,rfl,rfl,hp,hj,q⟩:=h
 cases ro
 obtain ⟨t,rfl⟩:=ri
 obtain ⟨its,n,r,ho,hz⟩:=I.lst hp
 obtain ⟨h1,h2,h3,h4⟩:=Uy hj
 have hl:=r.length
 have hn:=Ia
 have I':Inv X pins σ (upd H p (.lst (xs.set j v))) { s with heap:=s.heap.update p (jE (·.setIfInBounds j u)) } :=
  I.afI hp ho (Sh its n j u) (r.set rv j) (by rw [ji];exact hz) s.toks
 by_cases h0:0<=k
 ·have hk:k.toNat=j:=by
   rw [Oc h0 h4] at h1
   exact bZ h1
  exact PySem.W.ki_setAt ho h0 (by omega) (by rw [cO,<- hl];exact h4) (by rw [hk];exact ⟨_,I',q⟩)
 ·have hk:(k+(its.toArray.size:Int)).toNat=j:=by
   rw [Oa (by omega) h3] at h1
   rw [cO,<- hl]
   exact bZ h1
  exact PySem.W.ki_setBack ho (by omega) (by rw [cO,<- hl];exact h3) (by omega) (by rw [hk];exact ⟨_,I',q⟩)
def Ig (lo hi:Option Int) (n:Nat):(kZ lo hi none n).1=((HT.sIx n 0 lo:Nat):Int)/\(kZ lo hi none n).2.1=((HT.sIx n n hi:Nat):Int)/\(kZ lo hi none n).2.2=1:=by
 refine ⟨?_,?_,rfl⟩
 ·cases lo with
  | none=>simp [kZ,HT.sIx]
  | some i =>
   simp only [kZ,HT.sIx,ZL,show (1:Int)>0 by decide,if_true]
   by_cases h:i<0
   ·simp only [h,if_true] <;> omega
   ·simp only [h,if_false] <;> omega
 ·cases hi with
  | none=>simp [kZ,HT.sIx]
  | some i =>
   simp only [kZ,HT.sIx,ZL,show (1:Int)>0 by decide,if_true]
   by_cases h:i<0
   ·simp only [h,if_true] <;> omega
   ·simp only [h,if_false] <;> omega
def Dl (its:List Value) (lo hi:Option Int):zY its.toArray lo hi none=((its.drop (HT.sIx its.length 0 lo)).take (HT.sIx its.length its.length hi-HT.sIx its.length 0 lo)).toArray:=by
 obtain ⟨h1,h2,h3⟩:=Ig lo hi its.toArray.size
 unfold zY
 rw [h1,h2,h3]
 simp only [sliceRange_one,pick_run,cO] <;> rfl
def rSlL (K:bh):V->Option Int->Option Int->Hp->VK->Prop:=fun x lo hi H Q=>∃ a xs,x = .ref a/\SqL K H a xs/\∀ p,H p=none->Q (.ref p) (upd H p (.lst (Bf xs lo hi)))
def Ih:SlR X (rSlL X.K):=by
 intro pins s σ H x v vl vu lo hi sl Q I rx hs pl pu h
 obtain ⟨a,xs,rfl,hx,q⟩:=h
 cases rx
 obtain ⟨its,r,ht,hz⟩:=I.list hx
 have hlen:=r.length
 refine ⟨"list",_,NQ.lookup,ht.isList.typeIs,?_⟩
 refine Yc ht.isList hs pl pu .none (by simp) ?_ (by rw [cO] <;> omega)
 rw [Dl,<- hlen]
 refine ⟨.ref s.heap.objs.size,_,I.laid (t':=s.toks) (o:=.lst (Bf xs lo hi)) (fun b ob q=>eZ _ q) (aX _) ?_,rfl,q _ (I.hok.fresh (aX _))⟩
 exact ⟨fH (yq xs lo hi) hz,_,0,(r.drop (HT.sIx xs.length 0 lo)).take (HT.sIx xs.length xs.length hi-HT.sIx xs.length 0 lo),fW _ rfl⟩
def qg:V->Bool
 | .non=>true
 | .bl _=>true
 | .int _=>true
 | .str _=>true
 | _=>false
def eqV:V->V->Bool
 | .non,.non=>true
 | .bl a,.bl b=>a == b
 | .bl a,.int b=>(if a then 1 else 0) == b
 | .int a,.bl b=>a == (if b then 1 else 0)
 | .int a,.int b=>a == b
 | .str a,.str b=>a == b
 | _,_=>false
def Sq {A:bQ} {s:aG} {y x:V} {u v:Value} (ry:RelV y u) (rx:RelV x v) (fy:qg y=true) (fx:qg x=true):Av A s u v (eqV y x):=by
 cases y with
 | non =>
  cases ry
  cases x with
  | non=>cases rx;exact Qd _
  | bl b=>cases rx;exact aeE b
  | int b=>obtain ⟨t,rfl⟩:=rx;exact aeH b t
  | str b=>obtain ⟨t,rfl⟩:=rx;exact aeI b t
  | _=>exact absurd (show false=true from fx) gF
 | bl a =>
  cases ry
  cases x with
  | non=>cases rx;exact aeF a
  | bl b=>cases rx;exact aeG a b
  | int b=>obtain ⟨t,rfl⟩:=rx;exact aeJ a b t
  | str b=>obtain ⟨t,rfl⟩:=rx;exact aeK a b t
  | _=>exact absurd (show false=true from fx) gF
 | int a =>
  obtain ⟨t',rfl⟩:=ry
  cases x with
  | non=>cases rx;exact aeL a t'
  | bl b=>cases rx;exact aeM a t' b
  | int b=>obtain ⟨t,rfl⟩:=rx;exact aeP a t' b t
  | str b=>obtain ⟨t,rfl⟩:=rx;exact ZQ a t' b t
  | _=>exact absurd (show false=true from fx) gF
 | str a =>
  obtain ⟨t',rfl⟩:=ry
  cases x with
  | non=>cases rx;exact aeN a t'
  | bl b=>cases rx;exact aeO a t' b
  | int b=>obtain ⟨t,rfl⟩:=rx;exact ZR a t' b t
  | str b=>obtain ⟨t,rfl⟩:=rx;exact aeQ a t' b t
  | _=>exact absurd (show false=true from fx) gF
 | _=>exact absurd (show false=true from fy) gF
def eqU (x:V) (u:Value):Bool:=match u with
 | .none=>eqV .non x
 | .bool b=>eqV (.bl b) x
 | .int i _=>eqV (.int i) x
 | .str z _=>eqV (.str z) x
 | _=>false
def aax {x y:V} {u:Value} (r:RelV y u) (f:qg y=true):eqU x u=eqV y x:=by
 cases y with
 | non=>cases r;rfl
 | bl b=>cases r;rfl
 | int i=>obtain ⟨t,rfl⟩:=r;rfl
 | str z=>obtain ⟨t,rfl⟩:=r;rfl
 | _=>exact absurd (show false=true from f) gF
def Ii {x:V}:∀ {xs:List V} {us:List Value},Vals xs us->xs.all qg=true->us.any (eqU x)=xs.any fun y=>eqV y x
 | _,_,.nil,_=>rfl
 | y::xs,u::us,.cons r t,f=>by
  rw [XD,GJ] at f
  rw [sY,sY,aax r f.1,Ii t f.2]
def Bg {A:bQ} {s:aG} {x:V} {v:Value} (rx:RelV x v) (fx:qg x=true):∀ {xs:List V} {us:List Value},Vals xs us->xs.all qg=true->∀ u∈us,Av A s u v (eqU x u)
 | _,_,.nil,_=>fun u hu=>by cases hu
 | y::xs,u::us,.cons r t,f=>fun u' hu=>by
  rw [XD,GJ] at f
  rcases cC.mp hu with rfl | hu
  ·rw [aax r f.1];exact Sq r rx f.1 fx
  ·exact Bg rx fx t f.2 u' hu
def inV (x:V) (xs:List V):Bool:=xs.any fun y=>eqV y x
def rIn (K:bh) (neg:Bool):R2:=fun x y H Q=>∃ p xs,y = .ref p/\(SqL K H p xs\/SqT K H p xs)/\qg x=true/\xs.all qg=true/\Q (.bl (if neg then !inV x xs else inV x xs)) H
def Ij:OpR X (iV .NotIn) (rIn X.K true):=by
 intro pins s σ H x y v u Q I rx ry h
 obtain ⟨p,xs,rfl,hq,fx,fs,q⟩:=h
 cases ry
 rcases hq with hq | hq
 ·obtain ⟨its,r,pl,hz⟩:=I.list hq
  refine SeqAt.notIn_listAt (eqU x) pl.isList (fun w hw=>Bg rx fx r fs w (by simpa using hw)) ⟨.bl _,H,I,rfl,?_⟩
  rw [show its.toArray.any (eqU x)=its.any (eqU x) by simp,Ii r fs]
  exact q
 ·obtain ⟨its,r,pl,hz⟩:=I.tuple hq
  refine SeqAt.notIn_tupleAt (eqU x) pl (fun w hw=>Bg rx fx r fs w (by simpa using hw)) ⟨.bl _,H,I,rfl,?_⟩
  rw [show its.toArray.any (eqU x)=its.any (eqU x) by simp,Ii r fs]
  exact q
def gY.or {f:Value} {r r':List V->Hp->VK->Prop} (h:gY X f r) (h':gY X f r'):gY X f (fun xs H Q=>r xs H Q\/r' xs H Q):=by
 intro pins s σ H xs us Q I rs q
 rcases q with q | q
 ·exact h pins s σ H xs us Q I rs q
 ·exact h' pins s σ H xs us Q I rs q
def Ik:gY X (.type "list") (fun xs H Q=>∃ p ys,xs=[.ref p]/\(SqL X.K H p ys\/SqT X.K H p ys)/\∀ l,H l=none->Q (.ref l) (upd H l (.lst ys))):=by
 intro pins s σ H xs us Q I r h
 obtain ⟨p,ys,rfl,hq,q⟩:=h
 obtain ⟨u,rfl,rx⟩:=vals1 r
 cases rx
 have fin:∀ (its:List Value),Vals ys its->ys.length<=sizeLine->∀ (h':Heap) (c':Nat),(∀ b o',s.heap.get? b=some o'->h'.get? b=some o') ->
   h'.get? s.heap.objs.size=some { cls:=.type "list",dict:=none,data:=.seq its.toArray c',slots:=#[] }->EP X pins σ Q (.ref s.heap.objs.size) { s with heap:=h' }:=fun its r' hz h' c' kp e =>
  ⟨.ref s.heap.objs.size,_,I.laid (t':=s.toks) kp (aX _) (show dw X.prog X.w _ h' _ (.lst ys) from ⟨hz,its,c',r',e⟩),rfl,q _ (I.hok.fresh (aX _))⟩
 rcases hq with hq | hq
 ·obtain ⟨its,r',pl,hz⟩:=I.list hq
  have hlen:=r'.length
  obtain ⟨o,ho,hc,n,hd⟩:=pl.isList
  exact Yq p (.inl rfl) ho hc hd (fun h' c' kp e=>fin its r' hz h' c' kp e) (by simp only [cO] <;> omega)
 ·obtain ⟨its,r',pl,hz⟩:=I.tuple hq
  have hlen:=r'.length
  obtain ⟨o,ho,hc,n,hd⟩:=pl
  exact Yq p (.inr rfl) ho hc hd (fun h' c' kp e=>fin its r' hz h' c' kp e) (by simp only [cO] <;> omega)
def tyV (K:bh) (T:String) (x:V) (H:Hp):Prop:=match x with
 | .str _=>T = "str"
 | .int _=>T = "int"
 | .ref p=>(T = "list" /\ ∃ xs,SqL K H p xs)\/(T = "tuple" /\ ∃ o,K.lookup p=some o/\o.cls = .type "tuple" /\ o.dict=none) \/
   (T = "dict" /\ ((∃ kvs,H p=some (.dK kvs))\/∃ kvs,H p=some (.dT kvs)))\/(T = "set" /\ ∃ S n,H p=some (.set S n))
 | _=>False
def afJ {pins:List (Addr × Obj)} {σ:St} {H:Hp} {s:aG} {T:String} {x:V} {v:Value} (I:Inv X pins σ H s) (r:RelV x v) (ty:tyV X.K T x H) :
  s.TypeIs v T/\∀ a,v = .ref a->∃ ob,s.heap.get? a=some ob/\ob.dict=none:=by
 cases x with
 | str z =>
  obtain ⟨t,rfl⟩:=r
  cases (show T = "str" from ty)
  exact ⟨Oj s z t,fun _ e=>nomatch e⟩
 | int i =>
  obtain ⟨t,rfl⟩:=r
  cases (show T = "int" from ty)
  exact ⟨typeIs_int s i t,fun _ e=>nomatch e⟩
 | ref p =>
  cases r
  rcases ty with ⟨rfl,xs,hq⟩ | ⟨rfl,o,hk,hc,hd⟩ | ⟨rfl,hk⟩ | ⟨rfl,S,n,hk⟩
  ·obtain ⟨its,_,pl,_⟩:=I.list hq
   refine ⟨pl.isList.typeIs,fun a e=>?_⟩
   cases e
   obtain ⟨o,n,e,c,hd,_⟩:=pl
   exact ⟨o,e,hd⟩
  ·refine ⟨⟨o,I.kIn p o hk,hc⟩,fun a e=>?_⟩
   cases e
   exact ⟨o,I.kIn _ o hk,hd⟩
  ·have z:∃ o,s.heap.get? p=some o/\o.ExactDict:=by
    rcases hk with ⟨kvs,hk⟩ | ⟨kvs,hk⟩
    ·obtain ⟨_,_,_,_,o,_,_,e,ex,_⟩:=I.hok p _ hk
     exact ⟨o,e,ex⟩
    ·obtain ⟨_,_,_,_,o,_,_,e,ex,_⟩:=I.hok p _ hk
     exact ⟨o,e,ex⟩
   obtain ⟨o,e,ex⟩:=z
   refine ⟨⟨o,e,ex.1⟩,fun a e2=>?_⟩
   cases e2
   exact ⟨o,e,ex.2.1⟩
  ·obtain ⟨o,_,_,_,e,ex,_⟩:=I.hok p _ hk
   refine ⟨⟨o,e,ex.1⟩,fun a e2=>?_⟩
   cases e2
   exact ⟨o,e,ex.2.1⟩
 | _=>exact iH ty
def tBM (K:bh) (T:String) (r:V->List V->Hp->VK->Prop) (to:TE) (t:TA):TE:=fun σ H Q=>to σ H fun x H1=>tyV K T x H1/\t σ H1 fun xs H2=>r x xs H2 Q
variable {o e:Expr} {es:List Expr} {to:TE} {t:TA} {name:Str} {apos cpos:Pos} {T id:String} {r:V->List V->Hp->VK->Prop}
def d9 (pa:PlainAttrs T) (slot:Slot T name id) (hty:typeOf (.builtin id)=pure (.type "method_descriptor")) (hm:MtR X id r) (ho:PE X o to) (ha:PA X (e::es) t)
  (hbase:tE o name X.env (eval o X.env)=eval o X.env:=by rfl)
  (hfew:((ig cpos (dM (e::es) X.env)).all (fun x=>!x.1) && (zZ cpos (zW [] X.env)).all (fun x=>x.1.isSome)
   && decide ((e::es).length+([]:List oN).length+(if ([]:List oN).isEmpty then 0 else 1)<30))=true:=by rfl)
  (hline:(apos.endLine == cpos.line)=true:=by rfl) (hs:dM (e::es) X.env=(false,eval e X.env)::dM es X.env:=by rfl) (hplain:(ig cpos (dM es X.env)).any (·.1)=false:=by rfl) :
  PE X (.Call (.Attribute o name apos) (e::es) [] cpos) (tBM X.K T r to t):=by
 intro pins s σ H Q I h
 refine Ye hbase hfew hline rfl (thn (ho pins s σ H _ I h) fun v s1 ⟨x,H1,I1,r1,ty,q1⟩=>?_)
 obtain ⟨h1,h2⟩:=afJ I1 r1 ty
 refine ⟨T,id,pa,slot,hty,h1,h2,?_⟩
 have hA:=ha cpos pins s1 σ H1 _ I1 q1
 rw [hs] at hA ⊢
 refine PL (by show (false || (ig cpos (dM es X.env)).any (·.1))=false;rw [hplain] <;> rfl) (PN ?_)
 exact thn hA fun us s2 ⟨vs,H2,I2,r2,q2⟩=>hm pins s2 σ H2 x vs v us Q I2 r1 r2 q2
end
end L2
namespace L2
open PySem PySem.Spec PyProof.Rows
def MtM (X:Cx) (id:String) (r:V->List V->Hp->VK->Prop):Prop :=
 ∀ (pins:List (Addr × Obj)) (s:aG) (σ:St) (H:Hp) (x:V) (xs:List V) (v:Value) (us:List Value) (Q:VK),Inv X pins σ H s->RelV x v->Vals xs us->r x xs H Q ->
  wpAny (model X.prog X.w) X.A (call (.builtin id) (v::us)) (EP X pins σ Q) X.xe s
def Vals.one:∀ {x:V} {us:List Value},Vals [x] us->∃ u,us=[u]/\RelV x u
 | _,_,.cons r .nil=>⟨_,rfl,r⟩
def Vals.reverse {xs:List V} {us:List Value} (h:Vals xs us):Vals xs.reverse us.reverse:=by
 induction h with
 | nil=>exact .nil
 | cons r t ih=>rw [Xo,Xo];exact Vals.append ih (.cons r .nil)
section
variable {X:Cx} {pins:List (Addr × Obj)} {σ:St} {H:Hp} {s:aG} {l b:Addr} {xs ys zs:List V}
def Inv.lset {its its':List Value} {n:Nat} {f:Array Value->Array Value} {t':Nat} (I:Inv X pins σ H s) (hH:H l=some (.lst xs))
  (e:s.heap.get? l=some { cls:=.type "list",data:=.seq its.toArray n }) (hf:f its.toArray=its'.toArray) (hv:Vals ys its') (hz:ys.length<=sizeLine) :
  Inv X pins σ (upd H l (.lst ys)) { s with heap:=s.heap.update l (jE f),toks:=t' }:=by
 have q:=afp e f
 rw [hf] at q
 refine I.write (x:=l) (e:=l) (by rw [hH];exact trivial) (.inl rfl) (fun b' u hb hu=>(nQ s.heap (jE f) (aL hb)).trans hu) ⟨_,q⟩ ?_
 exact ⟨hz,its',_,hv,q⟩
def Inv.lnew {its:List Value} {t':Nat} (I:Inv X pins σ H s) (hv:Vals ys its) (hz:ys.length<=sizeLine) :
  Inv X pins σ (upd H s.heap.objs.size (.lst ys)) { s with heap:=s.heap.push { cls:=.type "list",data:=.seq its.toArray },toks:=t' } :=
 I.laid (fun _ _ q=>eZ _ q) (aX _) ⟨hz,its,0,hv,fW _ rfl⟩
def Inv.fresh (I:Inv X pins σ H s):H s.heap.objs.size=none:=I.hok.fresh (aX _)
def Inv.V4 (I:Inv X pins σ H s) (hH:H l=some (.lst xs)):xs.length<=sizeLine/\∃ (its:List Value) (n:Nat),Vals xs its/\xs.length=its.length/\s.heap.get? l=some { cls:=.type "list",data:=.seq its.toArray n }:=by
 obtain ⟨z,its,n,r,e⟩:=I.hok l _ hH
 exact ⟨z,its,n,r,r.length,e⟩
def Ky {n:Nat} (h:n<=sizeLine):Pa n=false:=by
 unfold Pa
 exact decide_eq_false (by omega)
end
section
variable {X:Cx}
def aco:V->List V->Hp->VK->Prop:=fun x vs H Q=>∃ l xs y,x = .ref l/\vs=[y]/\H l=some (.lst xs)/\xs.length<sizeLine/\Q .non (upd H l (.lst (xs++[y])))
def cF:MtM X "list.append" aco:=by
 intro pins s σ H x vs v us Q I rx rv h
 obtain ⟨l,xs,y,rfl,rfl,hH,hz,q⟩:=h
 cases rx
 obtain ⟨u,rfl,ru⟩:=rv.one
 obtain ⟨z,its,n,r,hl,e⟩:=I.V4 hH
 refine call_meets F.slot_list_append ⟨_,e,rfl⟩ F.entry_list_append (F.args_list_append_2 _ _) (PySem.list_append l its.toArray n u (by rw [cO];omega)) ⟨e,?_⟩
 refine ⟨.non,_,I.lset (its':=its++[u]) hH e (by simp) (r.append (.cons ru .nil)) ?_,rfl,q⟩
 rw [dR,List.length_singleton]
 omega
def acp:V->List V->Hp->VK->Prop:=fun x vs H Q=>∃ l b xs zs,x = .ref l/\vs=[.ref b]/\H l=some (.lst xs)/\H b=some (.lst zs)/\xs.length+zs.length<=sizeLine/\Q .non (upd H l (.lst (xs++zs)))
def kO:MtM X "list.extend" acp:=by
 intro pins s σ H x vs v us Q I rx rv h
 obtain ⟨l,b,xs,zs,rfl,rfl,hH,hB,hz,q⟩:=h
 cases rx
 obtain ⟨u,rfl,ru⟩:=rv.one
 cases ru
 obtain ⟨z,its,n,r,hl,e⟩:=I.V4 hH
 obtain ⟨z2,its2,n2,r2,hl2,e2⟩:=I.V4 hB
 have hsz:its.toArray.size+its2.toArray.size<=sizeLine:=by rw [cO,cO];omega
 have hlong:¬ (!its.toArray.isEmpty && Pa (its.toArray.size+its2.toArray.size))=true:=by
  rw [Ky hsz,YM]
  exact gF
 refine call_meets YK ⟨_,e,rfl⟩ YJ (YH _ _)
  (aeR l its.toArray n b its2.toArray n2 hlong (by rw [cO];omega) (by omega)) ⟨e,e2,?_⟩
 refine ⟨.non,_,I.lset (its':=its++its2) hH e (by simp) (r.append r2) ?_,rfl,q⟩
 rw [dR]
 omega
def rCat:R2:=fun x y H Q=>∃ l b xs zs,x = .ref l/\y = .ref b/\H l=some (.lst xs)/\H b=some (.lst zs)/\xs.length+zs.length<=sizeLine/\∀ p,H p=none->Q (.ref p) (upd H p (.lst (xs++zs)))
def wK:OpR X (mV .Add) rCat:=by
 intro pins s σ H x y v u Q I rx ry h
 obtain ⟨l,b,xs,zs,rfl,rfl,hH,hB,hz,q⟩:=h
 cases rx
 cases ry
 obtain ⟨z,its,n,r,hl,e⟩:=I.V4 hH
 obtain ⟨z2,its2,n2,r2,hl2,e2⟩:=I.V4 hB
 refine PySem.P.add_list e e2 ?_ (by rw [cO,cO];omega)
 have ea:its.toArray++its2.toArray=(its++its2).toArray:=by simp
 rw [ea]
 exact ⟨.ref _,_,I.lnew (t':=s.toks) (r.append r2) (by rw [dR];omega),rfl,q _ I.fresh⟩
end
section
variable {prog:bG} {w:World} {A:bQ} {E:Value->aG->Prop} {s:aG}
set_option maxRecDepth 100000 in
end
section
variable {X:Cx}
end
end L2
namespace L2
open PySem PySem.Spec PyProof.Rows
section
variable {κ:Type} [DecidableEq κ]
def q9 (kvs:List (κ × V)) (k:κ):Option V:=(kvs.find? fun kv=>decide (kv.1=k)).map (·.2)
def putK (kvs:List (κ × V)) (k:κ) (v:V):List (κ × V) :=
 if (kvs.any fun kv=>decide (kv.1=k))=true then kvs.map (fun kv=>if kv.1=k then (kv.1,v) else kv) else kvs++[(k,v)]
def adJ (kvs:List (κ × V)) (k:κ):List (κ × V):=kvs.filter fun kv=>decide (kv.1≠k)
def uQ {p:κ × V} {r:List (κ × V)} {k:κ} (e:p.1=k):q9 (p::r) k=some p.2:=by simp [q9,sX,e]
def uR {p:κ × V} {r:List (κ × V)} {k:κ} (e:¬ p.1=k):q9 (p::r) k=q9 r k:=by simp [q9,sX,e]
def Kz (k:κ):∀ kvs:List (κ × V),(kvs.any fun kv=>decide (kv.1=k))=(q9 kvs k).isSome
 | []=>rfl
 | p::r=>by
  rw [sY]
  by_cases e:p.1=k
  ·simp only [uQ e,decide_eq_true e,Bool.true_or,Option.isSome_some]
  ·rw [uR e,decide_eq_false e,YQ];exact Kz k r
def yr (kvs:List (κ × V)) (k:κ) (v:V):(putK kvs k v).length<=kvs.length+1:=by
 unfold putK
 split
 ·rw [aZ];omega
 ·rw [dR,cX,Xw];omega
def qx.wL {o:Option V} {u:Option Value} (r:qx o u):o.isSome=u.isSome:=by
 cases o with
 | none=>cases u with
  | none=>rfl
  | some _=>exact (show False from r).elim
 | some _=>cases u with
  | none=>exact (show False from r).elim
  | some _=>rfl
def qx.getD {o:Option V} {u:Option Value} {d:V} {d':Value} (r:qx o u) (rd:RelV d d'):RelV (o.getD d) (u.getD d'):=by
 cases o with
 | none=>cases u with
  | none=>exact rd
  | some _=>exact (show False from r).elim
 | some _=>cases u with
  | none=>exact (show False from r).elim
  | some _=>exact r
def KV.val {kvs:List (κ × V)} {vs:List (κ × Value)} (r:KV kvs vs) (k:κ):qx (q9 kvs k) (tH vs k):=by
 unfold KV at r
 induction r with
 | nil=>exact True.intro
 | @cons p q ps qs h t ih =>
  obtain ⟨h1,h2⟩:=h
  by_cases e:p.1=k
  ·have e':q.1=k:=h1.symm.trans e
   have b:tH (q::qs) k=some q.2:=by simp [tH,sX,e']
   rw [uQ e,b];exact h2
  ·have e':¬ q.1=k:=fun z=>e (h1.trans z)
   have b:tH (q::qs) k=tH qs k:=by simp [tH,sX,e']
   rw [uR e,b];exact ih
def KV.any {kvs:List (κ × V)} {vs:List (κ × Value)} (r:KV kvs vs) (k:κ):(kvs.any fun kv=>decide (kv.1=k))=vs.any fun kv=>decide (kv.1=k):=by
 unfold KV at r
 induction r with
 | nil=>rfl
 | cons h t ih=>rw [sY,sY,ih,h.1]
def KV.repl {kvs:List (κ × V)} {vs:List (κ × Value)} (r:KV kvs vs) (k:κ) {y:V} {u:Value} (ry:RelV y u) :
  KV (kvs.map fun kv=>if kv.1=k then (kv.1,y) else kv) (vs.map fun kv=>if kv.1=k then (kv.1,u) else kv):=by
 unfold KV at r ⊢
 induction r with
 | nil=>exact .nil
 | @cons p q ps qs h t ih =>
  rw [dZ,dZ]
  refine .cons ?_ ih
  obtain ⟨h1,h2⟩:=h
  by_cases e:p.1=k
  ·rw [if_pos e,if_pos (h1.symm.trans e)];exact ⟨h1,ry⟩
  ·rw [if_neg e,if_neg (fun z=>e (h1.trans z))];exact ⟨h1,h2⟩
def KV.put {kvs:List (κ × V)} {vs:List (κ × Value)} (r:KV kvs vs) (k:κ) {y:V} {u:Value} (ry:RelV y u):KV (putK kvs k y) (stored vs k u):=by
 unfold putK stored
 rw [r.any k]
 by_cases e:(vs.any fun kv=>decide (kv.1=k))=true
 ·rw [if_pos e,if_pos e];exact r.repl k ry
 ·rw [if_neg e,if_neg e];exact ZV r ⟨rfl,ry⟩
def KV.drop {kvs:List (κ × V)} {vs:List (κ × Value)} (r:KV kvs vs) (k:κ):KV (adJ kvs k) (without vs k):=by
 unfold KV at r ⊢
 unfold adJ without
 induction r with
 | nil=>exact .nil
 | @cons p q ps qs h t ih =>
  obtain ⟨h1,h2⟩:=h
  rw [pZ,pZ]
  by_cases e:p.1=k
  ·have a:¬ decide (p.1≠k)=true:=by simp [e]
   have b:¬ decide (q.1≠k)=true:=by simp [h1.symm.trans e]
   rw [if_neg a,if_neg b];exact ih
  ·have e':¬ q.1=k:=fun z=>e (h1.trans z)
   have a:decide (p.1≠k)=true:=by simp [e]
   have b:decide (q.1≠k)=true:=by simp [e']
   rw [if_pos a,if_pos b];exact .cons ⟨h1,h2⟩ ih
def KV.length {kvs:List (κ × V)} {vs:List (κ × Value)} (r:KV kvs vs):kvs.length=vs.length:=Qf r
end
def KC {P:bG} {w:World} {k:Key} {u:Value} (r:RelV (kV k) u):(cR P w).is k u=true:=by
 cases k with
 | inl i=>obtain ⟨t,e⟩:=(show ∃ t,u=Value.int i t from r);subst e;exact Kl P w i t
 | inr x=>obtain ⟨t,e⟩:=(show ∃ t,u=Value.str x t from r);subst e;exact Ko P w x t
def DX {P:bG} {w:World}:∀ {ks:List Key} {us:List Value},Vals (ks.map kV) us->ItemsAre (cR P w) ks us
 | [],_,r=>by rw [vN] at r;cases r;exact .nil
 | k::ks,_,r=>by
  rw [dZ] at r
  cases r with
  | cons h t=>exact .cons (KC h) (DX t)
abbrev KT (H:Hp):List (List Key × V)->List (List Key × Addr × Value)->Prop:=Paired fun p q=>p.1=q.1/\H q.2.1=some (.tup (p.1.map kV))/\RelV p.2 q.2.2
def KT.val {H:Hp} {kvs:List (List Key × V)} {xs:List (List Key × Addr × Value)} (r:KT H kvs xs) (k:List Key):qx (q9 kvs k) ((atKey xs k).map (·.2)):=by
 induction r with
 | nil=>exact True.intro
 | @cons p q ps qs h t ih =>
  obtain ⟨h1,_,h2⟩:=h
  by_cases e:p.1=k
  ·have e':q.1=k:=h1.symm.trans e
   have b:atKey (q::qs) k=some q.2:=by simp [atKey,sX,e']
   rw [uQ e,b];exact h2
  ·have e':¬ q.1=k:=fun z=>e (h1.trans z)
   have b:atKey (q::qs) k=atKey qs k:=by simp [atKey,sX,e']
   rw [uR e,b];exact ih
def KT.repl {H:Hp} {kvs:List (List Key × V)} {xs:List (List Key × Addr × Value)} (r:KT H kvs xs) (k:List Key) {y:V} {u:Value} (ry:RelV y u) :
  KT H (kvs.map fun kv=>if kv.1=k then (kv.1,y) else kv) (xs.map (putAt k u)):=by
 induction r with
 | nil=>exact .nil
 | @cons p q ps qs h t ih =>
  rw [dZ,dZ]
  refine .cons ?_ ih
  obtain ⟨h1,h2,h3⟩:=h
  unfold putAt
  by_cases e:p.1=k
  ·rw [if_pos e,if_pos (h1.symm.trans e)];exact ⟨h1,h2,ry⟩
  ·rw [if_neg e,if_neg (fun z=>e (h1.trans z))];exact ⟨h1,h2,h3⟩
def KT.put {H:Hp} {kvs:List (List Key × V)} {xs:List (List Key × Addr × Value)} (r:KT H kvs xs) (k:List Key) {b:Addr} {y:V} {u:Value} (hb:H b=some (.tup (k.map kV))) (ry:RelV y u) :
  KT H (putK kvs k y) (storedH xs k b u):=by
 have e:(kvs.any fun kv=>decide (kv.1=k))=(atKey xs k).isSome:=by
  rw [Kz,(r.val k).wL,ZG]
 unfold putK storedH
 rw [e]
 by_cases q:(atKey xs k).isSome=true
 ·rw [if_pos q,if_pos q];exact r.repl k ry
 ·rw [if_neg q,if_neg q];exact ZV r ⟨rfl,hb,ry⟩
def KT.keeps {H H':Hp} {kvs:List (List Key × V)} {xs:List (List Key × Addr × Value)} (r:KT H kvs xs) (ht:∀ b ys,H b=some (.tup ys)->H' b=some (.tup ys)):KT H' kvs xs :=
 Paired.mapP r fun _ _ z=>⟨z.1,ht _ _ z.2.1,z.2.2⟩
section
variable {P:bG} {w:World} {H:Hp} {h:Heap} {a:Addr}
def adK {u:HO} (ok:HOk P w H h) (e:Rd H a u):dw P w H h a u:=e.ok ok
def rm {kvs:List (Key × V)} (ok:HOk P w H h) (e:Rd H a (.dK kvs)):kvs.length<=sizeLine/\(a == mU)=false/\∃ vs,KV kvs vs/\h.DictOf (cR P w) a vs :=
 show dw P w H h a (.dK kvs) from adK ok e
def adL {kvs:List (Key × V)} (ok:HOk P w H h) (e:H a=some (.dK kvs)):kvs.length<=sizeLine/\(a == mU)=false/\∃ vs,KV kvs vs/\h.DictOf (cR P w) a vs:=rm ok (.inl e)
def Bh {ks:List Key} (ok:HOk P w H h) (e:H a=some (.tup (ks.map kV))):(vX (cR P w)).is h ks a:=by
 obtain ⟨_,its,r,o,h1,h2,n,h3⟩:=(show dw P w H h a (.tup (ks.map kV)) from ok a _ e)
 exact ⟨o,its.toArray,n,h1,h2,h3,by simpa using DX r⟩
def DY {kvs:List (List Key × V)} (ok:HOk P w H h) (e:Rd H a (.dT kvs)):kvs.length<=sizeLine/\(a == mU)=false /\
  ∃ xs,KT H kvs xs/\h.DictOfH (vX (cR P w)) a xs:=by
 obtain ⟨z,y,xs,r,o,es,ep,h1,h2,h3,h4,h5⟩:=(show dw P w H h a (.dT kvs) from adK ok e)
 refine ⟨z,y,xs,r,o,es,ep,h1,h2,h3,h4,fun x hx=>?_,h5⟩
 have all:∀ {l:List (List Key × V)} {m:List (List Key × Addr × Value)},KT H l m->∀ x∈m,(vX (cR P w)).is h x.1 x.2.1:=by
  intro l m q
  induction q with
  | nil=>intro x hx;exact nomatch hx
  | @cons p q ps qs hq t ih =>
   intro x hx
   rcases cC.mp hx with e | hx
   ·subst e
    exact Bh ok (by rw [<- hq.1];exact hq.2.1)
   ·exact ih x hx
 exact all r x hx
def dt_of {kvs:List (List Key × V)} (ok:HOk P w H h) (e:H a=some (.dT kvs)):kvs.length<=sizeLine/\(a == mU)=false /\
  ∃ xs,KT H kvs xs/\h.DictOfH (vX (cR P w)) a xs:=DY ok (.inl e)
end
def wM (H:Hp) (a:Addr) (y:V) (r:Option V):Prop :=
 (∃ kvs k,Rd H a (.dK kvs)/\y=kV k/\r=q9 kvs k)\/∃ kvs k b,Rd H a (.dT kvs)/\y = .ref b/\H b=some (.tup (k.map kV))/\r=q9 kvs k
def V5 (H:Hp) (a:Addr) (y v:V) (H':Hp):Prop :=
 (∃ kvs k,H a=some (.dK kvs)/\y=kV k/\kvs.length<sizeLine/\H'=upd H a (.dK (putK kvs k v))) \/
 ∃ kvs k b,H a=some (.dT kvs)/\y = .ref b/\H b=some (.tup (k.map kV))/\kvs.length<sizeLine/\H'=upd H a (.dT (putK kvs k v))
def wM.k {H:Hp} {a:Addr} {kvs:List (Key × V)} {k:Key} (e:H a=some (.dK kvs)):wM H a (kV k) (q9 kvs k):=.inl ⟨kvs,k,.inl e,rfl,rfl⟩
def wM.t {H:Hp} {a b:Addr} {kvs:List (List Key × V)} {k:List Key} (e:H a=some (.dT kvs)) (eb:H b=some (.tup (k.map kV))):wM H a (.ref b) (q9 kvs k):=.inr ⟨kvs,k,b,.inl e,rfl,eb,rfl⟩
def V5.k {H:Hp} {a:Addr} {kvs:List (Key × V)} {k:Key} {v:V} (e:H a=some (.dK kvs)) (hl:kvs.length<sizeLine):V5 H a (kV k) v (upd H a (.dK (putK kvs k v))):=.inl ⟨kvs,k,e,rfl,hl,rfl⟩
def V5.t {H:Hp} {a b:Addr} {kvs:List (List Key × V)} {k:List Key} {v:V} (e:H a=some (.dT kvs)) (eb:H b=some (.tup (k.map kV))) (hl:kvs.length<sizeLine) :
  V5 H a (.ref b) v (upd H a (.dT (putK kvs k v))):=.inr ⟨kvs,k,b,e,rfl,eb,hl,rfl⟩
section
variable {X:Cx} {pins:List (Addr × Obj)} {σ:St} {H:Hp} {s:aG} {a:Addr} {y v:V} {u r:Value} {o:Option V} {A:bQ} {E:Value->aG->Prop}
def Inv.big (I:Inv X pins σ H s):mU<s.heap.objs.size:=by
 have h:fG<s.heap.objs.size:=(I.mod.glob.keeps I.bk).lt
 exact lA (by decide) h
def V6 {Q:Value->aG->Prop} (hu:A.units+1<cLine) (I:Inv X pins σ H s) (g:wM H a y (some v)) (ry:RelV y u) (h:∀ w' s',Inv X pins σ H s'->RelV v w'->Q w' s') :
  wpAny (model X.prog X.w) A (vY (.ref a) u) Q E s:=by
 rcases g with ⟨kvs,k,e,ey,l⟩ | ⟨kvs,k,b,e,ey,eb,l⟩
 ·subst ey
  obtain ⟨z,hd,vs,rel,dd⟩:=rm I.hok e
  obtain ⟨w',hw,rw'⟩:=qx.some_of (v:=v) (o:=tH vs k) (by rw [l];exact rel.val k)
  exact wpAny_getItem_of (KC ry) dd.mapOf hw (h w' _ (I.tok _) rw')
 ·subst ey
  cases (show u=Value.ref b from ry)
  obtain ⟨z,hd,xs,rel,dd⟩:=DY I.hok e
  obtain ⟨w',hw,rw'⟩:=qx.some_of (v:=v) (o:=(atKey xs k).map (·.2)) (by rw [l];exact rel.val k)
  obtain ⟨p,hp,hp2⟩:=Qa.mp hw
  refine wpAny_getItem_heap (FQ hu) (Bh I.hok eb) dd hp ?_
  rw [hp2]
  exact h w' _ (I.tok _) rw'
def acq {Q:Value->aG->Prop} (hu:A.units+1<cLine) (I:Inv X pins σ H s) (g:wM H a y o) (ry:RelV y u) (h:∀ s',Inv X pins σ H s'->Q (.bool (!o.isSome)) s') :
  wpAny (model X.prog X.w) A (iV .NotIn u (.ref a)) Q E s:=by
 rcases g with ⟨kvs,k,e,ey,l⟩ | ⟨kvs,k,b,e,ey,eb,l⟩
 ·subst ey
  obtain ⟨z,hd,vs,rel,dd⟩:=rm I.hok e
  refine wpAny_notIn_of (KC ry) hd dd.mapOf ?_
  rw [<- (rel.val k).wL,<- l]
  exact h _ (I.tok _)
 ·subst ey
  cases (show u=Value.ref b from ry)
  obtain ⟨z,hd,xs,rel,dd⟩:=DY I.hok e
  refine wpAny_notIn_heap (FQ hu) (Bh I.hok eb) hd dd ?_
  have q:=(rel.val k).wL
  rw [ZG] at q
  rw [<- q,<- l]
  exact h _ (I.tok _)
def UG {h':Heap} {t':Nat} {ob:HO} (I:Inv X pins σ H s) (mu:Mut (H a)) (hs:Ae a s.heap h') (he:∃ q,h'.get? a=some q) (new:dw X.prog X.w (upd H a ob) h' a ob) :
  Inv X pins σ (upd H a ob) { s with heap:=h',toks:=t' } :=
 I.write (x:=a) (e:=a) mu (.inl rfl) (fun b q hb z=>(hs.2 b hb).trans z) he new
def aay {P:bG} {w:World} {H':Hp} {h':Heap} {kvs:List (Key × V)} {vs:List (Key × Value)} (z:kvs.length<=sizeLine) (hd:(a == mU)=false) (rel:KV kvs vs) (dd:h'.DictOf (cR P w) a vs) :
  dw P w H' h' a (.dK kvs):=⟨z,hd,vs,rel,dd⟩
def V7 {H':Hp} {Q:Unit->aG->Prop} (hu:A.units+1<cLine) (I:Inv X pins σ H s) (g:V5 H a y v H') (ry:RelV y u) (rv:RelV v r) (h:∀ s',Inv X pins σ H' s'->Q () s') :
  wpAny (model X.prog X.w) A (setItem (.ref a) u r) Q E s:=by
 rcases g with ⟨kvs,k,e,ey,l,eH⟩ | ⟨kvs,k,b,e,ey,eb,l,eH⟩
 ·subst ey eH
  obtain ⟨z,hd,vs,rel,dd⟩:=adL I.hok e
  have hz:vs.length<=sizeLine:=by rw [<- rel.length];exact z
  have hl:(putK kvs k v).length<=sizeLine:=by have:=yr kvs k v;omega
  refine wpAny_setItem_pairs (hsz:=hz) (KC ry) dd fun h' dd' hs=>h _ ?_
  have he:∃ q,h'.get? a=some q:=let ⟨q,_,_,hq,_⟩:=dd';⟨q,hq⟩
  exact UG I (by rw [e];exact True.intro) hs he (aay hl hd (rel.put k rv) dd')
 ·subst ey eH
  cases (show u=Value.ref b from ry)
  obtain ⟨z,hd,xs,rel,dd⟩:=dt_of I.hok e
  have hz:xs.length<=sizeLine:=by rw [<- Qf rel];exact z
  have hl:(putK kvs k v).length<=sizeLine:=by have:=yr kvs k v;omega
  refine wpAny_setItem_heap (hsz:=hz) (FQ hu) (Bh I.hok eb) dd fun h' dd' hs=>h _ ?_
  obtain ⟨q,es,ep,hq,h2,h3,h4,_,h5⟩:=dd'
  refine UG I (by rw [e];exact True.intro) hs ⟨q,hq⟩ ⟨hl,hd,_,(rel.put k eb rv).keeps fun c ys ec=>?_,q,es,ep,hq,h2,h3,h4,h5⟩
  rw [aA (iZ ec e (fun z=>nomatch z))]
  exact ec
end
section
variable {X:Cx} {pins:List (Addr × Obj)} {σ:St} {H:Hp} {s:aG} {a:Addr} {kvs:List (Key × V)} {k:Key} {u:Value} {A:bQ} {E:Value->aG->Prop}
def d_len {Q:Value->aG->Prop} (I:Inv X pins σ H s) (e:Rd H a (.dK kvs)) (h:∀ t s',Inv X pins σ H s'->Q (.int kvs.length t) s'):wpAny (model X.prog X.w) A (call (.builtin "len") [.ref a]) Q E s:=by
 obtain ⟨z,hd,vs,rel,dd⟩:=rm I.hok e
 refine call_len_dict hd dd (by rw [<- rel.length];rw [Gh] at z;omega) ?_
 rw [<- rel.length]
 exact h _ _ (I.tok _)
end
def KD {X:Cx} {pins:List (Addr × Obj)} {σ:St} {H:Hp} {s:aG} {a:Addr} {y:V} {o:Option V} (I:Inv X pins σ H s) (g:wM H a y o):s.TypeIs (.ref a) "dict" := by
 rcases g with ⟨kvs,k,e,_,_⟩ | ⟨kvs,k,b,e,_,_,_⟩
 ·obtain ⟨_,_,vs,_,dd⟩:=rm I.hok e
  exact dd.typeIs
 ·obtain ⟨_,_,xs,_,dd⟩:=DY I.hok e
  exact dd.typeIs
section
variable {X:Cx} {o i e value:Expr} {pos pos' tpos:Pos} {td ty tv:TE}
end
def aaz {P:bG} {w:World} {H:Hp} (h:Heap) (hb:mU<h.objs.size):dw P w H (h.push { cls:=.type "dict",data:=.dict #[] }) h.objs.size (.dK []) :=
 ⟨dN _,beq_eq_false_iff_ne.mpr (aL (cZ hb)),[],.nil,afq h⟩
def afK:TE:=fun _ H Q=>∀ p,H p=none->Q (.ref p) (upd H p (.dK []))
section
variable {X:Cx} {pos:Pos}
def KH:PE X (.Dict [] [] pos) afK:=fun pins s σ H Q I h =>
 wpAny_Dict_empty ⟨.ref s.heap.objs.size,_,I.laid (a:=s.heap.objs.size) (o:=.dK []) (t':=s.toks) (fun _ _ q=>eZ _ q) (aX _) (aaz s.heap I.big),rfl,h _ (I.hok.fresh (aX _))⟩
end
structure M1 (X:Cx) (o:Expr) (m:Str) (apos:Pos) (e:Expr) (cpos:Pos):Prop where
 base:tE o m X.env (eval o X.env)=eval o X.env
 few:((ig cpos (dM [e] X.env)).all (fun x=>!x.1) && (zZ cpos (zW [] X.env)).all (fun x=>x.1.isSome)
  && decide (([e]:List Expr).length+([]:List oN).length+(if ([]:List oN).isEmpty then 0 else 1)<30))=true
 line:(apos.endLine == cpos.line)=true
 trees:ig cpos (dM [e] X.env)=[(false,eval e X.env)]
structure M2 (X:Cx) (o:Expr) (m:Str) (apos:Pos) (e f:Expr) (cpos:Pos):Prop where
 base:tE o m X.env (eval o X.env)=eval o X.env
 few:((ig cpos (dM [e,f] X.env)).all (fun x=>!x.1) && (zZ cpos (zW [] X.env)).all (fun x=>x.1.isSome)
  && decide (([e,f]:List Expr).length+([]:List oN).length+(if ([]:List oN).isEmpty then 0 else 1)<30))=true
 line:(apos.endLine == cpos.line)=true
 trees:ig cpos (dM [e,f] X.env)=[(false,eval e X.env),(false,eval f X.env)]
def IsD (H:Hp) (a:Addr):Prop:=(∃ kvs,Rd H a (.dK kvs))\/∃ kvs,Rd H a (.dT kvs)
def Ss {X:Cx} {pins:List (Addr × Obj)} {σ:St} {H:Hp} {s:aG} {a:Addr} (I:Inv X pins σ H s) (d:IsD H a) :
  s.TypeIs (.ref a) "dict" /\ (∀ b,Value.ref a = .ref b->∃ ob,s.heap.get? b=some ob/\ob.dict=none)/\(a == mU)=false:=by
 rcases d with ⟨kvs,e⟩ | ⟨kvs,e⟩
 ·obtain ⟨_,hd,vs,_,dd⟩:=rm I.hok e
  refine ⟨dd.typeIs,fun b q=>?_,hd⟩
  cases q
  obtain ⟨ob,_,_,h1,h2,_⟩:=dd
  exact ⟨ob,h1,h2.2.1⟩
 ·obtain ⟨_,hd,xs,_,dd⟩:=DY I.hok e
  refine ⟨dd.typeIs,fun b q=>?_,hd⟩
  cases q
  obtain ⟨ob,_,_,h1,h2,_⟩:=dd
  exact ⟨ob,h1,h2.2.1⟩
section
variable {X:Cx} {pins:List (Addr × Obj)} {σ:St} {H:Hp} {s:aG} {a:Addr} {y d:V} {u r:Value} {o:Option V} {A:bQ} {E:Value->aG->Prop}
def afL {Q:Value->aG->Prop} (hu:A.units+1<cLine) (I:Inv X pins σ H s) (g:wM H a y o) (ry:RelV y u) (rd:RelV d r) (h:∀ w' s',Inv X pins σ H s'->RelV (o.getD d) w'->Q w' s') :
  wpAny (model X.prog X.w) A (call (.builtin "dict.get") [.ref a,u,r]) Q E s:=by
 rcases g with ⟨kvs,k,e,ey,l⟩ | ⟨kvs,k,b,e,ey,eb,l⟩
 ·subst ey
  obtain ⟨z,hd,vs,rel,dd⟩:=rm I.hok e
  refine Yr O2 dd.typeIs YG (YC _ _ _) (meets_dict_get_default (cR X.prog X.w) a (KC ry) hd r) ⟨_,dd.mapOf,h _ _ (I.tok _) ?_⟩
  rw [l]
  exact (rel.val k).getD rd
 ·subst ey
  cases (show u=Value.ref b from ry)
  obtain ⟨z,hd,xs,rel,dd⟩:=DY I.hok e
  refine Yr O2 dd.typeIs YG (YC _ _ _) (meetsH_dict_get_default (vX (cR X.prog X.w)) a b hd r) ⟨FQ hu,k,xs,Bh I.hok eb,dd,h _ _ (I.tok _) ?_⟩
  rw [l]
  exact (rel.val k).getD rd
end
def afM (td ty tx:TE):TE:=fun σ H Q=>td σ H fun x H1=>∃ a,x = .ref a/\IsD H1 a/\ty σ H1 fun y H2=>tx σ H2 fun z H3=>∃ o,wM H3 a y o/\Q (o.getD z) H3
section
variable {X:Cx} {o e f:Expr} {apos cpos:Pos} {td ty tx:TE}
def aaA (hu:X.A.units+1<cLine) (ho:PE X o td) (he:PE X e ty) (hf:PE X f tx) (m:M2 X o "get" apos e f cpos):PE X (.Call (.Attribute o "get" apos) [e,f] [] cpos) (afM td ty tx):=by
 intro pins s σ H Q I h
 refine NT m.base m.few m.line O1 O2 PySem.F.type_dict_get (thn (ho pins s σ H _ I h) fun u s1 ⟨x,H1,I1,rx,a,ex,d,q1⟩=>?_)
 subst ex
 obtain rfl:u=Value.ref a:=rx
 obtain ⟨t1,t2,_⟩:=Ss I1 d
 refine ⟨t1,t2,?_⟩
 rw [m.trees]
 refine PL rfl (PN (yh (thn (he pins s1 σ H1 _ I1 q1) fun iv s2 ⟨y,H2,I2,ry,q2⟩ =>
  yh (thn (hf pins s2 σ H2 _ I2 q2) fun fv s3 ⟨z,H3,I3,rz,ov,g,q3⟩=>ud ?_))))
 exact afL hu I3 g ry rz fun w' s4 I4 rw'=>⟨_,H3,I4,rw',q3⟩
end
section
variable {X:Cx} {pins:List (Addr × Obj)} {σ:St} {H:Hp} {s:aG} {a:Addr} {kvs:List (Key × V)} {A:bQ} {E:Value->aG->Prop}
def aaB {Q:Value->aG->Prop} (I:Inv X pins σ H s) (e:Rd H a (.dK kvs)) (h:∀ p s',H p=none->Inv X pins σ (upd H p (.dK kvs)) s'->Q (.ref p) s'):wpAny (model X.prog X.w) A (call (.type "dict") [.ref a]) Q E s:=by
 obtain ⟨z,hd,vs,rel,dd⟩:=rm I.hok e
 refine kt_call_dict hd dd (by rw [<- rel.length];exact z) fun h' dd' hs=>?_
 refine h _ _ (I.hok.fresh (aX _)) (I.laid (a:=s.heap.objs.size) (o:=.dK kvs) (t':=s.toks) (fun b q hq=>?_) (aX _) (aay z (beq_eq_false_iff_ne.mpr (aL (cZ I.big))) rel dd'))
 exact (hs.2 b (cZ (bY hq))).trans (eZ _ hq)
end
section
variable {X:Cx} {pins:List (Addr × Obj)} {σ:St} {H:Hp} {s:aG} {a:Addr} {y:V} {u:Value} {A:bQ} {E:Value->aG->Prop}
end
end L2
namespace Att
open PySem PySem.W PySem.Calls PyProof.Rows
def yJ {P:Gp} {h:Heap}:∀ (ns:List Int) (vs:List Value),WellAll P h vs (ns.map WData.int)->mY vs ns:=by
 intro ns
 induction ns with
 | nil =>
  intro vs w
  rw [vN] at w
  cases w
  exact .nil
 | cons n ns ih =>
  intro vs w
  rw [dZ] at w
  cases w with
  | cons a b =>
   cases a
   exact .cons _ _ (ih _ b)
def V8 {l:OpenLaw} {n:Nat} (hn:l.most=some n) {P:Gp} {h:Heap} {args:List WData} {vals:List Value}
  (hpre:l.row.toRowW.claim.pre args=true) (hwl:WellAll P h vals args) :
  ∃ a vs ns,vals=[Value.ref a]/\args=[WData.list (ns.map WData.int)]/\h.get? a=some { cls:=.type "list",data:=.seq vs.toArray }/\mY vs ns/\ns.length<=n:=by
 have hsh:WShape.hasAll [] args [.list .int]=true:=(pre_splitW hpre).1
 have hc:l.pre.holds [] { args:=args }=true:=(pre_splitW hpre).2
 obtain ⟨d,r,rfl,h1,h2⟩:=hasAllW_cons hsh
 obtain rfl:=hasAllW_nil h2
 obtain ⟨xs,rfl,h3⟩:=hasW_list h1
 obtain ⟨ns,rfl⟩:=items_int h3
 have hlen:ns.length<=n:=by
  unfold OpenLaw.pre at hc
  have h4:(WTm.not (.lt (.lit (.int (n:Int))) (.len (.arg 0)))).holds [] { args:=[.list (ns.map .int)] }=true:=by
   have h4:=(holds_andW hc).1
   rw [hn] at h4
   exact h4
  have h5:=condW_of h4 (w_not (w_lt w_lit (w_len_list (w_arg rfl))))
  rw [aZ] at h5
  refine Nat.le_of_not_lt fun q=>?_
  have q':(n:Int)<((ns.length:Nat):Int):=by omega
  first
   | (rw [decide_eq_true q'] at h5;exact absurd h5 (by decide))
   | (simp at h5;omega)
 cases hwl with
 | cons w1 w2 =>
  cases w2
  cases w1 with
  | list ho hall=>exact ⟨_,_,ns,rfl,rfl,ho,yJ ns _ hall,hlen⟩
def V9 (l:OpenLaw) (args:List WData):l.row.toRowW.claim.post args (.bool true) args=true :=
 postW_of (r:=l.row.toRowW) (X:=(true == true))
  (show WShape.has [] (.bool true) .bool=true by first | rfl | decide | simp [WShape.has,WShape.arms,WShape.armsAll])
  (show (WTm.eq .res (.lit (.bool true))).value [] { args:=args,res:=some (.bool true),after:=args }=some (.bool (true == true)) from w_eq_bool (w_res rfl) w_lit) rfl
def KJ {l:OpenLaw} {n:Nat} {q:bG} {loose:List Str} {XP:(Str->Option Value)->Heap->Prop} {YP:World->Heap->Prop} {d:DefRec}
  (hn:l.most=some n) (hdf:d.params.defaults=[])
  (call:∀ (w:World) (s₀ s₁:aG) (mg mb:Str->Option Value) (fa:Addr) (o:Obj) (pm cd doc:Value) (a:Addr) (vs:List Value) (ns:List Int),
   Ground q loose [] XP w s₀ mg mb s₁.heap->YP w s₁.heap ->
   s₁.heap.get? fa=some o->o.data = .func (docDef d.name d.params d.body d.scope pm cd doc)->s₁.heap.CodeRec cd d.name->mg d.name=some (.ref fa) ->
   s₁.heap.get? a=some { cls:=.type "list",data:=.seq vs.toArray }->mY vs ns->ns.length<=n->s₁.gens = #[] ->
   g8 (model l.prog w) tK (.call (.ref fa) ⟨[.ref a],[]⟩) (fun r s'=>r = .ok (.ret (.bool true))/\OldK s₁.heap s'.heap/\s'.os=s₁.os/\qP s'.gens) s₁) :
  WalkO q loose XP YP l.row.toRowW d [] (fun f vs=>Oe f vs):=by
 intro w s₀ s₁ mg mb G Y fa o pm cd doc dV kV ho hd hcd hD hmg hg args vals as hpre hlay hrd hwl hlo
 obtain rfl:dV = .none:=Dflts.none hD hdf
 obtain rfl:kV = .none:=Dflts.noKw hD
 obtain ⟨a,vs,ns,rfl,rfl,hobj,hints,hlen⟩:=V8 hn hpre hwl
 refine enter_call (Ge (call w s₀ s₁ mg mb fa o pm cd doc a vs ns G Y ho (fd_plain hd) hcd hmg hobj hints hlen hg) fun r s' hq=>?_)
 obtain ⟨rfl,h2,h3,h4⟩:=hq
 exact ⟨.inl ⟨.bool true,.bool true,[],rfl,fun _=>rfl,.bool true,V9 l _,fun _=>⟨List.Pairwise.nil,fun _ hm=>(nomatch hm)⟩⟩,h2,h3,h4⟩
section
variable {prog:bG} {w:World} {A:bQ} {E:Value->aG->Prop} {s:aG} {K:Frag}
def ledger (h:Heap) (L d:Addr):List (Addr × Obj):=(vO h.objs.size).filterMap fun a=>if a=L\/a=d then none else (h.get? a).map fun o=>(a,o)
end
end Att
namespace L2
open PySem PySem.Spec PyProof.Rows
def n8:∀ {vs:List Value} {ns:List Int},mY vs ns->Vals (ns.map V.int) vs
 | _,_,.nil=>.nil
 | _,_,.cons n t h=>.cons ⟨t,rfl⟩ (n8 h)
def Only (H:Hp):Prop:=∀ b,H b=none\/∃ o xs,H b=some (.frz o (.lst xs))
def aaC {P:bG} {w:World} {K:bh} {mg mb:Str->Option Value} {CX:CXT} {k:Nat} {fa a:Addr} {fd:bJ} {x:Str} {sp:Sp} {s₁:aG} {vs:List Value} {ns:List Int}
  (KX:K.In s₁.heap) (hns:s₁.heap.Ns fG mg) (hb:s₁.heap.Ns Og mb) (hbb:∀ x:Str,x ≠ "__name__" -> mb x=vU x) (hlim:s₁.heap.NoLimit) (hg:s₁.gens = #[])
  (ha:s₁.heap.get? a=some { cls:=.type "list",data:=.seq vs.toArray }) (hi:mY vs ns) (hl:ns.length<=sizeLine) (hr:jh k tK)
  (F:∀ base:Heap,K.In base->base.Ns fG mg->cI P w K mg base CX k fa fd [x] sp) (hbind:∀ (s:aG) (u:Value),z9 s fd ⟨[u],[]⟩ [(x,u)])
  (hsp:∀ H:Hp,Only H->SqL K H a (ns.map V.int)->sp [.ref a] H (fun v _=>v = .bl true) fun _ _ _=>False)
  (hCX:∀ H e s',CX [] H s₁ (fun _ _ _=>False) e s'->False) :
  g8 (model P w) tK (.call (.ref fa) ⟨[.ref a],[]⟩) (fun r s'=>r = .ok (.ret (.bool true))/\OldK s₁.heap s'.heap/\s'.os=s₁.os/\qP s'.gens) s₁:=by
 have rv:=n8 hi
 have lenV:=hi.length
 have core:∀ H:Hp,Only H->SqL K H a (ns.map V.int)->HOk P w H s₁.heap->(∀ b,H b≠none->b=a)->(H a≠none->K.lookup a=none) ->
   g8 (model P w) tK (.call (.ref fa) ⟨[.ref a],[]⟩) (fun r s'=>r = .ok (.ret (.bool true))/\OldK s₁.heap s'.heap/\s'.os=s₁.os/\qP s'.gens) s₁:=by
  intro H hO hS hok hA hK
  have UJ:∀ {b:Addr} {o:Obj},s₁.heap.get? b=some o->H b=none->(HW s₁.heap H).get? b=some o:=fun e n=>aaf e n
  have noA:∀ {b:Addr} {o:Obj} {es:Array Ot} {ep:Nat},s₁.heap.get? b=some o->o.data = .dict es ep->H b=none:=fun {b o es ep} e d=>by
   cases q:H b with
   | none=>rfl
   | some u =>
    have e':b=a:=hA b (by rw [q];simp)
    subst e'
    rw [ha] at e;cases e
    have d':Data.seq vs.toArray _=Data.dict es ep:=d
    cases d'
  have nsK:∀ {b:Addr} {m:Str->Option Value},s₁.heap.Ns b m->(HW s₁.heap H).Ns b m:=fun {b m} ⟨o,es,ep,e,d,r⟩=>⟨o,es,ep,UJ e (noA e d),d,r⟩
  have hKb:K.In (HW s₁.heap H):=fun b o e=>UJ (KX b o e) (by
   cases q:H b with
   | none=>rfl
   | some u =>
    have e':b=a:=hA b (by rw [q];simp)
    subst e'
    rw [hK (by rw [q];simp)] at e;cases e)
  have hM:Mod K mg (HW s₁.heap H):=⟨hKb,nsK hns,⟨mb,nsK hb,hbb⟩,let ⟨mc,h1,h2⟩:=hlim;⟨mc,nsK h1,h2⟩⟩
  have e0:Dk P w K mg (HW s₁.heap H) tK [] s₁ H:=⟨rfl,hM,fun b o e=>acd e,Gx (VG _ _),trivial,fun b hb=>absurd (show b∈([]:List Addr) from hb) (by simp),hok,.of_eq hg⟩
  refine Ge ((F _ hKb (nsK hns)).run tK [] s₁ H ⟨[.ref a],[]⟩ [.ref a] [.ref a] _ _ hr e0 (hbind s₁ (.ref a)) (.cons rfl .nil) (hsp H hO hS)) fun r s' h=>?_
  cases r with
  | error e=>exact (hCX H e s' h).elim
  | ok fl =>
   cases fl with
   | next=>exact iH h
   | brk=>exact iH h
   | cont=>exact iH h
   | ret u =>
    obtain ⟨v,H',os,bare,un,hok',r',q⟩:=h
    have q':v = .bl true:=q
    subst q'
    obtain rfl:u=Value.bool true:=r'
    refine ⟨rfl,OldK.of_keep fun b o e=>?_,os,bare⟩
    cases q:H b with
    | none=>exact un.keep b o e q (by intro z;exact absurd (show b∈([]:List Addr) from z) (by simp)) (by simp)
    | some u =>
     rcases hO b with z | ⟨ob,xs,z⟩
     ·rw [q] at z;cases z
     ·have z2:=un.qT b ob _ z
      obtain ⟨e1,_⟩:=hok b _ z
      obtain ⟨e2,_⟩:=hok' b _ z2
      rw [e] at e1;cases e1
      exact e2
 cases hk:K.lookup a with
 | some o =>
  have e:=KX a o hk
  rw [ha] at e
  cases e
  refine core (fun _=>none) (fun _=>.inl rfl) (.inr ⟨_,vs.toArray,_,hk,rfl,rfl,rfl,by rw [cO,lenV];exact hl,by simpa using rv⟩) (fun b u z=>by have z':(none:Option HO)=some u:=z;cases z') (fun b z=>absurd rfl z) fun z=>absurd rfl z
 | none =>
  refine core (fun b=>if b=a then some (.frz { cls:=.type "list",data:=.seq vs.toArray } (.lst (ns.map V.int))) else none) (fun b=>?_) (.inl (.inr ⟨{ cls:=.type "list",data:=.seq vs.toArray },if_pos rfl⟩)) (fun b u z=>?_) (fun b z=>?_) fun _=>hk
  ·by_cases hb:b=a
   ·exact .inr ⟨_,_,if_pos hb⟩
   ·exact .inl (if_neg hb)
  ·by_cases hb:b=a
   ·have z':=(if_pos hb).symm.trans z
    cases z'
    subst hb
    exact ⟨ha,by rw [aZ];exact hl,vs,_,rv,ha⟩
   ·have z':=(if_neg hb).symm.trans z
    cases z'
  ·by_cases hb:b=a
   ·exact hb
   ·exact absurd (if_neg hb) z
end L2
namespace L2
open PySem PySem.Spec PyProof.Rows
abbrev KOf {K:bh} {h:Heap} (_:K.In h):bh:=K
def acr {l:PySem.W.OpenLaw} {n k:Nat} {q:bG} {loose:List Str} {XP:(Str->Option Value)->Heap->Prop} {YP:World->Heap->Prop} {d:DefRec} {K:Gp->bh} {CX:World->CXT} {sp:World->Sp} {x:Str}
  (hn:l.most=some n) (hn2:n<=sizeLine) (hdf:d.params.defaults=[]) (hr:jh k tK)
  (hY:∀ (w:World) (h:Heap),YP w h->(K w.params).In h)
  (F:∀ (w:World) (mg:Str->Option Value) (fa:Addr) (h:Heap),(K w.params).In h->h.Ns fG mg->mg d.name=some (.ref fa) ->
   ∃ fd:bJ,(∀ (s:aG) (u:Value),z9 s fd ⟨[u],[]⟩ [(x,u)]) /\
    ∀ base:Heap,(K w.params).In base->base.Ns fG mg->cI l.prog w (K w.params) mg base (CX w) k fa fd [x] (sp w))
  (hsp:∀ (w:World) (H:Hp) (a:Addr) (ns:List Int),ns.length<=n->Only H->SqL (K w.params) H a (ns.map V.int)->sp w [.ref a] H (fun v _=>v = .bl true) fun _ _ _=>False)
  (hCX:∀ (w:World) (H:Hp) (s:aG) (e:Value) (s':aG),CX w [] H s (fun _ _ _=>False) e s'->False) :
  Yb q loose XP YP l.row.toRowW d [] (fun f vs=>Oe f vs):=by
 refine Att.KJ hn hdf fun w s₀ s₁ mg mb fa o pm cd doc a vs ns G Y ho hd hcd hmg hobj hints hlen hg=>?_
 have KX:=hY w _ Y
 obtain ⟨fd,hb,hF⟩:=F w mg fa _ KX G.T.g hmg
 exact aaC KX G.T.g G.T.b G.T.builtins G.T.nolimit hg hobj hints (fH hlen hn2) hr hF hb (fun H hO hS=>hsp w H a ns hlen hO hS) fun H e s'=>hCX w H s₁ e s'
end L2
namespace L2
open PySem PySem.Spec PyProof.Rows
abbrev CX0:CXT:=fun _ _ _ _ _ _=>False
abbrev E0:XK:=fun _ _ _=>False
def aV {X:Cx}:Passes CX0 X E0:=fun _ _ _ _ _ _ _ h=>h.elim
structure Fun (K:bh) (x qual:Str) (st:Stmt) (f:Addr) (fd:bJ):Prop where
 ex:∃ (oc:Value) (od:Option Addr) (kV doc pm:Value) (an:Option Addr) (cdv ct:Value) (osl:Array (Option Value)),
  fd=qH x qual (rJ st) (oY st) (aK st) .none kV doc pm an cdv ct/\K.lookup f=some ⟨oc,od,.func fd,osl⟩/\zQ K cdv qual=true
 kp:sH K (.ref f)=true
section
variable {P:bG} {w:World} {K:bh} {mg:Str->Option Value} {base:Heap}
def Fun.ok {x qual:Str} {st:Stmt} {f:Addr} {fd:bJ} {N ps:List Str} {k:Nat} {sp:Sp} (F:Fun K x qual st f fd) (S:aN N ps (aK st)) (len:∀ vs H Q E,sp vs H Q E->vs.length=ps.length)
  (hbody:∀ (cdv:Value) (A:bQ) (outer:List Env) (s:aG) (H:Hp) (vs:List V) (Q:VK) (E:XK),jh k (A.deeper (oX qual (aK st) s.heap.objs.size f cdv))->sp vs H Q E ->
   ∃ t,PSs (V2 CX0 P w K mg base N qual (aK st) f cdv A outer s H E).nox (oY st) t/\t { nx:=fun _ H'=>Q .non H',rt:=Q } (start N vs) H):cI P w K mg base CX0 (k+1) f fd ps sp:=by
 obtain ⟨oc,od,kV,doc,pm,an,cdv,ct,osl,rfl,lk,hcd⟩:=F.ex
 refine fn_of lk hcd S len fun A outer s H vs Q E hr hsp=>?_
 obtain ⟨t,h,q⟩:=hbody cdv A outer s H vs Q E hr hsp
 exact ⟨t,h.nox,q⟩
def Fun.binds {x qual:Str} {st:Stmt} {f:Addr} {fd:bJ} {ps:List Str} (F:Fun K x qual st f fd)
  (h:∀ (kV doc pm:Value) (an:Option Addr) (cdv ct:Value) (us:List Value),us.length=ps.length->bindArgs (qH x qual (rJ st) (oY st) (aK st) .none kV doc pm an cdv ct) ⟨us,[]⟩=pure (ps.zip us)):Binds K fd ps []:=by
 obtain ⟨oc,od,kV,doc,pm,an,cdv,ct,osl,rfl,lk,hcd⟩:=F.ex
 exact .all (h kV doc pm an cdv ct)
def afN {x qual:Str} {st:Stmt} {f:Addr} {oc:Value} {od an:Option Addr} {osl:Array (Option Value)} {kV doc pm cdv ct:Value} (l:K.lookup f=some ⟨oc,od,.func (qH x qual (rJ st) (oY st) (aK st) .none kV doc pm an cdv ct),osl⟩)
  (c:zQ K cdv qual=true) (k:sH K (.ref f)=true):Fun K x qual st f (qH x qual (rJ st) (oY st) (aK st) .none kV doc pm an cdv ct):=⟨⟨oc,od,kV,doc,pm,an,cdv,ct,osl,rfl,l,c⟩,k⟩
end
def bO {A:bQ} {k:Nat} (hr:jh k A):A.units+1<cLine:=Ag (Nat.add_le_add_left (by decide:1<=64) _) hr.units
def aO {n:Nat} (h:n<=1000):n<sizeLine:=Ag h (by decide)
section
variable {X:Cx}
def pv (i:Nat) {x:Str} {pos:Pos} (hN:X.N[i]? = some x:=by rfl) (hv:Vis X.env.scope x:=by first | exact Or.inl rfl | exact Or.inr (Or.inl rfl) | exact Or.inr (Or.inr rfl)) (hd:(x == ("__debug__" : Str))=false:=by decide)
  (hcd:(x == ("__classdict__" : Str))=false:=by decide):PE X (.Name x pos) (tVar i):=afx hN hv hd hcd
end
def Sv {A B:Prop} (h:B):if false=true then A else B:=by
 rw [if_neg gF]
 exact h
def aaD {A B:Prop} (h:A):if true=true then A else B:=by
 rw [if_pos rfl]
 exact h
def fX {c A B:Prop} [Decidable c] (h1:c->A) (h2:¬ c->B):if c then A else B:=by
 by_cases h:c
 ·rw [if_pos h]
  exact h1 h
 ·rw [if_neg h]
  exact h2 h
def iteNS {c A B:Prop} [Decidable c] (hc:c) (h:B):if (!decide c)=true then A else B:=by
 rw [decide_eq_true hc]
 exact Sv h
def Same (H H':Hp):Prop:=∀ b o,H b=some o->H' b=some o
def Same.refl (H:Hp):Same H H:=fun _ _ h=>h
def Same.trans {H H1 H2:Hp} (a:Same H H1) (b:Same H1 H2):Same H H2:=fun c o h=>b c o (a c o h)
def Same.free {H H':Hp} (e:Same H H') {l:Addr} (h:H' l=Option.none):H l=Option.none:=by
 cases q:H l with
 | none=>rfl
 | some o =>
  rw [e l o q] at h
  cases h
def Same.seq {K:bh} {H H':Hp} {a:Addr} {xs:List V} (e:Same H H') (h:SqL K H a xs):SqL K H' a xs:=by
 rcases h with (h | ⟨o,h⟩) | h
 ·exact .inl (.inl (e _ _ h))
 ·exact .inl (.inr ⟨o,e _ _ h⟩)
 ·exact .inr h
section
variable {κ:Type} [DecidableEq κ]
end
end L2
set_option Elab.async false
set_option maxRecDepth 100000
namespace L2
open PySem PySem.Spec PyProof.Rows
section
variable {X:Cx}
def UL (K:bh):List V->Hp->VK->Prop:=fun xs H Q=>(∃ x n,xs=[x]/\LenV K x H n/\Q (.int n) H)\/∃ a kvs,xs=[V.ref a]/\Rd H a (.dK kvs)/\Q (.int kvs.length) H
def Sw:gY X (.builtin "len") (fun xs H Q=>∃ a kvs,xs=[V.ref a]/\Rd H a (.dK kvs)/\Q (.int kvs.length) H):=by
 intro pins s σ H xs us Q I r h
 obtain ⟨a,kvs,rfl,ha,q⟩:=h
 obtain ⟨u,rfl,ru⟩:=vals1 r
 cases ru
 exact d_len I ha fun t s' I'=>⟨.int kvs.length,H,I',⟨t,rfl⟩,q⟩
def f9:gY X (.builtin "len") (UL X.K):=aaq.or Sw
def Sx (K:bh):R2:=fun x y H Q=>rIxL K x y H Q\/rIxT K x y H Q\/∃ a v,x = .ref a/\wM H a y (some v)/\Q v H
def acs (hu:X.A.units+1<cLine):IxR X (fun x y H Q=>∃ a v,x = .ref a/\wM H a y (some v)/\Q v H):=by
 intro value slice pins s σ H x y v u Q I rx ry h hs
 obtain ⟨a,z,rfl,g,q⟩:=h
 obtain rfl:v=Value.ref a:=rx
 have hT:=KD I g
 unfold Ho
 refine aP ?_
 rw [getitemInPython_of_ne hT.not_modules]
 refine aP (N5 hT PySem.F.slot_dict_getitem.lookup ?_)
 have fin:wpAny (model X.prog X.w) X.A (Od slice false (.ref a) u) (fun r s₃=>wpAny (model X.prog X.w) X.A (letTemporaryGo value (.ref a) r >>= fun _=>pure r) (EP X pins σ Q) X.xe s₃) X.xe s:=by
  rw [hs]
  exact wpAny_operating (V6 hu I g ry fun w' s3 I3 rw'=>aP (wpAny_letTemporaryGo (bH ⟨z,H,I3,rw',q⟩)))
 first
  | exact bH (aP fin)
  | exact aP (bH (aP fin))
  | exact aP fin
def ixG (hu:X.A.units+1<cLine):IxR X (Sx X.K):=acn.or (afH.or (acs hu))
def adM:V->V->V->Hp->(Hp->Prop)->Prop:=fun o i v H Q=>adI o i v H Q\/∃ a H',o = .ref a/\V5 H a i v H'/\Q H'
def setG (hu:X.A.units+1<cLine):PSet X adM:=by
 intro pins s σ H o i v ov iv u Q I ro ri rv h
 rcases h with h | ⟨a,H',rfl,g,q⟩
 ·exact set_list pins s σ H o i v ov iv u Q I ro ri rv h
 ·obtain rfl:ov=Value.ref a:=ro
  exact V7 hu I g ri rv fun s' I'=>⟨H',I',q⟩
def rInG (K:bh) (neg:Bool):R2:=fun x y H Q=>rIn K neg x y H Q\/∃ a o,y = .ref a/\wM H a x o/\Q (.bl (if neg then !o.isSome else o.isSome)) H
def afO (hu:X.A.units+1<cLine):OpR X (iV .NotIn) (rInG X.K true):=by
 intro pins s σ H x y v u Q I rx ry h
 rcases h with h | ⟨a,o,rfl,g,q⟩
 ·exact Ij pins s σ H x y v u Q I rx ry h
 ·obtain rfl:u=Value.ref a:=ry
  exact acq hu I g rx fun s' I'=>⟨.bl (!o.isSome),H,I',rfl,q⟩
def afP:List V->Hp->VK->Prop:=fun xs H Q=>∃ a kvs,xs=[V.ref a]/\Rd H a (.dK kvs)/\∀ p,H p=none->Q (.ref p) (upd H p (.dK kvs))
def Sy:gY X (.type "dict") afP:=by
 intro pins s σ H xs us Q I r h
 obtain ⟨a,kvs,rfl,ha,q⟩:=h
 obtain ⟨u,rfl,ru⟩:=vals1 r
 cases ru
 exact aaB I ha fun p s' hp I'=>⟨.ref p,_,I',rfl,q p hp⟩
def UW {P:bG} {w:World} {k:Key} {u:Value} (h:(cR P w).is k u=true):RelV (kV k) u:=by
 rcases eO (show Ay k u=true from h) with ⟨i,t,rfl,rfl⟩ | ⟨x,t,rfl,rfl⟩
 ·exact ⟨t,rfl⟩
 ·exact ⟨t,rfl⟩
def wN {P:bG} {w:World}:∀ {kvs:List (Key × V)} {vs:List (Key × Value)} {us:List Value},KV kvs vs->us.length=vs.length ->
  (∀ (j:Nat) (u:Value),us[j]? = some u->∃ k x,vs[j]? = some (k,x)/\(cR P w).is k u=true)->Vals (kvs.map fun p=>kV p.1) us
 | [],_,[],.nil,_,_=>.nil
 | [],_,_::_,.nil,hl,_=>by cases hl
 | _::_,_,[],.cons _ _,hl,_=>by cases hl
 | p::ps,_,u::us,.cons (b:=q) r t,hl,h=>by
  obtain ⟨k,x,e,hk⟩:=h 0 u rfl
  have e':q=(k,x):=by simpa using e
  have e2:p.1=k:=by rw [r.1,e']
  refine .cons (by show RelV (kV p.1) u;rw [e2];exact UW hk) (wN (P:=P) (w:=w) t (by simpa using hl) fun j v hv=>?_)
  obtain ⟨k',x',e'',hk'⟩:=h (j+1) v (by simpa using hv)
  exact ⟨k',x',by simpa using e'',hk'⟩
def Ea:∀ {kvs:List (Key × V)} {vs:List (Key × Value)} {us:List Value},KV kvs vs->us.length=vs.length ->
  (∀ (j:Nat) (u:Value),us[j]? = some u->∃ k,vs[j]? = some (k,u))->Vals (kvs.map (·.2)) us
 | [],_,[],.nil,_,_=>.nil
 | [],_,_::_,.nil,hl,_=>by cases hl
 | _::_,_,[],.cons _ _,hl,_=>by cases hl
 | p::ps,_,u::us,.cons (b:=q) r t,hl,h=>by
  obtain ⟨k,e⟩:=h 0 u rfl
  have e':q=(k,u):=by simpa using e
  refine .cons (by have:=r.2;rw [e'] at this;exact this) (Ea t (by simpa using hl) fun j v hv=>?_)
  obtain ⟨k',e''⟩:=h (j+1) v (by simpa using hv)
  exact ⟨k',by simpa using e''⟩
def aaE:List V->Hp->VK->Prop:=fun xs H Q=>∃ a kvs,xs=[V.ref a]/\Rd H a (.dK kvs)/\∀ p,H p=none->Q (.ref p) (upd H p (.lst (kvs.map fun p=>kV p.1)))
def SJ (hc:X.calm=true):gY X (.type "list") aaE:=by
 intro pins s σ H xs us Q I r h
 obtain ⟨a,kvs,rfl,ha,q⟩:=h
 obtain ⟨u,rfl,ru⟩:=vals1 r
 cases ru
 obtain ⟨z,hd,vs,rel,dd⟩:=rm I.hok ha
 obtain ⟨ep,hat⟩:=dd.dictAt
 have hl:=rel.length
 refine PySem.W.kdl_call (X4 (knd:=cR X.prog X.w) (kvs:=vs) (ep:=ep) hd) (I.ok.hd hc) hat (by rw [<- hl];exact z) fun h' tk acc' c' hk hD hacc=>?_
 have hv:Vals (kvs.map fun p=>kV p.1) acc'.toList:=wN rel (by rw [lC];exact hacc.1) fun j v e=>hacc.2 j v (by rw [<- Al];exact e)
 refine ⟨.ref s.heap.objs.size,_,I.laid (a:=s.heap.objs.size) (o:=.lst (kvs.map fun p=>kV p.1)) (t':=tk) hk (aX _) ?_,rfl,q _ (I.hok.fresh (aX _))⟩
 exact ⟨by rw [aZ];exact z,acc'.toList,c',hv,by first | (rw [Y9];exact hD) | simpa using hD⟩
def aaF (K:bh):List V->Hp->VK->Prop:=fun xs H Q=>(∃ p ys,xs=[.ref p]/\(SqL K H p ys\/SqT K H p ys)/\∀ l,H l=none->Q (.ref l) (upd H l (.lst ys)))\/aaE xs H Q
def gH (hc:X.calm=true):gY X (.type "list") (aaF X.K):=Ik.or (SJ hc)
def rIsi (K:bh):List V->Hp->VK->Prop:=fun xs H Q=>∃ x c t cv b,xs=[x,c]/\RelV c cv/\(∀ u,RelV c u->u=cv)/\wI K H x t/\zR K t cv=some b/\Q (.bl b) H
def call_isinstance:gY X (.builtin "isinstance") (rIsi X.K):=by
 intro pins s σ H xs us Q I r h
 obtain ⟨x,c,t,cv,b,rfl,rc,inj,ty,e,q⟩:=h
 obtain ⟨u,w',rfl,ru,rw'⟩:=vals2 r
 obtain rfl:=inj w' rw'
 exact V1 I ru ty e fun tk=>⟨.bl b,H,I.tok tk,rfl,q⟩
variable {a b c d:Expr} {ta tb tc td:TE} {pos:Pos}
end
end L2
namespace L2
open PySem PySem.Spec PyProof.Rows
section
variable {P:bG} {w:World} {H H':Hp} {h h':Heap} {a:Addr} {o:HO}
def dw.ex (x:dw P w H h a o):∃ u,h.get? a=some u:=by
 cases o with
 | lst xs=>obtain ⟨_,_,_,_,e⟩:=x;exact ⟨_,e⟩
 | tup xs=>obtain ⟨_,_,_,ob,e,_⟩:=x;exact ⟨ob,e⟩
 | dK kvs=>obtain ⟨_,_,_,_,o,_,_,e,_⟩:=x;exact ⟨o,e⟩
 | dT kvs=>obtain ⟨_,_,_,_,o,_,_,e,_⟩:=x;exact ⟨o,e⟩
 | set S n=>obtain ⟨o,_,_,_,e,_⟩:=x;exact ⟨o,e⟩
 | ins C dx fs=>obtain ⟨_,_,_,e,_⟩:=x;exact ⟨_,e⟩
 | own y=>exact x
 | xd fs=>obtain ⟨_,⟨o,_,_,e,_⟩,_⟩:=x;exact ⟨o,e⟩
 | rng lo hi=>obtain ⟨_,_,_,e⟩:=x;exact ⟨_,e⟩
 | frz ob u=>obtain ⟨e,_⟩:=x;exact ⟨_,e⟩
 | tbl ps=>exact ⟨_,show h.get? a=some _ from x⟩
 | met f y=>exact ⟨_,show h.get? a=some _ from x⟩
 | ext φ=>obtain ⟨_,⟨o,e⟩,_⟩:=x;exact ⟨o,e⟩
def HOk.Eb (x:HOk P w H h) (k:∀ b u,h.get? b=some u->h'.get? b=some u) (hn:H a=none) (new:dw P w (upd H a o) h' a o):HOk P w (upd H a o) h':=fun b u e=>by
 by_cases hb:b=a
 ·subst hb;rw [ak] at e;cases e;exact new
 ·rw [aA hb] at e
  exact (x b u e).stay (fun c v _ q=>k c v q) (fun c q=>by rw [aA (ao q hn)];exact q) fun c xs q=>by rw [aA (ao q hn)];exact q
def Un.Eb {fs ex:List Addr} (k:∀ b u,h.get? b=some u->h'.get? b=some u) (hne:∀ b u,h.get? b=some u->b≠a) (hn:H a=none):Un fs ex H (upd H a o) h h' where
 keep:=fun b u q _ _ _=>k b u q
 slot:=fun b u q _ _ _=>⟨u.slots,k b u q⟩
 free:=fun b u q n _=>by rw [aA (hne b u q)];exact n
 there:=fun b u q _=>⟨u,k b u q⟩
 tups:=fun b xs q=>by rw [aA (ao q hn)];exact q
 qT:=fun b u xs q=>by rw [aA (ao q hn)];exact q
 uf:=fun b ps q=>⟨#[],by rw [aA (ao q hn),q];simp⟩
end
section
variable {X:Cx} {pins:List (Addr × Obj)} {σ:St} {H H':Hp} {s:aG} {h':Heap}
def Inv.none_of (I:Inv X pins σ H s) {a:Addr} (hne:∀ b u,s.heap.get? b=some u->b≠a):H a=none:=by
 cases q:H a with
 | none=>rfl
 | some u =>
  obtain ⟨v,e⟩:=(I.hok a u q).ex
  exact absurd rfl (hne a v e)
def Inv.Eb {a:Addr} {o:HO} {t':Nat} (I:Inv X pins σ H s) (k:∀ b u,s.heap.get? b=some u->h'.get? b=some u) (hne:∀ b u,s.heap.get? b=some u->b≠a) (new:dw X.prog X.w (upd H a o) h' a o) :
  Inv X pins σ (upd H a o) { s with heap:=h',toks:=t' }:=I.un (Un.Eb k hne (I.none_of hne)) (I.hok.Eb k (I.none_of hne) new)
def Inv.aaG {t':Nat} {it t:Addr} {o:HO} (I:Inv X pins σ H s) (k:∀ b u,b≠it->s.heap.get? b=some u->h'.get? b=some u) (hie:∃ u,h'.get? it=some u) (hn:H it=none) (hL:it≠X.env.locals)
  (h1:it∈X.ex\/X.s₀.heap.objs.size<=it) (h2:∀ x c,X.env.cells.lookup x=some c->c≠it) (h3:∀ p∈X.pn++pins,p.1≠it) (ht:s.heap.objs.size<=t)
  (new:dw X.prog X.w (upd H t o) h' t o):Inv X pins σ (upd H t o) { s with heap:=h',toks:=t' }:=by
 have nit:∀ b u,H b=some u->b≠it:=fun b u e z=>by rw [z,hn] at e;cases e
 have ntt:H t=none:=I.hok.fresh ht
 have lt:∀ b u,s.heap.get? b=some u->b≠t:=fun b u e=>cZ (gC (bY e) ht)
 refine I.step (g':=s.gens) (d':=s.drawn) (ch:=[it]) (fun b hb=>?_) (fun b o _ _ hc e _=>k b o (fun z=>hc (by simp [z])) e) (fun b o _ _ hc e _=>⟨o.slots,k b o (fun z=>hc (by simp [z])) e⟩) (fun b u _ e n=>by rw [aA (lt b u e)];exact n)
  (fun b o hc e=>⟨o,k b o (fun z=>hc (by simp [z])) e⟩) (fun b xs e=>by rw [aA (ao e ntt)];exact e) (fun b q u e=>by rw [aA (ao e ntt)];exact e) (fun b ps e=>⟨#[],by rw [aA (ao e ntt),e];simp⟩) (fun m hm=>?_) (fun b u e=>?_) I.bare
 ·have e:b=it:=by simpa using hb
  subst e
  exact ⟨h1,hL,h2,h3⟩
 ·obtain ⟨o,es,ep,ho,r⟩:=hm
  exact ⟨o,es,ep,k _ o (aL hL) ho,r⟩
 ·by_cases hb:b=t
  ·subst hb;rw [ak] at e;cases e;exact new
  ·rw [aA hb] at e
   refine (I.hok b u e).stay (fun c v hc q=>k c v ?_ q) (fun c q=>by rw [aA (ao q ntt)];exact q) fun c xs q=>by rw [aA (ao q ntt)];exact q
   rcases hc with z | z
   ·rw [z];exact nit b u e
   ·exact nit c _ z
def Inv.freeze {a:Addr} {kvs:List (Key × V)} (I:Inv X pins σ H s) (e:H a=some (.dK kvs)):∃ o es ep,o.data = .dict es ep/\s.heap.get? a=some o/\Inv X pins σ (upd H a (.frz o (.dK kvs))) s:=by
 obtain ⟨z,hd,vs,rel,o,es,ep,ho,hx⟩:=adL I.hok e
 refine ⟨o,es,ep,hx.2.1,ho,?_⟩
 have I':Inv X pins σ (upd H a (.frz o (.dK kvs))) { s with heap:=s.heap,toks:=s.toks }:=I.write (x:=a) (e:=a) (by rw [e];exact trivial) (.inl rfl) (fun _ _ _ q=>q) ⟨o,ho⟩ ⟨ho,z,hd,vs,rel,o,es,ep,ho,hx⟩
 exact I'
def Inv.thaw {a:Addr} {o:Obj} {kvs:List (Key × V)} (I:Inv X pins σ H s) (e:H a=some (.frz o (.dK kvs))) (th:∀ q u,X.H₀ a≠some (.frz q u)):Inv X pins σ (upd H a (.dK kvs)) s:=by
 have ne:∀ b,H b=none->b≠a:=fun b n z=>by rw [z,e] at n;cases n
 have nt:∀ b xs,H b=some (.tup xs)->b≠a:=fun b xs n z=>by rw [z,e] at n;cases n
 have no:∀ b y,H b=some (.own y)->b≠a:=fun b y n z=>by rw [z,e] at n;cases n
 refine ⟨I.ok,I.os,I.bare,⟨I.base.keep,I.base.slot,fun b ob q n hx=>?_,I.base.there,fun b xs q=>?_,fun b ob u q=>?_,fun b ps q=>?_⟩,I.loc,I.cell,?_,fun x c q=>?_,fun p hp=>?_,fun b u q=>?_,I.len⟩
 ·have n':=I.base.free b ob q n hx
  rw [aA (ne b n')];exact n'
 ·have q':=I.base.tups b xs q
  rw [aA (nt b xs q')];exact q'
 ·have q':=I.base.qT b ob u q
  rw [aA (fun (z:b=a)=>th ob u (z ▸ q))];exact q'
 ·obtain ⟨m,q'⟩:=I.base.uf b ps q
  exact ⟨m,by rw [aA (fun z=>by rw [z,e] at q';cases q')];exact q'⟩
 ·rw [aA (ne _ I.free)];exact I.free
 ·have n:=I.qU x c q
  rw [aA (ne _ n)];exact n
 ·obtain ⟨h1,n,r⟩:=I.pin p hp
  exact ⟨h1,by rw [aA (ne _ n)];exact n,r⟩
 ·by_cases hb:b=a
  ·subst hb;rw [ak] at q;cases q
   obtain ⟨_,r⟩:=(show dw X.prog X.w H s.heap b (.frz o (.dK kvs)) from I.hok b _ e)
   exact r
  ·rw [aA hb] at q
   exact (I.hok b u q).stay (fun _ _ _ r=>r) (fun c r=>by rw [aA (no c b r)];exact r) fun c xs r=>by rw [aA (nt c xs r)];exact r
end
def Iti (a:Addr) (o:Obj) (kvs:List (Key × V)):It :=
 ⟨fun i H=>H a=some (.frz o (.dK kvs))/\i<kvs.length,fun i H x H'=>∃ p t,kvs[i]? = some p/\H t=none/\x = .ref t/\H'=upd H t (.tup [kV p.1,p.2]),fun i H=>H a=some (.frz o (.dK kvs))/\kvs.length<=i⟩
def SM {P:bG} {w:World} {H:Hp} {h:Heap} {a:Addr} {o:Obj} {kvs:List (Key × V)} {es:Array Ot} {ep:Nat} (hok:HOk P w H h) (e:H a=some (.frz o (.dK kvs))) (hd:o.data = .dict es ep) :
  ∃ vs,KV kvs vs/\h.DictAt (cR P w) a vs ep:=by
 obtain ⟨ho,_,_,vs,rel,o',es',ep',ho',h2,h3,r⟩:=(show dw P w H h a (.frz o (.dK kvs)) from hok a _ e)
 rw [ho] at ho';cases ho'
 rw [hd] at h3;cases h3
 exact ⟨vs,rel,o,_,ho,h2,hd,r⟩
def KV.at {kvs:List (Key × V)} {vs:List (Key × Value)} (r:KV kvs vs):∀ {i:Nat} {p:Key × V},kvs[i]? = some p->∃ v,vs[i]? = some (p.1,v)/\RelV p.2 v:=by
 unfold KV at r
 induction r with
 | nil=>intro i p e;simp at e
 | @cons a b as bs h t ih =>
  intro i p e
  cases i with
  | zero =>
   have e':a=p:=by simpa using e
   subst e'
   exact ⟨b.2,by rw [h.1];rfl,h.2⟩
  | succ j =>
   obtain ⟨v,h1,h2⟩:=ih (i:=j) (p:=p) (by simpa using e)
   exact ⟨v,by simpa using h1,h2⟩
def rY:entryFor table "dict_itemiterator.__iter__" = some lg.«dict_keyiterator.__iter__» :=
 entryFor_alias (id' := "dict_keyiterator.__iter__") (by kernel_rfl) rfl (by decide +kernel) (by kernel_rfl)
def qy {prog:bG} {w:World} {A:bQ} {E:Value->aG->Prop} {s:aG} {it d:Addr} {i n ep:Nat} {ok ov:Value} {Q:Value->aG->Prop} (hit:IsItemIter s.heap it d i n ep ok ov) (h:Q (.ref it) s) :
  wpAny (model prog w) A (Ab (.ref it)) Q E s:=by
 have hT:s.TypeIs (.ref it) "dict_itemiterator" := ⟨_,hit,rfl⟩
 refine wpAny_pyIter_slot hT Yz (zV Yz hT rY ?_ (F.args_dict_itemiterator_iter_1 _))
 show wpAny _ _ (ret (.ref it)) _ _ s
 exact bH ⟨_,rfl,"dict_itemiterator",_,hT,F.slot_dict_itemiterator_next.lookup,h⟩
def SN {P:bG} {w:World} {K:bh} {elts:List Expr} {x1} {tpos:Pos} (a it:Addr) (o:Obj) (kvs:List (Key × V)) {es:Array Ot} {ep:Nat} (hd:o.data = .dict es ep) :
  Turn P w K (.Tuple elts x1 tpos) (Iti a o kvs) [it] it (fun i h=>∃ ok ov,IsItemIter h it a i kvs.length ep ok ov) where
 mem:=by simp
 obj:=fun i h st b hb=>by
  have e:b=it:=by simpa using hb
  subst e
  obtain ⟨ok,ov,e⟩:=st
  exact ⟨_,e,fun v z=>by cases z⟩
 keep:=fun i h h' st k=>by
  obtain ⟨ok,ov,e⟩:=st
  exact ⟨ok,ov,k it (by simp) _ e⟩
 item:=by
  intro X hP hw hK hc i pins s σ H E I hf st hg
  subst hP hw hK
  obtain ⟨e,hi⟩:=hg
  obtain ⟨vs,rel,dm⟩:=SM I.hok e hd
  have hl:=rel.length
  obtain ⟨p,hp⟩:∃ p,kvs[i]? = some p:=⟨kvs[i],by simp [hi]⟩
  obtain ⟨v,hv,rv⟩:=rel.at hp
  obtain ⟨f0,f1,f2,f3,f4,f5⟩:=hf it (by simp)
  obtain ⟨ok,ov,st⟩:=st
  refine wpAny_pyNext_items_item (knd:=cR X.prog X.w) (by rw [<- hl];exact st) dm hv fun key h' hkey heo ht hz hk=>?_
  have hit:it<s.heap.objs.size:=bY st
  have nt:H s.heap.objs.size=none:=I.hok.fresh (aX _)
  have I1:Inv X pins σ (upd H s.heap.objs.size (.tup [kV p.1,p.2])) { s with heap:=h' }:=I.aaG (t':=s.toks) hk ⟨_,heo⟩ f0 f1 f3 f4 f5 (aX _)
   ⟨by show 2<=sizeLine;decide,[key,v],.cons (UW hkey) (.cons rv .nil),⟨_,ht,rfl,_,rfl⟩⟩
  have n1:(upd H s.heap.objs.size (.tup [kV p.1,p.2])) it=none:=by rw [aA (cZ hit)];exact f0
  refine ⟨.ref s.heap.objs.size,rfl,wpAny_letOwnedTupleGo_items heo fun h2 he2 hs2=>?_⟩
  refine ⟨.ref s.heap.objs.size,_,I1.turned (t':=s.toks) (fun b ob hb q=>(hs2.2 b hb).trans q) n1 f1 f3 f4 f5,rfl,⟨p,_,hp,nt,rfl,rfl⟩,⟨key,v,by rw [<- hl] at he2;exact he2⟩,fun b hb=>?_⟩
  have eb:b=it:=by simpa using hb
  subst eb
  exact n1
 done:=by
  intro X hP hw hK hc i pins s σ H E I hf st hg
  subst hP hw hK
  obtain ⟨e,hi⟩:=hg
  obtain ⟨vs,rel,dm⟩:=SM I.hok e hd
  have hl:=rel.length
  obtain ⟨f0,f1,f2,f3,f4,f5⟩:=hf it (by simp)
  obtain ⟨ok,ov,st⟩:=st
  exact wpAny_pyNext_items_end (knd:=cR X.prog X.w) (I.ok.hd hc) (by rw [<- hl];exact st) dm (by rw [M6];omega) fun h' eb=>⟨rfl,I.turned (t':=s.toks) (fun b o hb e=>eb b o hb e) f0 f1 f3 f4 f5⟩
 self:=fun A i s Q E st h=>by
  obtain ⟨ok,ov,e⟩:=st
  exact qy e h
section
variable {X:Cx} {tg:Expr}
abbrev Warm (X:Cx) (a:Addr):Prop:=∀ q u,X.H₀ a≠some (.frz q u)
def Inv.warm {pins:List (Addr × Obj)} {σ:St} {H:Hp} {s:aG} {a:Addr} {kvs:List (Key × V)} (I:Inv X pins σ H s) (e:H a=some (.dK kvs)):Warm X a:=fun q u z=>by
 have:=I.base.qT a q u z
 rw [e] at this;cases this
def aaH (X:Cx) (td:TE):TI:=fun σ H R=>td σ H fun x H1=>∃ a kvs,x = .ref a/\H1 a=some (.dK kvs)/\∀ o,Warm X a->R (Iti a o kvs) (upd H1 a (.frz o (.dK kvs)))
structure MI (X:Cx) (o:Expr) (m:Str) (apos cpos:Pos):Prop where
 base:tE o m X.env (eval o X.env)=eval o X.env
 line:(apos.endLine == cpos.line)=true
def aaI {l:Expr} {td:TE} {elts:List Expr} {x1} {tpos apos cpos:Pos} (hl:PE X l td) (m:MI X l "items" apos cpos):PI X (.Tuple elts x1 tpos) (.Call (.Attribute l "items" apos) [] [] cpos) (aaH X td):=by
 intro pins s σ H R I h
 refine NT (T := "dict") (id := "dict.items") m.base rfl m.line O1 YD PySem.F.type_dict_items (thn (hl pins s σ H _ I h) fun v s1 ⟨x,H1,I1,r1,q1⟩=>?_)
 obtain ⟨a,kvs,rfl,e,q⟩:=q1
 obtain rfl:v=Value.ref a:=r1
 obtain ⟨t1,t2,hS⟩:=Ss I1 (.inl ⟨kvs,.inl e⟩)
 refine ⟨t1,t2,?_⟩
 obtain ⟨o,es,ep,hd,ho,If⟩:=I1.freeze e
 obtain ⟨vs,rel,dm⟩:=SM If.hok ak hd
 have hl':=rel.length
 refine Ym YD PySem.F.entry_dict_items rfl (Yi ⟨rfl,t1,PySem.F.args_dict_items_1 _,_,meets_dict_items (cR X.prog X.w) a hS,⟨vs,dm.dictOf⟩,?_⟩)
 refine wpAny_pyIter_items (knd:=cR X.prog X.w) (d:=a) ⟨_,fW _ rfl,rfl,rfl⟩ (dm.push _) ?_
 have I2:=If.kept (h':=s1.heap.push { cls:=.type "dict_items",data:=.fields #[.ref a] }) (t':=s1.toks) fun b ob e=>eZ _ e
 refine ⟨(s1.heap.push { cls:=.type "dict_items",data:=.fields #[.ref a] }).objs.size,[(s1.heap.push { cls:=.type "dict_items",data:=.fields #[.ref a] }).objs.size],_,_,_,rfl,I2.kept (t':=s1.toks) fun b ob e=>eZ _ e,SN a _ o kvs hd,
  ⟨.none,.none,by rw [hl'];exact fW _ rfl⟩,fun b hb=>?_,q o (I1.warm e)⟩
 have eb:b=(s1.heap.push { cls:=.type "dict_items",data:=.fields #[.ref a] }).objs.size:=by simpa using hb
 subst eb
 exact I2.aaj (aX _) (I2.hok.fresh (aX _))
def aaJ (X:Cx) (D:Ends):Ends where
 nx:=fun σ H=>∃ a kvs o,Warm X a/\H a=some (.frz o (.dK kvs))/\D.nx σ (upd H a (.dK kvs))
 rt:=fun v H=>∃ a kvs o,Warm X a/\H a=some (.frz o (.dK kvs))/\D.rt v (upd H a (.dK kvs))
def acu {pins:List (Addr × Obj)} {D:Ends} {f:Flow} {s':aG} (h:SP X pins (aaJ X D) f s'):SP X pins D f s':=by
 cases f with
 | next =>
  obtain ⟨σ',H',I,a,kvs,o,w,e,q⟩:=h
  exact ⟨σ',_,I.thaw e w,q⟩
 | brk =>
  obtain ⟨σ',H',I,q⟩:=h
  exact q.elim
 | cont =>
  obtain ⟨σ',H',I,q⟩:=h
  exact q.elim
 | ret u =>
  obtain ⟨v,σ',H',I,r,a,kvs,o,w,e,q⟩:=h
  exact ⟨v,σ',_,I.thaw e w,r,q⟩
def tForI (X:Cx) (td:TE) (g:TG) (tb:TS):TS:=fun D σ H=>tFor (aaH X td) g tb (aaJ X D) σ H
def acv {l:Expr} {td:TE} {body:List Stmt} {elts:List Expr} {x1} {tpos apos cpos:Pos} {g:TG} {tb:TS} {pos:Pos} (hp:Om (model X.prog X.w) X.A X.env X.xe) (hc:X.calm=true) (hl:PE X l td) (m:MI X l "items" apos cpos)
  (hg:PG X (.Tuple elts x1 tpos) g) (hb:PSs X body tb)
  (hs:∀ x,FT (.Call (.Attribute l "items" apos) [] [] cpos) X.env x=pure x:=by intro _;rfl):PS X (.For (.Tuple elts x1 tpos) (.Call (.Attribute l "items" apos) [] [] cpos) body [] pos) (tForI X td g tb) :=
 fun pins s σ H D I h=>thn (jO hp hc (aaI hl m) hg hb hs pins s σ H (aaJ X D) I h) fun _ _ q=>acu q
def Wa {a:Addr} {o:Obj} {kvs:List (Key × V)} {g:TG} {tb:TS} {D:Ends} {σ:St} {H:Hp} (Pv:Nat->St->Hp->Prop) (h0:Pv 0 σ H) (hl:∀ i σ H,Pv i σ H->H a=some (.frz o (.dK kvs)))
  (hs:∀ i p t σ H,kvs[i]? = some p->Pv i σ H->H t=none->g (.ref t) σ (upd H t (.tup [kV p.1,p.2])) fun σ2 H2=>tb { D with nx:=Pv (i+1),ct:=Pv (i+1),bk:=D.nx } σ2 H2) (hd:∀ σ H,Pv kvs.length σ H->D.nx σ H) :
  ∃ W:Nat->Nat->St->Hp->Prop,(∃ m,W 0 m σ H)/\∀ i m σ H,W i m σ H ->
   ((Iti a o kvs).stop i H/\D.nx σ H)\/((Iti a o kvs).go i H/\∃ N:St->Hp->Prop,(∀ σ' H',N σ' H'->∃ m',m'<m/\W (i+1) m' σ' H')/\∀ x H',(Iti a o kvs).yld i H x H'->g x σ H' fun σ2 H2=>tb { D with nx:=N,ct:=N,bk:=D.nx } σ2 H2):=by
 refine ⟨fun i m σ H=>m=kvs.length-i/\i<=kvs.length/\Pv i σ H,⟨kvs.length,by simp,dN _,h0⟩,?_⟩
 rintro i m σ H ⟨rfl,hi,p⟩
 have q:=hl i σ H p
 by_cases hlt:i<kvs.length
 ·refine .inr ⟨⟨q,hlt⟩,Pv (i+1),fun σ' H' p'=>⟨kvs.length-(i+1),by omega,rfl,hlt,p'⟩,fun x H' y=>?_⟩
  obtain ⟨pr,t,hp,ht,ex,e⟩:=y
  subst e ex
  exact hs i pr t σ H hp p ht
 ·have e:i=kvs.length:=by omega
  subst e
  exact .inl ⟨⟨q,aX _⟩,hd σ H p⟩
end
section
variable {X:Cx} {l:Expr} {td:TE} {p kp cpos apos pos:Pos} {j:Nat} {bpos:Pos}
def acw (td:TE):TE:=fun σ H Q=>td σ H fun x H1=>∃ a kvs ns,x = .ref a/\Rd H1 a (.dK kvs)/\kvs.map (·.2)=ns.map V.int/\ns.length<64 /\
 ∀ (l:Addr) (ns':List Int),H1 l=none->ns'.Perm ns->ns'.Pairwise (· >= ·)->Q (.ref l) (upd H1 l (.lst (ns'.map V.int)))
def Bj {A:bQ} {E:Value->aG->Prop} {s:aG} {T:String} {r d:Addr} {n:Nat} {P:Nat->Value->Prop} {OK:Heap->Prop} {ns:List Int} {bb:Bool} {Q:Value->aG->Prop}
  (K:X7 X.prog X.w T r d n P OK) (hh:A.handled=none) (hok:OK s.heap) (hn:n<=sizeLine) (h64:n<64) (hP:∀ us:List Value,us.length=n->(∀ (j:Nat) (v:Value),us[j]? = some v->P j v)->mY us ns)
  (h:∀ (h':Heap) (tk:Nat) (l:Addr) (out:Array Value) (ns':List Int) (e:Nat),(∀ b ob,s.heap.get? b=some ob->h'.get? b=some ob)->(∀ b ob,s.heap.get? b=some ob->b≠l)->h'.get? l=some (dh "list" out e) ->
   mY out.toList ns'->ns'.Perm ns->Ordered bb ns'->Q (.ref l) { s with heap:=h',toks:=tk }) :
  wpAny (model X.prog X.w) A (call (.builtin "sorted") [.ref r] [(bM "reverse",.bool bb)]) Q E s:=by
 refine call_function_entry_kw Pu Pq Pr (args_sorted_rev _ _) ?_
 unfold lg.«sorted»
 refine aP (m:=Ol "sorted" 1 1 _) (bH ?_)
 refine aP (XM (A:=A.in1) K hh hok hn fun h1 tk acc hk hacc=>?_)
 have hl:acc.toList.length=n:=by rw [lC];exact hacc.1
 have hI:=hP acc.toList hl fun j v e=>hacc.2 j v (by rw [<- Al];exact e)
 refine aP (Gd ?_ (by rw [hl];exact hn))
 have hoL:(h1.push (dh "list" acc.toList.toArray 0)).get? h1.objs.size=some (dh "list" acc.toList.toArray 0):=fW _ rfl
 refine aP (nP (wpAny_call_entry_kw Pj ⟨_,hoL,rfl⟩ Ph (list_sort_tree_rev hoL hI (by rw [hl];exact h64) fun out ns' a1 a2 a3=>⟨_,rfl,?_⟩) (args_list_sort_rev _ _)))
 refine bH ⟨_,rfl,?_⟩
 obtain ⟨e,he⟩:=Zq (vs:=acc.toList) (out:=out) hoL
 have hb:∀ b ob,s.heap.get? b=some ob->b<h1.objs.size:=fun b ob e'=>bY (hk b ob e')
 refine h _ tk _ out ns' e (fun b ob e'=>?_) (fun b ob e'=>cZ (hb b ob e')) he a1 a2 a3
 have hlt:=hb b ob e'
 rw [Zk (cZ hlt) (by rw [Ht];exact tL hlt)]
 exact eZ _ (hk b ob e')
def Wc (hm0:X.mg "sorted" = none) (hl:PE X l td) (m:MI X l "values" apos cpos) (hc:X.calm=true) (hg:Gl X "sorted" := by rfl) :
  PE X (.Call (.Name "sorted" p) [.Call (.Attribute l "values" apos) [] [] cpos] [⟨some "reverse",.Constant (.bool true) j bpos,kp⟩] pos) (acw td):=by
 intro pins s σ H Q I h
 refine xV (lE I hg hm0 boot_sorted ?_)
 refine Px (yh (NT (T := "dict") (id := "dict.values") m.base rfl m.line O1 YB PySem.F.type_dict_values (thn (hl pins s σ H _ I h) fun v s1 ⟨x,H1,I1,r1,q1⟩=>?_)))
 obtain ⟨a,kvs,ns,rfl,e,ei,h64,q⟩:=q1
 obtain rfl:v=Value.ref a:=r1
 obtain ⟨t1,t2,hS⟩:=Ss I1 (.inl ⟨kvs,e⟩)
 refine ⟨t1,t2,?_⟩
 obtain ⟨z,_,vs,rel,dd⟩:=rm I1.hok e
 obtain ⟨ep,dm⟩:=dd.dictAt
 have hlen:=rel.length
 have hns:ns.length=kvs.length:=by have:=congrArg kE ei;simpa using this.symm
 refine Ym YB PySem.F.entry_dict_values rfl (Yi ⟨rfl,t1,PySem.F.args_dict_values_1 _,_,meets_dict_values (cR X.prog X.w) a hS,⟨vs,dd⟩,?_⟩)
 refine ud (PB ?_)
 refine Zo (kws_nil ?_)
 show wpAny _ _ (call (.builtin "sorted") [.ref s1.heap.objs.size] [(bM "reverse",.bool true)]) _ _ _
 have I2:=I1.kept (h':=s1.heap.push { cls:=.type "dict_values",data:=.fields #[.ref a] }) (t':=s1.toks) fun b ob e=>eZ _ e
 refine Bj (X:=X) (ns:=ns) (bb:=true) (PySem.W.kdl_values (knd:=cR X.prog X.w) (kvs:=vs) (ep:=ep)) (I1.ok.hd hc) ⟨⟨_,fW _ rfl,rfl,rfl⟩,dm.push _⟩ (by rw [<- hlen];exact z) (by omega) (fun us hu hv=>?_) fun h' tk l' out ns' e' kp hne hl' hI hp ho=>?_
 ·have vv:=Ea rel hu hv
  rw [ei] at vv
  exact intsAre_of vv
 ·refine ⟨.ref l',_,I2.Eb (t':=tk) kp hne (show dw X.prog X.w _ h' l' (.lst (ns'.map V.int)) from ⟨?_,out.toList,e',n8 hI,by simpa using hl'⟩),rfl,q l' ns' (I2.none_of hne) hp ho⟩
  rw [aZ,hp.length_eq,hns];exact z
end
end L2
set_option autoImplicit false
namespace MG
abbrev Tab:=List (Int × Int)
def look (c:Tab) (k:Int):Option Int:=(c.find? fun p=>decide (p.1=k)).map (·.2)
def low (c:Tab) (k:Int):Int:=(look c k).getD 0
def put (c:Tab) (k v:Int):Tab :=
 if (c.any fun p=>decide (p.1=k))=true then c.map (fun p=>if p.1=k then (p.1,v) else p) else c++[(k,v)]
def keys (c:Tab):List Int:=c.map (·.1)
def vals (c:Tab):List Int:=c.map (·.2)
def cQ (c:Tab) (cut:Int):Tab:=(c.filter fun p=>decide (cut<p.2)).map fun p=>(p.1,p.2-cut)
def aaK (k:Int):look [] k=none:=rfl
def gb (p:Int × Int) (r:Tab) (k:Int):look (p::r) k=if p.1=k then some p.2 else look r k:=by
 unfold look
 rw [sX]
 by_cases h:p.1=k
 ·rw [if_pos h];simp [h]
 ·rw [if_neg h];simp [h]
def Il (k:Int):low [] k=0:=rfl
def uT (p:Int × Int) (r:Tab) (k:Int):low (p::r) k=if p.1=k then p.2 else low r k:=by
 unfold low
 rw [gb]
 by_cases h:p.1=k
 ·rw [if_pos h,if_pos h];rfl
 ·rw [if_neg h,if_neg h]
def U0 (c:Tab) (k:Int):(c.any fun p=>decide (p.1=k))=true↔k∈keys c:=by
 unfold keys
 rw [List.any_eq_true]
 constructor
 ·rintro ⟨p,h1,h2⟩
  exact kj.mpr ⟨p,h1,of_decide_eq_true h2⟩
 ·intro h
  obtain ⟨p,h1,h2⟩:=kj.mp h
  exact ⟨p,h1,decide_eq_true h2⟩
def sS (c:Tab) (k:Int):look c k=none↔k∉keys c:=by
 induction c with
 | nil=>simp [aaK,keys]
 | cons p r ih =>
  rw [gb]
  by_cases h:p.1=k
  ·rw [if_pos h];simp [keys,h]
  ·rw [if_neg h,ih];simp [keys];intro _ e;exact h e.symm
def rA {c:Tab} {k:Int} (h:k∉keys c):low c k=0:=by
 unfold low;rw [(sS c k).mpr h];rfl
def aaL {c:Tab} {k v:Int} (h:look c k=some v):(k,v)∈c:=by
 induction c with
 | nil=>cases h
 | cons p r ih =>
  rw [gb] at h
  by_cases e:p.1=k
  ·rw [if_pos e] at h
   cases h
   rw [<- e];exact eF
  ·rw [if_neg e] at h;exact eU _ (ih h)
def mH {c:Tab} (hn:(keys c).Nodup) {p:Int × Int} (h:p∈c):look c p.1=some p.2:=by
 induction c with
 | nil=>cases h
 | cons q r ih =>
  rw [gb]
  have hn':(q.1::keys r).Nodup:=hn
  rw [nO] at hn'
  rcases cC.mp h with e | e
  ·subst e;rw [if_pos rfl]
  ·have:p.1∈keys r:=kj.mpr ⟨p,e,rfl⟩
   rw [if_neg (fun (z:q.1=p.1)=>hn'.1 (z ▸ this))]
   exact ih hn'.2 e
def uh {c:Tab} (h:∀ p∈c,1<=p.2) (k:Int):0<=low c k:=by
 unfold low
 cases e:look c k with
 | none=>exact cT 0
 | some v=>have:=h _ (aaL e);simp at this ⊢; omega
def Wd (c:Tab) (k v:Int):keys (c.map fun p=>if p.1=k then (p.1,v) else p)=keys c:=by
 unfold keys
 rw [iM]
 apply vK
 intro p _
 show (if p.1=k then (p.1,v) else p).1=p.1
 split <;> rfl
def Im {c:Tab} {k v:Int} (h:k∈keys c):put c k v=c.map fun p=>if p.1=k then (p.1,v) else p:=by
 unfold put;rw [if_pos ((U0 c k).mpr h)]
def zm {c:Tab} {k v:Int} (h:k∉keys c):put c k v=c++[(k,v)]:=by
 unfold put;rw [if_neg (fun z=>h ((U0 c k).mp z))]
def KN (c:Tab) (k v:Int):keys (put c k v)=if k∈keys c then keys c else keys c++[k]:=by
 by_cases h:k∈keys c
 ·rw [if_pos h,Im h,Wd]
 ·rw [if_neg h,zm h];simp [keys]
def Io (c:Tab) (k v j:Int):j∈keys (put c k v)↔j=k\/j∈keys c:=by
 rw [KN]
 by_cases h:k∈keys c
 ·rw [if_pos h]
  exact ⟨Or.inr,fun z=>z.elim (fun e=>e ▸ h) id⟩
 ·rw [if_neg h,gB,fP]
  exact ⟨fun z=>z.elim Or.inr Or.inl,fun z=>z.elim Or.inr Or.inl⟩
def aaM {c:Tab} (hn:(keys c).Nodup) (k v:Int):(keys (put c k v)).Nodup:=by
 rw [KN]
 by_cases h:k∈keys c
 ·rw [if_pos h];exact hn
 ·rw [if_neg h,Xp]
  refine ⟨hn,by simp,?_⟩
  intro a ha b hb e
  rw [fP] at hb
  exact h (by rw [<- hb,<- e];exact ha)
def U3 (c:Tab) (k v:Int):(put c k v).length<=c.length+1:=by
 unfold put
 split
 ·rw [aZ];omega
 ·rw [dR];simp
def Wf (c:Tab) (k v j:Int):look (c.map fun p=>if p.1=k then (p.1,v) else p) j=(look c j).map fun x=>if j=k then v else x:=by
 induction c with
 | nil=>rfl
 | cons p r ih =>
  rw [dZ,gb,gb,ih]
  by_cases h:p.1=k
  ·rw [if_pos h]
   by_cases e:p.1=j
   ·rw [if_pos e,if_pos e,ZM,if_pos (e.symm.trans h)]
   ·rw [if_neg e,if_neg e]
  ·rw [if_neg h]
   by_cases e:p.1=j
   ·rw [if_pos e,if_pos e,ZM,if_neg (fun z=>h (e.trans z))]
   ·rw [if_neg e,if_neg e]
def Wg (c:Tab) (k v j:Int) (h:k∉keys c):look (c++[(k,v)]) j=if j=k then some v else look c j:=by
 induction c with
 | nil =>
  rw [Nq,gb]
  by_cases e:k=j
  ·rw [if_pos e,if_pos e.symm]
  ·rw [if_neg e,if_neg (fun z=>e z.symm)]
 | cons p r ih =>
  have hk:¬ p.1=k:=fun z=>h (by simp [keys,z])
  have hr:k∉keys r:=fun z=>h (eU _ z)
  rw [vM,gb,gb,ih hr]
  by_cases e:p.1=j
  ·rw [if_pos e,if_pos e,if_neg (fun z=>hk (e.trans z))]
  ·rw [if_neg e,if_neg e]
def aaN (c:Tab) (k v j:Int):look (put c k v) j=if j=k then some v else look c j:=by
 by_cases h:k∈keys c
 ·rw [Im h,Wf]
  by_cases e:j=k
  ·subst e
   cases q:look c j with
   | none=>exact absurd h ((sS c j).mp q)
   | some x=>simp
  ·simp only [if_neg e]
   cases look c j <;> rfl
 ·rw [zm h,Wg c k v j h]
def U4 (c:Tab) (k v j:Int):low (put c k v) j=if j=k then v else low c j:=by
 unfold low
 rw [aaN]
 split <;> rfl
def U5 {c:Tab} (h:∀ p∈c,1<=p.2) {k v:Int} (hv:1<=v):∀ p∈put c k v,1<=p.2:=by
 intro p hp
 unfold put at hp
 split at hp
 ·obtain ⟨q,hq,e⟩:=kj.mp hp
  by_cases z:q.1=k
  ·rw [if_pos z] at e;subst e;exact hv
  ·rw [if_neg z] at e;subst e;exact h q hq
 ·rcases gB.mp hp with z | z
  ·exact h p z
  ·rw [fP] at z;subst z;exact hv
def aaO {c:Tab} (hn:(keys c).Nodup) {k v:Int} (h:k∈keys c):(vals (c.map fun p=>if p.1=k then (p.1,v) else p)).sum=(vals c).sum-low c k+v:=by
 induction c with
 | nil=>cases h
 | cons p r ih =>
  have hn':(p.1::keys r).Nodup:=hn
  rw [nO] at hn'
  rw [uT]
  by_cases e:p.1=k
  ·have hr:k∉keys r:=e ▸ hn'.1
   have id_r:(r.map fun p=>if p.1=k then (p.1,v) else p)=r:=by
    have:∀ q∈r,(if q.1=k then (q.1,v) else q)=q:=fun q hq=>if_neg (fun (z:q.1=k)=>hr (z ▸ kj.mpr ⟨q,hq,rfl⟩))
    exact (vK this).trans (XF r)
   rw [dZ,if_pos e,if_pos e,id_r]
   simp only [vals,dZ,iK];omega
  ·have hr:k∈keys r:=by
    rcases cC.mp h with z | z
    ·exact absurd z.symm e
    ·exact z
   rw [dZ,if_neg e,if_neg e]
   have:=ih hn'.2 hr
   simp only [vals,dZ,iK] at this ⊢; omega
def acy {c:Tab} (hn:(keys c).Nodup) (k w:Int):(vals (put c k (low c k+w))).sum=(vals c).sum+w:=by
 by_cases h:k∈keys c
 ·rw [Im h,aaO hn h];omega
 ·rw [zm h,rA h]
  simp only [vals,cW,dZ,vN,Ft,iK,XH];omega
def uU {c:Tab} {cut k:Int} (h:k∈keys (cQ c cut)):k∈keys c:=by
 unfold keys cQ at h
 rw [iM] at h
 obtain ⟨p,hp,e⟩:=kj.mp h
 exact kj.mpr ⟨p,(qD.mp hp).1,e⟩
def aaP (c:Tab) (cut:Int):keys (cQ c cut)=keys (c.filter fun p=>decide (cut<p.2)):=by
 unfold keys cQ;rw [iM];rfl
def afQ {c:Tab} (hn:(keys c).Nodup) (cut:Int):(keys (cQ c cut)).Nodup:=by
 rw [aaP]
 exact ZX (Z4 _ List.filter_sublist) hn
def acz (c:Tab) (cut:Int):∀ p∈cQ c cut,1<=p.2:=by
 intro p hp
 unfold cQ at hp
 obtain ⟨q,hq,e⟩:=kj.mp hp
 have:=of_decide_eq_true (qD.mp hq).2
 subst e
 show 1<=q.2-cut
 omega
def acA (c:Tab) (cut:Int):(cQ c cut).length<=c.length:=by
 unfold cQ;rw [aZ];exact xR _ _
def aaQ {c:Tab} (h:∀ p∈c,1<=p.2):cQ c 0=c:=by
 unfold cQ
 rw [Xj.mpr (fun p hp=>decide_eq_true (by have:=h p hp;omega))]
 have:∀ p∈c,(p.1,p.2-0)=p:=fun p _=>by rw [Int.sub_zero]
 exact (vK this).trans (XF c)
def U6 {c:Tab} (hn:(keys c).Nodup) {cut:Int} (hc:0<=cut) (hp:∀ p∈c,0<=p.2) (k:Int):low (cQ c cut) k=if low c k-cut<=0 then 0 else low c k-cut:=by
 induction c with
 | nil=>rw [show cQ [] cut=[] from rfl,Il];split <;> omega
 | cons p r ih =>
  have hn':(p.1::keys r).Nodup:=hn
  rw [nO] at hn'
  have ih':=ih hn'.2 (fun q hq=>hp q (eU _ hq))
  by_cases h:cut<p.2
  ·have e:cQ (p::r) cut=(p.1,p.2-cut)::cQ r cut:=by
    unfold cQ;rw [pZ,if_pos (decide_eq_true h)];rfl
   rw [e,uT,uT,ih']
   by_cases z:p.1=k
   ·rw [if_pos z,if_pos z,if_neg (by omega)]
   ·rw [if_neg z,if_neg z]
  ·have e:cQ (p::r) cut=cQ r cut:=by
    unfold cQ;rw [pZ,if_neg (by simp;omega)]
   rw [e,uT,ih']
   by_cases z:p.1=k
   ·rw [if_pos z,if_pos (show p.2-cut<=0 by omega)]
    have:low r k=0:=rA (z ▸ hn'.1)
    rw [this];split <;> omega
   ·rw [if_neg z]
def qj:∀ {d:List Int} {room:Nat} {c:Int},d.Pairwise (· >= ·)->d[room]? = some c->(d.filter fun v=>decide (c<v)).length<=room
 | [],_,_,_,h=>by cases h
 | x::r,0,c,hp,h=>by
  have e:x=c:=by simpa using h
  subst e
  have:((x::r).filter fun v=>decide (x<v))=[]:=by
   rw [zL]
   intro v hv
   rcases cC.mp hv with z | z
   ·subst z;simp
   ·have:=(gA.mp hp).1 v z
    simp;omega
  rw [this];exact aX _
 | x::r,n+1,c,hp,h=>by
  have ih:=qj (d:=r) (room:=n) (c:=c) (gA.mp hp).2 (by simpa using h)
  rw [pZ]
  split
  ·simp only [cX];omega
  ·omega
def above (c:Int) (l:List Int):Int:=((l.filter fun v=>decide (c<v)).map fun v=>v-c).sum
def um (c x:Int) (r:List Int):above c (x::r)=(if c<x then x-c else 0)+above c r:=by
 unfold above
 rw [pZ]
 by_cases h:c<x
 ·rw [if_pos (decide_eq_true h),if_pos h];rfl
 ·rw [if_neg (by simp;omega),if_neg h];omega
def Ec {c:Int}:∀ {l:List Int},(∀ v∈l,v<=c)->above c l=0
 | [],_=>rfl
 | x::r,h=>by
  rw [um,Ec (l:=r) fun v hv=>h v (eU _ hv)]
  have:=h x eF
  rw [if_neg (by omega)];rfl
def pB:∀ {l:List Int},(∀ v∈l,0<=v)->0<=l.sum
 | [],_=>cT 0
 | x::r,h=>by
  have:=pB (l:=r) fun v hv=>h v (eU _ hv)
  have:=h x eF
  rw [iK];omega
def Bk:∀ {d:List Int} {room:Nat} {c:Int},d.Pairwise (· >= ·)->d[room]? = some c->(∀ v∈d,0<=v) ->
  above c d+((room:Int)+1)*c<=d.sum/\(d.length=room+1->above c d+((room:Int)+1)*c=d.sum)
 | [],_,_,_,h,_=>by cases h
 | x::r,0,c,hp,h,h0=>by
  have e:x=c:=by simpa using h
  subst e
  have hr:∀ v∈r,v<=x:=fun v hv=>(gA.mp hp).1 v hv
  have hs:=pB (l:=r) fun v hv=>h0 v (eU _ hv)
  rw [um,if_neg (by omega),Ec hr,iK]
  refine ⟨by simp;omega,fun hl=>?_⟩
  have:r=[]:=by
   have:r.length=0:=by simpa using hl
   exact Dw.mp this
  subst this;simp
 | x::r,n+1,c,hp,h,h0=>by
  have h':r[n]? = some c:=by simpa using h
  have ih:=Bk (d:=r) (room:=n) (c:=c) (gA.mp hp).2 h' fun v hv=>h0 v (eU _ hv)
  have hx:c<=x:=(gA.mp hp).1 c (List.mem_of_getElem? h')
  have hm:((n+1:Nat):Int)=(n:Int)+1:=by omega
  have e2:((((n+1:Nat):Int))+1)*c=((n:Int)+1)*c+c:=by rw [hm,tW ((n:Int)+1) 1 c,Ak]
  rw [um,iK,e2]
  have ex:(if c<x then x-c else 0)=x-c:=by split <;> omega
  rw [ex]
  refine ⟨by have:=ih.1;omega,fun hl=>?_⟩
  have:=ih.2 (by simpa using hl)
  omega
def KQ (c:Tab) (cut:Int):vals (cQ c cut)=(((vals c).filter fun v=>decide (cut<v)).map fun v=>v-cut):=by
 induction c with
 | nil=>rfl
 | cons p r ih =>
  have hv:vals (p::r)=p.2::vals r:=rfl
  rw [hv]
  by_cases h:cut<p.2
  ·have e:cQ (p::r) cut=(p.1,p.2-cut)::cQ r cut:=by
    unfold cQ;rw [pZ,if_pos (decide_eq_true h)];rfl
   rw [e,pZ,if_pos (decide_eq_true h),dZ,<- ih];rfl
  ·have e:cQ (p::r) cut=cQ r cut:=by
    unfold cQ;rw [pZ,if_neg (by simp;omega)]
   rw [e,pZ,if_neg (by simp;omega),ih]
def acB (c:Tab) (cut:Int):(vals (cQ c cut)).sum=above cut (vals c):=by rw [KQ];rfl
def KR {l l':List Int} (h:l.Perm l'):l.sum=l'.sum:=by
 induction h with
 | nil=>rfl
 | cons x _ ih=>rw [iK,iK,ih]
 | swap x y l=>simp only [iK];omega
 | trans _ _ a b=>exact a.trans b
def SQ {c:Int} {l l':List Int} (h:l.Perm l'):above c l=above c l':=by
 unfold above;exact KR ((h.filter _).map _)
structure IsCut (room:Nat) (c:Tab) (cut:Int):Prop where
 ex:∃ d:List Int,d.Perm (vals c)/\d.Pairwise (· >= ·)/\d[room]? = some cut
def IsCut.mem {room:Nat} {c:Tab} {cut:Int} (h:IsCut room c cut):cut∈vals c:=by
 obtain ⟨d,h1,_,h3⟩:=h
 exact h1.mem_iff.mp (List.mem_of_getElem? h3)
def IsCut.len {room:Nat} {c:Tab} {cut:Int} (h:IsCut room c cut):(cQ c cut).length<=room:=by
 obtain ⟨d,h1,h2,h3⟩:=h
 have e:(cQ c cut).length=((vals c).filter fun v=>decide (cut<v)).length:=by
  have:=congrArg kE (KQ c cut)
  rw [aZ] at this
  rw [<- this];unfold vals;rw [aZ]
 rw [e,<- (h1.filter _).length_eq]
 exact qj h2 h3
def IsCut.sum {room:Nat} {c:Tab} {cut:Int} (h:IsCut room c cut) (h0:∀ p∈c,0<=p.2) :
  (vals (cQ c cut)).sum+((room:Int)+1)*cut<=(vals c).sum/\(c.length=room+1->(vals (cQ c cut)).sum+((room:Int)+1)*cut=(vals c).sum):=by
 obtain ⟨d,h1,h2,h3⟩:=h
 rw [acB,<- SQ h1,<- KR h1]
 have hd:∀ v∈d,0<=v:=fun v hv=>by
  obtain ⟨p,hp,e⟩:=kj.mp (h1.mem_iff.mp hv)
  rw [<- e];exact h0 p hp
 have:=Bk h2 h3 hd
 refine ⟨this.1,fun hl=>this.2 ?_⟩
 rw [h1.length_eq];unfold vals;rw [aZ];exact hl
def Ip:∀ {l l':List Int},l.Perm l'->l.Pairwise (· >= ·)->l'.Pairwise (· >= ·)->l=l':=by
 intro l
 induction l with
 | nil=>intro l' h _ _;exact h.nil_eq
 | cons x r ih =>
  intro l' h hp hp'
  cases l' with
  | nil=>exact absurd h.symm (by simp)
  | cons y r' =>
   have hx:x∈y::r':=h.mem_iff.mp eF
   have hy:y∈x::r:=h.mem_iff.mpr eF
   have e:x=y:=by
    rcases cC.mp hx with z | z
    ·exact z
    ·rcases cC.mp hy with z' | z'
     ·exact z'.symm
     ·have a:=(gA.mp hp').1 x z
      have b:=(gA.mp hp).1 y z'
      omega
   subst e
   rw [ih h.cons_inv (gA.mp hp).2 (gA.mp hp').2]
def IsCut.uniq {room:Nat} {c:Tab} {x y:Int} (hx:IsCut room c x) (hy:IsCut room c y):x=y:=by
 obtain ⟨d,h1,h2,h3⟩:=hx
 obtain ⟨d',h1',h2',h3'⟩:=hy
 have e:=Ip (h1.trans h1'.symm) h2 h2'
 subst e
 rw [h3] at h3'
 exact bZ h3'
def gJ (room:Nat) (c:Tab) (c':Tab) (cut:Int):Prop :=
 if c.length<=room then cut=0/\c'=c else IsCut room c cut/\c'=cQ c cut
def gJ.uniq {room:Nat} {c a b:Tab} {x y:Int} (h:gJ room c a x) (h':gJ room c b y):a=b/\x=y:=by
 unfold gJ at h h'
 by_cases e:c.length<=room
 ·rw [if_pos e] at h h'
  exact ⟨h.2.trans h'.2.symm,h.1.trans h'.1.symm⟩
 ·rw [if_neg e] at h h'
  have z:=h.1.uniq h'.1
  subst z
  exact ⟨h.2.trans h'.2.symm,rfl⟩
structure Ok (room:Nat) (c:Tab) (total lost:Int) (tw:Int->Int):Prop where
 nd:(keys c).Nodup
 pos:∀ p∈c,1<=p.2
 len:c.length<=room
 l0:0<=lost
 sum:(vals c).sum+((room:Int)+1)*lost<=total
 lo:∀ k,low c k<=tw k
 hi:∀ k,tw k<=low c k+lost
structure Pre (room:Nat) (c:Tab) (total lost:Int) (tw:Int->Int):Prop where
 nd:(keys c).Nodup
 pos:∀ p∈c,1<=p.2
 l0:0<=lost
 sum:(vals c).sum+((room:Int)+1)*lost<=total
 lo:∀ k,low c k<=tw k
 hi:∀ k,tw k<=low c k+lost
def gJ.nn {room:Nat} {c c':Tab} {cut:Int} (f:gJ room c c' cut) (hp:∀ p∈c,1<=p.2):0<=cut:=by
 unfold gJ at f
 by_cases e:c.length<=room
 ·rw [if_pos e] at f;omega
 ·rw [if_neg e] at f
  obtain ⟨p,hp',e'⟩:=kj.mp f.1.mem
  have:=hp p hp'
  omega
def Pre.fit {room:Nat} {c c':Tab} {total lost cut:Int} {tw:Int->Int} (h:Pre room c total lost tw) (f:gJ room c c' cut):Ok room c' total (lost+cut) tw:=by
 have hc:=f.nn h.pos
 unfold gJ at f
 by_cases e:c.length<=room
 ·rw [if_pos e] at f
  obtain ⟨rfl,rfl⟩:=f
  refine ⟨h.nd,h.pos,e,by have:=h.l0;omega,by rw [Int.add_zero];exact h.sum,h.lo,fun k=>by have:=h.hi k;omega⟩
 ·rw [if_neg e] at f
  obtain ⟨f,rfl⟩:=f
  have hs:=(f.sum fun p hp=>by have:=h.pos p hp;omega).1
  have h0:∀ p∈c,0<=p.2:=fun p hp=>by have:=h.pos p hp;omega
  refine ⟨afQ h.nd _,acz _ _,f.len,by have:=h.l0;omega,?_,fun k=>?_,fun k=>?_⟩
  ·rw [mW];have:=h.sum;omega
  ·rw [U6 h.nd hc h0 k]
   have:=h.lo k;have:=uh h.pos k;split <;> omega
  ·rw [U6 h.nd hc h0 k]
   have:=h.hi k;split <;> omega
def Ok.pre {room:Nat} {c:Tab} {total lost:Int} {tw:Int->Int} (h:Ok room c total lost tw):Pre room c total lost tw:=⟨h.nd,h.pos,h.l0,h.sum,h.lo,h.hi⟩
def Ok.add {room:Nat} {c:Tab} {total lost k w:Int} {tw:Int->Int} (h:Ok room c total lost tw) (hw:1<=w) :
  Pre room (put c k (low c k+w)) (total+w) lost (fun j=>if j=k then tw j+w else tw j):=by
 refine ⟨aaM h.nd _ _,U5 h.pos (by have:=uh h.pos k;omega),h.l0,by rw [acy h.nd];have:=h.sum;omega,fun j=>?_,fun j=>?_⟩
 ·rw [U4]
  have:=h.lo j
  by_cases e:j=k
  ·subst e;rw [if_pos rfl,if_pos rfl];omega
  ·rw [if_neg e,if_neg e];exact this
 ·rw [U4]
  have:=h.hi j
  by_cases e:j=k
  ·subst e;rw [if_pos rfl,if_pos rfl];omega
  ·rw [if_neg e,if_neg e];exact this
def Ok.empty (room:Nat):Ok room [] 0 0 (fun _=>0) :=
 ⟨Fw,(fun _ h=>by cases h),dN _,cT 0,by simp [vals],fun k=>by rw [Il];exact cT 0,fun k=>by rw [Il];exact cT 0⟩
end MG
set_option autoImplicit false
namespace MK
def Dm (r:Int) (h:Nat):Prop:=∃ m:Int,r=m*2 ^ h/\m % 2=1
def iy (n:Nat):(0:Int)<2 ^ n:=O6 (by decide)
def Dm.uniq {r:Int} {h k:Nat} (a:Dm r h) (b:Dm r k):h=k:=by
 have key:∀ {h k:Nat} {m n:Int},h<k->m*2 ^ h=n*2 ^ k->m % 2=1->False:=by
  intro h k m n hlt e hm
  obtain ⟨d,rfl⟩:∃ d,k=h+(d+1):=⟨k-h-1,by omega⟩
  rw [O7,<- oW,YX] at e
  have e2:=Int.eq_of_mul_eq_mul_right (Y6 (iy h)) e
  rw [lB,<- oW] at e2
  omega
 obtain ⟨m,e1,h1⟩:=a
 obtain ⟨n,e2,h2⟩:=b
 rcases Nat.lt_trichotomy h k with l | l | l
 ·exact (key l (e1.symm.trans e2) h1).elim
 ·exact l
 ·exact (key l (e2.symm.trans e1) h2).elim
def To (r x:Int) (i:Nat):Prop:=r=x*2 ^ i/\x≠0
def To.step {r x:Int} {i:Nat} (h:To r x i) (e:x % 2=0):To r (x / 2) (i+1):=by
 obtain ⟨h1,h2⟩:=h
 have hx:x=x / 2*2:=by omega
 refine ⟨?_,by omega⟩
 rw [h1,lB,O5 (2 ^ i) 2,<- oW,<- hx]
def To.stop {r x:Int} {i:Nat} (h:To r x i) (e:¬ x % 2=0):Dm r i:=⟨x,h.1,by omega⟩
def M:Int:=1152921504606846976
def adN:(2:Int) ^ 60=1152921504606846976:=by decide
def Dm.ne {r:Int} {h:Nat} (a:Dm r h):r≠0:=by
 obtain ⟨m,e,hm⟩:=a
 intro z
 rw [z] at e
 rcases Int.mul_eq_zero.mp e.symm with q | q
 ·omega
 ·exact absurd q (Y6 (iy h))
def Dm.lt {r:Int} {h:Nat} (a:Dm r h) (h0:0<=r) (h1:r<1152921504606846976):h<60:=by
 obtain ⟨m,e,hm⟩:=a
 rcases nR h 60 with q | q
 ·exact q
 ·obtain ⟨d,rfl⟩:∃ d,h=60+d:=⟨h-60,by omega⟩
  exfalso
  rw [O7,adN] at e
  have hd:=iy d
  rcases Y7 m 0 with l | l
  ·have:m*(1152921504606846976*2 ^ d)<0:=YT l (by omega)
   omega
  ·have h3:1*(1152921504606846976*1)<=m*(1152921504606846976*2 ^ d):=Y0 (by omega) (by omega) (by omega) (by omega)
   omega
def To.lt {r x:Int} {i:Nat} (h:To r x i) (h0:0<r) (h1:r<1152921504606846976):i<60/\0<x/\x<=r:=by
 obtain ⟨e,hx⟩:=h
 have hp:=iy i
 have x0:0<x:=by
  rcases Y7 x 0 with l | l
  ·have:x*2 ^ i<0:=YT l hp
   omega
  ·omega
 refine ⟨?_,x0,?_⟩
 ·rcases nR i 60 with q | q
  ·exact q
  ·obtain ⟨d,rfl⟩:∃ d,i=60+d:=⟨i-60,by omega⟩
   exfalso
   rw [O7,adN] at e
   have hd:=iy d
   have h3:1*(1152921504606846976*1)<=x*(1152921504606846976*2 ^ d):=Y0 (by omega) (by omega) (by omega) (by omega)
   omega
 ·have h3:x*1<=x*2 ^ i:=yc (by omega) (by omega)
  omega
end MK
set_option autoImplicit true
namespace L2
open PySem MG
def emb (c:Tab):List (Key × V):=c.map fun p=>((Sum.inl p.1:Key),V.int p.2)
def uV (c:Tab):(emb c).length=c.length:=aZ _
def aaR (c:Tab):(emb c).map (·.2)=(vals c).map V.int:=by
 unfold emb vals;rw [iM,iM];rfl
def KY (c:Tab):((emb c).map fun p=>kV p.1)=(keys c).map V.int:=by
 unfold emb keys;rw [iM,iM];rfl
def afR {c:Tab} {i:Nat} {p:Key × V} (h:(emb c)[i]? = some p):∃ q,c[i]? = some q/\p=(Sum.inl q.1,V.int q.2):=by
 unfold emb at h
 rw [kW] at h
 cases e:c[i]? with
 | none=>rw [e] at h;cases h
 | some q=>rw [e] at h;exact ⟨q,rfl,(bZ h).symm⟩
def zp {a b:Int}:((Sum.inl a:Key)=Sum.inl b)↔a=b:=⟨fun h=>Z8 h,fun h=>by rw [h]⟩
def KZ (c:Tab) (k:Int):q9 (emb c) (Sum.inl k:Key)=(look c k).map V.int:=by
 induction c with
 | nil=>rfl
 | cons p r ih =>
  have e:emb (p::r)=(Sum.inl p.1,V.int p.2)::emb r:=rfl
  rw [e,gb]
  by_cases h:p.1=k
  ·rw [uQ (p:=((Sum.inl p.1:Key),V.int p.2)) (zp.mpr h),if_pos h];rfl
  ·rw [uR (p:=((Sum.inl p.1:Key),V.int p.2)) (fun z=>h (zp.mp z)),if_neg h,ih]
def acC (c:Tab) (k:Int):(q9 (emb c) (Sum.inl k:Key)).getD (.int 0) = .int (low c k):=by
 rw [KZ];unfold low
 cases look c k <;> rfl
def K9 {c:Tab} {k v:Int} (h:look c k=some v):q9 (emb c) (Sum.inl k:Key)=some (.int v):=by rw [KZ,h];rfl
def acD (c:Tab) (k:Int):((emb c).any fun kv=>decide (kv.1=(Sum.inl k:Key)))=c.any fun p=>decide (p.1=k):=by
 induction c with
 | nil=>rfl
 | cons p r ih =>
  have e:emb (p::r)=(Sum.inl p.1,V.int p.2)::emb r:=rfl
  rw [e,sY,sY,ih]
  congr 1
  by_cases h:p.1=k
  ·rw [decide_eq_true h,decide_eq_true (zp.mpr h)]
  ·rw [decide_eq_false h,decide_eq_false (fun z=>h (zp.mp z))]
def La (c:Tab) (k v:Int):putK (emb c) (Sum.inl k:Key) (.int v)=emb (put c k v):=by
 unfold putK put
 rw [acD]
 by_cases h:(c.any fun p=>decide (p.1=k))=true
 ·rw [if_pos h,if_pos h]
  unfold emb
  rw [iM,iM]
  apply vK
  intro p _
  by_cases e:p.1=k
  ·simp [e]
  ·simp [e]
 ·rw [if_neg h,if_neg h]
  unfold emb
  rw [cW];rfl
def But (p:Addr) (H H':Hp):Prop:=∀ b o,H b=some o->b≠p->H' b=some o
def Same.but {H H':Hp} (h:Same H H') (p:Addr):But p H H':=fun b o e _=>h b o e
def But.trans {p:Addr} {H H1 H2:Hp} (a:But p H H1) (b:But p H1 H2):But p H H2:=fun c o h n=>b c o (a c o h n) n
def But.upd {p:Addr} {H:Hp} {o:HO}:But p H (upd H p o):=fun b u h n=>by rw [aA n];exact h
def Same.new {H:Hp} {p:Addr} {o:HO} (h:H p=none):Same H (upd H p o):=fun b u e=>by rw [aA (ao e h)];exact e
section
variable {K:bh} {H:Hp} {Q:VK}
def rdF {a C dx:Addr} {fs:List (Str × V)} {f:Str} {v:V} (h:H a=some (.ins C dx fs)) (c:Cls K C) (n:cB K C f) (l:fs.lookup f=some v) (q:Q v H):rFld K f (.ref a) H Q:=⟨a,C,dx,fs,v,rfl,h,c,n,l,q⟩
def iz {a:Addr} {xs:List V} {i:Int} {v:V} (h:SqL K H a xs) (e:atI xs i=some v) (q:Q v H):Sx K (.ref a) (.int i) H Q:=.inl ⟨a,xs,i,v,rfl,rfl,h,e,q⟩
def eE {a:Addr} {xs:List V} {i:Int} {v:V} (h:SqT K H a xs) (e:atI xs i=some v) (q:Q v H):Sx K (.ref a) (.int i) H Q:=.inr (.inl ⟨a,xs,i,v,rfl,rfl,h,e,q⟩)
def adO {a:Addr} {kvs:List (Key × V)} {i:Int} {v:V} (h:Rd H a (.dK kvs)) (e:q9 kvs (Sum.inl i:Key)=some v) (q:Q v H):Sx K (.ref a) (.int i) H Q :=
 .inr (.inr ⟨a,v,rfl,.inl ⟨kvs,Sum.inl i,h,rfl,e.symm⟩,q⟩)
def pC {a:Addr} {xs:List V} (h:SqL K H a xs) (q:Q (.int xs.length) H):UL K [.ref a] H Q:=.inl ⟨.ref a,xs.length,rfl,.inl ⟨xs,h,rfl⟩,q⟩
def afS {a:Addr} {kvs:List (Key × V)} (h:Rd H a (.dK kvs)) (q:Q (.int kvs.length) H):UL K [.ref a] H Q:=.inr ⟨a,kvs,rfl,h,q⟩
def rdGet {a:Addr} {kvs:List (Key × V)} {i:Int} (h:Rd H a (.dK kvs)):wM H a (.int i) (q9 kvs (Sum.inl i:Key)):=.inl ⟨kvs,Sum.inl i,h,rfl,rfl⟩
def aaS {a:Addr} {kvs:List (Key × V)} {i:Int} {v:V} {R:Hp->Prop} (h:H a=some (.dK kvs)) (hl:kvs.length<sizeLine) (q:R (upd H a (.dK (putK kvs (Sum.inl i) v)))):adM (.ref a) (.int i) v H R :=
 .inr ⟨a,_,rfl,.inl ⟨kvs,Sum.inl i,h,rfl,hl,rfl⟩,q⟩
end
def aaT (K:bh) (t:Value) (h:(t == t)=true):zR K t t=some true:=by unfold zR;rw [if_pos h]
def aaU {i j:Int} (h0:-(2 ^ 64)<i) (h1:i<2 ^ 64):aam i j:=.inl ⟨by omega,by omega⟩
def gQ {i j:Int} (h0:-(2 ^ 64)<j) (h1:j<2 ^ 64):aam i j:=.inr ⟨by omega,by omega⟩
end L2
namespace L2
open PySem PySem.Spec PyProof.Rows
def Lb (cells:List (Str × Addr)):List (Str × Addr)->Prop
 | []=>True
 | p::r=>cells.lookup p.1=some p.2/\Lb cells r
def Lb.of {cells:List (Str × Addr)}:∀ {cl:List (Str × Addr)} {y:Str} {c:Addr},Lb cells cl->cl.lookup y=some c->cells.lookup y=some c
 | [],_,_,_,h=>by cases h
 | p::r,y,c,hs,h=>by
  obtain ⟨n,a⟩:=p
  rw [Nk] at h
  by_cases e:y=n
  ·subst e
   rw [beq_self_eq_true] at h
   cases h
   exact hs.1
  ·rw [beq_eq_false_iff_ne.mpr e] at h
   exact Lb.of hs.2 h
@[reducible] def gK (X:Cx) (N:List Str) (scope:Scope) (cl:List (Str × Addr)) (s:aG) (H:Hp) (fp:List Addr) (C:Addr):Cx where
 prog:=X.prog
 w:=X.w
 K:=X.K
 mg:=X.mg
 base:=X.base
 A:=X.A
 N:=N
 s₀:=s
 H₀:=H
 env:=Ov scope cl C X.env
 outer:=X.stack
 stack:=X.stack
 ex:=fp
 fn:=fun _=>false
 calm:=X.calm
 pn:=[]
 xe:=fun _ _=>False
structure Ed (X:Cx) (N:List Str) (scope:Scope) (cl:List (Str × Addr)) (i j:Nat):Prop where
 ok:∃ y c,N[i]? = some y/\X.N[j]? = some y/\(X.env.kindOf y=some .cell\/X.env.kindOf y=some .free)/\((iW scope X.env).names.lookup y=some .cell\/(iW scope X.env).names.lookup y=some .free)/\cl.lookup y=some c
def jk (σ:St) (x:Option V) (caps:List Nat):St:=x::caps.map fun j=>(σ[j]?).join
section
variable {X:Cx} {pins:List (Addr × Obj)} {σ:St} {H:Hp} {s:aG}
def Inv.comp {N:List Str} {scope:Scope} {cl:List (Str × Addr)} {fp:List Addr} {caps:List Nat} {h4:Heap} {D C:Addr} {tk:Nat} (I:Inv X pins σ H s) (hkind:scope.kind = .function) (hsub:Lb X.env.cells cl)
  (hhas:∀ y,((iW scope X.env).names.lookup y=some .cell\/(iW scope X.env).names.lookup y=some .free)->∃ c,cl.lookup y=some c) (hf:∀ b∈fp,Dj X pins H b) (hfo:∀ b∈fp,∃ o,s.heap.get? b=some o)
  (hlen:N.length=caps.length+1) (hcap:∀ (i:Nat) (j:Nat),caps[i]? = some j->Ed X N scope cl (i+1) j) (hD:s.heap.objs.size<=D) (hC:s.heap.objs.size<=C) (hDC:C≠D)
  (hk:∀ b o,s.heap.get? b=some o->h4.get? b=some o) (hlist:∃ n,h4.get? D=some { cls:=.type "list",data:=.seq #[] n }) (hns:∃ m,h4.Ns C m) :
  Inv (gK X N scope cl s H fp C) (X.pn++pins) (jk σ none caps) (upd H D (.lst [])) { s with heap:=h4,toks:=tk }:=by
 have hnD:H D=none:=I.hok.fresh hD
 have hnC:H C=none:=I.hok.fresh hC
 have lt:∀ b o,s.heap.get? b=some o->b≠D/\b≠C:=fun b o e=>⟨cZ (gC (bY e) hD),cZ (gC (bY e) hC)⟩
 have nst:∀ b,b≠X.env.locals->b∉X.fs->b∉frs X.stack:=fun b h1 h2 z=>by
  rcases cC.mp (I.HX b z) with e | e
  ·exact h1 e
  ·exact h2 e
 refine ⟨⟨I.ok.mod,hkind,I.ok.glob,I.ok.blt,hC,fun x y c h1 h2=>I.ok.inj x y c (hsub.of h1) (hsub.of h2),fun y hy=>hhas y hy,fun y c h=>(nomatch h),I.ok.hd,I.ok.frames,.inl rfl,fun b hb=>?_,I.bs,fH I.ok.bsz I.sz,fun b o e hb=>?_,fun b hb=>?_,I.stack,I.Uk⟩,
  rfl,I.bare,Un.laid hk hD hnD,?_,fun y c e=>?_,?_,fun y c e=>?_,fun p hp=>?_,?_,?_⟩
 ·obtain ⟨o,e⟩:=hfo b hb
  exact ⟨(lt b o e).2,fun x c q=>(hf b hb).2.2.2.2.1 x c (hsub.of q)⟩
 ·rcases (hf b hb).2.2.2.1 with z | z
  ·exact I.ok.aag b o e z
  ·exact absurd (gC (bY e) I.ok.bsz) (Nat.not_lt.mpr z)
 ·exact nst b (hf b hb).2.1 (hf b hb).2.2.1
 ·obtain ⟨m,hm⟩:=hns
  obtain ⟨m0,_,hl⟩:=I.loc
  refine ⟨m,hm,fun i y v h1 h2 h3=>?_⟩
  cases i with
  | zero=>cases h2
  | succ i =>
   have h2':((caps.map fun j=>(σ[j]?).join)[i]?)=some (some v):=h2
   rw [kW] at h2'
   cases ec:caps[i]? with
   | none=>rw [ec] at h2';cases h2'
   | some j =>
    rw [ec] at h2'
    have h2'':(σ[j]?).join=some v:=bZ h2'
    have e2:σ[j]? = some (some v):=by
     cases q:σ[j]? with
     | none=>rw [q] at h2'';cases h2''
     | some z=>rw [q] at h2'';exact congrArg some h2''
    obtain ⟨y',c,n1,n2,k1,k2,lc⟩:=(hcap i j ec).ok
    have ey:y=y':=by
     have h1':N[i+1]? = some y:=h1
     rw [n1] at h1';exact (bZ h1').symm
    subst ey
    have vis:Vis X.env.scope y:=k1.elim (fun z=>.inr (.inl z)) fun z=>.inr (.inr z)
    obtain ⟨u,ru,lk⟩:=hl j y v n2 e2 vis
    refine ⟨u,ru,.inr ⟨k2,c,lc,?_⟩⟩
    rcases lk with ⟨z,_⟩ | ⟨_,c',lc',ic⟩
    ·rcases k1 with k1 | k1 <;> (rw [z] at k1;cases k1)
    ·rw [hsub.of lc] at lc'
     cases lc'
     obtain ⟨o,ho,hd⟩:=ic
     exact ⟨o,hk c o ho,hd⟩
 ·obtain ⟨v,o,ho,hd⟩:=I.cell y c (hsub.of e)
  exact ⟨v,o,hk c o ho,hd⟩
 ·show (upd H D (.lst [])) C=none
  rw [aA hDC];exact hnC
 ·have n:=I.qU y c (hsub.of e)
  obtain ⟨v,o,ho,hd⟩:=I.cell y c (hsub.of e)
  rw [aA (lt c o ho).1];exact n
 ·have hp':p∈X.pn++pins:=hp
  obtain ⟨e,n,ne,nf,d⟩:=I.pin p hp'
  exact ⟨hk _ _ e,by rw [aA (lt _ _ e).1];exact n,(lt _ _ e).2,nst _ ne nf,d⟩
 ·obtain ⟨n,e⟩:=hlist
  exact I.hok.laid hk hD ⟨dN _,[],n,.nil,e⟩
 ·show (jk σ none caps).length=N.length
  unfold jk
  rw [cX,aZ,hlen]
def Inv.aaV {N:List Str} {scope:Scope} {cl:List (Str × Addr)} {fp:List Addr} {C:Addr} {Um:List (Addr × Obj)} {σ':St} {H':Hp} {s':aG} {h':Heap} (I:Inv X pins σ H s) (hf:∀ b∈fp,Dj X pins H b) (hC:s.heap.objs.size<=C)
  (I':Inv (gK X N scope cl s H fp C) Um σ' H' s') (hs:Ae C s'.heap h'):Inv X pins σ H' { s' with heap:=h' }:=by
 obtain ⟨hp,g,d,t,os⟩:=s'
 have eo:os=s.os:=I'.os
 subst eo
 have ne:∀ b o,s.heap.get? b=some o->b≠C:=fun b o e=>cZ (gC (bY e) hC)
 have hn:H' C=none:=I'.free
 have B:Un (frs X.stack) fp H H' s.heap hp:=I'.base
 have kp:∀ b o,b≠C->hp.get? b=some o->h'.get? b=some o:=fun b o hb e=>(hs.2 b hb).trans e
 suffices r:Inv X pins σ H' { s with heap:=h',gens:=g,drawn:=d,toks:=t } from r
 refine I.call (h':=h') (g':=g) (d':=d) (t':=t) (ch:=fp) ⟨fun b o e n h1 h2=>kp b o (ne b o e) (B.keep b o e n h1 h2),fun b o e n h1 h2=>?_,B.free,fun b o e h2=>?_,B.tups,B.qT,B.uf⟩ (fun b u e=>?_) I'.bare fun b hb=>?_
 ·obtain ⟨sl,q⟩:=B.slot b o e n h1 h2
  exact ⟨sl,kp b _ (ne b o e) q⟩
 ·obtain ⟨o',q⟩:=B.there b o e h2
  exact ⟨o',kp b _ (ne b o e) q⟩
 ·have nb:∀ c v,H' c=some v->c≠C:=fun c v q z=>by rw [z,hn] at q;cases q
  refine (I'.hok b u e).stay (fun c v hc q=>kp c v ?_ q) (fun _ q=>q) fun _ _ q=>q
  rcases hc with z | z
  ·rw [z];exact nb b u e
  ·exact nb c _ z
 ·obtain ⟨f0,f1,f2,f3,f4,f5⟩:=hf b hb
  exact ⟨f3,f1,f4,f5⟩
end
def uW (J:It) (caps:List Nat) (tt:TT) (te:TE) (σ:St) (D:Addr) (Q:VK) (H1:Hp):Prop:=∃ W:Nat->Nat->List V->Hp->Prop,(∃ m,W 0 m [] (upd H1 D (.lst [])))/\∀ i m ys H,W i m ys H ->
 H D=some (.lst ys)/\((J.stop i H/\Q (.ref D) H)\/(J.go i H/\ys.length<sizeLine/\∀ x H',J.yld i H x H'->tt (jk σ (some x) caps) H' fun b H2=>if b=true then
  te (jk σ (some x) caps) H2 fun y H3=>H3 D=some (.lst ys)/\∃ m',m'<m/\W (i+1) m' (ys++[y]) (upd H3 D (.lst (ys++[y])))
  else H2 D=some (.lst ys)/\∃ m',m'<m/\W (i+1) m' ys H2))
def adP (wi:TI) (caps:List Nat) (tt:TT) (te:TE):TE:=fun σ H Q=>wi σ H fun J H1=>∀ D,H1 D=none->uW J caps tt te σ D Q H1
def PTs (X:Cx) (ifs:List Expr) (tt:TT):Prop:=∀ (pins:List (Addr × Obj)) (s:aG) (σ:St) (H:Hp) (Q:Bool->Hp->Prop),Inv X pins σ H s->tt σ H Q ->
 wpAny (model X.prog X.w) X.A (forIn ifs true fun c r=>if r=true then do let ok <- Gq c X.env (eval c X.env);pure (ForInStep.yield ok) else pure (ForInStep.yield r)) (TP X pins σ Q) X.xe s
def Ir:TT:=fun _ H Q=>Q true H
def zq {X:Cx}:PTs X [] Ir:=fun _ _ _ H _ I h=>wpAny_tests_nil ⟨H,I,h⟩
def zu {X:Cx} {c:Expr} {tt:TT} (h:PT X c tt):PTs X [c] tt:=fun pins s σ H Q I q=>wpAny_tests_one (h pins s σ H Q I q)
section
variable {X:Cx}
def Bl {elt iter:Expr} {x:Str} {px:Pos} {ifs:List Expr} {scope:Scope} {pos:Pos} {cl:List (Str × Addr)} {N:List Str} {caps:List Nat} {tt:TT} {te:TE} {pins:List (Addr × Obj)} {σ:St} {H2:Hp} {s2:aG} {Q:VK} {it:Addr} {fp:List Addr} {tn:Nat->Heap->Prop} {J:It}
  {RR:Value->Addr->qK->aG->Prop} {E:Value->aG->Prop} (hc:X.calm=true)
  (hcell:∀ y∈scope.names,y.2 ≠ .cell) (hkind:scope.kind = .function) (hsub:Lb X.env.cells cl)
  (hhas:∀ y,((iW scope X.env).names.lookup y=some .cell\/(iW scope X.env).names.lookup y=some .free)->∃ c,cl.lookup y=some c)
  (hN:N.Nodup) (hN0:N[0]? = some x) (hx:(iW scope X.env).names.lookup x=some .local) (hlen:N.length=caps.length+1) (hcap:∀ (i:Nat) (j:Nat),caps[i]? = some j->Ed X N scope cl (i+1) j)
  (ht:∀ s H fp C,PTs (gK X N scope cl s H fp C) ifs tt) (he:∀ s H fp C,PE (gK X N scope cl s H fp C) elt te)
  (I2:Inv X pins σ H2 s2) (T:Turn X.prog X.w X.K (.Name x px) J fp it tn) (st2:tn 0 s2.heap) (f2:∀ b∈fp,Dj X pins H2 b) (w2:∀ D,H2 D=none->uW J caps tt te σ D Q H2)
  (hRR:∀ D C σ' H' s5,s2.heap.objs.size<=C->Inv (gK X N scope cl s2 H2 fp C) (X.pn++pins) σ' H' s5->Q (.ref D) H'->RR (.ref D) C (.ok .next) s5) :
  wpAny (model X.prog X.w) X.A (newList []) (fun acc s₃=>wpAny (model X.prog X.w) X.A (newFunctionEnv scope X.env.globals cl [] X.env.qual none .none (some X.env)) (fun cenv s₄ =>
   g8 (model X.prog X.w) X.A (.compStart (.ListComp elt [⟨.Name x px,iter,ifs,0⟩] scope pos) 0 (.ref it) acc { cenv with scope:=iW scope X.env }) (RR acc cenv.locals) s₄) E s₃) E s2:=by
 refine xW (wpAny_newFunctionEnv hcell (by intro y hy;simp at hy) (fun h₁ hns₁ hsb₁=>?_) hkind)
 dsimp only at hns₁ hsb₁ ⊢
 generalize hH2:s2.heap.push { cls:=.type "list",dict:=none,data:=.seq ([]:List Value).toArray }=G2 at hns₁ hsb₁ ⊢
 have hC:G2.objs.size=s2.heap.objs.size+1:=by rw [<- hH2,Ac]
 have hCle:s2.heap.objs.size<=G2.objs.size:=by rw [hC];exact oU _
 have hDC:G2.objs.size≠s2.heap.objs.size:=by rw [hC];exact tO (Gv _)
 have old:∀ b o,s2.heap.get? b=some o->h₁.get? b=some o:=fun b o e =>
  hsb₁.extBut b o (by rw [hC];exact cZ (tL (bY e))) (eZ _ (hH2 ▸ eZ _ e))
 have hacc:∃ n,h₁.get? s2.heap.objs.size=some { cls:=.type "list",data:=.seq #[] n }:=⟨_,hsb₁.extBut _ _ (aL hDC) (eZ _ (hH2 ▸ fW _ rfl))⟩
 have hnD:H2 s2.heap.objs.size=none:=I2.hok.fresh (aX _)
 obtain ⟨W,⟨m0,w0⟩,turn⟩:=w2 s2.heap.objs.size hnD
 have fo:∀ b∈fp,∃ o,s2.heap.get? b=some o:=fun b hb=>by
  obtain ⟨o,e,_⟩:=T.obj _ _ st2 b hb
  exact ⟨o,e⟩
 have I3:Inv (gK X N scope cl s2 H2 fp G2.objs.size) (X.pn++pins) (jk σ none caps) (upd H2 s2.heap.objs.size (.lst [])) { s2 with heap:=h₁,toks:=s2.toks+([]:List (Str × Value)).length } :=
  I2.comp hkind hsub hhas f2 fo hlen hcap (aX _) hCle hDC old hacc ⟨_,hns₁⟩
 have st3:tn 0 h₁:=T.keep _ _ _ st2 fun b _ o e=>old b o e
 have nf:∀ b∈fp,b≠s2.heap.objs.size:=fun b hb=>by
  obtain ⟨o,e⟩:=fo b hb
  exact cZ (bY e)
 have stat:∀ {H':Hp},(∀ b∈fp,H' b=none)->∀ b∈fp,Dj (gK X N scope cl s2 H2 fp G2.objs.size) (X.pn++pins) H' b:=fun {H'} hn b hb=>by
  obtain ⟨f0,f1,f2',f3,f4,f5⟩:=f2 b hb
  obtain ⟨o,e⟩:=fo b hb
  refine ⟨hn b hb,cZ (gC (bY e) hCle),fun z=>?_,.inl hb,fun y c q=>f4 y c (hsub.of q),fun p hp=>f5 p hp⟩
  rcases cC.mp (I2.HX b z) with q | q
  ·exact f1 q
  ·exact f2' q
 have loop:g8 (model X.prog X.w) X.A (.compLoop (.ListComp elt [⟨.Name x px,iter,ifs,0⟩] scope pos) 0 (.ref it) (.ref s2.heap.objs.size) (Ov scope cl G2.objs.size X.env))
   (RR (.ref s2.heap.objs.size) G2.objs.size) { s2 with heap:=h₁,toks:=s2.toks+([]:List (Str × Value)).length }:=by
  refine codeAny_compLoop_tests (fun n s'=>∃ i ys σ' H',Inv (gK X N scope cl s2 H2 fp G2.objs.size) (X.pn++pins) σ' H' s'/\(∃ z,σ'=jk σ z caps)/\tn i s'.heap/\(∀ b∈fp,H' b=none)/\W i n ys H') ?_ m0
   ⟨0,[],_,_,I3,⟨none,rfl⟩,st3,fun b hb=>by rw [aA (nf b hb)];exact (f2 b hb).1,w0⟩
  rintro n s' ⟨i,ys,σ',H',I',⟨z,rfl⟩,st',fr',w'⟩
  obtain ⟨hl,ends⟩:=turn i n ys H' w'
  rcases ends with ⟨stop,q⟩ | ⟨go,hsz,step⟩
  ·refine iG (T.done (gK X N scope cl s2 H2 fp G2.objs.size) rfl rfl rfl hc i _ s' _ H' (fun _ _=>False) I' (stat fr') st' stop) (fun r s5 ⟨hr,I5⟩=>?_) fun _ _ f=>f.elim
   subst hr
   exact hRR _ _ _ _ _ hCle I5 q
  ·refine iG (T.item (gK X N scope cl s2 H2 fp G2.objs.size) rfl rfl rfl hc i _ s' _ H' (fun _ _=>False) I' (stat fr') st' go) (fun r s5 ⟨u,hr,h5⟩=>?_) fun _ _ f=>f.elim
   subst hr
   show wpAny _ _ (Ga (.Name x px) (.ref it) u >>= fun _=>oO (.Name x px) (Ov scope cl G2.objs.size X.env) u) _ _ _
   refine aP (iG h5 (fun _ s6 ⟨y,H6,I6,r6,y6,st6,fr6⟩=>?_) fun _ _ f=>f.elim)
   have I6':=I6.pinned (stat fr6) (T.obj _ _ st6)
   have hg:PG (gK X N scope cl s2 H2 fp G2.objs.size) (.Name x px) (Uo 0):=fB hN hN0 (.inl hx) (.inr hx)
   have again:∀ {σ7:St} {H7:Hp} {s7:aG},Inv (gK X N scope cl s2 H2 fp G2.objs.size) ((X.pn++pins)++Bb fp s6.heap) σ7 H7 s7->tn (i+1) s7.heap/\∀ b∈fp,H7 b=none:=fun {σ7 H7 s7} I7=>by
    refine ⟨T.keep _ _ _ st6 fun b hb o e=>(I7.pin (b,o) (rZ _ (rZ _ (o9 hb e)))).1,fun b hb=>?_⟩
    obtain ⟨o,e,d⟩:=T.obj _ _ st6 b hb
    exact (I7.pin (b,o) (rZ _ (rZ _ (o9 hb e)))).2.1
   refine iG (hg _ s6 _ H6 y u (fun σ7 H7=>σ7=jk σ (some y) caps/\H7=H6) I6' r6 ⟨rfl,rfl⟩) (fun _ s7 ⟨σ7,H7,I7,e7,e7'⟩=>?_) fun _ _ f=>f.elim
   subst e7 e7'
   refine iG (ht s2 H2 fp G2.objs.size _ s7 _ _ _ I7 (step y H7 y6)) (fun ok s8 ⟨H8,I8,q8⟩=>?_) fun _ _ f=>f.elim
   cases ok with
   | false =>
    obtain ⟨_,m',hm,w8⟩:=q8
    have a8:=again I8
    exact ⟨m',hm,i+1,ys,_,H8,I8.qY,⟨_,rfl⟩,a8.1,a8.2,w8⟩
   | true =>
    refine iG (he s2 H2 fp G2.objs.size _ s8 _ _ _ I8 q8) (fun x9 s9 ⟨y9,H9,I9,r9,l9,m',hm,w9⟩=>?_) fun _ _ f=>f.elim
    refine iG (cF (X:=gK X N scope cl s2 H2 fp G2.objs.size) _ s9 _ H9 (.ref s2.heap.objs.size) [y9] _ [x9] (fun _ H10=>H10=upd H9 s2.heap.objs.size (.lst (ys++[y9]))) I9 rfl (.cons r9 .nil) ⟨_,ys,y9,rfl,rfl,l9,hsz,rfl⟩) (fun _ s10 ⟨_,H10,I10,_,e10⟩=>?_) fun _ _ f=>f.elim
    subst e10
    have a10:=again I10
    exact ⟨m',hm,i+1,ys++[y9],_,_,I10.qY,⟨_,rfl⟩,a10.1,a10.2,w9⟩
 exact codeAny_compStart_list loop (T.self _ 0 _ _ _ st3 loop)
def zx {elt iter:Expr} {x:Str} {px:Pos} {ifs:List Expr} {scope:Scope} {pos:Pos} {cl:List (Str × Addr)} {N:List Str} {caps:List Nat} {wi:TI} {tt:TT} {te:TE} (hc:X.calm=true) (hclos:closureFor scope X.env=pure cl)
  (hcell:∀ y∈scope.names,y.2 ≠ .cell) (hkind:scope.kind = .function) (hnames:∀ y∈scope.names,y.2 = .local->scope.names.lookup y.1=some .local) (hsub:Lb X.env.cells cl)
  (hhas:∀ y,((iW scope X.env).names.lookup y=some .cell\/(iW scope X.env).names.lookup y=some .free)->∃ c,cl.lookup y=some c)
  (hN:N.Nodup) (hN0:N[0]? = some x) (hx:(iW scope X.env).names.lookup x=some .local) (hlen:N.length=caps.length+1) (hcap:∀ (i:Nat) (j:Nat),caps[i]? = some j->Ed X N scope cl (i+1) j)
  (hi:PI X (.Name x px) iter wi) (ht:∀ s H fp C,PTs (gK X N scope cl s H fp C) ifs tt) (he:∀ s H fp C,PE (gK X N scope cl s H fp C) elt te)
  (hs:∀ x,FT iter X.env x=pure x:=by intro _;rfl):PE X (.ListComp elt [⟨.Name x px,iter,ifs,0⟩] scope pos) (adP wi caps tt te):=by
 intro pins s σ H Q I h
 rw [eval_ListComp]
 refine Yd (use:=none) rfl hs hclos hkind hnames (thn (hi pins s σ H _ I h) fun v s1 h1=>thn h1 fun itv s2 h2=>?_)
 obtain ⟨it,fp,tn,J,H2,e,I2,T,st2,f2,w2⟩:=h2
 subst e
 exact Bl hc hcell hkind hsub hhas hN hN0 hx hlen hcap ht he I2 T st2 f2 w2 fun D C σ' H' s5 hC I5 q=>by
  obtain ⟨m,hm,_⟩:=I5.loc
  exact ⟨m,hm,fun h' hs'=>⟨.ref D,H',I2.aaV f2 hC I5 hs',rfl,q⟩⟩
def pD {i:Nat} {y:Str} {py spos:Pos} {elt iter:Expr} {x:Str} {px:Pos} {ifs:List Expr} {scope:Scope} {pos:Pos} {cl:List (Str × Addr)} {N:List Str} {caps:List Nat} {wi:TI} {tt:TT} {te:TE} (hXN:X.N.Nodup) (hi0:X.N[i]? = some y) (hy:Loc X.env.scope y)
  (hc:X.calm=true) (hclos:closureFor scope X.env=pure cl)
  (hcell:∀ y∈scope.names,y.2 ≠ .cell) (hkind:scope.kind = .function) (hnames:∀ y∈scope.names,y.2 = .local->scope.names.lookup y.1=some .local) (hsub:Lb X.env.cells cl)
  (hhas:∀ y,((iW scope X.env).names.lookup y=some .cell\/(iW scope X.env).names.lookup y=some .free)->∃ c,cl.lookup y=some c)
  (hN:N.Nodup) (hN0:N[0]? = some x) (hx:(iW scope X.env).names.lookup x=some .local) (hlen:N.length=caps.length+1) (hcap:∀ (i:Nat) (j:Nat),caps[i]? = some j->Ed X N scope cl (i+1) j)
  (hi:PI X (.Name x px) iter wi) (ht:∀ s H fp C,PTs (gK X N scope cl s H fp C) ifs tt) (he:∀ s H fp C,PE (gK X N scope cl s H fp C) elt te)
  (hs:∀ x,FT iter X.env x=pure x:=by intro _;rfl) (hsw:Gm (.ListComp elt [⟨.Name x px,iter,ifs,0⟩] scope pos) (some (.Name y py)) spos.line X.env=pure true:=by rfl)
  (hf:X.fn y=true\/X.env.scope.names.lookup y=some .local:=by first | exact .inl rfl | exact .inr rfl | assumption) :
  PS X (.Assign [.Name y py] (.ListComp elt [⟨.Name x px,iter,ifs,0⟩] scope pos) spos) (tAsg (adP wi caps tt te) (Uo i)):=by
 intro pins s σ H D I h
 rw [exec_Assign_Name_used _ _ _ _ hsw]
 refine aP (Yn (aP ?_))
 show wpAny _ X.A (do let _ <- comprehension (.ListComp elt [⟨.Name x px,iter,ifs,0⟩] scope pos) scope X.env _ (newList []) false (eval iter X.env) (some (oO (.Name y py) X.env))) _ _ s
 refine aP (iG (Yd (use:=some (oO (.Name y py) X.env)) (Q:=fun _ s'=>SP X pins D .next s') rfl hs hclos hkind hnames
  (thn (hi pins s σ H _ I h) fun v s1 h1=>thn h1 fun itv s2 h2=>?_)) (fun _ s' hq=>bH (bH hq)) fun _ _ e=>e)
 obtain ⟨it,fp,tn,J,H2,e,I2,T,st2,f2,w2⟩:=h2
 subst e
 refine Bl (RR:=fun acc C=>compPost (model X.prog X.w) X.A X.xe (some (oO (.Name y py) X.env)) (fun _ s'=>SP X pins D .next s') acc C) hc hcell hkind hsub hhas hN hN0 hx hlen hcap ht he I2 T st2 f2 w2 fun D' C σ' H' s5 hC I5 q=>?_
 show wpAny _ X.A (oO (.Name y py) X.env (.ref D')) _ _ _
 have IX:Inv X pins σ H' s5:=I2.aaV (h':=s5.heap) f2 hC I5 ⟨rfl,fun _ _=>rfl⟩
 have nL:C≠X.env.locals:=by
  obtain ⟨m,⟨o,_,_,ho,_⟩,_⟩:=I2.loc
  exact tO (gC (bY ho) hC)
 have nC:∀ z c,X.env.cells.lookup z=some c->c≠C:=fun z c e=>by
  obtain ⟨v,o,ho,_⟩:=I2.cell z c e
  exact cZ (gC (bY ho) hC)
 refine Yj (DK IX hXN hi0 hy (v:=.ref D') rfl (fun s6 I6 hb=>?_) hf)
 obtain ⟨m,hm,_⟩:=I5.loc
 obtain ⟨a,sb,ha⟩:=hb
 have na:C≠a:=by
  rcases ha with z | z
  ·rw [z];exact nL
  ·exact aL (nC _ _ z)
 refine ⟨m,hm.sameBut sb na,fun h' hs'=>⟨_,H',?_,q⟩⟩
 obtain ⟨hp6,g6,d6,t6,o6⟩:=s6
 refine I6.turned (it:=C) (t':=t6) (fun b o hb e=>(hs'.2 b hb).trans e) I5.free nL (.inr (fH I2.sz hC)) nC fun p hp z=>?_
 have:=(I2.pin p hp).1
 exact absurd (gC (bY this) (by rw [z];exact hC)) (qd _)
end
def rB {names:List (Str × tG)} {cl:List (Str × Addr)} (h:(names.all fun p=>(p.2 != .cell && p.2 != .free) || (cl.lookup p.1).isSome)=true) (y:Str) (hy:names.lookup y=some .cell\/names.lookup y=some .free):∃ c,cl.lookup y=some c:=by
 have key:∀ k:tG,(k = .cell\/k = .free)->names.lookup y=some k->∃ c,cl.lookup y=some c:=fun k hk e=>by
  have m:=Xq.mp h _ (vQ e)
  have:(k != .cell && k != .free)=false:=by rcases hk with z | z <;> (subst z;rfl)
  rw [show ((y,k):Str × tG).2=k from rfl,this,YQ] at m
  exact ZD.mp m
 rcases hy with z | z
 ·exact key _ (.inl rfl) z
 ·exact key _ (.inr rfl) z
def fK (X:Cx) (N:List Str) (scope:Scope) (cl:List (Str × Addr)):Nat->List Nat->Prop
 | _,[]=>True
 | i,j::r=>Ed X N scope cl i j/\fK X N scope cl (i+1) r
def fK.at {X:Cx} {N:List Str} {scope:Scope} {cl:List (Str × Addr)}:∀ {caps:List Nat} {k:Nat},fK X N scope cl k caps->∀ (i j:Nat),caps[i]? = some j->Ed X N scope cl (i+k) j
 | [],_,_,i,j,h=>by simp at h
 | a::r,k,hc,0,j,h=>by
  have e:a=j:=by simpa using h
  subst e
  rw [qM];exact hc.1
 | a::r,k,hc,i+1,j,h=>by
  have:=fK.at hc.2 i j (by simpa using h)
  rw [show i+1+k=i+(k+1) by omega];exact this
def rM {K:bh} {a:Addr} {xs:List V} {caps:List Nat} {te:TE} {σ:St} {H:Hp} {D:Addr} {Q:VK} (Pv:Nat->List V->Hp->Prop) (h0:Pv 0 [] (upd H D (.lst [])))
  (hl:∀ i ys H,i<=xs.length->Pv i ys H->SqL K H a xs/\H D=some (.lst ys)/\ys.length<sizeLine)
  (hs:∀ i ys H x,xs[i]? = some x->Pv i ys H->te (jk σ (some x) caps) H fun y H3=>H3 D=some (.lst ys)/\Pv (i+1) (ys++[y]) (upd H3 D (.lst (ys++[y])))) (hd:∀ ys H,Pv xs.length ys H->Q (.ref D) H)
  (mono:∀ σ H (Q Q':VK),(∀ y H,Q y H->Q' y H)->te σ H Q->te σ H Q') :
  uW (Itl K a) caps Ir te σ D Q H:=by
 refine ⟨fun i m ys H=>m=xs.length-i/\i<=xs.length/\Pv i ys H,⟨xs.length,by simp,dN _,h0⟩,?_⟩
 rintro i m ys H ⟨rfl,hi,p⟩
 obtain ⟨sq,q,z⟩:=hl i ys H hi p
 refine ⟨q,?_⟩
 by_cases hlt:i<xs.length
 ·refine .inr ⟨⟨xs,xs[i],sq,by simp [hlt]⟩,z,fun x H' y=>?_⟩
  obtain ⟨e,y⟩:=y
  subst e
  unfold Ir;dsimp only
  rw [if_pos rfl]
  exact mono _ _ _ _ (fun y H3 ⟨a,b⟩=>⟨a,xs.length-(i+1),by omega,rfl,hlt,b⟩) (hs i ys _ x (y xs sq) p)
 ·have e:i=xs.length:=by omega
  subst e
  exact .inl ⟨⟨xs,sq,aX _⟩,hd ys H p⟩
end L2
namespace L2
open PySem PySem.Spec PyProof.Rows
section
variable {X:Cx}
def SX {A:bQ} {E:Value->aG->Prop} {s:aG} {T:String} {r d:Addr} {n:Nat} {P:Nat->Value->Prop} {OK:Heap->Prop} {ns:List Int} {Q:Value->aG->Prop}
  (K:X7 X.prog X.w T r d n P OK) (hh:A.handled=none) (hok:OK s.heap) (hn:n<=sizeLine) (h64:n<64) (hP:∀ us:List Value,us.length=n->(∀ (j:Nat) (v:Value),us[j]? = some v->P j v)->mY us ns)
  (h:∀ (h':Heap) (tk:Nat) (l:Addr) (out:Array Value) (ns':List Int) (e:Nat),(∀ b ob,s.heap.get? b=some ob->h'.get? b=some ob)->(∀ b ob,s.heap.get? b=some ob->b≠l)->h'.get? l=some (dh "list" out e) ->
   mY out.toList ns'->ns'.Perm ns->ns'.Pairwise (· <= ·)->Q (.ref l) { s with heap:=h',toks:=tk }) :
  wpAny (model X.prog X.w) A (call (.builtin "sorted") [.ref r]) Q E s:=by
 refine Zy Pu Pq Pr (Zu _) ?_
 unfold lg.«sorted»
 refine aP (m:=Ol "sorted" 1 1 _) (bH ?_)
 refine aP (XM (A:=A.in1) K hh hok hn fun h1 tk acc hk hacc=>?_)
 have hl:acc.toList.length=n:=by rw [lC];exact hacc.1
 have hI:=hP acc.toList hl fun j v e=>hacc.2 j v (by rw [<- Al];exact e)
 refine aP (Gd ?_ (by rw [hl];exact hn))
 have hoL:(h1.push (dh "list" acc.toList.toArray 0)).get? h1.objs.size=some (dh "list" acc.toList.toArray 0):=fW _ rfl
 refine aP (nP (zV Pj ⟨_,hoL,rfl⟩ Ph (list_sort_tree hoL hI (by rw [hl];exact h64) fun out ns' a1 a2 a3=>⟨_,rfl,?_⟩) (Zm _)))
 refine bH ⟨_,rfl,?_⟩
 obtain ⟨e,he⟩:=Zq (vs:=acc.toList) (out:=out) hoL
 have hb:∀ b ob,s.heap.get? b=some ob->b<h1.objs.size:=fun b ob e'=>bY (hk b ob e')
 refine h _ tk _ out ns' e (fun b ob e'=>?_) (fun b ob e'=>cZ (hb b ob e')) he a1 a2 a3
 have hlt:=hb b ob e'
 rw [Zk (cZ hlt) (by rw [Ht];exact tL hlt)]
 exact eZ _ (hk b ob e')
def aaW:List V->Hp->VK->Prop:=fun xs H Q=>∃ a kvs ns,xs=[V.ref a]/\Rd H a (.dK kvs)/\(kvs.map fun p=>kV p.1)=ns.map V.int/\ns.length<64 /\
 ∀ (l:Addr) (ns':List Int),H l=none->ns'.Perm ns->ns'.Pairwise (· <= ·)->Q (.ref l) (upd H l (.lst (ns'.map V.int)))
def aaX (K:bh):List V->Hp->VK->Prop:=fun xs H Q=>∃ a ns,xs=[V.ref a]/\SqL K H a (ns.map V.int)/\ns.length<64 /\
 ∀ (l:Addr) (ns':List Int),H l=none->ns'.Perm ns->ns'.Pairwise (· <= ·)->Q (.ref l) (upd H l (.lst (ns'.map V.int)))
def S5 (hc:X.calm=true):gY X (.builtin "sorted") aaW:=by
 intro pins s σ H xs us Q I r h
 obtain ⟨a,kvs,ns,rfl,ha,ei,h64,q⟩:=h
 obtain ⟨u,rfl,ru⟩:=vals1 r
 cases ru
 obtain ⟨z,hd,vs,rel,dd⟩:=rm I.hok ha
 obtain ⟨ep,hat⟩:=dd.dictAt
 have hl:=rel.length
 have hns:ns.length=kvs.length:=by have:=congrArg kE ei;simpa using this.symm
 refine SX (X:=X) (ns:=ns) (X4 (knd:=cR X.prog X.w) (kvs:=vs) (ep:=ep) hd) (I.ok.hd hc) hat (by rw [<- hl];exact z) (by omega) (fun us hu hv=>?_) fun h' tk l' out ns' e' kp hne hl' hI hp ho=>?_
 ·have vv:=wN rel hu hv
  rw [ei] at vv
  exact intsAre_of vv
 ·refine ⟨.ref l',_,I.Eb (t':=tk) kp hne (show dw X.prog X.w _ h' l' (.lst (ns'.map V.int)) from ⟨?_,out.toList,e',n8 hI,by simpa using hl'⟩),rfl,q l' ns' (I.none_of hne) hp ho⟩
  rw [aZ,hp.length_eq,hns];exact z
def S6:gY X (.builtin "sorted") (aaX X.K):=by
 intro pins s σ H xs us Q I r h
 obtain ⟨a,ns,rfl,ha,h64,q⟩:=h
 obtain ⟨u,rfl,ru⟩:=vals1 r
 cases ru
 obtain ⟨its,rv,p,hz⟩:=I.list ha
 have hI:=intsAre_of rv
 have hl:its.length=ns.length:=by rw [<- rv.length,aZ]
 refine sorted_ints p.isList hI (by omega) fun out ns' a1 a2 a3=>?_
 obtain ⟨e,he⟩:=Zv s.heap its out
 refine ⟨.ref (s.heap.objs.size+1),_,I.laid (t':=s.toks) (fun _ _=>Zr) (oU _) (show dw X.prog X.w _ _ (s.heap.objs.size+1) (.lst (ns'.map V.int)) from ⟨?_,out.toList,e,n8 a1,by simpa using he⟩),rfl,q _ ns' (I.hok.fresh (oU _)) a2 a3⟩
 rw [aZ,a2.length_eq]
 rw [aZ] at hz
 exact hz
def afT (K:bh):List V->Hp->VK->Prop:=fun xs H Q=>aaW xs H Q\/aaX K xs H Q
def kI (hc:X.calm=true):gY X (.builtin "sorted") (afT X.K):=(S5 hc).or S6
end
end L2
namespace L2
open PySem PySem.Spec PyProof.Rows
section
variable {prog:bG} {w:World} {A:bQ} {E:Value->aG->Prop}
end
section
variable {X:Cx} {pos:Pos}
end
end L2
namespace Tm
open PySem PyProof.Rows
class Rk where
 kd:SortKind
 R:Keyed->Int
 Ok:Keyed->Prop
class Rl [Rk] (prog:bG) (w:World) (A:bQ) (E:Value->aG->Prop) (s:aG):Prop where
 lt:∀ {x y:Keyed} {st:iu} {Q:Option Bool->iu->Prop},kindOf st=Rk.kd->Rk.Ok x->Rk.Ok y->Q (some (decide (Rk.R x<Rk.R y))) st->wpS (model prog w) A E s (lt' x y) Q st
section
variable [Rk]
def K (xs:Array Keyed) (i:Nat):Int:=match xs[i]? with
 | some x=>Rk.R x
 | none=>0
def kd0:SortKind:=Rk.kd
def Is (x:Keyed) (n:Int):Prop:=Rk.Ok x/\Rk.R x=n
def SortedTo (xs:Array Keyed) (k:Nat):Prop:=∀ i j,i<=j->j<k->K xs i<=K xs j
def IntKeys (xs:Array Keyed):Prop:=∀ x,x∈xs.toList->Rk.Ok x
structure SBase (a₀:Array Keyed) (st:iu):Prop where
 perm:(arrOf st).Perm a₀
 kind:kindOf st=kd0
 failed:wB st=none
 pend:mX st = #[]
def SBase.size {a₀:Array Keyed} {st:iu} (h:SBase a₀ st):(arrOf st).size=a₀.size:=h.perm.size_eq
def K_congr {xs ys:Array Keyed} {i j:Nat} (h:xs[i]? = ys[j]?):K xs i=K ys j:=by unfold K;rw [h]
def K_bubble {xs:Array Keyed} {src d:Nat} (hs:src<xs.size) (hd:d<=src) (k:Nat) :
  K (bubble xs src d) k=if k=src-d then K xs src else if src-d<k/\k<=src then K xs (k-1) else K xs k:=by
 have e:=Zi hs d hd k
 split at e
 ·rename_i h;rw [if_pos h];exact K_congr e
 ·rename_i h
  rw [if_neg h]
  split at e
  ·rename_i h';rw [if_pos h'];exact K_congr e
  ·rename_i h';rw [if_neg h'];exact K_congr e
def K_mirror {xs:Array Keyed} {i j:Nat} (hj:j<=xs.size) (k:Nat):K (uc xs i j ((j-i) / 2)) k=if i<=k/\k<j then K xs (i+j-1-k) else K xs k:=by
 have e:=Aq (i:=i) hj k
 split at e
 ·rename_i h;rw [if_pos h];exact K_congr e
 ·rename_i h;rw [if_neg h];exact K_congr e
def K_mirror_equal {xs:Array Keyed} {i j:Nat} (hj:j<=xs.size) (heq:∀ k,i<=k->k<j->K xs k=K xs (j-1)) (k:Nat):K (uc xs i j ((j-i) / 2)) k=K xs k:=by
 rw [K_mirror hj]
 split
 ·rw [heq _ (by omega) (by omega),heq k (by omega) (by omega)]
 ·rfl
end
end Tm
namespace Tm
open PySem PyProof.Rows
section
variable [Rk]
section
variable {prog:bG} {w:World} {A:bQ} {E:Value->aG->Prop} {s:aG} [Rl prog w A E s]
def afU {st:iu} {a b:Int} {x y:Keyed} {Q:Option Bool->iu->Prop} (hk:kindOf st=kd0) (h:Q (some (decide (a<b))) st) (hx:Is x a:=by assumption) (hy:Is y b:=by assumption) :
  wpS (model prog w) A E s (lt' x y) Q st:=Rl.lt hk hx.1 hy.1 (by rw [hx.2,hy.2];exact h)
end
end
end Tm
namespace Tm
open PySem PyProof.Rows
section
variable [Rk]
def Srt (xs:Array Keyed) (a b:Nat):Prop:=∀ i j,a<=i->i<=j->j<b->K xs i<=K xs j
structure Within (xs ys:Array Keyed) (a b:Nat):Prop where
 perm:ys.Perm xs
 out:∀ i,i<a\/b<=i->ys[i]? = xs[i]?
def Within.refl (xs:Array Keyed) (a b:Nat):Within xs xs a b:=⟨Qe _,fun _ _=>rfl⟩
def Within.trans {xs ys zs:Array Keyed} {a b:Nat} (h:Within xs ys a b) (h':Within ys zs a b):Within xs zs a b:=⟨h'.perm.trans h.perm,fun i hi=>(h'.out i hi).trans (h.out i hi)⟩
def aaY {xs:Array Keyed} (h0:IntKeys xs) {i:Nat} (hi:i<xs.size):∃ (t:Keyed) (_:Is t (K xs i)),xs[i]? = some t:=by
 have e:xs[i]? = some xs[i]:=getElem?_pos _ i hi
 refine ⟨xs[i],⟨h0 xs[i] (by simp),?_⟩,e⟩
 unfold K
 rw [e]
def uX {xs ys:Array Keyed} (h:IntKeys xs) (p:ys.Perm xs):IntKeys ys:=fun q hq=>h q ((Y8.mp p).mem_iff.mp hq)
section
variable {prog:bG} {w:World} {A:bQ} {E:Value->aG->Prop} {s:aG} [Rl prog w A E s]
def wO {st:iu} {i j:Nat} {Q:Option Bool->iu->Prop} (hk:kindOf st=kd0) (h0:IntKeys (arrOf st)) (hi:i<(arrOf st).size) (hj:j<(arrOf st).size)
  (h:Q (some (decide (K (arrOf st) i<K (arrOf st) j))) st):wpS (model prog w) A E s (ltAt' i j) Q st:=by
 obtain ⟨t,p,e1⟩:=aaY h0 hi
 obtain ⟨u,q,e2⟩:=aaY h0 hj
 rw [ltAt'_eq]
 refine d8 (wC ?_)
 show wpS _ _ _ _ (do let x <- elem' (arrOf st) i;let y <- elem' (arrOf st) j;lt' x y) Q st
 rw [elem'_eq,elem'_eq,e1,e2]
 refine d8 (fQ (d8 (fQ ?_)))
 exact afU hk h
def aaZ {lo n ok:Nat} {st:iu} {Q:Bool->iu->Prop} (hk:kindOf st=kd0) (h0:IntKeys (arrOf st)) (hz:lo+n<=(arrOf st).size) (hok:ok<=n) (hs:Srt (arrOf st) lo (lo+ok))
  (h:∀ ys,Within (arrOf st) ys lo (lo+n)->Srt ys lo (lo+n)->Q true (cU st ys)):wpS (model prog w) A E s (binarySort' lo n ok) Q st:=by
 have hs1:Srt (arrOf st) lo (lo+max ok 1):=fun i j h1 h2 h3=>by
  by_cases e:j<lo+ok
  ·exact hs i j h1 h2 e
  ·have:i=j:=by omega
   rw [this];exact cT _
 refine d8 (tZ (tX (I:=fun k c st'=>c=(none,())/\∃ ys,st'=cU st ys/\Within (arrOf st) ys lo (lo+n)/\Srt ys lo (lo+k))
  (Q:=fun c st'=>c=(none,())/\∃ ys,st'=cU st ys/\Within (arrOf st) ys lo (lo+n)/\Srt ys lo (lo+n)) ?_ ?_ ⟨rfl,arrOf st,rfl,Within.refl _ _ _,hs1⟩) ?_)
 ·rintro k c st' hk1 hk2 ⟨rfl,ys,rfl,hw,hsr⟩
  have sz:ys.size=(arrOf st).size:=hw.perm.size_eq
  have hi0:IntKeys ys:=uX h0 hw.perm
  dsimp only
  refine d8 (tZ (tX (I:=fun x c st'=>st'=cU st ys/\∃ l r,c=(none,l,r)/\l<=r/\r<=k/\r-l<=k-x/\(∀ i,i<l->K ys (lo+i)<=K ys (lo+k))/\∀ i,r<=i->i<k->K ys (lo+k)<K ys (lo+i))
   (Q:=fun c st'=>st'=cU st ys/\∃ l r,c=(none,l,r)/\l=r/\r<=k/\(∀ i,i<l->K ys (lo+i)<=K ys (lo+k))/\∀ i,r<=i->i<k->K ys (lo+k)<K ys (lo+i)) ?_ ?_ ⟨rfl,0,k,rfl,dN _,aX _,by omega,fun i hi=>by omega,fun i h1 h2=>by omega⟩) ?_)
  ·rintro x c st' _ hx ⟨rfl,l,r,rfl,g1,g2,g3,g4,g5⟩
   dsimp only
   by_cases hge:l>=r
   ·rw [if_pos hge]
    exact fQ ⟨rfl,l,r,rfl,by omega,g2,g4,g5⟩
   ·rw [if_neg hge]
    refine d8 (wO (st:=cU st ys) hk hi0 (by show lo+k<ys.size;omega) (by show lo+(l+r) / 2<ys.size;omega) ?_)
    dsimp only
    show wpS _ _ _ _ (if decide (K ys (lo+k)<K ys (lo+(l+r) / 2))=true then _ else _) _ _
    by_cases hl:K ys (lo+k)<K ys (lo+(l+r) / 2)
    ·rw [if_pos (decide_eq_true hl)]
     refine fQ ⟨rfl,l,(l+r) / 2,rfl,by omega,by omega,by omega,g4,fun i h1 h2=>?_⟩
     exact Int.lt_of_lt_of_le hl (hsr (lo+(l+r) / 2) (lo+i) (by omega) (by omega) (by omega))
    ·rw [if_neg (by simpa using hl)]
     refine fQ ⟨rfl,(l+r) / 2+1,r,rfl,by omega,g2,by omega,fun i h1=>?_,g5⟩
     exact qO (hsr (lo+i) (lo+(l+r) / 2) (by omega) (by omega) (by omega)) (O8.mp hl)
  ·rintro c st' ⟨rfl,l,r,rfl,g1,g2,g3,g4,g5⟩
   exact ⟨rfl,l,r,rfl,by omega,g2,g4,g5⟩
  ·rintro c st' ⟨rfl,l,r,rfl,rfl,g2,g4,g5⟩
   dsimp only
   show wpS _ _ _ _ (moveDown' (lo+k) (lo+l) >>= _) _ _
   rw [moveDown'_eq]
   refine d8 (tY (fQ ⟨rfl,bubble ys (lo+k) (lo+k-(lo+l)),rfl,hw.trans ⟨bubble_perm _ _ _,fun i hi=>?_⟩,fun i j h1 h2 h3=>?_⟩))
   ·rw [Zi (by omega) _ (by omega),if_neg (by omega),if_neg (by omega)]
   ·rw [K_bubble (by omega) (by omega),K_bubble (by omega) (by omega)]
    have e:lo+k-(lo+k-(lo+l))=lo+l:=by omega
    rw [e]
    by_cases a1:i=lo+l
    ·rw [if_pos a1]
     by_cases b1:j=lo+l
     ·rw [if_pos b1];exact cT _
     ·rw [if_neg b1,if_pos (by omega)]
      have:=g5 (j-1-lo) (by omega) (by omega)
      rw [show lo+(j-1-lo)=j-1 by omega] at this
      exact Hf this
    ·rw [if_neg a1]
     by_cases a2:lo+l<i/\i<=lo+k
     ·rw [if_pos a2,if_neg (by omega),if_pos (by omega)]
      exact hsr (i-1) (j-1) (by omega) (by omega) (by omega)
     ·rw [if_neg a2]
      by_cases b1:j=lo+l
      ·rw [if_pos b1]
       have:=g4 (i-lo) (by omega)
       rw [show lo+(i-lo)=i by omega] at this
       exact this
      ·rw [if_neg b1]
       by_cases b2:lo+l<j/\j<=lo+k
       ·rw [if_pos b2];exact hsr i (j-1) (by omega) (by omega) (by omega)
       ·rw [if_neg b2];exact hsr i j (by omega) (by omega) (by omega)
 ·rintro c st' ⟨rfl,ys,rfl,hw,hsr⟩
  refine ⟨rfl,ys,rfl,hw,?_⟩
  by_cases hn:n=0
  ·intro i j h1 h2 h3;omega
  ·rw [show max (max ok 1) n=n by omega] at hsr;exact hsr
 ·rintro c st' ⟨rfl,ys,rfl,hw,hsr⟩
  exact fQ (h ys hw hsr)
end
end
end Tm
namespace Tm
open PySem PyProof.Rows
section
variable [Rk]
section
variable {prog:bG} {w:World} {A:bQ} {E:Value->aG->Prop} {s:aG} [Rl prog w A E s]
def acE {lo nrem:Nat} {st:iu} {Q:Option Nat->iu->Prop} (hk:kindOf st=kd0) (h0:IntKeys (arrOf st)) (hz:lo+nrem<=(arrOf st).size) (h1:1<=nrem)
  (h:∀ n ys,1<=n->n<=nrem->Within (arrOf st) ys lo (lo+nrem)->Srt ys lo (lo+n)->Q (some n) (cU st ys)):wpS (model prog w) A E s (countRun' lo nrem) Q st:=by
 refine d8 (tZ (tX (I:=fun x c st'=>st'=st/\c=(none,x)/\Srt (arrOf st) lo (lo+x))
  (Q:=fun c st'=>st'=st/\∃ n,c=(none,n)/\1<=n/\n<=nrem/\Srt (arrOf st) lo (lo+n)/\(n<nrem->K (arrOf st) (lo+n)<K (arrOf st) (lo+n-1))) ?_ ?_ ⟨rfl,rfl,fun i j g1 g2 g3=>by
   have:i=j:=by omega
   rw [this];exact cT _⟩) ?_)
 ·rintro x c st' hx1 hx2 ⟨rfl,rfl,hs⟩
  dsimp only
  refine d8 (wO hk h0 (by omega) (by omega) ?_)
  dsimp only
  by_cases hl:K (arrOf st') (lo+x)<K (arrOf st') (lo+x-1)
  ·rw [if_pos (decide_eq_true hl)]
   exact fQ ⟨rfl,x,rfl,hx1,by omega,hs,fun _=>hl⟩
  ·rw [if_neg (by simpa using hl)]
   refine fQ ⟨rfl,rfl,fun i j g1 g2 g3=>?_⟩
   by_cases e:j<lo+x
   ·exact hs i j g1 g2 e
   ·have ej:j=lo+x:=by omega
    subst ej
    by_cases e2:i=lo+x
    ·rw [e2];exact cT _
    ·exact qO (hs i (lo+x-1) g1 (by omega) (by omega)) (O8.mp hl)
 ·rintro c st' ⟨rfl,rfl,hs⟩
  rw [show max 1 nrem=nrem by omega] at hs ⊢
  exact ⟨rfl,nrem,rfl,h1,aX _,hs,fun z=>absurd z (qd _)⟩
 ·rintro c st' ⟨rfl,n,rfl,n1,n2,hs,hlt⟩
  extract_lets +onlyGivenNames -underBinder -merge r0;clear_value (hr0:r0=_)
  subst hr0
  extract_lets +onlyGivenNames -underBinder -merge n0;clear_value (hn0:n0=_)
  subst hn0
  show wpS _ _ _ _ (if (n0 == nrem)=true then _ else _) Q st'
  by_cases hn:n0=nrem
  ·rw [if_pos (by simpa using hn)]
   exact fQ (h n0 (arrOf st') n1 n2 (Within.refl _ _ _) hs)
  rw [if_neg (by simpa using hn)]
  have hlt':=hlt (by omega)
  extract_lets +onlyGivenNames -underBinder -merge jp;clear_value (hjp:jp=_)
  have key:∀ (u:PUnit) (ys:Array Keyed),Within (arrOf st') ys lo (lo+nrem)->(∀ i,lo<=i->i<lo+n0->K ys i=K ys (lo+n0-1))->K ys (lo+n0)<K ys (lo+n0-1)->wpS (model prog w) A E s (jp u) Q (cU st' ys):=by
   intro u ys hw heq hless
   rw [hjp]
   refine d8 (PJ (Gk ⟨rfl,?_⟩))
   extract_lets +onlyGivenNames -underBinder -merge n;clear_value (hn':n=_)
   extract_lets +onlyGivenNames -underBinder -merge neq;clear_value (hneq:neq=_)
   subst hneq
   refine d8 (tZ (tX (I:=fun x c st2=>∃ zs q,c=(none,x,q)/\st2=cU st' zs/\Within (arrOf st') zs lo (lo+nrem)/\q+1<x/\(∀ i j,lo<=i->i<=j->j<lo+x->K zs j<=K zs i)/\(∀ i,lo+x-(q+1)<=i->i<lo+x->K zs i=K zs (lo+x-1)))
    (Q:=fun c st2=>∃ zs x q,c=(none,x,q)/\n<=x/\x<=nrem/\st2=cU st' zs/\Within (arrOf st') zs lo (lo+nrem)/\q+1<x/\(∀ i j,lo<=i->i<=j->j<lo+x->K zs j<=K zs i)/\(∀ i,lo+x-(q+1)<=i->i<lo+x->K zs i=K zs (lo+x-1))) ?_ ?_ ?_) ?_)
   ·rintro x c st2 hx1 hx2 ⟨zs,q,rfl,rfl,w2,q1,q2,q3⟩
    have sz:zs.size=(arrOf st').size:=w2.perm.size_eq
    have hi0:IntKeys zs:=uX h0 w2.perm
    dsimp only
    refine d8 (wO (st:=cU st' zs) hk hi0 (by show lo+x<zs.size;omega) (by show lo+x-1<zs.size;omega) ?_)
    dsimp only
    show wpS _ _ _ _ (if decide (K zs (lo+x)<K zs (lo+x-1))=true then _ else _) _ _
    by_cases hl:K zs (lo+x)<K zs (lo+x-1)
    ·rw [if_pos (decide_eq_true hl)]
     have ext:∀ vs:Array Keyed,(∀ i,K vs i=K zs i)->(∀ i j,lo<=i->i<=j->j<lo+(x+1)->K vs j<=K vs i):=fun vs hv i j g1 g2 g3=>by
      rw [hv,hv]
      by_cases e:j<lo+x
      ·exact q2 i j g1 g2 e
      ·have ej:j=lo+x:=by omega
       subst ej
       by_cases e2:i=lo+x
       ·rw [e2];exact cT _
       ·exact qO (Hf hl) (q2 i (lo+x-1) g1 (by omega) (by omega))
     have one:∀ vs:Array Keyed,∀ i,lo+(x+1)-(0+1)<=i->i<lo+(x+1)->K vs i=K vs (lo+(x+1)-1):=fun vs i g1 g2=>by
      have:i=lo+(x+1)-1:=by omega
      rw [this]
     by_cases hq:q>0
     ·rw [if_pos hq]
      have me:=K_mirror_equal (xs:=zs) (i:=lo+x-(q+1)) (j:=lo+x) (by omega) (fun k g1 g2=>q3 k g1 g2)
      show wpS _ _ _ _ (Hq (lo+x-(q+1)) (lo+x) >>= _) _ _
      rw [Hl]
      refine d8 (tY (fQ ⟨uc zs (lo+x-(q+1)) (lo+x) ((lo+x-(lo+x-(q+1))) / 2),0,rfl,rfl,w2.trans ⟨Hs _ _ _ _,fun i hi=>?_⟩,by omega,ext _ me,one _⟩))
      rw [Aq (by omega),if_neg (by omega)]
     ·rw [if_neg hq]
      exact fQ ⟨zs,0,rfl,rfl,w2,by omega,ext zs (fun _=>rfl),one zs⟩
    ·rw [if_neg (by simpa using hl)]
     refine d8 (wO (st:=cU st' zs) hk hi0 (by show lo+x-1<zs.size;omega) (by show lo+x<zs.size;omega) ?_)
     dsimp only
     show wpS _ _ _ _ (if decide (K zs (lo+x-1)<K zs (lo+x))=true then _ else _) _ _
     by_cases hl2:K zs (lo+x-1)<K zs (lo+x)
     ·rw [if_pos (decide_eq_true hl2)]
      exact fQ ⟨zs,x,q,rfl,hx1,by omega,rfl,w2,q1,q2,q3⟩
     ·rw [if_neg (by simpa using hl2)]
      have heq2:K zs (lo+x)=K zs (lo+x-1):=by omega
      refine fQ ⟨zs,q+1,rfl,rfl,w2,by omega,fun i j g1 g2 g3=>?_,fun i g1 g2=>?_⟩
      ·by_cases e:j<lo+x
       ·exact q2 i j g1 g2 e
       ·have ej:j=lo+x:=by omega
        subst ej
        by_cases e2:i=lo+x
        ·rw [e2];exact cT _
        ·rw [heq2];exact q2 i (lo+x-1) g1 (by omega) (by omega)
      ·rw [show lo+(x+1)-1=lo+x by omega]
       by_cases e:i=lo+x
       ·rw [e]
       ·rw [heq2];exact q3 i (by omega) (by omega)
   ·rintro c st2 ⟨zs,q,rfl,rfl,w2,q1,q2,q3⟩
    have e:max n nrem=nrem:=by omega
    rw [e] at q1 q2 q3 ⊢
    exact ⟨zs,nrem,q,rfl,by omega,aX _,rfl,w2,q1,q2,q3⟩
   ·refine ⟨ys,0,rfl,rfl,hw,by omega,fun i j g1 g2 g3=>?_,fun i g1 g2=>?_⟩
    ·subst hn'
     by_cases e:j<lo+n0
     ·rw [heq i g1 (by omega),heq j (by omega) e];exact cT _
     ·have ej:j=lo+n0:=by omega
      subst ej
      by_cases e2:i=lo+n0
      ·rw [e2];exact cT _
      ·rw [heq i g1 (by omega)];exact Hf hless
    ·have:i=lo+n-1:=by omega
     rw [this]
   ·rintro c st2 ⟨zs,x,q,rfl,hx1,hx2,rfl,w2,q1,q2,q3⟩
    extract_lets +onlyGivenNames -underBinder -merge r2;clear_value (hr2:r2=_)
    subst hr2
    extract_lets +onlyGivenNames -underBinder -merge s2;clear_value (hs2:s2=_)
    subst hs2
    extract_lets +onlyGivenNames -underBinder -merge n2';clear_value (hn2':n2'=_)
    have hn3:x=n2':=hn2'.symm
    subst hn3
    extract_lets +onlyGivenNames -underBinder -merge neq2;clear_value (hneq2:neq2=_)
    have hn4:q=neq2:=hneq2.symm
    subst hn4
    try dsimp (config:={ zeta:=false }) only
    extract_lets +onlyGivenNames -underBinder -merge jp2;clear_value (hjp2:jp2=_)
    have fin:∀ (u:PUnit) (vs:Array Keyed),Within (arrOf st') vs lo (lo+nrem)->(∀ i j,lo<=i->i<=j->j<lo+x->K vs j<=K vs i)->wpS (model prog w) A E s (jp2 u) Q (cU st' vs):=by
     intro u vs w3 dec
     rw [hjp2]
     have sz:vs.size=(arrOf st').size:=w3.perm.size_eq
     show wpS _ _ _ _ (Hq lo (lo+x) >>= _) _ _
     rw [Hl]
     refine d8 (tY ?_)
     have w4:Within (arrOf st') (uc vs lo (lo+x) ((lo+x-lo) / 2)) lo (lo+nrem):=w3.trans ⟨Hs _ _ _ _,fun i hi=>by rw [Aq (by omega),if_neg (by omega)]⟩
     have s4:Srt (uc vs lo (lo+x) ((lo+x-lo) / 2)) lo (lo+x):=fun i j g1 g2 g3=>by
      rw [K_mirror (by omega),K_mirror (by omega),if_pos (by omega),if_pos (by omega)]
      exact dec _ _ (by omega) (by omega) (by omega)
     show wpS _ _ _ _ _ Q (cU st' (uc vs lo (lo+x) ((lo+x-lo) / 2)))
     generalize uc vs lo (lo+x) ((lo+x-lo) / 2)=us at w4 s4 ⊢
     have sz4:us.size=(arrOf st').size:=w4.perm.size_eq
     have hi4:IntKeys us:=uX h0 w4.perm
     refine d8 (tZ (tX (I:=fun y c st3=>st3=cU st' us/\c=(none,y)/\Srt us lo (lo+y))
      (Q:=fun c st3=>st3=cU st' us/\∃ m,c=(none,m)/\1<=m/\m<=nrem/\Srt us lo (lo+m)) ?_ ?_ ⟨rfl,rfl,s4⟩) ?_)
     ·rintro y c st3 hy1 hy2 ⟨rfl,rfl,hs5⟩
      dsimp only
      refine d8 (wO (st:=cU st' us) hk hi4 (by show lo+y<us.size;omega) (by show lo+y-1<us.size;omega) ?_)
      dsimp only
      show wpS _ _ _ _ (if decide (K us (lo+y)<K us (lo+y-1))=true then _ else _) _ _
      by_cases hl:K us (lo+y)<K us (lo+y-1)
      ·rw [if_pos (decide_eq_true hl)]
       exact fQ ⟨rfl,y,rfl,by omega,by omega,hs5⟩
      ·rw [if_neg (by simpa using hl)]
       refine fQ ⟨rfl,rfl,fun i j g1 g2 g3=>?_⟩
       by_cases e:j<lo+y
       ·exact hs5 i j g1 g2 e
       ·have ej:j=lo+y:=by omega
        subst ej
        by_cases e2:i=lo+y
        ·rw [e2];exact cT _
        ·exact qO (hs5 i (lo+y-1) g1 (by omega) (by omega)) (O8.mp hl)
     ·rintro c st3 ⟨rfl,rfl,hs5⟩
      rw [show max x nrem=nrem by omega] at hs5 ⊢
      exact ⟨rfl,nrem,rfl,h1,aX _,hs5⟩
     ·rintro c st3 ⟨rfl,m,rfl,m1,m2,hs5⟩
      exact fQ (h m us m1 m2 w4 hs5)
    have sz:zs.size=(arrOf st').size:=w2.perm.size_eq
    by_cases hq:q>0
    ·rw [if_pos hq]
     have me:=K_mirror_equal (xs:=zs) (i:=lo+x-(q+1)) (j:=lo+x) (by omega) (fun k g1 g2=>q3 k g1 g2)
     show wpS _ _ _ _ (Hq (lo+x-(q+1)) (lo+x) >>= _) _ _
     rw [Hl]
     refine d8 (tY (fin _ _ (w2.trans ⟨Hs _ _ _ _,fun i hi=>?_⟩) fun i j g1 g2 g3=>?_))
     ·rw [Aq (by show lo+x<=zs.size;omega),if_neg (by omega)]
     ·rw [me,me];exact q2 i j g1 g2 g3
    ·rw [if_neg hq]
     exact fin _ zs w2 q2
  by_cases hn1:n0>1
  ·rw [if_pos hn1]
   refine d8 (wO hk h0 (by omega) (by omega) ?_)
   dsimp only
   by_cases hl:K (arrOf st') lo<K (arrOf st') (lo+n0-1)
   ·rw [if_pos (decide_eq_true hl)]
    exact fQ (h n0 (arrOf st') n1 n2 (Within.refl _ _ _) hs)
   ·rw [if_neg (by simpa using hl)]
    have alike:∀ i,lo<=i->i<lo+n0->K (arrOf st') i=K (arrOf st') (lo+n0-1):=fun i g1 g2=>by
     have a1:=hs lo i (aX _) g1 g2
     have a2:=hs i (lo+n0-1) g1 (by omega) (by omega)
     omega
    have me:=K_mirror_equal (xs:=arrOf st') (i:=lo) (j:=lo+n0) (by omega) alike
    show wpS _ _ _ _ (Hq lo (lo+n0) >>= _) _ _
    rw [Hl]
    refine d8 (tY (key _ _ ⟨Hs _ _ _ _,fun i hi=>?_⟩ (fun i g1 g2=>?_) ?_))
    ·rw [Aq (by omega),if_neg (by omega)]
    ·rw [me,me];exact alike i g1 g2
    ·rw [me,me];exact hlt'
  ·rw [if_neg hn1]
   refine key _ (arrOf st') (Within.refl _ _ _) (fun i g1 g2=>?_) hlt'
   rw [show i=lo+n0-1 by omega]
end
end
end Tm
namespace Tm
open PySem PyProof.Rows
section
variable [Rk]
def kv (p:Keyed):Int:=Rk.R p
def Asc (l:List Keyed):Prop:=l.Pairwise fun x y=>kv x<=kv y
structure Mg (A B out ra rb:List Keyed):Prop where
 perm:(out++(ra++rb)).Perm (A++B)
 srt:Asc out
 sa:Asc ra
 sb:Asc rb
 le:∀ x∈out,∀ y∈ra++rb,kv x<=kv y
def aa0 {l:List Keyed} {x:Keyed} (h:Asc l) (hx:∀ y∈l,kv y<=kv x):Asc (l++[x]) :=
 List.pairwise_append.mpr ⟨h,List.pairwise_singleton _ _,fun a ha b hb=>by rw [fP.mp hb];exact hx a ha⟩
def Mg.pushB {A B out ra rb:List Keyed} {x:Keyed} (h:Mg A B out ra (x::rb)) (hx:∀ y∈ra,kv x<=kv y):Mg A B (out++[x]) ra rb where
 perm:=by
  refine List.Perm.trans ?_ h.perm
  rw [iU]
  exact aeC _ (List.perm_middle (l₁:=ra) (l₂:=rb) (a:=x)).symm
 srt:=aa0 h.srt fun y hy=>h.le y hy x (by simp)
 sa:=h.sa
 sb:=(gA.mp h.sb).2
 le:=fun y hy z hz=>by
  rcases gB.mp hy with m | m
  ·exact h.le y m z (by rcases gB.mp hz with q | q <;> simp [q])
  ·rw [fP.mp m]
   rcases gB.mp hz with q | q
   ·exact hx z q
   ·exact (gA.mp h.sb).1 z q
structure Merged (A B out:List Keyed):Prop where
 perm:out.Perm (A++B)
 srt:Asc out
def Mg.start {A B:List Keyed} {x:Keyed} {rb:List Keyed} (ha:Asc A) (hb:Asc B) (e:B=x::rb) (hx:∀ y∈A,kv x<=kv y):Mg A B [x] A rb:=by
 have h0:Mg A B [] A B:=⟨aeD _,List.Pairwise.nil,ha,hb,fun _ h=>(nomatch h)⟩
 rw [e] at h0
 have:=h0.pushB hx
 rw [<- e] at this
 exact this
end
end Tm
namespace Tm
open PySem PyProof.Rows
section
variable [Rk]
section
variable {prog:bG} {w:World} {A:bQ} {E:Value->aG->Prop} {s:aG} [Rl prog w A E s]
def acF {a₀:Array Keyed} {st:iu} {Q:Unit->iu->Prop} (h0:IntKeys a₀) (hB:SBase a₀ st) (h2:2<=a₀.size) (few:a₀.size<64)
  (q:∀ u,(arrOf u).Perm a₀->wB u=none->SortedTo (arrOf u) a₀.size->Q () u):wpS (model prog w) A E s sortRuns' Q st:=by
 rw [sortRuns'_eq]
 apply d8;apply wC;dsimp only
 have mr:minRun' a₀.size a₀.size 0=a₀.size:=by
  generalize hn:a₀.size=n at h2 few
  match n,h2 with
  | f+1,_=>rw [minRun'_succ,if_pos few]
 simp only [hB.size,mr]
 have key:∀ (u:iu) (zs:Array Keyed),SBase a₀ u->Within (arrOf u) zs 0 a₀.size->Srt zs 0 a₀.size ->
   (arrOf (cU u zs)).Perm a₀/\wB (cU u zs)=none/\(mX (cU u zs)) = #[]/\SortedTo (arrOf (cU u zs)) a₀.size:=fun u zs b wi so =>
  ⟨wi.perm.trans b.perm,b.failed,b.pend,fun i j ij hj=>so i j (dN _) ij hj⟩
 refine d8 (tZ (tX (a:=0)
  (I:=fun x c u=>(x=0/\c=(none,0)/\SBase a₀ u)\/(1<=x/\c=(none,a₀.size)/\(arrOf u).Perm a₀/\wB u=none/\(mX u).size=1/\SortedTo (arrOf u) a₀.size))
  (Q:=fun c u=>c=(none,a₀.size)/\(arrOf u).Perm a₀/\wB u=none/\(mX u).size=1/\SortedTo (arrOf u) a₀.size) ?s1 ?s2 (.inl ⟨rfl,rfl,hB⟩)) ?s3)
 case s2 =>
  rintro c u (⟨z,_,_⟩ | ⟨_,hc,d⟩)
  ·exact absurd z (by omega)
  ·exact ⟨hc,d⟩
 case s1 =>
  rintro x c u _ _ (⟨rfl,rfl,b⟩ | ⟨x1,rfl,d⟩)
  ·dsimp only
   rw [if_neg (by omega)]
   simp only [Nat.sub_zero,Nat.min_self,qM]
   have bs:=b.size
   refine d8 (acE (lo:=0) (nrem:=a₀.size) b.kind (uX h0 b.perm) (by omega) (by omega) fun m ys m1 m2 wi so=>?_)
   rw [qM] at wi so
   dsimp only
   by_cases lt:m<a₀.size
   ·rw [if_pos lt]
    apply d8;apply PJ;refine Gk ⟨rfl,?_⟩
    have yz:ys.size=a₀.size:=wi.perm.size_eq.trans bs
    refine d8 (aaZ (st:=cU u ys) (lo:=0) (n:=a₀.size) (ok:=m) b.kind (uX h0 (wi.perm.trans b.perm)) (by show _<=ys.size;omega) (by omega) (by rw [qM];exact so) fun zs wj sj=>?_)
    rw [qM] at wj sj
    simp only [Bool.not_true,GF,if_false]
    apply d8;apply wC
    obtain ⟨k1,k2,k3,k4⟩:=key u zs b (wi.trans wj) sj
    rw [show (mX (cU (cU u ys) zs)).back? = none by rw [show mX (cU (cU u ys) zs) = #[] from k3];rfl]
    dsimp only
    refine d8 (tY (fQ (.inr ⟨by omega,rfl,k1,k2,?_,k4⟩)))
    show ((mX (cU (cU u ys) zs)).push _).size=1
    rw [Zc,show mX (cU (cU u ys) zs) = #[] from k3];rfl
   ·rw [if_neg lt]
    obtain rfl:m=a₀.size:=by omega
    apply d8;apply wC
    obtain ⟨k1,k2,k3,k4⟩:=key u ys b wi so
    rw [show (mX (cU u ys)).back? = none by rw [k3];rfl]
    dsimp only
    refine d8 (tY (fQ (.inr ⟨by omega,rfl,k1,k2,?_,k4⟩)))
    show ((mX (cU u ys)).push _).size=1
    rw [Zc,k3];rfl
  ·dsimp only
   rw [if_pos (aX a₀.size)]
   exact fQ ⟨rfl,d⟩
 case s3 =>
  rintro c u ⟨rfl,d1,d2,d3,d4⟩
  dsimp only
  refine d8 (tZ (tX (a:=0) (I:=fun _ c v=>v=u/\c=(none,())) (Q:=fun c v=>v=u/\c=(none,())) ?_ (fun _ _ z=>z) ⟨rfl,rfl⟩) ?_)
  ·rintro x c v _ _ ⟨rfl,rfl⟩
   apply d8;apply wC
   rw [if_pos (by rw [d3];exact aX _)]
   exact fQ ⟨rfl,rfl⟩
  ·rintro c v ⟨rfl,rfl⟩
   exact fQ (q _ d1 d2 d4)
end
end
end Tm
namespace Tm
open PySem PyProof.Rows
section
variable {prog:bG} {w:World} {A:bQ} {E:Value->aG->Prop} {s:aG}
def K_at [Rk] {xs:Array Keyed} {i:Nat} (hi:i<xs.size):K xs i=Rk.R xs[i]:=by unfold K;rw [getElem?_pos xs i hi]
def afV [Rk] {vs:List Value} {xs:Array Keyed} (hp:xs.Perm (qQ vs)) (hs:SortedTo xs (qQ vs).size) :
  (xs.map (·.2)).toList.Perm vs/\(xs.map (·.2)).toList.Pairwise fun x y=>Rk.R (x,x)<=Rk.R (y,y):=by
 have hl:xs.toList.Perm (vs.zip vs):=by rw [<- Zn];exact Y8.mp hp
 have hm:∀ p,p∈xs.toList->p.1=p.2:=fun p h=>(Zw (hl.mem_iff.mp h)).1
 rw [Array.toList_map]
 constructor
 ·have h1:=hl.map Prod.snd
  rwa [List.map_snd_zip (aX _)] at h1
 ·refine zN.mpr (List.pairwise_iff_getElem.mpr fun i j hi hj hij=>?_)
  have hi':i<xs.size:=by simpa using hi
  have hj':j<xs.size:=by simpa using hj
  have h1:=hs i j (mj hij) (by rw [<- hp.size_eq];exact hj')
  rw [K_at hi',K_at hj'] at h1
  have e:∀ p:Keyed,p∈xs.toList->((p.2,p.2):Keyed)=p:=fun p h=>jj (hm p h).symm rfl
  rw [e _ (Nm hi),e _ (Nm hj)]
  simpa using h1
def acG [Rk] {a:Addr} {vs:List Value} {n:Nat} {P:Fin->aG->Prop} (at_:s.heap.get? a=some (dh "list" vs.toArray n)) (few:vs.length<=sizeLine) (f64:vs.length<64) (hok:∀ v∈vs,Rk.Ok (v,v))
  (hkey:2<=vs.length->∀ (s2:aG) (Q:SortKind->aG->Prop),(∀ b o,b≠a->s.heap.get? b=some o->s2.heap.get? b=some o)->Q Rk.kd s2->wpAny (model prog w) A (keyKind' vs.toArray) Q E s2)
  (hlt:∀ s2:aG,(∀ b o,b≠a->s.heap.get? b=some o->s2.heap.get? b=some o)->Rl prog w A E s2)
  (told:∀ out:Array Value,out.toList.Perm vs->(out.toList.Pairwise fun x y=>Rk.R (x,x)<=Rk.R (y,y))->P (.done (.ret .none)) { s with heap:=Hu s.heap a vs out }) :
  wpAny (model prog w) A (lg.«list.sort» ⟨[.ref a],[]⟩) P E s:=by
 have la:=bY at_
 have len:vs.toArray.size=vs.length:=cO
 obtain ⟨ep,at1⟩:∃ ep,(s.heap.update a (jE fun _=>#[])).get? a=some (dh "list" #[] ep):=⟨_,get?_update_seq at_ (fun _=>#[])⟩
 have keep:∀ b o,b≠a->s.heap.get? b=some o->(((s.heap.update a (jE fun _=>#[])).push (dh "tuple" vs.toArray 0)).push (dh "list" #[] 0)).get? b=some o:=fun b o hb e =>
  eZ _ (eZ _ (by rw [Yt _ _ _ _ hb];exact e))
 have at2:(((s.heap.update a (jE fun _=>#[])).push (dh "tuple" vs.toArray 0)).push (dh "list" #[] 0)).get? a=some (dh "list" #[] ep):=eZ _ (eZ _ at1)
 rw [list_sort_plain]
 apply aP;apply listItems_at at_ rfl
 apply aP;refine Hr at_ rfl ?_ (by rw [len];exact few) (dN _)
 apply aP;apply Py at1 rfl
 apply aP;refine wpAny_newTuple ?_ (by simpa using few)
 apply aP;refine Gd ?_ (dN _)
 apply nP
 show wpAny (model prog w) A _ P E { s with heap:=((s.heap.update a (jE fun _=>#[])).push (dh "tuple" vs.toArray 0)).push (dh "list" #[] 0) }
 dsimp only
 have close:∀ st:iu,(arrOf st).Perm (qQ vs)->SortedTo (arrOf st) (qQ vs).size->P (.done (.ret .none)) { s with heap:=Hu s.heap a vs ((arrOf st).map (·.2)) }:=fun st p so=>by
  obtain ⟨i1,i2⟩:=afV p so
  exact told _ i1 i2
 by_cases two:vs.toArray.size<2
 ·simp only [if_pos two]
  apply aP;apply bH;rw [StateT.run_pure];apply aP;apply bH;dsimp only
  apply aP;apply Py at2 rfl
  apply aP;refine Hr at2 rfl ?_ (dN _) (by rw [Zd];show (qQ vs).size<=_;rw [Ar];omega)
  simp only [bne_self_eq_false,GF,if_false]
  refine bH (close (Z9 general' (vs.toArray.zip vs.toArray) #[] 7 none) (Qe _) fun i j ij hj=>?_)
  rw [Ar] at hj
  rw [show i=j by omega];exact cT _
 ·simp only [if_neg two]
  refine aP (hkey (by omega) _ _ keep ?_)
  haveI:=hlt { s with heap:=((s.heap.update a (jE fun _=>#[])).push (dh "tuple" vs.toArray 0)).push (dh "list" #[] 0) } keep
  have go:=acF (prog:=prog) (w:=w) (A:=A) (E:=E) (s:={ s with heap:=((s.heap.update a (jE fun _=>#[])).push (dh "tuple" vs.toArray 0)).push (dh "list" #[] 0) })
   (a₀:=qQ vs) (st:=Z9 Rk.kd (vs.toArray.zip vs.toArray) #[] 7 none) (Q:=fun _ st=>(arrOf st).Perm (qQ vs)/\wB st=none/\SortedTo (arrOf st) (qQ vs).size)
   (fun x hx=>by
    rw [Zn] at hx
    obtain ⟨e1,e2⟩:=Zw hx
    obtain ⟨x1,x2⟩:=x
    cases e1
    exact hok _ e2) ⟨Qe _,rfl,rfl,rfl⟩ (by rw [Ar];omega) (by rw [Ar];exact f64) fun st p1 p2 p3=>⟨p1,p2,p3⟩
  refine aP (iG go ?_ fun _ _ e=>e)
  rintro ⟨⟨⟩,st⟩ s2 ⟨rfl,p1,p2,p3⟩
  dsimp only
  apply aP;apply Py at2 rfl
  apply aP;refine Hr at2 rfl ?_ (dN _) (by rw [Zd,p1.size_eq,Ar];omega)
  rw [p2];simp only [bne_self_eq_false,GF,if_false]
  exact bH (close st p1 p3)
def uY (h:Heap) (l:Addr) (f:Addr->Int × Int) (M:Int):Rk:=⟨tuples' true,fun p=>match p.1 with
 | .ref a=>(f a).1*M+(f a).2
 | _=>0,fun p=>∃ a,p.1 = .ref a/\a≠l/\0<=(f a).2/\(f a).2<M/\∃ o n t1 t2,h.get? a=some o/\o.cls = .type "tuple" /\ o.data = .seq #[.int (f a).1 t1,.int (f a).2 t2] n⟩
def lex_lt {a b c d M:Int} (h1:0<=b) (h2:b<M) (h3:0<=d) (h4:d<M) (ne:a≠c):decide (a*M+b<c*M+d)=decide (a<c):=by
 rw [decide_eq_decide]
 constructor
 ·intro h
  refine Int.lt_of_not_ge fun g=>?_
  have:c+1<=a:=by omega
  have:=xZ this (show 0<=M by omega)
  rw [tW] at this
  omega
 ·intro h
  have:a+1<=c:=by omega
  have:=xZ this (show 0<=M by omega)
  rw [tW] at this
  omega
def tupRl {h:Heap} {l:Addr} {f:Addr->Int × Int} {M:Int} (kp:∀ b o,b≠l->h.get? b=some o->s.heap.get? b=some o):@Rl (uY h l f M) prog w A E s:=@Rl.mk (uY h l f M) prog w A E s fun {x y st Q} hk hx hy q=>by
 obtain ⟨⟨a,e1,l1,m1,m2,ox,nx,t1,t2,gx,cx,dx⟩,⟨b,e2,l2,m3,m4,oy,ny,t3,t4,gy,cy,dy⟩⟩:=And.intro hx hy
 obtain ⟨x1,x2⟩:=x
 obtain ⟨y1,y2⟩:=y
 cases e1
 cases e2
 replace gx:=kp _ _ l1 gx
 replace gy:=kp _ _ l2 gy
 have q':Q (some (decide ((f a).1*M+(f a).2<(f b).1*M+(f b).2))) st:=q
 rw [lt'_eq]
 refine d8 (wC ?_)
 rw [show kindOf st=tuples' true from hk]
 refine d8 (PJ (wpAny_attempt (PySem.W.kat_lt gx dx gy dy (X5 (NZ ?_)))))
 by_cases c:(f a).1=(f b).1
 ·rw [show ((f a).1 == (f b).1)=true from beq_iff_eq.mpr c]
  refine X6 (X5 (NZ ?_))
  by_cases d:(f a).2=(f b).2
  ·rw [show ((f a).2 == (f b).2)=true from beq_iff_eq.mpr d]
   refine X6 (PySem.W.kat_nil ⟨rfl,fQ ?_⟩)
   rw [c,d,decide_eq_false (Int.lt_irrefl _)] at q'
   exact q'
  ·rw [show ((f a).2 == (f b).2)=false from beq_eq_false_iff_ne.mpr d]
   refine X8 (PySem.W.kat_one _ _ (aew ⟨rfl,fQ ?_⟩))
   have e:decide ((f a).1*M+(f a).2<(f b).1*M+(f b).2)=decide ((f a).2<(f b).2):=by rw [c,decide_eq_decide];omega
   rw [e] at q'
   exact q'
 ·rw [show ((f a).1 == (f b).1)=false from beq_eq_false_iff_ne.mpr c]
  refine X8 (oneLt_int ⟨rfl,fQ ?_⟩)
  rw [lex_lt m1 m2 m3 m4 c] at q'
  exact q'
def U7 {h h2:Heap} {l:Addr} {f:Addr->Int × Int} {M:Int} (kp:∀ b o,b≠l->h.get? b=some o->h2.get? b=some o):∀ {vs:List Value},(∀ v∈vs,(uY h l f M).Ok (v,v))->∃ fs:List Value,PySem.W.KatTups h2 vs fs/\fs.length=vs.length/\∀ v∈fs,∃ n t,v = .int n t
 | [],_=>⟨[],afk,rfl,fun _ h=>(nomatch h)⟩
 | v::vs,hv=>by
  obtain ⟨fs,k1,k2,k3⟩:=U7 kp fun v m=>hv v (eU _ m)
  obtain ⟨a,e1,l1,m1,m2,ox,nx,t1,t2,hx,cx,dx⟩:=hv v eF
  cases e1
  refine ⟨.int (f a).1 t1::fs,afj (kp _ _ l1 hx) cx dx rfl k1,by rw [cX,cX,k2],fun v m=>?_⟩
  rcases cC.mp m with rfl | m
  ·exact ⟨_,_,rfl⟩
  ·exact k3 v m
def aa1 {a:Addr} {vs:List Value} {f:Addr->Int × Int} {M:Int} {n:Nat} {P:Fin->aG->Prop} (at_:s.heap.get? a=some (dh "list" vs.toArray n)) (hok:∀ v∈vs,(uY s.heap a f M).Ok (v,v)) (few:vs.length<=sizeLine) (f64:vs.length<64)
  (told:∀ out:Array Value,out.toList.Perm vs->(out.toList.Pairwise fun x y=>(uY s.heap a f M).R (x,x)<=(uY s.heap a f M).R (y,y))->P (.done (.ret .none)) { s with heap:=Hu s.heap a vs out }) :
  wpAny (model prog w) A (lg.«list.sort» ⟨[.ref a],[]⟩) P E s:=by
 refine @acG prog w A E s (uY s.heap a f M) a vs n P at_ few f64 hok (fun h2 s2 Q kp q=>?_) (fun s2 kp=>tupRl kp) told
 obtain ⟨fs,k1,k2,k3⟩:=U7 kp hok
 refine PySem.W.kat_kind (fs:=fs) (T:=.type "int") k1 (by omega) (fun v hv=>?_) (by decide) ?_
 ·obtain ⟨n,t,rfl⟩:=k3 v hv
  intro A' Q' E' s' _ q
  exact bH q
 ·exact q
end
end Tm
namespace L2
open PySem PySem.Spec PyProof.Rows
section
variable {X:Cx}
def S7 {A:bQ} {E:Value->aG->Prop} {s:aG} {l:Addr} {vs:List Value} {OK:Array Value->Prop} {Q:Value->aG->Prop} (hl:s.heap.IsList l vs.toArray) (few:vs.length<=sizeLine)
  (hsort:∀ (s2:aG) (a:Addr) (P:Fin->aG->Prop) (A:bQ) (E:Value->aG->Prop),s2.heap.get? a=some (dh "list" vs.toArray 0)->(∀ b o,s.heap.get? b=some o->s2.heap.get? b=some o/\b≠a)->(∀ out,OK out->P (.done (.ret .none)) { s2 with heap:=Hu s2.heap a vs out })->wpAny (model X.prog X.w) A (lg.«list.sort» ⟨[.ref a],[]⟩) P E s2)
  (h:∀ out,OK out->Q (.ref (s.heap.objs.size+1)) { s with heap:=sortedAll s.heap vs out }) :
  wpAny (model X.prog X.w) A (call (.builtin "sorted") [.ref l]) Q E s:=by
 apply Zy Pu Pq Pr (Zu _);unfold lg.«sorted»
 apply aP (m:=Ol "sorted" 1 1 _);apply bH
 apply aP;refine collect_list hl ?_ few
 apply aP;refine Gd ?_ few
 have z:((s.heap.push (dh "list" #[] 0)).update s.heap.objs.size (jE (· ++ vs.toArray))).objs.size=s.heap.objs.size+1:=(Heap.size_update _ _ _).trans (Ht _ _)
 show wpAny _ _ _ _ _ { s with heap:=((s.heap.push (dh "list" #[] 0)).update s.heap.objs.size (jE (· ++ vs.toArray))).push (dh "list" vs.toArray 0) }
 have at_:(((s.heap.push (dh "list" #[] 0)).update s.heap.objs.size (jE (· ++ vs.toArray))).push (dh "list" vs.toArray 0)).get? (s.heap.objs.size+1)=some (dh "list" vs.toArray 0):=z ▸ fW _ rfl
 have keep:∀ b o,s.heap.get? b=some o->(((s.heap.push (dh "list" #[] 0)).update s.heap.objs.size (jE (· ++ vs.toArray))).push (dh "list" vs.toArray 0)).get? b=some o/\b≠s.heap.objs.size+1:=fun b o q=>by
  have hlt:b<s.heap.objs.size:=bY q
  refine ⟨?_,cZ (tL hlt)⟩
  rw [Yu _ _ _ (by rw [z];exact cZ (tL hlt)),Yt _ _ _ _ (cZ hlt),Yu _ _ _ (cZ hlt)]
  exact q
 rw [z]
 apply aP;refine nP (zV Pj ⟨_,at_,rfl⟩ Ph (hsort _ _ _ _ _ at_ keep fun out ok=>⟨_,rfl,bH ⟨_,rfl,h out ok⟩⟩) (Zm _))
def acH:List V->Hp->VK->Prop:=fun xs H Q=>∃ (a:Addr) (ts:List Addr) (f:Addr->Int × Int) (M:Int),xs=[.ref a]/\H a=some (.lst (ts.map V.ref))/\ts.length<64/\(∀ t∈ts,H t=some (.tup [.int (f t).1,.int (f t).2])/\0<=(f t).2/\(f t).2<M) /\
 ∀ (l:Addr) (ts':List Addr),H l=none->ts'.Perm ts->(ts'.Pairwise fun t u=>(f t).1*M+(f t).2<=(f u).1*M+(f u).2)->Q (.ref l) (upd H l (.lst (ts'.map V.ref)))
def Bm:∀ {ts:List Addr} {us:List Value},Vals (ts.map V.ref) us->us=ts.map Value.ref
 | [],_,h=>by cases h;rfl
 | t::ts,_,h=>by
  cases h with
  | cons r1 r2=>cases r1;rw [Bm r2];rfl
def Bo:∀ ts:List Addr,Vals (ts.map V.ref) (ts.map Value.ref)
 | []=>.nil
 | _::ts=>.cons rfl (Bo ts)
def Ld:∀ {ts:List Addr} {us:List Value},(∀ v∈us,v∈ts.map Value.ref)->∃ ts':List Addr,us=ts'.map Value.ref
 | _,[],_=>⟨[],rfl⟩
 | ts,u::us,h=>by
  obtain ⟨t,_,e⟩:=kj.mp (h u eF)
  obtain ⟨ts',e'⟩:=Ld fun v m=>h v (eU _ m)
  exact ⟨t::ts',by rw [<- e,e'];rfl⟩
def S8:∀ {ts:List Addr},(ts.map Value.ref).map (fun v=>match v with | Value.ref a=>a | _=>0)=ts
 | []=>rfl
 | t::ts=>by rw [dZ,dZ,S8]
def Le:gY X (.builtin "sorted") acH:=by
 intro pins s σ H xs us Q I r h
 obtain ⟨a,ts,f,M,rfl,ha,h64,ht,q⟩:=h
 obtain ⟨u,rfl,ru⟩:=vals1 r
 cases ru
 obtain ⟨its,rv,p,hz⟩:=I.list (a:=a) (xs:=ts.map V.ref) (.inl (.inl ha))
 have hI:=Bm rv
 subst hI
 have hzl:(ts.map Value.ref).length<=sizeLine:=by rw [aZ] at hz ⊢; exact hz
 have hfresh:H (s.heap.objs.size+1)=none:=I.hok.fresh (oU _)
 have each:∀ v∈ts.map Value.ref,∃ a,v = .ref a/\0<=(f a).2/\(f a).2<M/\∃ o n t1 t2,s.heap.get? a=some o/\o.cls = .type "tuple" /\ o.data = .seq #[.int (f a).1 t1,.int (f a).2 t2] n:=fun v hv=>by
  obtain ⟨t,mt,rfl⟩:=kj.mp hv
  obtain ⟨h1,h2,h3⟩:=ht t mt
  obtain ⟨itx,rx,px,_⟩:=I.tuple (a:=t) (.inl (.inl h1))
  obtain ⟨t1,t2,rfl⟩:∃ t1 t2,itx=[.int (f t).1 t1,.int (f t).2 t2]:=by
   cases rx with
   | cons r1 r2=>cases r2 with
    | cons r2 r3=>cases r3;obtain ⟨t1,rfl⟩:=r1;obtain ⟨t2,rfl⟩:=r2;exact ⟨t1,t2,rfl⟩
  obtain ⟨o,g1,g2,n,g3⟩:=px
  exact ⟨t,rfl,h2,h3,o,n,t1,t2,g1,g2,g3⟩
 refine S7 (vs:=ts.map Value.ref) (OK:=fun out=>out.toList.Perm (ts.map Value.ref)/\out.toList.Pairwise fun x y=>(Tm.uY s.heap 0 f M).R (x,x)<=(Tm.uY s.heap 0 f M).R (y,y)) p.isList hzl (fun s2 b P A E hb kp hP=>?_) fun out hout=>?_
 ·refine Tm.aa1 (f:=f) (M:=M) hb (fun v hv=>?_) hzl (by rw [aZ];exact h64) fun out p1 p2=>hP out ⟨p1,p2⟩
  obtain ⟨a,e,g1,g2,o,n,t1,t2,g3,g4,g5⟩:=each v hv
  exact ⟨a,e,(kp _ _ g3).2,g1,g2,o,n,t1,t2,(kp _ _ g3).1,g4,g5⟩
 ·obtain ⟨p1,p2⟩:=hout
  obtain ⟨ts',e⟩:=Ld fun v m=>p1.mem_iff.mp m
  rw [e] at p1 p2
  have pp:ts'.Perm ts:=by
   have:=p1.map fun v=>match v with | Value.ref a=>a | _=>0
   rwa [S8,S8] at this
  have p3:ts'.Pairwise fun t u=>(f t).1*M+(f t).2<=(f u).1*M+(f u).2:=(zN (f:=Value.ref)).mp p2
  obtain ⟨e1,he⟩:=Zv s.heap (ts.map Value.ref) out
  refine ⟨.ref (s.heap.objs.size+1),_,I.laid (t':=s.toks) (fun _ _=>Zr) (oU _) (show dw X.prog X.w _ _ (s.heap.objs.size+1) (.lst (ts'.map V.ref)) from ⟨?_,ts'.map Value.ref,e1,Bo ts',?_⟩),rfl,q _ ts' hfresh pp p3⟩
  ·rw [aZ,pp.length_eq];rw [aZ] at hz;exact hz
  ·rw [<- e];simpa using he
def fOf (H:Hp) (t:Addr):Int × Int:=match H t with
 | some (.tup [.int i,.int m])=>(i,m)
 | _=>(0,0)
def acI:List V->Hp->VK->Prop:=fun xs H Q=>∃ (a:Addr) (ps:List (Addr × (Int × Int))) (M:Int),xs=[.ref a]/\H a=some (.lst (ps.map fun p=>V.ref p.1))/\ps.length<64/\(∀ p∈ps,H p.1=some (.tup [.int p.2.1,.int p.2.2])/\0<=p.2.2/\p.2.2<M) /\
 ∀ (l:Addr) (ps':List (Addr × (Int × Int))),H l=none->ps'.Perm ps->(ps'.Pairwise fun p q=>p.2.1*M+p.2.2<=q.2.1*M+q.2.2)->Q (.ref l) (upd H l (.lst (ps'.map fun p=>V.ref p.1)))
def Lf:gY X (.builtin "sorted") acI:=by
 intro pins s σ H xs us Q I r h
 refine Le pins s σ H xs us Q I r ?_
 obtain ⟨a,ps,M,rfl,ha,h64,ht,q⟩:=h
 have hf:∀ p∈ps,fOf H p.1=p.2:=fun p m=>by unfold fOf;rw [(ht p m).1]
 have hps:(ps.map (·.1)).map (fun t=>(t,fOf H t))=ps:=by
  rw [iM]
  conv=>rhs;rw [<- List.map_id ps]
  exact vK fun p m=>jj rfl (hf p m)
 refine ⟨a,ps.map (·.1),fOf H,M,rfl,by rw [ha,iM];rfl,by rw [aZ];exact h64,fun t m=>?_,fun l ts hl hp hs=>?_⟩
 ·obtain ⟨p,mp,rfl⟩:=kj.mp m
  show H p.1=some (.tup [.int (fOf H p.1).1,.int (fOf H p.1).2])/\0<=(fOf H p.1).2/\(fOf H p.1).2<M
  rw [hf p mp]
  exact ht p mp
 ·have:=q l (ts.map fun t=>(t,fOf H t)) hl (by have:=hp.map fun t=>(t,fOf H t);rwa [hps] at this) (zN.mpr hs)
  rw [iM] at this
  exact this
end
end L2
set_option autoImplicit false
namespace RG
abbrev Ls:=List (List Int)
def Sd (l:List Int):Prop:=l.Pairwise (· <= ·)
def srt (ns:List Int):List Int:=ns.mergeSort fun a b=>decide (a<=b)
def jm:∀ {xs ys:List Int},xs.Perm ys->xs.Pairwise (· <= ·)->ys.Pairwise (· <= ·)->xs=ys
 | [],ys,p,_,_=>by rw [Nu.mp p]
 | x::xs,[],p,_,_=>absurd p (by simp)
 | x::xs,y::ys,p,h1,h2=>by
  have a1:=gA.mp h1
  have a2:=gA.mp h2
  have e:x=y:=by
   have m1:x∈y::ys:=p.mem_iff.mp eF
   have m2:y∈x::xs:=p.mem_iff.mpr eF
   rcases cC.mp m1 with z | z
   ·exact z
   ·rcases cC.mp m2 with z' | z'
    ·exact z'.symm
    ·exact YZ (a1.1 y z') (a2.1 x z)
  subst e
  rw [jm (Qc p) a1.2 a2.2]
def fY (ns:List Int):(srt ns).Perm ns:=zM _ _
def pF (ns:List Int):Sd (srt ns):=by
 have:=Fg (le:=fun a b:Int=>decide (a<=b)) (fun a b c h1 h2=>by simp only [decide_eq_true_eq] at *; omega) (fun a b=>by simp only [GQ,decide_eq_true_eq];omega) ns
 exact this.imp fun h=>of_decide_eq_true h
def uo {ns ms:List Int} (p:ms.Perm ns) (h:ms.Pairwise (· <= ·)):ms=srt ns:=jm (p.trans (fY ns).symm) h (pF ns)
def gq (ns:List Int):(srt ns).length=ns.length:=(fY ns).length_eq
def rO {z:Int} {ns:List Int}:z∈srt ns↔z∈ns:=(fY ns).mem_iff
def pick (o:Bool):List Int->List Int
 | a::b::r=>(if o then b else a)::pick o r
 | _=>[]
def lft:List Int->List Int
 | _::_::r=>lft r
 | l=>l
def rP:∀ l:List Int,(lft l).length=l.length % 2
 | []=>rfl
 | [_]=>rfl
 | _::_::r=>by
  have:=rP r
  show (lft r).length=(r.length+1+1) % 2
  omega
def jJ (o:Bool):∀ l:List Int,(pick o l).length=l.length / 2
 | []=>by simp [pick]
 | [_]=>by simp [pick]
 | _::_::r=>by
  have:=jJ o r
  show (pick o r).length+1=(r.length+1+1) / 2
  omega
def Lg:∀ l:List Int,lft l=l.drop (l.length-l.length % 2)
 | []=>rfl
 | [_]=>rfl
 | a::b::r=>by
  have:=Lg r
  show lft r=(a::b::r).drop (r.length+1+1-(r.length+1+1) % 2)
  rw [show r.length+1+1-(r.length+1+1) % 2=(r.length-r.length % 2)+1+1 by omega,Xk,Xk]
  exact this
def zy {z:Int}:∀ {l:List Int},z∈lft l->z∈l
 | [],h=>h
 | [_],h=>h
 | _::_::r,h=>eU _ (eU _ (zy (l:=r) h))
def uZ {o:Bool} {z:Int}:∀ {l:List Int},z∈pick o l->z∈l
 | [],h=>nomatch h
 | [_],h=>nomatch h
 | a::b::r,h=>by
  rcases cC.mp h with e | e
  ·cases o
   ·rw [e];exact eF
   ·rw [e];exact eU _ eF
  ·exact eU _ (eU _ (uZ (l:=r) e))
def aa2:∀ {l:List Int},Sd l->Sd (lft l)
 | [],h=>h
 | [_],h=>h
 | _::_::r,h=>aa2 (l:=r) (gA.mp (gA.mp h).2).2
def cnt (x:Int) (l:List Int):Nat:=(l.filter fun z=>decide (z<=x)).length
def cnt_nil (x:Int):cnt x []=0:=rfl
def cnt_cons (x a:Int) (l:List Int):cnt x (a::l)=(if a<=x then 1 else 0)+cnt x l:=by
 unfold cnt
 rw [pZ]
 by_cases h:a<=x
 ·rw [if_pos (decide_eq_true h),if_pos h,cX];omega
 ·rw [if_neg (by simpa using h),if_neg h];omega
def cnt_append (x:Int) (l m:List Int):cnt x (l++m)=cnt x l+cnt x m:=by
 unfold cnt;rw [sE,dR]
def aa3 {x:Int} {l m:List Int} (p:l.Perm m):cnt x l=cnt x m:=(p.filter _).length_eq
def U8 (x:Int) (l:List Int):cnt x (srt l)=cnt x l:=aa3 (fY l)
def oh {x:Int} {l:List Int} (h:∀ z∈l,x<z):cnt x l=0:=by
 unfold cnt
 rw [zL.mpr]
 ·rfl
 ·intro z hz e
  have:=h z hz
  have:=of_decide_eq_true e
  omega
def Ef {x:Int}:∀ {l:List Int},Sd l->cnt x l<=cnt x (lft l)+2*cnt x (pick false l)/\cnt x (lft l)+2*cnt x (pick false l)<=cnt x l+1
 | [],_=>⟨aX _,dN 1⟩
 | [a],_=>⟨Nat.le_add_right _ _,by show cnt x [a]+2*0<=_;omega⟩
 | a::b::r,h=>by
  have h1:=gA.mp h
  have h2:=gA.mp h1.2
  have ih:=Ef (x:=x) h2.2
  have ab:=h1.1 b eF
  show cnt x (a::b::r)<=cnt x (lft r)+2*cnt x (a::pick false r)/\cnt x (lft r)+2*cnt x (a::pick false r)<=cnt x (a::b::r)+1
  rw [cnt_cons,cnt_cons,cnt_cons]
  by_cases hb:b<=x
  ·rw [if_pos hb,if_pos (show a<=x by omega)];omega
  ·have z0:cnt x (lft r)=0:=oh fun z hz=>by have:=h2.1 z (zy hz);omega
   have z1:cnt x (pick false r)=0:=oh fun z hz=>by have:=h2.1 z (uZ hz);omega
   have z2:cnt x r=0:=oh fun z hz=>by have:=h2.1 z hz;omega
   rw [if_neg hb,z0,z1,z2]
   split <;> omega
def Bq {x:Int}:∀ {l:List Int},Sd l->cnt x (lft l)+2*cnt x (pick true l)<=cnt x l/\cnt x l<=cnt x (lft l)+2*cnt x (pick true l)+1
 | [],_=>⟨aX _,dN 1⟩
 | [a],_=>⟨by show cnt x [a]+2*0<=_;omega,by show _<=cnt x [a]+2*0+1;omega⟩
 | a::b::r,h=>by
  have h1:=gA.mp h
  have h2:=gA.mp h1.2
  have ih:=Bq (x:=x) h2.2
  have ab:=h1.1 b eF
  show cnt x (lft r)+2*cnt x (b::pick true r)<=cnt x (a::b::r)/\cnt x (a::b::r)<=cnt x (lft r)+2*cnt x (b::pick true r)+1
  rw [cnt_cons,cnt_cons,cnt_cons]
  by_cases hb:b<=x
  ·rw [if_pos hb,if_pos (show a<=x by omega)];omega
  ·have z0:cnt x (lft r)=0:=oh fun z hz=>by have:=h2.1 z (zy hz);omega
   have z1:cnt x (pick true r)=0:=oh fun z hz=>by have:=h2.1 z (uZ hz);omega
   have z2:cnt x r=0:=oh fun z hz=>by have:=h2.1 z hz;omega
   rw [if_neg hb,z0,z1,z2]
   split <;> omega
def val:Ls->Nat
 | []=>0
 | l::r=>l.length+2*val r
def nr (x:Int):Ls->Nat
 | []=>0
 | l::r=>cnt x l+2*nr x r
def pot (h:Nat):Ls->Nat
 | []=>0
 | l::r=>h*2 ^ h*l.length+pot (h+1) r
def S9 (ls:Ls):val ls=(ls.headD []).length+2*val ls.tail:=by cases ls <;> rfl
def adQ (x:Int) (ls:Ls):nr x ls=cnt x (ls.headD [])+2*nr x ls.tail:=by cases ls <;> rfl
def aa4 (h:Nat) (ls:Ls):pot h ls=h*2 ^ h*(ls.headD []).length+pot (h+1) ls.tail:=by
 cases ls
 ·show 0=h*2 ^ h*0+0;rw [Nat.mul_zero]
 ·rfl
def Iu {P:List Int->Prop} {ls:Ls} (h:∀ l∈ls,P l) (h0:P []):P (ls.headD []):=by
 cases ls
 ·exact h0
 ·exact h _ eF
def Iv {P:List Int->Prop} {ls:Ls} (h:∀ l∈ls,P l):∀ l∈ls.tail,P l:=fun l hl=>h l (Xi hl)
def fj (t:Int) (ls:Ls) (w:Nat):Ls :=
 if w=0 then ls else (if w % 2=1 then srt (ls.headD []++[t]) else ls.headD [])::fj t ls.tail (w / 2)
termination_by w
decreasing_by omega
def fC (t:Int) (ls:Ls):fj t ls 0=ls:=by rw [fj,if_pos rfl]
def fM {w:Nat} (t:Int) (ls:Ls) (h:w≠0):fj t ls w=(if w % 2=1 then srt (ls.headD []++[t]) else ls.headD [])::fj t ls.tail (w / 2):=by rw [fj,if_neg h]
def Wh {w:Nat} (t:Int) (h:w≠0):fj t [[]] w=fj t [] w:=by rw [fM t _ h,fM t [] h];rfl
def Eh (t:Int):∀ (w:Nat) (ls:Ls),val (fj t ls w)=val ls+w:=by
 intro w
 induction w using wg with
 | _ w ih =>
  intro ls
  by_cases h:w=0
  ·rw [h,fC];rfl
  ·rw [fM t ls h]
   show kE _+2*val _=_
   rw [ih (w / 2) (by omega),S9 ls]
   split
   ·rw [gq,dR];show _+1+_=_;omega
   ·omega
def aa5 (t x:Int):∀ (w:Nat) (ls:Ls),nr x (fj t ls w)=nr x ls+if t<=x then w else 0:=by
 intro w
 induction w using wg with
 | _ w ih =>
  intro ls
  by_cases h:w=0
  ·rw [h,fC];split <;> rfl
  ·rw [fM t ls h]
   show cnt x _+2*nr x _=_
   rw [ih (w / 2) (by omega),adQ x ls]
   split
   ·rw [U8,cnt_append,cnt_cons,cnt_nil];split <;> omega
   ·split <;> omega
def Wj (t:Int):∀ (w:Nat) (h:Nat) (ls:Ls),pot h ls<=pot h (fj t ls w):=by
 intro w
 induction w using wg with
 | _ w ih =>
  intro h ls
  by_cases hw:w=0
  ·rw [hw,fC];exact aX _
  ·rw [fM t ls hw,aa4 h ls]
   show _<=h*2 ^ h*kE _+pot (h+1) _
   have:=ih (w / 2) (by omega) (h+1) ls.tail
   refine Ox (Yw _ ?_) this
   split
   ·rw [gq,dR];omega
   ·exact aX _
def Ei {P:List Int->Prop} (t:Int) (h0:P []) (h1:∀ l,P l->P (srt (l++[t]))):∀ (w:Nat) (ls:Ls),(∀ l∈ls,P l)->∀ l∈fj t ls w,P l:=by
 intro w
 induction w using wg with
 | _ w ih =>
  intro ls hl
  by_cases hw:w=0
  ·rw [hw,fC];exact hl
  ·rw [fM t ls hw]
   intro l m
   rcases cC.mp m with e | e
   ·rw [e]
    split
    ·exact h1 _ (Iu hl h0)
    ·exact Iu hl h0
   ·exact ih (w / 2) (by omega) ls.tail (Iv hl) l e
def Full (ls:Ls):Prop:=∀ l,ls.getLast? = some l->l≠[]
def rQ {l:List Int} {ls:Ls} (h:Full ls) (h0:ls=[]->l≠[]):Full (l::ls):=by
 intro m hm
 cases ls with
 | nil=>simp at hm;rw [<- hm];exact h0 rfl
 | cons a r=>exact h m (by rw [Xe] at hm;exact hm)
def ou {ls:Ls} (h:Full ls):Full ls.tail:=by
 intro m hm
 cases ls with
 | nil=>exact nomatch hm
 | cons a r =>
  cases r with
  | nil=>exact nomatch hm
  | cons b r=>exact h m (by rw [Xe];exact hm)
def Lh {t:Int} {w:Nat} {ls:Ls} (h:w≠0):fj t ls w≠[]:=by rw [fM t ls h];exact p8 _ _
def Wk {t:Int} {w:Nat} {ls:Ls} (h:fj t ls w=[]):w=0/\ls=[]:=by
 by_cases hw:w=0
 ·rw [hw,fC] at h;exact ⟨hw,h⟩
 ·exact absurd h (Lh hw)
def Tc (t:Int):∀ (w:Nat) (ls:Ls),Full ls->Full (fj t ls w):=by
 intro w
 induction w using wg with
 | _ w ih =>
  intro ls hl
  by_cases hw:w=0
  ·rw [hw,fC];exact hl
  ·rw [fM t ls hw]
   refine rQ (ih (w / 2) (by omega) _ (ou hl)) fun e=>?_
   have hw2:=(Wk e).1
   rw [if_pos (show w % 2=1 by omega)]
   intro z
   have:=congrArg kE z
   rw [gq,dR] at this
   exact absurd this (by show ¬ _+1=0;omega)
inductive Stl (room:Int):Nat->Int->Int->Int->Ls->Ls->Int->Int->Int->Prop
 | nil (h:Nat) (tn ov un:Int):Stl room h tn ov un [] [] tn ov un
 | keep {h:Nat} {tn ov un:Int} {l:List Int} {ls out:Ls} {tn' ov' un':Int}:(l.length:Int)<=room->Stl room (h+1) tn ov un ls out tn' ov' un'->Stl room h tn ov un (l::ls) (l::out) tn' ov' un'
 | turn {h:Nat} {tn ov un:Int} {l:List Int} {ls out:Ls} {tn' ov' un':Int}:room<(l.length:Int) ->
   Stl room (h+1) (tn+1) (if tn % 2=0 then ov+2 ^ h else ov) (if tn % 2=0 then un else un+2 ^ h) (srt (ls.headD []++pick (decide (tn % 2=1)) l)::ls.tail) out tn' ov' un'->Stl room h tn ov un (l::ls) (lft l::out) tn' ov' un'
def Stl.uniq {room:Int} {h:Nat} {tn ov un:Int} {ls out:Ls} {tn' ov' un':Int} (a:Stl room h tn ov un ls out tn' ov' un'):∀ {out2:Ls} {tn2 ov2 un2:Int},Stl room h tn ov un ls out2 tn2 ov2 un2->out2=out/\tn2=tn'/\ov2=ov'/\un2=un':=by
 induction a with
 | nil=>intro _ _ _ _ b;cases b;exact ⟨rfl,rfl,rfl,rfl⟩
 | keep hl _ ih =>
  intro _ _ _ _ b
  cases b with
  | keep _ b=>obtain ⟨e1,e2,e3,e4⟩:=ih b;exact ⟨by rw [e1],e2,e3,e4⟩
  | turn hg _=>omega
 | turn hl _ ih =>
  intro _ _ _ _ b
  cases b with
  | keep hg _=>omega
  | turn _ b=>obtain ⟨e1,e2,e3,e4⟩:=ih b;exact ⟨by rw [e1],e2,e3,e4⟩
def Stl.val {room:Int} {h:Nat} {tn ov un:Int} {ls out:Ls} {tn' ov' un':Int} (a:Stl room h tn ov un ls out tn' ov' un'):val out=val ls:=by
 induction a with
 | nil=>rfl
 | keep _ _ ih=>show _+2*_=_+2*_;rw [ih]
 | @turn _ _ _ _ l ls _ _ _ _ _ _ ih =>
  show kE _+2*_=_+2*_
  rw [ih,rP]
  show _+2*(kE _+2*RG.val ls.tail)=_
  rw [gq,dR,jJ,S9 ls]
  omega
def Stl.all {P:List Int->Prop} (h0:P []) (hL:∀ l,P l->P (lft l)) (hP:∀ l m o,P l->P m->P (srt (l++pick o m))) {room:Int} {h:Nat} {tn ov un:Int} {ls out:Ls} {tn' ov' un':Int} (a:Stl room h tn ov un ls out tn' ov' un'):(∀ l∈ls,P l)->∀ l∈out,P l:=by
 induction a with
 | nil=>exact id
 | keep _ _ ih =>
  intro hl l m
  rcases cC.mp m with e | e
  ·rw [e];exact hl _ eF
  ·exact ih (fun l hm=>hl l (eU _ hm)) l e
 | @turn _ _ _ _ l0 ls _ _ _ _ _ _ ih =>
  intro hl l m
  have h1:P l0:=hl _ eF
  have h2:∀ l∈ls,P l:=fun l hm=>hl l (eU _ hm)
  rcases cC.mp m with e | e
  ·rw [e];exact hL _ h1
  ·refine ih (fun l hm=>?_) l e
   rcases cC.mp hm with z | z
   ·rw [z];exact hP _ _ _ (Iu h2 h0) h1
   ·exact Iv h2 l z
def Stl.small {room:Int} (r1:1<=room) {h:Nat} {tn ov un:Int} {ls out:Ls} {tn' ov' un':Int} (a:Stl room h tn ov un ls out tn' ov' un'):∀ l∈out,(l.length:Int)<=room:=by
 induction a with
 | nil=>exact fun _ h=>nomatch h
 | keep hl _ ih =>
  intro l m
  rcases cC.mp m with e | e
  ·rw [e];exact hl
  ·exact ih l e
 | turn _ _ ih =>
  intro l m
  rcases cC.mp m with e | e
  ·rw [e,rP];omega
  ·exact ih l e
def Stl.empty {room:Int} {h:Nat} {tn ov un:Int} {ls out:Ls} {tn' ov' un':Int} (a:Stl room h tn ov un ls out tn' ov' un') (e:out=[]):ls=[]:=by
 cases a with
 | nil=>rfl
 | keep _ _=>cases e
 | turn _ _=>cases e
def Stl.len {room:Int} {h:Nat} {tn ov un:Int} {ls out:Ls} {tn' ov' un':Int} (a:Stl room h tn ov un ls out tn' ov' un'):ls.length<=out.length:=by
 induction a with
 | nil=>exact aX _
 | keep _ _ ih=>show _+1<=_+1;omega
 | turn _ _ ih =>
  show _+1<=_+1
  have:kE _+1<=_:=ih
  rw [Xr] at this
  omega
def Stl.full {room:Int} (r1:1<=room) {h:Nat} {tn ov un:Int} {ls out:Ls} {tn' ov' un':Int} (a:Stl room h tn ov un ls out tn' ov' un'):Full ls->Full out:=by
 induction a with
 | nil=>exact id
 | @keep _ _ _ _ l ls out _ _ _ _ a ih =>
  intro f
  refine rQ (ih (ou f)) fun e=>?_
  have:=a.empty e
  subst this
  exact f l rfl
 | @turn _ _ _ _ l ls out _ _ _ hl a ih =>
  intro f
  refine rQ (ih (rQ (ou (ou f)) fun _ z=>?_)) fun e=>?_
  ·have:=congrArg kE z
   rw [gq,dR,jJ] at this
   have:(_:Nat)+l.length / 2=0:=this
   omega
  ·exact absurd (a.empty e) (p8 _ _)
def Stl.mono {room:Int} {h:Nat} {tn ov un:Int} {ls out:Ls} {tn' ov' un':Int} (a:Stl room h tn ov un ls out tn' ov' un'):tn<=tn'/\ov<=ov'/\un<=un':=by
 induction a with
 | nil=>exact ⟨cT _,cT _,cT _⟩
 | keep _ _ ih=>exact ih
 | @turn h tn ov un _ _ _ _ _ _ _ _ ih =>
  have p:(0:Int)<2 ^ h:=O6 (by decide)
  obtain ⟨i1,i2,i3⟩:=ih
  refine ⟨by omega,?_,?_⟩
  ·split at i2 <;> omega
  ·split at i3 <;> omega
def Stl.pot {room:Int} (ev:room % 2=0) {h:Nat} {tn ov un:Int} {ls out:Ls} {tn' ov' un':Int} (a:Stl room h tn ov un ls out tn' ov' un'):room*(ov'+un'-ov-un)+pot h ls<=pot h out:=by
 induction a with
 | nil h tn ov un =>
  rw [show ov+un-ov-un=0 by omega,Int.mul_zero]
  omega
 | @keep h _ _ _ l ls out _ _ _ _ _ ih =>
  show _+((h*2 ^ h*l.length+RG.pot (h+1) ls:Nat):Int)<=((h*2 ^ h*l.length+RG.pot (h+1) out:Nat):Int)
  omega
 | @turn h tn ov un l ls out tn' ov' un' hl _ ih =>
  show _+((h*2 ^ h*l.length+RG.pot (h+1) ls:Nat):Int)<=((h*2 ^ h*(lft l).length+RG.pot (h+1) out:Nat):Int)
  have e:RG.pot (h+1) (srt (ls.headD []++pick (decide (tn % 2=1)) l)::ls.tail)=RG.pot (h+1) ls+(h+1)*2 ^ (h+1)*(l.length / 2):=by
   show (h+1)*2 ^ (h+1)*kE _+RG.pot (h+1+1) ls.tail=_
   rw [gq,dR,jJ,aa4 (h+1) ls,wu]
   omega
  rw [e] at ih
  have d:(if tn % 2=0 then ov+2 ^ h else ov)+(if tn % 2=0 then un else un+2 ^ h)=ov+un+2 ^ h:=by split <;> omega
  have ih2:room*(ov'+un'-(ov+un+2 ^ h))+((RG.pot (h+1) ls+(h+1)*2 ^ (h+1)*(l.length / 2):Nat):Int)<=RG.pot (h+1) out:=by
   rw [<- d]
   refine qO (Int.le_of_eq ?_) ih
   congr 2
   omega
  rw [rP]
  have m1:room*(ov'+un'-(ov+un+2 ^ h))=room*(ov'+un'-ov-un)-room*2 ^ h:=by
   rw [<- Int.mul_sub];congr 1;omega
  rw [m1] at ih2
  have key:h*2 ^ h*l.length+(2*(l.length / 2))*2 ^ h=h*2 ^ h*(l.length % 2)+(h+1)*2 ^ (h+1)*(l.length / 2):=by
   have e1:l.length=2*(l.length / 2)+l.length % 2:=by omega
   generalize l.length / 2=m at e1 ⊢
   generalize l.length % 2=c at e1 ⊢
   rw [e1,lq]
   grind
  have big:room*2 ^ h<=((2*(l.length / 2)*2 ^ h:Nat):Int):=by
   have r2:room<=((2*(l.length / 2):Nat):Int):=by omega
   have p:(0:Int)<=2 ^ h:=Y4 (by decide)
   have:=xZ r2 p
   rw [GR]
   rw [GZ]
   exact this
  have key':((h*2 ^ h*l.length:Nat):Int)+((2*(l.length / 2)*2 ^ h:Nat):Int)=((h*2 ^ h*(l.length % 2):Nat):Int)+(((h+1)*2 ^ (h+1)*(l.length / 2):Nat):Int):=by
   rw [<- qN,<- qN,key]
  rw [qN,qN]
  rw [qN] at ih2
  omega
def Stl.nr (x:Int) {room:Int} {h:Nat} {tn ov un:Int} {ls out:Ls} {tn' ov' un':Int} (a:Stl room h tn ov un ls out tn' ov' un'):(∀ l∈ls,Sd l) ->
  (2 ^ h*(nr x ls:Int))-(un'-un)<=2 ^ h*(nr x out:Int)/\2 ^ h*(nr x out:Int)<=2 ^ h*(nr x ls:Int)+(ov'-ov):=by
 induction a with
 | nil=>intro _;constructor <;> omega
 | @keep h _ _ _ l ls out _ _ _ _ _ ih =>
  intro hs
  obtain ⟨i1,i2⟩:=ih fun l hl=>hs l (eU _ hl)
  have e:∀ k:Ls,(2:Int) ^ h*(RG.nr x (l::k):Int)=2 ^ h*(cnt x l:Int)+2 ^ (h+1)*(RG.nr x k:Int):=fun k=>by
   show (2:Int) ^ h*((cnt x l+2*RG.nr x k:Nat):Int)=_
   rw [qN,GR,mW,lB,oW];rfl
  rw [e,e]
  constructor <;> omega
 | @turn h tn ov un l ls out tn' ov' un' hl _ ih =>
  intro hs
  have sl:=hs _ eF
  have hs':∀ l∈ls,Sd l:=fun l hl=>hs l (eU _ hl)
  obtain ⟨i1,i2⟩:=ih fun l hl=>by
   rcases cC.mp hl with z | z
   ·rw [z];exact pF _
   ·exact Iv hs' l z
  have e:∀ (m:List Int) (k:Ls),(2:Int) ^ h*(RG.nr x (m::k):Int)=2 ^ h*(cnt x m:Int)+2 ^ (h+1)*(RG.nr x k:Int):=fun m k=>by
   show (2:Int) ^ h*((cnt x m+2*RG.nr x k:Nat):Int)=_
   rw [qN,GR,mW,lB,oW];rfl
  have e2:(2:Int) ^ (h+1)*(RG.nr x (srt (ls.headD []++pick (decide (tn % 2=1)) l)::ls.tail):Int)=2 ^ (h+1)*(RG.nr x ls:Int)+2 ^ h*(2*(cnt x (pick (decide (tn % 2=1)) l):Int)):=by
   have:RG.nr x (srt (ls.headD []++pick (decide (tn % 2=1)) l)::ls.tail)=RG.nr x ls+cnt x (pick (decide (tn % 2=1)) l):=by
    show cnt x _+2*_=_
    rw [U8,cnt_append,adQ x ls];omega
   rw [this,qN,mW,lB,oW _ 2 ((cnt x _:Nat):Int)]
  rw [e,e]
  rw [e2] at i1 i2
  have p:(0:Int)<=2 ^ h:=Y4 (by decide)
  generalize hP:(2:Int) ^ h=P at *
  generalize (2:Int) ^ (h+1)*(RG.nr x ls:Int)=A at *
  generalize (2:Int) ^ (h+1)*(RG.nr x out:Int)=B at *
  rcases (show tn % 2=0\/tn % 2=1 by omega) with z | z
  ·rw [decide_eq_false (by omega)] at i1 i2
   rw [if_pos z] at i1 i2
   obtain ⟨c1,c2⟩:=Ef (x:=x) sl
   have m1:=yc (show (cnt x l:Int)<=(cnt x (lft l):Int)+2*(cnt x (pick false l):Int) by omega) p
   have m2:=yc (show (cnt x (lft l):Int)+2*(cnt x (pick false l):Int)<=(cnt x l:Int)+1 by omega) p
   rw [mW] at m1 m2
   rw [mW,Hg] at m2
   constructor <;> omega
  ·rw [decide_eq_true z] at i1 i2
   rw [if_neg (by omega)] at i1 i2
   obtain ⟨c1,c2⟩:=Bq (x:=x) sl
   have m1:=yc (show (cnt x (lft l):Int)+2*(cnt x (pick true l):Int)<=(cnt x l:Int) by omega) p
   have m2:=yc (show (cnt x l:Int)<=((cnt x (lft l):Int)+2*(cnt x (pick true l):Int))+1 by omega) p
   rw [mW] at m1
   rw [mW,Hg,mW] at m2
   constructor <;> omega
def aa6:∀ (ls:Ls) (h:Nat),pot h ls<=(h+ls.length-1)*(2 ^ h*val ls)
 | [],h=>by show 0<=_;exact dN _
 | l::r,h=>by
  have ih:=aa6 r (h+1)
  show h*2 ^ h*l.length+pot (h+1) r<=(h+(r.length+1)-1)*(2 ^ h*(l.length+2*val r))
  rw [show h+(r.length+1)-1=h+r.length by omega]
  rw [show h+1+r.length-1=h+r.length by omega] at ih
  have e:2 ^ h*(l.length+2*val r)=2 ^ h*l.length+2 ^ (h+1)*val r:=by rw [lq];grind
  rw [e,wu]
  refine Ox ?_ ih
  rw [oR]
  exact xX _ (by omega)
def U9:∀ {ls:Ls},Full ls->ls≠[]->2 ^ (ls.length-1)<=val ls
 | [],_,h=>absurd rfl h
 | [l],f,_=>by
  have:=f l rfl
  show 1<=l.length+2*0
  cases l with
  | nil=>exact absurd rfl this
  | cons a r=>show 1<=r.length+1+0;omega
 | l::m::r,f,_=>by
  have ih:=U9 (ls:=m::r) (ou f) (p8 _ _)
  show 2 ^ ((m::r).length+1-1)<=l.length+2*val (m::r)
  rw [show (m::r).length+1-1=((m::r).length-1)+1 by rw [cX];omega,lq]
  omega
def Iw {α:Type} {ms:List α} {p:Nat} {l:α} (h:ms[p]? = some l):ms.take (p+1)=ms.take p++[l]:=by rw [lY,h];rfl
def fD {α:Type} {ms:List α} {p:Nat} {l:α} (h:ms[p]? = some l):ms.drop p=l::ms.drop (p+1):=by
 obtain ⟨hp,e⟩:=gZ.mp h
 rw [Xd hp,e]
def Li {α:Type} {ms:List α} {p:Nat} {l m:α} (h:ms[p]? = some l):(ms.set p m).take (p+1)=ms.take p++[m]:=by
 obtain ⟨hp,e⟩:=gZ.mp h
 rw [Iw (l:=m) (by rw [Fi hp]),Xl (aX _)]
def set_drop {α:Type} {ms:List α} {p:Nat} {m:α}:(ms.set p m).drop (p+1)=ms.drop (p+1):=by rw [Ng (Gv p)]
def u9 {α:Type} {ms:List α} {p:Nat} {l:α} (h:ms[p]? = some l):ms.set p l=ms:=by
 obtain ⟨hp,e⟩:=gZ.mp h
 rw [<- e,List.set_getElem_self]
def Br {t:Int} {ms:Ls} {p k:Nat} {l:List Int} (h:ms[p]? = some l) (hk:k≠0) :
  (ms.set p (if k % 2=1 then srt (l++[t]) else l)).take (p+1)++fj t ((ms.set p (if k % 2=1 then srt (l++[t]) else l)).drop (p+1)) (k / 2)=ms.take p++fj t (ms.drop p) k:=by
 rw [Li h,set_drop,fD h,fM t _ hk,iU];rfl
def Td {t:Int} {ms:Ls} {p k:Nat} (h:p=ms.length) (hk:k≠0):(ms++[[]]).take p++fj t ((ms++[[]]).drop p) k=ms.take p++fj t (ms.drop p) k:=by
 rw [h,List.take_left,Xy,lZ,Np,Wh t hk]
def uq:∀ (xs ys:Ls),val (xs++ys)=val xs+2 ^ xs.length*val ys
 | [],ys=>by show val ys=0+1*val ys;omega
 | x::xs,ys=>by
  show x.length+2*val (xs++ys)=x.length+2*val xs+2 ^ (xs.length+1)*val ys
  rw [uq xs ys,lq,wu,Gy _ 2,oR]
  omega
structure Run (room tn ov un:Int) (ls:Ls) (q:Nat) (tn2 ov2 un2:Int) (ms:Ls):Prop where
 cont:∀ out tn' ov' un',Stl room q tn2 ov2 un2 (ms.drop q) out tn' ov' un'->Stl room 0 tn ov un ls (ms.take q++out) tn' ov' un'
 vl:val (ms.take q)+2 ^ q*val (ms.drop q)=val ls
 le:q<=ms.length
 b1:(∀ l∈ls,l.length<=31)->∀ l∈ms,l.length<=62
 b2:(∀ l∈ls,l.length<=31)->∀ l∈ms.drop (q+1),l.length<=31
 b0:(∀ l∈ls,(l.length:Int)<=room)->ms=ls
def Run.start {room tn ov un:Int} {ls:Ls}:Run room tn ov un ls 0 tn ov un ls :=
 ⟨fun _ _ _ _ h=>h,by show 0+1*_=_;rw [Xz];omega,dN _,fun h l hl=>by have:=h l hl;omega,fun h l hl=>h l (Nf hl),fun _=>rfl⟩
def Run.done {room tn ov un tn2 ov2 un2:Int} {ls ms:Ls} {q:Nat} (r:Run room tn ov un ls q tn2 ov2 un2 ms) (h:ms.length<=q):Stl room 0 tn ov un ls ms tn2 ov2 un2:=by
 have:=r.cont [] tn2 ov2 un2 (by rw [M7 h];exact .nil _ _ _ _)
 rw [Fp,M8 h] at this
 exact this
def Run.keep {room tn ov un tn2 ov2 un2:Int} {ls ms:Ls} {q:Nat} {l:List Int} (r:Run room tn ov un ls q tn2 ov2 un2 ms) (h:ms[q]? = some l) (hl:(l.length:Int)<=room):Run room tn ov un ls (q+1) tn2 ov2 un2 ms:=by
 obtain ⟨hp,_⟩:=gZ.mp h
 refine ⟨fun out tn' ov' un' s=>?_,?_,hp,r.b1,fun h l hl=>r.b2 h l (by rw [show q+1+1=1+(q+1) by omega,Nat.add_comm 1] at hl;exact Nf (i:=1) (by rw [List.drop_drop];exact hl)),r.b0⟩
 ·have:=r.cont (l::out) tn' ov' un' (by rw [fD h];exact .keep hl s)
  rw [Iw h,iU];exact this
 ·have:=r.vl
  rw [fD h] at this
  rw [Iw h,uq,iw,Yx (by omega),<- this,lq]
  show _+2 ^ q*(l.length+2*0)+_=_+2 ^ q*(l.length+2*_)
  rw [wu,wu,oR]
  omega
def Run.big {room tn ov un tn2 ov2 un2:Int} {ls ms:Ls} {q:Nat} {l:List Int} (r:Run room tn ov un ls q tn2 ov2 un2 ms) (h:ms[q]? = some l) (hl:l≠[]):2 ^ q<=val ls:=by
 have:=r.vl
 rw [fD h] at this
 have e:val (l::ms.drop (q+1))=l.length+2*val (ms.drop (q+1)):=rfl
 have l1:1<=l.length:=by
  cases l with
  | nil=>exact absurd rfl hl
  | cons a b=>show 1<=b.length+1;omega
 have m:=Yw (2 ^ q) (show 1<=val (l::ms.drop (q+1)) by omega)
 omega
def More (q:Nat) (ms ms':Ls) (nx:List Int):Prop:=(ms'=ms/\ms[q+1]? = some nx)\/(q+1=ms.length/\ms'=ms++[[]]/\nx=[])
def More.at {q:Nat} {ms ms':Ls} {nx l:List Int} (m:More q ms ms' nx) (h:ms[q]? = some l):ms'[q]? = some l/\ms'[q+1]? = some nx/\ms'.take q=ms.take q/\(ms.drop (q+1)).headD []=nx/\(ms.drop (q+1)).tail=ms'.drop (q+2):=by
 rcases m with ⟨rfl,e⟩ | ⟨e,rfl,rfl⟩
 ·refine ⟨h,e,rfl,?_,?_⟩
  ·rw [fD e];rfl
  ·rw [fD e];rfl
 ·obtain ⟨hp,_⟩:=gZ.mp h
  refine ⟨by rw [JQ hp];exact h,by rw [e,JN (aX _),Nat.sub_self];rfl,List.take_append_of_le_length (by omega),?_,?_⟩
  ·rw [e,Np];rfl
  ·rw [e,Np,M7 (by rw [dR];show _+1<=_;omega)];rfl
def Run.turn {room tn ov un tn2 ov2 un2:Int} {ls ms ms':Ls} {q:Nat} {l nx:List Int} (r:Run room tn ov un ls q tn2 ov2 un2 ms) (m:More q ms ms' nx) (h:ms[q]? = some l) (hl:room<(l.length:Int)) :
  Run room tn ov un ls (q+1) (tn2+1) (if tn2 % 2=0 then ov2+2 ^ q else ov2) (if tn2 % 2=0 then un2 else un2+2 ^ q) ((ms'.set q (lft l)).set (q+1) (srt (nx++pick (decide (tn2 % 2=1)) l))):=by
 obtain ⟨h1,h2,h3,h4,h5⟩:=m.at h
 obtain ⟨p1,_⟩:=gZ.mp h1
 obtain ⟨p2,_⟩:=gZ.mp h2
 have e0:(ms'.set q (lft l))[q+1]? = some nx:=by rw [vJ (by omega)];exact h2
 have e1:((ms'.set q (lft l)).set (q+1) (srt (nx++pick (decide (tn2 % 2=1)) l))).take (q+1)=ms.take q++[lft l]:=by
  rw [Xl (aX _),Li h1,h3]
 have e2:((ms'.set q (lft l)).set (q+1) (srt (nx++pick (decide (tn2 % 2=1)) l))).drop (q+1)=srt (nx++pick (decide (tn2 % 2=1)) l)::(ms.drop (q+1)).tail:=by
  rw [fD (l:=srt (nx++pick (decide (tn2 % 2=1)) l)) (by rw [Fi (by rw [ji];exact p2)]),set_drop,Ng (by omega),h5]
 have hm:(∀ l∈ls,l.length<=31)->∀ k∈ms',k.length<=62:=by
  intro hs
  rcases m with ⟨rfl,_⟩ | ⟨_,rfl,_⟩
  ·exact r.b1 hs
  ·intro k hk
   rcases gB.mp hk with z | z
   ·exact r.b1 hs k z
   ·rw [fP.mp z];exact dN _
 have nx2:(∀ l∈ls,l.length<=31)->nx.length<=31:=by
  intro hs
  rcases m with ⟨rfl,e⟩ | ⟨_,_,rfl⟩
  ·exact r.b2 hs nx (by rw [fD e];exact eF)
  ·exact dN _
 have ll:(∀ l∈ls,l.length<=31)->l.length<=62:=fun z=>r.b1 z l (List.mem_of_getElem? h)
 refine ⟨fun out tn' ov' un' s=>?_,?_,by rw [ji,ji];omega,fun hs k hk=>?_,fun hs k hk=>?_,fun hs=>?_⟩
 ·rw [e1,iU]
  refine r.cont (lft l::out) tn' ov' un' ?_
  rw [fD h]
  refine .turn hl ?_
  rw [h4]
  rw [e2] at s
  exact s
 ·have v:=r.vl
  rw [fD h] at v
  rw [e1,e2,uq,iw,Yx (by have:=r.le;omega),<- v,lq]
  show _+2 ^ q*((lft l).length+2*0)+2 ^ q*2*((srt _).length+2*val _)=_+2 ^ q*(l.length+2*val _)
  rw [gq,dR,jJ,rP,S9 (ms.drop (q+1)),h4,oR,Nat.add_assoc,<- wu]
  congr 2
  omega
 ·rcases uI hk with z | z
  ·rcases uI z with z | z
   ·exact hm hs k z
   ·rw [z,rP];omega
  ·have:=nx2 hs
   have:=ll hs
   rw [z,gq,dR,jJ];omega
 ·rw [set_drop,Ng (by omega),<- h5] at hk
  exact r.b2 hs k (Xi hk)
 ·have e:=r.b0 hs
  have:=hs l (by rw [<- e];exact List.mem_of_getElem? h)
  omega
def Ej (t:Int):∀ (n w:Nat) (ls:Ls),w<2 ^ n->(fj t ls w).length<=max ls.length n
 | 0,w,ls,h=>by
  have:w=0:=by rw [Gz] at h;omega
  rw [this,fC];omega
 | n+1,w,ls,h=>by
  by_cases hw:w=0
  ·rw [hw,fC];omega
  ·rw [fM t ls hw,cX]
   have:=Ej t n (w / 2) ls.tail (by rw [lq] at h;omega)
   rw [Xr] at this
   omega
def Bs (t:Int) {b:Nat}:∀ (w:Nat) (ls:Ls),(∀ l∈ls,l.length<=b)->∀ l∈fj t ls w,l.length<=b+1:=by
 intro w
 induction w using wg with
 | _ w ih =>
  intro ls hl
  by_cases hw:w=0
  ·rw [hw,fC];exact fun l h=>Gs (hl l h)
  ·rw [fM t ls hw]
   intro l m
   have hd:=Iu (P:=fun l=>l.length<=b) hl (dN _)
   rcases cC.mp m with e | e
   ·rw [e]
    split
    ·rw [gq,dR];show _+1<=_;omega
    ·exact Gs hd
   ·exact ih (w / 2) (by omega) ls.tail (Iv hl) l e
def Wl (t:Int) {P:Int->Prop} (ht:P t):∀ (w:Nat) (ls:Ls),(∀ l∈ls,∀ z∈l,P z)->∀ l∈fj t ls w,∀ z∈l,P z :=
 Ei (P:=fun l=>∀ z∈l,P z) t (fun _ h=>nomatch h) fun l hl z hz=>by
  rcases gB.mp (rO.mp hz) with e | e
  ·exact hl z e
  ·rw [fP.mp e];exact ht
def Lj (t:Int) (w:Nat) (ls:Ls) (h:∀ l∈ls,Sd l):∀ l∈fj t ls w,Sd l:=Ei (P:=Sd) t List.Pairwise.nil (fun _ _=>pF _) w ls h
def Stl.mem {P:Int->Prop} {room:Int} {h:Nat} {tn ov un:Int} {ls out:Ls} {tn' ov' un':Int} (a:Stl room h tn ov un ls out tn' ov' un'):(∀ l∈ls,∀ z∈l,P z)->∀ l∈out,∀ z∈l,P z :=
 a.all (P:=fun l=>∀ z∈l,P z) (fun _ h=>nomatch h) (fun l hl z hz=>hl z (zy hz)) fun l m o hl hm z hz=>by
  rcases gB.mp (rO.mp hz) with e | e
  ·exact hl z e
  ·exact hm z (uZ e)
def Stl.sd {room:Int} {h:Nat} {tn ov un:Int} {ls out:Ls} {tn' ov' un':Int} (a:Stl room h tn ov un ls out tn' ov' un'):(∀ l∈ls,Sd l)->∀ l∈out,Sd l :=
 a.all (P:=Sd) List.Pairwise.nil (fun _=>aa2) fun _ _ _ _ _=>pF _
structure Good (r T ov un:Int) (ls:Ls):Prop where
 r2:2<=r
 r64:r<=64
 ev:r % 2=0
 vl:(val ls:Int)=T
 sd:∀ l∈ls,Sd l
 sm:∀ l∈ls,(l.length:Int)<=r
 fl:Full ls
 pt:(ov+un)*r<=pot 0 ls
 ov0:0<=ov
 un0:0<=un
def Good.new {r:Int} (h1:2<=r) (h2:r<=64) (h3:r % 2=0):Good r 0 0 0 [] :=
 ⟨h1,h2,h3,rfl,fun _ h=>(nomatch h),fun _ h=>(nomatch h),fun _ h=>(nomatch h),by show (0+0)*r<=0;omega,cT _,cT _⟩
def Good.add {r T ov un tn tn' ov' un' t w:Int} {ls out:Ls} (g:Good r T ov un ls) (w1:1<=w) (s:Stl r 0 tn ov un (fj t ls w.toNat) out tn' ov' un'):Good r (T+w) ov' un' out/\out≠[]:=by
 have h1:=g.r2
 have mo:=s.mono
 have o0:=g.ov0
 have u0:=g.un0
 refine ⟨⟨g.r2,g.r64,g.ev,?_,s.sd (Lj t _ _ g.sd),s.small (by omega),s.full (by omega) (Tc t _ _ g.fl),?_,by omega,by omega⟩,fun e=>?_⟩
 ·rw [s.val,Eh];have:=g.vl;omega
 ·have p1:=s.pot g.ev
  have p2:=Wj t w.toNat 0 ls
  have p3:=g.pt
  have e:r*(ov'+un'-ov-un)=(ov'+un')*r-(ov+un)*r:=by grind
  omega
 ·exact Lh (by omega) (s.empty e)
def Good.bits {r T ov un:Int} {ls:Ls} (g:Good r T ov un ls) (h:ls≠[]):(2:Int) ^ (ls.length-1)<=T:=by
 have:=U9 g.fl h
 have e:=g.vl
 have c:((2 ^ (ls.length-1):Nat):Int)=(2:Int) ^ (ls.length-1):=by rw [GZ];rfl
 omega
def Good.near {r T ov un:Int} {ls:Ls} (g:Good r T ov un ls) (h:ls≠[]):(ov+un)*r<=T*((ls.length:Int)-1):=by
 have p:=aa6 ls 0
 rw [Gz,Nat.one_mul,qM] at p
 have q:=g.pt
 have l1:1<=ls.length:=by
  cases ls with
  | nil=>exact absurd rfl h
  | cons a b=>show 1<=b.length+1;omega
 have c:((ls.length-1)*val ls:Nat)=(((ls.length:Int)-1)*(val ls:Int)):=by rw [GR,Int.natCast_sub l1];rfl
 rw [g.vl] at c
 rw [O5 T]
 omega
def Good.len {r T ov un:Int} {ls:Ls} (g:Good r T ov un ls) {n:Nat} (h:T<2 ^ n):ls.length<=n:=by
 by_cases e:ls=[]
 ·rw [e];exact dN _
 ·have:=g.bits e
  rcases nR (ls.length-1) n with z | z
  ·omega
  ·have p:=Af (show 0<2 by decide) z
   have c:((2 ^ n:Nat):Int)=(2:Int) ^ n:=by rw [GZ];rfl
   have c2:((2 ^ (ls.length-1):Nat):Int)=(2:Int) ^ (ls.length-1):=by rw [GZ];rfl
   omega
def Good.small {r T ov un:Int} {ls:Ls} (g:Good r T ov un ls):∀ l∈ls,l.length<=64:=fun l h=>by have:=g.sm l h;have:=g.r64;omega
def tw (x:Int):List (Int × Int)->Int
 | []=>0
 | p::r=>(if p.1<=x then p.2 else 0)+tw x r
def Va (x:Int) (p:Int × Int):∀ rs,tw x (rs++[p])=tw x rs+if p.1<=x then p.2 else 0
 | []=>by show _+0=0+_;omega
 | q::r=>by show _+tw x (r++[p])=_+tw x r+_;rw [Va x p r];omega
def Rk (T ov un:Int) (ls:Ls) (rs:List (Int × Int)):Prop:=∀ x,0<=tw x rs/\tw x rs<=T/\(nr x ls:Int)-ov<=tw x rs/\tw x rs<=nr x ls+un
def Rk.new:Rk 0 0 0 [] []:=fun _=>⟨cT _,cT _,by show (0:Int)-0<=0;omega,by show (0:Int)<=0+0;omega⟩
def Rk.add {r T ov un tn tn' ov' un' t w:Int} {ls out:Ls} {rs:List (Int × Int)} (h:Rk T ov un ls rs) (w1:0<=w) (sd:∀ l∈ls,Sd l) (s:Stl r 0 tn ov un (fj t ls w.toNat) out tn' ov' un'):Rk (T+w) ov' un' out (rs++[(t,w)]):=by
 intro x
 obtain ⟨a1,a2,a3,a4⟩:=h x
 obtain ⟨b1,b2⟩:=s.nr x (Lj t _ _ sd)
 rw [aa5] at b1 b2
 rw [Va]
 rw [Int.pow_zero,Ak,Ak] at b1 b2
 show 0<=tw x rs+(if t<=x then w else 0)/\tw x rs+(if t<=x then w else 0)<=T+w/\_<=tw x rs+(if t<=x then w else 0)/\tw x rs+(if t<=x then w else 0)<=_
 by_cases e:t<=x
 ·rw [if_pos e] at b1 b2 ⊢
  refine ⟨?_,?_,?_,?_⟩ <;> omega
 ·rw [if_neg e] at b1 b2 ⊢
  refine ⟨?_,?_,?_,?_⟩ <;> omega
end RG
set_option autoImplicit false
namespace WN
structure Box where
 f:Int
 l:Int
 s:Int
def sum (bs:List Box):Int:=(bs.map (·.s)).sum
def sum_nil:sum []=0:=rfl
def sum_cons (b:Box) (r:List Box):sum (b::r)=b.s+sum r:=by unfold sum;rw [dZ,iK]
def sum_append (a b:List Box):sum (a++b)=sum a+sum b:=by unfold sum;rw [cW,Ft]
def settle (room:Int):Int->Box->List Box->List Box
 | _,b,[]=>[b]
 | S,b,o::os=>if (b.s+o.s)*room<=S then settle room S ⟨o.f,b.l,b.s+o.s⟩ os else b::settle room (S+b.s) o os
def ur (room S:Int) (b:Box):settle room S b []=[b]:=rfl
def jK (room S:Int) (b o:Box) (os:List Box):settle room S b (o::os)=if (b.s+o.s)*room<=S then settle room S ⟨o.f,b.l,b.s+o.s⟩ os else b::settle room (S+b.s) o os:=rfl
def settled (room:Int):List Box->List Box
 | []=>[]
 | b::os=>settle room 0 b os
def uw (room:Int):∀ (os:List Box) (S:Int) (b:Box),sum (settle room S b os)=b.s+sum os
 | [],S,b=>by rw [ur,sum_cons]
 | o::os,S,b=>by
  rw [jK,sum_cons]
  split
  ·rw [uw room os];show b.s+o.s+sum os=_;omega
  ·rw [sum_cons,uw room os]
def Ln (room:Int) (bs:List Box):sum (settled room bs)=sum bs:=by
 cases bs with
 | nil=>rfl
 | cons b os=>show sum (settle room 0 b os)=_;rw [uw,sum_cons]
def ux (room:Int):∀ (os:List Box) (S:Int) (b:Box),(settle room S b os).length<=os.length+1
 | [],S,b=>by rw [ur];simp
 | o::os,S,b=>by
  rw [jK]
  split
  ·have:=ux room os S ⟨o.f,b.l,b.s+o.s⟩;simp only [cX];omega
  ·have:=ux room os (S+b.s) o;simp only [cX];omega
def Lp (room:Int) (bs:List Box):(settled room bs).length<=bs.length:=by
 cases bs with
 | nil=>exact aX _
 | cons b os=>exact ux room os 0 b
def Multi (room:Int):Int->List Box->Prop
 | _,[]=>True
 | S,b::os=>(b.f≠b.l->b.s*room<=S)/\Multi room (S+b.s) os
def Bt (room:Int):Int->List Box->Prop
 | _,[]=>True
 | _,[_]=>True
 | S,b::o::os=>S<(b.s+o.s)*room/\Bt room (S+b.s) (o::os)
def Multi.mono {room:Int}:∀ {bs:List Box} {S S':Int},S<=S'->Multi room S bs->Multi room S' bs
 | [],_,_,_,_=>trivial
 | b::os,S,S',h,m=>⟨fun z=>qO (m.1 z) h,Multi.mono (by omega) m.2⟩
def Multi.take {room:Int}:∀ {bs:List Box} {S:Int} (n:Nat),Multi room S bs->Multi room S (bs.take n)
 | [],_,n,_=>by rw [Fx];trivial
 | b::os,S,0,m=>trivial
 | b::os,S,n+1,m=>⟨m.1,Multi.take n m.2⟩
structure Sums (P:Int->Int):Prop where
 zero:∀ n,n<=0->P n=0
 mono:∀ a b,a<=b->P a<=P b
def Chain (P:Int->Int) (edge:Int):Int->List Box->Prop
 | u,[]=>edge<=u->P u=P edge
 | u,b::os=>1<=b.f/\b.f<=b.l/\b.l<=u/\P u=P b.l/\b.s=P b.l-P (b.f-1)/\P (b.f-1)<P b.f/\P (b.l-1)<P b.l/\Chain P edge (b.f-1) os
def Chain.pos {P:Int->Int} (hP:Sums P) {edge:Int}:∀ {bs:List Box} {u:Int},Chain P edge u bs->∀ b∈bs,1<=b.s
 | b::os,u,⟨_,h2,_,_,h5,h6,_,r⟩,x,m=>by
  rcases cC.mp m with rfl | m
  ·have:=hP.mono x.f x.l h2;omega
  ·exact Chain.pos hP r x m
def Chain.below {P:Int->Int} {edge:Int}:∀ {bs:List Box} {u:Int},Chain P edge u bs->∀ b∈bs,1<=b.f/\b.f<=b.l/\b.l<=u
 | b::os,u,⟨h1,h2,h3,_,_,_,_,r⟩,x,m=>by
  rcases cC.mp m with rfl | m
  ·exact ⟨h1,h2,h3⟩
  ·obtain ⟨k1,k2,k3⟩:=Chain.below r x m;exact ⟨k1,k2,by omega⟩
def Chain.join {P:Int->Int} {edge u:Int} {b o:Box} {os:List Box} (h:Chain P edge u (b::o::os)):Chain P edge u (⟨o.f,b.l,b.s+o.s⟩::os):=by
 obtain ⟨h1,h2,h3,h4,h5,h6,h7,k1,k2,k3,k4,k5,k6,k7,r⟩:=h
 refine ⟨k1,?_,h3,h4,?_,k6,h7,r⟩
 ·show o.f<=b.l;omega
 ·show b.s+o.s=P b.l-P (o.f-1);omega
def Chain.settle {P:Int->Int} {edge room:Int}:∀ {os:List Box} {S u:Int} {b:Box},Chain P edge u (b::os)->Chain P edge u (settle room S b os)
 | [],S,u,b,h=>h
 | o::os,S,u,b,h=>by
  rw [jK]
  split
  ·exact Chain.settle h.join
  ·obtain ⟨h1,h2,h3,h4,h5,h6,h7,r⟩:=h
   exact ⟨h1,h2,h3,h4,h5,h6,h7,Chain.settle r⟩
def Chain.settled {P:Int->Int} {edge room:Int} {bs:List Box} {u:Int} (h:Chain P edge u bs):Chain P edge u (settled room bs):=by
 cases bs with
 | nil=>exact h
 | cons b os=>exact Chain.settle h
def low (e:Int) (bs:List Box):Int:=sum (bs.filter fun b=>decide (e<b.f))
def cut (e:Int) (bs:List Box):Int:=sum (bs.filter fun b=>decide (b.f<=e/\e<b.l))
def Lq {P:Int->Int} {edge e:Int}:∀ {bs:List Box} {u:Int},Chain P edge u bs->u<=e->low e bs=0/\cut e bs=0:=by
 intro bs u h hu
 have k:=Chain.below h
 constructor
 ·unfold low
  rw [zL.mpr (fun x m=>by obtain ⟨_,_,_⟩:=k x m;simp;omega)];rfl
 ·unfold cut
  rw [zL.mpr (fun x m=>by obtain ⟨_,_,_⟩:=k x m;simp;omega)];rfl
def Chain.holds {P:Int->Int} (hP:Sums P) {edge e:Int} (he:edge<=e):∀ {bs:List Box} {u:Int},Chain P edge u bs->e<=u->low e bs<=P u-P e/\P u-P e<=low e bs+cut e bs
 | [],u,h,hu=>by
  have h1:=h (qO he hu)
  have h2:=hP.mono edge e he
  have h3:=hP.mono e u hu
  show 0<=P u-P e/\P u-P e<=0+0
  omega
 | b::os,u,h,hu=>by
  obtain ⟨h1,h2,h3,h4,h5,h6,h7,r⟩:=h
  by_cases c1:e<b.f
  ·obtain ⟨k1,k2⟩:=Chain.holds hP he r (by omega)
   have e1:low e (b::os)=b.s+low e os:=by unfold low;rw [zK (by simpa using c1),sum_cons]
   have e2:cut e (b::os)=cut e os:=by unfold cut;rw [zJ (by simp;omega)]
   rw [e1,e2];omega
  ·obtain ⟨k1,k2⟩:=Lq r (e:=e) (by omega)
   have e1:low e (b::os)=low e os:=by unfold low;rw [zJ (by simpa using c1)]
   by_cases c2:e<b.l
   ·have e2:cut e (b::os)=b.s+cut e os:=by unfold cut;rw [zK (by simp;omega),sum_cons]
    have m1:=hP.mono e b.l (by omega)
    have m2:=hP.mono (b.f-1) e (by omega)
    rw [e1,e2,k1,k2];omega
   ·have e2:cut e (b::os)=cut e os:=by unfold cut;rw [zJ (by simp;omega)]
    have m1:=hP.mono b.l e (by omega)
    have m2:=hP.mono e u hu
    rw [e1,e2,k1,k2];omega
def Chain.near {P:Int->Int} {edge e room:Int} (hr:0<=room):∀ {bs:List Box} {u S:Int},Chain P edge u bs->Multi room S bs->cut e bs*room<=S+low e bs\/cut e bs=0
 | [],u,S,_,_=>.inr rfl
 | b::os,u,S,h,m=>by
  obtain ⟨h1,h2,h3,h4,h5,h6,h7,r⟩:=h
  by_cases c1:e<b.f
  ·have e1:low e (b::os)=b.s+low e os:=by unfold low;rw [zK (by simpa using c1),sum_cons]
   have e2:cut e (b::os)=cut e os:=by unfold cut;rw [zJ (by simp;omega)]
   rw [e1,e2]
   rcases Chain.near (e:=e) hr r m.2 with z | z
   ·exact .inl (by omega)
   ·exact .inr z
  ·obtain ⟨k1,k2⟩:=Lq r (e:=e) (by omega)
   have e1:low e (b::os)=low e os:=by unfold low;rw [zJ (by simpa using c1)]
   by_cases c2:e<b.l
   ·have e2:cut e (b::os)=b.s+cut e os:=by unfold cut;rw [zK (by simp;omega),sum_cons]
    refine .inl ?_
    rw [e1,e2,k1,k2]
    have:=m.1 (by omega)
    simpa using this
   ·have e2:cut e (b::os)=cut e os:=by unfold cut;rw [zJ (by simp;omega)]
    exact .inr (by rw [e2,k2])
def iy {a:Int} (h:0<a) (n:Nat):0<a ^ n:=O6 h
def grown {room:Int} (hr:1<=room):∀ (q:Nat) {bs:List Box} {S:Int},1<=S->Bt room S bs->bs.length=2*q->S*(room+1) ^ q<=(S+sum bs)*room ^ q/\(0<q->S*(room+1) ^ q<(S+sum bs)*room ^ q)
 | 0,bs,S,h,n,l=>by
  have:bs=[]:=Dw.mp (by omega)
  subst this
  refine ⟨?_,fun z=>absurd z (qd _)⟩
  rw [sum_nil];simp
 | q+1,bs,S,h,n,l=>by
  match bs,n,l with
  | b::o::os,n,l =>
   have l':os.length=2*q:=by simp only [cX] at l;omega
   obtain ⟨n1,n2⟩:=n
   have n3:Bt room (S+b.s+o.s) os:=by
    cases os with
    | nil=>trivial
    | cons c cs=>exact n2.2
   have hb:S*(room+1)+1<=(S+b.s+o.s)*room:=by
    rw [mW,Hg,Int.add_assoc S b.s o.s,tW];omega
   have S0:1<=S+b.s+o.s:=by
    by_cases c:1<=S+b.s+o.s
    ·exact c
    ·have:(S+b.s+o.s)*room<=0:=Int.mul_nonpos_of_nonpos_of_nonneg (by omega) (by omega)
     have:0<=S*(room+1):=Y5 (by omega) (by omega)
     omega
   obtain ⟨g1,_⟩:=grown hr q S0 n3 l'
   have p0:=iy (show (0:Int)<room+1 by omega) q
   have p1:=iy (show (0:Int)<room by omega) q
   have strict:S*(room+1) ^ (q+1)<(S+sum (b::o::os))*room ^ (q+1):=by
    rw [sum_cons,sum_cons,lB,lB]
    have e1:S*((room+1) ^ q*(room+1))=S*(room+1)*(room+1) ^ q:=by rw [O5 ((room+1) ^ q),oW]
    have e2:(S+(b.s+(o.s+sum os)))*(room ^ q*room)=(S+b.s+o.s+sum os)*room ^ q*room:=by rw [<- oW];congr 2;omega
    rw [e1,e2]
    have k1:(S*(room+1)+1)*(room+1) ^ q<=(S+b.s+o.s)*room*(room+1) ^ q:=xZ hb (by omega)
    have k2:(S+b.s+o.s)*(room+1) ^ q*room<=(S+b.s+o.s+sum os)*room ^ q*room:=xZ g1 (by omega)
    have e3:(S+b.s+o.s)*room*(room+1) ^ q=(S+b.s+o.s)*(room+1) ^ q*room:=by rw [YX]
    rw [tW,Ak] at k1
    omega
   exact ⟨Hf strict,fun _=>strict⟩
def few {room:Int} (hr:1<=room) {bs:List Box} (pos:∀ b∈bs,1<=b.s) (n:Bt room 0 bs):∀ p:Nat,2+2*p<bs.length->(room+1) ^ (p+1)<sum bs*room ^ (p+1):=by
 have shrink:∀ (k:Nat) {bs:List Box} {S:Int},Bt room S bs->Bt room S (bs.take k):=by
  intro k bs
  induction bs generalizing k with
  | nil=>intro S _;rw [Fx];trivial
  | cons b r ih =>
   intro S h
   cases k with
   | zero=>trivial
   | succ k =>
    cases r with
    | nil=>rw [Nh,Fx];trivial
    | cons o os =>
     cases k with
     | zero=>rw [Nh,XC];trivial
     | succ k=>exact ⟨h.1,ih (k+1) h.2⟩
 have acJ:∀ (k:Nat) {bs:List Box},(∀ b∈bs,1<=b.s)->sum (bs.take k)<=sum bs:=by
  intro k bs
  induction bs generalizing k with
  | nil=>intro _;rw [Fx];exact cT _
  | cons b r ih =>
   intro h
   cases k with
   | zero =>
    have:∀ {l:List Box},(∀ b∈l,1<=b.s)->0<=sum l:=fun {l}=>by
     induction l with
     | nil=>intro _;exact cT _
     | cons c cs ih=>intro h;rw [sum_cons];have:=h c eF;have:=ih fun x m=>h x (eU _ m);omega
    rw [XC];exact this h
   | succ k=>rw [Nh,sum_cons,sum_cons];have:=ih k fun x m=>h x (eU _ m);omega
 intro p hl
 match bs,pos,n,hl with
 | b::r,pos,n,hl =>
  have lr:2*(p+1)<=r.length:=by simp only [cX] at hl;omega
  have hb:=pos b eF
  have n2:Bt room b.s (r.take (2*(p+1))):=by
   refine shrink _ ?_
   cases r with
   | nil=>trivial
   | cons o os=>have:=n.2;rw [Int.zero_add] at this;exact this
  obtain ⟨_,g⟩:=grown hr (p+1) hb n2 (by rw [iw];omega)
  have g':=g (Nat.succ_pos _)
  have s1:=acJ (2*(p+1)) (bs:=r) fun x m=>pos x (eU _ m)
  have p0:=iy (show (0:Int)<room+1 by omega) (p+1)
  have p1:=iy (show (0:Int)<room by omega) (p+1)
  have k1:1*(room+1) ^ (p+1)<=b.s*(room+1) ^ (p+1):=xZ hb (by omega)
  have k2:(b.s+sum (r.take (2*(p+1))))*room ^ (p+1)<=(b.s+sum r)*room ^ (p+1):=xZ (by omega) (by omega)
  rw [sum_cons]
  omega
end WN
namespace L2
open PySem PySem.Spec PyProof.Rows
section
variable {prog:bG} {w:World} {A:bQ} {E:Value->aG->Prop} {s:aG}
def outR (Q E:Value->aG->Prop) (r:qK) (z:aG):Prop:=match r with
 | .ok (.ret u)=>Q u z
 | .ok _=>False
 | .error u=>E u z
def outF (prog:bG) (w:World) (A:bQ) (Q E:Value->aG->Prop) (f:Fin) (z:aG):Prop:=match f with
 | .done g=>outR Q E (.ok g) z
 | .again c=>c.quiet=true/\g8 (model prog w) A c (outR Q E) z
def Vb {id:String} {b:lg} {xs:List Value} {kw:List (Str × Value)} {Q:Value->aG->Prop} (hk:builtinKind id=none)
  (hp:plainId id=true) (hb:entryFor table id=some b) (ha:vZ id ⟨xs,kw⟩)
  (hc:wpAny (model prog w) A.in1 (b ⟨xs,kw⟩) (outF prog w A Q E) E s):wpAny (model prog w) A (call (.builtin id) xs kw) Q E s:=by
 refine Gj (Yh hp hb ?_)
 simp only [checkBuiltinCall,hk]
 have hc2:=iG hc (Q':=fun f z=>match f with
  | .done g=>outR Q E (.ok g) z
  | .again c=>c.quiet=true/\g8 (model prog w) A c (outR Q E) z) (fun _ _ h=>h) fun _ _ h=>h
 generalize hsig:Manifest.signature? id=sg at *
 cases sg with
 | none=>exact bH hc2
 | some sig =>
  have e:Z5 id sig ⟨xs,kw⟩=pure ():=by
   simp only [vZ,hsig] at ha
   exact ha
  refine (?_:wpAny _ A.in1 (Z5 id sig ⟨xs,kw⟩) _ _ s)
  rw [e]
  exact bH hc2
end
section
variable {prog:bG} {w:World} {A:bQ} {R:qK->aG->Prop} {it:Addr} {fp wr:List Addr} {n:Nat} {P:Nat->Value->Prop} {St:Nat->Heap->Prop}
def acK (W:Walks prog w A.in1 it fp wr n P St) (bt:Nat->Nat->Bool)
  (cm:CmpOf prog w A.in1 .Lt P bt) (S:Addr) (nS:S∉fp) (kw:List (Str × Value)) :
  ∀ (k j:Nat) (s:aG) (u:Value) (c:Nat),k+(j+1)=n->St (j+1) s.heap->P (gk bt j) u ->
   s.heap.get? S=some { cls:=.type "list",data:=.seq #[u,u] c } ->
   (∀ v h' tk,P (gk bt (n-1)) v->(∀ b o,b∉wr->b≠S->s.heap.get? b=some o->h'.get? b=some o) ->
    R (.ok (.ret v)) { s with heap:=h',toks:=tk }) ->
   g8 (model prog w) A (.builtin "min.loop" ⟨[.ref it,.none,.ref S],kw⟩) R s:=by
 have nw:S∉wr:=fun h=>nS (W.sub _ h)
 have nm:(toString "min" ++ toString ".loop" : String) = "min.loop" := by decide
 intro k
 induction k with
 | zero =>
  intro j s u c e st pu hS post
  have ej:j=n-1:=by omega
  have en:j+1=n:=by omega
  rw [ej] at pu
  rw [en] at st
  refine qJ O3 ?_
  rw [yg tQ _]
  refine aP (oK hS rfl ?_)
  refine aP (qI (W.done s _ _ st fun h1 tk1 kp=>?_))
  refine aP (tD (kp S _ nw hS) rfl (aP (oM (bH ?_))))
  exact post u _ tk1 pu fun b o nb nbS eb=>by
   rw [nQ _ _ (aL nbS)];exact kp b o nb eb
 | succ k ih =>
  intro j s u c e st pu hS post
  refine qJ O3 ?_
  rw [yg tQ _]
  refine aP (oK hS rfl ?_)
  refine aP (qI (W.item (j+1) s _ _ (by omega) st fun v h1 tk1 pv st1 kp=>?_))
  have hS1:=kp S _ nw hS
  refine aP (bH ?_)
  refine aP (qI (nP (aP (cm (j+1) (gk bt j) v u _ _ _ pv pu ?_))))
  refine aP (nP (zU (aP (oM (bH ?_)))))
  have ab:gk bt (j+1)=if bt (j+1) (gk bt j) then j+1 else gk bt j:=rfl
  cases hb:bt (j+1) (gk bt j) with
  | true =>
   rw [hb,if_pos rfl] at ab
   rw [if_pos rfl]
   refine aP (tD hS1 rfl (aP (oM ?_)))
   rw [nm]
   refine bH ⟨mR tQ _,ih (j+1) _ v _ (by omega) (W.frame _ _ _ st1 fun b hb o eb=>?_) (by rw [ab];exact pv) (v8 _ hS1 rfl) fun v2 h2 tk2 p2 k2=>?_⟩
   ·rw [nQ _ _ (fun z:S=b=>nS (z ▸ hb))];exact eb
   ·exact post v2 h2 tk2 p2 fun b o nb nbS eb=>k2 b o nb nbS (by
     rw [nQ _ _ (aL nbS)];exact kp b o nb eb)
  | false =>
   rw [hb,if_neg (by decide)] at ab
   rw [if_neg (by decide)]
   refine aP (oM ?_)
   rw [nm]
   refine bH ⟨mR tQ _,ih (j+1) _ u c (by omega) st1 (by rw [ab];exact pu) hS1 fun v2 h2 tk2 p2 k2=>?_⟩
   exact post v2 h2 tk2 p2 fun b o nb nbS eb=>k2 b o nb nbS (kp b o nb eb)
def Te (W:Walks prog w A.in1 it fp wr n P St) (bt:Nat->Nat->Bool)
  (cm:CmpOf prog w A.in1 .Lt P bt) (S:Addr) (nS:S∉fp) (d:Value) {s:aG} {c:Nat} (st:St 0 s.heap)
  (hS:s.heap.get? S=some { cls:=.type "list",data:=.seq #[] c })
  (post:∀ v h' tk,(if 0<n then P (gk bt (n-1)) v else v=d)->(∀ b o,b∉wr->b≠S->s.heap.get? b=some o->h'.get? b=some o) ->
   R (.ok (.ret v)) { s with heap:=h',toks:=tk }) :
  g8 (model prog w) A (.builtin "min.loop" ⟨[.ref it,.none,.ref S],[("default",d)]⟩) R s:=by
 have nw:S∉wr:=fun h=>nS (W.sub _ h)
 have nm:(toString "min" ++ toString ".loop" : String) = "min.loop" := by decide
 refine qJ O3 ?_
 rw [yg tQ _]
 refine aP (oK hS rfl ?_)
 rcases v9 n with e | e
 ·subst e
  refine aP (qI (W.done s _ _ st fun h1 tk1 kp=>?_))
  refine aP (Gk ?_)
  exact bH (post d h1 tk1 rfl fun b o nb _ eb=>kp b o nb eb)
 ·refine aP (qI (W.item 0 s _ _ e st fun v h1 tk1 pv st1 kp=>?_))
  have hS1:=kp S _ nw hS
  refine aP (bH ?_)
  refine aP (tD hS1 rfl ?_)
  rw [nm]
  refine bH ⟨mR tQ _,acK W bt cm S nS _ (n-1) 0 _ v _ (by omega) (W.frame _ _ _ st1 fun b hb o eb=>?_) pv (v8 _ hS1 rfl) fun v2 h2 tk2 p2 k2=>?_⟩
  ·rw [nQ _ _ (fun z:S=b=>nS (z ▸ hb))];exact eb
  ·exact post v2 h2 tk2 (by rw [if_pos (show 0<n from e)];exact p2) fun b o nb nbS eb=>k2 b o nb nbS (by
    rw [nQ _ _ (aL nbS)];exact kp b o nb eb)
end
section
variable {prog:bG} {w:World} {A:bQ} {E:Value->aG->Prop} {s:aG} {l:Addr} {xs:Array (Int × Tok)}
def Wm (a d:Value):vZ "min" ⟨[a],[("default",d)]⟩:=by unfold vZ;kernel_rfl
def Wo {Q:Value->aG->Prop} (d:Value) (hh:A.handled=none) (hl:s.heap.IsList l (jN xs))
  (post:∀ v h' tk,(if 0<xs.size then (jN xs)[gk (fun i j=>decide (numAt xs i<numAt xs j)) (xs.size-1)]? = some v else v=d) ->
   (∀ b o,s.heap.get? b=some o->h'.get? b=some o)->Q v { s with heap:=h',toks:=tk }) :
  wpAny (model prog w) A (call (.builtin "min") [.ref l] [("default",d)]) Q E s:=by
 have nm:(toString "min" ++ toString ".loop" : String) = "min.loop" := by decide
 have sz:(jN xs).size=xs.size:=by simp [jN]
 refine Vb F.kind_min F.plain_min F.entry_min (Wm _ _) ?_
 refine aP (wpAny_of_eq (show ZP "min" ["key","default"] 0 ⟨[],[("default",d)]⟩=pure [none,some d] from rfl) ?_)
 refine aP (bH ?_)
 refine aP (Ys hl fun s2 e st hfp nlI=>?_)
 subst e
 refine aP (xW ?_)
 rw [nm]
 refine bH ⟨mR tQ _,Te (Hz (A:=A.in1) hh _ l nlI (jN xs)) _ (CmpOf.ints_lt (numAt xs) fun _ _=>Gi) _ (fun hm=>qd _ (hfp _ hm)) d ?_ (fW _ rfl) fun v h' tk hv kp=>?_⟩
 ·exact (Hz (A:=A.in1) (prog:=prog) (w:=w) hh _ l nlI (jN xs)).frame _ _ _ st fun b _ o e=>eZ _ e
 ·rw [sz] at hv
  refine post v h' tk hv fun b o e=>kp b o ?_ ?_ (eZ _ (eZ _ e))
  ·intro hm
   have h1:=fP.mp hm
   have h2:=bY e
   rw [h1] at h2
   exact qd _ h2
  ·have h2:=bY e
   rw [Ac]
   exact cZ (tL h2)
end
section
variable {prog:bG} {w:World} {A:bQ} {R:qK->aG->Prop} {it:Addr} {fp wr:List Addr} {n:Nat} {P:Nat->Value->Prop} {St:Nat->Heap->Prop}
def acL (W:Walks prog w A.in1 it fp wr n P St) (bt:Nat->Nat->Bool)
  (cm:CmpOf prog w A.in1 .Gt P bt) (S:Addr) (nS:S∉fp) (kw:List (Str × Value)) :
  ∀ (k j:Nat) (s:aG) (u:Value) (c:Nat),k+(j+1)=n->St (j+1) s.heap->P (gk bt j) u ->
   s.heap.get? S=some { cls:=.type "list",data:=.seq #[u,u] c } ->
   (∀ v h' tk,P (gk bt (n-1)) v->(∀ b o,b∉wr->b≠S->s.heap.get? b=some o->h'.get? b=some o) ->
    R (.ok (.ret v)) { s with heap:=h',toks:=tk }) ->
   g8 (model prog w) A (.builtin "max.loop" ⟨[.ref it,.none,.ref S],kw⟩) R s:=by
 have nw:S∉wr:=fun h=>nS (W.sub _ h)
 have nm:(toString "max" ++ toString ".loop" : String) = "max.loop" := by decide
 intro k
 induction k with
 | zero =>
  intro j s u c e st pu hS post
  have ej:j=n-1:=by omega
  have en:j+1=n:=by omega
  rw [ej] at pu
  rw [en] at st
  refine qJ O4 ?_
  rw [yg tR _]
  refine aP (oK hS rfl ?_)
  refine aP (qI (W.done s _ _ st fun h1 tk1 kp=>?_))
  refine aP (tD (kp S _ nw hS) rfl (aP (oM (bH ?_))))
  exact post u _ tk1 pu fun b o nb nbS eb=>by
   rw [nQ _ _ (aL nbS)];exact kp b o nb eb
 | succ k ih =>
  intro j s u c e st pu hS post
  refine qJ O4 ?_
  rw [yg tR _]
  refine aP (oK hS rfl ?_)
  refine aP (qI (W.item (j+1) s _ _ (by omega) st fun v h1 tk1 pv st1 kp=>?_))
  have hS1:=kp S _ nw hS
  refine aP (bH ?_)
  refine aP (qI (nP (aP (cm (j+1) (gk bt j) v u _ _ _ pv pu ?_))))
  refine aP (nP (zU (aP (oM (bH ?_)))))
  have ab:gk bt (j+1)=if bt (j+1) (gk bt j) then j+1 else gk bt j:=rfl
  cases hb:bt (j+1) (gk bt j) with
  | true =>
   rw [hb,if_pos rfl] at ab
   rw [if_pos rfl]
   refine aP (tD hS1 rfl (aP (oM ?_)))
   rw [nm]
   refine bH ⟨mR tR _,ih (j+1) _ v _ (by omega) (W.frame _ _ _ st1 fun b hb o eb=>?_) (by rw [ab];exact pv) (v8 _ hS1 rfl) fun v2 h2 tk2 p2 k2=>?_⟩
   ·rw [nQ _ _ (fun z:S=b=>nS (z ▸ hb))];exact eb
   ·exact post v2 h2 tk2 p2 fun b o nb nbS eb=>k2 b o nb nbS (by
     rw [nQ _ _ (aL nbS)];exact kp b o nb eb)
  | false =>
   rw [hb,if_neg (by decide)] at ab
   rw [if_neg (by decide)]
   refine aP (oM ?_)
   rw [nm]
   refine bH ⟨mR tR _,ih (j+1) _ u c (by omega) st1 (by rw [ab];exact pu) hS1 fun v2 h2 tk2 p2 k2=>?_⟩
   exact post v2 h2 tk2 p2 fun b o nb nbS eb=>k2 b o nb nbS (kp b o nb eb)
def Tf (W:Walks prog w A.in1 it fp wr n P St) (bt:Nat->Nat->Bool)
  (cm:CmpOf prog w A.in1 .Gt P bt) (S:Addr) (nS:S∉fp) (d:Value) {s:aG} {c:Nat} (st:St 0 s.heap)
  (hS:s.heap.get? S=some { cls:=.type "list",data:=.seq #[] c })
  (post:∀ v h' tk,(if 0<n then P (gk bt (n-1)) v else v=d)->(∀ b o,b∉wr->b≠S->s.heap.get? b=some o->h'.get? b=some o) ->
   R (.ok (.ret v)) { s with heap:=h',toks:=tk }) :
  g8 (model prog w) A (.builtin "max.loop" ⟨[.ref it,.none,.ref S],[("default",d)]⟩) R s:=by
 have nw:S∉wr:=fun h=>nS (W.sub _ h)
 have nm:(toString "max" ++ toString ".loop" : String) = "max.loop" := by decide
 refine qJ O4 ?_
 rw [yg tR _]
 refine aP (oK hS rfl ?_)
 rcases v9 n with e | e
 ·subst e
  refine aP (qI (W.done s _ _ st fun h1 tk1 kp=>?_))
  refine aP (Gk ?_)
  exact bH (post d h1 tk1 rfl fun b o nb _ eb=>kp b o nb eb)
 ·refine aP (qI (W.item 0 s _ _ e st fun v h1 tk1 pv st1 kp=>?_))
  have hS1:=kp S _ nw hS
  refine aP (bH ?_)
  refine aP (tD hS1 rfl ?_)
  rw [nm]
  refine bH ⟨mR tR _,acL W bt cm S nS _ (n-1) 0 _ v _ (by omega) (W.frame _ _ _ st1 fun b hb o eb=>?_) pv (v8 _ hS1 rfl) fun v2 h2 tk2 p2 k2=>?_⟩
  ·rw [nQ _ _ (fun z:S=b=>nS (z ▸ hb))];exact eb
  ·exact post v2 h2 tk2 (by rw [if_pos (show 0<n from e)];exact p2) fun b o nb nbS eb=>k2 b o nb nbS (by
    rw [nQ _ _ (aL nbS)];exact kp b o nb eb)
end
section
variable {prog:bG} {w:World} {A:bQ} {E:Value->aG->Prop} {s:aG} {l:Addr} {xs:Array (Int × Tok)}
def Wq (a d:Value):vZ "max" ⟨[a],[("default",d)]⟩:=by unfold vZ;kernel_rfl
def Wr {Q:Value->aG->Prop} (d:Value) (hh:A.handled=none) (hl:s.heap.IsList l (jN xs))
  (post:∀ v h' tk,(if 0<xs.size then (jN xs)[gk (fun i j=>decide (numAt xs i>numAt xs j)) (xs.size-1)]? = some v else v=d) ->
   (∀ b o,s.heap.get? b=some o->h'.get? b=some o)->Q v { s with heap:=h',toks:=tk }) :
  wpAny (model prog w) A (call (.builtin "max") [.ref l] [("default",d)]) Q E s:=by
 have nm:(toString "max" ++ toString ".loop" : String) = "max.loop" := by decide
 have sz:(jN xs).size=xs.size:=by simp [jN]
 refine Vb F.kind_max F.plain_max F.entry_max (Wq _ _) ?_
 refine aP (wpAny_of_eq (show ZP "max" ["key","default"] 0 ⟨[],[("default",d)]⟩=pure [none,some d] from rfl) ?_)
 refine aP (bH ?_)
 refine aP (Ys hl fun s2 e st hfp nlI=>?_)
 subst e
 refine aP (xW ?_)
 rw [nm]
 refine bH ⟨mR tR _,Tf (Hz (A:=A.in1) hh _ l nlI (jN xs)) _ (CmpOf.ints_gt (numAt xs) fun _ _=>Gi) _ (fun hm=>qd _ (hfp _ hm)) d ?_ (fW _ rfl) fun v h' tk hv kp=>?_⟩
 ·exact (Hz (A:=A.in1) (prog:=prog) (w:=w) hh _ l nlI (jN xs)).frame _ _ _ st fun b _ o e=>eZ _ e
 ·rw [sz] at hv
  refine post v h' tk hv fun b o e=>kp b o ?_ ?_ (eZ _ (eZ _ e))
  ·intro hm
   have h1:=fP.mp hm
   have h2:=bY e
   rw [h1] at h2
   exact qd _ h2
  ·have h2:=bY e
   rw [Ac]
   exact cZ (tL h2)
end
section
variable {X:Cx} {x:Str} {tl:TE} {px p kp pos:Pos} {j:Nat} {bpos:Pos}
def Best (lo:Bool) (ns:List Int) (v:V):Prop:=(ns=[]/\v = .non)\/∃ m,v = .int m/\m∈ns/\∀ z∈ns,if lo then m<=z else z<=m
def aa7 (K:bh) (lo:Bool) (tl:TE):TE:=fun σ H Q=>tl σ H fun y H1=>∃ (a:Addr) (ns:List Int),y = .ref a/\SqL K H1 a (ns.map V.int)/\∀ v,Best lo ns v->Q v H1
def acM (hm0:X.mg "min" = none) (hl:PE X (.Name x px) tl) (hc:X.calm=true) (hg:Gl X "min" := by rfl) :
  PE X (.Call (.Name "min" p) [.Name x px] [⟨some "default",.Constant .none j bpos,kp⟩] pos) (aa7 X.K true tl):=by
 intro pins s σ H Q I h
 refine xV (lE I hg hm0 boot_min ?_)
 refine Px (yh (thn (hl pins s σ H _ I h) fun v s1 ⟨y,H1,I1,r1,q1⟩=>?_))
 obtain ⟨a,ns,rfl,ha,q⟩:=q1
 obtain rfl:v=Value.ref a:=r1
 refine ud (PB ?_)
 refine Pk (kws_nil ?_)
 show wpAny _ _ (call (.builtin "min") [.ref a] [(bM "default",.none)]) _ _ _
 obtain ⟨its,rv,pl,hz⟩:=I1.list ha
 have hi:=intsAre_of rv
 have hl:=pl.isList
 obtain ⟨ys,e⟩:=hi.allInts.items
 have hns:ns=ys.toList.map (·.1):=by rw [<- hi.numsOf,<- N7,<- e]
 have hsz:ns.length=ys.size:=by rw [hns,aZ,lC]
 rw [e] at hl
 refine Wo .none (I1.ok.hd hc) hl fun v h' tk hv hk=>?_
 rcases v9 ys.size with z | z
 ·rw [if_neg (by omega)] at hv
  subst hv
  exact ⟨.non,H1,I1.kept hk,rfl,q _ (.inl ⟨Dw.mp (by omega),rfl⟩)⟩
 ·rw [if_pos z] at hv
  obtain ⟨t,rfl⟩:=Gi hv
  obtain ⟨h1,h2⟩:=argBest_lt (numAt ys) (ys.size-1)
  refine ⟨.int _,H1,I1.kept hk,⟨t,rfl⟩,q _ (.inr ⟨_,rfl,?_,fun b hb=>?_⟩)⟩
  ·rw [hns,Gn];exact getD_mem (by rw [aZ,lC];omega)
  ·rw [hns] at hb
   obtain ⟨j,hj,rfl⟩:=mem_getD hb
   rw [aZ,lC] at hj
   rw [if_pos rfl,<- Gn];exact h2 j (by omega)
def acN (hm0:X.mg "max" = none) (hl:PE X (.Name x px) tl) (hc:X.calm=true) (hg:Gl X "max" := by rfl) :
  PE X (.Call (.Name "max" p) [.Name x px] [⟨some "default",.Constant .none j bpos,kp⟩] pos) (aa7 X.K false tl):=by
 intro pins s σ H Q I h
 refine xV (lE I hg hm0 boot_max ?_)
 refine Px (yh (thn (hl pins s σ H _ I h) fun v s1 ⟨y,H1,I1,r1,q1⟩=>?_))
 obtain ⟨a,ns,rfl,ha,q⟩:=q1
 obtain rfl:v=Value.ref a:=r1
 refine ud (PB ?_)
 refine Pk (kws_nil ?_)
 show wpAny _ _ (call (.builtin "max") [.ref a] [(bM "default",.none)]) _ _ _
 obtain ⟨its,rv,pl,hz⟩:=I1.list ha
 have hi:=intsAre_of rv
 have hl:=pl.isList
 obtain ⟨ys,e⟩:=hi.allInts.items
 have hns:ns=ys.toList.map (·.1):=by rw [<- hi.numsOf,<- N7,<- e]
 have hsz:ns.length=ys.size:=by rw [hns,aZ,lC]
 rw [e] at hl
 refine Wr .none (I1.ok.hd hc) hl fun v h' tk hv hk=>?_
 rcases v9 ys.size with z | z
 ·rw [if_neg (by omega)] at hv
  subst hv
  exact ⟨.non,H1,I1.kept hk,rfl,q _ (.inl ⟨Dw.mp (by omega),rfl⟩)⟩
 ·rw [if_pos z] at hv
  obtain ⟨t,rfl⟩:=Gi hv
  obtain ⟨h1,h2⟩:=argBest_gt (numAt ys) (ys.size-1)
  refine ⟨.int _,H1,I1.kept hk,⟨t,rfl⟩,q _ (.inr ⟨_,rfl,?_,fun b hb=>?_⟩)⟩
  ·rw [hns,Gn];exact getD_mem (by rw [aZ,lC];omega)
  ·rw [hns] at hb
   obtain ⟨j,hj,rfl⟩:=mem_getD hb
   rw [aZ,lC] at hj
   rw [if_neg (by decide),<- Gn];exact h2 j (by omega)
end
def Bu {K:bh} {a:Addr} {xs:List V} {caps:List Nat} {tt:TT} {te:TE} {σ:St} {H:Hp} {D:Addr} {Q:VK}
  (Pv:Nat->List V->Hp->Prop) (h0:Pv 0 [] (upd H D (.lst [])))
  (hl:∀ i ys H,i<=xs.length->Pv i ys H->SqT K H a xs/\H D=some (.lst ys)/\ys.length<sizeLine)
  (hs:∀ i ys H x,xs[i]? = some x->Pv i ys H->tt (jk σ (some x) caps) H fun b H2=>if b=true then te (jk σ (some x) caps) H2 fun y H3=>H3 D=some (.lst ys)/\Pv (i+1) (ys++[y]) (upd H3 D (.lst (ys++[y]))) else H2 D=some (.lst ys)/\Pv (i+1) ys H2)
  (hd:∀ ys H,Pv xs.length ys H->Q (.ref D) H)
  (mT:∀ σ H (R R':Bool->Hp->Prop),(∀ b H,R b H->R' b H)->tt σ H R->tt σ H R')
  (mE:∀ σ H (Q Q':VK),(∀ y H,Q y H->Q' y H)->te σ H Q->te σ H Q'):uW (Itt K a) caps tt te σ D Q H:=by
 refine ⟨fun i m ys G=>m=xs.length-i/\i<=xs.length/\Pv i ys G,⟨xs.length,rfl,dN _,h0⟩,?_⟩
 rintro i m ys G ⟨rfl,hi,p⟩
 obtain ⟨sq,q,z⟩:=hl i ys G hi p
 refine ⟨q,?_⟩
 rcases nR i xs.length with lt | ge
 ·refine .inr ⟨⟨xs,xs[i],sq,gw lt⟩,z,fun x G' y=>?_⟩
  obtain ⟨rfl,y⟩:=y
  refine mT _ _ _ _ (fun b G2 hb=>?_) (hs i ys _ x (y xs sq) p)
  cases b with
  | true =>
   rw [if_pos rfl] at hb ⊢
   exact mE _ _ _ _ (fun y G3 ⟨a,b⟩=>⟨a,xs.length-(i+1),by omega,rfl,lt,b⟩) hb
  | false =>
   rw [if_neg (by decide)] at hb ⊢
   exact ⟨hb.1,xs.length-(i+1),by omega,rfl,lt,hb.2⟩
 ·obtain rfl:i=xs.length:=by omega
  exact .inl ⟨⟨xs,sq,aX _⟩,hd ys G p⟩
end L2
namespace L2
open PySem PySem.Spec PyProof.Rows
section
variable {X:Cx} {e se:Expr} {te:TE} {lo hi:Option Expr} {tl th ts:TO} {p2 pos:Pos}
def Iz {α:Type} (xs:List α) (lo hi:Option Int):List α :=
 (sliceRange (kZ lo hi (some 2) xs.length).1 (kZ lo hi (some 2) xs.length).2.1 (kZ lo hi (some 2) xs.length).2.2).filterMap (xs[·]?)
def rSl2 (K:bh):V->Option Int->Option Int->Hp->VK->Prop:=fun x lo hi H Q=>∃ a xs,x = .ref a/\SqL K H a xs/\∀ p,H p=none->Q (.ref p) (upd H p (.lst (Iz xs lo hi)))
def tSl2 (K:bh) (te:TE) (tl th ts:TO):TE:=fun σ H Q=>te σ H fun x H1=>tl σ H1 fun l H2=>th σ H2 fun u H3=>ts σ H3 fun t H4=>t=some 2/\rSl2 K x l u H4 Q
def acO:∀ {xs:List V} {us:List Value},Vals xs us->∀ ks:List Nat,Vals (ks.filterMap (xs[·]?)) (ks.filterMap (us[·]?)):=by
 intro xs us r ks
 induction ks with
 | nil=>exact .nil
 | cons k ks ih =>
  rw [xT,xT]
  rcases nR k xs.length with h | h
  ·obtain ⟨u,eu,ru⟩:=r.get (gw h)
   rw [gw h,eu]
   exact .cons ru ih
  ·rw [Xg h,Xg (by rw [<- r.length];exact h)]
   exact ih
def aa8 {α:Type} (xs:List α) (lo hi:Option Int):(Iz xs lo hi).length<=xs.length:=by
 have:=slicePick_size_le (Array.replicate xs.length Value.none) lo hi (some 2)
 rw [Za] at this
 unfold zY at this
 rw [cO,Za] at this
 refine fH (Gx ?_) this
 unfold Iz
 rw [Xc,Xc]
 apply List.countP_congr
 intro k _
 simp [Array.getElem?_replicate]
def Ws (he:PE X e te) (hl:PO X lo tl) (hu:PO X hi th) (hs:PO X (some se) ts):PE X (.Subscript e (.Slice lo hi (some se) p2) pos) (tSl2 X.K te tl th ts):=by
 intro pins s σ H Q I h
 refine Pz (thn (he pins s σ H _ I h) fun v s1 ⟨x,H1,I1,r1,q1⟩=>?_)
 refine wpAny_Slice (thn (hl pins s1 σ H1 _ I1 q1) fun vl s2 ⟨l,H2,I2,pl,q2⟩=>thn (hu pins s2 σ H2 _ I2 q2) fun vu s3 ⟨u,H3,I3,pu,q3⟩=>thn (hs pins s3 σ H3 _ I3 q3) fun vs s4 ⟨t,H4,I4,pt,q4⟩=>?_)
 obtain ⟨rfl,a,xs,rfl,hx,q⟩:=q4
 cases r1
 have I5:Inv X pins σ H4 { s4 with heap:=s4.heap.push { cls:=.type "slice",data:=.fields #[vl,vu,vs] } }:=I4.kept (t':=s4.toks) fun b ob q=>eZ _ q
 obtain ⟨its,r,ht,hz⟩:=I5.list hx
 have hlen:=r.length
 show wpAny (model X.prog X.w) X.A (Ho e (.Slice lo hi (some se) p2) (.ref a) (.ref s4.heap.objs.size)) (EP X pins σ Q) X.xe { s4 with heap:=s4.heap.push { cls:=.type "slice",data:=.fields #[vl,vu,vs] } }
 refine tail_any (ops:=[.ref a,.ref s4.heap.objs.size]) ht.isList.typeIs NQ.lookup ?_ (by with_unfolding_all rfl)
 refine Yc ht.isList (ZW ..) pl pu pt (by simp) ?_ (by rw [cO];omega)
 have ec:zY its.toArray l u (some 2)=(Iz its l u).toArray:=by
  unfold zY Iz
  rw [cO]
  simp only [List.getElem?_toArray]
 rw [ec]
 refine ⟨.ref _,_,I5.laid (t':=s4.toks) (o:=.lst (Iz xs l u)) (fun b ob q=>eZ _ q) (aX _) ?_,rfl,q _ (I5.hok.fresh (aX _))⟩
 refine ⟨fH (aa8 xs l u) hz,_,0,?_,fW _ rfl⟩
 unfold Iz
 rw [<- hlen]
 exact acO r _
end
def Wt {ns:List Int} {t:Int} (ht:t=0\/t=1):Iz (ns.map V.int) (some t) (some ((ns.length:Int)-(ns.length:Int) % 2))=(RG.pick (decide (t=1)) ns).map V.int:=by
 have hp:∀ (ns:List Int) (o:Bool),RG.pick o ns=(vO (ns.length / 2)).filterMap fun k=>ns[(if o then 1 else 0)+2*k]?:=by
  intro ns o
  fun_induction RG.pick o ns with
  | case1 a b r ih =>
   have e:(a::b::r).length / 2=r.length / 2+1:=by simp only [cX];omega
   have sh:(fun k=>(a::b::r)[(if o=true then 1 else 0)+2*k]?) ∘ Nat.succ=fun k=>r[(if o=true then 1 else 0)+2*k]?:=by
    funext k
    show (a::b::r)[(if o=true then 1 else 0)+2*(k+1)]? = _
    rw [show (if o=true then 1 else 0)+2*(k+1)=(if o=true then 1 else 0)+2*k+1+1 by omega,Xf,Xf]
   rw [ih,e,List.range_succ_eq_map,xT,Nj,sh]
   cases o <;> rfl
  | case2 l h =>
   match l,h with
   | [],_=>rfl
   | [x],_=>simp
   | a::b::r,h=>exact absurd rfl (h a b r)
 unfold Iz
 rw [hp,List.map_filterMap]
 have hn:(ns.map V.int).length=ns.length:=aZ _
 rw [hn]
 have b1:(kZ (some t) (some ((ns.length:Int)-(ns.length:Int) % 2)) (some 2) ns.length).1=min t ns.length:=by
  rcases ht with rfl | rfl <;> simp [kZ] <;> omega
 have b2:(kZ (some t) (some ((ns.length:Int)-(ns.length:Int) % 2)) (some 2) ns.length).2.1=(ns.length:Int)-(ns.length:Int) % 2:=by
  simp [kZ];omega
 have b3:(kZ (some t) (some ((ns.length:Int)-(ns.length:Int) % 2)) (some 2) ns.length).2.2=2:=rfl
 rw [b1,b2,b3]
 unfold sliceRange
 rw [Nj]
 have cnt:(if (2:Int)>0 then (if min t ns.length<(ns.length:Int)-(ns.length:Int) % 2 then ((ns.length:Int)-(ns.length:Int) % 2-min t ns.length+2-1) / 2 else 0) else (if min t ns.length>(ns.length:Int)-(ns.length:Int) % 2 then (min t ns.length-((ns.length:Int)-(ns.length:Int) % 2)-2-1) / (-2) else 0)).toNat=ns.length / 2:=by
  rw [if_pos (by decide)]
  split
  ·rcases ht with rfl | rfl <;> omega
  ·rcases ht with rfl | rfl <;> omega
 rw [cnt]
 have fm:∀ (ks:List Nat) (f g:Nat->Option V),(∀ k∈ks,f k=g k)->ks.filterMap f=ks.filterMap g:=by
  intro ks f g
  induction ks with
  | nil=>intro _;rfl
  | cons k r ih =>
   intro h
   rw [xT,xT,h k eF,ih fun j hj=>h j (eU _ hj)]
 refine fm _ _ _ fun k hk=>?_
 have hk:=Xx.mp hk
 show (ns.map V.int)[(min t ns.length+2*(k:Int)).toNat]? = _
 have:(min t ns.length+2*(k:Int)).toNat=(if decide (t=1) then 1 else 0)+2*k:=by
  rcases ht with rfl | rfl
  ·simp;omega
  ·simp;omega
 rw [this,kW]
end L2
namespace L2
open PySem PySem.Spec PyProof.Rows
def Itv (K:bh) (a:Addr) (n:Nat):It :=
 ⟨fun i H=>∃ xs,SqL K H a xs/\xs.length=n/\i<n,fun i H x H'=>H'=H/\∀ xs,SqL K H a xs->xs[n-1-i]? = some x,fun i _=>n<=i⟩
def aa9 {P:bG} {w:World} {K:bh} {tg:Expr} (a it:Addr) (n:Nat):Turn P w K tg (Itv K a n) [it] it (fun i h=>i<=n/\h.IsRevIter it a ((n:Int)-1-i)) where
 mem:=by simp
 obj:=fun i h st b hb=>by
  have e:b=it:=by simpa using hb
  subst e
  obtain ⟨_,o,e,c,d⟩:=st
  exact ⟨o,e,fun v z=>by rw [d] at z;cases z⟩
 keep:=fun i h h' st k=>⟨st.1,st.2.at fun o e=>k it (by simp) o e⟩
 item:=by
  intro X hP hw hK hc i pins s σ H E I hf st hg
  subst hP hw hK
  obtain ⟨xs,hq,hn,hi⟩:=hg
  obtain ⟨its,rv,p,hz⟩:=I.list hq
  have hx:xs[n-1-i]? = some (xs[n-1-i]'(by omega)):=gw (by omega)
  obtain ⟨u,hu,ru⟩:=rv.get hx
  obtain ⟨f0,f1,f2,f3,f4,f5⟩:=hf it (by simp)
  have st2:=st.2
  rw [show (n:Int)-1-i=((n-1-i:Nat):Int) by omega] at st2
  refine wpAny_pyNext_rev_item st2 p.isList (x:=u) (by simpa using hu) fun h' st' sb=>?_
  rw [show ((n-1-i:Nat):Int)-1=(n:Int)-1-((i+1:Nat):Int) by omega] at st'
  have I1:Inv X pins σ H { s with heap:=h' }:=I.turned (t':=s.toks) (fun b o hb e=>(sb.2 b hb).trans e) f0 f1 f3 f4 f5
  obtain ⟨o,e,c,d⟩:=id st'
  exact ⟨u,rfl,Ur (s:={ s with heap:=h' }) e c d (by decide) ⟨_,H,I1,ru,⟨rfl,fun ys hy=>by rw [I.Ks hy hq];exact hx⟩,⟨hi,st'⟩,fun b hb=>(hf b hb).1⟩⟩
 done:=by
  intro X hP hw hK hc i pins s σ H E I hf st hg
  subst hP hw hK
  have hle:n<=i:=hg
  have e:i=n:=Nat.le_antisymm st.1 hle
  subst e
  obtain ⟨f0,f1,f2,f3,f4,f5⟩:=hf it (by simp)
  have st2:=st.2
  rw [show (i:Int)-1-i = -1 by omega] at st2
  exact wpAny_pyNext_rev_end (I.ok.hd hc) st2 fun h' eb=>⟨rfl,I.turned (t':=s.toks) (fun b o hb e=>eb b o hb e) f0 f1 f3 f4 f5⟩
 self:=fun _ _ _ _ _ st h=>FP st.2 h
section
variable {X:Cx} {tg:Expr}
def iRev (K:bh) (ta:TA):TI:=fun σ H R=>ta σ H fun vs H1=>∃ a xs,vs=[.ref a]/\SqL K H1 a xs/\R (Itv K a xs.length) H1
def afW {a:Expr} {ta:TA} {p pos:Pos} (hg:Gl X "reversed") (hm:X.mg "reversed" = none) (ha:PA X [a] ta) (hs:dM [a] X.env=[(false,eval a X.env)]:=by rfl) :
  PI X tg (.Call (.Name "reversed" p) [a] [] pos) (iRev X.K ta):=by
 intro pins s σ H R I h
 refine Call_ (lE I hg hm Pn (Dy (thn (ha pos pins s σ H _ I h) fun us s1 ⟨vs,H1,I1,r1,q1⟩=>?_) hs rfl))
 obtain ⟨l,xs,e,hq,q⟩:=q1
 subst e
 obtain ⟨u,rfl,ru⟩:=vals1 r1
 cases ru
 obtain ⟨its,rv,pl,hz⟩:=I1.list hq
 have hlen:=rv.length
 refine NP pl.isList ?_
 have el:((its.toArray.size:Nat):Int)-1=(xs.length:Int)-1-((0:Nat):Int):=by rw [cO];omega
 refine FP ⟨_,fW _ rfl,rfl,rfl⟩ ⟨_,[s1.heap.objs.size],_,Itv X.K l xs.length,H1,rfl,I1.kept (t':=s1.toks) fun b o e=>eZ _ e,aa9 l _ _,⟨dN _,_,fW _ rfl,rfl,by rw [<- el];rfl⟩,fun b hb=>?_,q⟩
 have e:b=s1.heap.objs.size:=by simpa using hb
 subst e
 exact I1.aaj (aX _) (I1.hok.fresh (aX _))
end
def acP {K:bh} {a:Addr} {xs:List V} {g:TG} {tb:TS} {D:Ends} {σ:St} {H:Hp} (Pv:Nat->St->Hp->Prop) (h0:Pv 0 σ H) (hl:∀ i σ H,i<=xs.length->Pv i σ H->SqL K H a xs)
  (hs:∀ i x σ H,xs.reverse[i]? = some x->Pv i σ H->g x σ H fun σ2 H2=>tb { D with nx:=Pv (i+1),ct:=Pv (i+1),bk:=D.nx } σ2 H2) (hd:∀ σ H,Pv xs.length σ H->D.nx σ H) :
  ∃ W:Nat->Nat->St->Hp->Prop,(∃ m,W 0 m σ H)/\∀ i m σ H,W i m σ H ->
   ((Itv K a xs.length).stop i H/\D.nx σ H)\/((Itv K a xs.length).go i H/\∃ N:St->Hp->Prop,(∀ σ' H',N σ' H'->∃ m',m'<m/\W (i+1) m' σ' H')/\∀ x H',(Itv K a xs.length).yld i H x H'->g x σ H' fun σ2 H2=>tb { D with nx:=N,ct:=N,bk:=D.nx } σ2 H2):=by
 refine ⟨fun i m σ H=>m=xs.length-i/\i<=xs.length/\Pv i σ H,⟨xs.length,by simp,dN _,h0⟩,?_⟩
 rintro i m σ H ⟨rfl,hi,p⟩
 have q:=hl i σ H hi p
 by_cases hlt:i<xs.length
 ·refine .inr ⟨⟨xs,q,rfl,hlt⟩,Pv (i+1),fun σ' H' p'=>⟨xs.length-(i+1),by omega,rfl,hlt,p'⟩,fun x H' y=>?_⟩
  obtain ⟨rfl,hx⟩:=y
  exact hs i x σ H' (by rw [M9 hlt];exact hx xs q) p
 ·have e:i=xs.length:=by omega
  subst e
  exact .inl ⟨aX _,hd σ H p⟩
def Tg:Oi (.type "list_reverseiterator") "__len__" = pure none:=by rw [Yl,Yg];kernel_rfl
def abb:Oi (.type "list_reverseiterator") "__length_hint__" = pure (some (.builtin "list_reverseiterator.__length_hint__")):=by rw [Yl,Yg];kernel_rfl
section
variable {prog:bG} {w:World} {A:bQ} {E:Value->aG->Prop} {s:aG} {r l:Addr}
def abd {Q:Bool->aG->Prop} (ty:s.TypeIs (.ref r) "list_reverseiterator") (h:Q false s):wpAny (model prog w) A (Zf (.ref r)) Q E s:=by
 unfold Zf
 refine aP (N5 ty Tg ?_)
 wp_delta
 refine vR (fun q=>absurd q (by decide)) fun _=>?_
 refine vR (fun q=>absurd q (by decide)) fun _=>?_
 refine aP (N5 ty abb ?_)
 generalize hid:("list_reverseiterator.__length_hint__" : String)=nm
 wp_delta
 rw [show splitId nm=some ("list_reverseiterator","__length_hint__") from by rw [<- hid];decide +kernel]
 subst hid
 refine aP (wpAny_isInstance (T := "list_reverseiterator") (b:=true) ty (by rw [isSubtype_type];kernel_rfl) ?_)
 refine vR (fun q=>absurd q (by decide)) fun _=>?_
 refine vR (fun _=>?_) fun q=>absurd (by decide +kernel) q
 refine vR (fun q=>absurd q (by decide +kernel)) fun _=>?_
 exact bH h
def Behind (items:Array Value) (i:Nat) (v:Value):Prop:=items[items.size-1-i]? = some v
def Lr {R:qK->aG->Prop} {items:Array Value} (hh:A.handled=none) (hr:s.heap.IsRevIter r l ((items.size:Int)-1)) (hl:s.heap.IsList l items) (hrl:l≠r) (S:Addr) (n1:S≠r) (n2:S≠l) (res:Value) (c:Nat)
  (hS:s.heap.get? S=some { cls:=.type "list",data:=.seq #[] c }) (hz:items.size<=sizeLine)
  (hR:∀ h' tk acc d,(∀ b o,b≠S->b≠r->s.heap.get? b=some o->h'.get? b=some o)->h'.get? S=some { cls:=.type "list",dict:=none,data:=.seq acc d,slots:=#[] }->Aa (Behind items) acc items.size->R (.ok (.ret res)) { s with heap:=h',toks:=tk }) :
  wpAny (model prog w) A.in1 (Am (.ref S) (.ref r) res) (fun fin t=>match fin with | .done f=>R (.ok f) t | .again k=>k.quiet=true/\g8 (model prog w) A k R t) (fun e t=>R (.error e) t) s:=by
 have W:=Walks.listRev (prog:=prog) (w:=w) (A:=A.in1) hh r l hrl items
 have away:S∉[r,l]:=by
  simp only [cC,qb,or_false,not_or]
  exact ⟨n1,n2⟩
 unfold Am
 refine aP (Gg (T := "list_reverseiterator") hr.typeIs ?_)
 have e1:Zg (.ref S) (.ref r)=false:=by simp [Zg,n1]
 have e2:(Value.type "list_reverseiterator" == Value.type "list")=false:=by decide
 have e3:(Value.type "list_reverseiterator" == Value.type "tuple")=false:=by decide
 simp only [e1,e2,e3,Bool.or_false,GF,if_false]
 refine aP (FP hr ?_)
 refine aP (nP (abd hr.typeIs ?_))
 refine vR (fun q=>absurd q (by decide)) fun _=>bH ⟨mR PySem.F.plain_extend_loop _,?_⟩
 refine codeAny_extend_loopS W.toS hz S away res items.size 0 _ #[] c rfl (dN _) ⟨dN _,by simpa using hr,hl⟩ hS (ItemsOf.nil _) fun t acc d hm hS2 hacc=>?_
 rw [Moved.eq_with hm]
 refine hR t.heap t.toks acc d (fun b o hb hb2 e=>hm.heap b o (fun m=>?_) e) hS2 hacc
 rcases cC.mp m with q | q
 ·exact hb q
 ·exact hb2 (fP.mp q)
def abe {R:qK->aG->Prop} {items:Array Value} (hh:A.handled=none) (hr:s.heap.IsRevIter r l ((items.size:Int)-1)) (hl:s.heap.IsList l items) (hrl:l≠r) (S:Addr) (n1:S≠r) (n2:S≠l)
  (hS:s.heap.get? S=some { cls:=.type "list",data:=.seq #[] }) (hz:items.size<=sizeLine)
  (hR:∀ h' tk acc d,(∀ b o,b≠S->b≠r->s.heap.get? b=some o->h'.get? b=some o)->h'.get? S=some { cls:=.type "list",dict:=none,data:=.seq acc d,slots:=#[] }->Aa (Behind items) acc items.size->R (.ok (.ret .none)) { s with heap:=h',toks:=tk }) :
  wpAny (model prog w) A.in1 (lg.«list.__init__» ⟨[.ref S,.ref r],[]⟩) (fun fin t=>match fin with | .done f=>R (.ok f) t | .again k=>k.quiet=true/\g8 (model prog w) A k R t) (fun e t=>R (.error e) t) s:=by
 show wpAny _ _ (do let was <- Pb (.ref S);aeo (.ref S) (fun _=>#[]);letGo was.toList.reverse;Am (.ref S) (.ref r) .none) _ _ s
 refine aP ?_
 unfold Pb
 refine aP (oK hS rfl (bH ?_))
 show wpAny _ _ (updateSeq S (fun _=>#[]) >>= fun _=>letGo (#[]:Array Value).toList.reverse >>= fun _=>Am (.ref S) (.ref r) Value.none) _ _ s
 refine aP (tD hS rfl ?_)
 have hS2:=v8 (jE (fun _=>(#[]:Array Value))) hS rfl
 have rest:∀ b o,b≠S->s.heap.get? b=some o->(s.heap.update S (jE (fun _=>(#[]:Array Value)))).get? b=some o:=fun b o n e=>(nQ _ _ (aL n)).trans e
 refine aP (oM ?_)
 refine Lr hh (hr.at fun o e=>rest r o (aL n1) e) (hl.at fun o e=>rest l o (aL n2) e) hrl S n1 n2 .none _ hS2 hz fun h' tk acc d hk hS3 hacc=>?_
 exact hR h' tk acc d (fun b o n m e=>hk b o n m (rest b o n e)) hS3 hacc
def abf {Q:Value->aG->Prop} {items:Array Value} (hh:A.handled=none) (hr:s.heap.IsRevIter r l ((items.size:Int)-1)) (hl:s.heap.IsList l items) (hrl:l≠r) (hz:items.size<=sizeLine)
  (hQ:∀ h' tk acc d,(∀ b o,b≠r->s.heap.get? b=some o->h'.get? b=some o)->h'.get? s.heap.objs.size=some { cls:=.type "list",dict:=none,data:=.seq acc d,slots:=#[] }->Aa (Behind items) acc items.size->Q (.ref s.heap.objs.size) { s with heap:=h',toks:=tk }) :
  wpAny (model prog w) A (call (.type "list") [.ref r]) Q E s:=by
 refine callType_codes (Q₁:=fun o t=>o = .ref s.heap.objs.size/\t={ s with heap:=s.heap.push { cls:=.type "list",data:=.seq #[] } }) PySem.F.called_list (PySem.F.typeCall_list_1 _) PySem.F.entry_list_init (code_list_new _ ⟨rfl,rfl⟩) fun o t ht=>?_
 obtain ⟨rfl,rfl⟩:=ht
 have hS:(s.heap.push { cls:=.type "list",data:=.seq #[] }).get? s.heap.objs.size=some { cls:=.type "list",data:=.seq #[] }:=fW _ rfl
 obtain ⟨o1,g1,_⟩:=id hr
 obtain ⟨o2,g2,_⟩:=id hl
 refine ⟨⟨_,hS,rfl⟩,PySem.F.args_list_init_2 _ _,abe (A:=A.in1) hh (hr.at fun o e=>eZ _ e) (hl.at fun o e=>eZ _ e) hrl _ (tO (bY g1)) (tO (bY g2)) hS hz fun h' tk acc d hk hS2 hacc=>?_⟩
 exact ⟨rfl,hQ h' tk acc d (fun b o n e=>hk b o (cZ (bY e)) n (eZ _ e)) hS2 hacc⟩
def IK:∀ {xs:List V} {us:List Value},us.length=xs.length->(∀ (j:Nat) (x:V) (u:Value),xs[j]? = some x->us[j]? = some u->RelV x u)->Vals xs us
 | [],[],_,_=>.nil
 | [],_::_,h,_=>by cases h
 | _::_,[],h,_=>by cases h
 | x::xs,u::us,h,k=>.cons (k 0 x u rfl rfl) (IK (by simpa using h) fun j y v hy hv=>k (j+1) y v (by simpa using hy) (by simpa using hv))
end
section
variable {X:Cx} {l:Expr} {tl:TE} {p p' pos pos':Pos}
def abg (K:bh) (ta:TA):TE:=fun σ H Q=>ta σ H fun vs H1=>∃ a xs,vs=[.ref a]/\SqL K H1 a xs/\∀ q,H1 q=none->Q (.ref q) (upd H1 q (.lst xs.reverse))
def Ti {ta:TA} (hm0:X.mg "list" = none) (hm1:X.mg "reversed" = none) (ha:PA X [l] ta) (hc:X.calm=true) (hg0:Gl X "list" := by rfl) (hg1:Gl X "reversed" := by rfl)
  (he:dM [.Call (.Name "reversed" p') [l] [] pos'] X.env=[(false,eval (.Call (.Name "reversed" p') [l] [] pos') X.env)]:=by rfl) (hs:dM [l] X.env=[(false,eval l X.env)]:=by rfl) :
  PE X (.Call (.Name "list" p) [.Call (.Name "reversed" p') [l] [] pos'] [] pos) (abg X.K ta):=by
 intro pins s σ H Q I h
 refine Call_ (lE I hg0 hm0 boot_list (Dy ?_ he rfl))
 rw [he]
 refine yh (Call_ (lE I hg1 hm1 Pn (Dy (thn (ha pos' pins s σ H _ I h) fun us s1 ⟨vs,H1,I1,r1,q1⟩=>?_) hs rfl)))
 obtain ⟨a,xs,e,hq,q⟩:=q1
 subst e
 obtain ⟨u,rfl,ru⟩:=vals1 r1
 cases ru
 obtain ⟨its,rv,pl,hz⟩:=I1.list hq
 have hlen:=rv.length
 refine NP pl.isList (ud ?_)
 show wpAny _ _ (call (.type "list") [.ref s1.heap.objs.size]) _ _ _
 have hla:a≠s1.heap.objs.size:=by
  obtain ⟨o,g,_⟩:=pl.isList
  exact cZ (bY g)
 refine abf (items:=its.toArray) (I1.ok.hd hc) ⟨_,fW _ rfl,rfl,rfl⟩ (pl.isList.at fun o e=>eZ _ e) hla (by rw [cO];omega) fun h' tk acc d hk hS hacc=>?_
 have kp:∀ b o,s1.heap.get? b=some o->h'.get? b=some o:=fun b o e=>hk b o (cZ (bY e)) (eZ _ e)
 have hsz:(s1.heap.push (revObj a ((its.toArray.size:Int)-1))).objs.size=s1.heap.objs.size+1:=Ht _ _
 have rr:Vals xs.reverse acc.toList:=IK (by rw [lC,hacc.1,cO,sy];omega) fun j x u hx hu=>by
  have hj:j<xs.length:=by
   have:=(gZ.mp hx).1
   rwa [sy] at this
  rw [M9 hj] at hx
  have hb:Behind its.toArray j u:=hacc.2 j u (by rw [<- Al];exact hu)
  unfold Behind at hb
  rw [cO,<- hlen] at hb
  obtain ⟨v,hv,rvv⟩:=rv.get hx
  have:u=v:=bZ (hb.symm.trans (by simpa using hv))
  rw [this];exact rvv
 refine ⟨.ref _,_,I1.laid (a:=(s1.heap.push (revObj a ((its.toArray.size:Int)-1))).objs.size) (o:=.lst xs.reverse) (t':=tk) kp (by rw [hsz];exact oU _) ?_,rfl,q _ (I1.hok.fresh (by rw [hsz];exact oU _))⟩
 exact ⟨by rw [sy];omega,acc.toList,d,rr,by first | (rw [Y9];exact hS) | simpa using hS⟩
end
end L2
namespace L2
open PySem PySem.Spec PyProof.Rows
inductive Alike (K:bh) (H:Hp):Nat->V->V->Prop where
 | flat {n:Nat} {x:V} (h:qg x=true):Alike K H n x x
 | lst {n:Nat} {a b:Addr} {xs ys:List V} (ha:SqL K H a xs) (hb:SqL K H b ys) (hl:xs.length=ys.length) (h:∀ (i:Nat) (x y:V),xs[i]? = some x->ys[i]? = some y->Alike K H n x y):Alike K H (n+1) (.ref a) (.ref b)
 | tup {n:Nat} {a b:Addr} {xs ys:List V} (ha:SqT K H a xs) (hb:SqT K H b ys) (hl:xs.length=ys.length) (h:∀ (i:Nat) (x y:V),xs[i]? = some x->ys[i]? = some y->Alike K H n x y):Alike K H (n+1) (.ref a) (.ref b)
def Lw {x:V} (h:qg x=true):eqV x x=true:=by
 cases x with
 | non=>rfl
 | bl b=>show (b == b)=true;simp
 | int i=>show (i == i)=true;simp
 | str z=>show (z == z)=true;simp
 | byt _=>cases h
 | flt _=>cases h
 | ref _=>cases h
 | ty _=>cases h
section
variable {X:Cx} {pins:List (Addr × Obj)} {σ:St} {H:Hp} {s:aG}
def all_true (n:Nat):((vO n).all fun _=>true)=true:=by simp
def mJ {K:bh} {A:bQ} {n:Nat} {xs ys:List V} {us vs:List Value} (ru:Vals xs us) (rv:Vals ys vs)
  (h:∀ (i:Nat) (x y:V),xs[i]? = some x->ys[i]? = some y->Alike K H n x y) (ih:∀ (x y:V) (u v:Value),Alike K H n x y->RelV x u->RelV y v->Av A s u v true) :
  ∀ j (h1:j<us.toArray.size) (h2:j<vs.toArray.size),Av A s us.toArray[j] vs.toArray[j] true:=fun j h1 h2=>by
 have e1:j<us.length:=by simpa using h1
 have e2:j<vs.length:=by simpa using h2
 have l1:j<xs.length:=by rw [ru.length];exact e1
 have l2:j<ys.length:=by rw [rv.length];exact e2
 have g1:xs[j]? = some xs[j]:=gw l1
 have g2:ys[j]? = some ys[j]:=gw l2
 obtain ⟨u,k1,r1⟩:=ru.get g1
 obtain ⟨v,k2,r2⟩:=rv.get g2
 have m1:us.toArray[j]=u:=by
  rw [gw e1] at k1
  simpa using k1
 have m2:vs.toArray[j]=v:=by
  rw [gw e2] at k2
  simpa using k2
 rw [m1,m2]
 exact ih _ _ _ _ (h j _ _ g1 g2) r1 r2
def Lx (I:Inv X pins σ H s):∀ (n:Nat) (A:bQ) (x y:V) (u v:Value),A.units+n<cLine->Alike X.K H n x y->RelV x u->RelV y v->Av A s u v true
 | 0,A,x,y,u,v,hu,h,ru,rv=>by
  cases h with
  | flat f=>have:=Sq (A:=A) (s:=s) ru rv f f;rw [Lw f] at this;exact this
 | n+1,A,x,y,u,v,hu,h,ru,rv=>by
  have ih:=fun (x y:V) (u v:Value) (k:Alike X.K H n x y) (r1:RelV x u) (r2:RelV y v)=>Lx I n A.in1 x y u v (by show A.units+1+n<cLine;omega) k r1 r2
  cases h with
  | flat f=>have:=Sq (A:=A) (s:=s) ru rv f f;rw [Lw f] at this;exact this
  | @lst _ a b xs ys ha hb hl k =>
   obtain rfl:u=Value.ref a:=ru
   obtain rfl:v=Value.ref b:=rv
   by_cases e:a=b
   ·subst e;exact Qd _
   ·obtain ⟨us,r1,p1,_⟩:=I.list ha
    obtain ⟨vs,r2,p2,_⟩:=I.list hb
    have:=Z1 (A:=A) p1.isList p2.isList (by rw [cO,cO,<- r1.length,<- r2.length,hl]) (by omega) (mJ r1 r2 k ih)
    rw [all_true] at this
    exact ZS e this
  | @tup _ a b xs ys ha hb hl k =>
   obtain rfl:u=Value.ref a:=ru
   obtain rfl:v=Value.ref b:=rv
   by_cases e:a=b
   ·subst e;exact Qd _
   ·obtain ⟨us,r1,p1,_⟩:=I.tuple ha
    obtain ⟨vs,r2,p2,_⟩:=I.tuple hb
    have hs:us.toArray.size=vs.toArray.size:=by rw [cO,cO,<- r1.length,<- r2.length,hl]
    have:=Z0 (A:=A) p1 p2 (by omega) (mJ r1 r2 k ih)
    rw [all_true,hs] at this
    exact ZS e (by simpa using this)
def afX (K:bh) (b:Bool):R2:=fun x y H Q=>∃ n p q,x = .ref p/\y = .ref q/\n<=40/\Alike K H n x y/\Q (.bl b) H
def afY (hu:X.A.units+64<cLine):OpR X (iV .Eq) (afX X.K true):=by
 intro pins s σ H x y v u Q I rx ry h
 obtain ⟨n,p,q,rfl,rfl,hn,k,w⟩:=h
 obtain rfl:v=Value.ref p:=rx
 obtain rfl:u=Value.ref q:=ry
 have ih:=fun m (hm:m+1<=40) (x y:V) (u v:Value) (k:Alike X.K H m x y) (r1:RelV x u) (r2:RelV y v)=>Lx I m X.A.in1 x y u v (by show X.A.units+1+m<cLine;omega) k r1 r2
 have fin:EP X pins σ Q (.bool true) s:=⟨.bl true,H,I,rfl,w⟩
 cases k with
 | flat f=>cases f
 | @lst m a b xs ys ha hb hl k =>
  obtain ⟨us,r1,p1,_⟩:=I.list ha
  obtain ⟨vs,r2,p2,_⟩:=I.list hb
  have:=Z1 (A:=X.A) p1.isList p2.isList (by rw [cO,cO,<- r1.length,<- r2.length,hl]) (by omega) (mJ r1 r2 k (ih m (by omega)))
  rw [all_true] at this
  exact this X.prog X.w X.xe _ fin
 | @tup m a b xs ys ha hb hl k =>
  obtain ⟨us,r1,p1,_⟩:=I.tuple ha
  obtain ⟨vs,r2,p2,_⟩:=I.tuple hb
  have hs:us.toArray.size=vs.toArray.size:=by rw [cO,cO,<- r1.length,<- r2.length,hl]
  have:=Z0 (A:=X.A) p1 p2 (by omega) (mJ r1 r2 k (ih m (by omega)))
  rw [all_true,hs] at this
  exact (show SeqAt.RcAt X.A s (.ref p) (.ref q) true by simpa using this) X.prog X.w X.xe _ fin
end
end L2
namespace L2
open PySem PySem.Spec PyProof.Rows
section
variable {X:Cx}
def rSumL (K:bh):List V->Hp->VK->Prop:=fun xs H Q=>∃ (a:Addr) (ns:List Int),xs=[V.ref a]/\SqL K H a (ns.map V.int)/\Q (.int ns.sum) H
def Wu (hc:X.calm=true):gY X (.builtin "sum") (rSumL X.K):=by
 intro pins s σ H xs us Q I r h
 obtain ⟨a,ns,rfl,ha,q⟩:=h
 obtain ⟨u,rfl,ru⟩:=vals1 r
 cases ru
 obtain ⟨its,rv,p,hz⟩:=I.list ha
 have hi:=intsAre_of rv
 have hl:=p.isList
 obtain ⟨ys,e⟩:=hi.allInts.items
 have hns:ns=ys.toList.map (·.1):=by rw [<- hi.numsOf,<- N7,<- e]
 rw [e] at hl
 refine sum_intListG (I.ok.hd hc) hl fun h' tk t' hk=>⟨.int ns.sum,H,I.kept hk,⟨t',?_⟩,q⟩
 rw [preSum_eq,M8 (by simp),hns]
end
end L2
namespace L2
open PySem PySem.Spec PyProof.Rows
def yt {K:bh} {a:Addr} {xs:List V} {caps:List Nat} {tt:TT} {te:TE} {σ:St} {H:Hp} {D:Addr} {Q:VK} (Pv:Nat->List V->Hp->Prop) (h0:Pv 0 [] (upd H D (.lst [])))
  (hl:∀ i ys H,i<=xs.length->Pv i ys H->SqL K H a xs/\H D=some (.lst ys)/\ys.length<sizeLine)
  (hs:∀ i ys H x,xs[i]? = some x->Pv i ys H->tt (jk σ (some x) caps) H fun b H2=>if b=true then te (jk σ (some x) caps) H2 fun y H3=>H3 D=some (.lst ys)/\Pv (i+1) (ys++[y]) (upd H3 D (.lst (ys++[y]))) else H2 D=some (.lst ys)/\Pv (i+1) ys H2) (hd:∀ ys H,Pv xs.length ys H->Q (.ref D) H)
  (monoT:∀ σ H (R R':Bool->Hp->Prop),(∀ b H,R b H->R' b H)->tt σ H R->tt σ H R')
  (mono:∀ σ H (Q Q':VK),(∀ y H,Q y H->Q' y H)->te σ H Q->te σ H Q') :
  uW (Itl K a) caps tt te σ D Q H:=by
 refine ⟨fun i m ys H=>m=xs.length-i/\i<=xs.length/\Pv i ys H,⟨xs.length,by simp,dN _,h0⟩,?_⟩
 rintro i m ys H ⟨rfl,hi,p⟩
 obtain ⟨sq,q,z⟩:=hl i ys H hi p
 refine ⟨q,?_⟩
 by_cases hlt:i<xs.length
 ·refine .inr ⟨⟨xs,xs[i],sq,by simp [hlt]⟩,z,fun x H' y=>?_⟩
  obtain ⟨e,y⟩:=y
  subst e
  refine monoT _ _ _ _ (fun b H2 hb=>?_) (hs i ys _ x (y xs sq) p)
  cases b with
  | true =>
   rw [if_pos rfl] at hb ⊢
   exact mono _ _ _ _ (fun y H3 ⟨a,b⟩=>⟨a,xs.length-(i+1),by omega,rfl,hlt,b⟩) hb
  | false =>
   rw [if_neg (by decide)] at hb ⊢
   exact ⟨hb.1,xs.length-(i+1),by omega,rfl,hlt,hb.2⟩
 ·have e:i=xs.length:=by omega
  subst e
  exact .inl ⟨⟨xs,sq,aX _⟩,hd ys H p⟩
end L2
namespace L2
open PySem PySem.Spec PyProof.Rows
def qz (te:TE):Prop:=∀ σ H (Q Q':VK),(∀ y H,Q y H->Q' y H)->te σ H Q->te σ H Q'
def zA {r:R2} {ta tb:TE} (hr:∀ x y H (Q Q':VK),(∀ y H,Q y H->Q' y H)->r x y H Q->r x y H Q') (ma:qz ta) (mb:qz tb):qz (tOp r ta tb):=fun σ H Q Q' hq h =>
 ma σ H _ _ (fun x H1 h1=>mb σ H1 _ _ (fun y H2 h2=>hr x y H2 Q Q' hq h2) h1) h
def Vc {K:bh} {ta tb:TE} (ma:qz ta) (mb:qz tb):qz (tOp (Sx K) ta tb):=zA (fun x y H Q Q' hq h2=>by
 rcases h2 with ⟨a1,a2,a3,a4,a5,a6,a7,a8,q⟩ | ⟨a1,a2,a3,a4,a5,a6,a7,a8,q⟩ | ⟨a1,a2,a3,a4,q⟩
 ·exact .inl ⟨a1,a2,a3,a4,a5,a6,a7,a8,hq _ _ q⟩
 ·exact .inr (.inl ⟨a1,a2,a3,a4,a5,a6,a7,a8,hq _ _ q⟩)
 ·exact .inr (.inr ⟨a1,a2,a3,a4,hq _ _ q⟩)) ma mb
def zB {f:Int->Int->V} {ta tb:TE} (ma:qz ta) (mb:qz tb):qz (tOp (rI0 f) ta tb):=zA (fun x y H Q Q' hq h2=>by
 obtain ⟨a1,a2,a3,a4,q⟩:=h2
 exact ⟨a1,a2,a3,a4,hq _ _ q⟩) ma mb
def dO (i:Nat):qz (tVar i):=fun σ H Q Q' hq ⟨v,e,q⟩=>⟨v,e,hq _ _ q⟩
def IV (v:V):qz (tC v):=fun σ H Q Q' hq q=>hq _ _ q
def Ek (ta:TA):Prop:=∀ σ H (Q Q':List V->Hp->Prop),(∀ xs H,Q xs H->Q' xs H)->ta σ H Q->ta σ H Q'
def vd:Ek aat:=fun σ H Q Q' hq q=>hq _ _ q
def oA {ta:TE} {tr:TA} (ma:qz ta) (mr:Ek tr):Ek (Kv ta tr):=fun σ H Q Q' hq h=>ma σ H _ _ (fun x H1 h1=>mr σ H1 _ _ (fun xs H2 h2=>hq _ _ h2) h1) h
def abh {ta:TA} (ma:Ek ta):qz (tTup ta):=fun σ H Q Q' hq h=>ma σ H _ _ (fun xs H1 h1=>⟨h1.1,fun p hp=>hq _ _ (h1.2 p hp)⟩) h
end L2
namespace L2
open PySem PySem.Spec PyProof.Rows
section
variable {X:Cx} {tg:Expr}
end
end L2
namespace L2
open PySem PySem.Spec PyProof.Rows
section
variable {X:Cx} {l:Expr} {td:TE} {p cpos apos pos:Pos}
end
end L2
namespace L2
open PySem PySem.Spec PyProof.Rows
def MonoT (tt:TT):Prop:=∀ σ H (R R':Bool->Hp->Prop),(∀ b H,R b H->R' b H)->tt σ H R->tt σ H R'
def jo {te:TE} (m:qz te):MonoT (aap te):=fun σ H R R' hr h=>m σ H _ _ (fun y H1 h1=>by
 obtain ⟨b,e,r⟩:=h1
 exact ⟨b,e,hr _ _ r⟩) h
end L2
namespace L2
open PySem PySem.Spec PyProof.Rows
section
variable {X:Cx}
end
end L2
namespace L2
open PySem PySem.Spec PyProof.Rows
section
variable {X:Cx}
end
end L2
namespace L2
open PySem PySem.Spec PyProof.Rows
def Vd {r:List V->Hp->VK->Prop} {ta:TA} (hr:∀ vs H (Q Q':VK),(∀ y H,Q y H->Q' y H)->r vs H Q->r vs H Q') (ma:Ek ta):qz (tCB r ta):=fun σ H Q Q' hq h=>ma σ H _ _ (fun vs H1 h1=>hr vs H1 Q Q' hq h1) h
def Ly {K:bh} {ta:TA} (ma:Ek ta):qz (tCB (UL K) ta):=Vd (fun vs H Q Q' hq h=>by
 rcases h with ⟨x,n,e,l,q⟩ | ⟨a,kvs,e,r,q⟩
 ·exact .inl ⟨x,n,e,l,hq _ _ q⟩
 ·exact .inr ⟨a,kvs,e,r,hq _ _ q⟩) ma
def Lz {K:bh} {ta:TE} {f:Str} (ma:qz ta):qz (tFld K ta f):=fun σ H Q Q' hq h=>ma σ H _ _ (fun x H1 h1=>by
 obtain ⟨a,C,dx,fs,v,e,h2,c,n,l,q⟩:=h1
 exact ⟨a,C,dx,fs,v,e,h2,c,n,l,hq _ _ q⟩) h
end L2
namespace L2
open PySem PySem.Spec PyProof.Rows
section
variable {X:Cx}
def bits_le {x:Int} {n:Nat} (h:x.natAbs<2 ^ n):wD x<=n:=by
 unfold wD
 split
 ·exact dN _
 ·rename_i hx
  have h0:x.natAbs≠0:=by
   intro z
   apply hx
   have:x=0:=by omega
   rw [this];rfl
  have:=(OJ h0).mpr h
  omega
def adR (i j:Int):Prop:=∃ n m:Nat,i.natAbs<2 ^ n/\j.natAbs<2 ^ m/\n+m<=134217728
def adR.ok {i j:Int} (h:adR i j):Ou i j:=by
 obtain ⟨n,m,h1,h2,h3⟩:=h
 have b1:=bits_le h1
 have b2:=bits_le h2
 unfold Ou
 have:Zz ((wD i:Int)+wD j)=false:=by
  unfold Zz
  refine decide_eq_false ?_
  show ¬ ((wD i:Int)+wD j>((134217728:Nat):Int))
  omega
 rw [this];simp
end
end L2
namespace L2
open PySem PySem.Spec PyProof.Rows
def abj (ns:List Int) (lo hi:Option Int):∃ ms:List Int,Bf (ns.map V.int) lo hi=ms.map V.int/\ms.length<=ns.length/\∀ m∈ms,m∈ns:=by
 refine ⟨(ns.drop (HT.sIx (ns.map V.int).length 0 lo)).take (HT.sIx (ns.map V.int).length (ns.map V.int).length hi-HT.sIx (ns.map V.int).length 0 lo),?_,?_,fun m hm=>Nf (Fj hm)⟩
 ·unfold Bf
  rw [List.map_take,Fy]
 ·rw [iw,Fo]
  omega
def int_at {ns:List Int} {i:Nat} {y:V} (h:(ns.map V.int)[i]? = some y):∃ z,ns[i]? = some z/\y=V.int z:=by
 rw [kW] at h
 cases e:ns[i]? with
 | none=>rw [e] at h;cases h
 | some z=>rw [e] at h;exact ⟨z,rfl,(bZ h).symm⟩
def vf {ns:List Int} {i:Int} (h0:0<=i) (h1:i<(ns.length:Int)):∃ v,v∈ns/\atI (ns.map V.int) i=some (.int v):=by
 have e:ns[i.toNat]? = some (ns[i.toNat]'(by omega)):=gw (by omega)
 refine ⟨_,List.mem_of_getElem? e,?_⟩
 have:=Ie (xs:=ns.map V.int) (j:=i.toNat) (v:=.int (ns[i.toNat]'(by omega))) (by rw [kW,e];rfl)
 rwa [YW h0] at this
def four {a b c d v:Int} (h:v∈[a,b,c,d]):v=a\/v=b\/v=c\/v=d:=by simpa using h
end L2
namespace L2
open PySem PySem.Spec PyProof.Rows
def bV (f:Str) (v:V):aB f v []=[(f,v)]:=rfl
def gR (f:Str) (v:V) (r:List (Str × V)) (u:V):aB f v ((f,u)::r)=(f,v)::r:=by
 unfold aB
 rw [if_pos rfl]
def aD {f g:Str} (h:¬ g=f) (v:V) (r:List (Str × V)) (u:V):aB f v ((g,u)::r)=(g,u)::aB f v r:=by
 rw [aB,if_neg h]
def cJ {f m:Str} {v:V} {r:List (Str × V)} (h:¬ m=f):((f,v)::r).lookup m=r.lookup m:=by
 rw [Nk]
 rw [beq_eq_false_iff_ne.mpr h]
def LC {a:Addr}:decide (V.ref a=V.non)=false:=decide_eq_false (by intro z;cases z)
def LQ:decide (V.non=V.non)=true:=decide_eq_true rfl
def cN {p a:Addr} {H H':Hp} (b:But p H H') (h:H' a=none) (n:a≠p):H a=none:=by
 cases e:H a with
 | none=>rfl
 | some o=>rw [b a o e n] at h;cases h
end L2
namespace L2
open PySem PySem.Spec PyProof.Rows
section
variable {X:Cx}
end
end L2
namespace Dec
abbrev dg (n:Nat):List Char:=Nat.toDigits 10 n
def El {n:Nat} (h:n<10):dg n=[Oz n]:=Nat.toDigits_of_lt_base h
def Ve {n:Nat} (h:10<=n):dg n=dg (n / 10)++dg (n % 10):=by
 have:=Nat.toDigits_append_toDigits (b:=10) (n:=n / 10) (d:=n % 10) (by decide) (by omega) (by omega)
 rw [show 10*(n / 10)+n % 10=n by omega] at this
 exact this.symm
def Tj (n:Nat):(dg (n % 10)).length=1:=by rw [El (by omega)];rfl
def pad (k m:Nat):List Char:=Fv (k-(dg m).length) '0'++dg m
def wQ:∀ (k:Nat) {m:Nat},1<=k->m<10 ^ k->(dg m).length<=k
 | 0,_,h,_=>by omega
 | k+1,m,_,h=>by
  rcases nR m 10 with l | l
  ·rw [El l];exact Nat.succ_le_succ (dN _)
  ·rw [Ve l,dR,Tj]
   have hk:1<=k:=by
    rcases v9 k with rfl | z
    ·rw [qM,Nat.pow_one] at h;omega
    ·exact z
   have:=wQ k hk (m:=m / 10) (by rw [lq] at h;omega)
   omega
def abk {k m:Nat} (hk:1<=k) (h:m<10 ^ (k+1)):pad (k+1) m=pad k (m / 10)++dg (m % 10):=by
 unfold pad
 rcases nR m 10 with l | l
 ·rw [show m / 10=0 by omega,show m % 10=m by omega,El l,El (show 0<10 by decide)]
  show Fv (k+1-1) '0'++[Oz m]=Fv (k-1) '0'++['0']++[Oz m]
  rw [show k+1-1=(k-1)+1 by omega,List.replicate_succ']
 ·have:=wQ k hk (m:=m / 10) (by rw [lq] at h;omega)
  rw [Ve l,dR,Tj,<- iU]
  rw [show k+1-((dg (m / 10)).length+1)=k-(dg (m / 10)).length by omega]
def LR {n:Nat} (hn:0<n):∀ (k:Nat) {m:Nat},1<=k->m<10 ^ k->dg (n*10 ^ k+m)=dg n++pad k m
 | 0,_,h,_=>by omega
 | k+1,m,_,h=>by
  have e:(n*10 ^ (k+1)+m) / 10=n*10 ^ k+m / 10:=by rw [lq,<- oR];omega
  have e2:(n*10 ^ (k+1)+m) % 10=m % 10:=by rw [lq,<- oR];omega
  have big:10<=n*10 ^ (k+1)+m:=by
   have:=Yy hn (Af (show 0<10 by decide) (show 1<=k+1 by omega))
   omega
  rw [Ve big,e,e2]
  rcases v9 k with rfl | z
  ·rw [Gz,Nat.mul_one] at *
   have hm:m<10:=by simpa using h
   rw [show m / 10=0 by omega,Nat.add_zero,show m % 10=m by omega]
   unfold pad
   rw [El hm];rfl
  ·rw [LR hn k z (by rw [lq] at h;omega),abk z h,iU]
end Dec
namespace Dec
open PySem
def tx (cs:List Char):Str:=⟨(cs.map aac).toArray⟩
def wR (cs:List Char):(tx cs).length=cs.length:=by
 show ((cs.map aac).toArray).size=_
 rw [cO,aZ]
def Vf (n:Nat):(GC n).toList=dg n:=by
 unfold GC
 exact String.toList_ofList
def vg (n:Nat):bM (toString (n:Int))=tx (dg n):=by
 rw [Yv,show toString (n:Int)=GC n from rfl,Vf];rfl
def IW {n:Nat} (h:0<n):bM (toString (-(n:Int)))=tx ('-'::dg n):=by
 obtain ⟨m,rfl⟩:∃ m,n=m+1:=⟨n-1,by omega⟩
 rw [Yv,show toString (-((m+1:Nat):Int)) = "-" ++ GC (m+1) from rfl,String.toList_append,Vf];rfl
def abl {n:Nat} {c:Char} (h:c∈dg n):48<=c.toNat/\c.toNat<=57:=by
 have:=Nat.isDigit_of_mem_toDigits (by decide) (by decide) h
 simp [Char.isDigit] at this
 exact ⟨this.1,this.2⟩
def dg_ne (n:Nat):dg n≠[]:=by
 rcases nR n 10 with l | l
 ·rw [El l];exact p8 _ _
 ·rw [Ve l]
  intro e
  have:=congrArg kE e
  rw [dR,Tj] at this
  simp at this
def abm {k m:Nat} (hk:1<=k) (h:m<10 ^ k):Hv (tx (dg m)) k=tx (pad k m):=by
 have hl:=wQ k hk h
 unfold Hv pad
 rw [wR]
 by_cases e:(k:Int)<=(dg m).length
 ·rw [if_pos e,show k-(dg m).length=0 by omega];rfl
 ·rw [if_neg e]
  unfold zfilled
  obtain ⟨c,cs,ec⟩:=M5 (dg_ne m)
  have hc:=abl (n:=m) (c:=c) (by rw [ec];exact eF)
  have e0:(tx (dg m)).cps[0]? = some c.toNat:=by rw [ec];rfl
  rw [e0]
  have:(match some c.toNat with | some 43=>true | some 45=>true | _=>false)=false:=by
   split
   ·rename_i z;have:=bZ z;omega
   ·rename_i z;have:=bZ z;omega
   ·rfl
  split
  ·rename_i z;have:=bZ z;omega
  ·rename_i z;have:=bZ z;omega
  ·unfold aeB tx
   rw [Int.toNat_natCast]
   apply congrArg Str.mk
   apply Hi.mp
   simp
end Dec
namespace Dec
open PySem
def Em:∀ (ys:List Str) (acc:Array Nat),ys.foldl (fun acc p=>acc++(⟨#[]⟩:Str).cps++p.cps) acc=acc++(ys.flatMap fun y=>y.cps.toList).toArray
 | [],acc=>by simp
 | y::ys,acc=>by
  rw [Nt,Em ys,xU]
  apply Hi.mp
  simp
def join_none (css:List (List Char)):eV ⟨#[]⟩ (css.map tx)=tx css.flatten:=by
 show Hy ⟨#[]⟩ (css.map tx)=_
 unfold Hy
 cases css with
 | nil=>rfl
 | cons c cs =>
  rw [dZ]
  show (⟨(cs.map tx).foldl (fun acc p=>acc++(⟨#[]⟩:Str).cps++p.cps) (tx c).cps⟩:Str)=_
  rw [Em]
  apply congrArg Str.mk
  apply Hi.mp
  unfold tx
  simp only [List.flatMap,iM,Hh,List.flatten_cons]
  rw [cW,List.map_flatten];rfl
end Dec
namespace L2
open PySem PySem.Spec PyProof.Rows
section
variable {X:Cx}
def Ja:∀ {ys:List Str} {its:List Value},Vals (ys.map V.str) its->StrsAre its ys
 | [],_,h=>by cases h;exact .nil
 | y::ys,_,h=>by
  cases h with
  | cons r1 r2=>obtain ⟨t,rfl⟩:=r1;exact .cons _ _ (Ja r2)
def rJoin (K:bh):V->List V->Hp->VK->Prop:=fun x vs H Q=>∃ (sep:Str) (a:Addr) (ys:List Str),x = .str sep/\vs=[.ref a]/\SqL K H a (ys.map V.str)/\sep.length<=16/\(ys.map (·.length)).sum+ys.length<=1048576/\Q (.str (eV sep ys)) H
def vh:MtR X "str.join" (rJoin X.K):=by
 intro pins s σ H x vs v us Q I rx rv h
 obtain ⟨sep,a,ys,rfl,rfl,hs,h16,hw,q⟩:=h
 obtain ⟨t,rfl⟩:=(show ∃ t,v=Value.str sep t from rx)
 obtain ⟨u,rfl,ru⟩:=vals1 rv
 cases ru
 obtain ⟨its,r,p,hz⟩:=I.list hs
 exact join_listW p.isList (Ja r) h16 hw fun t' k=>⟨.str _,H,I.tok k,⟨t',rfl⟩,q⟩
def afZ:V->List V->Hp->VK->Prop:=fun x vs H Q=>∃ (z:Str) (i:Int),x = .str z/\vs=[.int i]/\PadOk i=true/\Q (.str (Hv z i)) H
def abn:MtR X "str.zfill" afZ:=by
 intro pins s σ H x vs v us Q I rx rv h
 obtain ⟨z,i,rfl,rfl,hp,q⟩:=h
 obtain ⟨t,rfl⟩:=(show ∃ t,v=Value.str z t from rx)
 obtain ⟨u,rfl,ru⟩:=vals1 rv
 obtain ⟨k,rfl⟩:=ru
 exact afr hp fun t' k=>⟨.str _,H,I.tok k,⟨t',rfl⟩,q⟩
def Wv:gY X (.builtin "abs") (fun xs H Q=>∃ i,xs=[.int i]/\Q (.int (if i<0 then -i else i)) H):=by
 intro pins s σ H xs us Q I r h
 obtain ⟨i,rfl,q⟩:=h
 obtain ⟨u,rfl,t,rfl⟩:=vals1 r
 exact call_abs_int fun u k=>⟨.int _,H,I.tok k,⟨u,rfl⟩,q⟩
end
end L2
namespace L2
open PySem PySem.Spec PyProof.Rows
section
variable {X:Cx}
def adS (_ j:Int):Prop:=0<j/\j<2 ^ 200
def abo:OpR X (mV .FloorDiv) (rI adS fun i j=>.int (i / j)) :=
 opI (C:=adS) (g:=fun i j=>i / j) fun i j t u s Q E hc h=>by
  obtain ⟨h0,h1⟩:=hc
  have hl:j.natAbs.log2<9000:=by
   have h3:j.natAbs≠0:=by omega
   have h2:j.natAbs<2 ^ 200:=by omega
   have:=(OJ h3).mpr h2
   omega
  refine Zt (by omega) ?_ (.inl (PyProof.noPylong_of_log2 hl))
  rw [YS i (by omega)];exact h
end
end L2
namespace L2
open PySem PySem.Spec PyProof.Rows
section
variable {prog:bG} {w:World} {A:bQ} {E:Value->aG->Prop} {s:aG} {r l:Addr}
def Ma {Q:List Value->aG->Prop} {items:Array Value} (hh:A.handled=none) (hr:s.heap.IsRevIter r l ((items.size:Int)-1)) (hl:s.heap.IsList l items) (hrl:l≠r) (hz:items.size<=sizeLine)
  (q:∀ h' tk acc,(∀ b o,b≠r->s.heap.get? b=some o->h'.get? b=some o)->Aa (Behind items) acc items.size->Q acc.toList { s with heap:=h',toks:=tk }):wpAny (model prog w) A (collect (.ref r)) Q E s:=by
 obtain ⟨o1,g1,_⟩:=id hr
 obtain ⟨o2,g2,_⟩:=id hl
 unfold collect
 refine aP (wpAny_runValue (qJ PySem.F.entry_proto_collect ?_));rw [yg PySem.F.plain_proto_collect _]
 show wpAny _ A.in1 (newList [] >>= fun l=>again (.builtin "list.__iadd__" ⟨[l,.ref r],[]⟩)) _ _ s;refine aP (xW ?_)
 refine bH ⟨mR YF _,qJ PySem.F.entry_list_iadd ?_⟩;rw [yg YF _]
 have hS:(s.heap.push { cls:=.type "list",data:=.seq #[] }).get? s.heap.objs.size=some { cls:=.type "list",data:=.seq #[] }:=fW _ rfl
 show wpAny _ A.in1 (Am (.ref s.heap.objs.size) (.ref r) (.ref s.heap.objs.size)) _ _ { s with heap:=s.heap.push { cls:=.type "list",data:=.seq #[] } }
 refine Lr (R:=fun res s'=>match res with
  | Except.ok (Flow.ret v)=>wpAny (model prog w) A (match v with
   | .ref a=>load a >>= fun o=>match o.data with
    | .seq xs _=>pure xs.toList
    | _=>unsupported "internal:collect"
   | _=>unsupported "internal:collect") Q E s'
  | Except.ok _=>False
  | Except.error e=>E e s') (s:={ s with heap:=s.heap.push { cls:=.type "list",data:=.seq #[] } }) hh (hr.at fun o e=>eZ _ e) (hl.at fun o e=>eZ _ e) hrl _ (tO (bY g1)) (tO (bY g2)) _ 0 hS hz fun h' tk acc d hk hS2 hacc=>?_
 exact aP (wpAny_load hS2 (bH (q h' tk acc (fun b o n e=>hk b o (cZ (bY e)) n (eZ _ e)) hacc)))
def abp {x:Str} {t:Tok} {Q:Value->aG->Prop} {items:Array Value} {zs:List Str} (hh:A.handled=none) (hr:s.heap.IsRevIter r l ((items.size:Int)-1)) (hl:s.heap.IsList l items) (hrl:l≠r) (hz:items.size<=sizeLine)
  (hs:∀ acc,Aa (Behind items) acc items.size->StrsAre acc.toList zs) (h16:x.length<=16) (hw:(zs.map (·.length)).sum+zs.length<=1048576)
  (q:∀ h' t' k,(∀ b o,b≠r->s.heap.get? b=some o->h'.get? b=some o)->Q (.str (eV x zs) t') { s with heap:=h',toks:=k }) :
  wpAny (model prog w) A (call (.builtin "str.join") [.str x t,.ref r]) Q E s:=by
 apply Gj;apply Yh xY.plain PySem.F.entry_str_join
 refine xY.check _ _ _ _ _ _ _ _ (Oj _ _ _) (PySem.F.args_str_join_2 _ _) ?_
 rw [join_tree_other];refine aP (Gg (T := "list_reverseiterator") hr.typeIs ?_)
 show wpAny _ A.in1 ((Ab (.ref r)).tryCatch _ >>= fun it=>collect it >>= fun its=>joinTail x its) _ _ s
 refine aP (qI (FP hr ?_))
 refine aP (Ma (A:=A.in1) hh hr hl hrl hz fun h' tk acc hk hacc=>?_)
 obtain ⟨ps,e1,e2⟩:=strsAre_values (hs acc hacc)
 subst e2
 rw [e1]
 have ok:=joinOk_of_weight hw h16
 unfold JoinOk at ok;rw [Bool.not_eq_true'] at ok
 have g:Gives (joinTail x (strValues ps)) (joinMade x ps):=by
  cases ps with
  | nil=>exact N6 x [] ok
  | cons a1 r1 =>
   cases r1 with
   | nil=>exact N6 x [a1] ok
   | cons a2 r2=>exact N6 x (a1::a2::r2) ok
 exact g prog w A (wants Q E) _ (post_join ps ⟨joinFit_length ok,fun t' k=>q h' t' k hk⟩)
end
section
variable {X:Cx} {o l:Expr} {to:TE} {p' apos pos' cpos:Pos}
def abq (K:bh) (to:TE) (ta:TA):TE:=fun σ H Q=>to σ H fun x H1=>∃ sep:Str,x = .str sep/\ta σ H1 fun vs H2=>∃ (a:Addr) (ys:List Str),vs=[.ref a]/\SqL K H2 a (ys.map V.str)/\sep.length<=16/\(ys.map (·.length)).sum+ys.length<=1048576/\Q (.str (eV sep ys.reverse)) H2
def Tn {ta:TA} (hm1:X.mg "reversed" = none) (ho:PE X o to) (ha:PA X [l] ta) (hc:X.calm=true) (hg1:Gl X "reversed" := by rfl)
  (hbase:tE o "join" X.env (eval o X.env)=eval o X.env:=by rfl)
  (hfew:((ig cpos (dM [.Call (.Name "reversed" p') [l] [] pos'] X.env)).all (fun x=>!x.1) && (zZ cpos (zW [] X.env)).all (fun x=>x.1.isSome)
   && decide ([Expr.Call (.Name "reversed" p') [l] [] pos'].length+([]:List oN).length+(if ([]:List oN).isEmpty then 0 else 1)<30))=true:=by rfl)
  (hline:(apos.endLine == cpos.line)=true:=by rfl) (he:dM [.Call (.Name "reversed" p') [l] [] pos'] X.env=[(false,eval (.Call (.Name "reversed" p') [l] [] pos') X.env)]:=by rfl) (hs:dM [l] X.env=[(false,eval l X.env)]:=by rfl) :
  PE X (.Call (.Attribute o "join" apos) [.Call (.Name "reversed" p') [l] [] pos'] [] cpos) (abq X.K to ta):=by
 intro pins s σ H Q I h
 refine Ye hbase hfew hline rfl (thn (ho pins s σ H _ I h) fun v s1 ⟨x,H1,I1,rx,q1⟩=>?_)
 obtain ⟨sep,rfl,q1⟩:=q1
 obtain ⟨t,rfl⟩:=(show ∃ t,v=Value.str sep t from rx)
 refine ⟨"str","str.join",Aj,xY,wz,Oj _ _ _,(fun _ e=>nomatch e),?_⟩
 rw [he]
 refine PL rfl (PN (yh (Call_ (lE I1 hg1 hm1 Pn (Dy (thn (ha pos' pins s1 σ H1 _ I1 q1) fun us s2 ⟨vs,H2,I2,r2,q2⟩=>?_) hs rfl)))))
 obtain ⟨a,ys,e,hq,h16,hw,q⟩:=q2
 subst e
 obtain ⟨u,rfl,ru⟩:=vals1 r2
 cases ru
 obtain ⟨its,rv,pl,hz⟩:=I2.list hq
 have hlen:=rv.length
 refine NP pl.isList (ud ?_)
 show wpAny _ _ (call (.builtin "str.join") [.str sep t,.ref s2.heap.objs.size]) _ _ _
 have hla:a≠s2.heap.objs.size:=by
  obtain ⟨o,g,_⟩:=pl.isList
  exact cZ (bY g)
 refine abp (items:=its.toArray) (zs:=ys.reverse) (I2.ok.hd hc) ⟨_,fW _ rfl,rfl,rfl⟩ (pl.isList.at fun o e=>eZ _ e) hla (by rw [cO];omega) (fun acc hacc=>?_) h16 (by rw [uJ,Xu,sy];exact hw) fun h' t' k hk=>?_
 ·refine Ja ?_
  rw [uJ]
  refine IK (by rw [lC,hacc.1,cO,sy];omega) fun j x u hx hu=>?_
  have hj:j<(ys.map V.str).length:=by
   have:=(gZ.mp hx).1
   rwa [sy] at this
  rw [M9 hj] at hx
  have hb:Behind its.toArray j u:=hacc.2 j u (by rw [<- Al];exact hu)
  unfold Behind at hb
  rw [cO,<- hlen] at hb
  obtain ⟨v,hv,rvv⟩:=rv.get hx
  have:u=v:=bZ (hb.symm.trans (by simpa using hv))
  rw [this];exact rvv
 ·exact ⟨.str _,H2,I2.kept (t':=k) fun b o e=>hk b o (cZ (bY e)) (eZ _ e),⟨t',rfl⟩,q⟩
end
end L2
namespace L2
open PySem PySem.Spec PyProof.Rows
section
variable {X:Cx}
def abr (K:bh):V->List V->Hp->VK->Prop:=fun x vs H Q=>∃ l b xs zs,x = .ref l/\vs=[.ref b]/\H l=some (.lst xs)/\SqT K H b zs/\xs.length+zs.length<=sizeLine/\Q .non (upd H l (.lst (xs++zs)))
def Tp:MtM X "list.extend" (abr X.K):=by
 intro pins s σ H x vs v us Q I rx rv h
 obtain ⟨l,b,xs,zs,rfl,rfl,hH,hB,hz,q⟩:=h
 cases rx
 obtain ⟨u,rfl,ru⟩:=rv.one
 cases ru
 obtain ⟨z,its,n,r,hl,e⟩:=I.V4 hH
 obtain ⟨its2,r2,⟨o2,g2,c2,n2,d2⟩,z2⟩:=I.tuple hB
 have hl2:=r2.length
 have h1:its.toArray.size+its2.toArray.size<=sizeLine:=by rw [cO,cO];omega
 refine zV YK ⟨_,e,rfl⟩ YJ ?_ (YH _ _)
 show wpAny _ _ (Am (.ref l) (.ref b) .none) _ _ s
 unfold Am Pb
 refine aP (Gg (T := "tuple") ⟨o2,g2,c2⟩ ?_)
 rw [if_pos (by rw [show (Value.type "tuple" == Value.type "tuple")=true by decide,Bool.or_true])]
 refine aP (aP (oK g2 d2 (bH ?_)))
 refine aP (aP (oK e rfl (bH ?_)))
 rw [if_neg (by rw [Ky h1,YM];exact gF)]
 refine aP (Hr e rfl ?_ (by rw [cO];omega) (by rw [O9];omega))
 refine bH ⟨_,rfl,?_⟩
 refine ⟨.non,_,I.lset (its':=its++its2) hH e (by simp) (r.append r2) ?_,rfl,q⟩
 rw [dR];omega
end
end L2
--%SMALL
set_option Elab.async false
set_option maxRecDepth 100000
set_option maxHeartbeats 4000000
namespace My
open PySem L2 MG
structure Ad where
 dB:Addr
 gP:Addr
 iI:Addr
 iY:Addr
 nU:Addr
 cD:Addr
 f'0:Addr
 pG:bJ
 f'1:Addr
 nj:bJ
 f'2:Addr
 Jb:bJ
 f'3:Addr
 pH:bJ
 f'4:Addr
 lF:bJ
 f'5:Addr
 Bv:bJ
 f'6:Addr
 wU:bJ
 f'7:Addr
 pI:bJ
 f'8:Addr
 rC:bJ
 f'9:Addr
 Bw:bJ
 JR:Addr
 nu:bJ
 Qh:Addr
 jQ:bJ
 Qi:Addr
 pJ:bJ
 Qj:Addr
 nA:bJ
 Qk:Addr
 Bx:bJ
 Ql:Addr
 Tq:bJ
 JT:Addr
 jR:bJ
 Qm:Addr
 uy:bJ
 Qn:Addr
 jd:bJ
 Qo:Addr
 lG:bJ
 JV:Addr
 jT:bJ
 Qp:Addr
 BJ:bJ
 Qq:Addr
 wV:bJ
 Qs:Addr
 lH:bJ
 Qt:Addr
 lJ:bJ
 Qu:Addr
 uz:bJ
 JW:Addr
 lK:bJ
 Qv:Addr
 nF:bJ
 Qw:Addr
 lM:bJ
 Qx:Addr
 lN:bJ
 Qy:Addr
 jU:bJ
 Qz:Addr
 jV:bJ
 JX:Addr
 jW:bJ
 QB:Addr
 Jc:bJ
 QC:Addr
 pK:bJ
 QD:Addr
 pL:bJ
 QF:Addr
 nG:bJ
 QG:Addr
 uD:bJ
 QH:Addr
 pO:bJ
 QJ:Addr
 BK:bJ
 QK:Addr
 pP:bJ
 QL:Addr
 wW:bJ
 QM:Addr
 wX:bJ
 QS:Addr
 wY:bJ
 QT:Addr
 abt:bJ
 QV:Addr
 BL:bJ
 QW:Addr
 lO:bJ
 QX:Addr
 nH:bJ
 QZ:Addr
 jq:bJ
 Q0:Addr
 wZ:bJ
 Q5:Addr
 jX:bJ
 Q6:Addr
 lQ:bJ
 Q7:Addr
 xg:bJ
 Q8:Addr
 xq:bJ
 VB:Addr
 abu:bJ
structure Tx (K:bh) (mg:Str->Option Value) (A:Ad):Prop where
 cG:Cls K A.dB
 Vg:mg "Rungs" = some (.ref A.dB)
 adT:Mk K A.dB A.f'7
 Mf:cB K A.dB "room"
 yu:cB K A.dB "total"
 BP:cB K A.dB "over"
 BR:cB K A.dB "under"
 ql:cB K A.dB "turns"
 BW:cB K A.dB "least"
 BX:cB K A.dB "most"
 BZ:cB K A.dB "rungs"
 fO:Cls K A.gP
 abv:mg "Window" = some (.ref A.gP)
 mk'56:Mk K A.gP A.JR
 Mh:cB K A.gP "room"
 Mi:cB K A.gP "reach"
 qm:cB K A.gP "clock"
 yw:cB K A.gP "boxes"
 gM:Cls K A.iI
 Tt:mg "Distinct" = some (.ref A.iI)
 mk'57:Mk K A.iI A.JT
 Mj:cB K A.iI "room"
 Ca:cB K A.iI "arrivals"
 vm:cB K A.iI "level"
 yx:cB K A.iI "kept"
 gO:Cls K A.iY
 Cd:mg "Frequent" = some (.ref A.iY)
 adU:Mk K A.iY A.JV
 Ml:cB K A.iY "room"
 Ce:cB K A.iY "total"
 Cg:cB K A.iY "lost"
 vo:cB K A.iY "counts"
 rD:Cls K A.nU
 Ww:mg "Balance" = some (.ref A.nU)
 mk'59:Mk K A.nU A.JW
 Vh:cB K A.nU "span"
 vp:cB K A.nU "sums"
 cH:Cls K A.cD
 Tv:mg "Keepsake" = some (.ref A.cD)
 mk'60:Mk K A.cD A.JX
 Mp:cB K A.cD "room"
 Mq:cB K A.cD "reach"
 Ci:cB K A.cD "span"
 En:cB K A.cD "came"
 Eo:cB K A.cD "went"
 Ep:cB K A.cD "up"
 Er:cB K A.cD "down"
 yC:cB K A.cD "window"
 yD:cB K A.cD "seen"
 yE:cB K A.cD "balance"
 F'0:Fun K "with_thing" "with_thing" s'0 A.f'0 A.pG
 b'0:Binds K A.pG ["lists","thing","weight"] []
 Jd:mg "with_thing" = some (.ref A.f'0)
 F'1:Fun K "left_behind" "left_behind" s'1 A.f'1 A.nj
 b'1:Binds K A.nj ["things"] []
 Dp:mg "left_behind" = some (.ref A.f'1)
 F'2:Fun K "risen" "risen" s'2 A.f'2 A.Jb
 b'2:Binds K A.Jb ["things","turns"] []
 acQ:mg "risen" = some (.ref A.f'2)
 F'3:Fun K "turn" "Rungs.turn" s'3 A.f'3 A.pH
 b'3:Binds K A.pH ["self","stands_for"] []
 Je:Meth K A.dB "turn" A.f'3
 F'4:Fun K "settle" "Rungs.settle" s'4 A.f'4 A.lF
 b'4:Binds K A.lF ["self","lists"] []
 Cj:Meth K A.dB "settle" A.f'4
 F'5:Fun K "lesser" "lesser" s'5 A.f'5 A.Bv
 b'5:Binds K A.Bv ["one","other"] []
 abw:mg "lesser" = some (.ref A.f'5)
 F'6:Fun K "greater" "greater" s'6 A.f'6 A.wU
 b'6:Binds K A.wU ["one","other"] []
 Wx:mg "greater" = some (.ref A.f'6)
 F'7:Fun K "__init__" "Rungs.__init__" s'7 A.f'7 A.pI
 b'7:Binds K A.pI ["self","room"] []
 acR:Meth K A.dB "__init__" A.f'7
 F'8:Fun K "add" "Rungs.add" s'8 A.f'8 A.rC
 b'8:Binds K A.rC ["self","thing","weight"] []
 yF:Meth K A.dB "add" A.f'8
 F'9:Fun K "joined" "joined" s'9 A.f'9 A.Bw
 b'9:Binds K A.Bw ["boxes","room"] []
 abx:mg "joined" = some (.ref A.f'9)
 F'10:Fun K "__init__" "Window.__init__" s'10 A.JR A.nu
 b'10:Binds K A.nu ["self","room","reach"] []
 ab7:Meth K A.gP "__init__" A.JR
 F'11:Fun K "settle" "Window.settle" s'11 A.Qh A.jQ
 b'11:Binds K A.jQ ["self","boxes"] []
 qp:Meth K A.gP "settle" A.Qh
 F'12:Fun K "add" "Window.add" s'12 A.Qi A.pJ
 b'12:Binds K A.pJ ["self","weight"] []
 Jf:Meth K A.gP "add" A.Qi
 F'13:Fun K "idle" "Window.idle" s'13 A.Qj A.nA
 b'13:Binds K A.nA ["self","many"] []
 sU:Meth K A.gP "idle" A.Qj
 F'14:Fun K "spread" "spread" s'14 A.Qk A.Bx
 b'14:Binds K A.Bx ["thing"] []
 aby:mg "spread" = some (.ref A.Qk)
 F'15:Fun K "mark" "mark" s'15 A.Ql A.Tq
 b'15:Binds K A.Tq ["thing"] []
 abz:mg "mark" = some (.ref A.Ql)
 F'16:Fun K "__init__" "Distinct.__init__" s'16 A.JT A.jR
 b'16:Binds K A.jR ["self","room"] []
 W9:Meth K A.iI "__init__" A.JT
 F'17:Fun K "of_marks" "of_marks" s'17 A.Qm A.uy
 b'17:Binds K A.uy ["things","level"] []
 Tw:mg "of_marks" = some (.ref A.Qm)
 F'18:Fun K "settle" "Distinct.settle" s'18 A.Qn A.jd
 b'18:Binds K A.jd ["self","things"] []
 vq:Meth K A.iI "settle" A.Qn
 F'19:Fun K "add" "Distinct.add" s'19 A.Qo A.lG
 b'19:Binds K A.lG ["self","thing"] []
 Ck:Meth K A.iI "add" A.Qo
 F'20:Fun K "__init__" "Frequent.__init__" s'20 A.JV A.jT
 b'20:Binds K A.jT ["self","room"] []
 Xa:Meth K A.iY "__init__" A.JV
 F'21:Fun K "cut_of" "cut_of" s'21 A.Qp A.BJ
 b'21:Binds K A.BJ ["counts","room"] []
 abA:mg "cut_of" = some (.ref A.Qp)
 F'22:Fun K "lowered" "lowered" s'22 A.Qq A.wV
 b'22:Binds K A.wV ["counts","cut"] []
 Wy:mg "lowered" = some (.ref A.Qq)
 F'23:Fun K "fit" "Frequent.fit" s'23 A.Qs A.lH
 b'23:Binds K A.lH ["self","grown"] []
 Cm:Meth K A.iY "fit" A.Qs
 F'24:Fun K "add" "Frequent.add" s'24 A.Qt A.lJ
 b'24:Binds K A.lJ ["self","thing","weight"] []
 rE:Meth K A.iY "add" A.Qt
 F'25:Fun K "with_row" "with_row" s'25 A.Qu A.uz
 b'25:Binds K A.uz ["sums","thing","weight"] []
 Cp:mg "with_row" = some (.ref A.Qu)
 F'26:Fun K "__init__" "Balance.__init__" s'26 A.JW A.lK
 b'26:Binds K A.lK ["self","span"] []
 abB:Meth K A.nU "__init__" A.JW
 F'27:Fun K "put" "Balance.put" s'27 A.Qv A.nF
 b'27:Binds K A.nF ["self","thing","weight"] []
 Dq:Meth K A.nU "put" A.Qv
 F'28:Fun K "take" "Balance.take" s'28 A.Qw A.lM
 b'28:Binds K A.lM ["self","thing","weight"] []
 Cq:Meth K A.nU "take" A.Qw
 F'29:Fun K "put" "Keepsake.put" s'29 A.Qx A.lN
 b'29:Binds K A.lN ["self","thing","weight"] []
 Cr:Meth K A.cD "put" A.Qx
 F'30:Fun K "take" "Keepsake.take" s'30 A.Qy A.jU
 b'30:Binds K A.jU ["self","thing","weight"] []
 yK:Meth K A.cD "take" A.Qy
 F'31:Fun K "idle" "Keepsake.idle" s'31 A.Qz A.jV
 b'31:Binds K A.jV ["self","many"] []
 yL:Meth K A.cD "idle" A.Qz
 F'32:Fun K "__init__" "Keepsake.__init__" s'32 A.JX A.jW
 b'32:Binds K A.jW ["self","room","reach","span"] []
 Xb:Meth K A.cD "__init__" A.JX
 F'33:Fun K "_law_mix" "_law_mix" s'33 A.QB A.Jc
 b'33:Binds K A.Jc ["_law_cell","_law_factor","_law_prime"] []
 Vi:mg "_law_mix" = some (.ref A.QB)
 F'34:Fun K "_law_far_back" "_law_far_back" s'34 A.QC A.pK
 b'34:Binds K A.pK [] []
 Jg:mg "_law_far_back" = some (.ref A.QC)
 F'35:Fun K "_law_thing_by" "_law_thing_by" s'35 A.QD A.pL
 b'35:Binds K A.pL ["_law_cell"] []
 Jh:mg "_law_thing_by" = some (.ref A.QD)
 F'36:Fun K "_law_weight_by" "_law_weight_by" s'36 A.QF A.nG
 b'36:Binds K A.nG ["_law_cell"] []
 Dr:mg "_law_weight_by" = some (.ref A.QF)
 F'37:Fun K "_law_row_by" "_law_row_by" s'37 A.QG A.uD
 b'37:Binds K A.uD ["_law_cell"] []
 Tz:mg "_law_row_by" = some (.ref A.QG)
 F'38:Fun K "_law_shape_by" "_law_shape_by" s'38 A.QH A.pO
 b'38:Binds K A.pO ["_law_cell"] []
 Ji:mg "_law_shape_by" = some (.ref A.QH)
 F'39:Fun K "_law_done" "_law_done" s'39 A.QJ A.BK
 b'39:Binds K A.BK ["_law_keepsake","_law_row"] []
 abC:mg "_law_done" = some (.ref A.QJ)
 F'40:Fun K "_law_frequent" "_law_frequent" s'40 A.QK A.pP
 b'40:Binds K A.pP ["_law_one"] []
 vA:mg "_law_frequent" = some (.ref A.QK)
 F'41:Fun K "_law_rungs" "_law_rungs" s'41 A.QL A.wW
 b'41:Binds K A.wW ["_law_one"] []
 Es:mg "_law_rungs" = some (.ref A.QL)
 F'42:Fun K "_law_state" "_law_state" s'42 A.QM A.wX
 b'42:Binds K A.wX ["_law_keepsake"] []
 Et:mg "_law_state" = some (.ref A.QM)
 F'43:Fun K "figures" "figures" s'43 A.QS A.wY
 b'43:Binds K A.wY ["number"] []
 Eu:mg "figures" = some (.ref A.QS)
 TF:Fun K "row" "row" s'44 A.QT A.abt
 Wz:Binds K A.abt ["numbers"] []
 g_row:mg "row" = some (.ref A.QT)
 Mr:Fun K "_law_line" "_law_line" s'45 A.QV A.BL
 TJ:Binds K A.BL ["_law_head","_law_numbers"] []
 lR:mg "_law_line" = some (.ref A.QV)
 F'46:Fun K "window_words" "window_words" s'46 A.QW A.lO
 b'46:Binds K A.lO ["part"] []
 Cu:mg "window_words" = some (.ref A.QW)
 F'47:Fun K "rungs_words" "rungs_words" s'47 A.QX A.nH
 b'47:Binds K A.nH ["part"] []
 sV:mg "rungs_words" = some (.ref A.QX)
 F'48:Fun K "frequent_words" "frequent_words" s'48 A.QZ A.jq
 b'48:Binds K A.jq ["part"] []
 oE:mg "frequent_words" = some (.ref A.QZ)
 F'49:Fun K "written" "written" s'49 A.Q0 A.wZ
 b'49:Binds K A.wZ ["keepsake"] []
 WD:mg "written" = some (.ref A.Q0)
 F'50:Fun K "_law_counts_line" "_law_counts_line" s'50 A.Q5 A.jX
 b'50:Binds K A.jX ["_law_head","_law_frequent_here"] []
 qt:mg "_law_counts_line" = some (.ref A.Q5)
 F'51:Fun K "_law_rungs_line" "_law_rungs_line" s'51 A.Q6 A.lQ
 b'51:Binds K A.lQ ["_law_head","_law_rungs_here"] []
 rF:mg "_law_rungs_line" = some (.ref A.Q6)
 F'52:Fun K "_law_lines" "_law_lines" s'52 A.Q7 A.xg
 b'52:Binds K A.xg ["_law_state_here"] []
 WK:mg "_law_lines" = some (.ref A.Q7)
 F'53:Fun K "_law_right" "_law_right" s'53 A.Q8 A.xq
 b'53:Binds K A.xq ["_law_keepsake"] []
 Ew:mg "_law_right" = some (.ref A.Q8)
 F'54:Fun K "law" "law" s'54 A.VB A.abu
 b'54:Binds K A.abu ["_law_script"] []
 g_law:mg "law" = some (.ref A.VB)
 n_abs:mg "abs" = none
 af0:mg "dict" = none
 Jj:mg "isinstance" = none
 sW:mg "len" = none
 pQ:mg "list" = none
 n_max:mg "max" = none
 n_min:mg "min" = none
 acS:mg "range" = none
 uE:mg "reversed" = none
 oF:mg "sorted" = none
 Vj:mg "str" = none
 n_sum:mg "sum" = none
 af2:∃ u,mg "MOST" = some u/\RelV (.int 1152921504606846976) u
 yM:∃ u,mg "MOST_HALVINGS" = some u/\RelV (.int 60) u
 acT:∃ u,mg "PIECE" = some u/\RelV (.int 1000000000000000000000000000000) u
 yN:∃ u,mg "PIECE_FIGURES" = some u/\RelV (.int 30) u
 abD:∃ u,mg "SPREAD" = some u/\RelV (.int 770093176312745717) u
 agK:zR K (.type "int") (.type "int")=some true
variable {P:bG} {w:World} {K:bh} {mg:Str->Option Value} {base:Heap} {A:Ad}
local macro_rules | `(tactic| walk_at "sc") => `(tactic| exact ⟨rfl, rfl, rfl, by decide +kernel, rfl, by decide +kernel, by decide +kernel⟩)
def gj:aN ["lists","thing","weight","grown","place","bits"] ["lists","thing","weight"] (aK s'0):=by walk_at "sc"
def Cv:aN ["things"] ["things"] (aK s'1):=by walk_at "sc"
def abE:aN ["things","turns"] ["things","turns"] (aK s'2):=by walk_at "sc"
def Ds:aN ["self","stands_for"] ["self","stands_for"] (aK s'3):=by walk_at "sc"
def dY:aN ["self","lists","settled","place","stands_for","things"] ["self","lists"] (aK s'4):=by walk_at "sc"
def Ey:aN ["one","other","known"] ["one","other"] (aK s'5):=by walk_at "sc"
def Cw:aN ["one","other","known"] ["one","other"] (aK s'6):=by walk_at "sc"
def Dt:aN ["self","room"] ["self","room"] (aK s'7):=by walk_at "sc"
def Jk:aN ["self","thing","weight"] ["self","thing","weight"] (aK s'8):=by walk_at "sc"
def gU:aN ["boxes","room","done","newer","at_hand","box"] ["boxes","room"] (aK s'9):=by walk_at "sc"
def Cy:aN ["self","room","reach"] ["self","room","reach"] (aK s'10):=by walk_at "sc"
def jr:aN ["self","boxes","edge","within"] ["self","boxes"] (aK s'11):=by walk_at "sc"
def Du:aN ["self","weight"] ["self","weight"] (aK s'12):=by walk_at "sc"
def Cz:aN ["self","many"] ["self","many"] (aK s'13):=by walk_at "sc"
def WM:aN ["thing"] ["thing"] (aK s'14):=by walk_at "sc"
def vB:aN ["thing","rest","halvings"] ["thing"] (aK s'15):=by walk_at "sc"
def xr:aN ["self","room"] ["self","room"] (aK s'16):=by walk_at "sc"
def Ms:aN ["things","level"] ["things","level"] (aK s'17):=by walk_at "sc"
def iJ:aN ["self","things","left"] ["self","things"] (aK s'18):=by walk_at "sc"
def yO:aN ["self","thing"] ["self","thing"] (aK s'19):=by walk_at "sc"
def xu:aN ["self","room"] ["self","room"] (aK s'20):=by walk_at "sc"
def Ez:aN ["counts","room","falling"] ["counts","room"] (aK s'21):=by walk_at "sc"
def pR:aN ["counts","cut","left","thing","count"] ["counts","cut"] (aK s'22):=by walk_at "sc"
def qu:aN ["self","grown","cut"] ["self","grown"] (aK s'23):=by walk_at "sc"
def qw:aN ["self","thing","weight","grown"] ["self","thing","weight"] (aK s'24):=by walk_at "sc"
def jL:aN ["sums","thing","weight","grown","share","held"] ["sums","thing","weight"] (aK s'25):=by walk_at "sc"
def yP:aN ["self","span"] ["self","span"] (aK s'26):=by walk_at "sc"
def CG:aN ["self","thing","weight"] ["self","thing","weight"] (aK s'27):=by walk_at "sc"
def yQ:aN ["self","thing","weight"] ["self","thing","weight"] (aK s'28):=by walk_at "sc"
def yR:aN ["self","thing","weight"] ["self","thing","weight"] (aK s'29):=by walk_at "sc"
def xG:aN ["self","thing","weight"] ["self","thing","weight"] (aK s'30):=by walk_at "sc"
def xH:aN ["self","many"] ["self","many"] (aK s'31):=by walk_at "sc"
def xJ:aN ["self","room","reach","span"] ["self","room","reach","span"] (aK s'32):=by walk_at "sc"
def abF:aN ["_law_cell","_law_factor","_law_prime"] ["_law_cell","_law_factor","_law_prime"] (aK s'33):=by walk_at "sc"
def jA:aN ["_law_way","_law_turn"] [] (aK s'34):=by walk_at "sc"
def nJ:aN ["_law_cell","_law_how","_law_high"] ["_law_cell"] (aK s'35):=by walk_at "sc"
def CJ:aN ["_law_cell"] ["_law_cell"] (aK s'36):=by walk_at "sc"
def mK:aN ["_law_cell","_law_kind","_law_thing","_law_weight"] ["_law_cell"] (aK s'37):=by walk_at "sc"
def jB:aN ["_law_cell","_law_room","_law_reach","_law_span"] ["_law_cell"] (aK s'38):=by walk_at "sc"
def WQ:aN ["_law_keepsake","_law_row"] ["_law_keepsake","_law_row"] (aK s'39):=by walk_at "sc"
def Dv:aN ["_law_one"] ["_law_one"] (aK s'40):=by walk_at "sc"
def CN:aN ["_law_one","_law_lists"] ["_law_one"] (aK s'41):=by walk_at "sc"
def pU:aN ["_law_keepsake","_law_window","_law_seen","_law_told"] ["_law_keepsake"] (aK s'42):=by walk_at "sc"
def pW:aN ["number","pieces","rest"] ["number"] (aK s'43):=by walk_at "sc"
def af3:aN ["numbers"] ["numbers"] (aK s'44):=by walk_at "sc"
def xK:aN ["_law_head","_law_numbers","_law_words","_law_number"] ["_law_head","_law_numbers"] (aK s'45):=by walk_at "sc"
def jY:aN ["part","numbers","box"] ["part"] (aK s'46):=by walk_at "sc"
def je:aN ["part","numbers","words","things"] ["part"] (aK s'47):=by walk_at "sc"
def jf:aN ["part","numbers","thing"] ["part"] (aK s'48):=by walk_at "sc"
def CP:aN ["keepsake","lines"] ["keepsake"] (aK s'49):=by walk_at "sc"
def ju:aN ["_law_head","_law_frequent_here","_law_numbers","_law_pair"] ["_law_head","_law_frequent_here"] (aK s'50):=by walk_at "sc"
def fZ:aN ["_law_head","_law_rungs_here","_law_numbers","_law_line_here","_law_things"] ["_law_head","_law_rungs_here"] (aK s'51):=by walk_at "sc"
def pY:aN ["_law_state_here","_law_lines_here","_law_numbers","_law_box"] ["_law_state_here"] (aK s'52):=by walk_at "sc"
def uF:aN ["_law_keepsake","_law_state_here","_law_found"] ["_law_keepsake"] (aK s'53):=by walk_at "sc"
def xM:aN ["_law_script","_law_room","_law_reach","_law_span","_law_keepsake","_law_cell"] ["_law_script"] (aK s'54):=by walk_at "sc"
def abG (K:bh):Sp:=fun vs H Q _=>∃ (a:Addr) (ns:List Int),vs=[.ref a]/\SqL K H a (ns.map V.int)/\ns.length<=63/\∀ H',Q (.bl true) H'
def rg (aH bw bR bA bB bC bU bF:V):List (Str × V):=[("room",aH),("total",bw),("over",bR),("under",bA),("turns",bB),("least",bC),("most",bU),("rungs",bF)]
def Vk (aH bw bR bA bB bC bU bF:V):(rg aH bw bR bA bB bC bU bF).lookup ("room" : Str)=some aH:=by rfl
def vC (aH bw bR bA bB bC bU bF:V):(rg aH bw bR bA bB bC bU bF).lookup ("total" : Str)=some bw:=by rfl
def Jl (aH bw bR bA bB bC bU bF:V):(rg aH bw bR bA bB bC bU bF).lookup ("over" : Str)=some bR:=by rfl
def CQ (aH bw bR bA bB bC bU bF:V):(rg aH bw bR bA bB bC bU bF).lookup ("under" : Str)=some bA:=by rfl
def lU (aH bw bR bA bB bC bU bF:V):(rg aH bw bR bA bB bC bU bF).lookup ("turns" : Str)=some bB:=by rfl
def CT (aH bw bR bA bB bC bU bF:V):(rg aH bw bR bA bB bC bU bF).lookup ("least" : Str)=some bC:=by rfl
def Jm (aH bw bR bA bB bC bU bF:V):(rg aH bw bR bA bB bC bU bF).lookup ("most" : Str)=some bU:=by rfl
def CV (aH bw bR bA bB bC bU bF:V):(rg aH bw bR bA bB bC bU bF).lookup ("rungs" : Str)=some bF:=by rfl
def af4 (aH bw bR bA bB bC bU bF:V):aB "rungs" bF (aB "most" bU (aB "least" bC (aB "turns" bB (aB "under" bA (aB "over" bR (aB "total" bw (aB "room" aH [])))))))=rg aH bw bR bA bB bC bU bF:=by
 unfold rg
 rw [bV "room",aD (f := "total") (g := "room") (by decide +kernel),bV "total",aD (f := "over") (g := "room") (by decide +kernel),aD (f := "over") (g := "total") (by decide +kernel),bV "over",aD (f := "under") (g := "room") (by decide +kernel),aD (f := "under") (g := "total") (by decide +kernel),aD (f := "under") (g := "over") (by decide +kernel),bV "under",aD (f := "turns") (g := "room") (by decide +kernel),aD (f := "turns") (g := "total") (by decide +kernel),aD (f := "turns") (g := "over") (by decide +kernel),aD (f := "turns") (g := "under") (by decide +kernel),bV "turns",aD (f := "least") (g := "room") (by decide +kernel),aD (f := "least") (g := "total") (by decide +kernel),aD (f := "least") (g := "over") (by decide +kernel),aD (f := "least") (g := "under") (by decide +kernel),aD (f := "least") (g := "turns") (by decide +kernel),bV "least",aD (f := "most") (g := "room") (by decide +kernel),aD (f := "most") (g := "total") (by decide +kernel),aD (f := "most") (g := "over") (by decide +kernel),aD (f := "most") (g := "under") (by decide +kernel),aD (f := "most") (g := "turns") (by decide +kernel),aD (f := "most") (g := "least") (by decide +kernel),bV "most",aD (f := "rungs") (g := "room") (by decide +kernel),aD (f := "rungs") (g := "total") (by decide +kernel),aD (f := "rungs") (g := "over") (by decide +kernel),aD (f := "rungs") (g := "under") (by decide +kernel),aD (f := "rungs") (g := "turns") (by decide +kernel),aD (f := "rungs") (g := "least") (by decide +kernel),aD (f := "rungs") (g := "most") (by decide +kernel),bV "rungs"]
def Jo (aH bw bR bA bB bC bU bF y:V):aB "total" y (rg aH bw bR bA bB bC bU bF)=rg aH y bR bA bB bC bU bF:=by
 unfold rg
 rw [aD (f := "total") (g := "room") (by decide +kernel),gR]
def Mt (aH bw bR bA bB bC bU bF y:V):aB "over" y (rg aH bw bR bA bB bC bU bF)=rg aH bw y bA bB bC bU bF:=by
 unfold rg
 rw [aD (f := "over") (g := "room") (by decide +kernel),aD (f := "over") (g := "total") (by decide +kernel),gR]
def Jp (aH bw bR bA bB bC bU bF y:V):aB "under" y (rg aH bw bR bA bB bC bU bF)=rg aH bw bR y bB bC bU bF:=by
 unfold rg
 rw [aD (f := "under") (g := "room") (by decide +kernel),aD (f := "under") (g := "total") (by decide +kernel),aD (f := "under") (g := "over") (by decide +kernel),gR]
def vD (aH bw bR bA bB bC bU bF y:V):aB "turns" y (rg aH bw bR bA bB bC bU bF)=rg aH bw bR bA y bC bU bF:=by
 unfold rg
 rw [aD (f := "turns") (g := "room") (by decide +kernel),aD (f := "turns") (g := "total") (by decide +kernel),aD (f := "turns") (g := "over") (by decide +kernel),aD (f := "turns") (g := "under") (by decide +kernel),gR]
def Jq (aH bw bR bA bB bC bU bF y:V):aB "least" y (rg aH bw bR bA bB bC bU bF)=rg aH bw bR bA bB y bU bF:=by
 unfold rg
 rw [aD (f := "least") (g := "room") (by decide +kernel),aD (f := "least") (g := "total") (by decide +kernel),aD (f := "least") (g := "over") (by decide +kernel),aD (f := "least") (g := "under") (by decide +kernel),aD (f := "least") (g := "turns") (by decide +kernel),gR]
def Mu (aH bw bR bA bB bC bU bF y:V):aB "most" y (rg aH bw bR bA bB bC bU bF)=rg aH bw bR bA bB bC y bF:=by
 unfold rg
 rw [aD (f := "most") (g := "room") (by decide +kernel),aD (f := "most") (g := "total") (by decide +kernel),aD (f := "most") (g := "over") (by decide +kernel),aD (f := "most") (g := "under") (by decide +kernel),aD (f := "most") (g := "turns") (by decide +kernel),aD (f := "most") (g := "least") (by decide +kernel),gR]
def Jr (aH bw bR bA bB bC bU bF y:V):aB "rungs" y (rg aH bw bR bA bB bC bU bF)=rg aH bw bR bA bB bC bU y:=by
 unfold rg
 rw [aD (f := "rungs") (g := "room") (by decide +kernel),aD (f := "rungs") (g := "total") (by decide +kernel),aD (f := "rungs") (g := "over") (by decide +kernel),aD (f := "rungs") (g := "under") (by decide +kernel),aD (f := "rungs") (g := "turns") (by decide +kernel),aD (f := "rungs") (g := "least") (by decide +kernel),aD (f := "rungs") (g := "most") (by decide +kernel),gR]
def rgN {aH bw bR bA bB bC bU bF:V} {m:Str} (h:m∉[("room" : Str),("total" : Str),("over" : Str),("under" : Str),("turns" : Str),("least" : Str),("most" : Str),("rungs" : Str)]):(rg aH bw bR bA bB bC bU bF).lookup m=none:=by
 simp only [cC,qb,or_false,not_or] at h
 obtain ⟨uG,acU,af5,acV,acW,acX,af6,acY⟩:=h
 unfold rg
 rw [cJ uG,cJ acU,cJ af5,cJ acV,cJ acW,cJ acX,cJ af6,cJ acY]
 rfl
/-- None,or a whole number -/
def oV:Option Int->V
 | none=>.non
 | some i=>.int i
/-- a list of lists -/
structure LL (H:Hp) (a:Addr) (bs:List Addr) (ls:RG.Ls):Prop where
 o:H a=some (.lst (bs.map V.ref))
 n:bs.length=ls.length
 e:∀ (i:Nat) (b:Addr) (l:List Int),bs[i]? = some b->ls[i]? = some l->H b=some (.lst (l.map V.int))
 x:a∉bs
section
variable {H H':Hp} {a c:Addr} {bs:List Addr} {ls:RG.Ls} {m:List Int} {i:Nat}
def LL.same (h:LL H a bs ls) (s:Same H H'):LL H' a bs ls:=⟨s _ _ h.o,h.n,fun i b l e1 e2=>s _ _ (h.e i b l e1 e2),h.x⟩
def LL.at (h:LL H a bs ls) (hi:i<ls.length):∃ b l,bs[i]? = some b/\ls[i]? = some l/\H b=some (.lst (l.map V.int)):=by
 have hb:i<bs.length:=by rw [h.n];exact hi
 exact ⟨bs[i],ls[i],gw hb,gw hi,h.e i _ _ (gw hb) (gw hi)⟩
def LL.ix {b:Addr} (h:bs[i]? = some b):atI (bs.map V.ref) (i:Int)=some (.ref b):=Ie (by rw [kW,h];rfl)
def rR {n j:Nat} (h:j<n):ixN n (j:Int)=some j:=by
 unfold ixN
 rw [if_pos (by omega),if_pos (by omega)]
 simp
def LL.set (h:LL H a bs ls) (hc:H c=some (.lst (m.map V.int))) (nc:c≠a):LL (upd H a (.lst ((bs.map V.ref).set i (.ref c)))) a (bs.set i c) (ls.set i m):=by
 refine ⟨by rw [ak,List.map_set],by rw [ji,ji,h.n],fun j b l e1 e2=>?_,fun z=>?_⟩
 ·by_cases ij:i=j
  ·subst ij
   rw [List.getElem?_set] at e1 e2
   rw [if_pos rfl] at e1 e2
   split at e1
   ·split at e2
    ·obtain rfl:=bZ e1
     obtain rfl:=bZ e2
     rw [aA nc];exact hc
    ·cases e2
   ·cases e1
  ·rw [vJ ij] at e1 e2
   have nb:b≠a:=fun z=>h.x (by rw [<- z];exact List.mem_of_getElem? e1)
   rw [aA nb]
   exact h.e j b l e1 e2
 ·rcases uI z with y | y
  ·exact h.x y
  ·exact nc y.symm
def LL.app (h:LL H a bs ls) (hc:H c=some (.lst (m.map V.int))) (nc:c≠a):LL (upd H a (.lst (bs.map V.ref++[.ref c]))) a (bs++[c]) (ls++[m]):=by
 refine ⟨by rw [ak,cW];rfl,by rw [dR,dR,h.n];rfl,fun j b l e1 e2=>?_,fun z=>?_⟩
 ·rcases nR j bs.length with lt | ge
  ·rw [JQ lt] at e1
   rw [JQ (by rw [<- h.n];exact lt)] at e2
   have nb:b≠a:=fun z=>h.x (by rw [<- z];exact List.mem_of_getElem? e1)
   rw [aA nb]
   exact h.e j b l e1 e2
  ·rw [JN ge] at e1
   rw [JN (by rw [<- h.n];exact ge),<- h.n] at e2
   obtain e:j-bs.length=0:=by
    have:=(gZ.mp e1).1
    have:j-bs.length<1:=this
    omega
   rw [e] at e1 e2
   obtain rfl:=bZ e1
   obtain rfl:=bZ e2
   rw [aA nc];exact hc
 ·rcases gB.mp z with y | y
  ·exact h.x y
  ·exact nc (fP.mp y).symm
/-- the same lists,in a new list -/
def LL.copy {g:Addr} (h:LL H a bs ls) (hg:H g=none):LL (upd H g (.lst (bs.map V.ref))) g bs ls:=by
 have s:Same H (upd H g (.lst (bs.map V.ref))):=Same.new hg
 refine ⟨ak,h.n,(h.same s).e,fun z=>?_⟩
 obtain ⟨i,hi,e⟩:=List.mem_iff_getElem.mp z
 obtain ⟨b,l,e1,_,e3⟩:=h.at (i:=i) (by rw [<- h.n];exact hi)
 rw [gw hi,e] at e1
 obtain rfl:=bZ e1
 rw [hg] at e3;cases e3
end
def af7 (σ:St) (_:Hp):Nat:=match σ with
 | [_,_,_,_,_,some (.int n)]=>n.toNat
 | _=>0
def acZ:Sp:=fun vs H Q _=>∃ (a:Addr) (bs:List Addr) (ls:RG.Ls) (t w:Int),vs=[.ref a,.int t,.int w]/\LL H a bs ls/\0<=w/\w<2 ^ 64/\ls.length<=800/\(∀ l∈ls,l.length<=62) /\
 ∀ (g:Addr) (bs':List Addr) (H':Hp),H g=none->LL H' g bs' (RG.fj t ls w.toNat)->Same H H'->(∀ c∈bs',c∈bs\/H c=none)->Q (.ref g) H'
def ok'0 (T:Tx K mg A):cI P w K mg base CX0 1 A.f'0 A.pG ["lists","thing","weight"] acZ:=by
 refine T.F'0.ok gj (fun vs H Q E h=>?_) (fun cdv B outer s H vs Q E hr h=>?_)
 ·obtain ⟨a,bs,ls,t,w,rfl,_⟩:=h
  rfl
 ·obtain ⟨a,bs0,ls,t,w,rfl,hL,w0,w64,hn,h9,q⟩:=h
  have w64':w.toNat<2 ^ 64:=by omega
  refine ⟨_,(aq (aU (i:=3) gj.nd rfl (Or.inl rfl) (fu (gH rfl) (by rfl) T.pQ yd (aj (pv 0) au)))
   (aq (aU (i:=4) gj.nd rfl (Or.inl rfl) aC)
   (aq (aU (i:=5) gj.nd rfl (Or.inl rfl) (pv 2))
   (aq (qX jD (cg DN (pv 5) aC (cP _)) (aq (gG (cg qe (pv 4) (dz f9 (by rfl) T.sW mQ (aj (pv 3) au)) (cP _)) (aF (aY (d9 fJ iQ iR cF (pv 3) (aj (cM au) au)))) eY)
   (aq (gG (cg qe (aM dF (pv 5) aC) aC (cP _)) (aF (wG (dz (kI rfl) (by rfl) T.oF Ao (aj (aM wK (cu (ixG (bO hr)) (pv 3) (pv 4) (fun _ _=>rfl)) (cM (aj (pv 1) au))) au)) (Az (pv 3) (pv 4) (setG (bO hr))))) eY)
   (aq (aU (i:=4) gj.nd rfl (Or.inl rfl) (aM dD (pv 4) aC))
   (aF (aU (i:=5) gj.nd rfl (Or.inl rfl) (aM gn (pv 5) aC)))))))
   (aF (cA (pv 3))))))),?_⟩
  refine ⟨_,rfl,.inl ⟨a,_,rfl,.inl (.inl (.inl hL.o)),fun g hg=>?_⟩⟩
  have L0:=hL.copy hg
  have s0:Same H (upd H g (.lst (bs0.map V.ref))):=Same.new hg
  generalize upd H g (.lst (bs0.map V.ref))=H1 at L0 s0 ⊢
  refine ⟨_,rfl,?_⟩
  refine qZ (fun σ G=>∃ (bs:List Addr) (ms:RG.Ls) (p k:Nat),σ=[some (.ref a),some (.int t),some (.int w),some (.ref g),some (.int (p:Int)),some (.int (k:Int))]/\LL G g bs ms/\Same H G/\p<=ms.length/\ms.length<=800/\k*2 ^ p<=w.toNat/\ms.take p++RG.fj t (ms.drop p) k=RG.fj t ls w.toNat/\(∀ l∈ms.drop p,l.length<=62)/\∀ c∈bs,c∈bs0\/H c=none) af7
   ⟨bs0,ls,0,w.toNat,by rw [YW w0];rfl,L0,s0,dN _,hn,by rw [Gz];omega,rfl,h9,fun c hc=>.inl hc⟩ ?_ ?_
  ·rintro σ G ⟨bs,ms,p,k,rfl,L,sG,hp,h8,kp,eq,b9,fr⟩
   refine ⟨_,rfl,_,_,rfl,rfl,_,rfl,fX (fun hc=>?_) (fun hc=>?_)⟩
   ·have k0:0<k:=by have:=of_decide_eq_true hc;omega
    have p64:p<=63:=by
     rcases nR p (63+1) with z | z
     ·omega
     ·have h1:=Af (show 0<2 by decide) z
      have h2:=xX (2 ^ p) k0
      omega
    refine ⟨_,rfl,_,rfl,pC (.inl (.inl L.o)) ⟨rfl,_,rfl,fX (fun he=>?_) (fun he=>?_)⟩⟩
    ·have he:p=ms.length:=by
      have:=V.int.inj (of_decide_eq_true he)
      rw [aZ,L.n] at this
      omega
     refine ⟨_,rfl,.inl ⟨rfl,_,.inl (.inl L.o)⟩,by show 0<=sizeLine;decide,fun c hc=>?_⟩
     have s1:Same G (upd G c (.lst [])):=Same.new hc
     have f1:(upd G c (.lst [])) c=some (.lst (([]:List Int).map V.int)):=ak
     generalize upd G c (.lst [])=G1 at s1 f1 ⊢
     have nc:c≠g:=aL (ao L.o hc)
     refine ⟨g,_,_,rfl,rfl,s1 _ _ L.o,aO (by rw [aZ,L.n];omega),?_⟩
     have L2:=(L.same s1).app f1 nc
     have s2:Same H (upd G1 g (.lst (bs.map V.ref++[.ref c]))):=fun b o e=>by rw [aA (ao e hg)];exact s1 _ _ (sG b o e)
     generalize upd G1 g (.lst (bs.map V.ref++[.ref c]))=GX at L2 s2 ⊢
     have lp:p<(ms++[[]]).length:=by rw [dR];show p<ms.length+1;omega
     have lp8:(ms++[[]]).length<=800:=by rw [dR];show ms.length+1<=800;omega
     have b92:∀ l∈(ms++[[]]).drop p,l.length<=62:=fun l hl=>by
      rw [he,Xy] at hl
      rw [fP.mp hl];exact dN _
     have fr2:∀ x∈bs++[c],x∈bs0\/H x=none:=fun x hx=>by
      rcases gB.mp hx with z | z
      ·exact fr x z
      ·rw [fP.mp z];exact .inr (sG.free hc)
     have eq2:=(RG.Td (t:=t) he (show k≠0 by omega)).trans eq
     obtain ⟨b,l,eb,el,hb⟩:=L2.at lp
     have hl9:l.length<=62:=b92 l (by rw [RG.fD el];exact eF)
     have e9:∀ m,∀ l∈((ms++[[]]).set p m).drop (p+1),l.length<=62:=fun m l hl=>b92 l (by rw [RG.set_drop] at hl;rw [RG.fD el];exact eU _ hl)
     have st:=RG.Br (t:=t) el (show k≠0 by omega)
     have kh:k / 2*2 ^ (p+1)<=w.toNat:=by
      rw [lq,Gy (2 ^ p) 2,<- oR]
      exact fH (xX _ (by omega)) kp
     have ek:((k:Int) / 2)=((k / 2:Nat):Int):=by omega
     have ep:((p:Int)+1)=((p+1:Nat):Int):=by omega
     refine ⟨_,rfl,_,_,rfl,rfl,(by show (0:Int)<2;decide),rfl,_,rfl,fX (fun hb2=>?_) (fun hb2=>?_)⟩
     ·have o2:k % 2=1:=by have:=V.int.inj (of_decide_eq_true hb2);omega
      rw [if_pos o2] at st
      refine ⟨_,rfl,_,rfl,iz (.inl (.inl L2.o)) (v:=.ref b) (LL.ix eb) ⟨_,rfl,by show 1<=sizeLine;decide,fun c1 hc1=>?_⟩⟩
      have y1:Same GX (upd GX c1 (.lst [.int t])):=Same.new hc1
      have z1:(upd GX c1 (.lst [.int t])) c1=some (.lst [.int t]):=ak
      generalize upd GX c1 (.lst [.int t])=J1 at y1 z1 ⊢
      refine ⟨b,c1,_,_,rfl,rfl,y1 _ _ hb,z1,mj (aO (by rw [aZ];show l.length+1<=1000;omega)),fun c2 hc2=>?_⟩
      rw [show l.map V.int++[V.int t]=(l++[t]).map V.int by rw [cW];rfl]
      have y2:Same J1 (upd J1 c2 (.lst ((l++[t]).map V.int))):=Same.new hc2
      have z2:(upd J1 c2 (.lst ((l++[t]).map V.int))) c2=some (.lst ((l++[t]).map V.int)):=ak
      generalize upd J1 c2 (.lst ((l++[t]).map V.int))=J2 at y2 z2 ⊢
      refine .inr ⟨c2,l++[t],rfl,.inl (.inl z2),by rw [dR];show l.length+1<64;omega,fun c3 ns hc3 pm so=>?_⟩
      obtain rfl:=RG.uo pm so
      have y3:Same J2 (upd J2 c3 (.lst ((RG.srt (l++[t])).map V.int))):=Same.new hc3
      have z3:(upd J2 c3 (.lst ((RG.srt (l++[t])).map V.int))) c3=some (.lst ((RG.srt (l++[t])).map V.int)):=ak
      generalize upd J2 c3 (.lst ((RG.srt (l++[t])).map V.int))=J3 at y3 z3 ⊢
      have y03:=y1.trans (y2.trans y3)
      have M3:=L2.same y03
      have nc3:c3≠g:=aL (ao ((y1.trans y2) _ _ L2.o) hc3)
      refine ⟨_,rfl,_,rfl,.inl ⟨g,_,_,p,rfl,rfl,M3.o,rR (by rw [aZ,L2.n];exact lp),?_⟩⟩
      have M4:=M3.set (i:=p) z3 nc3
      have y4:Same H (upd J3 g (.lst (((bs++[c]).map V.ref).set p (.ref c3)))):=fun b o e=>by rw [aA (ao e hg)];exact y03 _ _ (s2 b o e)
      generalize upd J3 g (.lst (((bs++[c]).map V.ref).set p (.ref c3)))=J4 at M4 y4 ⊢
      refine ⟨_,rfl,_,_,rfl,rfl,_,rfl,_,_,rfl,rfl,⟨by decide,by decide⟩,?_,?_⟩
      ·exact ⟨_,_,p+1,k / 2,by rw [<- ek,<- ep];rfl,M4,y4,by rw [ji];omega,by rw [ji];omega,kh,st.trans eq2,e9 _,fun c hc=>by
        rcases uI hc with z | z
        ·exact fr2 c z
        ·rw [z];exact .inr ((s2.trans (y1.trans y2)).free hc3)⟩
      ·show ((k:Int) / 2).toNat<(k:Int).toNat
       omega
     ·have o2:¬ k % 2=1:=fun z=>hb2 (decide_eq_true (congrArg V.int (by omega)))
      rw [if_neg o2,RG.u9 el] at st
      have e9':=e9 l
      rw [RG.u9 el] at e9'
      refine ⟨_,rfl,_,_,rfl,rfl,_,rfl,_,_,rfl,rfl,⟨by decide,by decide⟩,?_,?_⟩
      ·exact ⟨(bs++[c]),(ms++[[]]),p+1,k / 2,by rw [<- ek,<- ep];rfl,L2,s2,by omega,by omega,kh,st.trans eq2,e9',fr2⟩
      ·show ((k:Int) / 2).toNat<(k:Int).toNat
       omega
    ·have he:¬ p=ms.length:=fun z=>he (decide_eq_true (congrArg V.int (by rw [aZ,L.n];omega)))
     have lp:p<ms.length:=by omega
     obtain ⟨b,l,eb,el,hb⟩:=L.at lp
     have hl9:l.length<=62:=b9 l (by rw [RG.fD el];exact eF)
     have e9:∀ m,∀ l∈(ms.set p m).drop (p+1),l.length<=62:=fun m l hl=>b9 l (by rw [RG.set_drop] at hl;rw [RG.fD el];exact eU _ hl)
     have st:=RG.Br (t:=t) el (show k≠0 by omega)
     have kh:k / 2*2 ^ (p+1)<=w.toNat:=by
      rw [lq,Gy (2 ^ p) 2,<- oR]
      exact fH (xX _ (by omega)) kp
     have ek:((k:Int) / 2)=((k / 2:Nat):Int):=by omega
     have ep:((p:Int)+1)=((p+1:Nat):Int):=by omega
     refine ⟨_,rfl,_,_,rfl,rfl,(by show (0:Int)<2;decide),rfl,_,rfl,fX (fun hb2=>?_) (fun hb2=>?_)⟩
     ·have o2:k % 2=1:=by have:=V.int.inj (of_decide_eq_true hb2);omega
      rw [if_pos o2] at st
      refine ⟨_,rfl,_,rfl,iz (.inl (.inl L.o)) (v:=.ref b) (LL.ix eb) ⟨_,rfl,by show 1<=sizeLine;decide,fun c1 hc1=>?_⟩⟩
      have y1:Same G (upd G c1 (.lst [.int t])):=Same.new hc1
      have z1:(upd G c1 (.lst [.int t])) c1=some (.lst [.int t]):=ak
      generalize upd G c1 (.lst [.int t])=J1 at y1 z1 ⊢
      refine ⟨b,c1,_,_,rfl,rfl,y1 _ _ hb,z1,mj (aO (by rw [aZ];show l.length+1<=1000;omega)),fun c2 hc2=>?_⟩
      rw [show l.map V.int++[V.int t]=(l++[t]).map V.int by rw [cW];rfl]
      have y2:Same J1 (upd J1 c2 (.lst ((l++[t]).map V.int))):=Same.new hc2
      have z2:(upd J1 c2 (.lst ((l++[t]).map V.int))) c2=some (.lst ((l++[t]).map V.int)):=ak
      generalize upd J1 c2 (.lst ((l++[t]).map V.int))=J2 at y2 z2 ⊢
      refine .inr ⟨c2,l++[t],rfl,.inl (.inl z2),by rw [dR];show l.length+1<64;omega,fun c3 ns hc3 pm so=>?_⟩
      obtain rfl:=RG.uo pm so
      have y3:Same J2 (upd J2 c3 (.lst ((RG.srt (l++[t])).map V.int))):=Same.new hc3
      have z3:(upd J2 c3 (.lst ((RG.srt (l++[t])).map V.int))) c3=some (.lst ((RG.srt (l++[t])).map V.int)):=ak
      generalize upd J2 c3 (.lst ((RG.srt (l++[t])).map V.int))=J3 at y3 z3 ⊢
      have y03:=y1.trans (y2.trans y3)
      have M3:=L.same y03
      have nc3:c3≠g:=aL (ao ((y1.trans y2) _ _ L.o) hc3)
      refine ⟨_,rfl,_,rfl,.inl ⟨g,_,_,p,rfl,rfl,M3.o,rR (by rw [aZ,L.n];exact lp),?_⟩⟩
      have M4:=M3.set (i:=p) z3 nc3
      have y4:Same H (upd J3 g (.lst ((bs.map V.ref).set p (.ref c3)))):=fun b o e=>by rw [aA (ao e hg)];exact y03 _ _ (sG b o e)
      generalize upd J3 g (.lst ((bs.map V.ref).set p (.ref c3)))=J4 at M4 y4 ⊢
      refine ⟨_,rfl,_,_,rfl,rfl,_,rfl,_,_,rfl,rfl,⟨by decide,by decide⟩,?_,?_⟩
      ·exact ⟨_,_,p+1,k / 2,by rw [<- ek,<- ep];rfl,M4,y4,by rw [ji];omega,by rw [ji];omega,kh,st.trans eq,e9 _,fun c hc=>by
        rcases uI hc with z | z
        ·exact fr c z
        ·rw [z];exact .inr ((sG.trans (y1.trans y2)).free hc3)⟩
      ·show ((k:Int) / 2).toNat<(k:Int).toNat
       omega
     ·have o2:¬ k % 2=1:=fun z=>hb2 (decide_eq_true (congrArg V.int (by omega)))
      rw [if_neg o2,RG.u9 el] at st
      have e9':=e9 l
      rw [RG.u9 el] at e9'
      refine ⟨_,rfl,_,_,rfl,rfl,_,rfl,_,_,rfl,rfl,⟨by decide,by decide⟩,?_,?_⟩
      ·exact ⟨bs,ms,p+1,k / 2,by rw [<- ek,<- ep];rfl,L,sG,by omega,by omega,kh,st.trans eq,e9',fr⟩
      ·show ((k:Int) / 2).toNat<(k:Int).toNat
       omega
   ·have k0:k=0:=by have:¬ (0:Int)<k:=fun z=>hc (decide_eq_true z);omega
    subst k0
    rw [RG.fC,List.take_append_drop] at eq
    rw [eq] at L
    exact ⟨_,rfl,q g bs G hg L sG fr⟩
  ·exact fun σ H Q Q' hq h=>jo (zB (dO 5) (IV _)) σ H Q Q' hq h
def af8:Sp:=fun vs H Q _=>∃ (b:Addr) (l:List Int),vs=[.ref b]/\H b=some (.lst (l.map V.int))/\∀ (c:Addr) (H':Hp),H c=none->H' c=some (.lst ((RG.lft l).map V.int))->Same H H'->Q (.ref c) H'
def ok'1 (T:Tx K mg A):cI P w K mg base CX0 1 A.f'1 A.nj ["things"] af8:=by
 refine T.F'1.ok Cv (fun vs H Q E h=>?_) (fun cdv B outer s H vs Q E hr h=>?_)
 ·obtain ⟨b,l,rfl,_⟩:=h
  rfl
 ·obtain ⟨b,l,rfl,hb,q⟩:=h
  have h2:(l.length:Int)-(l.length:Int) % 2=((l.length-l.length % 2:Nat):Int):=by omega
  refine ⟨_,(aF (cA (uP Ih (pv 0) (mG (aM Bc (dz f9 (by rfl) T.sW mQ (aj (pv 0) au)) (aM dF (dz f9 (by rfl) T.sW mQ (aj (pv 0) au)) aC))) Ib))),?_⟩
  refine ⟨_,rfl,_,rfl,pC (.inl (.inl hb)) ⟨_,rfl,pC (.inl (.inl hb)) ⟨_,_,rfl,rfl,(by show (0:Int)<2;decide),_,_,rfl,rfl,_,rfl,b,_,rfl,.inl (.inl hb),fun c hc=>?_⟩⟩⟩
  rw [aZ,h2]
  have e:Bf (l.map V.int) (some ((l.length-l.length % 2:Nat):Int)) none=(RG.lft l).map V.int:=by
   rw [RG.Lg,Fy]
   unfold Bf HT.sIx
   simp only [aZ]
   rw [if_neg (by omega)]
   rw [M8]
   ·congr 1
    simp
   ·rw [Fo,aZ]
    simp
  rw [e]
  exact q c _ hc ak (Same.new hc)
def ac0:Sp:=fun vs H Q _=>∃ (b:Addr) (l:List Int) (tn:Int),vs=[.ref b,.int tn]/\H b=some (.lst (l.map V.int))/\∀ (c:Addr) (H':Hp),H c=none->H' c=some (.lst ((RG.pick (decide (tn % 2=1)) l).map V.int))->Same H H'->Q (.ref c) H'
def ok'2 (T:Tx K mg A):cI P w K mg base CX0 1 A.f'2 A.Jb ["things","turns"] ac0:=by
 refine T.F'2.ok abE (fun vs H Q E h=>?_) (fun cdv B outer s H vs Q E hr h=>?_)
 ·obtain ⟨b,l,tn,rfl,_⟩:=h
  rfl
 ·obtain ⟨b,l,tn,rfl,hb,q⟩:=h
  refine ⟨_,(aF (cA (Ws (pv 0) (mG (aM dF (pv 1) aC)) (mG (aM Bc (dz f9 (by rfl) T.sW mQ (aj (pv 0) au)) (aM dF (dz f9 (by rfl) T.sW mQ (aj (pv 0) au)) aC))) (mG aC)))),?_⟩
  refine ⟨_,rfl,_,rfl,_,_,rfl,rfl,(by show (0:Int)<2;decide),_,rfl,?_⟩
  refine ⟨_,rfl,pC (.inl (.inl hb)) ⟨_,rfl,pC (.inl (.inl hb)) ⟨_,_,rfl,rfl,(by show (0:Int)<2;decide),_,_,rfl,rfl,_,rfl,?_⟩⟩⟩
  refine ⟨_,rfl,rfl,b,_,rfl,.inl (.inl hb),fun c hc=>?_⟩
  rw [aZ,Wt (by omega)]
  exact q c _ hc ak (Same.new hc)
def af9 (A:Ad):Sp:=fun vs H Q _=>∃ (p dx:Addr) (r T ov un tn st:Int) (mi ma rf:V),vs=[.ref p,.int st]/\H p=some (.ins A.dB dx (rg (.int r) (.int T) (.int ov) (.int un) (.int tn) mi ma rf)) /\
 Q .non (upd H p (.ins A.dB dx (rg (.int r) (.int T) (.int (if tn % 2=0 then ov+st else ov)) (.int (if tn % 2=0 then un else un+st)) (.int (tn+1)) mi ma rf)))
def ok'3 (T:Tx K mg A):cI P w K mg base CX0 1 A.f'3 A.pH ["self","stands_for"] (af9 A):=by
 refine T.F'3.ok Ds (fun vs H Q E h=>?_) (fun cdv B outer s H vs Q E hr h=>?_)
 ·obtain ⟨p,dx,r,T,ov,un,tn,st,mi,ma,rf,rfl,_⟩:=h
  rfl
 ·obtain ⟨p,dx,r,T',ov,un,tn,st,mi,ma,rf,rfl,hp,q⟩:=h
  refine ⟨_,(aq (gG (cg qe (aM dF (aJ (pv 0) rfl) aC) aC (cP _)) (aF (bK (pv 0) (aM dD (aJ (pv 0) rfl) (pv 1)) rfl)) (aF (bK (pv 0) (aM dD (aJ (pv 0) rfl) (pv 1)) rfl)))
   (aF (bK (pv 0) (aM dD (aJ (pv 0) rfl) aC) rfl))),?_⟩
  refine ⟨_,rfl,rdF hp T.cG T.ql (lU ..) ⟨_,_,rfl,rfl,(by show (0:Int)<2;decide),rfl,_,rfl,fX (fun h=>?_) (fun h=>?_)⟩⟩
  ·have h0:tn % 2=0:=V.int.inj (of_decide_eq_true h)
   rw [if_pos h0,if_pos h0] at q
   refine ⟨_,rfl,rdF hp T.cG T.BP (Jl ..) ⟨_,rfl,_,_,rfl,rfl,_,rfl,p,_,dx,_,rfl,hp,T.cG,T.BP,(by show 8<1000;decide),?_⟩⟩
   rw [Mt]
   refine ⟨_,rfl,rdF ak T.cG T.ql (lU ..) ⟨_,_,rfl,rfl,_,rfl,p,_,dx,_,rfl,ak,T.cG,T.ql,(by show 8<1000;decide),?_⟩⟩
   rw [vD,cY]
   exact q
  ·have h0:¬ tn % 2=0:=fun z=>h (decide_eq_true (congrArg V.int z))
   rw [if_neg h0,if_neg h0] at q
   refine ⟨_,rfl,rdF hp T.cG T.BR (CQ ..) ⟨_,rfl,_,_,rfl,rfl,_,rfl,p,_,dx,_,rfl,hp,T.cG,T.BR,(by show 8<1000;decide),?_⟩⟩
   rw [Jp]
   refine ⟨_,rfl,rdF ak T.cG T.ql (lU ..) ⟨_,_,rfl,rfl,_,rfl,p,_,dx,_,rfl,ak,T.cG,T.ql,(by show 8<1000;decide),?_⟩⟩
   rw [vD,cY]
   exact q
def LL.but {H H':Hp} {a p C e:Addr} {bs:List Addr} {ls:RG.Ls} {fs:List (Str × V)} (h:LL H a bs ls) (b:But p H H') (hp:H p=some (.ins C e fs)):LL H' a bs ls :=
 ⟨b _ _ h.o (iZ h.o hp (by intro z;cases z)),h.n,fun i c l e1 e2=>b _ _ (h.e i c l e1 e2) (iZ (h.e i c l e1 e2) hp (by intro z;cases z)),h.x⟩
def placeOf (σ:St) (_:Hp):Nat:=match σ with
 | [_,_,_,some (.int n),_,_]=>(1000-n).toNat
 | _=>0
def abH (A:Ad):Sp:=fun vs H Q _=>∃ (p dx a:Addr) (bs:List Addr) (ls:RG.Ls) (r tt ov un tn:Int) (mi ma:Option Int) (rf:V),vs=[.ref p,.ref a]/\H p=some (.ins A.dB dx (rg (.int r) (.int tt) (.int ov) (.int un) (.int tn) (oV mi) (oV ma) rf))/\LL H a bs ls/\2<=r/\r<=64/\((∀ l∈ls,l.length<=31)\/∀ l∈ls,(l.length:Int)<=r)/\ls.length<=400/\RG.val ls<2 ^ 500 /\
 ∀ (g:Addr) (bs':List Addr) (out:RG.Ls) (tn' ov' un':Int) (H':Hp),RG.Stl r 0 tn ov un ls out tn' ov' un'->H g=none->LL H' g bs' out->H' p=some (.ins A.dB dx (rg (.int r) (.int tt) (.int ov') (.int un') (.int tn') (oV mi) (oV ma) (.ref g)))->But p H H'->out.length<=501->(∀ c∈bs',c∈bs\/H c=none)->Q .non H'
def ok'4 (T:Tx K mg A):cI P w K mg base CX0 2 A.f'4 A.lF ["self","lists"] (abH A):=by
 refine T.F'4.ok dY (fun vs H Q E h=>?_) (fun cdv B outer s H vs Q E hr h=>?_)
 ·obtain ⟨p,dx,a,bs,ls,r,tt,ov,un,tn,mi,ma,rf,rfl,_⟩:=h
  rfl
 ·obtain ⟨p,dx,a,bs0,ls,r,tt,ov,un,tn,mi,ma,rf,rfl,hp,hL,r2,r64,h2,h4,h5,q⟩:=h
  refine ⟨_,(aq (aU (i:=2) dY.nd rfl (Or.inl rfl) (fu (gH rfl) (by rfl) T.pQ yd (aj (pv 1) au)))
   (aq (aU (i:=3) dY.nd rfl (Or.inl rfl) aC)
   (aq (aU (i:=4) dY.nd rfl (Or.inl rfl) aC)
   (aq (qX jD (cg Ku (pv 3) (dz f9 (by rfl) T.sW mQ (aj (pv 2) au)) (cP _)) (aq (aU (i:=5) dY.nd rfl (Or.inl rfl) (cu (ixG (bO hr)) (pv 2) (pv 3) (fun _ _=>rfl)))
   (aq (gG (cg DN (dz f9 (by rfl) T.sW mQ (aj (pv 5) au)) (aJ (pv 0) rfl) (cP _)) (aq (gG (cg qe (aM dD (pv 3) aC) (dz f9 (by rfl) T.sW mQ (aj (pv 2) au)) (cP _)) (aF (aY (d9 fJ iQ iR cF (pv 2) (aj (cM au) au)))) eY)
   (aq (wG (aQ (ok'1 T) (hr.mono (by decide)) rfl T.Dp T.F'1.kp T.b'1 .nil aV (aj (pv 5) au)) (Az (pv 2) (pv 3) (setG (bO hr))))
   (aq (wG (dz (kI rfl) (by rfl) T.oF Ao (aj (aM wK (cu (ixG (bO hr)) (pv 2) (aM dD (pv 3) aC) (fun _ _=>rfl)) (aQ (ok'2 T) (hr.mono (by decide)) rfl T.acQ T.F'2.kp T.b'2 .nil aV (aj (pv 5) (aj (aJ (pv 0) rfl) au)))) au)) (Az (pv 2) (aM dD (pv 3) aC) (setG (bO hr))))
   (aF (aY (eN (pv 0) T.cG T.Je (ok'3 T) (hr.mono (by decide)) T.b'3 .nil aV (aj (pv 4) au))))))) eY)
   (aq (aU (i:=3) dY.nd rfl (Or.inl rfl) (aM dD (pv 3) aC))
   (aF (aU (i:=4) dY.nd rfl (Or.inl rfl) (aM ni (pv 4) aC)))))))
   (aF (bK (pv 0) (pv 2) rfl)))))),?_⟩
  refine ⟨_,rfl,.inl ⟨a,_,rfl,.inl (.inl (.inl hL.o)),fun g hg=>?_⟩⟩
  have L0:=hL.copy hg
  have s0:Same H (upd H g (.lst (bs0.map V.ref))):=Same.new hg
  generalize upd H g (.lst (bs0.map V.ref))=H1 at L0 s0 ⊢
  refine qZ (fun σ G=>∃ (bs:List Addr) (ms:RG.Ls) (j:Nat) (tn2 ov2 un2:Int) (x:Option V),σ=[some (.ref p),some (.ref a),some (.ref g),some (.int (j:Int)),some (.int (2 ^ j)),x]/\LL G g bs ms/\G p=some (.ins A.dB dx (rg (.int r) (.int tt) (.int ov2) (.int un2) (.int tn2) (oV mi) (oV ma) rf))/\But p H G/\RG.Run r tn ov un ls j tn2 ov2 un2 ms/\ms.length<=501/\∀ c∈bs,c∈bs0\/H c=none) placeOf
   ⟨bs0,ls,0,tn,ov,un,none,rfl,L0,s0 _ _ hp,s0.but p,RG.Run.start,by omega,fun c hc=>.inl hc⟩ ?_ ?_
  ·rintro σ G ⟨bs,ms,j,tn2,ov2,un2,x,rfl,L,gp,bt,R,ln,fr⟩
   have jl:=R.le
   have ep:((j:Int)+1)=((j+1:Nat):Int):=by omega
   refine ⟨_,rfl,_,rfl,pC (.inl (.inl L.o)) ⟨_,_,rfl,rfl,_,rfl,fX (fun hc=>?_) (fun hc=>?_)⟩⟩
   ·have hj:j<ms.length:=by
     have:=of_decide_eq_true hc
     rw [aZ,L.n] at this
     omega
    obtain ⟨b,l,eb,el,hb⟩:=L.at hj
    have nbg:b≠g:=fun z=>L.x (by rw [<- z];exact List.mem_of_getElem? eb)
    refine ⟨_,rfl,_,rfl,iz (.inl (.inl L.o)) (v:=.ref b) (LL.ix eb) ?_⟩
    refine ⟨_,rfl,pC (.inl (.inl hb)) ⟨_,rfl,rdF gp T.cG T.Mf (Vk ..) ⟨_,_,rfl,rfl,_,rfl,fX (fun hg2=>?_) (fun hg2=>?_)⟩⟩⟩
    ·have hgt:r<(l.length:Int):=by have:=of_decide_eq_true hg2;rw [aZ] at this;exact this
     have hs:∀ l∈ls,l.length<=31:=h2.resolve_right fun z=>by
      have e:=R.b0 z
      have:=z l (by rw [<- e];exact List.mem_of_getElem? el)
      omega
     have ll4:=R.b1 hs l (List.mem_of_getElem? el)
     have hl2:2<=l.length:=by omega
     have hbig:=R.big el (fun z=>by rw [z] at hl2;exact absurd hl2 (by decide))
     have j5:j<500:=by
      rcases nR j 500 with z | z
      ·exact z
      ·have:=Af (show 0<2 by decide) z
       omega
     refine ⟨_,rfl,_,_,rfl,rfl,_,rfl,pC (.inl (.inl L.o)) ⟨rfl,_,rfl,fX (fun he=>?_) (fun he=>?_)⟩⟩
     ·have he:j+1=ms.length:=by
       have:=V.int.inj (of_decide_eq_true he)
       rw [aZ,L.n] at this
       omega
      refine ⟨_,rfl,.inl ⟨rfl,_,.inl (.inl L.o)⟩,by show 0<=sizeLine;decide,fun c hc0=>?_⟩
      have s1:Same G (upd G c (.lst [])):=Same.new hc0
      have f1:(upd G c (.lst [])) c=some (.lst (([]:List Int).map V.int)):=ak
      generalize upd G c (.lst [])=G1 at s1 f1 ⊢
      have nc:c≠g:=aL (ao L.o hc0)
      refine ⟨g,_,_,rfl,rfl,s1 _ _ L.o,aO (by rw [aZ,L.n];omega),?_⟩
      have LX:=(L.same s1).app f1 nc
      have gx:∀ x o,G x=some o->x≠g->(upd G1 g (.lst (bs.map V.ref++[.ref c]))) x=some o:=fun x o e n=>by rw [aA n];exact s1 _ _ e
      have pX:=gx _ _ gp (iZ gp L.o (by intro z;cases z))
      have bX:=gx _ _ hb nbg
      have btX:But p H (upd G1 g (.lst (bs.map V.ref++[.ref c]))):=fun b o e n=>gx _ _ (bt b o e n) (ao e hg)
      generalize upd G1 g (.lst (bs.map V.ref++[.ref c]))=GX at LX pX bX btX ⊢
      obtain ⟨nx,MR⟩:∃ nx:List Int,RG.More j ms (ms++[[]]) nx:=⟨[],.inr ⟨he,rfl,rfl⟩⟩
      have hb:=bX
      have SG:Same GX GX:=Same.refl _
      have fr2:∀ x∈bs++[c],x∈bs0\/H x=none:=fun x hx=>by
       rcases gB.mp hx with z | z
       ·exact fr x z
       ·rw [fP.mp z];exact .inr (cN bt hc0 fun y=>by rw [y,gp] at hc0;cases hc0)
      have LN:(ms++[[]]).length<=501:=by rw [dR];show ms.length+1<=501;omega
      obtain ⟨h1,h2,_,_,_⟩:=MR.at el
      obtain ⟨hp1,_⟩:=gZ.mp h1
      obtain ⟨hp2,_⟩:=gZ.mp h2
      have hb':GX b=some (.lst (l.map V.int)):=SG _ _ hb
      refine ⟨_,rfl,b,l,rfl,hb',fun c1 G1 nc1 f1 s1=>?_⟩
      have L1:=LX.same s1
      have n1:c1≠g:=aL (ao LX.o nc1)
      refine ⟨_,rfl,_,rfl,.inl ⟨g,_,_,j,rfl,rfl,L1.o,rR (by rw [aZ,LX.n];exact hp1),?_⟩⟩
      have L2:=L1.set (i:=j) f1 n1
      have pg:p≠g:=iZ (s1 _ _ pX) L1.o (by intro z;cases z)
      have u2:∀ x o,G1 x=some o->x≠g->(upd G1 g (.lst (((bs++[c]).map V.ref).set j (.ref c1)))) x=some o:=fun x o e n=>by rw [aA n];exact e
      have po2:=u2 _ _ (s1 _ _ pX) pg
      have hb2:=u2 _ _ (s1 _ _ hb') nbg
      have s02:But p H (upd G1 g (.lst (((bs++[c]).map V.ref).set j (.ref c1)))):=fun x o e n=>u2 _ _ (s1 _ _ (btX x o e n)) (ao e hg)
      generalize upd G1 g (.lst (((bs++[c]).map V.ref).set j (.ref c1)))=G2 at L2 po2 hb2 s02 ⊢
      have e2:((ms++[[]]).set j (RG.lft l))[j+1]? = some nx:=by rw [vJ (by omega)];exact h2
      obtain ⟨b3,l3,eb3,el3,hb3⟩:=L2.at (i:=j+1) (by rw [ji];exact hp2)
      obtain rfl:l3=nx:=by rw [e2] at el3;exact (bZ el3).symm
      have nx2:l3.length<=31:=by
       rcases MR with ⟨_,e⟩ | ⟨_,_,e⟩
       ·exact R.b2 hs l3 (by rw [RG.fD e];exact eF)
       ·rw [e];exact dN _
      refine ⟨_,rfl,_,rfl,_,_,rfl,rfl,iz (.inl (.inl L2.o)) (v:=.ref b3) (by rw [ep];exact LL.ix eb3) ?_⟩
      refine ⟨_,rfl,_,rfl,rdF po2 T.cG T.ql (lU ..) ⟨b,l,tn2,rfl,hb2,fun c4 G4 nc4 f4 s4=>?_⟩⟩
      have lp:=RG.jJ (decide (tn2 % 2=1)) l
      refine ⟨b3,c4,_,_,rfl,rfl,s4 _ _ hb3,f4,mj (aO (by rw [aZ,aZ];omega)),fun c5 nc5=>?_⟩
      rw [<- cW]
      have s5:Same G4 (upd G4 c5 (.lst ((l3++RG.pick (decide (tn2 % 2=1)) l).map V.int))):=Same.new nc5
      have f5:(upd G4 c5 (.lst ((l3++RG.pick (decide (tn2 % 2=1)) l).map V.int))) c5=some (.lst ((l3++RG.pick (decide (tn2 % 2=1)) l).map V.int)):=ak
      generalize upd G4 c5 (.lst ((l3++RG.pick (decide (tn2 % 2=1)) l).map V.int))=G5 at s5 f5 ⊢
      refine .inr ⟨c5,_,rfl,.inl (.inl f5),by rw [dR];omega,fun c6 ns nc6 pm so=>?_⟩
      obtain rfl:=RG.uo pm so
      have s6:Same G5 (upd G5 c6 (.lst ((RG.srt (l3++RG.pick (decide (tn2 % 2=1)) l)).map V.int))):=Same.new nc6
      have f6:(upd G5 c6 (.lst ((RG.srt (l3++RG.pick (decide (tn2 % 2=1)) l)).map V.int))) c6=some (.lst ((RG.srt (l3++RG.pick (decide (tn2 % 2=1)) l)).map V.int)):=ak
      generalize upd G5 c6 (.lst ((RG.srt (l3++RG.pick (decide (tn2 % 2=1)) l)).map V.int))=G6 at s6 f6 ⊢
      have s26:=s4.trans (s5.trans s6)
      have L6:=L2.same s26
      have n6:c6≠g:=aL (ao ((s4.trans s5) _ _ L2.o) nc6)
      refine ⟨_,rfl,_,rfl,_,_,rfl,rfl,.inl ⟨g,_,_,j+1,rfl,rfl,L6.o,by rw [ep];exact rR (by rw [aZ,ji,LX.n];exact hp2),?_⟩⟩
      have L7:=L6.set (i:=j+1) f6 n6
      have po7:(upd G6 g (.lst ((((bs++[c]).set j c1).map V.ref).set (j+1) (.ref c6)))) p=_:=(aA pg).trans (s26 _ _ po2)
      have s07:But p H (upd G6 g (.lst ((((bs++[c]).set j c1).map V.ref).set (j+1) (.ref c6)))):=fun x o e n=>by rw [aA (ao e hg)];exact s26 _ _ (s02 x o e n)
      generalize upd G6 g (.lst ((((bs++[c]).set j c1).map V.ref).set (j+1) (.ref c6)))=G7 at L7 po7 s07 ⊢
      refine ⟨_,rfl,p,dx,_,rfl,po7,rgN (by decide +kernel),_,rfl,p,dx,r,tt,ov2,un2,tn2,2 ^ j,oV mi,oV ma,rf,rfl,po7,?_⟩
      have R8:=R.turn MR el hgt
      have L8:LL (upd G7 p (.ins A.dB dx (rg (.int r) (.int tt) (.int (if tn2 % 2=0 then ov2+2 ^ j else ov2)) (.int (if tn2 % 2=0 then un2 else un2+2 ^ j)) (.int (tn2+1)) (oV mi) (oV ma) rf))) g _ _:=L7.but (But.upd) po7
      have po8:(upd G7 p (.ins A.dB dx (rg (.int r) (.int tt) (.int (if tn2 % 2=0 then ov2+2 ^ j else ov2)) (.int (if tn2 % 2=0 then un2 else un2+2 ^ j)) (.int (tn2+1)) (oV mi) (oV ma) rf))) p=_:=ak
      have s08:But p H (upd G7 p (.ins A.dB dx (rg (.int r) (.int tt) (.int (if tn2 % 2=0 then ov2+2 ^ j else ov2)) (.int (if tn2 % 2=0 then un2 else un2+2 ^ j)) (.int (tn2+1)) (oV mi) (oV ma) rf))):=s07.trans But.upd
      generalize upd G7 p (.ins A.dB dx (rg (.int r) (.int tt) (.int (if tn2 % 2=0 then ov2+2 ^ j else ov2)) (.int (if tn2 % 2=0 then un2 else un2+2 ^ j)) (.int (tn2+1)) (oV mi) (oV ma) rf))=G8 at L8 po8 s08 ⊢
      refine ⟨_,rfl,_,_,rfl,rfl,_,rfl,_,_,rfl,rfl,gQ (by decide) (by decide),?_,?_⟩
      ·exact ⟨_,_,j+1,_,_,_,_,by rw [<- ep,lB];rfl,L8,po8,s08,R8,by rw [ji,ji];exact LN,fun c hc=>by
        rcases uI hc with z | z
        ·rcases uI z with z | z
         ·exact fr2 c z
         ·rw [z];exact .inr (cN btX nc1 fun y=>by rw [y,pX] at nc1;cases nc1)
        ·rw [z];exact .inr (cN (s02.trans ((s4.trans s5).but p)) nc6 fun y=>by rw [y,(s4.trans s5) _ _ po2] at nc6;cases nc6)⟩
      ·show (1000-((j:Int)+1)).toNat<(1000-(j:Int)).toNat
       omega
     ·have he:¬ j+1=ms.length:=fun z=>he (decide_eq_true (congrArg V.int (by rw [aZ,L.n];omega)))
      obtain ⟨b',nx,eb',el',_⟩:=L.at (i:=j+1) (by omega)
      have MR:RG.More j ms ms nx:=.inl ⟨rfl,el'⟩
      have SG:Same G G:=Same.refl _
      have LN:=ln
      obtain ⟨h1,h2,_,_,_⟩:=MR.at el
      obtain ⟨hp1,_⟩:=gZ.mp h1
      obtain ⟨hp2,_⟩:=gZ.mp h2
      have hb':G b=some (.lst (l.map V.int)):=SG _ _ hb
      refine ⟨_,rfl,b,l,rfl,hb',fun c1 G1 nc1 f1 s1=>?_⟩
      have L1:=L.same s1
      have n1:c1≠g:=aL (ao L.o nc1)
      refine ⟨_,rfl,_,rfl,.inl ⟨g,_,_,j,rfl,rfl,L1.o,rR (by rw [aZ,L.n];exact hp1),?_⟩⟩
      have L2:=L1.set (i:=j) f1 n1
      have pg:p≠g:=iZ (s1 _ _ gp) L1.o (by intro z;cases z)
      have u2:∀ x o,G1 x=some o->x≠g->(upd G1 g (.lst ((bs.map V.ref).set j (.ref c1)))) x=some o:=fun x o e n=>by rw [aA n];exact e
      have po2:=u2 _ _ (s1 _ _ gp) pg
      have hb2:=u2 _ _ (s1 _ _ hb') nbg
      have s02:But p H (upd G1 g (.lst ((bs.map V.ref).set j (.ref c1)))):=fun x o e n=>u2 _ _ (s1 _ _ (bt x o e n)) (ao e hg)
      generalize upd G1 g (.lst ((bs.map V.ref).set j (.ref c1)))=G2 at L2 po2 hb2 s02 ⊢
      have e2:(ms.set j (RG.lft l))[j+1]? = some nx:=by rw [vJ (by omega)];exact h2
      obtain ⟨b3,l3,eb3,el3,hb3⟩:=L2.at (i:=j+1) (by rw [ji];exact hp2)
      obtain rfl:l3=nx:=by rw [e2] at el3;exact (bZ el3).symm
      have nx2:l3.length<=31:=by
       rcases MR with ⟨_,e⟩ | ⟨_,_,e⟩
       ·exact R.b2 hs l3 (by rw [RG.fD e];exact eF)
       ·rw [e];exact dN _
      refine ⟨_,rfl,_,rfl,_,_,rfl,rfl,iz (.inl (.inl L2.o)) (v:=.ref b3) (by rw [ep];exact LL.ix eb3) ?_⟩
      refine ⟨_,rfl,_,rfl,rdF po2 T.cG T.ql (lU ..) ⟨b,l,tn2,rfl,hb2,fun c4 G4 nc4 f4 s4=>?_⟩⟩
      have lp:=RG.jJ (decide (tn2 % 2=1)) l
      refine ⟨b3,c4,_,_,rfl,rfl,s4 _ _ hb3,f4,mj (aO (by rw [aZ,aZ];omega)),fun c5 nc5=>?_⟩
      rw [<- cW]
      have s5:Same G4 (upd G4 c5 (.lst ((l3++RG.pick (decide (tn2 % 2=1)) l).map V.int))):=Same.new nc5
      have f5:(upd G4 c5 (.lst ((l3++RG.pick (decide (tn2 % 2=1)) l).map V.int))) c5=some (.lst ((l3++RG.pick (decide (tn2 % 2=1)) l).map V.int)):=ak
      generalize upd G4 c5 (.lst ((l3++RG.pick (decide (tn2 % 2=1)) l).map V.int))=G5 at s5 f5 ⊢
      refine .inr ⟨c5,_,rfl,.inl (.inl f5),by rw [dR];omega,fun c6 ns nc6 pm so=>?_⟩
      obtain rfl:=RG.uo pm so
      have s6:Same G5 (upd G5 c6 (.lst ((RG.srt (l3++RG.pick (decide (tn2 % 2=1)) l)).map V.int))):=Same.new nc6
      have f6:(upd G5 c6 (.lst ((RG.srt (l3++RG.pick (decide (tn2 % 2=1)) l)).map V.int))) c6=some (.lst ((RG.srt (l3++RG.pick (decide (tn2 % 2=1)) l)).map V.int)):=ak
      generalize upd G5 c6 (.lst ((RG.srt (l3++RG.pick (decide (tn2 % 2=1)) l)).map V.int))=G6 at s6 f6 ⊢
      have s26:=s4.trans (s5.trans s6)
      have L6:=L2.same s26
      have n6:c6≠g:=aL (ao ((s4.trans s5) _ _ L2.o) nc6)
      refine ⟨_,rfl,_,rfl,_,_,rfl,rfl,.inl ⟨g,_,_,j+1,rfl,rfl,L6.o,by rw [ep];exact rR (by rw [aZ,ji,L.n];exact hp2),?_⟩⟩
      have L7:=L6.set (i:=j+1) f6 n6
      have po7:(upd G6 g (.lst (((bs.set j c1).map V.ref).set (j+1) (.ref c6)))) p=_:=(aA pg).trans (s26 _ _ po2)
      have s07:But p H (upd G6 g (.lst (((bs.set j c1).map V.ref).set (j+1) (.ref c6)))):=fun x o e n=>by rw [aA (ao e hg)];exact s26 _ _ (s02 x o e n)
      generalize upd G6 g (.lst (((bs.set j c1).map V.ref).set (j+1) (.ref c6)))=G7 at L7 po7 s07 ⊢
      refine ⟨_,rfl,p,dx,_,rfl,po7,rgN (by decide +kernel),_,rfl,p,dx,r,tt,ov2,un2,tn2,2 ^ j,oV mi,oV ma,rf,rfl,po7,?_⟩
      have R8:=R.turn MR el hgt
      have L8:LL (upd G7 p (.ins A.dB dx (rg (.int r) (.int tt) (.int (if tn2 % 2=0 then ov2+2 ^ j else ov2)) (.int (if tn2 % 2=0 then un2 else un2+2 ^ j)) (.int (tn2+1)) (oV mi) (oV ma) rf))) g _ _:=L7.but (But.upd) po7
      have po8:(upd G7 p (.ins A.dB dx (rg (.int r) (.int tt) (.int (if tn2 % 2=0 then ov2+2 ^ j else ov2)) (.int (if tn2 % 2=0 then un2 else un2+2 ^ j)) (.int (tn2+1)) (oV mi) (oV ma) rf))) p=_:=ak
      have s08:But p H (upd G7 p (.ins A.dB dx (rg (.int r) (.int tt) (.int (if tn2 % 2=0 then ov2+2 ^ j else ov2)) (.int (if tn2 % 2=0 then un2 else un2+2 ^ j)) (.int (tn2+1)) (oV mi) (oV ma) rf))):=s07.trans But.upd
      generalize upd G7 p (.ins A.dB dx (rg (.int r) (.int tt) (.int (if tn2 % 2=0 then ov2+2 ^ j else ov2)) (.int (if tn2 % 2=0 then un2 else un2+2 ^ j)) (.int (tn2+1)) (oV mi) (oV ma) rf))=G8 at L8 po8 s08 ⊢
      refine ⟨_,rfl,_,_,rfl,rfl,_,rfl,_,_,rfl,rfl,gQ (by decide) (by decide),?_,?_⟩
      ·exact ⟨_,_,j+1,_,_,_,_,by rw [<- ep,lB];rfl,L8,po8,s08,R8,by rw [ji,ji];exact LN,fun c hc=>by
        rcases uI hc with z | z
        ·rcases uI z with z | z
         ·exact fr c z
         ·rw [z];exact .inr (cN bt nc1 fun y=>by rw [y,gp] at nc1;cases nc1)
        ·rw [z];exact .inr (cN (s02.trans ((s4.trans s5).but p)) nc6 fun y=>by rw [y,(s4.trans s5) _ _ po2] at nc6;cases nc6)⟩
      ·show (1000-((j:Int)+1)).toNat<(1000-(j:Int)).toNat
       omega
    ·have hle:(l.length:Int)<=r:=by
      have:¬ r<((l.map V.int).length:Int):=fun z=>hg2 (decide_eq_true z)
      rw [aZ] at this
      omega
     refine ⟨_,rfl,_,_,rfl,rfl,_,rfl,_,_,rfl,rfl,gQ (by decide) (by decide),?_,?_⟩
     ·exact ⟨bs,ms,j+1,_,_,_,_,by rw [<- ep,lB];rfl,L,gp,bt,R.keep el hle,ln,fr⟩
     ·show (1000-((j:Int)+1)).toNat<(1000-(j:Int)).toNat
      omega
   ·have hj:ms.length<=j:=by
     have:¬ (j:Int)<((bs.map V.ref).length:Int):=fun z=>hc (decide_eq_true z)
     rw [aZ,L.n] at this
     omega
    refine ⟨_,rfl,_,rfl,p,_,dx,_,rfl,gp,T.cG,T.BZ,(by show 8<1000;decide),?_⟩
    rw [Jr]
    exact q g bs ms tn2 ov2 un2 _ (R.done hj) hg (L.but But.upd gp) ak (bt.trans But.upd) ln fr
  ·exact fun σ H Q Q' hq h=>jo (zB (dO 3) (Ly (oA (dO 2) vd))) σ H Q Q' hq h
def lo2:Option Int->Option Int->Option Int
 | none,b=>b
 | a,none=>a
 | some a,some b=>some (min a b)
def hi2:Option Int->Option Int->Option Int
 | none,b=>b
 | a,none=>a
 | some a,some b=>some (max a b)
def EY (a b:Option Int):List Int:=a.toList++b.toList
def ac1 {a b:Option Int} {v:V} (h:Best true (EY a b) v):v=oV (lo2 a b):=by
 rcases h with ⟨e,rfl⟩ | ⟨m,rfl,hm,hb⟩
 ·cases a <;> cases b <;> first | rfl | cases e
 ·cases a with
  | none=>cases b with
   | none=>cases hm
   | some b=>rw [fP.mp hm];rfl
  | some a=>cases b with
   | none=>rw [fP.mp hm];rfl
   | some b =>
    have h1:=hb a eF
    have h2:=hb b (eU _ eF)
    rw [if_pos rfl] at h1 h2
    have:m=min a b:=by
     rcases cC.mp hm with z | z
     ·omega
     ·have:=fP.mp z;omega
    rw [this];rfl
def ac2 {a b:Option Int} {v:V} (h:Best false (EY a b) v):v=oV (hi2 a b):=by
 rcases h with ⟨e,rfl⟩ | ⟨m,rfl,hm,hb⟩
 ·cases a <;> cases b <;> first | rfl | cases e
 ·cases a with
  | none=>cases b with
   | none=>cases hm
   | some b=>rw [fP.mp hm];rfl
  | some a=>cases b with
   | none=>rw [fP.mp hm];rfl
   | some b =>
    have h1:=hb a eF
    have h2:=hb b (eU _ eF)
    rw [if_neg (by decide)] at h1 h2
    have:m=max a b:=by
     rcases cC.mp hm with z | z
     ·omega
     ·have:=fP.mp z;omega
    rw [this];rfl
def known (a b:Option Int) (i:Nat):List V:=(([a,b].take i).flatMap Option.toList).map V.int
def Mv (f:Option Int->Option Int->Option Int):Sp:=fun vs H Q _=>∃ (a b:Option Int),vs=[oV a,oV b]/\∀ H',Same H H'->Q (oV (f a b)) H'
def ok'5 (T:Tx K mg A):cI P w K mg base CX0 1 A.f'5 A.Bv ["one","other"] (Mv lo2):=by
 refine T.F'5.ok Ey (fun vs H Q E h=>?_) (fun cdv B outer s H vs Q E hr h=>?_)
 ·obtain ⟨a,b,rfl,_⟩:=h
  rfl
 ·obtain ⟨a,b,rfl,q⟩:=h
  refine ⟨_,(aq (pD (i:=2) (cl:=[]) (N:=["thing"]) (caps:=[]) (tt:=_) (te:=_) Ey.nd rfl (Or.inl rfl) rfl (by with_unfolding_all rfl) (by decide +kernel) rfl (by decide +kernel) trivial (rB (by with_unfolding_all rfl)) (by decide +kernel) rfl rfl rfl (fK.at (k:=1) (show fK _ _ _ _ 1 [] from trivial)) (aak (jP (aj (pv 0) (aj (pv 1) au)))) (fun _ _ _ _=>(zu (cg HY (pv 0) ug (cP _)))) (fun _ _ _ _=>(pv 0)))
   (aF (cA (acM T.n_min (pv 2) rfl)))),?_⟩
  refine ⟨_,rfl,_,rfl,by show 2<=sizeLine;decide,fun t ht=>?_⟩
  have s1:Same H (upd H t (.tup [oV a,oV b])):=Same.new ht
  have f1:(upd H t (.tup [oV a,oV b])) t=some (.tup [oV a,oV b]):=ak
  generalize upd H t (.tup [oV a,oV b])=H1 at s1 f1 ⊢
  refine ⟨t,rfl,⟨_,.inl (.inl f1)⟩,fun D hD=>?_⟩
  refine Bu (K:=K) (a:=t) (xs:=[oV a,oV b]) (fun i ys G=>ys=known a b i/\G=upd H1 D (.lst ys)) ⟨rfl,rfl⟩ ?_ ?_ ?_ ?_ ?_
  ·rintro i ys G hi ⟨rfl,rfl⟩
   refine ⟨.inl (.inl ((Same.new hD) _ _ f1)),ak,aO ?_⟩
   unfold known
   cases a <;> cases b <;> match i,hi with
    | 0,_=>simp
    | 1,_=>simp
    | 2,_=>simp
  ·rintro i ys G x hx ⟨rfl,rfl⟩
   match i,hx with
   | 0,hx =>
    obtain rfl:oV a=x:=bZ hx
    cases a with
    | none=>exact ⟨_,rfl,rfl,_,rfl,fX (fun h=>absurd h (by decide)) (fun _=>⟨ak,rfl,rfl⟩)⟩
    | some z=>exact ⟨_,rfl,rfl,_,rfl,fX (fun _=>⟨_,rfl,ak,rfl,by rw [cY]⟩) (fun h=>absurd (show (!decide (V.int z=V.non))=true by rw [decide_eq_false (by intro y;cases y)];rfl) h)⟩
   | 1,hx =>
    obtain rfl:oV b=x:=bZ hx
    cases b with
    | none=>exact ⟨_,rfl,rfl,_,rfl,fX (fun h=>absurd h (by decide)) (fun _=>⟨ak,by cases a <;> rfl,by cases a <;> rfl⟩)⟩
    | some z=>exact ⟨_,rfl,rfl,_,rfl,fX (fun _=>⟨_,rfl,ak,by cases a <;> rfl,by rw [cY]⟩) (fun h=>absurd (show (!decide (V.int z=V.non))=true by rw [decide_eq_false (by intro y;cases y)];rfl) h)⟩
  ·rintro ys G ⟨rfl,rfl⟩
   have ek:known a b [oV a,oV b].length=(EY a b).map V.int:=by cases a <;> cases b <;> rfl
   rw [ek]
   refine ⟨_,rfl,D,EY a b,rfl,.inl (.inl ak),fun v hv=>?_⟩
   rw [ac1 hv]
   exact q _ (s1.trans (Same.new hD))
  ·exact fun σ H R R' hr h=>jo (zA (r:=fun x y H Q=>y = .non/\Q (.bl (!decide (x = .non))) H) (fun x y H Q Q' hq h=>⟨h.1,hq _ _ h.2⟩) (dO 0) (IV _)) σ H R R' hr h
  ·exact dO 0
def ok'6 (T:Tx K mg A):cI P w K mg base CX0 1 A.f'6 A.wU ["one","other"] (Mv hi2):=by
 refine T.F'6.ok Cw (fun vs H Q E h=>?_) (fun cdv B outer s H vs Q E hr h=>?_)
 ·obtain ⟨a,b,rfl,_⟩:=h
  rfl
 ·obtain ⟨a,b,rfl,q⟩:=h
  refine ⟨_,(aq (pD (i:=2) (cl:=[]) (N:=["thing"]) (caps:=[]) (tt:=_) (te:=_) Cw.nd rfl (Or.inl rfl) rfl (by with_unfolding_all rfl) (by decide +kernel) rfl (by decide +kernel) trivial (rB (by with_unfolding_all rfl)) (by decide +kernel) rfl rfl rfl (fK.at (k:=1) (show fK _ _ _ _ 1 [] from trivial)) (aak (jP (aj (pv 0) (aj (pv 1) au)))) (fun _ _ _ _=>(zu (cg HY (pv 0) ug (cP _)))) (fun _ _ _ _=>(pv 0)))
   (aF (cA (acN T.n_max (pv 2) rfl)))),?_⟩
  refine ⟨_,rfl,_,rfl,by show 2<=sizeLine;decide,fun t ht=>?_⟩
  have s1:Same H (upd H t (.tup [oV a,oV b])):=Same.new ht
  have f1:(upd H t (.tup [oV a,oV b])) t=some (.tup [oV a,oV b]):=ak
  generalize upd H t (.tup [oV a,oV b])=H1 at s1 f1 ⊢
  refine ⟨t,rfl,⟨_,.inl (.inl f1)⟩,fun D hD=>?_⟩
  refine Bu (K:=K) (a:=t) (xs:=[oV a,oV b]) (fun i ys G=>ys=known a b i/\G=upd H1 D (.lst ys)) ⟨rfl,rfl⟩ ?_ ?_ ?_ ?_ ?_
  ·rintro i ys G hi ⟨rfl,rfl⟩
   refine ⟨.inl (.inl ((Same.new hD) _ _ f1)),ak,aO ?_⟩
   unfold known
   cases a <;> cases b <;> match i,hi with
    | 0,_=>simp
    | 1,_=>simp
    | 2,_=>simp
  ·rintro i ys G x hx ⟨rfl,rfl⟩
   match i,hx with
   | 0,hx =>
    obtain rfl:oV a=x:=bZ hx
    cases a with
    | none=>exact ⟨_,rfl,rfl,_,rfl,fX (fun h=>absurd h (by decide)) (fun _=>⟨ak,rfl,rfl⟩)⟩
    | some z=>exact ⟨_,rfl,rfl,_,rfl,fX (fun _=>⟨_,rfl,ak,rfl,by rw [cY]⟩) (fun h=>absurd (show (!decide (V.int z=V.non))=true by rw [decide_eq_false (by intro y;cases y)];rfl) h)⟩
   | 1,hx =>
    obtain rfl:oV b=x:=bZ hx
    cases b with
    | none=>exact ⟨_,rfl,rfl,_,rfl,fX (fun h=>absurd h (by decide)) (fun _=>⟨ak,by cases a <;> rfl,by cases a <;> rfl⟩)⟩
    | some z=>exact ⟨_,rfl,rfl,_,rfl,fX (fun _=>⟨_,rfl,ak,by cases a <;> rfl,by rw [cY]⟩) (fun h=>absurd (show (!decide (V.int z=V.non))=true by rw [decide_eq_false (by intro y;cases y)];rfl) h)⟩
  ·rintro ys G ⟨rfl,rfl⟩
   have ek:known a b [oV a,oV b].length=(EY a b).map V.int:=by cases a <;> cases b <;> rfl
   rw [ek]
   refine ⟨_,rfl,D,EY a b,rfl,.inl (.inl ak),fun v hv=>?_⟩
   rw [ac2 hv]
   exact q _ (s1.trans (Same.new hD))
  ·exact fun σ H R R' hr h=>jo (zA (r:=fun x y H Q=>y = .non/\Q (.bl (!decide (x = .non))) H) (fun x y H Q Q' hq h=>⟨h.1,hq _ _ h.2⟩) (dO 0) (IV _)) σ H R R' hr h
  ·exact dO 0
def ac3 (A:Ad):Sp:=fun vs H Q _=>∃ (p dx:Addr) (r:Int),vs=[.ref p,.int r]/\H p=some (.ins A.dB dx []) /\
 ∀ (d:Addr) (H':Hp),H d=none->H' p=some (.ins A.dB dx (rg (.int r) (.int 0) (.int 0) (.int 0) (.int 0) .non .non (.ref d)))->H' d=some (.lst [])->But p H H'->Q .non H'
def ok'7 (T:Tx K mg A):cI P w K mg base CX0 1 A.f'7 A.pI ["self","room"] (ac3 A):=by
 refine T.F'7.ok Dt (fun vs H Q E h=>?_) (fun cdv B outer s H vs Q E hr h=>?_)
 ·obtain ⟨p,dx,r,rfl,_⟩:=h
  rfl
 ·obtain ⟨p,dx,r,rfl,hp,q⟩:=h
  refine ⟨_,(aq (bK (pv 0) (pv 1) rfl)
   (aq (bK (pv 0) aC rfl)
   (aq (bK (pv 0) aC rfl)
   (aq (bK (pv 0) aC rfl)
   (aq (bK (pv 0) aC rfl)
   (aq (bK (pv 0) ug rfl)
   (aq (bK (pv 0) ug rfl)
   (aF (bK (pv 0) (cM au) rfl))))))))),?_⟩
  refine ⟨_,rfl,_,rfl,p,_,dx,[],rfl,hp,T.cG,T.Mf,(by show 0<1000;decide),?_⟩
  refine ⟨_,rfl,p,_,dx,_,rfl,ak,T.cG,T.yu,(by show 1<1000;decide),?_⟩
  refine ⟨_,rfl,p,_,dx,_,rfl,ak,T.cG,T.BP,(by show 2<1000;decide),?_⟩
  refine ⟨_,rfl,p,_,dx,_,rfl,ak,T.cG,T.BR,(by show 3<1000;decide),?_⟩
  refine ⟨_,rfl,p,_,dx,_,rfl,ak,T.cG,T.ql,(by show 4<1000;decide),?_⟩
  refine ⟨_,rfl,p,_,dx,_,rfl,ak,T.cG,T.BW,(by show 5<1000;decide),?_⟩
  refine ⟨_,rfl,p,_,dx,_,rfl,ak,T.cG,T.BX,(by show 6<1000;decide),?_⟩
  rw [cY,cY,cY,cY,cY,cY]
  refine ⟨(by show 0<=sizeLine;decide),fun d hd=>?_⟩
  have npd:p≠d:=fun z=>by rw [<- z,ak] at hd;cases hd
  rw [aA (aL npd)] at hd
  refine ⟨_,rfl,p,_,dx,_,rfl,(by rw [aA npd];exact ak),T.cG,T.BZ,(by show 7<1000;decide),?_⟩
  refine q d _ hd (Aw ak (by rw [af4])) (by rw [aA (aL npd),ak]) fun b o e hb=>?_
  rw [aA hb,aA (ao e hd),aA hb]
  exact e
/-- a Rungs -/
structure Rn (A:Ad) (H:Hp) (p dx a:Addr) (bs:List Addr) (r tt ov un tn:Int) (mi ma:Option Int) (ls:RG.Ls):Prop where
 o:H p=some (.ins A.dB dx (rg (.int r) (.int tt) (.int ov) (.int un) (.int tn) (oV mi) (oV ma) (.ref a)))
 l:LL H a bs ls
section
variable {A:Ad} {H H':Hp} {p dx a:Addr} {bs:List Addr} {r tt ov un tn:Int} {mi ma:Option Int} {ls:RG.Ls}
def Rn.same (h:Rn A H p dx a bs r tt ov un tn mi ma ls) (s:Same H H'):Rn A H' p dx a bs r tt ov un tn mi ma ls:=⟨s _ _ h.o,h.l.same s⟩
def Rn.but {q C e:Addr} {fs:List (Str × V)} (h:Rn A H p dx a bs r tt ov un tn mi ma ls) (b:But q H H') (hq:H q=some (.ins C e fs)) (n:p≠q):Rn A H' p dx a bs r tt ov un tn mi ma ls:=⟨b _ _ h.o n,h.l.but b hq⟩
def Rn.new {d:Addr} (h1:H p=some (.ins A.dB dx (rg (.int r) (.int 0) (.int 0) (.int 0) (.int 0) .non .non (.ref d)))) (h2:H d=some (.lst [])):Rn A H p dx d [] r 0 0 0 0 none none [] :=
 ⟨h1,⟨h2,rfl,fun i b l e=>by (cases i <;> cases e),fun z=>nomatch z⟩⟩
end
def aga (A:Ad):Sp:=fun vs H Q _=>∃ (p dx a:Addr) (bs:List Addr) (r tt ov un tn t w:Int) (mi ma:Option Int) (ls:RG.Ls),vs=[.ref p,.int t,.int w]/\Rn A H p dx a bs r tt ov un tn mi ma ls/\2<=r/\r<=64/\0<=w/\w<2 ^ 64/\ls.length<=400/\(∀ l∈ls,l.length<=62)/\((∀ l∈ls,l.length<=30)\/∀ l∈ls,(l.length:Int)+1<=r)/\RG.val ls<2 ^ 400 /\
 ∀ (a':Addr) (bs':List Addr) (out:RG.Ls) (tn' ov' un':Int) (H':Hp),RG.Stl r 0 tn ov un (RG.fj t ls w.toNat) out tn' ov' un'->Rn A H' p dx a' bs' r (tt+w) ov' un' tn' (lo2 mi (some t)) (hi2 ma (some t)) out->But p H H'->H a'=none->(∀ c∈bs',c∈bs\/H c=none)->Q .non H'
def ok'8 (T:Tx K mg A):cI P w K mg base CX0 5 A.f'8 A.rC ["self","thing","weight"] (aga A):=by
 refine T.F'8.ok Jk (fun vs H Q E h=>?_) (fun cdv B outer s H vs Q E hr h=>?_)
 ·obtain ⟨p,dx,a,bs,r,tt,ov,un,tn,t,w,mi,ma,ls,rfl,_⟩:=h
  rfl
 ·obtain ⟨p,dx,a,bs,r,tt,ov,un,tn,t,w,mi,ma,ls,rfl,hR,r2,r64,w0,w64,h3,h1,h6,hv,q⟩:=h
  refine ⟨_,(aq (bK (pv 0) (aM dD (aJ (pv 0) rfl) (pv 2)) rfl)
   (aq (bK (pv 0) (aQ (ok'5 T) (hr.mono (by decide)) rfl T.abw T.F'5.kp T.b'5 .nil aV (aj (aJ (pv 0) rfl) (aj (pv 1) au))) rfl)
   (aq (bK (pv 0) (aQ (ok'6 T) (hr.mono (by decide)) rfl T.Wx T.F'6.kp T.b'6 .nil aV (aj (aJ (pv 0) rfl) (aj (pv 1) au))) rfl)
   (aF (aY (eN (pv 0) T.cG T.Cj (ok'4 T) (hr.mono (by decide)) T.b'4 .nil aV (aj (aQ (ok'0 T) (hr.mono (by decide)) rfl T.Jd T.F'0.kp T.b'0 .nil aV (aj (aJ (pv 0) rfl) (aj (pv 1) (aj (pv 2) au)))) au))))))),?_⟩
  refine ⟨_,rfl,rdF hR.o T.cG T.yu (vC ..) ⟨_,rfl,_,_,rfl,rfl,_,rfl,p,_,dx,_,rfl,hR.o,T.cG,T.yu,(by show 8<1000;decide),?_⟩⟩
  rw [Jo]
  have b1:But p H (upd H p (.ins A.dB dx (rg (.int r) (.int (tt+w)) (.int ov) (.int un) (.int tn) (oV mi) (oV ma) (.ref a)))):=But.upd
  have o1:(upd H p (.ins A.dB dx (rg (.int r) (.int (tt+w)) (.int ov) (.int un) (.int tn) (oV mi) (oV ma) (.ref a)))) p=_:=ak
  have L1:=hR.l.but b1 hR.o
  generalize upd H p (.ins A.dB dx (rg (.int r) (.int (tt+w)) (.int ov) (.int un) (.int tn) (oV mi) (oV ma) (.ref a)))=H1 at b1 o1 L1 ⊢
  refine ⟨_,rfl,rdF o1 T.cG T.BW (CT ..) ⟨_,rfl,mi,some t,rfl,fun H2 s2=>⟨_,rfl,p,_,dx,_,rfl,s2 _ _ o1,T.cG,T.BW,(by show 8<1000;decide),?_⟩⟩⟩
  rw [Jq]
  have b3:But p H2 (upd H2 p (.ins A.dB dx (rg (.int r) (.int (tt+w)) (.int ov) (.int un) (.int tn) (oV (lo2 mi (some t))) (oV ma) (.ref a)))):=But.upd
  have o3:(upd H2 p (.ins A.dB dx (rg (.int r) (.int (tt+w)) (.int ov) (.int un) (.int tn) (oV (lo2 mi (some t))) (oV ma) (.ref a)))) p=_:=ak
  have L3:=(L1.same s2).but b3 (s2 _ _ o1)
  have b03:But p H (upd H2 p (.ins A.dB dx (rg (.int r) (.int (tt+w)) (.int ov) (.int un) (.int tn) (oV (lo2 mi (some t))) (oV ma) (.ref a)))):=(b1.trans (s2.but p)).trans b3
  generalize upd H2 p (.ins A.dB dx (rg (.int r) (.int (tt+w)) (.int ov) (.int un) (.int tn) (oV (lo2 mi (some t))) (oV ma) (.ref a)))=H3 at b03 o3 L3 ⊢
  refine ⟨_,rfl,rdF o3 T.cG T.BX (Jm ..) ⟨_,rfl,ma,some t,rfl,fun H4 s4=>⟨_,rfl,p,_,dx,_,rfl,s4 _ _ o3,T.cG,T.BX,(by show 8<1000;decide),?_⟩⟩⟩
  rw [Mu]
  have b5:But p H4 (upd H4 p (.ins A.dB dx (rg (.int r) (.int (tt+w)) (.int ov) (.int un) (.int tn) (oV (lo2 mi (some t))) (oV (hi2 ma (some t))) (.ref a)))):=But.upd
  have o5:(upd H4 p (.ins A.dB dx (rg (.int r) (.int (tt+w)) (.int ov) (.int un) (.int tn) (oV (lo2 mi (some t))) (oV (hi2 ma (some t))) (.ref a)))) p=_:=ak
  have L5:=(L3.same s4).but b5 (s4 _ _ o3)
  have b05:But p H (upd H4 p (.ins A.dB dx (rg (.int r) (.int (tt+w)) (.int ov) (.int un) (.int tn) (oV (lo2 mi (some t))) (oV (hi2 ma (some t))) (.ref a)))):=(b03.trans (s4.but p)).trans b5
  generalize upd H4 p (.ins A.dB dx (rg (.int r) (.int (tt+w)) (.int ov) (.int un) (.int tn) (oV (lo2 mi (some t))) (oV (hi2 ma (some t))) (.ref a)))=H5 at b05 o5 L5 ⊢
  refine ⟨_,rfl,p,dx,_,rfl,o5,rgN (by decide +kernel),?_⟩
  refine ⟨_,rfl,rdF o5 T.cG T.BZ (CV ..) ⟨_,rfl,_,rfl,a,bs,ls,t,w,rfl,L5,w0,w64,by omega,fun l hl=>by have:=h1 l hl;omega,fun g bs' H6 ng L6 s6 fr6=>?_⟩⟩
  refine ⟨p,dx,g,bs',_,r,tt+w,ov,un,tn,lo2 mi (some t),hi2 ma (some t),.ref a,rfl,s6 _ _ o5,L6,r2,r64,(h6.imp (fun z=>RG.Bs t _ _ z) fun z l m=>by have:=RG.Bs t (b:=(r-1).toNat) w.toNat ls (fun k hk=>by have:=z k hk;omega) l m;omega),?_,?_,fun g2 bs2 out tn' ov' un' H7 st ng2 L7 o7 b7 _ fr7=>?_⟩
  ·have:=RG.Ej t 64 w.toNat ls (by omega)
   omega
  ·rw [RG.Eh]
   have:(2:Nat) ^ 400+2 ^ 64<2 ^ 500:=by decide
   omega
  ·have b07:But p H H7:=(b05.trans (s6.but p)).trans b7
   have n5:H5 g2=none:=s6.free ng2
   refine q g2 bs2 out tn' ov' un' H7 st ⟨o7,L7⟩ b07 (cN b05 n5 fun z=>by rw [z,o5] at n5;cases n5) fun c hc=>?_
   have h5:H5 c=none->c∈bs\/H c=none:=fun n=>.inr (cN b05 n fun z=>by rw [z,o5] at n;cases n)
   rcases fr7 c hc with z | z
   ·rcases fr6 c z with z | z
    ·exact .inl z
    ·exact h5 z
   ·exact h5 (s6.free z)
def wf (aH aW dU dW:V):List (Str × V):=[("room",aH),("reach",aW),("clock",dU),("boxes",dW)]
def Vl (aH aW dU dW:V):(wf aH aW dU dW).lookup ("room" : Str)=some aH:=by rfl
def Mw (aH aW dU dW:V):(wf aH aW dU dW).lookup ("reach" : Str)=some aW:=by rfl
def lV (aH aW dU dW:V):(wf aH aW dU dW).lookup ("clock" : Str)=some dU:=by rfl
def vG (aH aW dU dW:V):(wf aH aW dU dW).lookup ("boxes" : Str)=some dW:=by rfl
def agb (aH aW dU dW:V):aB "boxes" dW (aB "clock" dU (aB "reach" aW (aB "room" aH [])))=wf aH aW dU dW:=by
 unfold wf
 rw [bV "room",aD (f := "reach") (g := "room") (by decide +kernel),bV "reach",aD (f := "clock") (g := "room") (by decide +kernel),aD (f := "clock") (g := "reach") (by decide +kernel),bV "clock",aD (f := "boxes") (g := "room") (by decide +kernel),aD (f := "boxes") (g := "reach") (by decide +kernel),aD (f := "boxes") (g := "clock") (by decide +kernel),bV "boxes"]
def vH (aH aW dU dW y:V):aB "clock" y (wf aH aW dU dW)=wf aH aW y dW:=by
 unfold wf
 rw [aD (f := "clock") (g := "room") (by decide +kernel),aD (f := "clock") (g := "reach") (by decide +kernel),gR]
def Js (aH aW dU dW y:V):aB "boxes" y (wf aH aW dU dW)=wf aH aW dU y:=by
 unfold wf
 rw [aD (f := "boxes") (g := "room") (by decide +kernel),aD (f := "boxes") (g := "reach") (by decide +kernel),aD (f := "boxes") (g := "clock") (by decide +kernel),gR]
def Mx (aH aW dU dW:V) {m:Str} (uG:¬ m = "room") (Jt:¬ m = "reach") (ac4:¬ m = "clock") (ac5:¬ m = "boxes"):(wf aH aW dU dW).lookup m=none:=by
 unfold wf
 rw [cJ uG,cJ Jt,cJ ac4,cJ ac5]
 rfl
abbrev Bp:=Addr × WN.Box
def bt (b:WN.Box):HO:=.tup [.int b.f,.int b.l,.int b.s]
structure Bxs (H:Hp) (l:Addr) (ps:List Bp):Prop where
 l:H l=some (.lst (ps.map fun p=>V.ref p.1))
 t:∀ p∈ps,H p.1=some (bt p.2)
def bx (ps:List Bp):List WN.Box:=ps.map (·.2)
def lW (ps:List Bp):(bx ps).length=ps.length:=aZ _
def Bxs.same {H H':Hp} {l:Addr} {ps:List Bp} (h:Bxs H l ps) (s:Same H H'):Bxs H' l ps:=⟨s _ _ h.l,fun p m=>s _ _ (h.t p m)⟩
def Bxs.but {H H':Hp} {l q C e:Addr} {fs:List (Str × V)} {ps:List Bp} (h:Bxs H l ps) (s:But q H H') (hq:H q=some (.ins C e fs)):Bxs H' l ps :=
 ⟨s _ _ h.l (iZ h.l hq (by intro z;cases z)),fun p m=>s _ _ (h.t p m) (iZ (h.t p m) hq (by intro z;cases z))⟩
def Ju {ps:List Bp} {i:Nat} {y:V} (h:(ps.map fun p=>V.ref p.1)[i]? = some y):∃ p,ps[i]? = some p/\y=V.ref p.1:=by
 rw [kW] at h
 cases e:ps[i]? with
 | none=>rw [e] at h;cases h
 | some z=>rw [e] at h;exact ⟨z,rfl,(bZ h).symm⟩
def jg (room edge:Int) (bs:List WN.Box):List WN.Box:=(WN.settled room (bs.filter fun b=>decide (edge<b.l)).reverse).reverse
def abI:Sp:=fun vs H Q _=>∃ (l:Addr) (room:Int) (ps:List Bp),vs=[.ref l,.int room]/\Bxs H l ps/\ps.length<=500/\0<=room/\room<=64 /\
 ∀ (l':Addr) (ps':List Bp) (H':Hp),H l'=none->bx ps'=(WN.settled room (bx ps).reverse).reverse->Bxs H' l' ps'->Same H H'->Q (.ref l') H'
def Mz:Option Bp->V
 | none=>.non
 | some h=>.ref h.1
def agc {ps:List Bp} {i:Nat} {p:Bp} (h:ps.reverse[i]? = some p):(bx ps).reverse.drop i=p.2::(bx ps).reverse.drop (i+1):=by
 unfold bx
 rw [<- uJ,<- Fy,<- Fy]
 have hi:i<ps.reverse.length:=(gZ.mp h).1
 rw [Xd hi,dZ]
 rw [(gZ.mp h).2]
def ok'9 (T:Tx K mg A):cI P w K mg base CX0 1 A.f'9 A.Bw ["boxes","room"] abI:=by
 refine T.F'9.ok gU (fun vs H Q E h=>?_) (fun cdv B outer s H vs Q E hr h=>?_)
 ·obtain ⟨l,room,ps,rfl,_⟩:=h
  rfl
 ·obtain ⟨l,room,ps,rfl,hb,h500,r0,r64,q⟩:=h
  refine ⟨_,(aq (aU (i:=2) gU.nd rfl (Or.inl rfl) (cM au))
   (aq (aU (i:=3) gU.nd rfl (Or.inl rfl) aC)
   (aq (aU (i:=4) gU.nd rfl (Or.inl rfl) ug)
   (aq (jO jD rfl (afW rfl T.uE (aj (pv 0) au)) (fB (i:=5) gU.nd rfl (Or.inl rfl)) (aF (gG (cg afD (pv 4) ug (cP _)) (aF (aU (i:=4) gU.nd rfl (Or.inl rfl) (pv 5))) (aF (gG (cg adG (aM ni (aM dD (cu (ixG (bO hr)) (pv 4) aC (fun _ _=>rfl)) (cu (ixG (bO hr)) (pv 5) aC (fun _ _=>rfl))) (pv 1)) (pv 3) (cP _)) (aF (aU (i:=4) gU.nd rfl (Or.inl rfl) (jP (aj (cu (ixG (bO hr)) (pv 5) aC (fun _ _=>rfl)) (aj (cu (ixG (bO hr)) (pv 4) aC (fun _ _=>rfl)) (aj (aM dD (cu (ixG (bO hr)) (pv 5) aC (fun _ _=>rfl)) (cu (ixG (bO hr)) (pv 4) aC (fun _ _=>rfl))) au)))))) (aq (aY (d9 fJ iQ iR cF (pv 2) (aj (pv 4) au)))
   (aq (aU (i:=3) gU.nd rfl (Or.inl rfl) (aM dD (pv 3) (cu (ixG (bO hr)) (pv 4) aC (fun _ _=>rfl))))
   (aF (aU (i:=4) gU.nd rfl (Or.inl rfl) (pv 5))))))))))
   (aq (gG (cg HY (pv 4) ug (cP _)) (aF (aY (d9 fJ iQ iR cF (pv 2) (aj (pv 4) au)))) eY)
   (aF (cA (Ti T.pQ T.uE (aj (pv 2) au) rfl)))))))),?_⟩
  refine ⟨(by show 0<=sizeLine;decide),fun D hD=>?_⟩
  have sD:Same H (upd H D (.lst [])):=Same.new hD
  refine ⟨_,rfl,l,_,rfl,.inl (.inl (sD _ _ hb.l)),acP (K:=K) (a:=l) (xs:=ps.map fun p=>V.ref p.1) (fun i σ H2=>∃ (xb:Option V) (S:Int) (ds:List Bp) (hand:Option Bp),σ=[some (.ref l),some (.int room),some (.ref D),some (.int S),some (Mz hand),xb]/\Same H H2/\Bxs H2 D ds/\ds.length<=i /\
    (hand=none->i=0/\ds=[]/\S=0)/\(∀ h,hand=some h->1<=i/\H2 h.1=some (bt h.2)/\bx ds++WN.settle room S h.2 ((bx ps).reverse.drop i)=WN.settled room (bx ps).reverse))
   ⟨none,0,[],none,rfl,sD,⟨ak,(fun p m=>nomatch m)⟩,aX _,fun _=>⟨rfl,rfl,rfl⟩,(fun h e=>nomatch e)⟩ (fun i σ H2 _ ⟨_,_,_,_,_,s,_⟩=>.inl (.inl (s _ _ hb.l))) ?_ ?_⟩
  ·rintro i y σ H2 hi ⟨xb,S,ds,hand,rfl,s2,hD2,hlen,hn,hs⟩
   rw [<- uJ] at hi
   obtain ⟨p,hp,rfl⟩:=Ju hi
   have hip:i<ps.length:=by
    have:=(gZ.mp hp).1
    rwa [sy] at this
   have pm:p∈ps:=zO.mp (List.mem_of_getElem? hp)
   have ht:=s2 _ _ (hb.t p pm)
   have hdrop:=agc hp
   cases hand with
   | none =>
    obtain ⟨rfl,rfl,rfl⟩:=hn rfl
    refine ⟨_,rfl,rfl,_,rfl,?_⟩
    rw [show decide (Mz none=V.non)=true from LQ]
    refine aaD ⟨_,rfl,_,0,[],some p,rfl,s2,hD2,dN _,(fun e=>nomatch e),fun h e=>?_⟩
    obtain rfl:=bZ e
    refine ⟨aX _,ht,?_⟩
    rw [Xz] at hdrop
    rw [hdrop];rfl
   | some h =>
    obtain ⟨i1,hht,heq⟩:=hs h rfl
    rw [hdrop,WN.jK] at heq
    refine ⟨_,rfl,rfl,_,rfl,?_⟩
    rw [show decide (Mz (some h)=V.non)=false from LC]
    refine Sv ?_
    refine ⟨_,rfl,eE (.inl (.inl hht)) (v:=.int h.2.s) rfl ⟨_,rfl,eE (.inl (.inl ht)) (v:=.int p.2.s) rfl ⟨_,_,rfl,rfl,_,rfl,_,_,rfl,rfl,gQ (by omega) (by omega),_,rfl,_,_,rfl,rfl,_,rfl,fX (fun hc=>?_) (fun hc=>?_)⟩⟩⟩
    ·have hc:(h.2.s+p.2.s)*room<=S:=of_decide_eq_true hc
     rw [if_pos hc] at heq
     refine ⟨_,rfl,eE (.inl (.inl ht)) (v:=.int p.2.f) rfl ⟨_,rfl,eE (.inl (.inl hht)) (v:=.int h.2.l) rfl ⟨_,rfl,eE (.inl (.inl ht)) (v:=.int p.2.s) rfl ⟨_,rfl,eE (.inl (.inl hht)) (v:=.int h.2.s) rfl ⟨_,_,rfl,rfl,(by show 3<=sizeLine;decide),fun t1 ht1=>?_⟩⟩⟩⟩⟩
     have s3:Same H2 (upd H2 t1 (bt ⟨p.2.f,h.2.l,p.2.s+h.2.s⟩)):=Same.new ht1
     refine ⟨_,S,ds,some (t1,⟨p.2.f,h.2.l,p.2.s+h.2.s⟩),rfl,s2.trans s3,hD2.same s3,by omega,(fun e=>nomatch e),fun h' e=>?_⟩
     obtain rfl:=bZ e
     refine ⟨by omega,ak,?_⟩
     rw [show p.2.s+h.2.s=h.2.s+p.2.s by omega]
     exact heq
    ·have hc:¬ (h.2.s+p.2.s)*room<=S:=fun z=>hc (decide_eq_true z)
     rw [if_neg hc] at heq
     refine ⟨_,rfl,.inl ⟨rfl,_,.inl (.inl hD2.l)⟩,_,rfl,D,_,_,rfl,rfl,hD2.l,aO (by rw [aZ];omega),?_⟩
     have nD:∀ a b,H2 a=some (bt b)->a≠D:=fun a b e=>iZ e hD2.l (by intro z;cases z)
     have ht3:∀ L,(upd H2 D L) h.1=some (bt h.2):=fun L=>by rw [aA (nD _ _ hht)];exact hht
     refine ⟨_,rfl,_,rfl,eE (.inl (.inl (ht3 _))) (v:=.int h.2.s) rfl ⟨_,_,rfl,rfl,?_⟩⟩
     refine ⟨_,rfl,_,S+h.2.s,ds++[h],some p,rfl,fun b o e=>?_,⟨?_,fun z m=>?_⟩,by rw [dR];show ds.length+1<=i+1;omega,(fun e=>nomatch e),fun h' e=>?_⟩
     ·rw [aA (ao e hD)];exact s2 _ _ e
     ·rw [ak,cW];rfl
     ·rcases gB.mp m with m | m
      ·have:=hD2.t z m
       rw [aA (nD _ _ this)];exact this
      ·rw [fP.mp m];exact ht3 _
     ·obtain rfl:=bZ e
      refine ⟨by omega,by rw [aA (nD _ _ ht)];exact ht,?_⟩
      unfold bx at heq ⊢
      rw [cW,iU]
      exact heq
  ·rintro σ H2 ⟨xb,S,ds,hand,rfl,s2,hD2,hlen,hn,hs⟩
   rw [aZ] at hlen hn hs
   cases hand with
   | none =>
    obtain ⟨h0,rfl,rfl⟩:=hn rfl
    have e0:ps=[]:=Dw.mp h0
    subst e0
    refine ⟨_,rfl,rfl,_,rfl,?_⟩
    rw [show decide (Mz none=V.non)=true from LQ]
    refine Sv ⟨_,rfl,D,_,rfl,.inl (.inl hD2.l),fun l' hl'=>?_⟩
    exact q l' [] _ (s2.free hl') rfl ⟨ak,(fun p m=>nomatch m)⟩ (s2.trans (Same.new hl'))
   | some h =>
    obtain ⟨i1,hht,heq⟩:=hs h rfl
    refine ⟨_,rfl,rfl,_,rfl,?_⟩
    rw [show decide (Mz (some h)=V.non)=false from LC]
    refine aaD ⟨_,rfl,.inl ⟨rfl,_,.inl (.inl hD2.l)⟩,_,rfl,D,_,_,rfl,rfl,hD2.l,aO (by rw [aZ];omega),?_⟩
    have nD:∀ a b,H2 a=some (bt b)->a≠D:=fun a b e=>iZ e hD2.l (by intro z;cases z)
    have eL:((ds.map fun p=>V.ref p.1)++[V.ref h.1])=(ds++[h]).map fun p=>V.ref p.1:=by rw [cW];rfl
    have s3:Same H (upd H2 D (.lst ((ds.map fun p=>V.ref p.1)++[V.ref h.1]))):=fun b o e=>by rw [aA (ao e hD)];exact s2 _ _ e
    have t3:∀ p∈ds++[h],(upd H2 D (.lst ((ds.map fun p=>V.ref p.1)++[V.ref h.1]))) p.1=some (bt p.2):=fun z m=>by
     rcases gB.mp m with m | m
     ·have:=hD2.t z m
      rw [aA (nD _ _ this)];exact this
     ·rw [fP.mp m,aA (nD _ _ hht)];exact hht
    refine ⟨_,rfl,D,_,rfl,.inl (.inl ak),fun l' hl'=>?_⟩
    refine q l' (ds++[h]).reverse _ (s3.free hl') ?_ ⟨?_,fun z m=>?_⟩ (s3.trans (Same.new hl'))
    ·rw [M7 (by rw [sy,lW];exact aX _),WN.ur] at heq
     rw [<- heq]
     unfold bx
     rw [uJ,cW];rfl
    ·rw [ak,uJ,<- eL];rfl
    ·rw [aA (ao (t3 z (zO.mp m)) hl')]
     exact t3 z (zO.mp m)
def ac6 (A:Ad):Sp:=fun vs H Q _=>∃ (p dx:Addr) (r k:Int),vs=[.ref p,.int r,.int k]/\H p=some (.ins A.gP dx []) /\
 ∀ (d:Addr) (H':Hp),H d=none->H' p=some (.ins A.gP dx (wf (.int r) (.int k) (.int 0) (.ref d)))->H' d=some (.lst [])->But p H H'->Q .non H'
def ok'10 (T:Tx K mg A):cI P w K mg base CX0 1 A.JR A.nu ["self","room","reach"] (ac6 A):=by
 refine T.F'10.ok Cy (fun vs H Q E h=>?_) (fun cdv B outer s H vs Q E hr h=>?_)
 ·obtain ⟨p,dx,r,k,rfl,_⟩:=h
  rfl
 ·obtain ⟨p,dx,r,k,rfl,hp,q⟩:=h
  refine ⟨_,(aq (bK (pv 0) (pv 1) rfl)
   (aq (bK (pv 0) (pv 2) rfl)
   (aq (bK (pv 0) aC rfl)
   (aF (bK (pv 0) (cM au) rfl))))),?_⟩
  refine ⟨_,rfl,_,rfl,p,_,dx,[],rfl,hp,T.fO,T.Mh,(by show 0<1000;decide),?_⟩
  refine ⟨_,rfl,_,rfl,p,_,dx,_,rfl,ak,T.fO,T.Mi,(by show 1<1000;decide),?_⟩
  refine ⟨_,rfl,p,_,dx,_,rfl,ak,T.fO,T.qm,(by show 2<1000;decide),?_⟩
  rw [cY,cY]
  refine ⟨(by show 0<=sizeLine;decide),fun d hd=>?_⟩
  have npd:p≠d:=fun z=>by rw [<- z,ak] at hd;cases hd
  rw [aA (aL npd)] at hd
  refine ⟨_,rfl,p,_,dx,_,rfl,(by rw [aA npd];exact ak),T.fO,T.yw,(by show 3<1000;decide),?_⟩
  refine q d _ hd (Aw ak (by rw [agb])) (by rw [aA (aL npd),ak]) fun b o e hb=>?_
  rw [aA hb,aA (ao e hd),aA hb]
  exact e
/-- a Window -/
structure Wn (A:Ad) (H:Hp) (p dx l:Addr) (r k c:Int) (ps:List Bp):Prop where
 o:H p=some (.ins A.gP dx (wf (.int r) (.int k) (.int c) (.ref l)))
 b:Bxs H l ps
def Wn.same {A:Ad} {H H':Hp} {p dx l:Addr} {r k c:Int} {ps:List Bp} (h:Wn A H p dx l r k c ps) (s:Same H H'):Wn A H' p dx l r k c ps:=⟨s _ _ h.o,h.b.same s⟩
def Wn.but {A:Ad} {H H':Hp} {p dx l q C e:Addr} {fs:List (Str × V)} {r k c:Int} {ps:List Bp} (h:Wn A H p dx l r k c ps) (s:But q H H') (hq:H q=some (.ins C e fs)) (n:p≠q):Wn A H' p dx l r k c ps:=⟨s _ _ h.o n,h.b.but s hq⟩
def WR (A:Ad):Sp:=fun vs H Q _=>∃ (p dx l l0:Addr) (r k c:Int) (ps:List Bp),vs=[.ref p,.ref l]/\H p=some (.ins A.gP dx (wf (.int r) (.int k) (.int c) (.ref l0)))/\Bxs H l ps/\ps.length<=500/\0<=r/\r<=64 /\
 ∀ (l':Addr) (ps':List Bp) (H':Hp),bx ps'=jg r (c-k) (bx ps)->Wn A H' p dx l' r k c ps'->But p H H'->H l'=none->Q .non H'
def adV (T:Tx K mg A):cI P w K mg base CX0 2 A.Qh A.jQ ["self","boxes"] (WR A):=by
 refine T.F'11.ok jr (fun vs H Q E h=>?_) (fun cdv B outer s H vs Q E hr h=>?_)
 ·obtain ⟨p,dx,l,l0,r,k,c,ps,rfl,_⟩:=h
  rfl
 ·obtain ⟨p,dx,l,l0,r,k,c,ps,rfl,hp,hb,h500,r0,r64,q⟩:=h
  refine ⟨_,(aq (aU (i:=2) jr.nd rfl (Or.inr rfl) (aM Bc (aJ (pv 0) rfl) (aJ (pv 0) rfl)))
   (aq (pD (i:=3) (cl:=[("edge",s.heap.objs.size+1)]) (N:=["box","edge"]) (caps:=[2]) (tt:=(aap (tOp _ (tOp (Sx K) _ _) _))) (te:=_) jr.nd rfl (Or.inl rfl) rfl (by with_unfolding_all rfl) (by decide +kernel) rfl (by decide +kernel) ⟨rfl,trivial⟩ (rB (by with_unfolding_all rfl)) (by decide +kernel) rfl rfl rfl (fK.at (k:=1) (show fK _ _ _ _ 1 [2] from ⟨⟨"edge",_,rfl,rfl,.inl rfl,.inl rfl,rfl⟩,trivial⟩)) (fU (pv 1)) (fun _ _ _ _=>(zu (cg DN (cu (ixG (by exact bO hr)) (pv 0) aC (fun _ _=>rfl)) (pv 1) (cP _)))) (fun _ _ _ _=>(pv 0)))
   (aF (bK (pv 0) (aQ (ok'9 T) (hr.mono (by decide)) rfl T.abx T.F'9.kp T.b'9 .nil aV (aj (pv 3) (aj (aJ (pv 0) rfl) au))) rfl)))),?_⟩
  refine ⟨_,rfl,rdF hp T.fO T.qm (lV _ _ _ _) ⟨_,rfl,rdF hp T.fO T.Mi (Mw _ _ _ _) ⟨_,_,rfl,rfl,?_⟩⟩⟩
  refine ⟨_,rfl,l,rfl,⟨_,.inl (.inl hb.l)⟩,fun D hD=>?_⟩
  refine yt (K:=K) (a:=l) (xs:=ps.map fun p=>V.ref p.1) (fun i ys H2=>ys=((ps.take i).filter fun p=>decide (c-k<p.2.l)).map (fun p=>V.ref p.1)/\H2=upd H D (.lst ys)) ⟨by simp,rfl⟩ ?_ ?_ ?_ ?_ ?_
  ·rintro i ys H2 hi ⟨rfl,rfl⟩
   refine ⟨.inl (.inl ((Same.new hD) _ _ hb.l)),ak,aO ?_⟩
   rw [aZ]
   have:=xR (fun p:Bp=>decide (c-k<p.2.l)) (ps.take i)
   rw [iw] at this
   omega
  ·rintro i ys H2 x hx ⟨rfl,rfl⟩
   obtain ⟨z,hz,rfl⟩:=Ju hx
   have ht:=(Same.new (o:=.lst (((ps.take i).filter fun p=>decide (c-k<p.2.l)).map (fun p=>V.ref p.1))) hD) _ _ (hb.t z (List.mem_of_getElem? hz))
   refine ⟨_,rfl,eE (.inl (.inl ht)) (v:=.int z.2.l) rfl ⟨_,rfl,_,_,rfl,rfl,_,rfl,fX (fun hc=>?_) (fun hc=>?_)⟩⟩
   ·have hc:c-k<z.2.l:=of_decide_eq_true hc
    refine ⟨_,rfl,ak,?_,by rw [cY]⟩
    rw [lY,hz,sE,cW]
    show _=_++(([z]:List Bp).filter fun p=>decide (c-k<p.2.l)).map (fun p=>V.ref p.1)
    rw [zK (by simpa using hc)];rfl
   ·have hc:¬ c-k<z.2.l:=fun y=>hc (decide_eq_true y)
    refine ⟨ak,?_,rfl⟩
    rw [lY,hz,sE,cW]
    show _=_++(([z]:List Bp).filter fun p=>decide (c-k<p.2.l)).map (fun p=>V.ref p.1)
    rw [zJ (by simpa using hc)];simp
  ·rintro ys H2 ⟨rfl,rfl⟩
   rw [aZ,lZ]
   have sD:Same H (upd H D (.lst ((ps.filter fun p=>decide (c-k<p.2.l)).map (fun p=>V.ref p.1)))):=Same.new hD
   have bD:Bxs (upd H D (.lst ((ps.filter fun p=>decide (c-k<p.2.l)).map (fun p=>V.ref p.1)))) D (ps.filter fun p=>decide (c-k<p.2.l)):=⟨ak,fun z m=>sD _ _ (hb.t z (qD.mp m).1)⟩
   generalize upd H D (.lst ((ps.filter fun p=>decide (c-k<p.2.l)).map (fun p=>V.ref p.1)))=H3 at sD bD ⊢
   have hlen:=xR (fun p:Bp=>decide (c-k<p.2.l)) ps
   refine ⟨_,rfl,_,rfl,rdF (sD _ _ hp) T.fO T.Mh (Vl _ _ _ _) ?_⟩
   refine ⟨D,r,_,rfl,bD,by omega,r0,r64,fun l' ps' H4 hl' e' b' s4=>?_⟩
   have hp4:=s4 _ _ (sD _ _ hp)
   refine ⟨_,rfl,p,_,dx,_,rfl,hp4,T.fO,T.yw,(by show 4<1000;decide),?_⟩
   rw [Js]
   have npl:∀ b o,H4 b=some o->(∀ C d fs,o ≠ .ins C d fs)->b≠p:=fun b o e n z=>by rw [z,hp4] at e;exact n _ _ _ (bZ e).symm
   refine q l' ps' _ ?_ ⟨ak,⟨by rw [aA (npl _ _ b'.l (by intro _ _ _ z;cases z))];exact b'.l,fun z m=>by rw [aA (npl _ _ (b'.t z m) (by intro _ _ _ z;cases z))];exact b'.t z m⟩⟩ (fun b o e n=>by rw [aA n];exact s4 _ _ (sD _ _ e)) (sD.free hl')
   rw [e']
   unfold jg bx
   rw [List.filter_map];rfl
  ·exact fun σ H R R' hr h=>jo (zB (Vc (dO 0) (IV _)) (dO 1)) σ H R R' hr h
  ·exact dO 0
def agd (A:Ad):Sp:=fun vs H Q _=>∃ (p dx l:Addr) (r k c v:Int) (ps:List Bp),vs=[.ref p,.int v]/\Wn A H p dx l r k c ps/\ps.length<=400/\0<=r/\r<=64 /\
 ∀ (l':Addr) (ps':List Bp) (H':Hp),bx ps'=jg r (c+1-k) (bx ps++[⟨c+1,c+1,v⟩])->Wn A H' p dx l' r k (c+1) ps'->But p H H'->H l'=none->Q .non H'
def ok'12 (T:Tx K mg A):cI P w K mg base CX0 5 A.Qi A.pJ ["self","weight"] (agd A):=by
 refine T.F'12.ok Du (fun vs H Q E h=>?_) (fun cdv B outer s H vs Q E hr h=>?_)
 ·obtain ⟨p,dx,l,r,k,c,v,ps,rfl,_⟩:=h
  rfl
 ·obtain ⟨p,dx,l,r,k,c,v,ps,rfl,hw,h400,r0,r64,q⟩:=h
  refine ⟨_,(aq (bK (pv 0) (aM dD (aJ (pv 0) rfl) aC) rfl)
   (aF (aY (eN (pv 0) T.fO T.qp (adV T) (hr.mono (by decide)) T.b'11 .nil aV (aj (aM wK (aJ (pv 0) rfl) (cM (aj (jP (aj (aJ (pv 0) rfl) (aj (aJ (pv 0) rfl) (aj (pv 1) au)))) au))) au))))),?_⟩
  refine ⟨_,rfl,rdF hw.o T.fO T.qm (lV _ _ _ _) ⟨_,_,rfl,rfl,_,rfl,p,_,dx,_,rfl,hw.o,T.fO,T.qm,(by show 4<1000;decide),?_⟩⟩
  rw [vH]
  have b1:But p H (upd H p (.ins A.gP dx (wf (.int r) (.int k) (.int (c+1)) (.ref l)))):=But.upd
  have w1:(upd H p (.ins A.gP dx (wf (.int r) (.int k) (.int (c+1)) (.ref l)))) p=some (.ins A.gP dx (wf (.int r) (.int k) (.int (c+1)) (.ref l))):=ak
  have x1:=hw.b.but b1 hw.o
  generalize upd H p (.ins A.gP dx (wf (.int r) (.int k) (.int (c+1)) (.ref l)))=H1 at b1 w1 x1 ⊢
  refine ⟨_,rfl,p,dx,_,rfl,w1,Mx _ _ _ _ (by decide +kernel) (by decide +kernel) (by decide +kernel) (by decide +kernel),?_⟩
  refine ⟨_,rfl,rdF w1 T.fO T.yw (vG _ _ _ _) ?_⟩
  refine ⟨_,rfl,rdF w1 T.fO T.qm (lV _ _ _ _) ⟨_,rfl,rdF w1 T.fO T.qm (lV _ _ _ _) ⟨_,rfl,(by show 3<=sizeLine;decide),fun t ht=>⟨(by show 1<=sizeLine;decide),fun l1 hl1=>?_⟩⟩⟩⟩
  have s2:Same H1 (upd H1 t (bt ⟨c+1,c+1,v⟩)):=Same.new ht
  have t2:(upd H1 t (bt ⟨c+1,c+1,v⟩)) t=some (bt ⟨c+1,c+1,v⟩):=ak
  show rCat _ _ (upd (upd H1 t (bt ⟨c+1,c+1,v⟩)) l1 (.lst [.ref t])) _
  have hl1':(upd H1 t (bt ⟨c+1,c+1,v⟩)) l1=none:=hl1
  generalize upd H1 t (bt ⟨c+1,c+1,v⟩)=H2 at s2 t2 hl1' ⊢
  have s3:Same H2 (upd H2 l1 (.lst [.ref t])):=Same.new hl1'
  have t3:(upd H2 l1 (.lst [.ref t])) l1=some (.lst [.ref t]):=ak
  generalize upd H2 l1 (.lst [.ref t])=H3 at s3 t3 ⊢
  refine ⟨l,l1,_,_,rfl,rfl,s3 _ _ (s2 _ _ x1.l),t3,mj (aO (by rw [aZ];show ps.length+1<=1000;omega)),fun l2 hl2=>?_⟩
  have s4:Same H3 (upd H3 l2 (.lst ((ps.map fun p=>V.ref p.1)++[.ref t]))):=Same.new hl2
  have s14:Same H1 (upd H3 l2 (.lst ((ps.map fun p=>V.ref p.1)++[.ref t]))):=s2.trans (s3.trans s4)
  have x4:Bxs (upd H3 l2 (.lst ((ps.map fun p=>V.ref p.1)++[.ref t]))) l2 (ps++[(t,⟨c+1,c+1,v⟩)]):=by
   refine ⟨by rw [ak,cW];rfl,fun z m=>?_⟩
   rcases gB.mp m with m | m
   ·exact s14 _ _ (x1.t z m)
   ·rw [fP.mp m];exact s4 _ _ (s3 _ _ t2)
  generalize upd H3 l2 (.lst ((ps.map fun p=>V.ref p.1)++[.ref t]))=H4 at s4 s14 x4 ⊢
  refine ⟨p,dx,l2,l,r,k,c+1,_,rfl,s14 _ _ w1,x4,by rw [dR];show ps.length+1<=500;omega,r0,r64,fun l' ps' H5 e' w5 b5 n5=>?_⟩
  have bb:But p H H5:=fun b o e n=>b5 b o (s14 _ _ (b1 b o e n)) n
  refine q l' ps' H5 (by rw [e'];unfold bx;rw [cW];rfl) w5 bb ?_
  exact cN b1 (s14.free n5) (fun z=>by rw [z,s14 _ _ w1] at n5;cases n5)
def ac7 (A:Ad):Sp:=fun vs H Q _=>∃ (p dx l:Addr) (r k c v:Int) (ps:List Bp),vs=[.ref p,.int v]/\Wn A H p dx l r k c ps/\ps.length<=400/\0<=r/\r<=64 /\
 ∀ (l':Addr) (ps':List Bp) (H':Hp),bx ps'=jg r (c+v-k) (bx ps)->Wn A H' p dx l' r k (c+v) ps'->But p H H'->H l'=none->Q .non H'
def adW (T:Tx K mg A):cI P w K mg base CX0 5 A.Qj A.nA ["self","many"] (ac7 A):=by
 refine T.F'13.ok Cz (fun vs H Q E h=>?_) (fun cdv B outer s H vs Q E hr h=>?_)
 ·obtain ⟨p,dx,l,r,k,c,v,ps,rfl,_⟩:=h
  rfl
 ·obtain ⟨p,dx,l,r,k,c,v,ps,rfl,hw,h400,r0,r64,q⟩:=h
  refine ⟨_,(aq (bK (pv 0) (aM dD (aJ (pv 0) rfl) (pv 1)) rfl)
   (aF (aY (eN (pv 0) T.fO T.qp (adV T) (hr.mono (by decide)) T.b'11 .nil aV (aj (aJ (pv 0) rfl) au))))),?_⟩
  refine ⟨_,rfl,rdF hw.o T.fO T.qm (lV _ _ _ _) ⟨_,rfl,_,_,rfl,rfl,_,rfl,p,_,dx,_,rfl,hw.o,T.fO,T.qm,(by show 4<1000;decide),?_⟩⟩
  rw [vH]
  have b1:But p H (upd H p (.ins A.gP dx (wf (.int r) (.int k) (.int (c+v)) (.ref l)))):=But.upd
  have w1:(upd H p (.ins A.gP dx (wf (.int r) (.int k) (.int (c+v)) (.ref l)))) p=some (.ins A.gP dx (wf (.int r) (.int k) (.int (c+v)) (.ref l))):=ak
  have x1:=hw.b.but b1 hw.o
  generalize upd H p (.ins A.gP dx (wf (.int r) (.int k) (.int (c+v)) (.ref l)))=H1 at b1 w1 x1 ⊢
  refine ⟨_,rfl,p,dx,_,rfl,w1,Mx _ _ _ _ (by decide +kernel) (by decide +kernel) (by decide +kernel) (by decide +kernel),?_⟩
  refine ⟨_,rfl,rdF w1 T.fO T.yw (vG _ _ _ _) ?_⟩
  refine ⟨p,dx,l,l,r,k,c+v,ps,rfl,w1,x1,by omega,r0,r64,fun l' ps' H5 e' w5 b5 n5=>?_⟩
  exact q l' ps' H5 e' w5 (fun b o e n=>b5 b o (b1 b o e n) n) (cN b1 n5 (fun z=>by rw [z,w1] at n5;cases n5))
open MK
def abJ:Sp:=fun vs H Q _=>∃ n:Int,vs=[.int n]/\Q (.int (n*770093176312745717 % 1152921504606846976)) H
def ok'14 (T:Tx K mg A):cI P w K mg base CX0 1 A.Qk A.Bx ["thing"] abJ:=by
 refine T.F'14.ok WM (fun vs H Q E h=>?_) (fun cdv B outer s H vs Q E hr h=>?_)
 ·obtain ⟨n,rfl,_⟩:=h
  rfl
 ·obtain ⟨n,rfl,q⟩:=h
  obtain ⟨_,agf,agg⟩:=T.af2
  obtain ⟨_,abK,abL⟩:=T.abD
  refine ⟨_,(aF (cA (aM dF (aM ni (pv 0) (o8 (v:=.int 770093176312745717) rfl abK abL)) (o8 (v:=.int 1152921504606846976) rfl agf agg)))),?_⟩
  exact ⟨_,rfl,_,_,rfl,rfl,gQ (by decide) (by decide),_,_,rfl,rfl,(by show (0:Int)<1152921504606846976;decide),q⟩
def uH (r:Int) (h:Nat):Prop:=(r=0/\h=60)\/Dm r h
def uH.uniq {r:Int} {h k:Nat} (a:uH r h) (b:uH r k):h=k:=by
 rcases a with ⟨a,rfl⟩ | a
 ·rcases b with ⟨_,rfl⟩ | b
  ·rfl
  ·exact absurd a b.ne
 ·rcases b with ⟨b,rfl⟩ | b
  ·exact absurd b a.ne
  ·exact a.uniq b
def agh:Sp:=fun vs H Q _=>∃ n:Int,vs=[.int n]/\∀ h:Nat,uH (n*770093176312745717 % 1152921504606846976) h->Q (.int h) H
/-- what is left to halve -/
def restOf (σ:St) (_:Hp):Nat:=match σ with
 | [_,some (.int x),_]=>x.toNat
 | _=>0
def adX (T:Tx K mg A):cI P w K mg base CX0 2 A.Ql A.Tq ["thing"] agh:=by
 refine T.F'15.ok vB (fun vs H Q E h=>?_) (fun cdv B outer s H vs Q E hr h=>?_)
 ·obtain ⟨n,rfl,_⟩:=h
  rfl
 ·obtain ⟨n,rfl,q⟩:=h
  obtain ⟨_,yS,yU⟩:=T.yM
  refine ⟨_,(aq (aU (i:=1) vB.nd rfl (Or.inl rfl) (aQ (ok'14 T) (hr.mono (by decide)) rfl T.aby T.F'14.kp T.b'14 .nil aV (aj (pv 0) au)))
   (aq (gG (cg qe (pv 1) aC (cP _)) (aF (cA (o8 (v:=.int 60) rfl yS yU))) eY)
   (aq (aU (i:=2) vB.nd rfl (Or.inl rfl) aC)
   (aq (qX jD (cg qe (aM dF (pv 1) aC) aC (cP _)) (aq (aU (i:=1) vB.nd rfl (Or.inl rfl) (aM gn (pv 1) aC))
   (aF (aU (i:=2) vB.nd rfl (Or.inl rfl) (aM dD (pv 2) aC)))))
   (aF (cA (pv 2))))))),?_⟩
  refine ⟨_,rfl,n,rfl,?_⟩
  have z0:=tV (n*770093176312745717) (show (1152921504606846976:Int)≠0 by decide)
  have z1:=tU (n*770093176312745717) (show (0:Int)<1152921504606846976 by decide)
  generalize n*770093176312745717 % 1152921504606846976=r at q z0 z1
  refine ⟨_,rfl,rfl,_,rfl,fX (fun h=>?_) (fun h=>?_)⟩
  ·have e:V.int r=V.int 0:=of_decide_eq_true h
   exact q 60 (.inl ⟨V.int.inj e,rfl⟩)
  ·have ne:r≠0:=fun z=>h (decide_eq_true (congrArg V.int z))
   refine qZ (fun σ H'=>∃ (x:Int) (i:Nat),σ=[some (.int n),some (.int x),some (.int (i:Int))]/\To r x i/\H'=H) restOf ⟨r,0,rfl,⟨by simp,ne⟩,rfl⟩ ?_
    (fun σ H Q Q' hq ⟨v,e,i,j,e1,e2,h,sc,k,e3,q⟩=>⟨v,e,i,j,e1,e2,h,sc,k,e3,hq _ _ q⟩)
   rintro σ H' ⟨x,i,rfl,ht,rfl⟩
   refine ⟨_,rfl,_,_,rfl,rfl,(by show (0:Int)<2;decide),rfl,_,rfl,fX (fun h=>?_) (fun h=>?_)⟩
   ·have e:x % 2=0:=V.int.inj (of_decide_eq_true h)
    have hx:=ht.lt (by omega) z1
    refine ⟨_,rfl,_,_,rfl,rfl,⟨by decide,by decide⟩,_,rfl,_,_,rfl,rfl,⟨x / 2,i+1,?_,ht.step e,rfl⟩,?_⟩
    ·rw [show ((i+1:Nat):Int)=(i:Int)+1 by omega];rfl
    ·show (x / 2).toNat<x.toNat
     omega
   ·have e:¬ x % 2=0:=fun z=>h (decide_eq_true (congrArg V.int z))
    exact ⟨_,rfl,q i (.inr (ht.stop e))⟩
def df (aH bN dj eX:V):List (Str × V):=[("room",aH),("arrivals",bN),("level",dj),("kept",eX)]
def Vm (aH bN dj eX:V):(df aH bN dj eX).lookup ("room" : Str)=some aH:=by rfl
def rG (aH bN dj eX:V):(df aH bN dj eX).lookup ("arrivals" : Str)=some bN:=by rfl
def oG (aH bN dj eX:V):(df aH bN dj eX).lookup ("level" : Str)=some dj:=by rfl
def zE (aH bN dj eX:V):(df aH bN dj eX).lookup ("kept" : Str)=some eX:=by rfl
def agi (aH bN dj eX:V):aB "kept" eX (aB "level" dj (aB "arrivals" bN (aB "room" aH [])))=df aH bN dj eX:=by
 unfold df
 rw [bV "room",aD (f := "arrivals") (g := "room") (by decide +kernel),bV "arrivals",aD (f := "level") (g := "room") (by decide +kernel),aD (f := "level") (g := "arrivals") (by decide +kernel),bV "level",aD (f := "kept") (g := "room") (by decide +kernel),aD (f := "kept") (g := "arrivals") (by decide +kernel),aD (f := "kept") (g := "level") (by decide +kernel),bV "kept"]
def yV (aH bN dj eX y:V):aB "arrivals" y (df aH bN dj eX)=df aH y dj eX:=by
 unfold df
 rw [aD (f := "arrivals") (g := "room") (by decide +kernel),gR]
def Jv (aH bN dj eX y:V):aB "level" y (df aH bN dj eX)=df aH bN y eX:=by
 unfold df
 rw [aD (f := "level") (g := "room") (by decide +kernel),aD (f := "level") (g := "arrivals") (by decide +kernel),gR]
def MF (aH bN dj eX y:V):aB "kept" y (df aH bN dj eX)=df aH bN dj y:=by
 unfold df
 rw [aD (f := "kept") (g := "room") (by decide +kernel),aD (f := "kept") (g := "arrivals") (by decide +kernel),aD (f := "kept") (g := "level") (by decide +kernel),gR]
def adY (aH bN dj eX:V) {m:Str} (uG:¬ m = "room") (TQ:¬ m = "arrivals") (ac8:¬ m = "level") (agj:¬ m = "kept"):(df aH bN dj eX).lookup m=none:=by
 unfold df
 rw [cJ uG,cJ TQ,cJ ac8,cJ agj]
 rfl
def ac9 (A:Ad):Sp:=fun vs H Q _=>∃ (p dx:Addr) (r:Int),vs=[.ref p,.int r]/\H p=some (.ins A.iI dx []) /\
 ∀ (d:Addr) (H':Hp),H d=none->H' p=some (.ins A.iI dx (df (.int r) (.int 0) (.int 0) (.ref d)))->H' d=some (.lst [])->But p H H'->Q .non H'
def ok'16 (T:Tx K mg A):cI P w K mg base CX0 1 A.JT A.jR ["self","room"] (ac9 A):=by
 refine T.F'16.ok xr (fun vs H Q E h=>?_) (fun cdv B outer s H vs Q E hr h=>?_)
 ·obtain ⟨p,dx,r,rfl,_⟩:=h
  rfl
 ·obtain ⟨p,dx,r,rfl,hp,q⟩:=h
  refine ⟨_,(aq (bK (pv 0) (pv 1) rfl)
   (aq (bK (pv 0) aC rfl)
   (aq (bK (pv 0) aC rfl)
   (aF (bK (pv 0) (cM au) rfl))))),?_⟩
  refine ⟨_,rfl,_,rfl,p,_,dx,[],rfl,hp,T.gM,T.Mj,(by show 0<1000;decide),?_⟩
  refine ⟨_,rfl,p,_,dx,_,rfl,ak,T.gM,T.Ca,(by show 1<1000;decide),?_⟩
  refine ⟨_,rfl,p,_,dx,_,rfl,ak,T.gM,T.vm,(by show 2<1000;decide),?_⟩
  rw [cY,cY]
  refine ⟨(by show 0<=sizeLine;decide),fun d hd=>?_⟩
  have npd:p≠d:=fun z=>by rw [<- z,ak] at hd;cases hd
  rw [aA (aL npd)] at hd
  refine ⟨_,rfl,p,_,dx,_,rfl,(by rw [aA npd];exact ak),T.gM,T.yx,(by show 3<1000;decide),?_⟩
  refine q d _ hd (Aw ak (by rw [agi])) (by rw [aA (aL npd),ak]) fun b o e hb=>?_
  rw [aA hb,aA (ao e hd),aA hb]
  exact e
def ada {n:Int} {h:Nat} (m:uH (n*770093176312745717 % 1152921504606846976) h):h<=60:=by
 rcases m with ⟨_,rfl⟩ | m
 ·exact aX _
 ·have:=m.lt (tV _ (by decide)) (tU _ (by decide))
  omega
def Vn:∀ (n:Nat) (r:Int),r.natAbs<=n->r≠0->∃ h,Dm r h
 | 0,r,h,h0=>absurd (show r=0 by omega) h0
 | n+1,r,h,h0=>by
  by_cases e:r % 2=1
  ·exact ⟨0,r,by simp,e⟩
  ·obtain ⟨k,m,e1,e2⟩:=Vn n (r / 2) (by omega) (by omega)
   refine ⟨k+1,m,?_,e2⟩
   rw [lB,<- oW,<- e1]
   omega
def Jw (k:Int):∃ h,uH (k*770093176312745717 % 1152921504606846976) h:=by
 by_cases e:k*770093176312745717 % 1152921504606846976=0
 ·exact ⟨60,.inl ⟨e,rfl⟩⟩
 ·obtain ⟨h,hh⟩:=Vn _ _ (aX _) e
  exact ⟨h,.inr hh⟩
/-- the mark of k -/
noncomputable def mkOf (k:Int):Int:=(afi (Jw k):Nat)
def mk_eq {k:Int} {h:Nat} (m:uH (k*770093176312745717 % 1152921504606846976) h):(h:Int)=mkOf k:=by
 rw [m.uniq (afh (Jw k))];rfl
def mk_le (k:Int):mkOf k<=60:=by
 obtain ⟨h,m⟩:=Jw k
 have:=ada m
 rw [<- mk_eq m];omega
noncomputable def up (v:Int) (ks:List Int):List Int:=ks.filter fun z=>decide (v<=mkOf z)
def abM {v w:Int} (h:v<=w) (ks:List Int):up w (up v ks)=up w ks:=by
 unfold up
 rw [List.filter_filter]
 apply List.filter_congr
 intro x _
 by_cases e:w<=mkOf x
 ·rw [decide_eq_true e,decide_eq_true (show v<=mkOf x by omega)];rfl
 ·rw [decide_eq_false e];rfl
def agk {v:Int} {ks:List Int} (h:∀ z∈ks,v<=mkOf z):up v ks=ks:=by
 unfold up
 rw [Xj]
 exact fun z hz=>decide_eq_true (h z hz)
def Vo {v:Int} (h:60<v) (ks:List Int):up v ks=[]:=by
 unfold up
 rw [zL]
 intro z _ e
 have:=of_decide_eq_true e
 have:=mk_le z
 omega
def TV {v z:Int} {ks:List Int}:z∈up v ks↔z∈ks/\v<=mkOf z:=by
 unfold up;rw [qD,decide_eq_true_iff]
/-- the sorted one -/
def srt (ns:List Int):List Int:=ns.mergeSort fun a b=>decide (a<=b)
def jm:∀ {xs ys:List Int},xs.Perm ys->xs.Pairwise (· <= ·)->ys.Pairwise (· <= ·)->xs=ys
 | [],ys,p,_,_=>by rw [Nu.mp p]
 | x::xs,[],p,_,_=>absurd p (by simp)
 | x::xs,y::ys,p,h1,h2=>by
  have a1:=gA.mp h1
  have a2:=gA.mp h2
  have e:x=y:=by
   have m1:x∈y::ys:=p.mem_iff.mp eF
   have m2:y∈x::xs:=p.mem_iff.mpr eF
   rcases cC.mp m1 with z | z
   ·exact z
   ·rcases cC.mp m2 with z' | z'
    ·exact z'.symm
    ·exact YZ (a1.1 y z') (a2.1 x z)
  subst e
  rw [jm (Qc p) a1.2 a2.2]
def fY (ns:List Int):(srt ns).Perm ns:=zM _ _
def pF (ns:List Int):(srt ns).Pairwise (· <= ·):=by
 have:=Fg (le:=fun a b:Int=>decide (a<=b)) (fun a b c h1 h2=>by simp only [decide_eq_true_eq] at *; omega) (fun a b=>by simp only [GQ,decide_eq_true_eq];omega) ns
 exact this.imp fun h=>of_decide_eq_true h
def uo {ns ms:List Int} (p:ms.Perm ns) (h:ms.Pairwise (· <= ·)):ms=srt ns:=jm (p.trans (fY ns).symm) h (pF ns)
def WT {ns ms:List Int} (p:ms.Perm ns):srt ms=srt ns:=jm ((fY ms).trans (p.trans (fY ns).symm)) (pF _) (pF _)
def abN (v:Int) (ns:List Int):up v (srt ns)=srt (up v ns):=uo ((fY ns).filter _) ((pF ns).filter _)
def gq (ns:List Int):(srt ns).length=ns.length:=(fY ns).length_eq
def rO {z:Int} {ns:List Int}:z∈srt ns↔z∈ns:=(fY ns).mem_iff
def WW:Sp:=fun vs H Q _=>∃ (l:Addr) (v:Int) (ks:List Int),vs=[.ref l,.int v]/\H l=some (.lst (ks.map V.int))/\ks.length<=900 /\
 ∀ (l':Addr) (H':Hp),H l'=none->H' l'=some (.lst ((up v ks).map V.int))->Same H H'->Q (.ref l') H'
def ok'17 (T:Tx K mg A):cI P w K mg base CX0 3 A.Qm A.uy ["things","level"] WW:=by
 refine T.F'17.ok Ms (fun vs H Q E h=>?_) (fun cdv B outer s H vs Q E hr h=>?_)
 ·obtain ⟨l,v,ks,rfl,_⟩:=h
  rfl
 ·obtain ⟨l,v,ks,rfl,hl,h500,q⟩:=h
  refine ⟨_,(aF (cA (zx (cl:=[("level",s.heap.objs.size+1)]) (N:=["thing","level"]) (caps:=[1]) (tt:=_) (te:=_) rfl (by with_unfolding_all rfl) (by decide +kernel) rfl (by decide +kernel) ⟨rfl,trivial⟩ (rB (by with_unfolding_all rfl)) (by decide +kernel) rfl rfl rfl (fK.at (k:=1) (show fK _ _ _ _ 1 [1] from ⟨⟨"level",_,rfl,rfl,.inl rfl,.inl rfl,rfl⟩,trivial⟩)) (fU (pv 0)) (fun _ _ _ _=>(zu (cg aao (aQ (adX T) (by exact hr.mono (by decide)) rfl T.abz T.F'15.kp T.b'15 .nil aV (aj (pv 0) au)) (pv 1) (cP _)))) (fun _ _ _ _=>(pv 0))))),?_⟩
  refine ⟨_,rfl,l,rfl,⟨_,.inl (.inl hl)⟩,fun D hD=>?_⟩
  refine yt (K:=K) (a:=l) (xs:=ks.map V.int) (fun i ys H2=>ys=(up v (ks.take i)).map V.int/\H2=upd H D (.lst ys)) ⟨rfl,rfl⟩ ?_ ?_ ?_ ?_ ?_
  ·rintro i ys H2 hi ⟨rfl,rfl⟩
   refine ⟨.inl (.inl ((Same.new hD) _ _ hl)),ak,aO ?_⟩
   have:(up v (ks.take i)).length<=(ks.take i).length:=xR _ _
   rw [iw] at this
   rw [aZ]
   omega
  ·rintro i ys H2 x hx ⟨rfl,rfl⟩
   obtain ⟨z,hz,rfl⟩:=int_at hx
   refine ⟨_,rfl,z,rfl,fun h hh=>⟨_,rfl,_,_,rfl,rfl,_,rfl,fX (fun hc=>?_) (fun hc=>?_)⟩⟩
   ·have hc:v<=(h:Int):=of_decide_eq_true hc
    rw [mk_eq hh] at hc
    refine ⟨_,rfl,ak,?_,by rw [cY]⟩
    have e:up v (ks.take (i+1))=up v (ks.take i)++[z]:=by
     rw [lY,hz]
     unfold up
     rw [sE]
     simp [hc]
    rw [e,cW];rfl
   ·have hc:¬ v<=(h:Int):=fun y=>hc (decide_eq_true y)
    rw [mk_eq hh] at hc
    refine ⟨ak,?_,rfl⟩
    have e:up v (ks.take (i+1))=up v (ks.take i):=by
     rw [lY,hz]
     unfold up
     rw [sE]
     simp [hc]
    rw [e]
  ·rintro ys H2 ⟨rfl,rfl⟩
   rw [aZ,lZ]
   exact q D _ hD ak (Same.new hD)
  ·exact fun σ H R R' hr ⟨v,e,n,en,q⟩=>⟨v,e,n,en,fun h m=>by
    obtain ⟨u,eu,i,j,ei,ej,k,ek,r⟩:=q h m
    exact ⟨u,eu,i,j,ei,ej,k,ek,hr _ _ r⟩⟩
  ·exact dO 0
/-- a Distinct -/
structure Dn (A:Ad) (H:Hp) (p dx l:Addr) (r n v:Int) (ks:List Int):Prop where
 o:H p=some (.ins A.iI dx (df (.int r) (.int n) (.int v) (.ref l)))
 l:H l=some (.lst (ks.map V.int))
def Dn.same {A:Ad} {H H':Hp} {p dx l:Addr} {r n v:Int} {ks:List Int} (h:Dn A H p dx l r n v ks) (s:Same H H'):Dn A H' p dx l r n v ks:=⟨s _ _ h.o,s _ _ h.l⟩
def Dn.but {A:Ad} {H H':Hp} {p dx l q C e:Addr} {fs:List (Str × V)} {r n v:Int} {ks:List Int} (h:Dn A H p dx l r n v ks) (s:But q H H') (hq:H q=some (.ins C e fs)) (m:p≠q):Dn A H' p dx l r n v ks:=⟨s _ _ h.o m,s _ _ h.l (iZ h.l hq (by intro z;cases z))⟩
/-- the level that v must rise to -/
def Lvl (r v v':Int) (ks:List Int):Prop:=v<=v'/\((up v' ks).length:Int)<=r/\∀ w,v<=w->w<v'->r<((up w ks).length:Int)
def Lvl.uniq {r v a b:Int} {ks:List Int} (h:Lvl r v a ks) (g:Lvl r v b ks):a=b:=by
 rcases (show a<b\/a=b\/b<a by omega) with z | z | z
 ·have:=g.2.2 a h.1 z;have:=h.2.1;omega
 ·exact z
 ·have:=h.2.2 b g.1 z;have:=g.2.1;omega
def Lvl.le {r v v':Int} {ks:List Int} (h:Lvl r v v' ks) (r0:0<=r) (hv:v<=61):v'<=61:=by
 rcases (show v'<=61\/61<v' by omega) with z | z
 ·exact z
 ·have:=h.2.2 61 hv z
  rw [Vo (by decide)] at this
  have e:(([]:List Int).length:Int)=0:=rfl
  omega
def Lvl.perm {r v v':Int} {ks ms:List Int} (h:Lvl r v v' ks) (p:ms.Perm ks):Lvl r v v' ms:=by
 have e:∀ w,(up w ms).length=(up w ks).length:=fun w=>(p.filter _).length_eq
 exact ⟨h.1,by rw [e];exact h.2.1,fun w a b=>by rw [e];exact h.2.2 w a b⟩
def WX (A:Ad):Sp:=fun vs H Q _=>∃ (p dx l l0:Addr) (r n v:Int) (ks:List Int),vs=[.ref p,.ref l]/\H p=some (.ins A.iI dx (df (.int r) (.int n) (.int v) (.ref l0)))/\H l=some (.lst (ks.map V.int))/\ks.length<=63/\0<=r/\0<=v/\v<=61/\(∀ z∈ks,v<=mkOf z) /\
 ∀ (l':Addr) (v':Int) (H':Hp),Lvl r v v' ks->Dn A H' p dx l' r n v' (up v' (srt ks))->But p H H'->H l'=none->Q .non H'
def lvV:Option V->Nat
 | some (.int v)=>(100-v).toNat
 | _=>0
def lvO:Option HO->Nat
 | some (.ins _ _ fs)=>lvV (fs.lookup ("level" : Str))
 | _=>0
def lvOf (σ:St) (H:Hp):Nat:=match σ with
 | some (.ref p)::_=>lvO (H p)
 | _=>0
def Vp {p C dx:Addr} {a b c:V} {v:Int} {σ:St} {H:Hp} (h:H p=some (.ins C dx (df a b (.int v) c))):lvOf (some (.ref p)::σ) H=(100-v).toNat:=by
 show lvO (H p)=_
 rw [h]
 show lvV ((df a b (.int v) c).lookup ("level" : Str))=_
 rw [oG];rfl
def ok'18 (T:Tx K mg A):cI P w K mg base CX0 4 A.Qn A.jd ["self","things"] (WX A):=by
 refine T.F'18.ok iJ (fun vs H Q E h=>?_) (fun cdv B outer s H vs Q E hr h=>?_)
 ·obtain ⟨p,dx,l,l0,r,n,v,ks,rfl,_⟩:=h
  rfl
 ·obtain ⟨p,dx,l,l0,r,n,v,ks,rfl,hp,hl,h900,r0,v0,v61,hv,q⟩:=h
  refine ⟨_,(aq (aU (i:=2) iJ.nd rfl (Or.inl rfl) (dz (kI rfl) (by rfl) T.oF Ao (aj (pv 1) au)))
   (aq (qX jD (cg DN (dz f9 (by rfl) T.sW mQ (aj (pv 2) au)) (aJ (pv 0) rfl) (cP _)) (aq (bK (pv 0) (aM dD (aJ (pv 0) rfl) aC) rfl)
   (aF (aU (i:=2) iJ.nd rfl (Or.inl rfl) (aQ (ok'17 T) (hr.mono (by decide)) rfl T.Tw T.F'17.kp T.b'17 .nil aV (aj (pv 2) (aj (aJ (pv 0) rfl) au)))))))
   (aF (bK (pv 0) (pv 2) rfl)))),?_⟩
  refine ⟨_,rfl,.inr ⟨l,ks,rfl,.inl (.inl hl),by omega,fun l1 ms hl1 pm so=>?_⟩⟩
  have s1:Same H (upd H l1 (.lst (ms.map V.int))):=Same.new hl1
  have f1:(upd H l1 (.lst (ms.map V.int))) l1=some (.lst (ms.map V.int)):=ak
  obtain rfl:ms=srt ks:=uo pm so
  have lm:=pm.length_eq
  show RQ _ _ _ [some (.ref p),some (.ref l),some (.ref l1)] (upd H l1 (.lst ((srt ks).map V.int)))
  generalize upd H l1 (.lst ((srt ks).map V.int))=H1 at s1 f1 ⊢
  have e0:up v (srt ks)=srt ks:=agk fun z hz=>hv z (rO.mp hz)
  have lu:∀ w,(up w (srt ks)).length=(up w ks).length:=fun w=>by rw [abN,gq]
  refine qZ (fun σ G=>∃ (l2:Addr) (w:Int),σ=[some (.ref p),some (.ref l),some (.ref l2)]/\H l2=none/\G p=some (.ins A.iI dx (df (.int r) (.int n) (.int w) (.ref l0)))/\G l2=some (.lst ((up w (srt ks)).map V.int))/\But p H G/\v<=w/\(w<=61)/\∀ u,v<=u->u<w->r<((up u ks).length:Int)) lvOf
   ⟨l1,v,rfl,hl1,s1 _ _ hp,by rw [e0];exact f1,s1.but p,cT _,v61,fun u a b=>by omega⟩ ?_ ?_
  ·rintro σ G ⟨l2,w,rfl,nl2,gp,gl,bt,hvw,hw,hd⟩
   have lms:(up w (srt ks)).length<=ks.length:=by rw [lu];exact xR _ _
   refine ⟨_,rfl,pC (.inl (.inl gl)) ⟨_,rfl,rdF gp T.gM T.Mj (Vm _ _ _ _) ⟨_,_,rfl,rfl,_,rfl,fX (fun hc=>?_) (fun hc=>?_)⟩⟩⟩
   ·have hc:r<(((up w (srt ks)).map V.int).length:Int):=of_decide_eq_true hc
    rw [aZ] at hc
    have hw60:w<=60:=by
     rcases (show w<=60\/60<w by omega) with z | z
     ·exact z
     ·rw [Vo z] at hc
      have e:(([]:List Int).length:Int)=0:=rfl
      omega
    refine ⟨_,rfl,rdF gp T.gM T.vm (oG _ _ _ _) ⟨_,_,rfl,rfl,_,rfl,p,_,dx,_,rfl,gp,T.gM,T.vm,(by show 4<1000;decide),?_⟩⟩
    rw [Jv]
    have npl:l2≠p:=iZ gl gp (by intro z;cases z)
    have b2:But p G (upd G p (.ins A.iI dx (df (.int r) (.int n) (.int (w+1)) (.ref l0)))):=But.upd
    have o2:(upd G p (.ins A.iI dx (df (.int r) (.int n) (.int (w+1)) (.ref l0)))) p=some (.ins A.iI dx (df (.int r) (.int n) (.int (w+1)) (.ref l0))):=ak
    have lw:=Vp (σ:=[some (.ref l),some (.ref l2)]) gp
    have gl2:=b2 _ _ gl npl
    refine ⟨_,rfl,_,rfl,rdF o2 T.gM T.vm (oG _ _ _ _) ⟨l2,w+1,_,rfl,gl2,by omega,fun l3 G3 nl3 gl3 s3=>?_⟩⟩
    have nl3':H l3=none:=by
     refine cN (fun b o e m=>b2 b o (bt b o e m) m) nl3 fun z=>?_
     rw [z,o2] at nl3;cases nl3
    rw [abM (show w<=w+1 by omega)] at gl3
    refine ⟨⟨l3,w+1,rfl,nl3',s3 _ _ o2,gl3,fun b o e m=>s3 _ _ (b2 b o (bt b o e m) m),by omega,by omega,fun u a b=>?_⟩,?_⟩
    ·rcases (show u<w\/u=w by omega) with z | z
     ·exact hd u a z
     ·rw [z,<- lu];exact hc
    ·rw [lw]
     refine Ag (Gx (Vp (s3 _ _ o2))) ?_
     omega
   ·have hc:¬ r<(((up w (srt ks)).map V.int).length:Int):=fun z=>hc (decide_eq_true z)
    rw [aZ] at hc
    refine ⟨_,rfl,_,rfl,p,_,dx,_,rfl,gp,T.gM,T.yx,(by show 4<1000;decide),?_⟩
    rw [MF]
    have npl:l2≠p:=iZ gl gp (by intro z;cases z)
    refine q l2 w _ ⟨hvw,by rw [<- lu];omega,hd⟩ ⟨ak,by rw [aA npl];exact gl⟩ (fun b o e m=>by rw [aA m];exact bt b o e m) nl2
  ·exact fun σ H Q Q' hq h=>jo (zB (Ly (oA (dO 2) vd)) (Lz (dO 0))) σ H Q Q' hq h
def abO (k:Int) (ks:List Int):inV (.int k) (ks.map V.int)=decide (k∈ks):=by
 induction ks with
 | nil=>rfl
 | cons x r ih =>
  show (eqV (.int x) (.int k) || inV (.int k) (r.map V.int))=_
  rw [ih]
  show ((x == k) || decide (k∈r))=decide (k∈x::r)
  by_cases e:k=x
  ·subst e;simp
  ·have:(x == k)=false:=by simp;exact fun z=>e z.symm
   rw [this];simp [e]
def abP (ks:List Int):(ks.map V.int).all qg=true:=by
 rw [Xq]
 intro x m
 obtain ⟨z,_,rfl⟩:=kj.mp m
 rfl
/-- the different things that came,k behind them -/
def came (C:List Int) (k:Int):List Int:=if k∈C then C else C++[k]
def abQ (C:List Int) (k:Int):C.length<=(came C k).length/\(came C k).length<=C.length+1:=by
 unfold came
 split
 ·omega
 ·rw [dR];show C.length<=C.length+1/\_;exact ⟨by omega,aX _⟩
def adb {C:List Int} {k w:Int}:(up w C).length<=(up w (came C k)).length:=by
 unfold came
 split
 ·exact aX _
 ·unfold up;rw [sE,dR];omega
/-- a level v of the different things C: the least that will do -/
def CW (r v:Int) (C:List Int):Prop:=0<=v/\((up v C).length:Int)<=r/\∀ w,0<=w->w<v->r<((up w C).length:Int)
def CW.lvl {r v v':Int} {C D:List Int} (h:CW r v C) (g:Lvl r v v' D) (hm:∀ w,(up w C).length<=(up w D).length):CW r v' D:=by
 have:=h.1
 have:=g.1
 refine ⟨by omega,g.2.1,fun w a b=>?_⟩
 rcases (show w<v\/v<=w by omega) with z | z
 ·have:=h.2.2 w a z;have:=hm w;omega
 ·exact g.2.2 w z b
def CW.le {r v:Int} {C:List Int} (h:CW r v C) (r0:0<=r):v<=61:=Lvl.le (ks:=C) (v:=0) ⟨h.1,h.2.1,h.2.2⟩ r0 (by decide)
def agl (A:Ad):Sp:=fun vs H Q _=>∃ (p dx l:Addr) (r n v k:Int) (C:List Int),vs=[.ref p,.int k]/\Dn A H p dx l r n v (srt (up v C))/\CW r v C/\C.length<=62/\0<=r/\r<=800 /\
 ∀ (l':Addr) (v':Int) (H':Hp),Lvl r v v' (came C k)->Dn A H' p dx l' r (n+1) v' (srt (up v' (came C k)))->But p H H'->(l'=l\/H l'=none)->Q .non H'
def ok'19 (T:Tx K mg A):cI P w K mg base CX0 5 A.Qo A.lG ["self","thing"] (agl A):=by
 refine T.F'19.ok yO (fun vs H Q E h=>?_) (fun cdv B outer s H vs Q E hr h=>?_)
 ·obtain ⟨p,dx,l,r,n,v,k,C,rfl,_⟩:=h
  rfl
 ·obtain ⟨p,dx,l,r,n,v,k,C,rfl,hd,hL,h8,r0,r8,q⟩:=h
  have v0:=hL.1
  have v61:=hL.le r0
  have hlen:(srt (up v C)).length<=62:=by have:(up v C).length<=C.length:=xR _ _;rw [gq];omega
  refine ⟨_,(aq (bK (pv 0) (aM dD (aJ (pv 0) rfl) aC) rfl)
   (aF (gG (PW.pt (pw_and (cg aao (aQ (adX T) (hr.mono (by decide)) rfl T.abz T.F'15.kp T.b'15 .nil aV (aj (pv 1) au)) (aJ (pv 0) rfl) (cP _)) (pw_and1 (cg (afO (bO hr)) (pv 1) (aJ (pv 0) rfl) (by with_unfolding_all rfl))))) (aF (aY (eN (pv 0) T.gM T.vq (ok'18 T) (hr.mono (by decide)) T.b'18 .nil aV (aj (aM wK (aJ (pv 0) rfl) (cM (aj (pv 1) au))) au)))) eY))),?_⟩
  refine ⟨_,rfl,rdF hd.o T.gM T.Ca (rG _ _ _ _) ⟨_,_,rfl,rfl,_,rfl,p,_,dx,_,rfl,hd.o,T.gM,T.Ca,(by show 4<1000;decide),?_⟩⟩
  rw [yV]
  have b1:But p H (upd H p (.ins A.iI dx (df (.int r) (.int (n+1)) (.int v) (.ref l)))):=But.upd
  have d1:Dn A (upd H p (.ins A.iI dx (df (.int r) (.int (n+1)) (.int v) (.ref l)))) p dx l r (n+1) v (srt (up v C)):=⟨ak,by rw [aA (iZ hd.l hd.o (by intro z;cases z))];exact hd.l⟩
  generalize upd H p (.ins A.iI dx (df (.int r) (.int (n+1)) (.int v) (.ref l)))=H1 at b1 d1 ⊢
  refine ⟨_,rfl,k,rfl,fun h hh=>⟨_,rfl,rdF d1.o T.gM T.vm (oG _ _ _ _) ⟨_,_,rfl,rfl,_,rfl,fX (fun hc=>?_) (fun hc=>?_)⟩⟩⟩
  ·have hc:v<=(h:Int):=of_decide_eq_true hc
   rw [mk_eq hh] at hc
   refine ⟨_,rfl,_,rfl,rdF d1.o T.gM T.yx (zE _ _ _ _) (.inl ⟨l,_,rfl,.inl (.inl (.inl d1.l)),rfl,abP _,_,rfl,?_⟩)⟩
   rw [if_pos rfl,abO]
   by_cases m:k∈srt (up v C)
   ·rw [decide_eq_true m]
    have ec:came C k=C:=by unfold came;rw [if_pos (TV.mp (rO.mp m)).1]
    rw [ec] at q
    exact Sv (q l v _ ⟨cT _,hL.2.1,fun w a b=>by omega⟩ d1 b1 (.inl rfl))
   ·rw [decide_eq_false m]
    have hk:k∉C:=fun z=>m (rO.mpr (TV.mpr ⟨z,hc⟩))
    have ec:came C k=C++[k]:=by unfold came;rw [if_neg hk]
    have eu:∀ w,v<=w->up w (srt (up v C)++[k])=up w (srt (up v C))++up w [k]:=fun w _=>by unfold up;rw [sE]
    refine aaD ⟨_,rfl,p,dx,_,rfl,d1.o,adY _ _ _ _ (by decide +kernel) (by decide +kernel) (by decide +kernel) (by decide +kernel),?_⟩
    refine ⟨_,rfl,rdF d1.o T.gM T.yx (zE _ _ _ _) ⟨_,rfl,(by show 1<=sizeLine;decide),fun l1 hl1=>?_⟩⟩
    have s2:Same H1 (upd H1 l1 (.lst [.int k])):=Same.new hl1
    refine ⟨l,l1,_,_,rfl,rfl,s2 _ _ d1.l,ak,mj (aO (by rw [aZ];show (srt (up v C)).length+1<=1000;omega)),fun l2 hl2=>?_⟩
    have s3:Same H1 (upd (upd H1 l1 (.lst [.int k])) l2 (.lst ((srt (up v C)++[k]).map V.int))):=s2.trans (Same.new hl2)
    have f3:(upd (upd H1 l1 (.lst [.int k])) l2 (.lst ((srt (up v C)++[k]).map V.int))) l2=some (.lst ((srt (up v C)++[k]).map V.int)):=ak
    rw [show (srt (up v C)).map V.int++[V.int k]=(srt (up v C)++[k]).map V.int by rw [cW];rfl]
    generalize upd (upd H1 l1 (.lst [.int k])) l2 (.lst ((srt (up v C)++[k]).map V.int))=H3 at s3 f3 ⊢
    have d3:=d1.same s3
    have pm:(srt (up v C)++[k]).Perm (up v (C++[k])):=by
     have:up v (C++[k])=up v C++[k]:=by unfold up;rw [sE];simp [hc]
     rw [this]
     exact (fY _).append_right _
    refine ⟨p,dx,l2,l,r,n+1,v,_,rfl,d3.o,f3,by rw [dR];show (srt (up v C)).length+1<=63;omega,r0,v0,v61,(fun z hz=>(TV.mp (pm.mem_iff.mp hz)).2),fun l' v' H' lv dn bt nl=>?_⟩
    have el:∀ w,v<=w->(up w (srt (up v C)++[k])).length=(up w (C++[k])).length:=fun w hw=>(pm.filter _).length_eq.trans (congrArg kE (abM hw _))
    have nl1:H1 l'=none:=s3.free nl
    have nl0:H l'=none:=cN b1 nl1 fun z=>by rw [z,d1.o] at nl1;cases nl1
    refine q l' v' H' ?_ ?_ (fun b o e m'=>bt b o (s3 _ _ (b1 b o e m')) m') (.inr nl0)
    ·rw [ec]
     exact ⟨lv.1,by rw [<- el _ lv.1];exact lv.2.1,fun w a b=>by rw [<- el _ a];exact lv.2.2 w a b⟩
    ·rw [ec]
     have:up v' (srt (srt (up v C)++[k]))=srt (up v' (C++[k])):=by
      rw [WT pm,abN,abM lv.1]
     rw [this] at dn
     exact dn
  ·have hc:¬ v<=(h:Int):=fun z=>hc (decide_eq_true z)
   rw [mk_eq hh] at hc
   have ew:∀ w,v<=w->up w (came C k)=up w C:=fun w hw=>by
    unfold came
    split
    ·rfl
    ·unfold up;rw [sE];simp [show ¬ w<=mkOf k by omega]
   refine Sv (q l v _ ⟨cT _,by rw [ew v (cT _)];exact hL.2.1,fun w a b=>by omega⟩ ?_ b1 (.inl rfl))
   rw [ew v (cT _)];exact d1
def fl (r t l:Int) (d:Addr):List (Str × V):=[("room",.int r),("total",.int t),("lost",.int l),("counts",.ref d)]
def Vq (r t l:Int) (d:Addr):(fl r t l d).lookup ("room" : Str)=some (.int r):=by rfl
def CZ (r t l:Int) (d:Addr):(fl r t l d).lookup ("total" : Str)=some (.int t):=by rfl
def Jx (r t l:Int) (d:Addr):(fl r t l d).lookup ("lost" : Str)=some (.int l):=by rfl
def oH (r t l:Int) (d:Addr):(fl r t l d).lookup ("counts" : Str)=some (.ref d):=by rfl
def ne1:¬ (("room" : Str) = "total"):=by decide +kernel
def ne2:¬ (("room" : Str) = "lost"):=by decide +kernel
def ne3:¬ (("room" : Str) = "counts"):=by decide +kernel
def ne4:¬ (("total" : Str) = "lost"):=by decide +kernel
def ne5:¬ (("total" : Str) = "counts"):=by decide +kernel
def ne6:¬ (("lost" : Str) = "counts"):=by decide +kernel
def Jy (f:Str) (v:V) (r:List (Str × V)) (u:V):aB f v ((f,u)::r)=(f,v)::r:=by unfold aB;rw [if_pos rfl]
def iD {f g:Str} (h:¬ g=f) (v:V) (r:List (Str × V)) (u:V):aB f v ((g,u)::r)=(g,u)::aB f v r:=by rw [aB,if_neg h]
def agm (r t l:Int) (d:Addr):aB "counts" (.ref d) (aB "lost" (.int l) (aB "total" (.int t) (aB "room" (.int r) [])))=fl r t l d:=by
 unfold fl
 rw [show aB "room" (.int r) []=[(("room" : Str),V.int r)] from rfl,iD ne1,show aB "total" (.int t) []=[(("total" : Str),V.int t)] from rfl,iD ne2,iD ne4,
  show aB "lost" (.int l) []=[(("lost" : Str),V.int l)] from rfl,iD ne3,iD ne5,iD ne6]
 rfl
def ade (r t l y:Int) (d:Addr):aB "total" (.int y) (fl r t l d)=fl r y l d:=by
 unfold fl;rw [iD ne1,Jy]
def adf (r t l y:Int) (d:Addr):aB "lost" (.int y) (fl r t l d)=fl r t y d:=by
 unfold fl;rw [iD ne2,iD ne4,Jy]
def adg (r t l:Int) (d e:Addr):aB "counts" (.ref e) (fl r t l d)=fl r t l e:=by
 unfold fl;rw [iD ne3,iD ne5,iD ne6,Jy]
def zF {f m:Str} {v:V} {r:List (Str × V)} (h:¬ m=f):((f,v)::r).lookup m=r.lookup m:=by
 rw [Nk]
 rw [beq_eq_false_iff_ne.mpr h]
def abR (r t l:Int) (d:Addr) {m:Str} (h1:¬ m = "room") (h2:¬ m = "total") (h3:¬ m = "lost") (h4:¬ m = "counts"):(fl r t l d).lookup m=none:=by
 unfold fl
 rw [zF h1,zF h2,zF h3,zF h4]
 rfl
def agn (A:Ad):Sp:=fun vs H Q _=>∃ (p dx:Addr) (r:Int),vs=[.ref p,.int r]/\H p=some (.ins A.iY dx []) /\
 ∀ (d:Addr) (H':Hp),H d=none->H' p=some (.ins A.iY dx (fl r 0 0 d))->H' d=some (.dK (emb []))->But p H H'->Q .non H'
def adZ (T:Tx K mg A):cI P w K mg base CX0 1 A.JV A.jT ["self","room"] (agn A):=by
 refine T.F'20.ok xu (fun vs H Q E h=>?_) (fun cdv B outer s H vs Q E hr h=>?_)
 ·obtain ⟨p,dx,r,rfl,_⟩:=h
  rfl
 ·obtain ⟨p,dx,r,rfl,hp,k⟩:=h
  refine ⟨_,(aq (bK (pv 0) (pv 1) rfl)
   (aq (bK (pv 0) aC rfl)
   (aq (bK (pv 0) aC rfl)
   (aF (bK (pv 0) KH rfl))))),?_⟩
  refine ⟨_,rfl,_,rfl,p,_,dx,[],rfl,hp,T.gO,T.Ml,(by show 0<1000;decide),?_⟩
  refine ⟨_,rfl,p,_,dx,_,rfl,ak,T.gO,T.Ce,(by show 1<1000;decide),?_⟩
  refine ⟨_,rfl,p,_,dx,_,rfl,ak,T.gO,T.Cg,(by show 2<1000;decide),?_⟩
  rw [cY,cY]
  intro d hd
  have npd:p≠d:=fun z=>by rw [<- z,ak] at hd;cases hd
  rw [aA (aL npd)] at hd
  refine ⟨_,rfl,p,_,dx,_,rfl,(by rw [aA npd];exact ak),T.gO,T.vo,(by show 3<1000;decide),?_⟩
  refine k d _ hd (Aw ak (by rw [agm])) (by rw [aA (aL npd),ak];rfl) fun b o e hb=>?_
  rw [aA hb,aA (ao e hd),aA hb]
  exact e
/-- the cut of the counts c -/
def Fb (room:Nat) (c:Tab) (cut:Int):Prop:=if c.length<=room then cut=0 else IsCut room c cut
def Fb.ago {room:Nat} {c:Tab} {cut:Int} (h:Fb room c cut) (hp:∀ p∈c,1<=p.2):gJ room c (cQ c cut) cut:=by
 unfold Fb at h;unfold gJ
 by_cases e:c.length<=room
 ·rw [if_pos e] at h ⊢; exact ⟨h,by rw [h,aaQ hp]⟩
 ·rw [if_neg e] at h ⊢; exact ⟨h,rfl⟩
def spCut:Sp:=fun vs H Q _=>∃ (g:Addr) (c:Tab) (room:Nat),vs=[.ref g,.int room]/\H g=some (.dK (emb c))/\c.length<64/\∀ (cut:Int) (H':Hp),Fb room c cut->Same H H'->Q (.int cut) H'
def ok'21 (T:Tx K mg A):cI P w K mg base CX0 1 A.Qp A.BJ ["counts","room"] spCut:=by
 refine T.F'21.ok Ez (fun vs H Q E h=>?_) (fun cdv B outer s H vs Q E hr h=>?_)
 ·obtain ⟨g,c,room,rfl,_⟩:=h
  rfl
 ·obtain ⟨g,c,room,rfl,hg,h64,q⟩:=h
  refine ⟨_,(aq (gG (cg adG (dz f9 (by rfl) T.sW mQ (aj (pv 0) au)) (pv 1) (cP _)) (aF (cA aC)) eY)
   (aq (aU (i:=2) Ez.nd rfl (Or.inl rfl) (Wc T.oF (pv 0) ⟨rfl,rfl⟩ rfl))
   (aF (cA (cu (ixG (bO hr)) (pv 2) (pv 1) (fun _ _=>rfl)))))),?_⟩
  refine ⟨_,rfl,afS (.inl hg) ⟨_,rfl,_,_,rfl,rfl,_,rfl,fX (fun h=>?_) (fun h=>?_)⟩⟩
  ·have h':((emb c).length:Int)<=room:=of_decide_eq_true h
   rw [uV] at h'
   exact q 0 H (by unfold Fb;rw [if_pos (by omega)]) (Same.refl H)
  ·have h':¬ ((emb c).length:Int)<=room:=fun z=>h (decide_eq_true z)
   rw [uV] at h'
   refine ⟨_,rfl,g,emb c,vals c,rfl,.inl hg,aaR c,(by unfold vals;rw [aZ];exact h64),fun l d hl hp hs=>?_⟩
   have hlen:d.length=c.length:=by rw [hp.length_eq];unfold vals;rw [aZ]
   have e:d[room]? = some d[room]:=gw (by omega)
   refine ⟨_,rfl,_,rfl,iz (.inl (.inl ak)) (v:=.int d[room]) (Ie (by rw [kW,e];rfl)) (q _ _ ?_ (Same.new hl))⟩
   unfold Fb
   rw [if_neg (by omega)]
   exact ⟨d,hp,hs,e⟩
def WY:Sp:=fun vs H Q _=>∃ (g:Addr) (c:Tab) (cut:Int),vs=[.ref g,.int cut]/\H g=some (.dK (emb c))/\(keys c).Nodup/\c.length<=1000 /\
 ∀ (d:Addr) (H':Hp),H d=none->H' d=some (.dK (emb (cQ c cut)))->Same H H'->Q (.ref d) H'
def MJ (c:Tab) (p:Int × Int) (cut:Int):cQ (c++[p]) cut=if cut<p.2 then cQ c cut++[(p.1,p.2-cut)] else cQ c cut:=by
 unfold cQ
 rw [sE,cW]
 by_cases h:cut<p.2
 ·rw [if_pos h];simp [h]
 ·rw [if_neg h];simp [h]
def take_snoc {c:Tab} {i:Nat} {p:Int × Int} (h:c[i]? = some p):c.take (i+1)=c.take i++[p]:=by
 rw [lY,h];rfl
def adh {c:Tab} {i:Nat} {p:Int × Int} {cut:Int} (hn:(keys c).Nodup) (h:c[i]? = some p) (hc:cut<p.2):put (cQ (c.take i) cut) p.1 (p.2-cut)=cQ (c.take (i+1)) cut:=by
 rw [take_snoc h,MJ,if_pos hc]
 refine zm fun z=>?_
 have z1:=uU z
 have e:keys (c.take (i+1))=keys (c.take i)++[p.1]:=by rw [take_snoc h];unfold keys;rw [cW];rfl
 have hn':(keys (c.take (i+1))).Nodup:=ZX (Z4 _ (Xn _ _)) hn
 rw [e,Xp] at hn'
 exact hn'.2.2 p.1 z1 p.1 (by simp) rfl
def ok'22 (T:Tx K mg A):cI P w K mg base CX0 1 A.Qq A.wV ["counts","cut"] WY:=by
 refine T.F'22.ok pR (fun vs H Q E h=>?_) (fun cdv B outer s H vs Q E hr h=>?_)
 ·obtain ⟨g,c,cut,rfl,_⟩:=h
  rfl
 ·obtain ⟨g,c,cut,rfl,hg,hn,hl,q⟩:=h
  refine ⟨_,(aq (aU (i:=2) pR.nd rfl (Or.inl rfl) KH)
   (aq (acv jD rfl (pv 0) ⟨rfl,rfl⟩ (aai rfl (qW (fB (i:=3) pR.nd rfl (Or.inl rfl)) (qW (fB (i:=4) pR.nd rfl (Or.inl rfl)) Uq))) (aF (gG (cg DN (pv 4) (pv 1) (cP _)) (aF (wG (aM Bc (pv 4) (pv 1)) (Az (pv 2) (pv 3) (setG (bO hr))))) eY)))
   (aF (cA (pv 2))))),?_⟩
  intro d hd
  have ngd:g≠d:=ao hg hd
  have hg1:(upd H d (.dK [])) g=some (.dK (emb c)):=by rw [aA ngd];exact hg
  refine ⟨_,rfl,g,emb c,rfl,hg1,fun o wm=>Wa (fun i σ H2=>∃ (x y:Option V),σ=[some (.ref g),some (.int cut),some (.ref d),x,y]/\H2 g=some (.frz o (.dK (emb c)))/\H2 d=some (.dK (emb (cQ (c.take i) cut)))/\(∀ b u,H b=some u->b≠g->H2 b=some u))
   ⟨none,none,rfl,ak,by rw [aA (aL ngd),ak];rfl,fun b u e hb=>by rw [aA hb,aA (ao e hd)];exact e⟩ (fun i σ H2 ⟨_,_,_,h,_⟩=>h) ?_ ?_⟩
  ·rintro i p t σ H2 hi ⟨x,y,rfl,f1,f2,f3⟩ ht
   obtain ⟨pr,hpr,rfl⟩:=afR hi
   have ngt:g≠t:=ao f1 ht
   have ndt:d≠t:=ao f2 ht
   have f1':(upd H2 t (.tup [.int pr.1,.int pr.2])) g=some (.frz o (.dK (emb c))):=by rw [aA ngt];exact f1
   have f2':(upd H2 t (.tup [.int pr.1,.int pr.2])) d=some (.dK (emb (cQ (c.take i) cut))):=by rw [aA ndt];exact f2
   have f3':∀ b u,H b=some u->b≠g->(upd H2 t (.tup [.int pr.1,.int pr.2])) b=some u:=fun b u e hb=>by
    have:=f3 b u e hb
    rw [aA (ao this ht)];exact this
   refine ⟨t,_,rfl,.inl (.inl ak),rfl,_,_,rfl,_,_,rfl,rfl,?_⟩
   refine ⟨_,rfl,_,rfl,_,_,rfl,rfl,_,rfl,fX (fun h=>?_) (fun h=>?_)⟩
   ·have hc:cut<pr.2:=of_decide_eq_true h
    have hz:(emb (cQ (c.take i) cut)).length<sizeLine:=by
     rw [uV]
     have:=acA (c.take i) cut
     rw [iw] at this
     exact aO (by omega)
    refine ⟨_,rfl,_,rfl,_,_,rfl,rfl,_,rfl,_,rfl,aaS f2' hz ?_⟩
    rw [La,adh hn hpr hc]
    refine ⟨_,_,rfl,by rw [aA ngd];exact f1',ak,fun b u e hb=>?_⟩
    have nb:b≠d:=ao e hd
    rw [aA nb];exact f3' b u e hb
   ·have hc:¬ cut<pr.2:=fun z=>h (decide_eq_true z)
    refine ⟨_,_,rfl,f1',?_,f3'⟩
    rw [take_snoc hpr,MJ,if_neg hc];exact f2'
  ·rintro σ H2 ⟨x,y,rfl,f1,f2,f3⟩
   rw [uV,lZ] at f2
   refine ⟨g,emb c,o,wm,f1,_,rfl,q d _ hd ?_ fun b u e=>?_⟩
   ·rw [aA (aL ngd)];exact f2
   ·by_cases hb:b=g
    ·subst hb;rw [ak,<- e,hg]
    ·rw [aA hb];exact f3 b u e hb
def spFit (A:Ad):Sp:=fun vs H Q _=>∃ (p dx g d:Addr) (room:Nat) (t l:Int) (c:Tab),vs=[.ref p,.ref g]/\H p=some (.ins A.iY dx (fl room t l d))/\H g=some (.dK (emb c))/\(keys c).Nodup/\(∀ p∈c,1<=p.2)/\c.length<64 /\
 ∀ (d':Addr) (c':Tab) (cut:Int) (H':Hp),H d'=none->gJ room c c' cut->H' p=some (.ins A.iY dx (fl room t (l+cut) d'))->H' d'=some (.dK (emb c'))->But p H H'->Q .non H'
def ok'23 (T:Tx K mg A):cI P w K mg base CX0 2 A.Qs A.lH ["self","grown"] (spFit A):=by
 refine T.F'23.ok qu (fun vs H Q E h=>?_) (fun cdv B outer s H vs Q E hr h=>?_)
 ·obtain ⟨p,dx,g,d,room,t,l,c,rfl,_⟩:=h
  rfl
 ·obtain ⟨p,dx,g,d,room,t,l,c,rfl,hp,hg,hn,pos,h64,q⟩:=h
  refine ⟨_,(aq (aU (i:=2) qu.nd rfl (Or.inl rfl) (aQ (ok'21 T) (hr.mono (by decide)) rfl T.abA T.F'21.kp T.b'21 .nil aV (aj (pv 1) (aj (aJ (pv 0) rfl) au))))
   (aq (bK (pv 0) (aQ (ok'22 T) (hr.mono (by decide)) rfl T.Wy T.F'22.kp T.b'22 .nil aV (aj (pv 1) (aj (pv 2) au))) rfl)
   (aF (bK (pv 0) (aM dD (aJ (pv 0) rfl) (pv 2)) rfl)))),?_⟩
  refine ⟨_,rfl,_,rfl,rdF hp T.gO T.Ml (Vq _ _ _ _) ⟨g,c,room,rfl,hg,h64,fun cut H1 hc s1=>?_⟩⟩
  refine ⟨_,rfl,_,rfl,g,c,cut,rfl,s1 _ _ hg,hn,by omega,fun d' H2 hd' e2 s2=>?_⟩
  have hp2:=s2 _ _ (s1 _ _ hp)
  have npd:p≠d':=ao (s1 _ _ hp) hd'
  refine ⟨_,rfl,p,_,dx,_,rfl,hp2,T.gO,T.vo,(by show 4<1000;decide),?_⟩
  rw [adg]
  refine ⟨_,rfl,rdF ak T.gO T.Cg (Jx _ _ _ _) ⟨_,rfl,_,_,rfl,rfl,_,rfl,p,_,dx,_,rfl,ak,T.gO,T.Cg,(by show 4<1000;decide),?_⟩⟩
  rw [adf,cY]
  refine q d' (cQ c cut) cut _ (s1.free hd') (hc.ago pos) ak (by rw [aA (aL npd)];exact e2) fun b o e hb=>?_
  rw [aA hb];exact s2 _ _ (s1 _ _ e)
def spAdd (A:Ad):Sp:=fun vs H Q _=>∃ (p dx d:Addr) (room:Nat) (t l k v:Int) (c:Tab),vs=[.ref p,.int k,.int v]/\H p=some (.ins A.iY dx (fl room t l d))/\H d=some (.dK (emb c))/\(keys c).Nodup/\(∀ p∈c,1<=p.2)/\1<=v/\c.length<63 /\
 ∀ (d':Addr) (c':Tab) (cut:Int) (H':Hp),H d'=none->gJ room (put c k (low c k+v)) c' cut->H' p=some (.ins A.iY dx (fl room (t+v) (l+cut) d'))->H' d'=some (.dK (emb c'))->But p H H'->Q .non H'
def ad0 (T:Tx K mg A):cI P w K mg base CX0 3 A.Qt A.lJ ["self","thing","weight"] (spAdd A):=by
 refine T.F'24.ok qw (fun vs H Q E h=>?_) (fun cdv B outer s H vs Q E hr h=>?_)
 ·obtain ⟨p,dx,d,room,t,l,k,v,c,rfl,_⟩:=h
  rfl
 ·obtain ⟨p,dx,d,room,t,l,k,v,c,rfl,hp,hd,hn,pos,hv,h63,q⟩:=h
  have npd:p≠d:=iZ hp hd (by intro z;cases z)
  refine ⟨_,(aq (bK (pv 0) (aM dD (aJ (pv 0) rfl) (pv 2)) rfl)
   (aq (aU (i:=3) qw.nd rfl (Or.inl rfl) (fu Sy (by rfl) T.af0 aes (aj (aJ (pv 0) rfl) au)))
   (aq (wG (aM dD (aaA (bO hr) (pv 3) (pv 1) aC ⟨rfl,rfl,rfl,rfl⟩) (pv 2)) (Az (pv 3) (pv 1) (setG (bO hr))))
   (aF (aY (eN (pv 0) T.gO T.Cm (ok'23 T) (hr.mono (by decide)) T.b'23 .nil aV (aj (pv 3) au))))))),?_⟩
  refine ⟨_,rfl,rdF hp T.gO T.Ce (CZ _ _ _ _) ⟨_,rfl,_,_,rfl,rfl,_,rfl,p,_,dx,_,rfl,hp,T.gO,T.Ce,(by show 4<1000;decide),?_⟩⟩
  rw [ade]
  have hd1:(upd H p (.ins A.iY dx (fl room (t+v) l d))) d=some (.dK (emb c)):=by rw [aA (aL npd)];exact hd
  refine ⟨_,rfl,rdF ak T.gO T.vo (oH _ _ _ _) ⟨d,emb c,rfl,.inl hd1,fun g hg=>?_⟩⟩
  have ngp:p≠g:=fun z=>by rw [<- z,ak] at hg;cases hg
  have hg0:H g=none:=by rw [aA (aL ngp)] at hg;exact hg
  refine ⟨_,rfl,g,rfl,.inl ⟨emb c,.inl ak⟩,_,rfl,_,rdGet (.inl ak),?_⟩
  rw [acC]
  refine ⟨_,rfl,_,_,rfl,rfl,_,rfl,_,rfl,aaS ak (by rw [uV];exact aO (by omega)) ?_⟩
  rw [La,cY]
  have hp2:∀ o,(upd (upd H p (.ins A.iY dx (fl room (t+v) l d))) g o) p=some (.ins A.iY dx (fl room (t+v) l d)):=fun o=>by rw [aA ngp];exact ak
  refine ⟨_,rfl,p,dx,_,rfl,hp2 _,abR _ _ _ _ (by decide +kernel) (by decide +kernel) (by decide +kernel) (by decide +kernel),_,rfl,p,dx,g,d,room,t+v,l,_,rfl,hp2 _,ak,aaM hn _ _,U5 pos (by have:=uh pos k;omega),?_,fun d' c' cut H' e1 e2 e3 e4 e5=>?_⟩
  ·have:=U3 c k (low c k+v);omega
  ·have ngd:g≠d':=fun z=>by rw [<- z,ak] at e1;cases e1
   have npd':p≠d':=fun z=>by rw [<- z,hp2] at e1;cases e1
   rw [aA (aL ngd),aA (aL npd')] at e1
   refine q d' c' cut H' e1 e2 e3 e4 fun b o e hb=>e5 b o ?_ hb
   rw [aA (ao e hg0),aA hb];exact e
def bf (bW jw:V):List (Str × V):=[("span",bW),("sums",jw)]
def adi (bW jw:V):(bf bW jw).lookup ("span" : Str)=some bW:=by rfl
def zG (bW jw:V):(bf bW jw).lookup ("sums" : Str)=some jw:=by rfl
def agp (bW jw:V):aB "sums" jw (aB "span" bW [])=bf bW jw:=by
 unfold bf
 rw [bV "span",aD (f := "sums") (g := "span") (by decide +kernel),bV "sums"]
def yG (bW jw y:V):aB "sums" y (bf bW jw)=bf bW y:=by
 unfold bf
 rw [aD (f := "sums") (g := "span") (by decide +kernel),gR]
def ad1 (bW jw:V) {m:Str} (TX:¬ m = "span") (agq:¬ m = "sums"):(bf bW jw).lookup m=none:=by
 unfold bf
 rw [cJ TX,cJ agq]
 rfl
structure Q4 where
 a:Int
 b:Int
 c:Int
 d:Int
def L4 (q:Q4):List Int:=[q.a,q.b,q.c,q.d]
def addQ (q p:Q4):Q4:=⟨q.a+p.a,q.b+p.b,q.c+p.c,q.d+p.d⟩
def pwQ (t w:Int):Q4:=⟨w,w*t,w*t*t,w*t*t*t⟩
def Vr:Q4:=⟨0,0,0,0⟩
def abS (t w:Int):Nat->Int
 | 0=>w
 | n+1=>abS t w n*t
/-- a Balance -/
structure Bn (A:Ad) (H:Hp) (p dx l:Addr) (s:Int) (q:Q4):Prop where
 o:H p=some (.ins A.nU dx (bf (.int s) (.ref l)))
 l:H l=some (.lst ((L4 q).map V.int))
def Bn.same {A:Ad} {H H':Hp} {p dx l:Addr} {s:Int} {q:Q4} (h:Bn A H p dx l s q) (z:Same H H'):Bn A H' p dx l s q:=⟨z _ _ h.o,z _ _ h.l⟩
def Bn.but {A:Ad} {H H':Hp} {p dx l x C e:Addr} {fs:List (Str × V)} {s:Int} {q:Q4} (h:Bn A H p dx l s q) (z:But x H H') (hq:H x=some (.ins C e fs)) (m:p≠x):Bn A H' p dx l s q:=⟨z _ _ h.o m,z _ _ h.l (iZ h.l hq (by intro z;cases z))⟩
def W4:Sp:=fun vs H Q _=>∃ (l:Addr) (t w:Int) (q:Q4),vs=[.ref l,.int t,.int w]/\H l=some (.lst ((L4 q).map V.int))/\0<=t/\t<2 ^ 64/\∀ (l':Addr) (H':Hp),H l'=none->H' l'=some (.lst ((L4 (addQ q (pwQ t w))).map V.int))->Same H H'->Q (.ref l') H'
def TY {q:Q4} {i:Nat} {x:V} (h:((L4 q).map V.int)[i]? = some x):(i=0/\x = .int q.a)\/(i=1/\x = .int q.b)\/(i=2/\x = .int q.c)\/(i=3/\x = .int q.d):=by
 match i,h with
 | 0,h=>exact .inl ⟨rfl,(bZ h).symm⟩
 | 1,h=>exact .inr (.inl ⟨rfl,(bZ h).symm⟩)
 | 2,h=>exact .inr (.inr (.inl ⟨rfl,(bZ h).symm⟩))
 | 3,h=>exact .inr (.inr (.inr ⟨rfl,(bZ h).symm⟩))
 | n+4,h=>simp [L4] at h
def ad2 (T:Tx K mg A):cI P w K mg base CX0 1 A.Qu A.uz ["sums","thing","weight"] W4:=by
 refine T.F'25.ok jL (fun vs H Q E h=>?_) (fun cdv B outer s H vs Q E hr h=>?_)
 ·obtain ⟨l,t,w,q,rfl,_⟩:=h
  rfl
 ·obtain ⟨l,t,w,q,rfl,hl,t0,t1,k⟩:=h
  refine ⟨_,(aq (aU (i:=3) jL.nd rfl (Or.inl rfl) (cM au))
   (aq (aU (i:=4) jL.nd rfl (Or.inl rfl) (pv 2))
   (aq (jO jD rfl (fU (pv 0)) (fB (i:=5) jL.nd rfl (Or.inl rfl)) (aq (aY (d9 fJ iQ iR cF (pv 3) (aj (aM dD (pv 5) (pv 4)) au)))
   (aF (aU (i:=4) jL.nd rfl (Or.inl rfl) (aM ni (pv 4) (pv 1))))))
   (aF (cA (pv 3)))))),?_⟩
  refine ⟨(by show 0<=sizeLine;decide),fun D hD=>?_⟩
  refine ⟨_,rfl,?_⟩
  have sD:Same H (upd H D (.lst [])):=Same.new hD
  refine ⟨_,rfl,l,rfl,⟨_,.inl (.inl (sD _ _ hl))⟩,jc (K:=K) (a:=l) (xs:=(L4 q).map V.int) (fun i σ H2=>∃ x,σ=[some (.ref l),some (.int t),some (.int w),some (.ref D),some (.int (abS t w i)),x]/\H2 D=some (.lst (((L4 (addQ q (pwQ t w))).take i).map V.int))/\Same H H2) ⟨none,rfl,ak,sD⟩ (fun i σ H2 _ ⟨_,_,_,s⟩=>.inl (.inl (s _ _ hl))) ?_ ?_⟩
  ·rintro i y σ H2 hi ⟨x,rfl,f,s2⟩
   have hz:∀ n:Nat,n<=4->(((L4 (addQ q (pwQ t w))).take n).map V.int).length<sizeLine:=fun n hn=>aO (by rw [aZ,iw];omega)
   have keep:∀ L b o,H b=some o->(upd H2 D L) b=some o:=fun L b o e=>by rw [aA (ao e hD)];exact s2 _ _ e
   rcases TY hi with ⟨rfl,rfl⟩ | ⟨rfl,rfl⟩ | ⟨rfl,rfl⟩ | ⟨rfl,rfl⟩
   ·refine ⟨_,rfl,.inl ⟨rfl,_,.inl (.inl f)⟩,_,rfl,_,rfl,_,_,rfl,rfl,D,_,_,rfl,rfl,f,hz 0 (by decide),?_⟩
    exact ⟨_,rfl,_,rfl,_,_,rfl,rfl,gQ (by omega) t1,_,rfl,ak,keep _⟩
   ·refine ⟨_,rfl,.inl ⟨rfl,_,.inl (.inl f)⟩,_,rfl,_,rfl,_,_,rfl,rfl,D,_,_,rfl,rfl,f,hz 1 (by decide),?_⟩
    exact ⟨_,rfl,_,rfl,_,_,rfl,rfl,gQ (by omega) t1,_,rfl,ak,keep _⟩
   ·refine ⟨_,rfl,.inl ⟨rfl,_,.inl (.inl f)⟩,_,rfl,_,rfl,_,_,rfl,rfl,D,_,_,rfl,rfl,f,hz 2 (by decide),?_⟩
    exact ⟨_,rfl,_,rfl,_,_,rfl,rfl,gQ (by omega) t1,_,rfl,ak,keep _⟩
   ·refine ⟨_,rfl,.inl ⟨rfl,_,.inl (.inl f)⟩,_,rfl,_,rfl,_,_,rfl,rfl,D,_,_,rfl,rfl,f,hz 3 (by decide),?_⟩
    exact ⟨_,rfl,_,rfl,_,_,rfl,rfl,gQ (by omega) t1,_,rfl,ak,keep _⟩
  ·rintro σ H2 ⟨x,rfl,f,s2⟩
   exact ⟨_,rfl,k D H2 hD f s2⟩
def adk (A:Ad):Sp:=fun vs H Q _=>∃ (p dx:Addr) (s:Int),vs=[.ref p,.int s]/\H p=some (.ins A.nU dx [])/\∀ (d:Addr) (H':Hp),H d=none->Bn A H' p dx d s Vr->But p H H'->Q .non H'
def ok'26 (T:Tx K mg A):cI P w K mg base CX0 1 A.JW A.lK ["self","span"] (adk A):=by
 refine T.F'26.ok yP (fun vs H Q E h=>?_) (fun cdv B outer s H vs Q E hr h=>?_)
 ·obtain ⟨p,dx,s,rfl,_⟩:=h
  rfl
 ·obtain ⟨p,dx,sp,rfl,hp,q⟩:=h
  refine ⟨_,(aq (bK (pv 0) (pv 1) rfl)
   (aF (bK (pv 0) (cM (aj aC (aj aC (aj aC (aj aC au))))) rfl))),?_⟩
  refine ⟨_,rfl,_,rfl,p,_,dx,[],rfl,hp,T.rD,T.Vh,(by show 0<1000;decide),?_⟩
  refine ⟨(by show 4<=sizeLine;decide),fun d hd=>?_⟩
  have npd:p≠d:=fun z=>by rw [<- z,ak] at hd;cases hd
  rw [aA (aL npd)] at hd
  refine ⟨_,rfl,p,_,dx,_,rfl,(by rw [aA npd];exact ak),T.rD,T.vp,(by show 1<1000;decide),?_⟩
  refine q d _ hd ⟨Aw ak (by rw [agp]),by rw [aA (aL npd),ak];rfl⟩ fun b o e hb=>?_
  rw [aA hb,aA (ao e hd),aA hb]
  exact e
def abT (A:Ad) (sg:Bool):Sp:=fun vs H Q _=>∃ (p dx l:Addr) (s t w:Int) (q:Q4),vs=[.ref p,.int t,.int w]/\Bn A H p dx l s q/\0<=t/\t<2 ^ 64/\∀ (l':Addr) (H':Hp),Bn A H' p dx l' s (addQ q (pwQ t (if sg then -w else w)))->But p H H'->H l'=none->Q .non H'
def ok'27 (T:Tx K mg A):cI P w K mg base CX0 2 A.Qv A.nF ["self","thing","weight"] (abT A false):=by
 refine T.F'27.ok CG (fun vs H Q E h=>?_) (fun cdv B outer s H vs Q E hr h=>?_)
 ·obtain ⟨p,dx,l,sp,t,w,q,rfl,_⟩:=h
  rfl
 ·obtain ⟨p,dx,l,sp,t,w,q,rfl,hb,t0,t1,k⟩:=h
  refine ⟨_,(aF (bK (pv 0) (aQ (ad2 T) (hr.mono (by decide)) rfl T.Cp T.F'25.kp T.b'25 .nil aV (aj (aJ (pv 0) rfl) (aj (pv 1) (aj (pv 2) au)))) rfl)),?_⟩
  refine ⟨_,rfl,rdF hb.o T.rD T.vp (zG _ _) ⟨_,rfl,_,rfl,l,t,w,q,rfl,hb.l,t0,t1,fun l' H1 nl' f1 s1=>?_⟩⟩
  refine ⟨_,rfl,p,_,dx,_,rfl,s1 _ _ hb.o,T.rD,T.vp,(by show 2<1000;decide),?_⟩
  rw [yG]
  have npl:l'≠p:=aL (ao hb.o nl')
  exact k l' _ ⟨ak,by rw [aA npl];exact f1⟩ (fun b o e m=>by rw [aA m];exact s1 _ _ e) nl'
def ok'28 (T:Tx K mg A):cI P w K mg base CX0 2 A.Qw A.lM ["self","thing","weight"] (abT A true):=by
 refine T.F'28.ok yQ (fun vs H Q E h=>?_) (fun cdv B outer s H vs Q E hr h=>?_)
 ·obtain ⟨p,dx,l,sp,t,w,q,rfl,_⟩:=h
  rfl
 ·obtain ⟨p,dx,l,sp,t,w,q,rfl,hb,t0,t1,k⟩:=h
  refine ⟨_,(aF (bK (pv 0) (aQ (ad2 T) (hr.mono (by decide)) rfl T.Cp T.F'25.kp T.b'25 .nil aV (aj (aJ (pv 0) rfl) (aj (pv 1) (aj (pe_un afC (pv 2)) au)))) rfl)),?_⟩
  refine ⟨_,rfl,rdF hb.o T.rD T.vp (zG _ _) ⟨_,rfl,_,rfl,_,rfl,l,t,-w,q,rfl,hb.l,t0,t1,fun l' H1 nl' f1 s1=>?_⟩⟩
  refine ⟨_,rfl,p,_,dx,_,rfl,s1 _ _ hb.o,T.rD,T.vp,(by show 2<1000;decide),?_⟩
  rw [yG]
  have npl:l'≠p:=aL (ao hb.o nl')
  exact k l' _ ⟨ak,by rw [aA npl];exact f1⟩ (fun b o e m=>by rw [aA m];exact s1 _ _ e) nl'
def kf (aH aW bW dG dH jx dI cj dJ bL:V):List (Str × V):=[("room",aH),("reach",aW),("span",bW),("came",dG),("went",dH),("up",jx),("down",dI),("window",cj),("seen",dJ),("balance",bL)]
def Vs (aH aW bW dG dH jx dI cj dJ bL:V):(kf aH aW bW dG dH jx dI cj dJ bL).lookup ("room" : Str)=some aH:=by rfl
def MN (aH aW bW dG dH jx dI cj dJ bL:V):(kf aH aW bW dG dH jx dI cj dJ bL).lookup ("reach" : Str)=some aW:=by rfl
def zH (aH aW bW dG dH jx dI cj dJ bL:V):(kf aH aW bW dG dH jx dI cj dJ bL).lookup ("span" : Str)=some bW:=by rfl
def Jz (aH aW bW dG dH jx dI cj dJ bL:V):(kf aH aW bW dG dH jx dI cj dJ bL).lookup ("came" : Str)=some dG:=by rfl
def JB (aH aW bW dG dH jx dI cj dJ bL:V):(kf aH aW bW dG dH jx dI cj dJ bL).lookup ("went" : Str)=some dH:=by rfl
def abU (aH aW bW dG dH jx dI cj dJ bL:V):(kf aH aW bW dG dH jx dI cj dJ bL).lookup ("up" : Str)=some jx:=by rfl
def JC (aH aW bW dG dH jx dI cj dJ bL:V):(kf aH aW bW dG dH jx dI cj dJ bL).lookup ("down" : Str)=some dI:=by rfl
def oJ (aH aW bW dG dH jx dI cj dJ bL:V):(kf aH aW bW dG dH jx dI cj dJ bL).lookup ("window" : Str)=some cj:=by rfl
def vI (aH aW bW dG dH jx dI cj dJ bL:V):(kf aH aW bW dG dH jx dI cj dJ bL).lookup ("seen" : Str)=some dJ:=by rfl
def lX (aH aW bW dG dH jx dI cj dJ bL:V):(kf aH aW bW dG dH jx dI cj dJ bL).lookup ("balance" : Str)=some bL:=by rfl
def agr (aH aW bW dG dH jx dI cj dJ bL:V):aB "balance" bL (aB "seen" dJ (aB "window" cj (aB "down" dI (aB "up" jx (aB "went" dH (aB "came" dG (aB "span" bW (aB "reach" aW (aB "room" aH [])))))))))=kf aH aW bW dG dH jx dI cj dJ bL:=by
 unfold kf
 rw [bV "room",aD (f := "reach") (g := "room") (by decide +kernel),bV "reach",aD (f := "span") (g := "room") (by decide +kernel),aD (f := "span") (g := "reach") (by decide +kernel),bV "span",aD (f := "came") (g := "room") (by decide +kernel),aD (f := "came") (g := "reach") (by decide +kernel),aD (f := "came") (g := "span") (by decide +kernel),bV "came",aD (f := "went") (g := "room") (by decide +kernel),aD (f := "went") (g := "reach") (by decide +kernel),aD (f := "went") (g := "span") (by decide +kernel),aD (f := "went") (g := "came") (by decide +kernel),bV "went",aD (f := "up") (g := "room") (by decide +kernel),aD (f := "up") (g := "reach") (by decide +kernel),aD (f := "up") (g := "span") (by decide +kernel),aD (f := "up") (g := "came") (by decide +kernel),aD (f := "up") (g := "went") (by decide +kernel),bV "up",aD (f := "down") (g := "room") (by decide +kernel),aD (f := "down") (g := "reach") (by decide +kernel),aD (f := "down") (g := "span") (by decide +kernel),aD (f := "down") (g := "came") (by decide +kernel),aD (f := "down") (g := "went") (by decide +kernel),aD (f := "down") (g := "up") (by decide +kernel),bV "down",aD (f := "window") (g := "room") (by decide +kernel),aD (f := "window") (g := "reach") (by decide +kernel),aD (f := "window") (g := "span") (by decide +kernel),aD (f := "window") (g := "came") (by decide +kernel),aD (f := "window") (g := "went") (by decide +kernel),aD (f := "window") (g := "up") (by decide +kernel),aD (f := "window") (g := "down") (by decide +kernel),bV "window",aD (f := "seen") (g := "room") (by decide +kernel),aD (f := "seen") (g := "reach") (by decide +kernel),aD (f := "seen") (g := "span") (by decide +kernel),aD (f := "seen") (g := "came") (by decide +kernel),aD (f := "seen") (g := "went") (by decide +kernel),aD (f := "seen") (g := "up") (by decide +kernel),aD (f := "seen") (g := "down") (by decide +kernel),aD (f := "seen") (g := "window") (by decide +kernel),bV "seen",aD (f := "balance") (g := "room") (by decide +kernel),aD (f := "balance") (g := "reach") (by decide +kernel),aD (f := "balance") (g := "span") (by decide +kernel),aD (f := "balance") (g := "came") (by decide +kernel),aD (f := "balance") (g := "went") (by decide +kernel),aD (f := "balance") (g := "up") (by decide +kernel),aD (f := "balance") (g := "down") (by decide +kernel),aD (f := "balance") (g := "window") (by decide +kernel),aD (f := "balance") (g := "seen") (by decide +kernel),bV "balance"]
def kfN {aH aW bW dG dH jx dI cj dJ bL:V} {m:Str} (h:m∉[("room" : Str),("reach" : Str),("span" : Str),("came" : Str),("went" : Str),("up" : Str),("down" : Str),("window" : Str),("seen" : Str),("balance" : Str)]):(kf aH aW bW dG dH jx dI cj dJ bL).lookup m=none:=by
 simp only [cC,qb,or_false,not_or] at h
 obtain ⟨uG,Jt,TX,ags,agt,h_up,agu,abV,agv,W6⟩:=h
 unfold kf
 rw [cJ uG,cJ Jt,cJ TX,cJ ags,cJ agt,cJ h_up,cJ agu,cJ abV,cJ agv,cJ W6]
 rfl
structure Fq where
 (p dx d:Addr) (t l:Int) (c:Tab)
structure Rs where
 (dx a:Addr) (bs:List Addr) (r tt ov un tn:Int) (mi ma:Option Int) (ls:RG.Ls)
abbrev RnX (A:Ad) (H:Hp) (p:Addr) (x:Rs):Prop:=Rn A H p x.dx x.a x.bs x.r x.tt x.ov x.un x.tn x.mi x.ma x.ls
structure Ru where
 (p:Addr) (x:Rs)
structure Wi where
 (p dx l:Addr) (c:Int) (ps:List Bp)
structure Di where
 (p dx l:Addr) (n v:Int) (C:List Int)
structure Ba where
 (p dx l:Addr) (q:Q4)
structure KS where
 (k dk:Addr) (room:Nat) (reach span:Int) (cm wn:Fq) (up dn:Ru) (wi:Wi) (di:Di) (ba:Ba)
structure qC (A:Ad) (H:Hp) (room:Nat) (f:Fq):Prop where
 o:H f.p=some (.ins A.iY f.dx (fl room f.t f.l f.d))
 d:H f.d=some (.dK (emb f.c))
def qC.same {A:Ad} {H H':Hp} {room:Nat} {f:Fq} (h:qC A H room f) (s:Same H H'):qC A H' room f:=⟨s _ _ h.o,s _ _ h.d⟩
def qC.but {A:Ad} {H H':Hp} {room:Nat} {f:Fq} {q C e:Addr} {fs:List (Str × V)} (h:qC A H room f) (s:L2.But q H H') (hq:H q=some (.ins C e fs)) (n:f.p≠q):qC A H' room f :=
 ⟨s _ _ h.o n,s _ _ h.d (iZ h.d hq (by intro z;cases z))⟩
def KS.all (x:KS):List Addr:=[x.k,x.cm.p,x.wn.p,x.up.p,x.dn.p,x.wi.p,x.di.p,x.ba.p]
structure Kp (A:Ad) (H:Hp) (x:KS):Prop where
 o:H x.k=some (.ins A.cD x.dk (kf (.int x.room) (.int x.reach) (.int x.span) (.ref x.cm.p) (.ref x.wn.p) (.ref x.up.p) (.ref x.dn.p) (.ref x.wi.p) (.ref x.di.p) (.ref x.ba.p)))
 cm:qC A H x.room x.cm
 wn:qC A H x.room x.wn
 up:RnX A H x.up.p x.up.x
 dn:RnX A H x.dn.p x.dn.x
 wi:Wn A H x.wi.p x.wi.dx x.wi.l x.room x.reach x.wi.c x.wi.ps
 di:Dn A H x.di.p x.di.dx x.di.l x.room x.di.n x.di.v (srt (My.up x.di.v x.di.C))
 ba:Bn A H x.ba.p x.ba.dx x.ba.l x.span x.ba.q
 nd:x.all.Nodup
def Kp.same {A:Ad} {H H':Hp} {x:KS} (h:Kp A H x) (s:Same H H'):Kp A H' x:=⟨s _ _ h.o,h.cm.same s,h.wn.same s,h.up.same s,h.dn.same s,h.wi.same s,h.di.same s,h.ba.same s,h.nd⟩
/-- the eight are eight -/
structure Ap (x:KS):Prop where
 k1:x.k≠x.cm.p
 k2:x.k≠x.wn.p
 k3:x.k≠x.up.p
 k4:x.k≠x.dn.p
 k5:x.k≠x.wi.p
 k6:x.k≠x.di.p
 k7:x.k≠x.ba.p
 c2:x.cm.p≠x.wn.p
 c3:x.cm.p≠x.up.p
 c4:x.cm.p≠x.dn.p
 c5:x.cm.p≠x.wi.p
 c6:x.cm.p≠x.di.p
 c7:x.cm.p≠x.ba.p
 w3:x.wn.p≠x.up.p
 w4:x.wn.p≠x.dn.p
 w5:x.wn.p≠x.wi.p
 w6:x.wn.p≠x.di.p
 w7:x.wn.p≠x.ba.p
 u4:x.up.p≠x.dn.p
 u5:x.up.p≠x.wi.p
 u6:x.up.p≠x.di.p
 u7:x.up.p≠x.ba.p
 d5:x.dn.p≠x.wi.p
 d6:x.dn.p≠x.di.p
 d7:x.dn.p≠x.ba.p
 i6:x.wi.p≠x.di.p
 i7:x.wi.p≠x.ba.p
 s7:x.di.p≠x.ba.p
def Kp.ap {A:Ad} {H:Hp} {x:KS} (h:Kp A H x):Ap x:=by
 have n:=h.nd
 unfold KS.all at n
 simp only [nO,cC,qb,or_false,not_or,Fw,and_true,not_false_eq_true] at n
 obtain ⟨⟨k1,k2,k3,k4,k5,k6,k7⟩,⟨c2,c3,c4,c5,c6,c7⟩,⟨w3,w4,w5,w6,w7⟩,⟨u4,u5,u6,u7⟩,⟨d5,d6,d7⟩,⟨i6,i7⟩,s7⟩:=n
 exact ⟨k1,k2,k3,k4,k5,k6,k7,c2,c3,c4,c5,c6,c7,w3,w4,w5,w6,w7,u4,u5,u6,u7,d5,d6,d7,i6,i7,s7⟩
section
variable {A:Ad} {H H':Hp} {x:KS}
def Kp.setC (h:Kp A H x) {f:Fq} (e:f.p=x.cm.p) (b:L2.But x.cm.p H H') (hf:qC A H' x.room f):Kp A H' { x with cm:=f }:=by
 have a:=h.ap
 have q:=h.cm.o
 refine ⟨?_,hf,h.wn.but b q (aL a.c2),h.up.but b q (aL a.c3),h.dn.but b q (aL a.c4),h.wi.but b q (aL a.c5),h.di.but b q (aL a.c6),h.ba.but b q (aL a.c7),?_⟩
 ·show H' x.k=some (.ins A.cD x.dk (kf _ _ _ (.ref f.p) _ _ _ _ _ _))
  rw [e];exact b _ _ h.o a.k1
 ·show [x.k,f.p,x.wn.p,x.up.p,x.dn.p,x.wi.p,x.di.p,x.ba.p].Nodup
  rw [e];exact h.nd
def Kp.setW (h:Kp A H x) {f:Fq} (e:f.p=x.wn.p) (b:L2.But x.wn.p H H') (hf:qC A H' x.room f):Kp A H' { x with wn:=f }:=by
 have a:=h.ap
 have q:=h.wn.o
 refine ⟨?_,h.cm.but b q a.c2,hf,h.up.but b q (aL a.w3),h.dn.but b q (aL a.w4),h.wi.but b q (aL a.w5),h.di.but b q (aL a.w6),h.ba.but b q (aL a.w7),?_⟩
 ·show H' x.k=some (.ins A.cD x.dk (kf _ _ _ _ (.ref f.p) _ _ _ _ _))
  rw [e];exact b _ _ h.o a.k2
 ·show [x.k,x.cm.p,f.p,x.up.p,x.dn.p,x.wi.p,x.di.p,x.ba.p].Nodup
  rw [e];exact h.nd
def Kp.setU (h:Kp A H x) {f:Ru} (e:f.p=x.up.p) (b:L2.But x.up.p H H') (hf:RnX A H' f.p f.x):Kp A H' { x with up:=f }:=by
 have a:=h.ap
 have q:=h.up.o
 refine ⟨?_,h.cm.but b q a.c3,h.wn.but b q a.w3,hf,h.dn.but b q (aL a.u4),h.wi.but b q (aL a.u5),h.di.but b q (aL a.u6),h.ba.but b q (aL a.u7),?_⟩
 ·show H' x.k=some (.ins A.cD x.dk (kf _ _ _ _ _ (.ref f.p) _ _ _ _))
  rw [e];exact b _ _ h.o a.k3
 ·show [x.k,x.cm.p,x.wn.p,f.p,x.dn.p,x.wi.p,x.di.p,x.ba.p].Nodup
  rw [e];exact h.nd
def Kp.setD (h:Kp A H x) {f:Ru} (e:f.p=x.dn.p) (b:L2.But x.dn.p H H') (hf:RnX A H' f.p f.x):Kp A H' { x with dn:=f }:=by
 have a:=h.ap
 have q:=h.dn.o
 refine ⟨?_,h.cm.but b q a.c4,h.wn.but b q a.w4,h.up.but b q a.u4,hf,h.wi.but b q (aL a.d5),h.di.but b q (aL a.d6),h.ba.but b q (aL a.d7),?_⟩
 ·show H' x.k=some (.ins A.cD x.dk (kf _ _ _ _ _ _ (.ref f.p) _ _ _))
  rw [e];exact b _ _ h.o a.k4
 ·show [x.k,x.cm.p,x.wn.p,x.up.p,f.p,x.wi.p,x.di.p,x.ba.p].Nodup
  rw [e];exact h.nd
def Kp.setI (h:Kp A H x) {f:Wi} (e:f.p=x.wi.p) (b:L2.But x.wi.p H H') (hf:Wn A H' f.p f.dx f.l x.room x.reach f.c f.ps):Kp A H' { x with wi:=f }:=by
 have a:=h.ap
 have q:=h.wi.o
 refine ⟨?_,h.cm.but b q a.c5,h.wn.but b q a.w5,h.up.but b q a.u5,h.dn.but b q a.d5,hf,h.di.but b q (aL a.i6),h.ba.but b q (aL a.i7),?_⟩
 ·show H' x.k=some (.ins A.cD x.dk (kf _ _ _ _ _ _ _ (.ref f.p) _ _))
  rw [e];exact b _ _ h.o a.k5
 ·show [x.k,x.cm.p,x.wn.p,x.up.p,x.dn.p,f.p,x.di.p,x.ba.p].Nodup
  rw [e];exact h.nd
def Kp.setS (h:Kp A H x) {f:Di} (e:f.p=x.di.p) (b:L2.But x.di.p H H') (hf:Dn A H' f.p f.dx f.l x.room f.n f.v (srt (My.up f.v f.C))):Kp A H' { x with di:=f }:=by
 have a:=h.ap
 have q:=h.di.o
 refine ⟨?_,h.cm.but b q a.c6,h.wn.but b q a.w6,h.up.but b q a.u6,h.dn.but b q a.d6,h.wi.but b q a.i6,hf,h.ba.but b q (aL a.s7),?_⟩
 ·show H' x.k=some (.ins A.cD x.dk (kf _ _ _ _ _ _ _ _ (.ref f.p) _))
  rw [e];exact b _ _ h.o a.k6
 ·show [x.k,x.cm.p,x.wn.p,x.up.p,x.dn.p,x.wi.p,f.p,x.ba.p].Nodup
  rw [e];exact h.nd
def Kp.setB (h:Kp A H x) {f:Ba} (e:f.p=x.ba.p) (b:L2.But x.ba.p H H') (hf:Bn A H' f.p f.dx f.l x.span f.q):Kp A H' { x with ba:=f }:=by
 have a:=h.ap
 have q:=h.ba.o
 refine ⟨?_,h.cm.but b q a.c7,h.wn.but b q a.w7,h.up.but b q a.u7,h.dn.but b q a.d7,h.wi.but b q a.i7,h.di.but b q a.s7,hf,?_⟩
 ·show H' x.k=some (.ins A.cD x.dk (kf _ _ _ _ _ _ _ _ _ (.ref f.p)))
  rw [e];exact b _ _ h.o a.k7
 ·show [x.k,x.cm.p,x.wn.p,x.up.p,x.dn.p,x.wi.p,x.di.p,f.p].Nodup
  rw [e];exact h.nd
end
open MK
def abW (r e:Int) (bs:List WN.Box):(jg r e bs).length<=bs.length:=by
 unfold jg
 rw [sy]
 have h1:=WN.Lp r (bs.filter fun b=>decide (e<b.l)).reverse
 rw [sy] at h1
 exact fH h1 (xR _ _)
def jM {r T ov un:Int} {ls:RG.Ls} {n:Nat} (g:RG.Good r T ov un ls) (h:T<=1000000000000*n) (hn:n<=63):ls.length<=60/\RG.val ls<2 ^ 400:=by
 have e:(2:Int) ^ 60=1152921504606846976:=by decide
 refine ⟨g.len (by rw [e];omega),?_⟩
 have:=g.vl
 have e:(1152921504606846976:Nat)<2 ^ 400:=by decide
 omega
def KS.pts (x:KS):List Addr:=[x.cm.p,x.wn.p,x.up.p,x.dn.p,x.wi.p,x.di.p,x.ba.p]
structure Pp (A:Ad) (H:Hp) (x:KS):Prop where
 cm:qC A H x.room x.cm
 wn:qC A H x.room x.wn
 up:RnX A H x.up.p x.up.x
 dn:RnX A H x.dn.p x.dn.x
 wi:Wn A H x.wi.p x.wi.dx x.wi.l x.room x.reach x.wi.c x.wi.ps
 di:Dn A H x.di.p x.di.dx x.di.l x.room x.di.n x.di.v (srt (My.up x.di.v x.di.C))
 ba:Bn A H x.ba.p x.ba.dx x.ba.l x.span x.ba.q
 nd:x.pts.Nodup
def Kp.pp {A:Ad} {H:Hp} {x:KS} (h:Kp A H x):Pp A H x:=⟨h.cm,h.wn,h.up,h.dn,h.wi,h.di,h.ba,(nO.mp h.nd).2⟩
def Kp.nk {A:Ad} {H:Hp} {x:KS} (h:Kp A H x):x.k∉x.pts:=(nO.mp h.nd).1
section
variable {A:Ad} {H H':Hp} {x:KS}
def Pp.kp (h:Pp A H x) (o:H x.k=some (.ins A.cD x.dk (kf (.int x.room) (.int x.reach) (.int x.span) (.ref x.cm.p) (.ref x.wn.p) (.ref x.up.p) (.ref x.dn.p) (.ref x.wi.p) (.ref x.di.p) (.ref x.ba.p)))) (n:x.k∉x.pts):Kp A H x :=
 ⟨o,h.cm,h.wn,h.up,h.dn,h.wi,h.di,h.ba,nO.mpr ⟨n,h.nd⟩⟩
def Pp.same (h:Pp A H x) (s:Same H H'):Pp A H' x:=⟨h.cm.same s,h.wn.same s,h.up.same s,h.dn.same s,h.wi.same s,h.di.same s,h.ba.same s,h.nd⟩
def Pp.but {q C e:Addr} {fs:List (Str × V)} (h:Pp A H x) (b:L2.But q H H') (hq:H q=some (.ins C e fs)) (n:q∉x.pts):Pp A H' x:=by
 unfold KS.pts at n
 simp only [cC,qb,or_false,not_or] at n
 obtain ⟨n1,n2,n3,n4,n5,n6,n7⟩:=n
 exact ⟨h.cm.but b hq (aL n1),h.wn.but b hq (aL n2),h.up.but b hq (aL n3),h.dn.but b hq (aL n4),h.wi.but b hq (aL n5),h.di.but b hq (aL n6),h.ba.but b hq (aL n7),h.nd⟩
/-- the seven are seven -/
structure Ap7 (x:KS):Prop where
 c:x.cm.p≠x.wn.p/\x.cm.p≠x.up.p/\x.cm.p≠x.dn.p/\x.cm.p≠x.wi.p/\x.cm.p≠x.di.p/\x.cm.p≠x.ba.p
 w:x.wn.p≠x.up.p/\x.wn.p≠x.dn.p/\x.wn.p≠x.wi.p/\x.wn.p≠x.di.p/\x.wn.p≠x.ba.p
 u:x.up.p≠x.dn.p/\x.up.p≠x.wi.p/\x.up.p≠x.di.p/\x.up.p≠x.ba.p
 d:x.dn.p≠x.wi.p/\x.dn.p≠x.di.p/\x.dn.p≠x.ba.p
 i:x.wi.p≠x.di.p/\x.wi.p≠x.ba.p
 s:x.di.p≠x.ba.p
def Pp.ap (h:Pp A H x):Ap7 x:=by
 have n:=h.nd
 unfold KS.pts at n
 simp only [nO,cC,qb,or_false,not_or,Fw,and_true,not_false_eq_true] at n
 obtain ⟨c,w,u,d,i,s⟩:=n
 exact ⟨c,w,u,d,i,s⟩
def Pp.setC (h:Pp A H x) {f:Fq} (e:f.p=x.cm.p) (b:L2.But x.cm.p H H') (hf:qC A H' x.room f):Pp A H' { x with cm:=f }:=by
 have a:=h.ap
 have q:=h.cm.o
 obtain ⟨a1,a2,a3,a4,a5,a6⟩:=a.c
 exact ⟨hf,h.wn.but b q (aL a1),h.up.but b q (aL a2),h.dn.but b q (aL a3),h.wi.but b q (aL a4),h.di.but b q (aL a5),h.ba.but b q (aL a6),by
  show [f.p,x.wn.p,x.up.p,x.dn.p,x.wi.p,x.di.p,x.ba.p].Nodup
  rw [e];exact h.nd⟩
def Pp.setW (h:Pp A H x) {f:Fq} (e:f.p=x.wn.p) (b:L2.But x.wn.p H H') (hf:qC A H' x.room f):Pp A H' { x with wn:=f }:=by
 have a:=h.ap
 have q:=h.wn.o
 obtain ⟨a2,a3,a4,a5,a6⟩:=a.w
 exact ⟨h.cm.but b q a.c.1,hf,h.up.but b q (aL a2),h.dn.but b q (aL a3),h.wi.but b q (aL a4),h.di.but b q (aL a5),h.ba.but b q (aL a6),by
  show [x.cm.p,f.p,x.up.p,x.dn.p,x.wi.p,x.di.p,x.ba.p].Nodup
  rw [e];exact h.nd⟩
def Pp.setU (h:Pp A H x) {f:Ru} (e:f.p=x.up.p) (b:L2.But x.up.p H H') (hf:RnX A H' f.p f.x):Pp A H' { x with up:=f }:=by
 have a:=h.ap
 have q:=h.up.o
 obtain ⟨a3,a4,a5,a6⟩:=a.u
 exact ⟨h.cm.but b q a.c.2.1,h.wn.but b q a.w.1,hf,h.dn.but b q (aL a3),h.wi.but b q (aL a4),h.di.but b q (aL a5),h.ba.but b q (aL a6),by
  show [x.cm.p,x.wn.p,f.p,x.dn.p,x.wi.p,x.di.p,x.ba.p].Nodup
  rw [e];exact h.nd⟩
def Pp.setD (h:Pp A H x) {f:Ru} (e:f.p=x.dn.p) (b:L2.But x.dn.p H H') (hf:RnX A H' f.p f.x):Pp A H' { x with dn:=f }:=by
 have a:=h.ap
 have q:=h.dn.o
 obtain ⟨a4,a5,a6⟩:=a.d
 exact ⟨h.cm.but b q a.c.2.2.1,h.wn.but b q a.w.2.1,h.up.but b q a.u.1,hf,h.wi.but b q (aL a4),h.di.but b q (aL a5),h.ba.but b q (aL a6),by
  show [x.cm.p,x.wn.p,x.up.p,f.p,x.wi.p,x.di.p,x.ba.p].Nodup
  rw [e];exact h.nd⟩
def Pp.setI (h:Pp A H x) {f:Wi} (e:f.p=x.wi.p) (b:L2.But x.wi.p H H') (hf:Wn A H' f.p f.dx f.l x.room x.reach f.c f.ps):Pp A H' { x with wi:=f }:=by
 have a:=h.ap
 have q:=h.wi.o
 exact ⟨h.cm.but b q a.c.2.2.2.1,h.wn.but b q a.w.2.2.1,h.up.but b q a.u.2.1,h.dn.but b q a.d.1,hf,h.di.but b q (aL a.i.1),h.ba.but b q (aL a.i.2),by
  show [x.cm.p,x.wn.p,x.up.p,x.dn.p,f.p,x.di.p,x.ba.p].Nodup
  rw [e];exact h.nd⟩
def Pp.setS (h:Pp A H x) {f:Di} (e:f.p=x.di.p) (b:L2.But x.di.p H H') (hf:Dn A H' f.p f.dx f.l x.room f.n f.v (srt (My.up f.v f.C))):Pp A H' { x with di:=f }:=by
 have a:=h.ap
 have q:=h.di.o
 exact ⟨h.cm.but b q a.c.2.2.2.2.1,h.wn.but b q a.w.2.2.2.1,h.up.but b q a.u.2.2.1,h.dn.but b q a.d.2.1,h.wi.but b q a.i.1,hf,h.ba.but b q (aL a.s),by
  show [x.cm.p,x.wn.p,x.up.p,x.dn.p,x.wi.p,f.p,x.ba.p].Nodup
  rw [e];exact h.nd⟩
def Pp.setB (h:Pp A H x) {f:Ba} (e:f.p=x.ba.p) (b:L2.But x.ba.p H H') (hf:Bn A H' f.p f.dx f.l x.span f.q):Pp A H' { x with ba:=f }:=by
 have a:=h.ap
 have q:=h.ba.o
 exact ⟨h.cm.but b q a.c.2.2.2.2.2,h.wn.but b q a.w.2.2.2.2,h.up.but b q a.u.2.2.2,h.dn.but b q a.d.2.2,h.wi.but b q a.i.2,h.di.but b q a.s,hf,by
  show [x.cm.p,x.wn.p,x.up.p,x.dn.p,x.wi.p,x.di.p,f.p].Nodup
  rw [e];exact h.nd⟩
/-- nothing but these parts has changed -/
structure Far (A:Ad) (ps:List Addr) (H H':Hp):Prop where
 pb:∀ b o,H b=some o->b∉ps->H' b=some o
 py:∀ y:KS,Pp A H y->(∀ b∈y.pts,b∉ps)->Pp A H' y
def Far.of {ps:List Addr} {p C e:Addr} {fs:List (Str × V)} (m:p∈ps) (hq:H p=some (.ins C e fs)) (b:L2.But p H H'):Far A ps H H' :=
 ⟨fun c o e n=>b c o e fun z=>n (by rw [z];exact m),fun y h d=>h.but b hq fun z=>d p z m⟩
def Far.trans {ps:List Addr} {H1:Hp} (a:Far A ps H H1) (b:Far A ps H1 H'):Far A ps H H':=⟨fun c o e n=>b.pb c o (a.pb c o e n) n,fun y h d=>b.py y (a.py y h d) d⟩
end
def FS (room:Nat) (th w:Int) (f g:Fq):Prop:=∃ cut,gJ room (put f.c th (low f.c th+w)) g.c cut/\g.t=f.t+w/\g.l=f.l+cut
structure RS (th w:Int) (f g:Rs):Prop where
 r:g.r=f.r
 tt:g.tt=f.tt+w
 mi:g.mi=lo2 f.mi (some th)
 ma:g.ma=hi2 f.ma (some th)
 st:RG.Stl f.r 0 f.tn f.ov f.un (RG.fj th f.ls w.toNat) g.ls g.tn g.ov g.un
def WS (room:Nat) (reach c:Int) (bs:List WN.Box) (g:Wi):Prop:=g.c=c/\bx g.ps=jg room (c-reach) bs
def DS (room:Nat) (th:Int) (f g:Di):Prop:=g.n=f.n+1/\g.C=came f.C th/\Lvl room f.v g.v (came f.C th)
structure SB (x x':KS):Prop where
 room:x'.room=x.room
 reach:x'.reach=x.reach
 span:x'.span=x.span
 pts:x'.pts=x.pts
 k:x'.k=x.k
 dk:x'.dk=x.dk
structure SP (th w:Int) (x x':KS):Prop where
 sb:SB x x'
 cm:FS x.room th w x.cm x'.cm
 wn:x'.wn=x.wn
 up:RS th w x.up.x x'.up.x
 dn:x'.dn=x.dn
 wi:WS x.room x.reach (x.wi.c+1) (bx x.wi.ps++[⟨x.wi.c+1,x.wi.c+1,w⟩]) x'.wi
 di:DS x.room th x.di x'.di
 ba:x'.ba.q=if th<x.span then addQ x.ba.q (pwQ th w) else x.ba.q
structure ST (th w:Int) (x x':KS):Prop where
 sb:SB x x'
 cm:x'.cm=x.cm
 wn:FS x.room th w x.wn x'.wn
 up:x'.up=x.up
 dn:RS th w x.dn.x x'.dn.x
 wi:WS x.room x.reach (x.wi.c+1) (bx x.wi.ps) x'.wi
 di:x'.di=x.di
 ba:x'.ba.q=if th<x.span then addQ x.ba.q (pwQ th (-w)) else x.ba.q
structure SI (w:Int) (x x':KS):Prop where
 sb:SB x x'
 cm:x'.cm=x.cm
 wn:x'.wn=x.wn
 up:x'.up=x.up
 dn:x'.dn=x.dn
 wi:WS x.room x.reach (x.wi.c+w) (bx x.wi.ps) x'.wi
 di:x'.di=x.di
 ba:x'.ba=x.ba
/-- the same data -/
structure EF (f g:Fq):Prop where
 t:f.t=g.t
 l:f.l=g.l
 c:f.c=g.c
structure ER (f g:Rs):Prop where
 r:f.r=g.r
 tt:f.tt=g.tt
 ov:f.ov=g.ov
 un:f.un=g.un
 tn:f.tn=g.tn
 mi:f.mi=g.mi
 ma:f.ma=g.ma
 ls:f.ls=g.ls
structure EW (f g:Wi):Prop where
 c:f.c=g.c
 b:bx f.ps=bx g.ps
structure ED (f g:Di):Prop where
 n:f.n=g.n
 v:f.v=g.v
 C:f.C=g.C
structure Eqp (x y:KS):Prop where
 room:x.room=y.room
 reach:x.reach=y.reach
 span:x.span=y.span
 cm:EF x.cm y.cm
 wn:EF x.wn y.wn
 up:ER x.up.x y.up.x
 dn:ER x.dn.x y.dn.x
 wi:EW x.wi y.wi
 di:ED x.di y.di
 ba:x.ba.q=y.ba.q
def FS.eq {room:Nat} {th w:Int} {f g f' g':Fq} (a:FS room th w f g) (b:FS room th w f' g') (e:EF f f'):EF g g':=by
 obtain ⟨c1,a1,a2,a3⟩:=a
 obtain ⟨c2,b1,b2,b3⟩:=b
 rw [e.c] at a1
 have u:=a1.uniq b1
 exact ⟨by rw [a2,b2,e.t],by rw [a3,b3,e.l,u.2],u.1⟩
def RS.eq {th w:Int} {f g f' g':Rs} (a:RS th w f g) (b:RS th w f' g') (e:ER f f'):ER g g':=by
 have s:=a.st
 rw [e.r,e.tn,e.ov,e.un,e.ls] at s
 obtain ⟨u1,u2,u3,u4⟩:=s.uniq b.st
 exact ⟨by rw [a.r,b.r,e.r],by rw [a.tt,b.tt,e.tt],u3.symm,u4.symm,u2.symm,by rw [a.mi,b.mi,e.mi],by rw [a.ma,b.ma,e.ma],u1.symm⟩
def DS.eq {room:Nat} {th:Int} {f g f' g':Di} (a:DS room th f g) (b:DS room th f' g') (e:ED f f'):ED g g':=by
 obtain ⟨a1,a2,a3⟩:=a
 obtain ⟨b1,b2,b3⟩:=b
 rw [e.v,e.C] at a3
 exact ⟨by rw [a1,b1,e.n],a3.uniq b3,by rw [a2,b2,e.C]⟩
def Eqp.put {th w:Int} {x y x' y':KS} (e:Eqp x y) (a:SP th w x x') (b:SP th w y y'):Eqp x' y':=by
 have c:=a.cm
 have d:=a.di
 rw [e.room] at c d
 exact ⟨by rw [a.sb.room,b.sb.room,e.room],by rw [a.sb.reach,b.sb.reach,e.reach],by rw [a.sb.span,b.sb.span,e.span],c.eq b.cm e.cm,by rw [a.wn,b.wn];exact e.wn,a.up.eq b.up e.up,by rw [a.dn,b.dn];exact e.dn,
  ⟨by rw [a.wi.1,b.wi.1,e.wi.c],by rw [a.wi.2,b.wi.2,e.wi.c,e.wi.b,e.room,e.reach]⟩,d.eq b.di e.di,by rw [a.ba,b.ba,e.span,e.ba]⟩
def Eqp.take {th w:Int} {x y x' y':KS} (e:Eqp x y) (a:ST th w x x') (b:ST th w y y'):Eqp x' y':=by
 have c:=a.wn
 rw [e.room] at c
 exact ⟨by rw [a.sb.room,b.sb.room,e.room],by rw [a.sb.reach,b.sb.reach,e.reach],by rw [a.sb.span,b.sb.span,e.span],by rw [a.cm,b.cm];exact e.cm,c.eq b.wn e.wn,by rw [a.up,b.up];exact e.up,a.dn.eq b.dn e.dn,
  ⟨by rw [a.wi.1,b.wi.1,e.wi.c],by rw [a.wi.2,b.wi.2,e.wi.c,e.wi.b,e.room,e.reach]⟩,by rw [a.di,b.di];exact e.di,by rw [a.ba,b.ba,e.span,e.ba]⟩
def Eqp.idle {w:Int} {x y x' y':KS} (e:Eqp x y) (a:SI w x x') (b:SI w y y'):Eqp x' y' :=
 ⟨by rw [a.sb.room,b.sb.room,e.room],by rw [a.sb.reach,b.sb.reach,e.reach],by rw [a.sb.span,b.sb.span,e.span],by rw [a.cm,b.cm];exact e.cm,by rw [a.wn,b.wn];exact e.wn,by rw [a.up,b.up];exact e.up,by rw [a.dn,b.dn];exact e.dn,
  ⟨by rw [a.wi.1,b.wi.1,e.wi.c],by rw [a.wi.2,b.wi.2,e.wi.c,e.wi.b,e.room,e.reach]⟩,by rw [a.di,b.di];exact e.di,by rw [a.ba,b.ba,e.ba]⟩
def abX {room:Int}:∀ {ls:RG.Ls} (h:Nat) (tn ov un:Int),(∀ l∈ls,(l.length:Int)<=room)->RG.Stl room h tn ov un ls ls tn ov un
 | [],h,tn,ov,un,_=>.nil h tn ov un
 | l::ls,h,tn,ov,un,hs=>.keep (hs l eF) (abX (h+1) tn ov un fun k m=>hs k (eU _ m))
def adl {room:Nat} {c b:Tab} {cut:Int} (h:gJ room c b cut):b.length<=c.length:=by
 unfold gJ at h
 split at h
 ·rw [h.2];exact aX _
 ·rw [h.2];unfold cQ;rw [aZ];exact xR _ _
structure Gf (room:Nat) (f:Fq) (n:Nat):Prop where
 ok:∃ W,Ok room f.c f.t f.l W
 t:f.t<=1000000000000*n
 k:f.c.length<=n
structure Gr (room:Nat) (f:Rs) (n:Nat):Prop where
 r:f.r=room
 g:RG.Good f.r f.tt f.ov f.un f.ls
 t:f.tt<=1000000000000*n
 sm:room<=30\/∀ l∈f.ls,l.length<=n
structure Kh (x:KS) (n:Nat):Prop where
 r2:2<=x.room
 r64:x.room<=64
 rr:x.room<=30\/x.room=64
 cm:Gf x.room x.cm n
 wn:Gf x.room x.wn n
 up:Gr x.room x.up.x n
 dn:Gr x.room x.dn.x n
 wl:x.wi.ps.length<=n
 dl:CW x.room x.di.v x.di.C
 dc:x.di.C.length<=n
 few:n<=63
def Gf.add {room:Nat} {f g:Fq} {n:Nat} {th w:Int} (h:Gf room f n) (s:FS room th w f g) (w1:1<=w) (w2:w<=1000000000000):Gf room g (n+1):=by
 obtain ⟨cut,a,b,c⟩:=s
 obtain ⟨W,ok⟩:=h.ok
 have:=h.t
 exact ⟨⟨_,by rw [b,c];exact (ok.add (k:=th) w1).fit a⟩,by rw [b];omega,by have:=adl a;have:=U3 f.c th (low f.c th+w);have:=h.k;omega⟩
def Gf.next {room:Nat} {f:Fq} {n:Nat} (h:Gf room f n):Gf room f (n+1):=⟨h.ok,by have:=h.t;omega,Gs h.k⟩
def Gr.add {room:Nat} {f g:Rs} {n:Nat} {th w:Int} (h:Gr room f n) (s:RS th w f g) (w1:1<=w) (w2:w<=1000000000000) (rr:room<=30\/room=64) (hn:n<63):Gr room g (n+1):=by
 have:=h.t
 obtain ⟨g',_⟩:=h.g.add w1 s.st
 refine ⟨by rw [s.r,h.r],by rw [s.r,s.tt];exact g',by rw [s.tt];omega,rr.imp id fun z=>?_⟩
 have sl:=h.sm.resolve_left (by omega)
 have wl:=RG.Bs th w.toNat f.ls sl
 have hr:=h.r
 obtain ⟨e,_⟩:=(abX 0 f.tn f.ov f.un fun l m=>by have:=wl l m;omega).uniq s.st
 rw [e];exact wl
def Gr.next {room:Nat} {f:Rs} {n:Nat} (h:Gr room f n):Gr room f (n+1):=⟨h.r,h.g,by have:=h.t;omega,h.sm.imp id fun z l m=>Gs (z l m)⟩
def Gr.le62 {room:Nat} {f:Rs} {n:Nat} (h:Gr room f n) (rr:room<=30\/room=64) (hn:n<63):(∀ l∈f.ls,l.length<=62)/\((∀ l∈f.ls,l.length<=30)\/∀ l∈f.ls,(l.length:Int)+1<=f.r):=by
 have e:=h.r
 rcases rr with z | z
 ·exact ⟨fun l m=>by have:=h.g.sm l m;omega,.inl fun l m=>by have:=h.g.sm l m;omega⟩
 ·have sl:=h.sm.resolve_left (by omega)
  exact ⟨fun l m=>by have:=sl l m;omega,.inr fun l m=>by have:=sl l m;omega⟩
def WS.len {room:Nat} {reach c:Int} {bs:List WN.Box} {g:Wi} (h:WS room reach c bs g):g.ps.length<=bs.length:=by
 have h1:=abW room (c-reach) bs
 rw [<- h.2,lW] at h1
 exact h1
def Kh.put {x x':KS} {n:Nat} {th w:Int} (h:Kh x n) (hn:n<63) (s:SP th w x x') (w1:1<=w) (w2:w<=1000000000000):Kh x' (n+1):=by
 have r:=s.sb.room
 refine ⟨by rw [r];exact h.r2,by rw [r];exact h.r64,by rw [r];exact h.rr,by rw [r];exact h.cm.add s.cm w1 w2,by rw [r,s.wn];exact h.wn.next,by rw [r];exact h.up.add s.up w1 w2 h.rr hn,by rw [r,s.dn];exact h.dn.next,?_,?_,?_,hn⟩
 ·have:=s.wi.len
  rw [dR,lW] at this
  have l1:=h.wl
  exact fH this (by show x.wi.ps.length+1<=n+1;omega)
 ·rw [r,s.di.2.1];exact h.dl.lvl s.di.2.2 fun w=>adb
 ·rw [s.di.2.1];have:=(abQ x.di.C th).2;have:=h.dc;omega
def Kh.take {x x':KS} {n:Nat} {th w:Int} (h:Kh x n) (hn:n<63) (s:ST th w x x') (w1:1<=w) (w2:w<=1000000000000):Kh x' (n+1):=by
 have r:=s.sb.room
 refine ⟨by rw [r];exact h.r2,by rw [r];exact h.r64,by rw [r];exact h.rr,by rw [r,s.cm];exact h.cm.next,by rw [r];exact h.wn.add s.wn w1 w2,by rw [r,s.up];exact h.up.next,by rw [r];exact h.dn.add s.dn w1 w2 h.rr hn,?_,by rw [r,s.di];exact h.dl,by rw [s.di];have:=h.dc;omega,hn⟩
 have:=s.wi.len
 rw [lW] at this
 have l1:=h.wl
 omega
def Kh.idle {x x':KS} {n:Nat} {w:Int} (h:Kh x n) (hn:n<63) (s:SI w x x'):Kh x' (n+1):=by
 have r:=s.sb.room
 refine ⟨by rw [r];exact h.r2,by rw [r];exact h.r64,by rw [r];exact h.rr,by rw [r,s.cm];exact h.cm.next,by rw [r,s.wn];exact h.wn.next,by rw [r,s.up];exact h.up.next,by rw [r,s.dn];exact h.dn.next,?_,by rw [r,s.di];exact h.dl,by rw [s.di];have:=h.dc;omega,hn⟩
 have:=s.wi.len
 rw [lW] at this
 have l1:=h.wl
 omega
def R0 (room:Nat):Rs:=⟨0,0,[],room,0,0,0,0,none,none,[]⟩
/-- the data of a keepsake to which nothing came -/
def K0 (room:Nat) (reach span:Int):KS:=⟨0,0,room,reach,span,⟨0,0,0,0,0,[]⟩,⟨0,0,0,0,0,[]⟩,⟨0,R0 room⟩,⟨0,R0 room⟩,⟨0,0,0,0,[]⟩,⟨0,0,0,0,0,[]⟩,⟨0,0,0,Vr⟩⟩
def Kh.eq {x y:KS} {n:Nat} (h:Kh y n) (e:Eqp x y):Kh x n:=by
 have gf:∀ {f g:Fq},EF f g->Gf y.room g n->Gf x.room f n:=fun {f g} e1 g1=>⟨by rw [e.room,e1.t,e1.l,e1.c];exact g1.ok,by rw [e1.t];exact g1.t,by rw [e1.c];exact g1.k⟩
 have gr:∀ {f g:Rs},ER f g->Gr y.room g n->Gr x.room f n:=fun {f g} e1 g1=>⟨by rw [e.room,e1.r];exact g1.r,by rw [e1.r,e1.tt,e1.ov,e1.un,e1.ls];exact g1.g,by rw [e1.tt];exact g1.t,by rw [e.room,e1.ls];exact g1.sm⟩
 refine ⟨by rw [e.room];exact h.r2,by rw [e.room];exact h.r64,by rw [e.room];exact h.rr,gf e.cm h.cm,gf e.wn h.wn,gr e.up h.up,gr e.dn h.dn,?_,by rw [e.room,e.di.v,e.di.C];exact h.dl,by rw [e.di.C];exact h.dc,h.few⟩
 rw [<- lW,e.wi.b,lW];exact h.wl
def kh0 {room:Nat} (reach span:Int) (r2:2<=room) (r64:room<=64) (ev:room % 2=0) (rr:room<=30\/room=64):Kh (K0 room reach span) 0:=by
 have ok0:Gf room ⟨0,0,0,0,0,[]⟩ 0:=⟨⟨_,Ok.empty room⟩,cT _,aX _⟩
 have g0:RG.Good (room:Int) 0 0 0 []:=RG.Good.new (by omega) (by omega) (by omega)
 exact ⟨r2,r64,rr,ok0,ok0,⟨rfl,g0,cT _,.inr fun l m=>(nomatch m)⟩,⟨rfl,g0,cT _,.inr fun l m=>(nomatch m)⟩,aX _,⟨cT _,by show ((0:Nat):Int)<=room;omega,fun w a b=>absurd a (by have b2:w<0:=b;omega)⟩,aX _,by decide⟩
open MK
def agw (A:Ad):Sp:=fun vs H Q _=>∃ (x:KS) (n:Nat) (th w:Int),vs=[.ref x.k,.int th,.int w]/\Kp A H x/\Kh x n/\n<63/\0<=th/\th<1152921504606846976/\1<=w/\w<=1000000000000 /\
 ∀ (x':KS) (H':Hp),Kp A H' x'->SP th w x x'->Far A x.pts H H'->Q .non H'
def ok'29 (T:Tx K mg A):cI P w K mg base CX0 6 A.Qx A.lN ["self","thing","weight"] (agw A):=by
 refine T.F'29.ok yR (fun vs H Q E h=>?_) (fun cdv B outer s H vs Q E hr h=>?_)
 ·obtain ⟨x,n,th,w,rfl,_⟩:=h
  rfl
 ·obtain ⟨x,n,th,w,rfl,hK,hG,hn,th0,th1,w1,w2,q⟩:=h
  have e64:(2:Int) ^ 64=18446744073709551616:=by decide
  have r2:=hG.r2
  have r64:=hG.r64
  have lu:=jM hG.up.g hG.up.t hG.few
  have su:=hG.up.g.small
  have hrm:=hG.up.r
  obtain ⟨W,okf⟩:=hG.cm.ok
  refine ⟨_,(aq (aY (eN (aJ (pv 0) rfl) T.gO T.rE (ad0 T) (hr.mono (by decide)) T.b'24 .nil aV (aj (pv 1) (aj (pv 2) au))))
   (aq (aY (eN (aJ (pv 0) rfl) T.cG T.yF (ok'8 T) (hr.mono (by decide)) T.b'8 .nil aV (aj (pv 1) (aj (pv 2) au))))
   (aq (aY (eN (aJ (pv 0) rfl) T.fO T.Jf (ok'12 T) (hr.mono (by decide)) T.b'12 .nil aV (aj (pv 2) au)))
   (aq (aY (eN (aJ (pv 0) rfl) T.gM T.Ck (ok'19 T) (hr.mono (by decide)) T.b'19 .nil aV (aj (pv 1) au)))
   (aF (gG (cg Ku (pv 1) (aJ (pv 0) rfl) (cP _)) (aF (aY (eN (aJ (pv 0) rfl) T.rD T.Dq (ok'27 T) (hr.mono (by decide)) T.b'27 .nil aV (aj (pv 1) (aj (pv 2) au))))) eY)))))),?_⟩
  refine ⟨_,rfl,rdF hK.o T.cH T.En (Jz ..) ⟨x.cm.p,x.cm.dx,_,rfl,hK.cm.o,abR _ _ _ _ (by decide +kernel) (by decide +kernel) (by decide +kernel) (by decide +kernel),_,rfl,_,rfl,x.cm.p,x.cm.dx,x.cm.d,x.room,x.cm.t,x.cm.l,th,w,x.cm.c,rfl,hK.cm.o,hK.cm.d,okf.nd,okf.pos,w1,by have:=hG.cm.k;omega,fun d1 c1 cut H1 hd1 ft o1 e1 b1=>?_⟩⟩
  have P1:=hK.pp.setC (f:=⟨x.cm.p,x.cm.dx,d1,x.cm.t+w,x.cm.l+cut,c1⟩) rfl b1 ⟨o1,e1⟩
  have f1:Far A x.pts H H1:=Far.of (by simp [KS.pts]) hK.cm.o b1
  refine ⟨_,rfl,rdF (f1.pb _ _ hK.o hK.nk) T.cH T.Ep (abU ..) ⟨x.up.p,x.up.x.dx,_,rfl,P1.up.o,rgN (by decide +kernel),_,rfl,_,rfl,x.up.p,x.up.x.dx,x.up.x.a,x.up.x.bs,x.up.x.r,x.up.x.tt,x.up.x.ov,x.up.x.un,x.up.x.tn,th,w,x.up.x.mi,x.up.x.ma,x.up.x.ls,rfl,P1.up,hG.up.g.r2,hG.up.g.r64,by omega,by rw [e64];omega,by omega,(hG.up.le62 hG.rr hn).1,(hG.up.le62 hG.rr hn).2,lu.2,fun a' bs' out tn' ov' un' H2 st rn b2 na2 nb2=>?_⟩⟩
  have P2:=P1.setU (f:=⟨x.up.p,⟨x.up.x.dx,a',bs',x.up.x.r,x.up.x.tt+w,ov',un',tn',_,_,out⟩⟩) rfl b2 rn
  have f2:=f1.trans (Far.of (A:=A) (ps:=x.pts) (by simp [KS.pts]) P1.up.o b2)
  refine ⟨_,rfl,rdF (f2.pb _ _ hK.o hK.nk) T.cH T.yC (oJ ..) ⟨x.wi.p,x.wi.dx,_,rfl,P2.wi.o,Mx _ _ _ _ (by decide +kernel) (by decide +kernel) (by decide +kernel) (by decide +kernel),_,rfl,x.wi.p,x.wi.dx,x.wi.l,x.room,x.reach,x.wi.c,w,x.wi.ps,rfl,P2.wi,by have:=hG.wl;omega,by omega,by omega,fun l3 ps3 H3 eb3 wn3 b3 nl3=>?_⟩⟩
  have P3:=P2.setI (f:=⟨x.wi.p,x.wi.dx,l3,x.wi.c+1,ps3⟩) rfl b3 wn3
  have f3:=f2.trans (Far.of (A:=A) (ps:=x.pts) (by simp [KS.pts]) P2.wi.o b3)
  refine ⟨_,rfl,rdF (f3.pb _ _ hK.o hK.nk) T.cH T.yD (vI ..) ⟨x.di.p,x.di.dx,_,rfl,P3.di.o,adY _ _ _ _ (by decide +kernel) (by decide +kernel) (by decide +kernel) (by decide +kernel),_,rfl,x.di.p,x.di.dx,x.di.l,x.room,x.di.n,x.di.v,th,x.di.C,rfl,P3.di,hG.dl,by have:=hG.dc;omega,by omega,by omega,fun l4 v4 H4 lv4 dn4 b4 nl4=>?_⟩⟩
  have P4:=P3.setS (f:=⟨x.di.p,x.di.dx,l4,x.di.n+1,v4,came x.di.C th⟩) rfl b4 dn4
  have f4:=f3.trans (Far.of (A:=A) (ps:=x.pts) (by simp [KS.pts]) P3.di.o b4)
  have o4:=f4.pb _ _ hK.o hK.nk
  refine ⟨_,rfl,_,rfl,rdF o4 T.cH T.Ci (zH ..) ⟨_,_,rfl,rfl,_,rfl,fX (fun hs=>?_) (fun hs=>?_)⟩⟩
  ·have hs:th<x.span:=of_decide_eq_true hs
   refine ⟨_,rfl,rdF o4 T.cH T.yE (lX ..) ⟨x.ba.p,x.ba.dx,_,rfl,P4.ba.o,ad1 _ _ (by decide +kernel) (by decide +kernel),_,rfl,_,rfl,x.ba.p,x.ba.dx,x.ba.l,x.span,th,w,x.ba.q,rfl,P4.ba,th0,by rw [e64];omega,fun l5 H5 bn5 b5 nl5=>?_⟩⟩
   have P5:=P4.setB (f:=⟨x.ba.p,x.ba.dx,l5,_⟩) rfl b5 bn5
   have f5:=f4.trans (Far.of (A:=A) (ps:=x.pts) (by simp [KS.pts]) P4.ba.o b5)
   exact q _ H5 (P5.kp (f5.pb _ _ hK.o hK.nk) hK.nk) ⟨⟨rfl,rfl,rfl,rfl,rfl,rfl⟩,⟨cut,ft,rfl,rfl⟩,rfl,⟨rfl,rfl,rfl,rfl,st⟩,rfl,⟨rfl,eb3⟩,⟨rfl,rfl,lv4⟩,(if_pos hs).symm⟩ f5
  ·have hs:¬ th<x.span:=fun z=>hs (decide_eq_true z)
   exact q _ H4 (P4.kp o4 hK.nk) ⟨⟨rfl,rfl,rfl,rfl,rfl,rfl⟩,⟨cut,ft,rfl,rfl⟩,rfl,⟨rfl,rfl,rfl,rfl,st⟩,rfl,⟨rfl,eb3⟩,⟨rfl,rfl,lv4⟩,(if_neg hs).symm⟩ f4
def adn (A:Ad):Sp:=fun vs H Q _=>∃ (x:KS) (n:Nat) (th w:Int),vs=[.ref x.k,.int th,.int w]/\Kp A H x/\Kh x n/\n<63/\0<=th/\th<1152921504606846976/\1<=w/\w<=1000000000000 /\
 ∀ (x':KS) (H':Hp),Kp A H' x'->ST th w x x'->Far A x.pts H H'->Q .non H'
def ok'30 (T:Tx K mg A):cI P w K mg base CX0 7 A.Qy A.jU ["self","thing","weight"] (adn A):=by
 refine T.F'30.ok xG (fun vs H Q E h=>?_) (fun cdv B outer s H vs Q E hr h=>?_)
 ·obtain ⟨x,n,th,w,rfl,_⟩:=h
  rfl
 ·obtain ⟨x,n,th,w,rfl,hK,hG,hn,th0,th1,w1,w2,q⟩:=h
  have e64:(2:Int) ^ 64=18446744073709551616:=by decide
  have r2:=hG.r2
  have r64:=hG.r64
  have lu:=jM hG.dn.g hG.dn.t hG.few
  have su:=hG.dn.g.small
  have hrm:=hG.dn.r
  obtain ⟨W,okf⟩:=hG.wn.ok
  refine ⟨_,(aq (aY (eN (aJ (pv 0) rfl) T.gO T.rE (ad0 T) (hr.mono (by decide)) T.b'24 .nil aV (aj (pv 1) (aj (pv 2) au))))
   (aq (aY (eN (aJ (pv 0) rfl) T.cG T.yF (ok'8 T) (hr.mono (by decide)) T.b'8 .nil aV (aj (pv 1) (aj (pv 2) au))))
   (aq (aY (eN (aJ (pv 0) rfl) T.fO T.sU (adW T) (hr.mono (by decide)) T.b'13 .nil aV (aj aC au)))
   (aF (gG (cg Ku (pv 1) (aJ (pv 0) rfl) (cP _)) (aF (aY (eN (aJ (pv 0) rfl) T.rD T.Cq (ok'28 T) (hr.mono (by decide)) T.b'28 .nil aV (aj (pv 1) (aj (pv 2) au))))) eY))))),?_⟩
  refine ⟨_,rfl,rdF hK.o T.cH T.Eo (JB ..) ⟨x.wn.p,x.wn.dx,_,rfl,hK.wn.o,abR _ _ _ _ (by decide +kernel) (by decide +kernel) (by decide +kernel) (by decide +kernel),_,rfl,_,rfl,x.wn.p,x.wn.dx,x.wn.d,x.room,x.wn.t,x.wn.l,th,w,x.wn.c,rfl,hK.wn.o,hK.wn.d,okf.nd,okf.pos,w1,by have:=hG.wn.k;omega,fun d1 c1 cut H1 hd1 ft o1 e1 b1=>?_⟩⟩
  have P1:=hK.pp.setW (f:=⟨x.wn.p,x.wn.dx,d1,x.wn.t+w,x.wn.l+cut,c1⟩) rfl b1 ⟨o1,e1⟩
  have f1:Far A x.pts H H1:=Far.of (by simp [KS.pts]) hK.wn.o b1
  refine ⟨_,rfl,rdF (f1.pb _ _ hK.o hK.nk) T.cH T.Er (JC ..) ⟨x.dn.p,x.dn.x.dx,_,rfl,P1.dn.o,rgN (by decide +kernel),_,rfl,_,rfl,x.dn.p,x.dn.x.dx,x.dn.x.a,x.dn.x.bs,x.dn.x.r,x.dn.x.tt,x.dn.x.ov,x.dn.x.un,x.dn.x.tn,th,w,x.dn.x.mi,x.dn.x.ma,x.dn.x.ls,rfl,P1.dn,hG.dn.g.r2,hG.dn.g.r64,by omega,by rw [e64];omega,by omega,(hG.dn.le62 hG.rr hn).1,(hG.dn.le62 hG.rr hn).2,lu.2,fun a' bs' out tn' ov' un' H2 st rn b2 na2 nb2=>?_⟩⟩
  have P2:=P1.setD (f:=⟨x.dn.p,⟨x.dn.x.dx,a',bs',x.dn.x.r,x.dn.x.tt+w,ov',un',tn',_,_,out⟩⟩) rfl b2 rn
  have f2:=f1.trans (Far.of (A:=A) (ps:=x.pts) (by simp [KS.pts]) P1.dn.o b2)
  refine ⟨_,rfl,rdF (f2.pb _ _ hK.o hK.nk) T.cH T.yC (oJ ..) ⟨x.wi.p,x.wi.dx,_,rfl,P2.wi.o,Mx _ _ _ _ (by decide +kernel) (by decide +kernel) (by decide +kernel) (by decide +kernel),x.wi.p,x.wi.dx,x.wi.l,x.room,x.reach,x.wi.c,1,x.wi.ps,rfl,P2.wi,by have:=hG.wl;omega,by omega,by omega,fun l3 ps3 H3 eb3 wn3 b3 nl3=>?_⟩⟩
  have P3:=P2.setI (f:=⟨x.wi.p,x.wi.dx,l3,x.wi.c+1,ps3⟩) rfl b3 wn3
  have f3:=f2.trans (Far.of (A:=A) (ps:=x.pts) (by simp [KS.pts]) P2.wi.o b3)
  have o3:=f3.pb _ _ hK.o hK.nk
  refine ⟨_,rfl,_,rfl,rdF o3 T.cH T.Ci (zH ..) ⟨_,_,rfl,rfl,_,rfl,fX (fun hs=>?_) (fun hs=>?_)⟩⟩
  ·have hs:th<x.span:=of_decide_eq_true hs
   refine ⟨_,rfl,rdF o3 T.cH T.yE (lX ..) ⟨x.ba.p,x.ba.dx,_,rfl,P3.ba.o,ad1 _ _ (by decide +kernel) (by decide +kernel),_,rfl,_,rfl,x.ba.p,x.ba.dx,x.ba.l,x.span,th,w,x.ba.q,rfl,P3.ba,th0,by rw [e64];omega,fun l5 H5 bn5 b5 nl5=>?_⟩⟩
   have P5:=P3.setB (f:=⟨x.ba.p,x.ba.dx,l5,_⟩) rfl b5 bn5
   have f5:=f3.trans (Far.of (A:=A) (ps:=x.pts) (by simp [KS.pts]) P3.ba.o b5)
   exact q _ H5 (P5.kp (f5.pb _ _ hK.o hK.nk) hK.nk) ⟨⟨rfl,rfl,rfl,rfl,rfl,rfl⟩,rfl,⟨cut,ft,rfl,rfl⟩,rfl,⟨rfl,rfl,rfl,rfl,st⟩,⟨rfl,eb3⟩,rfl,(if_pos hs).symm⟩ f5
  ·have hs:¬ th<x.span:=fun z=>hs (decide_eq_true z)
   exact q _ H3 (P3.kp o3 hK.nk) ⟨⟨rfl,rfl,rfl,rfl,rfl,rfl⟩,rfl,⟨cut,ft,rfl,rfl⟩,rfl,⟨rfl,rfl,rfl,rfl,st⟩,⟨rfl,eb3⟩,rfl,(if_neg hs).symm⟩ f3
def ado (A:Ad):Sp:=fun vs H Q _=>∃ (x:KS) (n:Nat) (w:Int),vs=[.ref x.k,.int w]/\Kp A H x/\Kh x n /\
 ∀ (x':KS) (H':Hp),Kp A H' x'->SI w x x'->Far A x.pts H H'->Q .non H'
def ok'31 (T:Tx K mg A):cI P w K mg base CX0 6 A.Qz A.jV ["self","many"] (ado A):=by
 refine T.F'31.ok xH (fun vs H Q E h=>?_) (fun cdv B outer s H vs Q E hr h=>?_)
 ·obtain ⟨x,n,w,rfl,_⟩:=h
  rfl
 ·obtain ⟨x,n,w,rfl,hK,hG,q⟩:=h
  have r2:=hG.r2
  have r64:=hG.r64
  have few:=hG.few
  refine ⟨_,(aF (aY (eN (aJ (pv 0) rfl) T.fO T.sU (adW T) (hr.mono (by decide)) T.b'13 .nil aV (aj (pv 1) au)))),?_⟩
  refine ⟨_,rfl,rdF hK.o T.cH T.yC (oJ ..) ⟨x.wi.p,x.wi.dx,_,rfl,hK.wi.o,Mx _ _ _ _ (by decide +kernel) (by decide +kernel) (by decide +kernel) (by decide +kernel),_,rfl,x.wi.p,x.wi.dx,x.wi.l,x.room,x.reach,x.wi.c,w,x.wi.ps,rfl,hK.wi,by have:=hG.wl;omega,by omega,by omega,fun l3 ps3 H3 eb3 wn3 b3 nl3=>?_⟩⟩
  have P3:=hK.pp.setI (f:=⟨x.wi.p,x.wi.dx,l3,x.wi.c+w,ps3⟩) rfl b3 wn3
  have f3:Far A x.pts H H3:=Far.of (by simp [KS.pts]) hK.wi.o b3
  exact q _ H3 (P3.kp (f3.pb _ _ hK.o hK.nk) hK.nk) ⟨⟨rfl,rfl,rfl,rfl,rfl,rfl⟩,rfl,rfl,rfl,rfl,⟨rfl,eb3⟩,rfl,rfl⟩ f3
open MK
def adp (A:Ad):Sp:=fun vs H Q _=>∃ (k dk:Addr) (room:Nat) (reach span:Int),vs=[.ref k,.int room,.int reach,.int span]/\H k=some (.ins A.cD dk [])/\2<=room/\room<=64/\room % 2=0 /\
 ∀ (x:KS) (H':Hp),Kp A H' x->Eqp x (K0 room reach span)->x.k=k->(∀ b∈x.pts,H b=none)->But k H H'->Q .non H'
def ok'32 (T:Tx K mg A):cI P w K mg base CX0 3 A.JX A.jW ["self","room","reach","span"] (adp A):=by
 refine T.F'32.ok xJ (fun vs H Q E h=>?_) (fun cdv B outer s H vs Q E hr h=>?_)
 ·obtain ⟨k,dk,room,reach,span,rfl,_⟩:=h
  rfl
 ·obtain ⟨k,dk,room,reach,span,rfl,hk,r2,r64,ev,q⟩:=h
  refine ⟨_,(aq (bK (pv 0) (pv 1) rfl)
   (aq (bK (pv 0) (pv 2) rfl)
   (aq (bK (pv 0) (pv 3) rfl)
   (aq (bK (pv 0) (mF T.adU (adZ T) (hr.mono (by decide)) rfl T.Cd T.b'20 .nil aV (aj (pv 1) au)) rfl)
   (aq (bK (pv 0) (mF T.adU (adZ T) (hr.mono (by decide)) rfl T.Cd T.b'20 .nil aV (aj (pv 1) au)) rfl)
   (aq (bK (pv 0) (mF T.adT (ok'7 T) (hr.mono (by decide)) rfl T.Vg T.b'7 .nil aV (aj (pv 1) au)) rfl)
   (aq (bK (pv 0) (mF T.adT (ok'7 T) (hr.mono (by decide)) rfl T.Vg T.b'7 .nil aV (aj (pv 1) au)) rfl)
   (aq (bK (pv 0) (mF T.mk'56 (ok'10 T) (hr.mono (by decide)) rfl T.abv T.b'10 .nil aV (aj (pv 1) (aj (pv 2) au))) rfl)
   (aq (bK (pv 0) (mF T.mk'57 (ok'16 T) (hr.mono (by decide)) rfl T.Tt T.b'16 .nil aV (aj (pv 1) au)) rfl)
   (aF (bK (pv 0) (mF T.mk'59 (ok'26 T) (hr.mono (by decide)) rfl T.Ww T.b'26 .nil aV (aj (pv 3) au)) rfl))))))))))),?_⟩
  refine ⟨_,rfl,_,rfl,k,_,dk,[],rfl,hk,T.cH,T.Mp,(by show 0<1000;decide),?_⟩
  refine ⟨_,rfl,_,rfl,k,_,dk,_,rfl,ak,T.cH,T.Mq,(by show 1<1000;decide),?_⟩
  refine ⟨_,rfl,_,rfl,k,_,dk,_,rfl,ak,T.cH,T.Ci,(by show 2<1000;decide),?_⟩
  rw [cY,cY]
  have b0:But k H (upd H k (.ins A.cD dk (aB "span" (.int span) (aB "reach" (.int reach) (aB "room" (.int room) []))))):=But.upd
  have o0:(upd H k (.ins A.cD dk (aB "span" (.int span) (aB "reach" (.int reach) (aB "room" (.int room) []))))) k=some (.ins A.cD dk (aB "span" (.int span) (aB "reach" (.int reach) (aB "room" (.int room) [])))):=ak
  generalize upd H k (.ins A.cD dk (aB "span" (.int span) (aB "reach" (.int reach) (aB "room" (.int room) []))))=G0 at b0 o0 ⊢
  refine ⟨_,rfl,fun p1 dx1 n1 m1 z1=>⟨p1,dx1,(room:Int),rfl,ak,fun d1 I1 hd1 e1 g1 bt1=>⟨rfl,?_⟩⟩⟩
  have s1:Same G0 I1:=fun b o e=>bt1 b o (by rw [aA (ao e n1),aA (ao e m1)];exact e) (ao e n1)
  have nk1:p1≠k:=aL (ao o0 n1)
  have ok1:=s1 _ _ o0
  refine ⟨_,rfl,k,_,dk,_,rfl,ok1,T.cH,T.En,(by show 3<1000;decide),?_⟩
  have u1:But k I1 (upd I1 k (.ins A.cD dk (aB "came" (.ref p1) (aB "span" (.int span) (aB "reach" (.int reach) (aB "room" (.int room) [])))))):=But.upd
  have F1:qC A I1 room ⟨p1,dx1,d1,0,0,[]⟩:=⟨e1,g1⟩
  replace F1:=F1.but u1 ok1 nk1
  have o1:(upd I1 k (.ins A.cD dk (aB "came" (.ref p1) (aB "span" (.int span) (aB "reach" (.int reach) (aB "room" (.int room) [])))))) k=some (.ins A.cD dk (aB "came" (.ref p1) (aB "span" (.int span) (aB "reach" (.int reach) (aB "room" (.int room) []))))):=ak
  have b1:But k H (upd I1 k (.ins A.cD dk (aB "came" (.ref p1) (aB "span" (.int span) (aB "reach" (.int reach) (aB "room" (.int room) [])))))):=(b0.trans (s1.but k)).trans u1
  have v1:H p1=none:=cN b0 n1 nk1
  generalize upd I1 k (.ins A.cD dk (aB "came" (.ref p1) (aB "span" (.int span) (aB "reach" (.int reach) (aB "room" (.int room) [])))))=G1 at u1 o1 b1 F1 ⊢
  refine ⟨_,rfl,fun p2 dx2 n2 m2 z2=>⟨p2,dx2,(room:Int),rfl,ak,fun d2 I2 hd2 e2 g2 bt2=>⟨rfl,?_⟩⟩⟩
  have s2:Same G1 I2:=fun b o e=>bt2 b o (by rw [aA (ao e n2),aA (ao e m2)];exact e) (ao e n2)
  have q12:p1≠p2:=ao F1.o n2
  have nk2:p2≠k:=aL (ao o1 n2)
  have ok2:=s2 _ _ o1
  refine ⟨_,rfl,k,_,dk,_,rfl,ok2,T.cH,T.Eo,(by show 4<1000;decide),?_⟩
  have u2:But k I2 (upd I2 k (.ins A.cD dk (aB "went" (.ref p2) (aB "came" (.ref p1) (aB "span" (.int span) (aB "reach" (.int reach) (aB "room" (.int room) []))))))):=But.upd
  have F2:qC A I2 room ⟨p2,dx2,d2,0,0,[]⟩:=⟨e2,g2⟩
  replace F2:=F2.but u2 ok2 nk2
  replace F1:=(F1.same s2).but u2 ok2 nk1
  have o2:(upd I2 k (.ins A.cD dk (aB "went" (.ref p2) (aB "came" (.ref p1) (aB "span" (.int span) (aB "reach" (.int reach) (aB "room" (.int room) []))))))) k=some (.ins A.cD dk (aB "went" (.ref p2) (aB "came" (.ref p1) (aB "span" (.int span) (aB "reach" (.int reach) (aB "room" (.int room) [])))))):=ak
  have b2:But k H (upd I2 k (.ins A.cD dk (aB "went" (.ref p2) (aB "came" (.ref p1) (aB "span" (.int span) (aB "reach" (.int reach) (aB "room" (.int room) []))))))):=(b1.trans (s2.but k)).trans u2
  have v2:H p2=none:=cN b1 n2 nk2
  generalize upd I2 k (.ins A.cD dk (aB "went" (.ref p2) (aB "came" (.ref p1) (aB "span" (.int span) (aB "reach" (.int reach) (aB "room" (.int room) []))))))=G2 at u2 o2 b2 F1 F2 ⊢
  refine ⟨_,rfl,fun p3 dx3 n3 m3 z3=>⟨p3,dx3,(room:Int),rfl,ak,fun d3 I3 hd3 e3 g3 bt3=>⟨rfl,?_⟩⟩⟩
  have s3:Same G2 I3:=fun b o e=>bt3 b o (by rw [aA (ao e n3),aA (ao e m3)];exact e) (ao e n3)
  have q13:p1≠p3:=ao F1.o n3
  have q23:p2≠p3:=ao F2.o n3
  have nk3:p3≠k:=aL (ao o2 n3)
  have ok3:=s3 _ _ o2
  refine ⟨_,rfl,k,_,dk,_,rfl,ok3,T.cH,T.Ep,(by show 5<1000;decide),?_⟩
  have u3:But k I3 (upd I3 k (.ins A.cD dk (aB "up" (.ref p3) (aB "went" (.ref p2) (aB "came" (.ref p1) (aB "span" (.int span) (aB "reach" (.int reach) (aB "room" (.int room) [])))))))):=But.upd
  have F3:Rn A I3 p3 dx3 d3 [] room 0 0 0 0 none none []:=Rn.new e3 g3
  replace F3:=F3.but u3 ok3 nk3
  replace F1:=(F1.same s3).but u3 ok3 nk1
  replace F2:=(F2.same s3).but u3 ok3 nk2
  have o3:(upd I3 k (.ins A.cD dk (aB "up" (.ref p3) (aB "went" (.ref p2) (aB "came" (.ref p1) (aB "span" (.int span) (aB "reach" (.int reach) (aB "room" (.int room) [])))))))) k=some (.ins A.cD dk (aB "up" (.ref p3) (aB "went" (.ref p2) (aB "came" (.ref p1) (aB "span" (.int span) (aB "reach" (.int reach) (aB "room" (.int room) []))))))):=ak
  have b3:But k H (upd I3 k (.ins A.cD dk (aB "up" (.ref p3) (aB "went" (.ref p2) (aB "came" (.ref p1) (aB "span" (.int span) (aB "reach" (.int reach) (aB "room" (.int room) [])))))))):=(b2.trans (s3.but k)).trans u3
  have vd3:H d3=none:=by
   have y:(upd (upd G2 dx3 (.own p3)) p3 (.ins A.dB dx3 [])) d3=none:=hd3
   have np:d3≠p3:=fun z=>by rw [z,ak] at y;cases y
   rw [aA np] at y
   have nq:d3≠dx3:=fun z=>by rw [z,ak] at y;cases y
   rw [aA nq] at y
   exact cN b2 y (aL (ao o2 y))
  have v3:H p3=none:=cN b2 n3 nk3
  generalize upd I3 k (.ins A.cD dk (aB "up" (.ref p3) (aB "went" (.ref p2) (aB "came" (.ref p1) (aB "span" (.int span) (aB "reach" (.int reach) (aB "room" (.int room) [])))))))=G3 at u3 o3 b3 F1 F2 F3 ⊢
  refine ⟨_,rfl,fun p4 dx4 n4 m4 z4=>⟨p4,dx4,(room:Int),rfl,ak,fun d4 I4 hd4 e4 g4 bt4=>⟨rfl,?_⟩⟩⟩
  have s4:Same G3 I4:=fun b o e=>bt4 b o (by rw [aA (ao e n4),aA (ao e m4)];exact e) (ao e n4)
  have q14:p1≠p4:=ao F1.o n4
  have q24:p2≠p4:=ao F2.o n4
  have q34:p3≠p4:=ao F3.o n4
  have nk4:p4≠k:=aL (ao o3 n4)
  have ok4:=s4 _ _ o3
  refine ⟨_,rfl,k,_,dk,_,rfl,ok4,T.cH,T.Er,(by show 6<1000;decide),?_⟩
  have u4:But k I4 (upd I4 k (.ins A.cD dk (aB "down" (.ref p4) (aB "up" (.ref p3) (aB "went" (.ref p2) (aB "came" (.ref p1) (aB "span" (.int span) (aB "reach" (.int reach) (aB "room" (.int room) []))))))))):=But.upd
  have F4:Rn A I4 p4 dx4 d4 [] room 0 0 0 0 none none []:=Rn.new e4 g4
  replace F4:=F4.but u4 ok4 nk4
  replace F1:=(F1.same s4).but u4 ok4 nk1
  replace F2:=(F2.same s4).but u4 ok4 nk2
  replace F3:=(F3.same s4).but u4 ok4 nk3
  have o4:(upd I4 k (.ins A.cD dk (aB "down" (.ref p4) (aB "up" (.ref p3) (aB "went" (.ref p2) (aB "came" (.ref p1) (aB "span" (.int span) (aB "reach" (.int reach) (aB "room" (.int room) []))))))))) k=some (.ins A.cD dk (aB "down" (.ref p4) (aB "up" (.ref p3) (aB "went" (.ref p2) (aB "came" (.ref p1) (aB "span" (.int span) (aB "reach" (.int reach) (aB "room" (.int room) [])))))))):=ak
  have b4:But k H (upd I4 k (.ins A.cD dk (aB "down" (.ref p4) (aB "up" (.ref p3) (aB "went" (.ref p2) (aB "came" (.ref p1) (aB "span" (.int span) (aB "reach" (.int reach) (aB "room" (.int room) []))))))))):=(b3.trans (s4.but k)).trans u4
  have vd4:H d4=none:=by
   have y:(upd (upd G3 dx4 (.own p4)) p4 (.ins A.dB dx4 [])) d4=none:=hd4
   have np:d4≠p4:=fun z=>by rw [z,ak] at y;cases y
   rw [aA np] at y
   have nq:d4≠dx4:=fun z=>by rw [z,ak] at y;cases y
   rw [aA nq] at y
   exact cN b3 y (aL (ao o3 y))
  have v4:H p4=none:=cN b3 n4 nk4
  generalize upd I4 k (.ins A.cD dk (aB "down" (.ref p4) (aB "up" (.ref p3) (aB "went" (.ref p2) (aB "came" (.ref p1) (aB "span" (.int span) (aB "reach" (.int reach) (aB "room" (.int room) []))))))))=G4 at u4 o4 b4 F1 F2 F3 F4 ⊢
  refine ⟨_,rfl,_,rfl,fun p5 dx5 n5 m5 z5=>⟨p5,dx5,(room:Int),reach,rfl,ak,fun d5 I5 hd5 e5 g5 bt5=>⟨rfl,?_⟩⟩⟩
  have s5:Same G4 I5:=fun b o e=>bt5 b o (by rw [aA (ao e n5),aA (ao e m5)];exact e) (ao e n5)
  have q15:p1≠p5:=ao F1.o n5
  have q25:p2≠p5:=ao F2.o n5
  have q35:p3≠p5:=ao F3.o n5
  have q45:p4≠p5:=ao F4.o n5
  have nk5:p5≠k:=aL (ao o4 n5)
  have ok5:=s5 _ _ o4
  refine ⟨_,rfl,k,_,dk,_,rfl,ok5,T.cH,T.yC,(by show 7<1000;decide),?_⟩
  have u5:But k I5 (upd I5 k (.ins A.cD dk (aB "window" (.ref p5) (aB "down" (.ref p4) (aB "up" (.ref p3) (aB "went" (.ref p2) (aB "came" (.ref p1) (aB "span" (.int span) (aB "reach" (.int reach) (aB "room" (.int room) [])))))))))):=But.upd
  have F5:Wn A I5 p5 dx5 d5 room reach 0 []:=⟨e5,⟨g5,fun _ h=>(nomatch h)⟩⟩
  replace F5:=F5.but u5 ok5 nk5
  replace F1:=(F1.same s5).but u5 ok5 nk1
  replace F2:=(F2.same s5).but u5 ok5 nk2
  replace F3:=(F3.same s5).but u5 ok5 nk3
  replace F4:=(F4.same s5).but u5 ok5 nk4
  have o5:(upd I5 k (.ins A.cD dk (aB "window" (.ref p5) (aB "down" (.ref p4) (aB "up" (.ref p3) (aB "went" (.ref p2) (aB "came" (.ref p1) (aB "span" (.int span) (aB "reach" (.int reach) (aB "room" (.int room) [])))))))))) k=some (.ins A.cD dk (aB "window" (.ref p5) (aB "down" (.ref p4) (aB "up" (.ref p3) (aB "went" (.ref p2) (aB "came" (.ref p1) (aB "span" (.int span) (aB "reach" (.int reach) (aB "room" (.int room) []))))))))):=ak
  have b5:But k H (upd I5 k (.ins A.cD dk (aB "window" (.ref p5) (aB "down" (.ref p4) (aB "up" (.ref p3) (aB "went" (.ref p2) (aB "came" (.ref p1) (aB "span" (.int span) (aB "reach" (.int reach) (aB "room" (.int room) [])))))))))):=(b4.trans (s5.but k)).trans u5
  have vd5:H d5=none:=by
   have y:(upd (upd G4 dx5 (.own p5)) p5 (.ins A.gP dx5 [])) d5=none:=hd5
   have np:d5≠p5:=fun z=>by rw [z,ak] at y;cases y
   rw [aA np] at y
   have nq:d5≠dx5:=fun z=>by rw [z,ak] at y;cases y
   rw [aA nq] at y
   exact cN b4 y (aL (ao o4 y))
  have v5:H p5=none:=cN b4 n5 nk5
  generalize upd I5 k (.ins A.cD dk (aB "window" (.ref p5) (aB "down" (.ref p4) (aB "up" (.ref p3) (aB "went" (.ref p2) (aB "came" (.ref p1) (aB "span" (.int span) (aB "reach" (.int reach) (aB "room" (.int room) [])))))))))=G5 at u5 o5 b5 F1 F2 F3 F4 F5 ⊢
  refine ⟨_,rfl,fun p6 dx6 n6 m6 z6=>⟨p6,dx6,(room:Int),rfl,ak,fun d6 I6 hd6 e6 g6 bt6=>⟨rfl,?_⟩⟩⟩
  have s6:Same G5 I6:=fun b o e=>bt6 b o (by rw [aA (ao e n6),aA (ao e m6)];exact e) (ao e n6)
  have q16:p1≠p6:=ao F1.o n6
  have q26:p2≠p6:=ao F2.o n6
  have q36:p3≠p6:=ao F3.o n6
  have q46:p4≠p6:=ao F4.o n6
  have q56:p5≠p6:=ao F5.o n6
  have nk6:p6≠k:=aL (ao o5 n6)
  have ok6:=s6 _ _ o5
  refine ⟨_,rfl,k,_,dk,_,rfl,ok6,T.cH,T.yD,(by show 8<1000;decide),?_⟩
  have u6:But k I6 (upd I6 k (.ins A.cD dk (aB "seen" (.ref p6) (aB "window" (.ref p5) (aB "down" (.ref p4) (aB "up" (.ref p3) (aB "went" (.ref p2) (aB "came" (.ref p1) (aB "span" (.int span) (aB "reach" (.int reach) (aB "room" (.int room) []))))))))))):=But.upd
  have F6:Dn A I6 p6 dx6 d6 room 0 0 (srt (My.up 0 [])):=⟨e6,by rw [show srt (My.up 0 [])=[] from Dw.mp (gq _)];exact g6⟩
  replace F6:=F6.but u6 ok6 nk6
  replace F1:=(F1.same s6).but u6 ok6 nk1
  replace F2:=(F2.same s6).but u6 ok6 nk2
  replace F3:=(F3.same s6).but u6 ok6 nk3
  replace F4:=(F4.same s6).but u6 ok6 nk4
  replace F5:=(F5.same s6).but u6 ok6 nk5
  have o6:(upd I6 k (.ins A.cD dk (aB "seen" (.ref p6) (aB "window" (.ref p5) (aB "down" (.ref p4) (aB "up" (.ref p3) (aB "went" (.ref p2) (aB "came" (.ref p1) (aB "span" (.int span) (aB "reach" (.int reach) (aB "room" (.int room) []))))))))))) k=some (.ins A.cD dk (aB "seen" (.ref p6) (aB "window" (.ref p5) (aB "down" (.ref p4) (aB "up" (.ref p3) (aB "went" (.ref p2) (aB "came" (.ref p1) (aB "span" (.int span) (aB "reach" (.int reach) (aB "room" (.int room) [])))))))))):=ak
  have b6:But k H (upd I6 k (.ins A.cD dk (aB "seen" (.ref p6) (aB "window" (.ref p5) (aB "down" (.ref p4) (aB "up" (.ref p3) (aB "went" (.ref p2) (aB "came" (.ref p1) (aB "span" (.int span) (aB "reach" (.int reach) (aB "room" (.int room) []))))))))))):=(b5.trans (s6.but k)).trans u6
  have vd6:H d6=none:=by
   have y:(upd (upd G5 dx6 (.own p6)) p6 (.ins A.iI dx6 [])) d6=none:=hd6
   have np:d6≠p6:=fun z=>by rw [z,ak] at y;cases y
   rw [aA np] at y
   have nq:d6≠dx6:=fun z=>by rw [z,ak] at y;cases y
   rw [aA nq] at y
   exact cN b5 y (aL (ao o5 y))
  have v6:H p6=none:=cN b5 n6 nk6
  generalize upd I6 k (.ins A.cD dk (aB "seen" (.ref p6) (aB "window" (.ref p5) (aB "down" (.ref p4) (aB "up" (.ref p3) (aB "went" (.ref p2) (aB "came" (.ref p1) (aB "span" (.int span) (aB "reach" (.int reach) (aB "room" (.int room) []))))))))))=G6 at u6 o6 b6 F1 F2 F3 F4 F5 F6 ⊢
  refine ⟨_,rfl,fun p7 dx7 n7 m7 z7=>⟨p7,dx7,span,rfl,ak,fun d7 I7 hd7 e7 bt7=>⟨rfl,?_⟩⟩⟩
  have s7:Same G6 I7:=fun b o e=>bt7 b o (by rw [aA (ao e n7),aA (ao e m7)];exact e) (ao e n7)
  have q17:p1≠p7:=ao F1.o n7
  have q27:p2≠p7:=ao F2.o n7
  have q37:p3≠p7:=ao F3.o n7
  have q47:p4≠p7:=ao F4.o n7
  have q57:p5≠p7:=ao F5.o n7
  have q67:p6≠p7:=ao F6.o n7
  have nk7:p7≠k:=aL (ao o6 n7)
  have ok7:=s7 _ _ o6
  refine ⟨_,rfl,k,_,dk,_,rfl,ok7,T.cH,T.yE,(by show 9<1000;decide),?_⟩
  have u7:But k I7 (upd I7 k (.ins A.cD dk (aB "balance" (.ref p7) (aB "seen" (.ref p6) (aB "window" (.ref p5) (aB "down" (.ref p4) (aB "up" (.ref p3) (aB "went" (.ref p2) (aB "came" (.ref p1) (aB "span" (.int span) (aB "reach" (.int reach) (aB "room" (.int room) [])))))))))))):=But.upd
  have F7:Bn A I7 p7 dx7 d7 span Vr:=e7
  replace F7:=F7.but u7 ok7 nk7
  replace F1:=(F1.same s7).but u7 ok7 nk1
  replace F2:=(F2.same s7).but u7 ok7 nk2
  replace F3:=(F3.same s7).but u7 ok7 nk3
  replace F4:=(F4.same s7).but u7 ok7 nk4
  replace F5:=(F5.same s7).but u7 ok7 nk5
  replace F6:=(F6.same s7).but u7 ok7 nk6
  have o7:(upd I7 k (.ins A.cD dk (aB "balance" (.ref p7) (aB "seen" (.ref p6) (aB "window" (.ref p5) (aB "down" (.ref p4) (aB "up" (.ref p3) (aB "went" (.ref p2) (aB "came" (.ref p1) (aB "span" (.int span) (aB "reach" (.int reach) (aB "room" (.int room) [])))))))))))) k=some (.ins A.cD dk (aB "balance" (.ref p7) (aB "seen" (.ref p6) (aB "window" (.ref p5) (aB "down" (.ref p4) (aB "up" (.ref p3) (aB "went" (.ref p2) (aB "came" (.ref p1) (aB "span" (.int span) (aB "reach" (.int reach) (aB "room" (.int room) []))))))))))):=ak
  have b7:But k H (upd I7 k (.ins A.cD dk (aB "balance" (.ref p7) (aB "seen" (.ref p6) (aB "window" (.ref p5) (aB "down" (.ref p4) (aB "up" (.ref p3) (aB "went" (.ref p2) (aB "came" (.ref p1) (aB "span" (.int span) (aB "reach" (.int reach) (aB "room" (.int room) [])))))))))))):=(b6.trans (s7.but k)).trans u7
  have vd7:H d7=none:=by
   have y:(upd (upd G6 dx7 (.own p7)) p7 (.ins A.nU dx7 [])) d7=none:=hd7
   have np:d7≠p7:=fun z=>by rw [z,ak] at y;cases y
   rw [aA np] at y
   have nq:d7≠dx7:=fun z=>by rw [z,ak] at y;cases y
   rw [aA nq] at y
   exact cN b6 y (aL (ao o6 y))
  have v7:H p7=none:=cN b6 n7 nk7
  generalize upd I7 k (.ins A.cD dk (aB "balance" (.ref p7) (aB "seen" (.ref p6) (aB "window" (.ref p5) (aB "down" (.ref p4) (aB "up" (.ref p3) (aB "went" (.ref p2) (aB "came" (.ref p1) (aB "span" (.int span) (aB "reach" (.int reach) (aB "room" (.int room) [])))))))))))=G7 at u7 o7 b7 F1 F2 F3 F4 F5 F6 F7 ⊢
  rw [agr] at o7
  refine q ⟨k,dk,room,reach,span,⟨p1,dx1,d1,0,0,[]⟩,⟨p2,dx2,d2,0,0,[]⟩,⟨p3,⟨dx3,d3,[],room,0,0,0,0,none,none,[]⟩⟩,⟨p4,⟨dx4,d4,[],room,0,0,0,0,none,none,[]⟩⟩,⟨p5,dx5,d5,0,[]⟩,⟨p6,dx6,d6,0,0,[]⟩,⟨p7,dx7,d7,Vr⟩⟩ G7 ⟨o7,F1,F2,F3,F4,F5,F6,F7,?_⟩
   ⟨rfl,rfl,rfl,⟨rfl,rfl,rfl⟩,⟨rfl,rfl,rfl⟩,⟨rfl,rfl,rfl,rfl,rfl,rfl,rfl,rfl⟩,⟨rfl,rfl,rfl,rfl,rfl,rfl,rfl,rfl⟩,⟨rfl,rfl⟩,⟨rfl,rfl,rfl⟩,rfl⟩ rfl ?_ b7
  ·show [k,p1,p2,p3,p4,p5,p6,p7].Nodup
   simp only [nO,cC,qb,or_false,not_or,Fw,and_true,not_false_eq_true]
   exact ⟨⟨aL nk1,aL nk2,aL nk3,aL nk4,aL nk5,aL nk6,aL nk7⟩,⟨q12,q13,q14,q15,q16,q17⟩,⟨q23,q24,q25,q26,q27⟩,⟨q34,q35,q36,q37⟩,⟨q45,q46,q47⟩,⟨q56,q57⟩,q67⟩
  ·intro b m
   unfold KS.pts at m
   simp only [cC,qb,or_false] at m
   rcases m with rfl | rfl | rfl | rfl | rfl | rfl | rfl
   all_goals assumption
open MK
def spMix:Sp:=fun vs H Q _=>∃ c f p:Int,vs=[.int c,.int f,.int p]/\0<f/\f<2 ^ 64/\0<p/\∀ v:Int,0<=v->v<p->Q (.int v) H
def ad3 (T:Tx K mg A):cI P w K mg base CX0 1 A.QB A.Jc ["_law_cell","_law_factor","_law_prime"] spMix:=by
 refine T.F'33.ok abF (fun vs H Q E h=>?_) (fun cdv B outer s H vs Q E hr h=>?_)
 ·obtain ⟨c,f,p,rfl,_⟩:=h
  rfl
 ·obtain ⟨c,f,p,rfl,f0,f1,p0,q⟩:=h
  refine ⟨_,(aF (cA (aM dF (aM ni (pv 0) (pv 1)) (pv 2)))),?_⟩
  exact ⟨_,rfl,_,rfl,_,_,rfl,rfl,gQ (by omega) f1,_,rfl,_,_,rfl,rfl,p0,q _ (tV _ (by omega)) (tU _ p0)⟩
def spFar:Sp:=fun vs H Q _=>vs=[]/\∀ v:Int,0<=v->v<1152921504606846976->Q (.int v) H
def ok'34 (T:Tx K mg A):cI P w K mg base CX0 1 A.QC A.pK [] spFar:=by
 refine T.F'34.ok jA (fun vs H Q E h=>?_) (fun cdv B outer s H vs Q E hr h=>?_)
 ·obtain ⟨rfl,_⟩:=h
  rfl
 ·obtain ⟨rfl,q⟩:=h
  refine ⟨_,(aq (aU (i:=0) jA.nd rfl (Or.inl rfl) aC)
   (aq (jO jD rfl (VL rfl T.acS (aj aC au)) (fB (i:=1) jA.nd rfl (Or.inl rfl)) (aF (aU (i:=0) jA.nd rfl (Or.inl rfl) (aM dF (aM ni (pv 0) (aM Bc aC (aM ni aC (pv 0)))) aC))))
   (aF (cA (pv 0))))),?_⟩
  refine ⟨5,rfl,by decide,by decide,?_⟩
  refine VP (fun i σ G=>∃ (v:Int) (y:Option V),σ=[some (.int v),y]/\0<=v/\v<1152921504606846976/\G=H) ⟨770093176312745717,none,rfl,by decide,by decide,rfl⟩ ?_ ?_
  ·rintro i σ G hi ⟨v,y,rfl,v0,v1,rfl⟩
   refine ⟨_,rfl,_,rfl,_,_,rfl,rfl,aaU (by decide) (by decide),_,_,rfl,rfl,_,_,rfl,rfl,aaU (by omega) (by omega),_,_,rfl,rfl,(by show (0:Int)<1152921504606846976;decide),?_⟩
   exact ⟨_,_,rfl,tV _ (by decide),tU _ (by decide),rfl⟩
  ·rintro σ G ⟨v,y,rfl,v0,v1,rfl⟩
   exact ⟨_,rfl,q v v0 v1⟩
def abY:Sp:=fun vs H Q _=>∃ c:Int,vs=[.int c]/\∀ (v:Int) (H':Hp),0<=v->v<1152921504606846976->Same H H'->Q (.int v) H'
def ok'35 (T:Tx K mg A):cI P w K mg base CX0 2 A.QD A.pL ["_law_cell"] abY:=by
 refine T.F'35.ok nJ (fun vs H Q E h=>?_) (fun cdv B outer s H vs Q E hr h=>?_)
 ·obtain ⟨c,rfl,_⟩:=h
  rfl
 ·obtain ⟨c,rfl,q⟩:=h
  refine ⟨_,(aq (aU (i:=1) nJ.nd rfl (Or.inl rfl) (aM dF (pv 0) aC))
   (aq (gG (cg Ku (pv 1) aC (cP _)) (aF (cA (aM dF (aM gn (pv 0) aC) (cu (ixG (bO hr)) (cM (aj aC (aj aC au))) (pv 1) (fun _ _=>rfl))))) eY)
   (aq (gG (cg qe (pv 1) aC (cP _)) (aF (cA (aM dF (aM ni (aM gn (pv 0) aC) aC) aC))) eY)
   (aq (aU (i:=2) nJ.nd rfl (Or.inl rfl) (aM afB (aM dD aC (aM dF (aM gn (pv 0) aC) aC)) (aM dF (aM gn (pv 0) aC) aC)))
   (aF (cA (aM dF (aM ni (pv 2) (aau (ok'34 T) (hr.mono (by decide)) rfl T.Jg T.F'34.kp T.b'34 .nil aV)) aC))))))),?_⟩
  refine ⟨_,rfl,_,_,rfl,rfl,(by show (0:Int)<4;decide),?_⟩
  refine ⟨_,rfl,_,_,rfl,rfl,_,rfl,fX (fun h=>?_) (fun h=>?_)⟩
  ·have h:c % 4<2:=of_decide_eq_true h
   refine ⟨_,rfl,_,_,rfl,rfl,⟨by decide,by decide⟩,(by show 2<=sizeLine;decide),fun p hp=>⟨_,rfl,?_⟩⟩
   obtain ⟨v,hv,e⟩:=vf (ns:=[7,60]) (i:=c % 4) (by omega) (by show c % 4<2;omega)
   have hv:v=7\/v=60:=by simpa using hv
   refine iz (.inl (.inl ak)) (v:=.int v) e ⟨_,_,rfl,rfl,(by show (0:Int)<v;omega),?_⟩
   have a1:=tV (c / 4) (show v≠0 by omega)
   have a2:=tU (c / 4) (show 0<v by omega)
   exact q _ _ a1 (by show c / 4 % v<_;omega) (Same.new hp)
  refine ⟨_,rfl,rfl,_,rfl,fX (fun h=>?_) (fun h=>?_)⟩
  ·refine ⟨_,rfl,_,_,rfl,rfl,⟨by decide,by decide⟩,_,_,rfl,rfl,gQ (by decide) (by decide),_,_,rfl,rfl,(by show (0:Int)<1152921504606846976;decide),?_⟩
   exact q _ _ (tV _ (by decide)) (tU _ (by decide)) (Same.refl H)
  ·refine ⟨_,rfl,_,_,rfl,rfl,⟨by decide,by decide⟩,_,_,rfl,rfl,(by show (0:Int)<40;decide),_,_,rfl,rfl,_,rfl,_,_,rfl,rfl,⟨by decide,by decide⟩,_,_,rfl,rfl,(by show (0:Int)<50;decide),_,_,rfl,rfl,⟨by omega,by omega,?_⟩,?_⟩
   ·omega
   refine ⟨_,rfl,rfl,fun v v0 v1=>⟨_,_,rfl,rfl,gQ (by omega) (by omega),_,_,rfl,rfl,(by show (0:Int)<1152921504606846976;decide),?_⟩⟩
   exact q _ _ (tV _ (by decide)) (tU _ (by decide)) (Same.refl H)
def W8:Sp:=fun vs H Q _=>∃ c:Int,vs=[.int c]/\∀ v:Int,1<=v->v<=1000000000000->Q (.int v) H
def ok'36 (T:Tx K mg A):cI P w K mg base CX0 1 A.QF A.nG ["_law_cell"] W8:=by
 refine T.F'36.ok CJ (fun vs H Q E h=>?_) (fun cdv B outer s H vs Q E hr h=>?_)
 ·obtain ⟨c,rfl,_⟩:=h
  rfl
 ·obtain ⟨c,rfl,q⟩:=h
  refine ⟨_,(aq (gG (cg qe (aM dF (pv 0) aC) aC (cP _)) (aF (cA (aM dD aC (aM dF (aM ni (aM gn (pv 0) aC) aC) aC)))) eY)
   (aF (cA (aM dD aC (aM dF (aM gn (pv 0) aC) aC))))),?_⟩
  refine ⟨_,rfl,_,_,rfl,rfl,(by show (0:Int)<5;decide),rfl,_,rfl,fX (fun h=>?_) (fun h=>?_)⟩
  ·refine ⟨_,rfl,_,_,rfl,rfl,⟨by decide,by decide⟩,_,_,rfl,rfl,gQ (by decide) (by decide),_,_,rfl,rfl,(by show (0:Int)<1000000000000;decide),_,_,rfl,rfl,?_⟩
   exact q _ (by omega) (by omega)
  ·refine ⟨_,rfl,_,_,rfl,rfl,⟨by decide,by decide⟩,_,_,rfl,rfl,(by show (0:Int)<12;decide),_,_,rfl,rfl,?_⟩
   exact q _ (by omega) (by omega)
/-- a row: its kind,its thing,its weight -/
structure R3 where
 (kd th w:Int)
structure R3.ok (r:R3):Prop where
 k0:0<=r.kd
 k2:r.kd<=2
 t0:0<=r.th
 t1:r.th<1152921504606846976
 w1:1<=r.w
 w2:r.w<=1000000000000
def r3V (r:R3):HO:=.tup [.int r.kd,.int r.th,.int r.w]
def adq:Sp:=fun vs H Q _=>∃ c:Int,vs=[.int c]/\∀ (t:Addr) (r:R3) (H':Hp),r.ok->H t=none->H' t=some (r3V r)->Same H H'->Q (.ref t) H'
def ok'37 (T:Tx K mg A):cI P w K mg base CX0 3 A.QG A.uD ["_law_cell"] adq:=by
 refine T.F'37.ok mK (fun vs H Q E h=>?_) (fun cdv B outer s H vs Q E hr h=>?_)
 ·obtain ⟨c,rfl,_⟩:=h
  rfl
 ·obtain ⟨c,rfl,q⟩:=h
  refine ⟨_,(aq (aU (i:=1) mK.nd rfl (Or.inl rfl) (cu (ixG (bO hr)) (cM (aj aC (aj aC (aj aC (aj aC (aj aC (aj aC (aj aC au)))))))) (aM dF (pv 0) aC) (fun _ _=>rfl)))
   (aq (aU (i:=2) mK.nd rfl (Or.inl rfl) (aQ (ok'35 T) (hr.mono (by decide)) rfl T.Jh T.F'35.kp T.b'35 .nil aV (aj (aQ (ad3 T) (hr.mono (by decide)) rfl T.Vi T.F'33.kp T.b'33 .nil aV (aj (pv 0) (aj aC (aj aC au)))) au)))
   (aq (aU (i:=3) mK.nd rfl (Or.inl rfl) (aQ (ok'36 T) (hr.mono (by decide)) rfl T.Dr T.F'36.kp T.b'36 .nil aV (aj (aQ (ad3 T) (hr.mono (by decide)) rfl T.Vi T.F'33.kp T.b'33 .nil aV (aj (pv 0) (aj aC (aj aC au)))) au)))
   (aF (cA (jP (aj (pv 1) (aj (pv 2) (aj (pv 3) au))))))))),?_⟩
  refine ⟨(by show 7<=sizeLine;decide),fun p hp=>⟨_,rfl,_,_,rfl,rfl,(by show (0:Int)<7;decide),?_⟩⟩
  obtain ⟨kd,hkd,e⟩:=vf (ns:=[0,0,0,0,1,1,2]) (i:=c % 7) (by omega) (by show c % 7<7;omega)
  have hkd:0<=kd/\kd<=2:=by
   simp only [cC,qb,or_false] at hkd
   omega
  refine iz (.inl (.inl ak)) (v:=.int kd) e ?_
  have s1:=Same.new (o:=.lst [.int 0,.int 0,.int 0,.int 0,.int 1,.int 1,.int 2]) hp
  generalize upd H p (.lst [.int 0,.int 0,.int 0,.int 0,.int 1,.int 1,.int 2])=H1 at s1 ⊢
  refine ⟨_,rfl,c,6364136223846793005,18446744073709551557,rfl,by decide,by decide,by decide,fun m _ _=>⟨m,rfl,fun th H2 t0 t1 s2=>?_⟩⟩
  refine ⟨_,rfl,c,69621,2147483629,rfl,by decide,by decide,by decide,fun m2 _ _=>⟨m2,rfl,fun w w1 w2=>?_⟩⟩
  exact ⟨_,rfl,_,rfl,_,rfl,by show 3<=sizeLine;decide,fun t ht=>q t ⟨kd,th,w⟩ _ ⟨hkd.1,hkd.2,t0,t1,w1,w2⟩ ((s1.trans s2).free ht) ak (s1.trans (s2.trans (Same.new ht)))⟩
def adt:Sp:=fun vs H Q _=>∃ c:Int,vs=[.int c]/\∀ (t:Addr) (room:Nat) (reach span:Int) (H':Hp),2<=room->room<=64->room % 2=0->(room<=30\/room=64)->(0<=reach/\reach<1152921504606846976)->(0<=span/\span<1152921504606846976)->H' t=some (.tup [.int room,.int reach,.int span])->Same H H'->Q (.ref t) H'
def rooms {v:Int} (h:v∈[2,4,2,6,8,64]):∃ r:Nat,v=r/\2<=r/\r<=64/\r % 2=0/\(r<=30\/r=64):=by
 simp only [cC,qb,or_false] at h
 exact ⟨v.toNat,by omega,by omega,by omega,by omega,by omega⟩
def ok'38 (T:Tx K mg A):cI P w K mg base CX0 1 A.QH A.pO ["_law_cell"] adt:=by
 refine T.F'38.ok jB (fun vs H Q E h=>?_) (fun cdv B outer s H vs Q E hr h=>?_)
 ·obtain ⟨c,rfl,_⟩:=h
  rfl
 ·obtain ⟨c,rfl,q⟩:=h
  refine ⟨_,(aq (aU (i:=1) jB.nd rfl (Or.inl rfl) (cu (ixG (bO hr)) (cM (aj aC (aj aC (aj aC (aj aC (aj aC (aj aC au))))))) (aM dF (pv 0) aC) (fun _ _=>rfl)))
   (aq (aU (i:=2) jB.nd rfl (Or.inl rfl) (cu (ixG (bO hr)) (cM (aj aC (aj (aM dD aC (aM dF (aM gn (pv 0) aC) aC)) (aj (aM dD aC (aM dF (aM gn (pv 0) aC) aC)) au)))) (aM dF (aM gn (pv 0) aC) aC) (fun _ _=>rfl)))
   (aq (aU (i:=3) jB.nd rfl (Or.inl rfl) (cu (ixG (bO hr)) (cM (aj (aM dD aC (aM dF (aM gn (pv 0) aC) aC)) (aj aC (aj aC au)))) (aM dF (aM gn (pv 0) aC) aC) (fun _ _=>rfl)))
   (aF (cA (jP (aj (pv 1) (aj (pv 2) (aj (pv 3) au))))))))),?_⟩
  refine ⟨(by show 6<=sizeLine;decide),fun p hp=>⟨_,rfl,_,_,rfl,rfl,(by show (0:Int)<6;decide),?_⟩⟩
  obtain ⟨rv,hrv,e⟩:=vf (ns:=[2,4,2,6,8,64]) (i:=c % 6) (by omega) (by show c % 6<6;omega)
  obtain ⟨room,rfl,r2,r64,ev,rr⟩:=rooms hrv
  refine iz (.inl (.inl ak)) (v:=.int room) e ?_
  have s1:=Same.new (o:=.lst [.int 2,.int 4,.int 2,.int 6,.int 8,.int 64]) hp
  generalize upd H p (.lst [.int 2,.int 4,.int 2,.int 6,.int 8,.int 64])=H1 at s1 ⊢
  refine ⟨_,rfl,_,_,rfl,rfl,⟨by decide,by decide⟩,_,_,rfl,rfl,(by show (0:Int)<9;decide),_,_,rfl,rfl,_,rfl,_,_,rfl,rfl,⟨by decide,by decide⟩,_,_,rfl,rfl,(by show (0:Int)<1000000;decide),_,_,rfl,rfl,(by show 3<=sizeLine;decide),fun p2 hp2=>⟨_,rfl,_,_,rfl,rfl,⟨by decide,by decide⟩,_,_,rfl,rfl,(by show (0:Int)<3;decide),?_⟩⟩
  obtain ⟨reach,hre,e2⟩:=vf (ns:=[1000000000,1+c / 6 % 9,1+c / 6 % 1000000]) (i:=c / 6 % 3) (by omega) (by show c / 6 % 3<3;omega)
  refine iz (.inl (.inl ak)) (v:=.int reach) e2 ?_
  have s2:=s1.trans (Same.new (o:=.lst [.int 1000000000,.int (1+c / 6 % 9),.int (1+c / 6 % 1000000)]) hp2)
  generalize upd H1 p2 (.lst [.int 1000000000,.int (1+c / 6 % 9),.int (1+c / 6 % 1000000)])=H2 at s2 ⊢
  refine ⟨_,rfl,_,_,rfl,rfl,⟨by decide,by decide⟩,_,_,rfl,rfl,(by show (0:Int)<9;decide),_,_,rfl,rfl,(by show 3<=sizeLine;decide),fun p3 hp3=>⟨_,rfl,_,_,rfl,rfl,⟨by decide,by decide⟩,_,_,rfl,rfl,(by show (0:Int)<3;decide),?_⟩⟩
  obtain ⟨span,hsp,e3⟩:=vf (ns:=[1+c / 18 % 9,60,1000000000]) (i:=c / 18 % 3) (by omega) (by show c / 18 % 3<3;omega)
  refine iz (.inl (.inl ak)) (v:=.int span) e3 ?_
  have s3:=s2.trans (Same.new (o:=.lst [.int (1+c / 18 % 9),.int 60,.int 1000000000]) hp3)
  generalize upd H2 p3 (.lst [.int (1+c / 18 % 9),.int 60,.int 1000000000])=H3 at s3 ⊢
  simp only [cC,qb,or_false] at hre hsp
  exact ⟨_,rfl,_,rfl,_,rfl,by show 3<=sizeLine;decide,fun t ht=>q t room reach span _ r2 r64 ev rr (by omega) (by omega) ak (s3.trans (Same.new ht))⟩
/-- what a row does -/
def SR (r:R3) (x x':KS):Prop:=if r.kd=0 then SP r.th r.w x x' else if r.kd=1 then ST r.th r.w x x' else SI r.w x x'
def SR.sb {r:R3} {x x':KS} (h:SR r x x'):SB x x':=by
 unfold SR at h
 split at h
 ·exact h.sb
 ·split at h
  ·exact h.sb
  ·exact h.sb
def Eqp.row {r:R3} {x y x' y':KS} (e:Eqp x y) (a:SR r x x') (b:SR r y y'):Eqp x' y':=by
 unfold SR at a b
 split at a
 ·rename_i h;rw [if_pos h] at b;exact e.put a b
 ·rename_i h
  rw [if_neg h] at b
  split at a
  ·rename_i h;rw [if_pos h] at b;exact e.take a b
  ·rename_i h;rw [if_neg h] at b;exact e.idle a b
def Kh.row {r:R3} {x x':KS} {n:Nat} (h:Kh x n) (hn:n<63) (ok:r.ok) (s:SR r x x'):Kh x' (n+1):=by
 unfold SR at s
 split at s
 ·exact h.put hn s ok.w1 ok.w2
 ·split at s
  ·exact h.take hn s ok.w1 ok.w2
  ·exact h.idle hn s
def agx (A:Ad):Sp:=fun vs H Q _=>∃ (x:KS) (n:Nat) (t:Addr) (r:R3),vs=[.ref x.k,.ref t]/\Kp A H x/\Kh x n/\n<63/\H t=some (r3V r)/\r.ok /\
 ∀ (x':KS) (H':Hp),Kp A H' x'->SR r x x'->Far A x.pts H H'->Q .non H'
def ok'39 (T:Tx K mg A):cI P w K mg base CX0 8 A.QJ A.BK ["_law_keepsake","_law_row"] (agx A):=by
 refine T.F'39.ok WQ (fun vs H Q E h=>?_) (fun cdv B outer s H vs Q E hr h=>?_)
 ·obtain ⟨x,n,t,r,rfl,_⟩:=h
  rfl
 ·obtain ⟨x,n,t,r,rfl,hK,hG,hn,ht,ok,q⟩:=h
  unfold r3V at ht
  unfold SR at q
  refine ⟨_,(aF (gG (cg qe (cu (ixG (bO hr)) (pv 1) aC (fun _ _=>rfl)) aC (cP _)) (aF (aY (eN (pv 0) T.cH T.Cr (ok'29 T) (hr.mono (by decide)) T.b'29 .nil aV (aj (cu (ixG (bO hr)) (pv 1) aC (fun _ _=>rfl)) (aj (cu (ixG (bO hr)) (pv 1) aC (fun _ _=>rfl)) au))))) (aF (gG (cg qe (cu (ixG (bO hr)) (pv 1) aC (fun _ _=>rfl)) aC (cP _)) (aF (aY (eN (pv 0) T.cH T.yK (ok'30 T) (hr.mono (by decide)) T.b'30 .nil aV (aj (cu (ixG (bO hr)) (pv 1) aC (fun _ _=>rfl)) (aj (cu (ixG (bO hr)) (pv 1) aC (fun _ _=>rfl)) au))))) (aF (aY (eN (pv 0) T.cH T.yL (ok'31 T) (hr.mono (by decide)) T.b'31 .nil aV (aj (cu (ixG (bO hr)) (pv 1) aC (fun _ _=>rfl)) au)))))))),?_⟩
  refine ⟨_,rfl,eE (.inl (.inl ht)) (v:=.int r.kd) rfl ⟨rfl,_,rfl,fX (fun h=>?_) (fun h=>?_)⟩⟩
  ·have h:r.kd=0:=V.int.inj (of_decide_eq_true h)
   simp only [if_pos h] at q
   exact ⟨_,rfl,x.k,x.dk,_,rfl,hK.o,kfN (by decide +kernel),_,rfl,eE (.inl (.inl ht)) (v:=.int r.th) rfl ⟨_,rfl,eE (.inl (.inl ht)) (v:=.int r.w) rfl ⟨x,n,r.th,r.w,rfl,hK,hG,hn,ok.t0,ok.t1,ok.w1,ok.w2,q⟩⟩⟩
  have h:¬ r.kd=0:=fun z=>h (decide_eq_true (congrArg V.int z))
  simp only [if_neg h] at q
  refine ⟨_,rfl,eE (.inl (.inl ht)) (v:=.int r.kd) rfl ⟨rfl,_,rfl,fX (fun h2=>?_) (fun h2=>?_)⟩⟩
  ·have h2:r.kd=1:=V.int.inj (of_decide_eq_true h2)
   simp only [if_pos h2] at q
   exact ⟨_,rfl,x.k,x.dk,_,rfl,hK.o,kfN (by decide +kernel),_,rfl,eE (.inl (.inl ht)) (v:=.int r.th) rfl ⟨_,rfl,eE (.inl (.inl ht)) (v:=.int r.w) rfl ⟨x,n,r.th,r.w,rfl,hK,hG,hn,ok.t0,ok.t1,ok.w1,ok.w2,q⟩⟩⟩
  ·have h2:¬ r.kd=1:=fun z=>h2 (decide_eq_true (congrArg V.int z))
   simp only [if_neg h2] at q
   exact ⟨_,rfl,x.k,x.dk,_,rfl,hK.o,kfN (by decide +kernel),_,rfl,eE (.inl (.inl ht)) (v:=.int r.w) rfl ⟨x,n,r.w,rfl,hK,hG,q⟩⟩
inductive Tr where
 | f (v:V)
 | l (ts:List Tr)
 | t (ts:List Tr)
inductive Is (H:Hp) (P:Addr->Prop):Nat->V->Tr->Prop where
 | flat {n:Nat} {v:V} (h:qg v=true):Is H P n v (.f v)
 | lst {n:Nat} {a:Addr} {xs:List V} {ts:List Tr} (pa:P a) (ha:H a=some (.lst xs)) (hl:xs.length=ts.length) (h:∀ (i:Nat) (x:V) (t:Tr),xs[i]? = some x->ts[i]? = some t->Is H P n x t):Is H P (n+1) (.ref a) (.l ts)
 | tup {n:Nat} {a:Addr} {xs:List V} {ts:List Tr} (ha:H a=some (.tup xs)) (hl:xs.length=ts.length) (h:∀ (i:Nat) (x:V) (t:Tr),xs[i]? = some x->ts[i]? = some t->Is H P n x t):Is H P (n+1) (.ref a) (.t ts)
def Is.keep {H H':Hp} {P P':Addr->Prop} (k1:∀ b xs,P b->H b=some (.lst xs)->H' b=some (.lst xs)) (k2:∀ b xs,H b=some (.tup xs)->H' b=some (.tup xs)) (kp:∀ b,P b->P' b) {n:Nat} {v:V} {t:Tr} (h:Is H P n v t):Is H' P' n v t:=by
 induction h with
 | flat h=>exact .flat h
 | lst pa ha hl _ ih=>exact .lst (kp _ pa) (k1 _ _ pa ha) hl ih
 | tup ha hl _ ih=>exact .tup (k2 _ _ ha) hl ih
def Is.ad4 {H H':Hp} {P P':Addr->Prop} {n:Nat} {v:V} {t:Tr} (h:Is H P n v t) (k1:∀ b xs,P b->H b=some (.lst xs)->H' b=some (.lst xs)/\P' b) (k2:∀ b xs,H b=some (.tup xs)->H' b=some (.tup xs)):Is H' P' n v t:=by
 induction h with
 | flat h=>exact .flat h
 | lst pa ha hl _ ih=>exact .lst (k1 _ _ pa ha).2 (k1 _ _ pa ha).1 hl ih
 | tup ha hl _ ih=>exact .tup (k2 _ _ ha) hl ih
def Is.same {H H':Hp} {P:Addr->Prop} (s:Same H H') {n:Nat} {v:V} {t:Tr} (h:Is H P n v t):Is H' P n v t:=h.keep (fun _ _ _=>s _ _) (fun _ _=>s _ _) fun _ p=>p
/-- a list that is not in it may change -/
def Is.upd {H:Hp} {P:Addr->Prop} {L:Addr} {zs ys:List V} (hL:H L=some (.lst zs)) (n1:¬ P L) {n:Nat} {v:V} {t:Tr} (h:Is H P n v t):Is (L2.upd H L (.lst ys)) P n v t :=
 h.keep (fun b xs p e=>by rw [aA (fun z=>n1 (by rw [<- z];exact p))];exact e) (fun b xs e=>by rw [aA (iZ e hL (by intro z;cases z))];exact e) fun _ p=>p
def Is.alike {K:bh} {H:Hp} {P P':Addr->Prop} {n:Nat} {u:V} {t:Tr} (h:Is H P n u t):∀ {v:V},Is H P' n v t->Alike K H n u v:=by
 induction h with
 | flat h=>intro v g;cases g with | flat _=>exact .flat h
 | @lst n a xs ts _ ha hl _ ih =>
  intro v g
  cases g with
  | @lst _ b ys _ _ hb gl gh =>
   exact .lst (.inl (.inl ha)) (.inl (.inl hb)) (hl.trans gl.symm) fun i x y e1 e2=>by
    have li:i<ts.length:=by rw [<- hl];exact (gZ.mp e1).1
    exact ih i x _ e1 (gw li) (gh i y _ e2 (gw li))
 | @tup n a xs ts ha hl _ ih =>
  intro v g
  cases g with
  | @tup _ b ys _ hb gl gh =>
   exact .tup (.inl (.inl ha)) (.inl (.inl hb)) (hl.trans gl.symm) fun i x y e1 e2=>by
    have li:i<ts.length:=by rw [<- hl];exact (gZ.mp e1).1
    exact ih i x _ e1 (gw li) (gh i y _ e2 (gw li))
inductive IsL (H:Hp) (P:Addr->Prop) (n:Nat):List V->List Tr->Prop where
 | nil:IsL H P n [] []
 | cons {v:V} {t:Tr} {vs:List V} {ts:List Tr} (h:Is H P n v t) (r:IsL H P n vs ts):IsL H P n (v::vs) (t::ts)
def IsL.at {H:Hp} {P:Addr->Prop} {n:Nat} {vs:List V} {ts:List Tr} (h:IsL H P n vs ts):vs.length=ts.length/\∀ (i:Nat) (x:V) (t:Tr),vs[i]? = some x->ts[i]? = some t->Is H P n x t:=by
 induction h with
 | nil=>exact ⟨rfl,fun i x t e=>by cases i <;> cases e⟩
 | cons h _ ih =>
  refine ⟨congrArg (· + 1) ih.1,fun i x t e1 e2=>?_⟩
  cases i with
  | zero=>cases e1;cases e2;exact h
  | succ i=>exact ih.2 i x t e1 e2
def IsL.imp {H H':Hp} {P P':Addr->Prop} {n:Nat} {vs:List V} {ts:List Tr} (f:∀ v t,Is H P n v t->Is H' P' n v t) (h:IsL H P n vs ts):IsL H' P' n vs ts:=by
 induction h with
 | nil=>exact .nil
 | cons h _ ih=>exact .cons (f _ _ h) ih
def IsL.snoc {H:Hp} {P:Addr->Prop} {n:Nat} {vs:List V} {ts:List Tr} {v:V} {t:Tr} (h:IsL H P n vs ts) (g:Is H P n v t):IsL H P n (vs++[v]) (ts++[t]):=by
 induction h with
 | nil=>exact .cons g .nil
 | cons h _ ih=>exact .cons h ih
def Is.ofL {H:Hp} {P:Addr->Prop} {n:Nat} {a:Addr} {xs:List V} {ts:List Tr} (pa:P a) (ha:H a=some (.lst xs)) (h:IsL H P n xs ts):Is H P (n+1) (.ref a) (.l ts):=.lst pa ha h.at.1 h.at.2
def Is.ofT {H:Hp} {P:Addr->Prop} {n:Nat} {a:Addr} {xs:List V} {ts:List Tr} (ha:H a=some (.tup xs)) (h:IsL H P n xs ts):Is H P (n+1) (.ref a) (.t ts):=.tup ha h.at.1 h.at.2
def IsL.map {α:Type} {H:Hp} {P:Addr->Prop} {n:Nat} {f:α->V} {g:α->Tr}:∀ {xs:List α},(∀ x∈xs,Is H P n (f x) (g x))->IsL H P n (xs.map f) (xs.map g)
 | [],_=>.nil
 | x::r,h=>.cons (h x (eF ..)) (IsL.map fun y m=>h y (eU _ m))
abbrev iT (i:Int):Tr:=.f (.int i)
def kJ {H:Hp} {P:Addr->Prop} {n:Nat} (i:Int):Is H P n (.int i) (iT i):=.flat rfl
def JD {H:Hp} {P:Addr->Prop} {n:Nat} {a:Addr} {ns:List Int} (pa:P a) (h:H a=some (.lst (ns.map V.int))):Is H P (n+1) (.ref a) (.l (ns.map iT)):=.ofL pa h (.map fun i _=>kJ i)
/-- a list that grows: what is in it was not there before -/
structure Gw (H G:Hp) (L:Addr) (n:Nat) (xs:List V) (ts:List Tr):Prop where
 s:Same H G
 fL:H L=none
 gL:G L=some (.lst xs)
 is:IsL G (fun a=>H a=none/\a≠L) n xs ts
def Gw.same {H G G':Hp} {L:Addr} {n:Nat} {xs:List V} {ts:List Tr} (h:Gw H G L n xs ts) (s:Same G G'):Gw H G' L n xs ts:=⟨h.s.trans s,h.fL,s _ _ h.gL,h.is.imp fun _ _ q=>q.same s⟩
def Gw.push {H G G':Hp} {L:Addr} {n:Nat} {xs:List V} {ts:List Tr} {v:V} {t:Tr} (h:Gw H G L n xs ts) (s:Same G G') (g:Is G' (fun a=>G a=none) n v t):Gw H (L2.upd G' L (.lst (xs++[v]))) L n (xs++[v]) (ts++[t]):=by
 have gL:=s _ _ h.gL
 have g2:Is G' (fun a=>H a=none/\a≠L) n v t:=g.keep (fun _ _ _ e=>e) (fun _ _ e=>e) fun b p=>⟨h.s.free p,aL (ao h.gL p)⟩
 exact ⟨fun b o e=>by rw [aA (ao e h.fL)];exact s _ _ (h.s b o e),h.fL,ak,((h.is.imp fun _ _ q=>q.same s).snoc g2).imp fun _ _ q=>q.upd gL fun z=>z.2 rfl⟩
def Gw.done {H G:Hp} {L:Addr} {n:Nat} {xs:List V} {ts:List Tr} (h:Gw H G L n xs ts):Is G (fun a=>H a=none) (n+1) (.ref L) (.l ts):=.ofL h.fL h.gL (h.is.imp fun _ _ q=>q.keep (fun _ _ _ e=>e) (fun _ _ e=>e) fun _ p=>p.1)
open MK
def adu:∀ {c:Tab},(keys c).Nodup->∀ a∈c,∀ b∈c,a.1=b.1->a=b:=fun {c} nd a ma b mb e=>by
 have h1:=mH nd ma
 have h2:=mH nd mb
 rw [e,h2] at h1
 exact jj e (bZ h1).symm
def ad5 {α:Type} {le:α->α->Prop}:∀ {xs ys:List α},(∀ a∈xs,∀ b∈xs,le a b->le b a->a=b)->xs.Perm ys->xs.Pairwise le->ys.Pairwise le->xs=ys
 | [],ys,_,p,_,_=>by rw [Nu.mp p]
 | x::xs,[],_,p,_,_=>absurd p (by simp)
 | x::xs,y::ys,an,p,h1,h2=>by
  have a1:=gA.mp h1
  have a2:=gA.mp h2
  have m1:x∈y::ys:=p.mem_iff.mp eF
  have m2:y∈x::xs:=p.mem_iff.mpr eF
  have e:x=y:=by
   rcases cC.mp m1 with z | z
   ·exact z
   ·rcases cC.mp m2 with z' | z'
    ·exact z'.symm
    ·exact an x eF y m2 (a1.1 y z') (a2.1 x z)
  subst e
  rw [ad5 (fun a ma b mb=>an a (eU _ ma) b (eU _ mb)) (Qc p) a1.2 a2.2]
/-- the pairs by rising keys -/
def jZ (c:Tab):Tab:=c.mergeSort fun a b=>decide (a.1<=b.1)
def adv {c L:Tab} {M:Int} (nd:(keys c).Nodup) (p:L.Perm c) (hv:∀ q∈c,0<=q.2/\q.2<M) (h:L.Pairwise fun a b=>a.1*M+a.2<=b.1*M+b.2):L=jZ c:=by
 have h1:L.Pairwise fun a b:Int × Int=>a.1<=b.1:=afe (fun {a b} ma mb hab=>by
  have va:=hv a (p.mem_iff.mp ma)
  have vb:=hv b (p.mem_iff.mp mb)
  refine Int.le_of_not_gt fun g=>?_
  have:(b.1+1)*M<=a.1*M:=xZ (by omega) (by omega)
  rw [tW] at this
  omega) h
 have h2:(jZ c).Pairwise fun a b:Int × Int=>a.1<=b.1:=by
  have:=Fg (le:=fun a b:Int × Int=>decide (a.1<=b.1)) (fun a b c h1 h2=>by simp only [decide_eq_true_eq] at *; omega) (fun a b=>by simp only [GQ,decide_eq_true_eq];omega) c
  exact this.imp fun h=>of_decide_eq_true h
 exact ad5 (le:=fun a b:Int × Int=>a.1<=b.1) (fun a ma b mb e1 e2=>adu nd a (p.mem_iff.mp ma) b (p.mem_iff.mp mb) (by omega)) (p.trans (zM _ _).symm) h1 h2
def mxV:Tab->Int
 | []=>0
 | p::r=>max p.2 (mxV r)
def abZ:∀ {c:Tab} {p:Int × Int},p∈c->p.2<=mxV c
 | x::r,p,m=>by
  rcases cC.mp m with rfl | m
  ·exact Int.le_max_left _ _
  ·exact qO (abZ m) (Int.le_max_right _ _)
def pT (p:Int × Int):Tr:=.t [iT p.1,iT p.2]
def oT (o:Option Int):Tr:=.f (oV o)
def is_o {H:Hp} {P:Addr->Prop} {n:Nat} (o:Option Int):Is H P n (oV o) (oT o):=.flat (by cases o <;> rfl)
def Fd (room:Nat) (f:Fq):Tr:=.t [iT room,iT f.t,iT f.l,.l ((jZ f.c).map pT)]
def Vt (f:Rs):Tr:=.t [iT f.r,iT f.tt,iT f.ov,iT f.un,iT f.tn,oT f.mi,oT f.ma,.l (f.ls.map fun l=>.l (l.map iT))]
def bT (b:WN.Box):Tr:=.t [iT b.f,iT b.l,iT b.s]
def ad6 (room:Nat) (reach:Int) (f:Wi):Tr:=.t [iT room,iT reach,iT f.c,.l ((bx f.ps).map bT)]
noncomputable def ad7 (room:Nat) (f:Di):Tr:=.t [iT room,iT f.n,iT f.v,.l ((srt (My.up f.v f.C)).map iT)]
def ad8 (span:Int) (q:Q4):Tr:=.t [iT span,.l ((L4 q).map iT)]
noncomputable def ad9 (x:KS):Tr:=.l [iT x.room,iT x.reach,iT x.span,Fd x.room x.cm,Fd x.room x.wn,Vt x.up.x,Vt x.dn.x,ad6 x.room x.reach x.wi,ad7 x.room x.di,ad8 x.span x.ba.q]
def agy (A:Ad):Sp:=fun vs H Q _=>∃ (f:Fq) (room:Nat),vs=[.ref f.p]/\qC A H room f/\(keys f.c).Nodup/\(∀ p∈f.c,1<=p.2)/\f.c.length<=63/\∀ (t:Addr) (H':Hp),Same H H'->Is H' (fun a=>H a=none) 3 (.ref t) (Fd room f)->Q (.ref t) H'
def aea (T:Tx K mg A):cI P w K mg base CX0 1 A.QK A.pP ["_law_one"] (agy A):=by
 refine T.F'40.ok Dv (fun vs H Q E h=>?_) (fun cdv B outer s H vs Q E hr h=>?_)
 ·obtain ⟨f,room,rfl,_⟩:=h
  rfl
 ·obtain ⟨f,room,rfl,hF,nd,ps,ln,q⟩:=h
  refine ⟨_,(aF (cA (jP (aj (aJ (pv 0) rfl) (aj (aJ (pv 0) rfl) (aj (aJ (pv 0) rfl) (aj (dz Lf (by rfl) T.oF Ao (aj (zx (cl:=[("_law_one",s.heap.objs.size+1)]) (N:=["_law_thing","_law_one"]) (caps:=[0]) (tt:=_) (te:=(tTup (Kv _ (Kv (tOp (Sx K) (tFld K _ "counts") _) aat)))) rfl (by with_unfolding_all rfl) (by decide +kernel) rfl (by decide +kernel) ⟨rfl,trivial⟩ (rB (by with_unfolding_all rfl)) (by decide +kernel) rfl rfl rfl (fK.at (k:=1) (show fK _ _ _ _ 1 [0] from ⟨⟨"_law_one",_,rfl,rfl,.inl rfl,.inl rfl,rfl⟩,trivial⟩)) (fU (fu (gH rfl) (by rfl) T.pQ yd (aj (aJ (pv 0) rfl) au))) (fun _ _ _ _=>zq) (fun _ _ _ _=>(jP (aj (pv 0) (aj (cu (ixG (by exact bO hr)) (aJ (pv 1) rfl) (pv 0) (fun _ _=>rfl)) au))))) au)) au))))))),?_⟩
  refine ⟨_,rfl,rdF hF.o T.gO T.Ml (Vq ..) ⟨_,rfl,rdF hF.o T.gO T.Ce (CZ ..) ⟨_,rfl,rdF hF.o T.gO T.Cg (Jx ..) ?_⟩⟩⟩
  refine ⟨_,rfl,rdF hF.o T.gO T.vo (oH ..) (.inr ⟨f.d,_,rfl,.inl hF.d,fun p hp=>?_⟩)⟩
  rw [KY]
  have s1:=Same.new (o:=.lst ((keys f.c).map V.int)) hp
  have f1:(upd H p (.lst ((keys f.c).map V.int))) p=some (.lst ((keys f.c).map V.int)):=ak
  generalize upd H p (.lst ((keys f.c).map V.int))=H1 at s1 f1 ⊢
  refine ⟨p,rfl,⟨_,.inl (.inl f1)⟩,fun D hD=>?_⟩
  have kl:(keys f.c).length=f.c.length:=aZ _
  refine rM (K:=K) (a:=p) (xs:=(keys f.c).map V.int) (fun i ys G=>∃ zs:List (Addr × (Int × Int)),ys=zs.map (fun z=>V.ref z.1)/\zs.map (·.2)=f.c.take i/\G D=some (.lst ys)/\(∀ z∈zs,G z.1=some (.tup [.int z.2.1,.int z.2.2]))/\Same H1 G) ⟨[],rfl,rfl,ak,fun _ h=>(nomatch h),Same.new hD⟩ ?_ ?_ ?_ ?_
  ·rintro i ys G hi ⟨zs,rfl,ez,gD,gt,sG⟩
   refine ⟨.inl (.inl (sG _ _ f1)),gD,aO ?_⟩
   have:=congrArg kE ez
   rw [aZ,iw] at this
   rw [aZ];omega
  ·rintro i ys G x hx ⟨zs,rfl,ez,gD,gt,sG⟩
   obtain ⟨k,hk,rfl⟩:=int_at hx
   obtain ⟨z,hz,rfl⟩:∃ z,f.c[i]? = some z/\z.1=k:=by
    unfold keys at hk
    rw [kW] at hk
    cases e:f.c[i]? with
    | none=>rw [e] at hk;cases hk
    | some z=>rw [e] at hk;exact ⟨z,rfl,bZ hk⟩
   have hG:=hF.same (s1.trans sG)
   refine ⟨_,rfl,_,rfl,rdF hG.o T.gO T.vo (oH ..) ⟨_,rfl,adO (.inl hG.d) (K9 (mH nd (List.mem_of_getElem? hz))) ⟨by show 2<=sizeLine;decide,fun t ht=>?_⟩⟩⟩
   have nt:D≠t:=ao gD ht
   refine ⟨by rw [aA nt];exact gD,zs++[(t,z)],by rw [cW];rfl,?_,ak,fun y m=>?_,fun b o e=>?_⟩
   ·rw [cW,ez,lY,hz];rfl
   ·rcases gB.mp m with m | m
    ·have h1:=gt y m
     rw [aA (iZ h1 gD (by intro z;cases z)),aA (ao h1 ht)];exact h1
    ·rw [fP.mp m,aA (aL nt),ak]
   ·rw [aA (ao e hD),aA (ao (sG b o e) ht)];exact sG b o e
  ·rintro ys G ⟨zs,rfl,ez,gD,gt,sG⟩
   rw [aZ,kl,lZ] at ez
   have zin:∀ z∈zs,z.2∈f.c:=fun z m=>by rw [<- ez];exact Fl m
   refine ⟨D,zs,mxV f.c+1,rfl,gD,by have:=congrArg kE ez;rw [aZ] at this;omega,fun z m=>⟨gt z m,by have:=ps _ (zin z m);omega,by have:=abZ (zin z m);omega⟩,fun l zs' hl pm so=>⟨by show 4<=sizeLine;decide,fun t ht=>?_⟩⟩
   have e2:zs'.map (·.2)=jZ f.c:=adv (M:=mxV f.c+1) nd (by rw [<- ez];exact pm.map _) (fun w m=>⟨by have:=ps _ m;omega,by have:=abZ m;omega⟩) (zN.mpr so)
   have sl:=Same.new (o:=.lst (zs'.map fun z=>V.ref z.1)) hl
   have st:Same G (upd (upd G l (.lst (zs'.map fun z=>V.ref z.1))) t (.tup [.int room,.int f.t,.int f.l,.ref l])):=sl.trans (Same.new ht)
   refine q t _ (s1.trans (sG.trans st)) (.ofT ak (.cons (kJ _) (.cons (kJ _) (.cons (kJ _) (.cons (.ofL (xs:=zs'.map fun z=>V.ref z.1) ((s1.trans sG).free hl) ?_ ?_) .nil)))))
   ·rw [aA (ao ak ht)];exact ak
   ·rw [<- e2,iM]
    exact .map fun z m=>.ofT (st _ _ (gt z (pm.mem_iff.mp m))) (.cons (kJ _) (.cons (kJ _) .nil))
  ·exact abh (oA (dO 0) (oA (Vc (Lz (dO 1)) (dO 0)) vd))
def adw (A:Ad):Sp:=fun vs H Q _=>∃ (p:Addr) (f:Rs),vs=[.ref p]/\RnX A H p f/\f.ls.length<=400/\∀ (t:Addr) (H':Hp),Same H H'->Is H' (fun a=>H a=none) 3 (.ref t) (Vt f)->Q (.ref t) H'
def aeb (T:Tx K mg A):cI P w K mg base CX0 1 A.QL A.wW ["_law_one"] (adw A):=by
 refine T.F'41.ok CN (fun vs H Q E h=>?_) (fun cdv B outer s H vs Q E hr h=>?_)
 ·obtain ⟨p,f,rfl,_⟩:=h
  rfl
 ·obtain ⟨p,f,rfl,hF,ln,q⟩:=h
  refine ⟨_,(aq (pD (i:=1) (cl:=[]) (N:=["_law_things"]) (caps:=[]) (tt:=_) (te:=(tCB (aaF K) (Kv _ aat))) CN.nd rfl (Or.inl rfl) rfl (by with_unfolding_all rfl) (by decide +kernel) rfl (by decide +kernel) trivial (rB (by with_unfolding_all rfl)) (by decide +kernel) rfl rfl rfl (fK.at (k:=1) (show fK _ _ _ _ 1 [] from trivial)) (fU (aJ (pv 0) rfl)) (fun _ _ _ _=>zq) (fun _ _ _ _=>(fu (gH rfl) (by rfl) T.pQ yd (aj (pv 0) au))))
   (aF (cA (jP (aj (aJ (pv 0) rfl) (aj (aJ (pv 0) rfl) (aj (aJ (pv 0) rfl) (aj (aJ (pv 0) rfl) (aj (aJ (pv 0) rfl) (aj (aJ (pv 0) rfl) (aj (aJ (pv 0) rfl) (aj (pv 1) au)))))))))))),?_⟩
  refine ⟨_,rfl,rdF hF.o T.cG T.BZ (CV ..) ⟨f.a,rfl,⟨_,.inl (.inl hF.l.o)⟩,fun D hD=>?_⟩⟩
  refine rM (K:=K) (a:=f.a) (xs:=f.bs.map V.ref) (fun i ys G=>∃ zs:List Addr,ys=zs.map V.ref/\zs.length=i/\(∀ (j:Nat) (b:Addr) (l:List Int),zs[j]? = some b->f.ls[j]? = some l->G b=some (.lst (l.map V.int))/\b≠D/\H b=none)/\G D=some (.lst ys)/\Same H G) ⟨[],rfl,rfl,fun j b l e=>by (cases j <;> cases e),ak,Same.new hD⟩ ?_ ?_ ?_ ?_
  ·rintro i ys G hi ⟨zs,rfl,lz,gz,gD,sG⟩
   refine ⟨.inl (.inl (sG _ _ hF.l.o)),gD,aO ?_⟩
   rw [aZ] at hi ⊢
   have:=hF.l.n
   omega
  ·rintro i ys G x hx ⟨zs,rfl,lz,gz,gD,sG⟩
   rw [kW] at hx
   cases eb:f.bs[i]? with
   | none=>rw [eb] at hx;cases hx
   | some b =>
    rw [eb] at hx
    obtain rfl:=bZ hx
    have li:i<f.ls.length:=by rw [<- hF.l.n];exact (gZ.mp eb).1
    have el:=gw li
    have hb:=hF.l.e i b _ eb el
    refine ⟨_,rfl,.inl ⟨b,_,rfl,.inl (.inl (.inl (sG _ _ hb))),fun t ht=>?_⟩⟩
    have nt:D≠t:=ao gD ht
    refine ⟨by rw [aA nt];exact gD,zs++[t],by rw [cW];rfl,by rw [dR,lz];rfl,fun j c l e1 e2=>?_,ak,fun c o e=>?_⟩
    ·rcases nR j zs.length with lj | lj
     ·rw [JQ lj] at e1
      obtain ⟨g1,g2,g3⟩:=gz j c l e1 e2
      exact ⟨by rw [aA g2,aA (ao g1 ht)];exact g1,g2,g3⟩
     ·rw [JN lj] at e1
      obtain ⟨j0,rfl⟩:∃ h:j-zs.length=0,c=t:=by
       cases hj:j-zs.length with
       | zero=>rw [hj] at e1;exact ⟨rfl,(bZ e1).symm⟩
       | succ m=>rw [hj] at e1;cases e1
      obtain rfl:j=i:=by omega
      rw [el] at e2
      obtain rfl:=bZ e2
      exact ⟨by rw [aA (aL nt)];exact ak,aL nt,sG.free ht⟩
    ·rw [aA (ao e hD),aA (ao (sG c o e) ht)];exact sG c o e
  ·rintro ys G ⟨zs,rfl,lz,gz,gD,sG⟩
   have hG:=hF.same sG
   rw [aZ,hF.l.n] at lz
   refine ⟨_,rfl,rdF hG.o T.cG T.Mf (Vk ..) ⟨_,rfl,rdF hG.o T.cG T.yu (vC ..) ⟨_,rfl,rdF hG.o T.cG T.BP (Jl ..) ⟨_,rfl,rdF hG.o T.cG T.BR (CQ ..) ⟨_,rfl,rdF hG.o T.cG T.ql (lU ..) ⟨_,rfl,rdF hG.o T.cG T.BW (CT ..) ⟨_,rfl,rdF hG.o T.cG T.BX (Jm ..) ⟨_,rfl,by show 8<=sizeLine;decide,fun t ht=>?_⟩⟩⟩⟩⟩⟩⟩⟩
   have st:=Same.new (o:=.tup [.int f.r,.int f.tt,.int f.ov,.int f.un,.int f.tn,oV f.mi,oV f.ma,.ref D]) ht
   refine q t _ (sG.trans st) (.ofT ak (.cons (kJ _) (.cons (kJ _) (.cons (kJ _) (.cons (kJ _) (.cons (kJ _) (.cons (is_o _) (.cons (is_o _) (.cons (.lst hD (st _ _ gD) ?_ ?_) .nil)))))))))
   ·rw [aZ,aZ,lz]
   ·intro i x tr e1 e2
    rw [kW] at e1 e2
    cases ez:zs[i]? with
    | none=>rw [ez] at e1;cases e1
    | some b =>
     cases el:f.ls[i]? with
     | none=>rw [el] at e2;cases e2
     | some l =>
      rw [ez] at e1
      rw [el] at e2
      obtain rfl:=bZ e1
      obtain rfl:=bZ e2
      exact JD (gz i b l ez el).2.2 (st _ _ (gz i b l ez el).1)
  ·exact Vd (fun vs H Q Q' hq h=>by
    rcases h with ⟨p,ys,e,s,k⟩ | ⟨a,kvs,e,r,k⟩
    ·exact .inl ⟨p,ys,e,s,fun l hl=>hq _ _ (k l hl)⟩
    ·exact .inr ⟨a,kvs,e,r,fun l hl=>hq _ _ (k l hl)⟩) (oA (dO 0) vd)
/-- the window's part of what is told,the seen things',the sums' -/
def ab0 {G:Hp} {l q:Addr} {ps:List Bp} {n:Nat} {P:Addr->Prop} (pq:P q) (hb:Bxs G l ps) (hq:G q=some (.lst (ps.map fun p=>V.ref p.1))):Is G P (n+2) (.ref q) (.l ((bx ps).map bT)):=by
 refine .ofL pq hq ?_
 unfold bx
 rw [iM]
 exact .map fun p m=>.ofT (hb.t p m) (.cons (kJ _) (.cons (kJ _) (.cons (kJ _) .nil)))
open MK
def adx (A:Ad):Sp:=fun vs H Q _=>∃ (x:KS) (n:Nat),vs=[.ref x.k]/\Kp A H x/\Kh x n/\∀ (v:Addr) (H':Hp),Same H H'->Is H' (fun a=>H a=none) 4 (.ref v) (ad9 x)->Q (.ref v) H'
def aec (T:Tx K mg A):cI P w K mg base CX0 2 A.QM A.wX ["_law_keepsake"] (adx A):=by
 refine T.F'42.ok pU (fun vs H Q E h=>?_) (fun cdv B outer s H vs Q E hr h=>?_)
 ·obtain ⟨x,n,rfl,_⟩:=h
  rfl
 ·obtain ⟨x,n,rfl,hK,hG,q⟩:=h
  obtain ⟨W1,ok1⟩:=hG.cm.ok
  obtain ⟨W2,ok2⟩:=hG.wn.ok
  have r64:=hG.r64
  have lu:=jM hG.up.g hG.up.t hG.few
  have ld:=jM hG.dn.g hG.dn.t hG.few
  have hP:=hK.pp
  refine ⟨_,(aq (aU (i:=1) pU.nd rfl (Or.inl rfl) (aJ (pv 0) rfl))
   (aq (aU (i:=2) pU.nd rfl (Or.inl rfl) (aJ (pv 0) rfl))
   (aq (aU (i:=3) pU.nd rfl (Or.inl rfl) (cM (aj (aJ (pv 0) rfl) (aj (aJ (pv 0) rfl) (aj (aJ (pv 0) rfl) (aj (aQ (aea T) (hr.mono (by decide)) rfl T.vA T.F'40.kp T.b'40 .nil aV (aj (aJ (pv 0) rfl) au)) (aj (aQ (aea T) (hr.mono (by decide)) rfl T.vA T.F'40.kp T.b'40 .nil aV (aj (aJ (pv 0) rfl) au)) au)))))))
   (aq (aY (d9 fJ iQ iR cF (pv 3) (aj (aQ (aeb T) (hr.mono (by decide)) rfl T.Es T.F'41.kp T.b'41 .nil aV (aj (aJ (pv 0) rfl) au)) au)))
   (aq (aY (d9 fJ iQ iR cF (pv 3) (aj (aQ (aeb T) (hr.mono (by decide)) rfl T.Es T.F'41.kp T.b'41 .nil aV (aj (aJ (pv 0) rfl) au)) au)))
   (aq (aY (d9 fJ iQ iR cF (pv 3) (aj (jP (aj (aJ (pv 1) rfl) (aj (aJ (pv 1) rfl) (aj (aJ (pv 1) rfl) (aj (fu (gH rfl) (by rfl) T.pQ yd (aj (aJ (pv 1) rfl) au)) au))))) au)))
   (aq (aY (d9 fJ iQ iR cF (pv 3) (aj (jP (aj (aJ (pv 2) rfl) (aj (aJ (pv 2) rfl) (aj (aJ (pv 2) rfl) (aj (fu (gH rfl) (by rfl) T.pQ yd (aj (aJ (pv 2) rfl) au)) au))))) au)))
   (aq (aY (d9 fJ iQ iR cF (pv 3) (aj (jP (aj (aJ (aJ (pv 0) rfl) rfl) (aj (fu (gH rfl) (by rfl) T.pQ yd (aj (aJ (aJ (pv 0) rfl) rfl) au)) au))) au)))
   (aF (cA (pv 3))))))))))),?_⟩
  refine ⟨_,rfl,rdF hK.o T.cH T.yC (oJ ..) ⟨_,rfl,rdF hK.o T.cH T.yD (vI ..) ?_⟩⟩
  refine ⟨_,rfl,rdF hK.o T.cH T.Mp (Vs ..) ⟨_,rfl,rdF hK.o T.cH T.Mq (MN ..) ⟨_,rfl,rdF hK.o T.cH T.Ci (zH ..) ?_⟩⟩⟩
  refine ⟨_,rfl,rdF hK.o T.cH T.En (Jz ..) ⟨x.cm,x.room,rfl,hP.cm,ok1.nd,ok1.pos,by have:=hG.cm.k;have:=hG.few;omega,fun t1 H1 s1 i1=>?_⟩⟩
  refine ⟨_,rfl,rdF (s1 _ _ hK.o) T.cH T.Eo (JB ..) ⟨x.wn,x.room,rfl,hP.wn.same s1,ok2.nd,ok2.pos,by have:=hG.wn.k;have:=hG.few;omega,fun t2 H2 s2 i2=>⟨by show 5<=sizeLine;decide,fun L hL=>?_⟩⟩⟩
  have s12:=s1.trans s2
  have WL:Gw H (upd H2 L (.lst [.int x.room,.int x.reach,.int x.span,.ref t1,.ref t2])) L 3 [.int x.room,.int x.reach,.int x.span,.ref t1,.ref t2] [iT x.room,iT x.reach,iT x.span,Fd x.room x.cm,Fd x.room x.wn]:=by
   have sL:=Same.new (o:=.lst [.int x.room,.int x.reach,.int x.span,.ref t1,.ref t2]) hL
   have fl:∀ a,H1 a=none->H a=none:=fun a e=>s1.free e
   have nl:∀ {a:Addr} {xs:List V},H2 a=some (.lst xs)->a≠L:=fun e=>ao e hL
   refine ⟨s12.trans sL,s12.free hL,ak,.cons (kJ _) (.cons (kJ _) (.cons (kJ _) (.cons ?_ (.cons ?_ .nil))))⟩
   ·exact (i1.same s2).ad4 (fun b xs p e=>⟨sL _ _ e,p,nl e⟩) fun b xs e=>sL _ _ e
   ·exact i2.ad4 (fun b xs p e=>⟨sL _ _ e,fl _ p,nl e⟩) fun b xs e=>sL _ _ e
  generalize upd H2 L (.lst [.int x.room,.int x.reach,.int x.span,.ref t1,.ref t2])=G0 at WL ⊢
  have P0:=hP.same WL.s
  refine ⟨_,rfl,.inl ⟨rfl,_,.inl (.inl WL.gL)⟩,_,rfl,rdF (WL.s _ _ hK.o) T.cH T.Ep (abU ..) ⟨x.up.p,x.up.x,rfl,P0.up,by omega,fun t4 G4 s4 i4=>?_⟩⟩
  refine ⟨L,_,_,rfl,rfl,s4 _ _ WL.gL,aO (by simp),?_⟩
  have W5:=WL.push s4 i4
  generalize upd G4 L _=G5 at W5 ⊢
  have P5:=hP.same W5.s
  refine ⟨_,rfl,.inl ⟨rfl,_,.inl (.inl W5.gL)⟩,_,rfl,rdF (W5.s _ _ hK.o) T.cH T.Er (JC ..) ⟨x.dn.p,x.dn.x,rfl,P5.dn,by omega,fun t6 G6 s6 i6=>?_⟩⟩
  refine ⟨L,_,_,rfl,rfl,s6 _ _ W5.gL,aO (by simp),?_⟩
  have W7:=W5.push s6 i6
  generalize upd G6 L _=G7 at W7 ⊢
  have P7:=hP.same W7.s
  refine ⟨_,rfl,.inl ⟨rfl,_,.inl (.inl W7.gL)⟩,?_⟩
  refine ⟨_,rfl,rdF P7.wi.o T.fO T.Mh (Vl ..) ⟨_,rfl,rdF P7.wi.o T.fO T.Mi (Mw ..) ⟨_,rfl,rdF P7.wi.o T.fO T.qm (lV ..) ⟨_,rfl,rdF P7.wi.o T.fO T.yw (vG ..) (.inl ⟨_,_,rfl,.inl (.inl (.inl P7.wi.b.l)),fun q1 hq1=>⟨by show 4<=sizeLine;decide,fun t1 ht1=>?_⟩⟩)⟩⟩⟩⟩
  have sq1:=(Same.new (o:=.lst (x.wi.ps.map fun p=>V.ref p.1)) hq1).trans (Same.new (o:=.tup [.int x.room,.int x.reach,.int x.wi.c,.ref q1]) ht1)
  have gq1:(upd (upd G7 q1 (.lst (x.wi.ps.map fun p=>V.ref p.1))) t1 (.tup [.int x.room,.int x.reach,.int x.wi.c,.ref q1])) q1=some (.lst (x.wi.ps.map fun p=>V.ref p.1)):=by rw [aA (ao ak ht1)];exact ak
  have gt1:(upd (upd G7 q1 (.lst (x.wi.ps.map fun p=>V.ref p.1))) t1 (.tup [.int x.room,.int x.reach,.int x.wi.c,.ref q1])) t1=some (.tup [.int x.room,.int x.reach,.int x.wi.c,.ref q1]):=ak
  generalize upd (upd G7 q1 (.lst (x.wi.ps.map fun p=>V.ref p.1))) t1 (.tup [.int x.room,.int x.reach,.int x.wi.c,.ref q1])=GW at sq1 gq1 gt1 ⊢
  have TW:Is GW (fun a=>G7 a=none) 3 (.ref t1) (ad6 x.room x.reach x.wi):=.ofT gt1 (.cons (kJ _) (.cons (kJ _) (.cons (kJ _) (.cons (ab0 hq1 (P7.wi.b.same sq1) gq1) .nil))))
  refine ⟨L,_,_,rfl,rfl,sq1 _ _ W7.gL,aO (by simp),?_⟩
  have WNW:=W7.push sq1 TW
  generalize upd GW L _=GNW at WNW ⊢
  have PNW:=hP.same WNW.s
  refine ⟨_,rfl,.inl ⟨rfl,_,.inl (.inl WNW.gL)⟩,?_⟩
  refine ⟨_,rfl,rdF PNW.di.o T.gM T.Mj (Vm ..) ⟨_,rfl,rdF PNW.di.o T.gM T.Ca (rG ..) ⟨_,rfl,rdF PNW.di.o T.gM T.vm (oG ..) ⟨_,rfl,rdF PNW.di.o T.gM T.yx (zE ..) (.inl ⟨_,_,rfl,.inl (.inl (.inl PNW.di.l)),fun q2 hq2=>⟨by show 4<=sizeLine;decide,fun t2 ht2=>?_⟩⟩)⟩⟩⟩⟩
  have sq2:=(Same.new (o:=.lst ((srt (My.up x.di.v x.di.C)).map V.int)) hq2).trans (Same.new (o:=.tup [.int x.room,.int x.di.n,.int x.di.v,.ref q2]) ht2)
  have gq2:(upd (upd GNW q2 (.lst ((srt (My.up x.di.v x.di.C)).map V.int))) t2 (.tup [.int x.room,.int x.di.n,.int x.di.v,.ref q2])) q2=some (.lst ((srt (My.up x.di.v x.di.C)).map V.int)):=by rw [aA (ao ak ht2)];exact ak
  have gt2:(upd (upd GNW q2 (.lst ((srt (My.up x.di.v x.di.C)).map V.int))) t2 (.tup [.int x.room,.int x.di.n,.int x.di.v,.ref q2])) t2=some (.tup [.int x.room,.int x.di.n,.int x.di.v,.ref q2]):=ak
  generalize upd (upd GNW q2 (.lst ((srt (My.up x.di.v x.di.C)).map V.int))) t2 (.tup [.int x.room,.int x.di.n,.int x.di.v,.ref q2])=GD at sq2 gq2 gt2 ⊢
  have TD:Is GD (fun a=>GNW a=none) 3 (.ref t2) (ad7 x.room x.di):=.ofT gt2 (.cons (kJ _) (.cons (kJ _) (.cons (kJ _) (.cons (JD hq2 gq2) .nil))))
  refine ⟨L,_,_,rfl,rfl,sq2 _ _ WNW.gL,aO (by simp),?_⟩
  have WND:=WNW.push sq2 TD
  generalize upd GD L _=GND at WND ⊢
  have PND:=hP.same WND.s
  refine ⟨_,rfl,.inl ⟨rfl,_,.inl (.inl WND.gL)⟩,?_⟩
  refine ⟨_,rfl,rdF (WND.s _ _ hK.o) T.cH T.yE (lX ..) (rdF PND.ba.o T.rD T.Vh (adi ..) ⟨_,rfl,rdF (WND.s _ _ hK.o) T.cH T.yE (lX ..) (rdF PND.ba.o T.rD T.vp (zG ..) (.inl ⟨_,_,rfl,.inl (.inl (.inl PND.ba.l)),fun q3 hq3=>⟨by show 2<=sizeLine;decide,fun t3 ht3=>?_⟩⟩))⟩)⟩
  have sq3:=(Same.new (o:=.lst ((L4 x.ba.q).map V.int)) hq3).trans (Same.new (o:=.tup [.int x.span,.ref q3]) ht3)
  have gq3:(upd (upd GND q3 (.lst ((L4 x.ba.q).map V.int))) t3 (.tup [.int x.span,.ref q3])) q3=some (.lst ((L4 x.ba.q).map V.int)):=by rw [aA (ao ak ht3)];exact ak
  have gt3:(upd (upd GND q3 (.lst ((L4 x.ba.q).map V.int))) t3 (.tup [.int x.span,.ref q3])) t3=some (.tup [.int x.span,.ref q3]):=ak
  generalize upd (upd GND q3 (.lst ((L4 x.ba.q).map V.int))) t3 (.tup [.int x.span,.ref q3])=GB at sq3 gq3 gt3 ⊢
  have TB:Is GB (fun a=>GND a=none) 3 (.ref t3) (ad8 x.span x.ba.q):=.ofT gt3 (.cons (kJ _) (.cons (JD hq3 gq3) .nil))
  refine ⟨L,_,_,rfl,rfl,sq3 _ _ WND.gL,aO (by simp),?_⟩
  have WNB:=WND.push sq3 TB
  generalize upd GB L _=GNB at WNB ⊢
  have PNB:=hP.same WNB.s
  exact ⟨_,rfl,q _ _ WNB.s WNB.done⟩
open MK
/-- what is left to write -/
def agz (σ:St) (_:Hp):Nat:=match σ with
 | [_,_,some (.int x)]=>x.toNat
 | _=>0
def log2_small {k:Nat} {i:Int} (h:i.natAbs<2 ^ k) (hk:0<k):i.natAbs.log2<k:=by
 by_cases z:i.natAbs=0
 ·rw [z];exact hk
 ·exact (OJ z).mpr h
def Vu (css:List (List Char)):eV (bM "") ((css.map Dec.tx).reverse)=Dec.tx css.reverse.flatten:=by
 rw [<- uJ,show bM "" = (⟨#[]⟩:Str) by decide +kernel];exact Dec.join_none _
def ab1 (css:List (List Char)):((css.map Dec.tx).map (·.length)).sum=css.reverse.flatten.length:=by
 rw [List.length_flatten,uJ,Xu,iM]
 exact congrArg List.sum (vK fun c _=>Dec.wR c)
def spFig:Sp:=fun vs H Q _=>∃ n:Int,vs=[.int n]/\n.natAbs<2 ^ 1000/\∀ H',Same H H'->Q (.str (bM (toString n))) H'
def aed (T:Tx K mg A):cI P w K mg base CX0 1 A.QS A.wY ["number"] spFig:=by
 refine T.F'43.ok pW (fun vs H Q E h=>?_) (fun cdv B outer s H vs Q E hr h=>?_)
 ·obtain ⟨n,rfl,_⟩:=h
  rfl
 ·obtain ⟨n,rfl,hn,q⟩:=h
  obtain ⟨_,JF,JG⟩:=T.acT
  obtain ⟨_,yW,yX⟩:=T.yN
  refine ⟨_,(aq (aU (i:=1) pW.nd rfl (Or.inl rfl) (cM au))
   (aq (aU (i:=2) pW.nd rfl (Or.inl rfl) (dz Wv (by rfl) T.n_abs aeu (aj (pv 0) au)))
   (aq (qX jD (cg aao (pv 2) (o8 (v:=.int 1000000000000000000000000000000) rfl JF JG) (cP _)) (aq (aY (d9 fJ iQ iR cF (pv 1) (aj (d9 Aj PySem.F.slot_str_zfill PySem.F.type_str_zfill abn (fu pA (by rfl) T.Vj Hj (aj (aM dF (pv 2) (o8 (v:=.int 1000000000000000000000000000000) rfl JF JG)) au)) (aj (o8 (v:=.int 30) rfl yW yX) au)) au)))
   (aF (aU (i:=2) pW.nd rfl (Or.inl rfl) (aM abo (pv 2) (o8 (v:=.int 1000000000000000000000000000000) rfl JF JG))))))
   (aq (aY (d9 fJ iQ iR cF (pv 1) (aj (fu pA (by rfl) T.Vj Hj (aj (pv 2) au)) au)))
   (aq (gG (cg Ku (pv 0) aC (cP _)) (aF (aY (d9 fJ iQ iR cF (pv 1) (aj dX au)))) eY)
   (aF (cA (Tn T.uE dX (aj (pv 1) au) rfl)))))))),?_⟩
  refine ⟨by show 0<=sizeLine;decide,fun L hL=>?_⟩
  have s1:=Same.new (o:=.lst []) hL
  have f1:(upd H L (.lst [])) L=some (.lst (([]:List (List Char)).map fun c=>V.str (Dec.tx c))):=ak
  generalize upd H L (.lst [])=H1 at s1 f1 ⊢
  refine ⟨_,rfl,n,rfl,?_⟩
  have e:(if n<0 then -n else n)=(n.natAbs:Int):=by split <;> omega
  rw [e]
  have pE:(1000000000000000000000000000000:Nat)=10 ^ 30:=by decide
  refine qZ (fun σ G=>∃ (ps:List (List Char)) (m:Nat),σ=[some (.int n),some (.ref L),some (.int (m:Int))]/\G L=some (.lst (ps.map fun c=>V.str (Dec.tx c)))/\Same H G/\Dec.dg n.natAbs=Dec.dg m++ps.reverse.flatten/\ps.length<1000/\m*2 ^ ps.length<=n.natAbs) agz ⟨[],n.natAbs,rfl,f1,s1,by simp,by decide,by simp⟩ ?_
   (fun σ H Q Q' hq ⟨v,e,i,j,e1,e2,k,e3,q⟩=>⟨v,e,i,j,e1,e2,k,e3,hq _ _ q⟩)
  rintro σ G ⟨ps,m,rfl,gL,sG,ed,lp,mp⟩
  refine ⟨_,rfl,_,_,rfl,rfl,_,rfl,fX (fun h=>?_) (fun h=>?_)⟩
  ·have h:1000000000000000000000000000000<=m:=by have:=of_decide_eq_true h;omega
   refine ⟨_,rfl,.inl ⟨rfl,_,.inl (.inl gL)⟩,?_⟩
   refine ⟨_,rfl,_,_,rfl,rfl,(by show (0:Int)<1000000000000000000000000000000;decide),(m:Int) % 1000000000000000000000000000000,rfl,?_,?_⟩
   ·have e2:(2:Nat) ^ 100=1267650600228229401496703205376:=by decide
    exact lA (log2_small (k:=100) (by omega) (by decide)) (by decide)
   have ei:(m:Int) % 1000000000000000000000000000000=((m % 10 ^ 30:Nat):Int):=by rw [<- pE];omega
   have eq:(m:Int) / 1000000000000000000000000000000=((m / 10 ^ 30:Nat):Int):=by rw [<- pE];omega
   have ml:m % 10 ^ 30<10 ^ 30:=Nat.mod_lt _ (by decide)
   have zt:Hv (bM (toString ((m:Int) % 1000000000000000000000000000000))) 30=Dec.tx (Dec.pad 30 (m % 10 ^ 30)):=by rw [ei,Dec.vg];exact Dec.abm (by decide) ml
   refine ⟨rfl,_,30,rfl,rfl,by decide,?_⟩
   rw [zt]
   refine ⟨L,_,_,rfl,rfl,gL,aO (by rw [aZ];omega),?_⟩
   have m1:0<m / 10 ^ 30:=Nat.div_pos (by rw [<- pE];exact h) (by decide)
   have lt2:m / 10 ^ 30*2<=m:=by rw [<- pE];omega
   have p2:m / 10 ^ 30*2 ^ (ps.length+1)<=n.natAbs:=by
    have e2:2 ^ (ps.length+1)=2*2 ^ ps.length:=by rw [lq,Gy]
    rw [e2,<- oR]
    exact fH (xX _ lt2) mp
   refine ⟨_,rfl,_,_,rfl,rfl,⟨by decide,by decide⟩,⟨ps++[Dec.pad 30 (m % 10 ^ 30)],m / 10 ^ 30,by rw [<- eq];rfl,?_,fun b o e=>?_,?_,?_,by rw [dR];exact p2⟩,?_⟩
   ·rw [cW];exact ak
   ·rw [aA (ao e hL)];exact sG b o e
   ·have:=Dec.LR m1 30 (by decide) ml
    rw [show m / 10 ^ 30*10 ^ 30+m % 10 ^ 30=m from Nat.div_add_mod' _ _] at this
    rw [ed,Ni,this,iU];rfl
   ·rw [dR]
    show ps.length+1<1000
    rcases nR (ps.length+1) 1000 with z | z
    ·exact z
    ·have h1:=Af (show 0<2 by decide) z
     have h2:=xX (2 ^ (ps.length+1)) m1
     omega
   ·show ((m:Int) / 1000000000000000000000000000000).toNat<(m:Int).toNat
    omega
  ·have cl:(Dec.dg n.natAbs).length<=400:=Dec.wQ 400 (by decide) (lA hn (by decide))
   refine ⟨_,rfl,.inl ⟨rfl,_,.inl (.inl gL)⟩,_,rfl,(m:Int),rfl,?_,?_⟩
   ·have:m<=n.natAbs:=fH (Nat.le_mul_of_pos_right _ (Nat.two_pow_pos _)) mp
    exact lA (log2_small (k:=1000) (by omega) (by decide)) (by decide)
   rw [Dec.vg]
   refine ⟨L,_,_,rfl,rfl,gL,aO (by rw [aZ];omega),?_⟩
   have g2:(upd G L (.lst (ps.map (fun c=>V.str (Dec.tx c))++[V.str (Dec.tx (Dec.dg m))]))) L=some (.lst ((ps++[Dec.dg m]).map fun c=>V.str (Dec.tx c))):=by rw [cW];exact ak
   have s2:Same H (upd G L (.lst (ps.map (fun c=>V.str (Dec.tx c))++[V.str (Dec.tx (Dec.dg m))]))):=fun b o e=>by rw [aA (ao e hL)];exact sG b o e
   generalize upd G L (.lst (ps.map (fun c=>V.str (Dec.tx c))++[V.str (Dec.tx (Dec.dg m))]))=G2 at g2 s2 ⊢
   have fl:(ps++[Dec.dg m]).reverse.flatten=Dec.dg n.natAbs:=by rw [ed,Ni];rfl
   have ll:(ps++[Dec.dg m]).length<=1000:=by rw [dR];show ps.length+1<=1000;omega
   generalize ps++[Dec.dg m]=css at g2 fl ll
   refine ⟨_,rfl,_,_,rfl,rfl,_,rfl,fX (fun h0=>?_) (fun h0=>?_)⟩
   ·have h0:n<0:=of_decide_eq_true h0
    refine ⟨_,rfl,.inl ⟨rfl,_,.inl (.inl g2)⟩,L,_,_,rfl,rfl,g2,aO (by rw [aZ];omega),?_⟩
    have g3:(upd G2 L (.lst (css.map (fun c=>V.str (Dec.tx c))++[V.str (bM "-")]))) L=some (.lst (((css++[['-']]).map Dec.tx).map V.str)):=by
     rw [ak,show bM "-" = Dec.tx ['-'] by decide +kernel,cW,cW,iM];rfl
    have s3:Same H (upd G2 L (.lst (css.map (fun c=>V.str (Dec.tx c))++[V.str (bM "-")]))):=fun b o e=>by rw [aA (ao e hL)];exact s2 b o e
    generalize upd G2 L (.lst (css.map (fun c=>V.str (Dec.tx c))++[V.str (bM "-")]))=G3 at g3 s3 ⊢
    have e1:(css++[['-']]).reverse.flatten = '-'::Dec.dg n.natAbs:=by rw [Ni,<- fl];rfl
    refine ⟨bM "",rfl,_,rfl,L,(css++[['-']]).map Dec.tx,rfl,.inl (.inl g3),by decide +kernel,?_,?_⟩
    ·rw [ab1,e1,aZ,dR]
     show (Dec.dg n.natAbs).length+1+(css.length+1)<=1048576
     omega
    ·rw [Vu,e1,<- Dec.IW (by omega),show -(n.natAbs:Int)=n by omega]
     exact q _ s3
   ·have h0:¬ n<0:=fun z=>h0 (decide_eq_true z)
    refine ⟨bM "",rfl,_,rfl,L,css.map Dec.tx,rfl,.inl (.inl (by rw [g2,iM];rfl)),by decide +kernel,?_,?_⟩
    ·rw [ab1,fl,aZ]
     omega
    ·rw [Vu,fl,<- Dec.vg,show (n.natAbs:Int)=n by omega]
     exact q _ s2
open MK
def sI (n:Int):Str:=bM (toString n)
def agA {n:Int} (h:n.natAbs<2 ^ 1000):(sI n).length<=401:=by
 have cl:(Dec.dg n.natAbs).length<=400:=Dec.wQ 400 (by decide) (lA h (by decide))
 unfold sI
 by_cases z:n<0
 ·rw [show n = -(n.natAbs:Int) by omega,Dec.IW (by omega),Dec.wR]
  show (Dec.dg n.natAbs).length+1<=401
  omega
 ·rw [show n=(n.natAbs:Int) by omega,Dec.vg,Dec.wR]
  omega
def xO:∀ {ns:List Int},(∀ n∈ns,n.natAbs<2 ^ 1000)->((ns.map sI).map (·.length)).sum<=401*ns.length
 | [],_=>aX _
 | n::ns,h=>by
  have h1:=agA (h n eF)
  have h2:=xO fun k m=>h k (eU n m)
  rw [dZ,dZ,iK,cX]
  omega
def spRow:Sp:=fun vs H Q _=>∃ (a:Addr) (ns:List Int),vs=[.ref a]/\H a=some (.lst (ns.map V.int))/\(∀ n∈ns,n.natAbs<2 ^ 1000)/\ns.length<=900/\∀ H',Same H H'->Q (.str (eV (bM " ") (ns.map sI))) H'
def Fe (T:Tx K mg A):cI P w K mg base CX0 2 A.QT A.abt ["numbers"] spRow:=by
 refine T.TF.ok af3 (fun vs H Q E h=>?_) (fun cdv B outer s H vs Q E hr h=>?_)
 ·obtain ⟨a,ns,rfl,_⟩:=h
  rfl
 ·obtain ⟨a,ns,rfl,ha,hb,hn,q⟩:=h
  refine ⟨_,(aF (cA (d9 Aj xY wz vh dX (aj (zx (cl:=[]) (N:=["number"]) (caps:=[]) (tt:=_) (te:=_) rfl (by with_unfolding_all rfl) (by decide +kernel) rfl (by decide +kernel) trivial (rB (by with_unfolding_all rfl)) (by decide +kernel) rfl rfl rfl (fK.at (k:=1) (show fK _ _ _ _ 1 [] from trivial)) (fU (pv 0)) (fun _ _ _ _=>zq) (fun _ _ _ _=>(aQ (aed T) (by exact hr.mono (by decide)) rfl T.Eu T.F'43.kp T.b'43 .nil aV (aj (pv 0) au)))) au)))),?_⟩
  refine ⟨rfl,_,rfl,a,rfl,⟨_,.inl (.inl ha)⟩,fun D hD=>?_⟩
  refine rM (K:=K) (a:=a) (xs:=ns.map V.int) (fun i ys G=>ys=(ns.take i).map (fun n=>V.str (sI n))/\G D=some (.lst ys)/\Same H G) ⟨rfl,ak,Same.new hD⟩ ?_ ?_ ?_ ?_
  ·rintro i ys G hi ⟨rfl,gD,sG⟩
   refine ⟨.inl (.inl (sG _ _ ha)),gD,aO ?_⟩
   rw [aZ,iw];omega
  ·rintro i ys G x hx ⟨rfl,gD,sG⟩
   obtain ⟨n,hi,rfl⟩:=int_at hx
   refine ⟨_,rfl,n,rfl,hb n (List.mem_of_getElem? hi),fun G1 s1=>?_⟩
   refine ⟨s1 _ _ gD,?_,ak,fun b o e=>?_⟩
   ·rw [lY,hi,cW];rfl
   ·rw [aA (ao e hD)];exact s1 _ _ (sG b o e)
  ·rintro ys G ⟨rfl,gD,sG⟩
   rw [aZ,lZ] at gD
   have sm:=xO hb
   refine ⟨bM " ",D,ns.map sI,rfl,rfl,.inl (.inl (by rw [gD,iM];rfl)),by decide +kernel,?_,q _ sG⟩
   rw [aZ];omega
  ·exact fun σ H R R' hr ⟨v,e,n,en,hn,q⟩=>⟨v,e,n,en,hn,fun H1 s1=>hr _ _ (q H1 s1)⟩
open MK
def agB (K:bh):Sp:=fun vs H Q _=>∃ (h:Str) (a:Addr) (ns:List Int),vs=[.str h,.ref a]/\SqL K H a (ns.map V.int)/\(∀ n∈ns,n.natAbs<2 ^ 1000)/\ns.length<=900/\h.length<=16/\∀ H',Same H H'->Q (.str (eV (bM " ") (h::ns.map sI))) H'
def Dc (T:Tx K mg A):cI P w K mg base CX0 1 A.QV A.BL ["_law_head","_law_numbers"] (agB K):=by
 refine T.Mr.ok xK (fun vs H Q E h=>?_) (fun cdv B outer s H vs Q E hr h=>?_)
 ·obtain ⟨hd,a,ns,rfl,_⟩:=h
  rfl
 ·obtain ⟨hd,a,ns,rfl,ha,hb,hn,hh,q⟩:=h
  refine ⟨_,(aq (aU (i:=2) xK.nd rfl (Or.inl rfl) (cM (aj (pv 0) au)))
   (aq (jO jD rfl (fU (pv 1)) (fB (i:=3) xK.nd rfl (Or.inl rfl)) (aF (aY (d9 fJ iQ iR cF (pv 2) (aj (fu pA (by rfl) T.Vj Hj (aj (pv 3) au)) au)))))
   (aF (cA (d9 Aj xY wz vh dX (aj (pv 2) au)))))),?_⟩
  refine ⟨_,rfl,by show 1<=sizeLine;decide,fun L hL=>?_⟩
  have s1:=Same.new (o:=.lst [.str hd]) hL
  have f1:(upd H L (.lst [.str hd])) L=some (.lst ((hd::(ns.take 0).map sI).map V.str)):=ak
  generalize upd H L (.lst [.str hd])=H1 at s1 f1 ⊢
  refine ⟨_,rfl,a,rfl,⟨_,s1.seq ha⟩,jc (K:=K) (a:=a) (xs:=ns.map V.int) (fun i σ G=>∃ y:Option V,σ=[some (.str hd),some (.ref a),some (.ref L),y]/\G L=some (.lst ((hd::(ns.take i).map sI).map V.str))/\Same H G) ⟨none,rfl,f1,s1⟩ (fun i σ G _ ⟨_,_,_,s⟩=>s.seq ha) ?_ ?_⟩
  ·rintro i v σ G hi ⟨y,rfl,gL,sG⟩
   obtain ⟨n,hi',rfl⟩:=int_at hi
   have hi2:i<ns.length:=(gZ.mp hi').1
   refine ⟨_,rfl,.inl ⟨rfl,_,.inl (.inl gL)⟩,_,rfl,n,rfl,?_,?_⟩
   ·exact lA (log2_small (hb n (List.mem_of_getElem? hi')) (by decide)) (by decide)
   refine ⟨L,_,_,rfl,rfl,gL,aO (by rw [aZ,cX,aZ,iw];omega),?_⟩
   refine ⟨_,rfl,?_,fun b o e=>?_⟩
   ·rw [ak,lY,hi',cW,<- vM,cW];rfl
   ·rw [aA (ao e hL)];exact sG b o e
  ·rintro σ G ⟨y,rfl,gL,sG⟩
   rw [aZ,lZ] at gL
   have sm:=xO hb
   refine ⟨rfl,_,rfl,bM " ",L,hd::ns.map sI,rfl,rfl,.inl (.inl gL),by decide +kernel,?_,q _ sG⟩
   rw [dZ,iK,cX,aZ]
   omega
open MK
def bI (b:WN.Box):List Int:=[b.f,b.l,b.s]
def agC (A:Ad):Sp:=fun vs H Q _=>∃ (p dx l:Addr) (r k c:Int) (ps:List Bp),vs=[.ref p]/\Wn A H p dx l r k c ps/\(∀ n∈c::(bx ps).flatMap bI,n.natAbs<2 ^ 1000)/\ps.length<=200/\∀ H',Same H H'->Q (.str (eV (bM " ") ((c::(bx ps).flatMap bI).map sI))) H'
def Dd:∀ bs:List WN.Box,(bs.flatMap bI).length=3*bs.length
 | []=>rfl
 | b::bs=>by rw [xU,dR,Dd bs,cX];show 3+_=_;omega
def ok'46 (T:Tx K mg A):cI P w K mg base CX0 3 A.QW A.lO ["part"] (agC A):=by
 refine T.F'46.ok jY (fun vs H Q E h=>?_) (fun cdv B outer s H vs Q E hr h=>?_)
 ·obtain ⟨p,dx,l,r,k,c,ps,rfl,_⟩:=h
  rfl
 ·obtain ⟨p,dx,l,r,k,c,ps,rfl,hW,hb,hn,q⟩:=h
  refine ⟨_,(aq (aU (i:=1) jY.nd rfl (Or.inl rfl) (cM (aj (aJ (pv 0) rfl) au)))
   (aq (jO jD rfl (fU (aJ (pv 0) rfl)) (fB (i:=2) jY.nd rfl (Or.inl rfl)) (aF (aY (d9 fJ Ah Ai Tp (pv 1) (aj (pv 2) au)))))
   (aF (cA (aQ (Fe T) (hr.mono (by decide)) rfl T.g_row T.TF.kp T.Wz .nil aV (aj (pv 1) au)))))),?_⟩
  refine ⟨_,rfl,rdF hW.o T.fO T.qm (lV ..) ⟨by show 1<=sizeLine;decide,fun L hL=>?_⟩⟩
  have s1:=Same.new (o:=.lst [.int c]) hL
  have f1:(upd H L (.lst [.int c])) L=some (.lst ((c::(bx (ps.take 0)).flatMap bI).map V.int)):=ak
  generalize upd H L (.lst [.int c])=H1 at s1 f1 ⊢
  have W1:=hW.same s1
  refine ⟨_,rfl,rdF W1.o T.fO T.yw (vG ..) ⟨l,rfl,⟨_,.inl (.inl W1.b.l)⟩,jc (K:=K) (a:=l) (xs:=ps.map fun p=>V.ref p.1) (fun i σ G=>∃ y:Option V,σ=[some (.ref p),some (.ref L),y]/\G L=some (.lst ((c::(bx (ps.take i)).flatMap bI).map V.int))/\Same H G) ⟨none,rfl,f1,s1⟩ (fun i σ G _ ⟨_,_,_,s⟩=>.inl (.inl (s _ _ hW.b.l))) ?_ ?_⟩⟩
  ·rintro i v σ G hi ⟨y,rfl,gL,sG⟩
   obtain ⟨b,hi',rfl⟩:=Ju hi
   have ht:=sG _ _ (hW.b.t b (List.mem_of_getElem? hi'))
   have li:i<ps.length:=(gZ.mp hi').1
   have ll:(c::(bx (ps.take i)).flatMap bI).length<=900:=by
    rw [cX,Dd,lW,iw];omega
   refine ⟨_,rfl,.inl ⟨rfl,_,.inl (.inl gL)⟩,_,rfl,L,b.1,_,[.int b.2.f,.int b.2.l,.int b.2.s],rfl,rfl,gL,.inl (.inl ht),?_,?_⟩
   ·have:=aO (n:=903) (by decide)
    rw [aZ];show _+3<=_;omega
   refine ⟨_,rfl,?_,fun b o e=>?_⟩
   ·rw [ak,lY,hi']
    unfold bx
    rw [cW,vL,<- vM,cW];rfl
   ·rw [aA (ao e hL)];exact sG b o e
  ·rintro σ G ⟨y,rfl,gL,sG⟩
   rw [aZ,lZ] at gL
   exact ⟨_,rfl,L,_,rfl,gL,hb,by rw [cX,Dd,lW];omega,fun H' s'=>q _ (sG.trans s')⟩
open MK
def rN (f:Rs):List Int:=[f.tt,f.ov,f.un,f.tn]++(f.mi.toList++f.ma.toList)
def rW (ls:RG.Ls):List Str:=ls.flatMap fun l=>bM "/" :: l.map sI
/-- the least and the most are known where something came -/
def Km (f:Rs):Prop:=(f.tt=0/\f.mi=none/\f.ma=none)\/(f.tt≠0/\∃ a b,f.mi=some a/\f.ma=some b)
def Vv {ls:RG.Ls} {i:Nat} {l:List Int} (h:ls[i]? = some l):rW (ls.take (i+1))=rW (ls.take i)++(bM "/" :: l.map sI):=by
 unfold rW;rw [lY,h,vL];simp
def share1 {α:Type} (C:α->Prop) {G:α->Prop} {R:Prop} (f:(∀ x,C x->G x)->R) (k:∀ x,C x->G x):R:=f k
def JH:∀ {ls:RG.Ls},(∀ l∈ls,l.length<=64)->(rW ls).length<=65*ls.length
 | [],_=>aX _
 | l::ls,h=>by
  have h1:=h l eF
  have h2:=JH fun k m=>h k (eU l m)
  have e:rW (l::ls)=(bM "/" :: l.map sI)++rW ls:=by unfold rW;rw [xU]
  rw [e,dR,cX,aZ,cX]
  omega
def sI_20 {n:Int} (h:n.natAbs<10 ^ 20):(sI n).length<=21:=by
 have cl:(Dec.dg n.natAbs).length<=20:=Dec.wQ 20 (by decide) h
 unfold sI
 by_cases z:n<0
 ·rw [show n = -(n.natAbs:Int) by omega,Dec.IW (by omega),Dec.wR]
  show (Dec.dg n.natAbs).length+1<=21
  omega
 ·rw [show n=(n.natAbs:Int) by omega,Dec.vg,Dec.wR]
  omega
def MP:∀ {ns:List Int},(∀ n∈ns,n.natAbs<10 ^ 20)->((ns.map sI).map (·.length)).sum<=21*ns.length
 | [],_=>aX _
 | n::ns,h=>by
  have h1:=sI_20 (h n eF)
  have h2:=MP fun k m=>h k (eU n m)
  rw [dZ,dZ,iK,cX]
  omega
def T3:∀ {ls:RG.Ls},(∀ l∈ls,l.length<=64)->(∀ l∈ls,∀ n∈l,n.natAbs<10 ^ 20)->((rW ls).map (·.length)).sum<=1400*ls.length
 | [],_,_=>aX _
 | l::ls,h,g=>by
  have h1:=h l eF
  have h2:=T3 (fun k m=>h k (eU l m)) fun k m=>g k (eU l m)
  have h3:=MP (g l eF)
  have h4:(bM "/").length=1:=by decide +kernel
  have e:rW (l::ls)=(bM "/" :: l.map sI)++rW ls:=by unfold rW;rw [xU]
  rw [e,cW,Ft,dZ,iK,cX,h4]
  omega
def ab2 {n:Nat} (h:n<=9000):n<sizeLine:=Ag h (by decide)
def Df (sep:Str):∀ (ts:List Str),(eV sep ts).length<=(ts.map (·.length)).sum+ts.length*sep.length:=by
 intro ts
 show (Hy sep ts).length<=_
 have key:∀ (us:List Str) (acc:Array Nat),(us.foldl (fun acc p=>acc++sep.cps++p.cps) acc).size=acc.size+(us.map (·.length)).sum+us.length*sep.length:=by
  intro us
  induction us with
  | nil=>intro acc;simp
  | cons u us ih =>
   intro acc
   rw [Nt,ih,O9,O9,dZ,iK,cX,OD]
   show acc.size+sep.length+u.length+_+_=_
   omega
 unfold Hy
 show Array.size _<=_
 rw [key]
 cases ts with
 | nil=>exact aX _
 | cons t ts =>
  show t.length+_+_<=_
  rw [dZ,iK,cX,OD]
  show t.length+(ts.map (·.length)).sum+ts.length*sep.length<=_
  omega
def agD (A:Ad):Sp:=fun vs H Q _=>∃ (p:Addr) (f:Rs),vs=[.ref p]/\RnX A H p f/\Km f/\(∀ n∈rN f,n.natAbs<2 ^ 1000)/\(∀ l∈f.ls,∀ n∈l,n.natAbs<10 ^ 20)/\f.ls.length<=60/\(∀ l∈f.ls,l.length<=64)/\∀ H',Same H H'->Q (.str (eV (bM " ") (eV (bM " ") ((rN f).map sI)::rW f.ls))) H'
def aee (T:Tx K mg A):cI P w K mg base CX0 3 A.QX A.nH ["part"] (agD A):=by
 refine T.F'47.ok je (fun vs H Q E h=>?_) (fun cdv B outer s H vs Q E hr h=>?_)
 ·obtain ⟨p,f,rfl,_⟩:=h
  rfl
 ·obtain ⟨p,f,rfl,hR,km,hb,hl,h60,h64,q⟩:=h
  refine ⟨_,(aq (aU (i:=1) je.nd rfl (Or.inl rfl) (cM (aj (aJ (pv 0) rfl) (aj (aJ (pv 0) rfl) (aj (aJ (pv 0) rfl) (aj (aJ (pv 0) rfl) au))))))
   (aq (gG (cg op_ne (aJ (pv 0) rfl) aC (cP _)) (aF (aY (d9 fJ Ah Ai kO (pv 1) (aj (cM (aj (aJ (pv 0) rfl) (aj (aJ (pv 0) rfl) au))) au)))) eY)
   (aq (aU (i:=2) je.nd rfl (Or.inl rfl) (cM (aj (aQ (Fe T) (hr.mono (by decide)) rfl T.g_row T.TF.kp T.Wz .nil aV (aj (pv 1) au)) au)))
   (aq (jO jD rfl (fU (aJ (pv 0) rfl)) (fB (i:=3) je.nd rfl (Or.inl rfl)) (aq (aY (d9 fJ iQ iR cF (pv 2) (aj dX au)))
   (aF (aY (d9 fJ Ah Ai kO (pv 2) (aj (zx (cl:=[]) (N:=["thing"]) (caps:=[]) (tt:=_) (te:=_) rfl (by with_unfolding_all rfl) (by decide +kernel) rfl (by decide +kernel) trivial (rB (by with_unfolding_all rfl)) (by decide +kernel) rfl rfl rfl (fK.at (k:=1) (show fK _ _ _ _ 1 [] from trivial)) (fU (pv 3)) (fun _ _ _ _=>zq) (fun _ _ _ _=>(aQ (aed T) (by exact hr.mono (by decide)) rfl T.Eu T.F'43.kp T.b'43 .nil aV (aj (pv 0) au)))) au))))))
   (aF (cA (d9 Aj xY wz vh dX (aj (pv 2) au)))))))),?_⟩
  refine ⟨_,rfl,rdF hR.o T.cG T.yu (vC ..) ⟨_,rfl,rdF hR.o T.cG T.BP (Jl ..) ⟨_,rfl,rdF hR.o T.cG T.BR (CQ ..) ⟨_,rfl,rdF hR.o T.cG T.ql (lU ..) ⟨by show 4<=sizeLine;decide,fun L hL=>?_⟩⟩⟩⟩⟩
  have s1:=Same.new (o:=.lst [.int f.tt,.int f.ov,.int f.un,.int f.tn]) hL
  have f1:(upd H L (.lst [.int f.tt,.int f.ov,.int f.un,.int f.tn])) L=some (.lst [.int f.tt,.int f.ov,.int f.un,.int f.tn]):=ak
  generalize upd H L (.lst [.int f.tt,.int f.ov,.int f.un,.int f.tn])=H1 at s1 f1 ⊢
  have R1:=hR.same s1
  refine ⟨_,rfl,rdF R1.o T.cG T.yu (vC ..) ⟨rfl,_,rfl,?_⟩⟩
  apply share1 (fun G:Hp=>G L=some (.lst ((rN f).map V.int))/\Same H G)
  ·intro key
   rcases km with ⟨k0,k1,k2⟩ | ⟨k0,a,b,k1,k2⟩
   ·refine iteNS (by rw [k0]) ?_
    exact key H1 ⟨by rw [f1];unfold rN;rw [k1,k2];rfl,s1⟩
   ·rw [decide_eq_false (fun y=>k0 (V.int.inj y))]
    refine aaD ⟨_,rfl,.inl ⟨rfl,_,.inl (.inl f1)⟩,_,rfl,rdF R1.o T.cG T.BW (CT ..) ⟨_,rfl,rdF R1.o T.cG T.BX (Jm ..) ⟨by show 2<=sizeLine;decide,fun M hM=>?_⟩⟩⟩
    have sM:=Same.new (o:=.lst [oV f.mi,oV f.ma]) hM
    refine ⟨L,M,_,_,rfl,rfl,sM _ _ f1,ak,by show 4+2<=sizeLine;decide,?_⟩
    have g2:(upd (upd H1 M (.lst [oV f.mi,oV f.ma])) L (.lst ([.int f.tt,.int f.ov,.int f.un,.int f.tn]++[oV f.mi,oV f.ma]))) L=some (.lst ((rN f).map V.int)):=by rw [ak];unfold rN;rw [k1,k2];rfl
    have s2:Same H (upd (upd H1 M (.lst [oV f.mi,oV f.ma])) L (.lst ([.int f.tt,.int f.ov,.int f.un,.int f.tn]++[oV f.mi,oV f.ma]))):=fun b o e=>by rw [aA (ao e hL)];exact (s1.trans sM) b o e
    generalize upd (upd H1 M (.lst [oV f.mi,oV f.ma])) L (.lst ([.int f.tt,.int f.ov,.int f.un,.int f.tn]++[oV f.mi,oV f.ma]))=G2 at g2 s2 ⊢
    exact key G2 ⟨g2,s2⟩
  intro G ⟨gL,sG⟩
  have n6:(rN f).length<=6:=by
   unfold rN
   cases f.mi <;> cases f.ma <;> simp
  refine ⟨_,rfl,L,rN f,rfl,gL,hb,by omega,fun G1 t1=>⟨by show 1<=sizeLine;decide,fun W hW=>?_⟩⟩
  have e0:(eV (bM " ") ((rN f).map sI)).length<=3000:=by
   have h1:=Df (bM " ") ((rN f).map sI)
   have h2:=xO hb
   have h3:(bM " ").length=1:=by decide +kernel
   rw [aZ,h3] at h1
   omega
  generalize eV (bM " ") ((rN f).map sI)=t0 at q e0 ⊢
  have s2:=(sG.trans t1).trans (Same.new (o:=.lst [.str t0]) hW)
  have f2:(upd G1 W (.lst [.str t0])) W=some (.lst ((t0::rW (f.ls.take 0)).map V.str)):=ak
  have vW:H W=none:=(sG.trans t1).free hW
  generalize upd G1 W (.lst [.str t0])=G2 at s2 f2 ⊢
  have R2:=hR.same s2
  refine ⟨_,rfl,rdF R2.o T.cG T.BZ (CV ..) ⟨f.a,rfl,⟨_,.inl (.inl R2.l.o)⟩,jc (K:=K) (a:=f.a) (xs:=f.bs.map V.ref) (fun i σ G=>∃ y:Option V,σ=[some (.ref p),some (.ref L),some (.ref W),y]/\G W=some (.lst ((t0::rW (f.ls.take i)).map V.str))/\Same H G) ⟨none,rfl,f2,s2⟩ (fun i σ G _ ⟨_,_,_,s⟩=>.inl (.inl (s _ _ hR.l.o))) ?_ ?_⟩⟩
  ·rintro i v σ G hi ⟨y,rfl,gW,sG⟩
   rw [kW] at hi
   cases eb:f.bs[i]? with
   | none=>rw [eb] at hi;cases hi
   | some b =>
    rw [eb] at hi
    obtain rfl:=bZ hi
    have li:i<f.ls.length:=by rw [<- hR.l.n];exact (gZ.mp eb).1
    have el:=gw li
    have hb':=hR.l.e i b _ eb el
    have ml:=Nm li
    generalize f.ls[i]=l at el hb' ml
    have tl:=JH (ls:=f.ls.take i) fun k m=>h64 k (Fj m)
    rw [iw] at tl
    have l64:=h64 l ml
    refine ⟨_,rfl,.inl ⟨rfl,_,.inl (.inl gW)⟩,W,_,_,rfl,rfl,gW,ab2 (by rw [aZ,cX];omega),?_⟩
    have g3:(upd G W (.lst ((t0::rW (f.ls.take i)).map V.str++[.str (bM "/")]))) W=some (.lst ((t0::rW (f.ls.take i)++[bM "/"]).map V.str)):=by rw [ak,cW];rfl
    have s3:Same H (upd G W (.lst ((t0::rW (f.ls.take i)).map V.str++[.str (bM "/")]))):=fun b o e=>by rw [aA (ao e vW)];exact sG b o e
    generalize upd G W (.lst ((t0::rW (f.ls.take i)).map V.str++[.str (bM "/")]))=G3 at g3 s3 ⊢
    refine ⟨_,rfl,.inl ⟨rfl,_,.inl (.inl g3)⟩,_,rfl,b,rfl,⟨_,.inl (.inl (s3 _ _ hb'))⟩,fun D hD=>?_⟩
    refine rM (K:=K) (a:=b) (xs:=l.map V.int) (fun j ys J=>ys=(l.take j).map (fun n=>V.str (sI n))/\J D=some (.lst ys)/\Same G3 J) ⟨rfl,ak,Same.new hD⟩ ?_ ?_ ?_ ?_
    ·rintro j ys J hj ⟨rfl,gD,sJ⟩
     refine ⟨.inl (.inl (sJ _ _ (s3 _ _ hb'))),gD,aO ?_⟩
     rw [aZ,iw];omega
    ·rintro j ys J x hx ⟨rfl,gD,sJ⟩
     obtain ⟨n,hj,rfl⟩:=int_at hx
     refine ⟨_,rfl,n,rfl,lA (hl l ml n (List.mem_of_getElem? hj)) (by decide),fun J1 t1=>?_⟩
     refine ⟨t1 _ _ gD,?_,ak,fun b o e=>?_⟩
     ·rw [lY,hj,cW];rfl
     ·rw [aA (ao e hD)];exact t1 _ _ (sJ b o e)
    ·rintro ys J ⟨rfl,gD,sJ⟩
     rw [aZ,lZ] at gD
     refine ⟨W,D,_,_,rfl,rfl,sJ _ _ g3,gD,mj (ab2 (by rw [aZ,dR,cX,aZ];show (rW (f.ls.take i)).length+1+1+l.length<=9000;omega)),?_⟩
     refine ⟨_,rfl,?_,fun b o e=>?_⟩
     ·rw [ak,Vv el]
      simp only [cW,dZ,iM,vM,iU,vN,Nq]
      rfl
     ·rw [aA (ao e vW)];exact sJ _ _ (s3 b o e)
    ·exact fun σ H R R' hr ⟨v,e,n,en,hn,q⟩=>⟨v,e,n,en,hn,fun H1 s1=>hr _ _ (q H1 s1)⟩
  ·rintro σ G ⟨y,rfl,gW,sG⟩
   rw [aZ,hR.l.n,lZ] at gW
   have h1:=T3 h64 hl
   have h2:=JH h64
   refine ⟨rfl,_,rfl,bM " ",W,t0::rW f.ls,rfl,rfl,.inl (.inl gW),by decide +kernel,?_,q _ sG⟩
   rw [dZ,iK,cX]
   omega
open MK
def jy (c:Tab):(jZ c).Perm c:=zM _ _
def ady (c:Tab):(jZ c).Pairwise fun a b:Int × Int=>a.1<=b.1:=by
 have:=Fg (le:=fun a b:Int × Int=>decide (a.1<=b.1)) (fun a b c h1 h2=>by simp only [decide_eq_true_eq] at *; omega) (fun a b=>by simp only [GQ,decide_eq_true_eq];omega) c
 exact this.imp fun h=>of_decide_eq_true h
def pN (c:Tab):List Int:=c.flatMap fun p=>[p.1,p.2]
def xP:∀ c:Tab,(pN c).length=2*c.length
 | []=>rfl
 | p::c=>by
  have e:pN (p::c)=[p.1,p.2]++pN c:=by unfold pN;rw [xU]
  rw [e,dR,xP c,cX (a:=p)]
  show 2+2*c.length=2*(c.length+1)
  omega
def Vw {c:Tab} {i:Nat} {p:Int × Int} (h:c[i]? = some p):pN (c.take (i+1))=pN (c.take i)++[p.1,p.2]:=by
 unfold pN;rw [lY,h,vL];simp
def fN (f:Fq):List Int:=[f.t,f.l]++pN (jZ f.c)
def agE (A:Ad):Sp:=fun vs H Q _=>∃ (f:Fq) (room:Nat),vs=[.ref f.p]/\qC A H room f/\(keys f.c).Nodup/\f.c.length<=63/\(∀ n∈fN f,n.natAbs<2 ^ 1000)/\∀ H',Same H H'->Q (.str (eV (bM " ") ((fN f).map sI))) H'
def aef (T:Tx K mg A):cI P w K mg base CX0 3 A.QZ A.jq ["part"] (agE A):=by
 refine T.F'48.ok jf (fun vs H Q E h=>?_) (fun cdv B outer s H vs Q E hr h=>?_)
 ·obtain ⟨f,room,rfl,_⟩:=h
  rfl
 ·obtain ⟨f,room,rfl,hF,nd,ln,hb,q⟩:=h
  refine ⟨_,(aq (aU (i:=1) jf.nd rfl (Or.inl rfl) (cM (aj (aJ (pv 0) rfl) (aj (aJ (pv 0) rfl) au))))
   (aq (jO jD rfl (fU (dz (kI rfl) (by rfl) T.oF Ao (aj (aJ (pv 0) rfl) au))) (fB (i:=2) jf.nd rfl (Or.inl rfl)) (aF (aY (d9 fJ Ah Ai kO (pv 1) (aj (cM (aj (pv 2) (aj (cu (ixG (bO hr)) (aJ (pv 0) rfl) (pv 2) (fun _ _=>rfl)) au))) au)))))
   (aF (cA (aQ (Fe T) (hr.mono (by decide)) rfl T.g_row T.TF.kp T.Wz .nil aV (aj (pv 1) au)))))),?_⟩
  refine ⟨_,rfl,rdF hF.o T.gO T.Ce (CZ ..) ⟨_,rfl,rdF hF.o T.gO T.Cg (Jx ..) ⟨by show 2<=sizeLine;decide,fun L hL=>?_⟩⟩⟩
  have s1:=Same.new (o:=.lst [.int f.t,.int f.l]) hL
  have f1:(upd H L (.lst [.int f.t,.int f.l])) L=some (.lst (([f.t,f.l]++pN ((jZ f.c).take 0)).map V.int)):=ak
  generalize upd H L (.lst [.int f.t,.int f.l])=H1 at s1 f1 ⊢
  have F1:=hF.same s1
  have kl:(keys f.c).length=f.c.length:=aZ _
  refine ⟨_,rfl,rdF F1.o T.gO T.vo (oH ..) (.inl ⟨f.d,_,keys f.c,rfl,.inl F1.d,KY _,by omega,fun l ns' hl pm so=>?_⟩)⟩
  obtain rfl:ns'=keys (jZ f.c):=jm (pm.trans ((jy f.c).map _).symm) so (zN.mpr (ady f.c))
  have s2:=s1.trans (Same.new (o:=.lst ((keys (jZ f.c)).map V.int)) hl)
  have g2:=(Same.new (o:=.lst ((keys (jZ f.c)).map V.int)) hl) _ _ f1
  have k2:(upd H1 l (.lst ((keys (jZ f.c)).map V.int))) l=some (.lst ((keys (jZ f.c)).map V.int)):=ak
  have nl:l≠L:=aL (ao f1 hl)
  generalize upd H1 l (.lst ((keys (jZ f.c)).map V.int))=H2 at s2 g2 k2 ⊢
  have pl:=(jy f.c).length_eq
  refine ⟨l,rfl,⟨_,.inl (.inl k2)⟩,jc (K:=K) (a:=l) (xs:=(keys (jZ f.c)).map V.int) (fun i σ G=>∃ y:Option V,σ=[some (.ref f.p),some (.ref L),y]/\G L=some (.lst (([f.t,f.l]++pN ((jZ f.c).take i)).map V.int))/\Same H G/\G l=some (.lst ((keys (jZ f.c)).map V.int))) ⟨none,rfl,g2,s2,k2⟩ (fun i σ G _ ⟨_,_,_,_,k⟩=>.inl (.inl k)) ?_ ?_⟩
  ·rintro i v σ G hi ⟨y,rfl,gL,sG,kG⟩
   obtain ⟨k,hk,rfl⟩:=int_at hi
   obtain ⟨z,hz,rfl⟩:∃ z,(jZ f.c)[i]? = some z/\z.1=k:=by
    unfold keys at hk
    rw [kW] at hk
    cases e:(jZ f.c)[i]? with
    | none=>rw [e] at hk;cases hk
    | some z=>rw [e] at hk;exact ⟨z,rfl,bZ hk⟩
   have mz:z∈f.c:=(jy f.c).mem_iff.mp (List.mem_of_getElem? hz)
   have FG:=hF.same sG
   have li:i<(jZ f.c).length:=(gZ.mp hz).1
   refine ⟨_,rfl,.inl ⟨rfl,_,.inl (.inl gL)⟩,_,rfl,_,rfl,rdF FG.o T.gO T.vo (oH ..) ⟨_,rfl,adO (.inl FG.d) (K9 (mH nd mz)) ⟨by show 2<=sizeLine;decide,fun M hM=>?_⟩⟩⟩
   have sM:=Same.new (o:=.lst [.int z.1,.int z.2]) hM
   refine ⟨L,M,_,_,rfl,rfl,sM _ _ gL,ak,mj (aO (by rw [aZ,dR,xP,iw];show 2+_+2<=1000;omega)),?_⟩
   refine ⟨_,rfl,?_,fun b o e=>?_,?_⟩
   ·rw [ak,Vw hz,<- iU,cW (l₂:=[z.1,z.2])];rfl
   ·rw [aA (ao e hL)];exact sM _ _ (sG b o e)
   ·rw [aA nl];exact sM _ _ kG
  ·rintro σ G ⟨y,rfl,gL,sG,_⟩
   rw [aZ,show (keys (jZ f.c)).length=(jZ f.c).length from aZ _,lZ] at gL
   exact ⟨_,rfl,L,fN f,rfl,gL,hb,by unfold fN;rw [dR,xP];show 2+_<=900;omega,fun H' s'=>q _ (sG.trans s')⟩
open MK
def cL (s:Str):List Nat:=s.cps.toList
abbrev sp1:Str:=bM " "
def T4 {a b:Str} (h:cL a=cL b):a=b:=by
 cases a;cases b
 exact congrArg Str.mk (Hi.mp h)
def ab3 (a b:Str):cL (a++b)=cL a++cL b:=Hh
abbrev fm (ts:List Str):List Nat:=ts.flatMap fun u=>cL sp1++cL u
def mL (t:Str) (ts:List Str):cL (eV sp1 (t::ts))=cL t++fm ts:=by
 have key:∀ (us:List Str) (acc:Array Nat),(us.foldl (fun acc p=>acc++sp1.cps++p.cps) acc).toList=acc.toList++fm us:=by
  intro us
  induction us with
  | nil=>intro acc;simp
  | cons u us ih =>
   intro acc
   rw [Nt,ih,Hh,Hh,iU,iU]
   show _=_++((u::us).flatMap _)
   rw [xU,iU]
   rfl
 exact key ts t.cps
def ln (h:Str) (ts:List Str):Str:=eV sp1 (h::ts)
def mO {a b:Str} (e:cL a=cL b++cL sp1) {ts:List Str} (n:ts≠[]):a++eV sp1 ts=ln b ts:=by
 obtain ⟨t,us,rfl⟩:=M5 n
 apply T4
 unfold ln
 rw [ab3,mL,mL,e,fm,fm,xU]
 simp only [iU]
def ab4 {ts:List Str} (n:ts≠[]) (us:List Str):eV sp1 (eV sp1 ts::us)=eV sp1 (ts++us):=by
 obtain ⟨t,vs,rfl⟩:=M5 n
 apply T4
 rw [mL,mL,vM,mL,fm,fm,fm,vL,iU]
def adz {a b:Str} (e:cL b=cL sp1++cL a) (h:Str) (ts us:List Str):ln h ts++eV sp1 (b::us)=ln h (ts++a::us):=by
 apply T4
 unfold ln
 rw [ab3,mL,mL,mL,fm,fm,fm,vL,xU,e]
 simp only [iU]
def Vx:sp1.length=1:=by decide +kernel
def nM {h:Str} {ts:List Str} {k:Nat} (hh:h.length<=16) (hs:(ts.map (·.length)).sum+ts.length<=k):(ln h ts).length<=17+k:=by
 have h1:=Df sp1 (h::ts)
 rw [Vx,dZ,iK,cX] at h1
 unfold ln
 omega
def rT (f:Rs):List Str:=(rN f).map sI++rW f.ls
noncomputable def rH (x:KS):List Str:=[ln (bM "keep") (([x.room,x.reach,x.span]:List Int).map sI),ln (bM "came") ((fN x.cm).map sI),ln (bM "went") ((fN x.wn).map sI),ln (bM "up") (rT x.up.x),ln (bM "down") (rT x.dn.x),
 ln (bM "window") ((x.wi.c::(bx x.wi.ps).flatMap bI).map sI),ln (bM "seen") (([x.di.n,x.di.v]++srt (My.up x.di.v x.di.C)).map sI),ln (bM "sums") ((L4 x.ba.q).map sI)]
open MK
abbrev Th (z:Int):Prop:=0<=z/\z<1152921504606846976
def Th.big {z:Int} (h:Th z):z.natAbs<2 ^ 1000:=lA (show z.natAbs<1152921504606846976 by have:=h.1;have:=h.2;omega) (by decide)
def Th.mid {z:Int} (h:Th z):z.natAbs<10 ^ 20:=lA (show z.natAbs<1152921504606846976 by have:=h.1;have:=h.2;omega) (by decide)
structure Gu (f:Rs) (n:Nat):Prop where
 km:Km f
 mi:∀ z,f.mi=some z->Th z
 ma:∀ z,f.ma=some z->Th z
 ls:∀ l∈f.ls,∀ z∈l,Th z
 t0:0<=f.tn
 tn:f.tn<=60*n
structure Wb (c:Int) (n:Nat) (bs:List WN.Box):Prop where
 b:∀ b∈bs,0<=b.f/\b.f<=c/\0<=b.l/\b.l<=c/\0<=b.s
 s:WN.sum bs<=1000000000000*n
structure Nb (x:KS) (n:Nat):Prop where
 rc:Th x.reach
 sn:Th x.span
 cm:∀ k∈keys x.cm.c,Th k
 wn:∀ k∈keys x.wn.c,Th k
 up:Gu x.up.x n
 dn:Gu x.dn.x n
 c0:0<=x.wi.c
 c1:x.wi.c<=1000000000000*n
 wi:Wb x.wi.c n (bx x.wi.ps)
 dn0:0<=x.di.n
 dn1:x.di.n<=n
 dv:x.di.v<=61
 dc:∀ z∈x.di.C,Th z
 ba:∀ z∈L4 x.ba.q,z.natAbs<=n*2 ^ 250
def xQ {c room:Int}:∀ (os:List WN.Box) (S:Int) (b:WN.Box),(∀ o∈b::os,0<=o.f/\o.f<=c/\0<=o.l/\o.l<=c/\0<=o.s)->∀ o∈WN.settle room S b os,0<=o.f/\o.f<=c/\0<=o.l/\o.l<=c/\0<=o.s
 | [],S,b,h=>h
 | o::os,S,b,h=>by
  rw [WN.jK]
  have h1:=h b eF
  have h2:=h o (eU _ eF)
  split
  ·refine xQ os _ _ fun p m=>?_
   rcases cC.mp m with rfl | m
   ·exact ⟨h2.1,h2.2.1,h1.2.2.1,h1.2.2.2.1,by show 0<=b.s+o.s;omega⟩
   ·exact h p (eU _ (eU _ m))
  ·intro p m
   rcases cC.mp m with rfl | m
   ·exact h1
   ·exact xQ os _ _ (fun q m=>h q (eU _ m)) p m
def sum_filter {p:WN.Box->Bool}:∀ {bs:List WN.Box},(∀ b∈bs,0<=b.s)->WN.sum (bs.filter p)<=WN.sum bs
 | [],_=>cT _
 | b::bs,h=>by
  have h1:=h b eF
  have h2:=sum_filter (p:=p) fun o m=>h o (eU b m)
  rw [pZ]
  split
  ·rw [WN.sum_cons,WN.sum_cons];omega
  ·rw [WN.sum_cons];omega
def Vy (bs:List WN.Box):WN.sum bs.reverse=WN.sum bs:=by
 unfold WN.sum
 rw [uJ]
 exact List.sum_reverse_int _
def Wb.settled {c:Int} {n:Nat} {bs:List WN.Box} (h:Wb c n bs) (room e:Int):Wb c n (jg room e bs):=by
 have hf:∀ b∈(bs.filter fun b=>decide (e<b.l)).reverse,0<=b.f/\b.f<=c/\0<=b.l/\b.l<=c/\0<=b.s:=fun b m=>h.b b ((qD.mp (zO.mp m)).1)
 have s1:=sum_filter (p:=fun b=>decide (e<b.l)) (bs:=bs) fun b m=>(h.b b m).2.2.2.2
 have s2:=h.s
 unfold jg
 rw [<- Vy] at s1
 generalize (bs.filter fun b=>decide (e<b.l)).reverse=os at hf s1
 refine ⟨fun b m=>?_,by rw [Vy,WN.Ln];omega⟩
 rw [zO] at m
 cases os with
 | nil=>exact nomatch m
 | cons o os=>exact xQ os _ _ hf b m
def Wb.mono {c d:Int} {n:Nat} {bs:List WN.Box} (h:Wb c n bs) (e:c<=d):Wb d (n+1) bs:=⟨fun b m=>by have:=h.b b m;omega,by have:=h.s;omega⟩
def agF {room:Int} {h:Nat} {tn ov un:Int} {ls out:RG.Ls} {tn' ov' un':Int} (a:RG.Stl room h tn ov un ls out tn' ov' un'):tn'<=tn+out.length:=by
 induction a with
 | nil=>exact Int.le_add_of_nonneg_right (by omega)
 | keep _ _ ih=>rw [cX];omega
 | turn _ _ ih=>rw [cX];omega
def lo_th {a:Option Int} {t z:Int} (h:∀ z,a=some z->Th z) (ht:Th t) (e:lo2 a (some t)=some z):Th z:=by
 cases a with
 | none=>cases e;exact ht
 | some y =>
  have:=h y rfl
  obtain rfl:=bZ e
  constructor <;> omega
def hi_th {a:Option Int} {t z:Int} (h:∀ z,a=some z->Th z) (ht:Th t) (e:hi2 a (some t)=some z):Th z:=by
 cases a with
 | none=>cases e;exact ht
 | some y =>
  have:=h y rfl
  obtain rfl:=bZ e
  constructor <;> omega
def Gu.add {room room':Nat} {f g:Rs} {n:Nat} {th w:Int} (h:Gu f n) (k:Gr room f n) (k':Gr room' g (n+1)) (few:n+1<=63) (s:RS th w f g) (ht:Th th) (w1:1<=w):Gu g (n+1):=by
 have gl:=jM k'.g k'.t few
 have v0:=k.g.vl
 refine ⟨.inr ⟨by rw [s.tt];omega,?_⟩,fun z e=>lo_th h.mi ht (s.mi ▸ e),fun z e=>hi_th h.ma ht (s.ma ▸ e),s.st.mem (RG.Wl th ht _ _ h.ls),by have:=s.st.mono.1;have:=h.t0;omega,by have:=agF s.st;have:=h.tn;have:=gl.1;omega⟩
 rw [s.mi,s.ma]
 cases f.mi <;> cases f.ma <;> exact ⟨_,_,rfl,rfl⟩
def Gu.next {f:Rs} {n:Nat} (h:Gu f n):Gu f (n+1):=⟨h.km,h.mi,h.ma,h.ls,h.t0,by have:=h.tn;omega⟩
def aeg {room:Nat} {th w:Int} {f g:Fq} (s:FS room th w f g) (h:∀ k∈keys f.c,Th k) (ht:Th th):∀ k∈keys g.c,Th k:=by
 obtain ⟨cut,a,_⟩:=s
 intro k m
 have m2:k∈keys (put f.c th (low f.c th+w)):=by
  unfold gJ at a
  split at a
  ·rw [a.2] at m;exact m
  ·rw [a.2] at m;exact uU m
 rcases (Io ..).mp m2 with rfl | m3
 ·exact ht
 ·exact h k m3
def pw_bd {th w:Int} (ht:Th th) (w2:w.natAbs<=1000000000000):∀ z∈L4 (pwQ th w),z.natAbs<=2 ^ 250:=by
 have t1:th.natAbs<=1152921504606846976:=by omega
 have key:∀ {a b c d:Nat},a<=c->b<=d->a*b<=c*d:=fun h1 h2=>Yy h1 h2
 intro z m
 have m:z=w\/z=w*th\/z=w*th*th\/z=w*th*th*th:=by
  have:z∈[w,w*th,w*th*th,w*th*th*th]:=m
  simpa using this
 have a1:=key w2 t1
 have a2:=key a1 t1
 have a3:=key a2 t1
 rcases m with rfl | rfl | rfl | rfl
 ·exact fH w2 (by decide)
 ·rw [wA];exact fH a1 (by decide)
 ·rw [wA,wA];exact fH a2 (by decide)
 ·rw [wA,wA,wA];exact fH a3 (by decide)
def aeh {q p:Q4} {n:Nat} (h:∀ z∈L4 q,z.natAbs<=n*2 ^ 250) (g:∀ z∈L4 p,z.natAbs<=2 ^ 250):∀ z∈L4 (addQ q p),z.natAbs<=(n+1)*2 ^ 250:=by
 intro z m
 have m:z=q.a+p.a\/z=q.b+p.b\/z=q.c+p.c\/z=q.d+p.d:=by
  have:z∈[q.a+p.a,q.b+p.b,q.c+p.c,q.d+p.d]:=m
  simpa using this
 have e:∀ {a b:Int},a∈L4 q->b∈L4 p->(a+b).natAbs<=(n+1)*2 ^ 250:=fun {a b} m1 m2=>by
  have h1:=h a m1
  have h2:=g b m2
  rw [OD]
  generalize 2 ^ 250=B at h1 h2 ⊢
  generalize n*B=C at h1 ⊢
  omega
 rcases m with rfl | rfl | rfl | rfl <;> exact e (by simp [L4]) (by simp [L4])
def ab5 {q:Q4} {n:Nat} (h:∀ z∈L4 q,z.natAbs<=n*2 ^ 250):∀ z∈L4 q,z.natAbs<=(n+1)*2 ^ 250:=fun z m=>fH (h z m) (xX _ (oU n))
def Nb.row {r:R3} {x x':KS} {n:Nat} (h:Nb x n) (k:Kh x n) (k':Kh x' (n+1)) (ok:r.ok) (s:SR r x x'):Nb x' (n+1):=by
 have ht:Th r.th:=⟨ok.t0,ok.t1⟩
 have w1:=ok.w1
 have w2:=ok.w2
 have sb:=s.sb
 have c0:=h.c0
 have c1:=h.c1
 have d0:=h.dn0
 have d1:=h.dn1
 have rc:Th x'.reach:=by rw [sb.reach];exact h.rc
 have sn:Th x'.span:=by rw [sb.span];exact h.sn
 unfold SR at s
 split at s
 ·have wb:Wb x'.wi.c (n+1) (bx x'.wi.ps):=by
   rw [s.wi.2,s.wi.1]
   refine Wb.settled ⟨fun b m=>?_,?_⟩ _ _
   ·rcases gB.mp m with m | m
    ·have:=h.wi.b b m;omega
    ·rw [fP.mp m];exact ⟨by show 0<=x.wi.c+1;omega,cT _,by show 0<=x.wi.c+1;omega,cT _,by show 0<=r.w;omega⟩
   ·have:=h.wi.s
    rw [WN.sum_append,WN.sum_cons,WN.sum_nil]
    show _+(r.w+0)<=_
    omega
  refine ⟨rc,sn,aeg s.cm h.cm ht,by rw [s.wn];exact h.wn,h.up.add k.up k'.up k'.few s.up ht w1,by rw [s.dn];exact h.dn.next,by rw [s.wi.1];omega,by rw [s.wi.1];omega,wb,by rw [s.di.1];omega,by rw [s.di.1];omega,s.di.2.2.le (by have:=k.r2;omega) h.dv,fun z m=>?_,?_⟩
  ·rw [s.di.2.1] at m
   unfold came at m
   split at m
   ·exact h.dc z m
   ·rcases gB.mp m with m | m
    ·exact h.dc z m
    ·rw [fP.mp m];exact ht
  ·rw [s.ba]
   split
   ·exact aeh h.ba (pw_bd ht (by omega))
   ·exact ab5 h.ba
 split at s
 ·have wb:Wb x'.wi.c (n+1) (bx x'.wi.ps):=by
   rw [s.wi.2,s.wi.1]
   exact (h.wi.mono (by omega)).settled _ _
  refine ⟨rc,sn,by rw [s.cm];exact h.cm,aeg s.wn h.wn ht,by rw [s.up];exact h.up.next,h.dn.add k.dn k'.dn k'.few s.dn ht w1,by rw [s.wi.1];omega,by rw [s.wi.1];omega,wb,by rw [s.di];omega,by rw [s.di];omega,by rw [s.di];exact h.dv,by rw [s.di];exact h.dc,?_⟩
  rw [s.ba]
  split
  ·exact aeh h.ba (pw_bd ht (by omega))
  ·exact ab5 h.ba
 ·have wb:Wb x'.wi.c (n+1) (bx x'.wi.ps):=by
   rw [s.wi.2,s.wi.1]
   exact (h.wi.mono (by omega)).settled _ _
  exact ⟨rc,sn,by rw [s.cm];exact h.cm,by rw [s.wn];exact h.wn,by rw [s.up];exact h.up.next,by rw [s.dn];exact h.dn.next,by rw [s.wi.1];omega,by rw [s.wi.1];omega,wb,by rw [s.di];omega,by rw [s.di];omega,by rw [s.di];exact h.dv,by rw [s.di];exact h.dc,by rw [s.ba];exact ab5 h.ba⟩
def nb0 {room:Nat} {reach span:Int} (h1:Th reach) (h2:Th span):Nb (K0 room reach span) 0:=by
 have g0:Gu (R0 room) 0:=⟨.inl ⟨rfl,rfl,rfl⟩,fun z e=>(nomatch e),fun z e=>(nomatch e),fun _ m=>(nomatch m),cT _,cT _⟩
 exact ⟨h1,h2,fun _ m=>(nomatch m),fun _ m=>(nomatch m),g0,g0,cT _,cT _,⟨fun _ m=>(nomatch m),cT _⟩,cT _,cT _,(by decide:(0:Int)<=61),fun _ m=>(nomatch m),fun z m=>by
  have:z∈[(0:Int),0,0,0]:=m
  simp at this
  subst this
  exact dN _⟩
def T5:∀ {l:List Int},(∀ v∈l,0<=v)->∀ v∈l,v<=l.sum
 | a::l,h,v,m=>by
  have h1:=h a eF
  have h2:=pB fun y m=>h y (eU a m)
  rw [iK]
  rcases cC.mp m with rfl | m
  ·omega
  ·have:=T5 (fun y m=>h y (eU a m)) v m
   omega
def Gf.nums {room:Nat} {f:Fq} {n:Nat} (g:Gf room f n) (few:n<=63) (h:∀ k∈keys f.c,Th k):∀ z∈fN f,z.natAbs<2 ^ 1000:=by
 obtain ⟨W,ok⟩:=g.ok
 have t:=g.t
 have l0:=ok.l0
 have v0:∀ v∈vals f.c,0<=v:=fun v m=>by
  obtain ⟨p,hp,e⟩:=kj.mp m
  have:=ok.pos p hp
  omega
 have s0:=pB v0
 have sm:=ok.sum
 have l1:f.l<=((room:Int)+1)*f.l:=by
  rw [tW,Ak]
  have:=Y5 (show (0:Int)<=room by omega) l0
  omega
 intro z m
 refine Th.big ?_
 unfold fN at m
 rcases gB.mp m with m | m
 ·have m:z=f.t\/z=f.l:=by simpa using m
  rcases m with rfl | rfl <;> exact ⟨by omega,by omega⟩
 ·unfold pN at m
  obtain ⟨p,mp,mz⟩:=Xv.mp m
  have mc:=(jy f.c).mem_iff.mp mp
  have mz:z=p.1\/z=p.2:=by simpa using mz
  rcases mz with rfl | rfl
  ·exact h _ (Fl mc)
  ·have:=ok.pos p mc
   have:=T5 v0 p.2 (Fl mc)
   exact ⟨by omega,by omega⟩
def Gu.nums {room:Nat} {f:Rs} {n:Nat} (u:Gu f n) (g:Gr room f n) (few:n<=63):∀ z∈rN f,z.natAbs<2 ^ 1000:=by
 have t:=g.t
 have vl:=g.g.vl
 have gl:=jM g.g g.t few
 have o0:=g.g.ov0
 have u0:=g.g.un0
 have r2:=g.g.r2
 have tn:=u.tn
 have t0:=u.t0
 have bd:f.ov+f.un<1152921504606846976:=by
  by_cases e:f.ls=[]
  ·have:=g.g.pt
   rw [e] at this
   have h2:(f.ov+f.un)*f.r<=0:=this
   have h3:(f.ov+f.un)*2<=(f.ov+f.un)*f.r:=yc r2 (by omega)
   omega
  ·have h1:=g.g.near e
   have h3:(f.ov+f.un)*2<=(f.ov+f.un)*f.r:=yc r2 (by omega)
   have h4:f.tt*((f.ls.length:Int)-1)<=f.tt*60:=yc (by have:=gl.1;omega) (by omega)
   omega
 intro z m
 refine Th.big ?_
 unfold rN at m
 rcases gB.mp m with m | m
 ·have m:z=f.tt\/z=f.ov\/z=f.un\/z=f.tn:=by simpa using m
  rcases m with rfl | rfl | rfl | rfl <;> exact ⟨by omega,by omega⟩
 ·rcases gB.mp m with m | m
  ·exact u.mi z (ZJ.mp m)
  ·exact u.ma z (ZJ.mp m)
def Nb.wins {x:KS} {n:Nat} (h:Nb x n) (few:n<=63):∀ z∈x.wi.c::(bx x.wi.ps).flatMap bI,z.natAbs<2 ^ 1000:=by
 have c0:=h.c0
 have c1:=h.c1
 have sm:=h.wi.s
 intro z m
 refine Th.big ?_
 rcases cC.mp m with rfl | m
 ·exact ⟨by omega,by omega⟩
 ·obtain ⟨b,mb,mz⟩:=Xv.mp m
  have q:=h.wi.b b mb
  have:=T5 (l:=(bx x.wi.ps).map (·.s)) (fun v m=>by
   obtain ⟨o,mo,rfl⟩:=kj.mp m
   exact (h.wi.b o mo).2.2.2.2) b.s (Fl mb)
  have sm:((bx x.wi.ps).map (·.s)).sum<=1000000000000*n:=sm
  have mz:z=b.f\/z=b.l\/z=b.s:=by simpa [bI] using mz
  rcases mz with rfl | rfl | rfl <;> exact ⟨by omega,by omega⟩
def Nb.seen {x:KS} {n:Nat} (h:Nb x n) (k:Kh x n):∀ z∈[x.di.n,x.di.v]++srt (My.up x.di.v x.di.C),z.natAbs<2 ^ 1000:=by
 have d0:=h.dn0
 have d1:=h.dn1
 have few:=k.few
 have v0:=k.dl.1
 have v1:=h.dv
 intro z m
 refine Th.big ?_
 rcases gB.mp m with m | m
 ·have m:z=x.di.n\/z=x.di.v:=by simpa using m
  rcases m with rfl | rfl <;> exact ⟨by omega,by omega⟩
 ·exact h.dc z (qD.mp ((zM _ _).mem_iff.mp m)).1
def Nb.sums {x:KS} {n:Nat} (h:Nb x n) (few:n<=63):∀ z∈L4 x.ba.q,z.natAbs<2 ^ 1000:=fun z m=>Ag (fH (h.ba z m) (xX _ few)) (by decide)
open MK
def yH {a b:Str} (h1:a.length<=16) (h2:b.length<=200000):a.length+b.length<=sizeLine:=fH (show _<=200016 by omega) (by decide)
def Dg {f:Rs} (hb:∀ n∈rN f,n.natAbs<2 ^ 1000) (hl:∀ l∈f.ls,∀ n∈l,n.natAbs<10 ^ 20) (h60:f.ls.length<=60) (h64:∀ l∈f.ls,l.length<=64):((rT f).map (·.length)).sum+(rT f).length<=95000:=by
 have n6:(rN f).length<=6:=by
  unfold rN
  cases f.mi <;> cases f.ma <;> simp
 have h1:=xO hb
 have h2:=T3 h64 hl
 have h3:=JH h64
 unfold rT
 rw [cW,Ft,dR,aZ]
 omega
def aei (f:Rs):rT f≠[]:=by unfold rT rN;exact p8 _ _
def aej (f:Rs):eV sp1 (eV sp1 ((rN f).map sI)::rW f.ls)=eV sp1 (rT f):=ab4 (by unfold rN;exact p8 _ _) _
def jz {ns:List Int} (hb:∀ n∈ns,n.natAbs<2 ^ 1000) (h:ns.length<=200):((ns.map sI).map (·.length)).sum+(ns.map sI).length<=95000:=by
 have:=xO hb
 rw [aZ]
 omega
def yI {ts:List Str} (h:(ts.map (·.length)).sum+ts.length<=95000):(eV sp1 ts).length<=200000:=by
 have:=Df sp1 ts
 rw [Vx] at this
 omega
/-- the numbers of a agG text -/
structure Kx (x:KS):Prop where
 k:∀ z∈([x.room,x.reach,x.span]:List Int),z.natAbs<2 ^ 1000
 cm:(keys x.cm.c).Nodup
 cl:x.cm.c.length<=63
 cn:∀ z∈fN x.cm,z.natAbs<2 ^ 1000
 wn:(keys x.wn.c).Nodup
 wl:x.wn.c.length<=63
 ws:∀ z∈fN x.wn,z.natAbs<2 ^ 1000
 u1:Km x.up.x
 u2:∀ z∈rN x.up.x,z.natAbs<2 ^ 1000
 u3:∀ l∈x.up.x.ls,∀ z∈l,z.natAbs<10 ^ 20
 u4:x.up.x.ls.length<=60
 u5:∀ l∈x.up.x.ls,l.length<=64
 d1:Km x.dn.x
 d2:∀ z∈rN x.dn.x,z.natAbs<2 ^ 1000
 d3:∀ l∈x.dn.x.ls,∀ z∈l,z.natAbs<10 ^ 20
 d4:x.dn.x.ls.length<=60
 d5:∀ l∈x.dn.x.ls,l.length<=64
 i1:∀ z∈x.wi.c::(bx x.wi.ps).flatMap bI,z.natAbs<2 ^ 1000
 i2:x.wi.ps.length<=63
 s1:∀ z∈[x.di.n,x.di.v]++srt (My.up x.di.v x.di.C),z.natAbs<2 ^ 1000
 s2:(srt (My.up x.di.v x.di.C)).length<=64
 b:∀ z∈L4 x.ba.q,z.natAbs<2 ^ 1000
 tt:0<=x.up.x.tt/\0<=x.dn.x.tt
def Nb.kx {x:KS} {n:Nat} (h:Nb x n) (k:Kh x n):Kx x:=by
 have few:=k.few
 have r64:=k.r64
 obtain ⟨W1,o1⟩:=k.cm.ok
 obtain ⟨W2,o2⟩:=k.wn.ok
 have lu:=jM k.up.g k.up.t few
 have ld:=jM k.dn.g k.dn.t few
 refine ⟨fun z m=>Th.big ?_,o1.nd,by have:=k.cm.k;omega,k.cm.nums few h.cm,o2.nd,by have:=k.wn.k;omega,k.wn.nums few h.wn,h.up.km,h.up.nums k.up few,fun l m z e=>(h.up.ls l m z e).mid,lu.1,k.up.g.small,h.dn.km,h.dn.nums k.dn few,fun l m z e=>(h.dn.ls l m z e).mid,ld.1,k.dn.g.small,h.wins few,by have:=k.wl;omega,h.seen k,?_,h.sums few,by have:=k.up.g.vl;have:=k.dn.g.vl;omega⟩
 ·simp only [cC,qb,or_false] at m
  rcases m with rfl | rfl | rfl
  ·exact ⟨by omega,by omega⟩
  ·exact h.rc
  ·exact h.sn
 ·rw [gq];have:=k.dl.2.1;omega
def Kx.JK {f:Fq} (h:f.c.length<=63):(fN f).length<=200:=by
 unfold fN
 rw [dR,xP,(jy f.c).length_eq]
 show 2+_<=_
 omega
def Kx.T6 {x:KS} (h:Kx x):(x.wi.c::(bx x.wi.ps).flatMap bI).length<=200:=by
 have:=h.i2
 rw [cX,Dd,lW]
 omega
def Kx.JL {x:KS} (h:Kx x):([x.di.n,x.di.v]++srt (My.up x.di.v x.di.C)).length<=200:=by
 have:=h.s2
 rw [dR]
 show 2+_<=_
 omega
def Kx.sum {x:KS} (h:Kx x):((rH x).map (·.length)).sum+(rH x).length<=1048576:=by
 have a0:=nM (h:=bM "keep") (by decide +kernel) (jz h.k (by show 3<=200;decide))
 have a1:=nM (h:=bM "came") (by decide +kernel) (jz h.cn (Kx.JK h.cl))
 have a2:=nM (h:=bM "went") (by decide +kernel) (jz h.ws (Kx.JK h.wl))
 have a3:=nM (h:=bM "up") (by decide +kernel) (Dg h.u2 h.u3 h.u4 h.u5)
 have a4:=nM (h:=bM "down") (by decide +kernel) (Dg h.d2 h.d3 h.d4 h.d5)
 have a5:=nM (h:=bM "window") (by decide +kernel) (jz h.i1 h.T6)
 have a6:=nM (h:=bM "seen") (by decide +kernel) (jz h.s1 h.JL)
 have a7:=nM (h:=bM "sums") (by decide +kernel) (jz h.b (by show 4<=200;decide))
 unfold rH
 simp only [dZ,vN,iK,XH,cX,Xw] at *
 omega
def agH (A:Ad):Sp:=fun vs H Q _=>∃ x:KS,vs=[.ref x.k]/\Kp A H x/\Kx x/\∀ H',Same H H'->Q (.str (eV (bM "\n") (rH x))) H'
def ok'49 (T:Tx K mg A):cI P w K mg base CX0 4 A.Q0 A.wZ ["keepsake"] (agH A):=by
 refine T.F'49.ok CP (fun vs H Q E h=>?_) (fun cdv B outer s H vs Q E hr h=>?_)
 ·obtain ⟨x,rfl,_⟩:=h
  rfl
 ·obtain ⟨x,rfl,hK,hx,q⟩:=h
  refine ⟨_,(aq (aU (i:=1) CP.nd rfl (Or.inl rfl) (cM (aj (aM fV dX (aQ (Fe T) (hr.mono (by decide)) rfl T.g_row T.TF.kp T.Wz .nil aV (aj (cM (aj (aJ (pv 0) rfl) (aj (aJ (pv 0) rfl) (aj (aJ (pv 0) rfl) au)))) au))) (aj (aM fV dX (aQ (aef T) (hr.mono (by decide)) rfl T.oE T.F'48.kp T.b'48 .nil aV (aj (aJ (pv 0) rfl) au))) (aj (aM fV dX (aQ (aef T) (hr.mono (by decide)) rfl T.oE T.F'48.kp T.b'48 .nil aV (aj (aJ (pv 0) rfl) au))) (aj (aM fV dX (aQ (aee T) (hr.mono (by decide)) rfl T.sV T.F'47.kp T.b'47 .nil aV (aj (aJ (pv 0) rfl) au))) (aj (aM fV dX (aQ (aee T) (hr.mono (by decide)) rfl T.sV T.F'47.kp T.b'47 .nil aV (aj (aJ (pv 0) rfl) au))) (aj (aM fV dX (aQ (ok'46 T) (hr.mono (by decide)) rfl T.Cu T.F'46.kp T.b'46 .nil aV (aj (aJ (pv 0) rfl) au))) (aj (aM fV dX (aQ (Fe T) (hr.mono (by decide)) rfl T.g_row T.TF.kp T.Wz .nil aV (aj (aM wK (cM (aj (aJ (aJ (pv 0) rfl) rfl) (aj (aJ (aJ (pv 0) rfl) rfl) au))) (aJ (aJ (pv 0) rfl) rfl)) au))) (aj (aM fV dX (aQ (Fe T) (hr.mono (by decide)) rfl T.g_row T.TF.kp T.Wz .nil aV (aj (aJ (aJ (pv 0) rfl) rfl) au))) au))))))))))
   (aF (cA (d9 Aj xY wz vh dX (aj (pv 1) au))))),?_⟩
  refine ⟨_,rfl,rdF hK.o T.cH T.Mp (Vs ..) ⟨_,rfl,rdF hK.o T.cH T.Mq (MN ..) ⟨_,rfl,rdF hK.o T.cH T.Ci (zH ..) ⟨by show 3<=sizeLine;decide,fun l hl=>?_⟩⟩⟩⟩
  refine ⟨l,[x.room,x.reach,x.span],rfl,ak,hx.k,by show 3<=900;decide,fun H1 t1=>⟨_,_,rfl,rfl,yH (by decide +kernel) (yI (jz hx.k (by show 3<=200;decide))),?_⟩⟩
  have s1:=(Same.new (o:=.lst [.int x.room,.int x.reach,.int x.span]) hl).trans t1
  clear t1 hl
  refine ⟨_,rfl,rdF (s1 _ _ hK.o) T.cH T.En (Jz ..) ⟨x.cm,x.room,rfl,hK.cm.same s1,hx.cm,hx.cl,hx.cn,fun H2 t2=>⟨_,_,rfl,rfl,yH (by decide +kernel) (yI (jz hx.cn (Kx.JK hx.cl))),?_⟩⟩⟩
  have s2:=s1.trans t2
  refine ⟨_,rfl,rdF (s2 _ _ hK.o) T.cH T.Eo (JB ..) ⟨x.wn,x.room,rfl,hK.wn.same s2,hx.wn,hx.wl,hx.ws,fun H3 t3=>⟨_,_,rfl,rfl,yH (by decide +kernel) (yI (jz hx.ws (Kx.JK hx.wl))),?_⟩⟩⟩
  have s3:=s2.trans t3
  refine ⟨_,rfl,rdF (s3 _ _ hK.o) T.cH T.Ep (abU ..) ⟨x.up.p,x.up.x,rfl,hK.up.same s3,hx.u1,hx.u2,hx.u3,hx.u4,hx.u5,fun H4 t4=>?_⟩⟩
  have s4:=s3.trans t4
  rw [aej]
  refine ⟨_,_,rfl,rfl,yH (by decide +kernel) (yI (Dg hx.u2 hx.u3 hx.u4 hx.u5)),?_⟩
  refine ⟨_,rfl,rdF (s4 _ _ hK.o) T.cH T.Er (JC ..) ⟨x.dn.p,x.dn.x,rfl,hK.dn.same s4,hx.d1,hx.d2,hx.d3,hx.d4,hx.d5,fun H5 t5=>?_⟩⟩
  have s5:=s4.trans t5
  rw [aej]
  refine ⟨_,_,rfl,rfl,yH (by decide +kernel) (yI (Dg hx.d2 hx.d3 hx.d4 hx.d5)),?_⟩
  refine ⟨_,rfl,rdF (s5 _ _ hK.o) T.cH T.yC (oJ ..) ⟨x.wi.p,x.wi.dx,x.wi.l,x.room,x.reach,x.wi.c,x.wi.ps,rfl,hK.wi.same s5,hx.i1,by have:=hx.i2;omega,fun H6 t6=>⟨_,_,rfl,rfl,yH (by decide +kernel) (yI (jz hx.i1 hx.T6)),?_⟩⟩⟩
  have s6:=s5.trans t6
  have D6:=hK.di.same s6
  refine ⟨_,rfl,rdF (s6 _ _ hK.o) T.cH T.yD (vI ..) (rdF D6.o T.gM T.Ca (rG ..) ⟨_,rfl,rdF (s6 _ _ hK.o) T.cH T.yD (vI ..) (rdF D6.o T.gM T.vm (oG ..) ⟨by show 2<=sizeLine;decide,fun m hm=>?_⟩)⟩)⟩
  have t7:=Same.new (o:=.lst [.int x.di.n,.int x.di.v]) hm
  have f7:(upd H6 m (.lst [.int x.di.n,.int x.di.v])) m=some (.lst [.int x.di.n,.int x.di.v]):=ak
  generalize upd H6 m (.lst [.int x.di.n,.int x.di.v])=H7 at t7 f7 ⊢
  have s7:=s6.trans t7
  have D7:=D6.same t7
  refine ⟨_,rfl,rdF (s7 _ _ hK.o) T.cH T.yD (vI ..) (rdF D7.o T.gM T.yx (zE ..) ⟨m,x.di.l,_,_,rfl,rfl,f7,D7.l,?_,fun k hk=>?_⟩)⟩
  ·have:=aO (n:=66) (by decide)
   have:=hx.s2
   rw [aZ]
   show 2+_<=_
   omega
  have t8:=Same.new (o:=.lst ([.int x.di.n,.int x.di.v]++(srt (My.up x.di.v x.di.C)).map V.int)) hk
  refine ⟨k,[x.di.n,x.di.v]++srt (My.up x.di.v x.di.C),rfl,by rw [ak,cW];rfl,hx.s1,by have:=hx.JL;omega,fun H8 t9=>⟨_,_,rfl,rfl,yH (by decide +kernel) (yI (jz hx.s1 hx.JL)),?_⟩⟩
  have s8:=s7.trans (t8.trans t9)
  have B8:=hK.ba.same s8
  refine ⟨_,rfl,rdF (s8 _ _ hK.o) T.cH T.yE (lX ..) (rdF B8.o T.rD T.vp (zG ..) ⟨x.ba.l,L4 x.ba.q,rfl,B8.l,hx.b,by show 4<=900;decide,fun H9 t10=>⟨_,_,rfl,rfl,yH (by decide +kernel) (yI (jz hx.b (by show 4<=200;decide))),?_⟩⟩)⟩
  have s9:=s8.trans t10
  have e0:=mO (a:=bM "keep ") (b:=bM "keep") (by decide +kernel) (ts:=([x.room,x.reach,x.span]:List Int).map sI) (p8 _ _)
  have e1:=mO (a:=bM "came ") (b:=bM "came") (by decide +kernel) (ts:=(fN x.cm).map sI) (by unfold fN;exact p8 _ _)
  have e2:=mO (a:=bM "went ") (b:=bM "went") (by decide +kernel) (ts:=(fN x.wn).map sI) (by unfold fN;exact p8 _ _)
  have e3:=mO (a:=bM "up ") (b:=bM "up") (by decide +kernel) (ts:=rT x.up.x) (aei _)
  have e4:=mO (a:=bM "down ") (b:=bM "down") (by decide +kernel) (ts:=rT x.dn.x) (aei _)
  have e5:=mO (a:=bM "window ") (b:=bM "window") (by decide +kernel) (ts:=(x.wi.c::(bx x.wi.ps).flatMap bI).map sI) (p8 _ _)
  have e6:=mO (a:=bM "seen ") (b:=bM "seen") (by decide +kernel) (ts:=([x.di.n,x.di.v]++srt (My.up x.di.v x.di.C)).map sI) (p8 _ _)
  have e7:=mO (a:=bM "sums ") (b:=bM "sums") (by decide +kernel) (ts:=(L4 x.ba.q).map sI) (p8 _ _)
  refine ⟨by show 8<=sizeLine;decide,fun L hL=>?_⟩
  refine ⟨rfl,_,rfl,bM "\n",L,rH x,rfl,rfl,.inl (.inl ?_),by decide +kernel,hx.sum,q _ (s9.trans (Same.new hL))⟩
  rw [ak]
  unfold rH
  rw [<- e0,<- e1,<- e2,<- e3,<- e4,<- e5,<- e6,<- e7]
  rfl
open MK
def IsL.of {H:Hp} {P:Addr->Prop} {n:Nat}:∀ {xs:List V} {ts:List Tr},xs.length=ts.length->(∀ (i:Nat) (x:V) (t:Tr),xs[i]? = some x->ts[i]? = some t->Is H P n x t)->IsL H P n xs ts
 | [],[],_,_=>.nil
 | x::xs,t::ts,e,h=>.cons (h 0 x t rfl rfl) (IsL.of (afs e) fun i=>h (i+1))
def Is.T7 {H:Hp} {P:Addr->Prop} {n:Nat} {v:V} {ts:List Tr} (h:Is H P n v (.t ts)):∃ (m:Nat) (a:Addr) (xs:List V),v = .ref a/\H a=some (.tup xs)/\IsL H P m xs ts:=by
 cases h with
 | tup ha hl h=>exact ⟨_,_,_,rfl,ha,.of hl h⟩
def Is.T8 {H:Hp} {P:Addr->Prop} {n:Nat} {v:V} {ts:List Tr} (h:Is H P n v (.l ts)):∃ (m:Nat) (a:Addr) (xs:List V),v = .ref a/\H a=some (.lst xs)/\IsL H P m xs ts:=by
 cases h with
 | lst pa ha hl h=>exact ⟨_,_,_,rfl,ha,.of hl h⟩
def Is.val {H:Hp} {P:Addr->Prop} {n:Nat} {v u:V} (h:Is H P n v (.f u)):v=u:=by
 cases h with
 | flat _=>rfl
def IsL.get {H:Hp} {P:Addr->Prop} {n:Nat} {xs:List V} {ts:List Tr} {i:Nat} {x:V} (h:IsL H P n xs ts) (e:xs[i]? = some x):∃ t,ts[i]? = some t/\Is H P n x t:=by
 have li:i<ts.length:=by rw [<- h.at.1];exact (gZ.mp e).1
 exact ⟨_,gw li,h.at.2 i x _ e (gw li)⟩
def IsL.ints {H:Hp} {P:Addr->Prop} {n:Nat}:∀ {xs:List V} {ns:List Int},IsL H P n xs (ns.map iT)->xs=ns.map V.int
 | _,[],h=>by cases h;rfl
 | _,k::ns,h=>by
  cases h with
  | cons a b=>rw [a.val,b.ints];rfl
def T9 {α β:Type} {f:α->β} {xs:List α} {i:Nat} {y:β} (h:(xs.map f)[i]? = some y):∃ x,xs[i]? = some x/\y=f x:=by
 rw [kW] at h
 cases e:xs[i]? with
 | none=>rw [e] at h;cases h
 | some x=>rw [e] at h;exact ⟨x,rfl,(bZ h).symm⟩
/-- a list of the law's own that grows -/
structure Lk {α:Type} (f:α->V) (H G:Hp) (L:Addr) (ys:List α):Prop where
 s:Same H G
 n:H L=none
 g:G L=some (.lst (ys.map f))
def Lk.same {α:Type} {f:α->V} {H G G':Hp} {L:Addr} {ys:List α} (h:Lk f H G L ys) (t:Same G G'):Lk f H G' L ys:=⟨h.s.trans t,h.n,t _ _ h.g⟩
def Lk.add {α:Type} {f:α->V} {H G G':Hp} {L:Addr} {ys:List α} (h:Lk f H G L ys) (t:Same G G') (zs:List α):Lk f H (upd G' L (.lst (ys.map f++zs.map f))) L (ys++zs) :=
 ⟨fun b o e=>by rw [aA (ao e h.n)];exact (h.s.trans t) b o e,h.n,by rw [ak,cW]⟩
def adA:Sp:=fun vs H Q _=>∃ (h:Str) (v:V) (P:Addr->Prop) (n room:Nat) (f:Fq),vs=[.str h,v]/\Is H P n v (Fd room f)/\(∀ z∈fN f,z.natAbs<2 ^ 1000)/\f.c.length<=63/\h.length<=16/\∀ H',Same H H'->Q (.str (ln h ((fN f).map sI))) H'
def aek (T:Tx K mg A):cI P w K mg base CX0 2 A.Q5 A.jX ["_law_head","_law_frequent_here"] adA:=by
 refine T.F'50.ok ju (fun vs H Q E h=>?_) (fun cdv B outer s H vs Q E hr h=>?_)
 ·obtain ⟨hd,v,P,n,room,f,rfl,_⟩:=h
  rfl
 ·obtain ⟨hd,v,P,n,room,f,rfl,hv,hb,hl,hh,q⟩:=h
  obtain ⟨m,a,xs,rfl,ha,I4⟩:=hv.T7
  rcases I4 with _ | ⟨j0,_ | ⟨j1,_ | ⟨j2,_ | ⟨j3,_ | _⟩⟩⟩⟩
  obtain rfl:=j0.val
  obtain rfl:=j1.val
  obtain rfl:=j2.val
  obtain ⟨m3,b,ys,rfl,hB,I3⟩:=j3.T8
  refine ⟨_,(aq (aU (i:=2) ju.nd rfl (Or.inl rfl) (cM (aj (cu (ixG (bO hr)) (pv 1) aC (fun _ _=>rfl)) (aj (cu (ixG (bO hr)) (pv 1) aC (fun _ _=>rfl)) au))))
   (aq (jO jD rfl (fU (cu (ixG (bO hr)) (pv 1) aC (fun _ _=>rfl))) (fB (i:=3) ju.nd rfl (Or.inl rfl)) (aF (aY (d9 fJ Ah Ai kO (pv 2) (aj (cM (aj (cu (ixG (bO hr)) (pv 3) aC (fun _ _=>rfl)) (aj (cu (ixG (bO hr)) (pv 3) aC (fun _ _=>rfl)) au))) au)))))
   (aF (cA (aQ (Dc T) (hr.mono (by decide)) rfl T.lR T.Mr.kp T.TJ .nil aV (aj (pv 0) (aj (pv 2) au))))))),?_⟩
  refine ⟨_,rfl,eE (.inl (.inl ha)) (v:=.int f.t) rfl ⟨_,rfl,eE (.inl (.inl ha)) (v:=.int f.l) rfl ⟨by show 2<=sizeLine;decide,fun L hL=>?_⟩⟩⟩
  have K1:Lk V.int H (upd H L (.lst [.int f.t,.int f.l])) L ([f.t,f.l]++pN ((jZ f.c).take 0)):=⟨Same.new hL,hL,ak⟩
  generalize upd H L (.lst [.int f.t,.int f.l])=H1 at K1 ⊢
  have yl:ys.length=f.c.length:=by rw [I3.at.1,aZ,(jy f.c).length_eq]
  have pl:=(jy f.c).length_eq
  refine ⟨_,rfl,eE (.inl (.inl (K1.s _ _ ha))) (v:=.ref b) rfl ⟨b,rfl,⟨_,.inl (.inl (K1.s _ _ hB))⟩,jc (K:=K) (a:=b) (xs:=ys) (fun i σ G=>∃ y:Option V,σ=[some (.str hd),some (.ref a),some (.ref L),y]/\Lk V.int H G L ([f.t,f.l]++pN ((jZ f.c).take i))) ⟨none,rfl,K1⟩ (fun i σ G _ ⟨_,_,k⟩=>.inl (.inl (k.s _ _ hB))) ?_ ?_⟩⟩
  ·rintro i v σ G hi ⟨y,rfl,kG⟩
   obtain ⟨t,ht,jt⟩:=I3.get hi
   obtain ⟨z,hz,rfl⟩:=T9 ht
   have li:i<(jZ f.c).length:=(gZ.mp hz).1
   obtain ⟨m2,c,zs,rfl,hc,I2⟩:=jt.T7
   rcases I2 with _ | ⟨k0,_ | ⟨k1,_ | _⟩⟩
   obtain rfl:=k0.val
   obtain rfl:=k1.val
   have hc:=kG.s _ _ hc
   refine ⟨_,rfl,.inl ⟨rfl,_,.inl (.inl kG.g)⟩,_,rfl,eE (.inl (.inl hc)) (v:=.int z.1) rfl ⟨_,rfl,eE (.inl (.inl hc)) (v:=.int z.2) rfl ⟨by show 2<=sizeLine;decide,fun M hM=>?_⟩⟩⟩
   have tM:=Same.new (o:=.lst [.int z.1,.int z.2]) hM
   refine ⟨L,M,_,_,rfl,rfl,tM _ _ kG.g,ak,mj (aO (by rw [aZ,dR,xP,iw];show 2+_+2<=1000;omega)),?_⟩
   exact ⟨_,rfl,by rw [Vw hz,<- iU];exact kG.add tM [z.1,z.2]⟩
  ·rintro σ G ⟨y,rfl,kG⟩
   rw [yl,<- pl,lZ] at kG
   exact ⟨_,rfl,_,rfl,hd,L,fN f,rfl,.inl (.inl kG.g),hb,by unfold fN;rw [dR,xP];show 2+_<=900;omega,hh,fun H' s'=>q _ (kG.s.trans s')⟩
def adB:Sp:=fun vs H Q _=>∃ (h:Str) (v:V) (P:Addr->Prop) (n:Nat) (f:Rs),vs=[.str h,v]/\Is H P n v (Vt f)/\Km f/\0<=f.tt/\(∀ n∈rN f,n.natAbs<2 ^ 1000)/\(∀ l∈f.ls,∀ n∈l,n.natAbs<10 ^ 20)/\f.ls.length<=60/\(∀ l∈f.ls,l.length<=64)/\h.length<=16/\∀ H',Same H H'->Q (.str (ln h (rT f))) H'
def ael (T:Tx K mg A):cI P w K mg base CX0 2 A.Q6 A.lQ ["_law_head","_law_rungs_here"] adB:=by
 refine T.F'51.ok fZ (fun vs H Q E h=>?_) (fun cdv B outer s H vs Q E hr h=>?_)
 ·obtain ⟨hd,v,P,n,f,rfl,_⟩:=h
  rfl
 ·obtain ⟨hd,v,P,n,f,rfl,hv,km,t0,hb,hl,h60,h64,hh,q⟩:=h
  obtain ⟨m,a,xs,rfl,ha,I8⟩:=hv.T7
  rcases I8 with _ | ⟨j0,_ | ⟨j1,_ | ⟨j2,_ | ⟨j3,_ | ⟨j4,_ | ⟨j5,_ | ⟨j6,_ | ⟨j7,_ | _⟩⟩⟩⟩⟩⟩⟩⟩
  obtain rfl:=j0.val
  obtain rfl:=j1.val
  obtain rfl:=j2.val
  obtain rfl:=j3.val
  obtain rfl:=j4.val
  obtain rfl:=j5.val
  obtain rfl:=j6.val
  obtain ⟨m7,b,ys,rfl,hB,I7⟩:=j7.T8
  have yl:ys.length=f.ls.length:=by rw [I7.at.1,aZ]
  refine ⟨_,(aq (aU (i:=2) fZ.nd rfl (Or.inl rfl) (fu (gH rfl) (by rfl) T.pQ yd (aj (uP afG (pv 1) (mG aC) (mG aC)) au)))
   (aq (gG (cg DN (cu (ixG (bO hr)) (pv 1) aC (fun _ _=>rfl)) aC (cP _)) (aF (aY (d9 fJ Ah Ai kO (pv 2) (aj (cM (aj (cu (ixG (bO hr)) (pv 1) aC (fun _ _=>rfl)) (aj (cu (ixG (bO hr)) (pv 1) aC (fun _ _=>rfl)) au))) au)))) eY)
   (aq (aU (i:=3) fZ.nd rfl (Or.inl rfl) (aQ (Dc T) (hr.mono (by decide)) rfl T.lR T.Mr.kp T.TJ .nil aV (aj (pv 0) (aj (pv 2) au))))
   (aq (jO jD rfl (fU (cu (ixG (bO hr)) (pv 1) aC (fun _ _=>rfl))) (fB (i:=4) fZ.nd rfl (Or.inl rfl)) (aF (aU (i:=3) fZ.nd rfl (Or.inl rfl) (aM fV (pv 3) (aQ (Dc T) (hr.mono (by decide)) rfl T.lR T.Mr.kp T.TJ .nil aV (aj dX (aj (pv 4) au)))))))
   (aF (cA (pv 3))))))),?_⟩
  refine ⟨_,rfl,_,rfl,_,rfl,a,_,rfl,.inl (.inl ha),(by show ¬ (HT.sIx 8 0 (some 1)=0/\HT.sIx 8 8 (some 5)=8);decide),fun p hp=>?_⟩
  rw [show Bf [V.int f.r,V.int f.tt,V.int f.ov,V.int f.un,V.int f.tn,oV f.mi,oV f.ma,V.ref b] (some 1) (some 5)=[.int f.tt,.int f.ov,.int f.un,.int f.tn] from rfl]
  refine .inl ⟨p,[.int f.tt,.int f.ov,.int f.un,.int f.tn],rfl,.inr (.inl (.inl ak)),fun L hL=>?_⟩
  have t1:=Same.new (o:=.tup [.int f.tt,.int f.ov,.int f.un,.int f.tn]) hp
  have K1:Lk V.int H (upd (upd H p (.tup [.int f.tt,.int f.ov,.int f.un,.int f.tn])) L (.lst [.int f.tt,.int f.ov,.int f.un,.int f.tn])) L [f.tt,f.ov,f.un,f.tn]:=⟨t1.trans (Same.new hL),t1.free hL,ak⟩
  generalize upd (upd H p (.tup [.int f.tt,.int f.ov,.int f.un,.int f.tn])) L (.lst [.int f.tt,.int f.ov,.int f.un,.int f.tn])=H1 at K1 ⊢
  have a1:=K1.s _ _ ha
  refine ⟨_,rfl,eE (.inl (.inl a1)) (v:=.int f.tt) rfl ⟨_,_,rfl,rfl,_,rfl,?_⟩⟩
  apply share1 (fun G:Hp=>Lk V.int H G L (rN f))
  ·intro key
   rcases km with ⟨k0,k1,k2⟩ | ⟨k0,c,d,k1,k2⟩
   ·refine fX (fun z=>absurd (of_decide_eq_true z) (by omega)) fun _=>?_
    exact key H1 (by unfold rN;rw [k1,k2];exact K1)
   ·refine fX (fun _=>?_) fun z=>absurd (decide_eq_true (show f.tt>0 by omega)) z
    refine ⟨_,rfl,.inl ⟨rfl,_,.inl (.inl K1.g)⟩,_,rfl,eE (.inl (.inl a1)) (v:=oV f.mi) rfl ⟨_,rfl,eE (.inl (.inl a1)) (v:=oV f.ma) rfl ⟨by show 2<=sizeLine;decide,fun M hM=>?_⟩⟩⟩
    have tM:=Same.new (o:=.lst [oV f.mi,oV f.ma]) hM
    refine ⟨L,M,_,_,rfl,rfl,tM _ _ K1.g,ak,by show 4+2<=sizeLine;decide,?_⟩
    have K2:=K1.add tM [c,d]
    rw [k1,k2] at K2 ⊢
    exact key _ (by unfold rN;rw [k1,k2];exact K2)
  intro G kG
  have n6:(rN f).length<=6:=by
   unfold rN
   cases f.mi <;> cases f.ma <;> simp
  refine ⟨_,rfl,_,rfl,hd,L,rN f,rfl,.inl (.inl kG.g),hb,by omega,hh,fun G1 t1=>?_⟩
  have s1:=kG.s.trans t1
  refine ⟨_,rfl,eE (.inl (.inl (s1 _ _ ha))) (v:=.ref b) rfl ⟨b,rfl,⟨_,.inl (.inl (s1 _ _ hB))⟩,jc (K:=K) (a:=b) (xs:=ys) (fun i σ G=>∃ y:Option V,σ=[some (.str hd),some (.ref a),some (.ref L),some (.str (ln hd ((rN f).map sI++rW (f.ls.take i)))),y]/\Same H G) ⟨none,(by show _=[_,_,_,some (V.str (ln hd (_++[]))),_];rw [Fp];rfl),s1⟩ (fun i σ G _ ⟨_,_,s⟩=>.inl (.inl (s _ _ hB))) ?_ ?_⟩⟩
  ·rintro i v σ G hi ⟨y,rfl,sG⟩
   obtain ⟨t,ht,jt⟩:=I7.get hi
   obtain ⟨l,el,rfl⟩:=T9 ht
   have li:i<f.ls.length:=(gZ.mp el).1
   have ml:=List.mem_of_getElem? el
   obtain ⟨m2,c,zs,rfl,hc,I2⟩:=jt.T8
   obtain rfl:=I2.ints
   have l64:=h64 l ml
   refine ⟨_,rfl,_,rfl,bM " /",c,l,rfl,.inl (.inl (sG _ _ hc)),fun z mz=>lA (hl l ml z mz) (by decide),by omega,by decide +kernel,fun G2 t2=>?_⟩
   have e1:((rT { f with ls:=f.ls.take i }).map (·.length)).sum+(rT { f with ls:=f.ls.take i }).length<=95000:=Dg (f:={ f with ls:=f.ls.take i }) hb (fun k m=>hl k (Fj m)) (by show (f.ls.take i).length<=60;rw [iw];omega) (fun k m=>h64 k (Fj m))
   have e2:=nM (h:=hd) hh e1
   have e3:=nM (h:=bM " /") (ts:=l.map sI) (k:=95000) (by decide +kernel) (jz (fun z mz=>lA (hl l ml z mz) (by decide)) (by omega))
   refine ⟨_,_,rfl,rfl,fH (Ox e2 e3) (by decide),?_⟩
   refine ⟨some (.ref c),?_,sG.trans t2⟩
   rw [Vv el,<- iU,<- adz (a:=bM "/") (b:=bM " /") (by decide +kernel)]
   rfl
  ·rintro σ G ⟨y,rfl,sG⟩
   rw [yl,lZ]
   exact ⟨_,rfl,q _ sG⟩
open MK
def adC:Sp:=fun vs H Q _=>∃ (v:V) (P:Addr->Prop) (n:Nat) (x:KS),vs=[v]/\Is H P n v (ad9 x)/\Kx x/\∀ H',Same H H'->Q (.str (eV (bM "\n") (rH x))) H'
def adD {bs:List WN.Box} {i:Nat} {b:WN.Box} (h:bs[i]? = some b):(bs.take (i+1)).flatMap bI=(bs.take i).flatMap bI++[b.f,b.l,b.s]:=by
 rw [lY,h,vL];simp [bI]
def Lk.one {α:Type} {f:α->V} {H G G':Hp} {L:Addr} {ys:List α} (h:Lk f H G L ys) (t:Same G G') (y:α):Lk f H (upd G' L (.lst (ys.map f++[f y]))) L (ys++[y]):=h.add t [y]
def ok'52 (T:Tx K mg A):cI P w K mg base CX0 3 A.Q7 A.xg ["_law_state_here"] adC:=by
 refine T.F'52.ok pY (fun vs H Q E h=>?_) (fun cdv B outer s H vs Q E hr h=>?_)
 ·obtain ⟨v,P,n,x,rfl,_⟩:=h
  rfl
 ·obtain ⟨v,P,n,x,rfl,hv,hx,q⟩:=h
  obtain ⟨m,a,xs,rfl,ha,I10⟩:=hv.T8
  rcases I10 with _ | ⟨j0,_ | ⟨j1,_ | ⟨j2,_ | ⟨j3,_ | ⟨j4,_ | ⟨j5,_ | ⟨j6,_ | ⟨j7,_ | ⟨j8,_ | ⟨j9,_ | _⟩⟩⟩⟩⟩⟩⟩⟩⟩⟩
  obtain rfl:=j0.val
  obtain rfl:=j1.val
  obtain rfl:=j2.val
  obtain ⟨m7,w,xw,rfl,hw,I7⟩:=j7.T7
  rcases I7 with _ | ⟨w0,_ | ⟨w1,_ | ⟨w2,_ | ⟨w3,_ | _⟩⟩⟩⟩
  obtain rfl:=w2.val
  obtain ⟨m73,wb,bs,rfl,hwb,I73⟩:=w3.T8
  obtain ⟨m8,d,xd,rfl,hd,I8⟩:=j8.T7
  rcases I8 with _ | ⟨d0,_ | ⟨d1,_ | ⟨d2,_ | ⟨d3,_ | _⟩⟩⟩⟩
  obtain rfl:=d1.val
  obtain rfl:=d2.val
  obtain ⟨m83,dl,ds,rfl,hdl,I83⟩:=d3.T8
  obtain rfl:=I83.ints
  obtain ⟨m9,bb,xb,rfl,hbb,I9⟩:=j9.T7
  rcases I9 with _ | ⟨b0,_ | ⟨b1,_ | _⟩⟩
  obtain ⟨m91,bl,zs,rfl,hbl,I91⟩:=b1.T8
  obtain rfl:=I91.ints
  clear j0 j1 j2 w0 w1 w2 w3 d0 d1 d2 d3 b0 b1 j7 j8 j9 hv I83 I91
  refine ⟨_,(aq (aU (i:=1) pY.nd rfl (Or.inl rfl) (cM (aj (aQ (Dc T) (hr.mono (by decide)) rfl T.lR T.Mr.kp T.TJ .nil aV (aj dX (aj (uP Ih (pv 0) Ib (mG aC)) au))) (aj (aQ (aek T) (hr.mono (by decide)) rfl T.qt T.F'50.kp T.b'50 .nil aV (aj dX (aj (cu (ixG (bO hr)) (pv 0) aC (fun _ _=>rfl)) au))) (aj (aQ (aek T) (hr.mono (by decide)) rfl T.qt T.F'50.kp T.b'50 .nil aV (aj dX (aj (cu (ixG (bO hr)) (pv 0) aC (fun _ _=>rfl)) au))) au)))))
   (aq (aY (d9 fJ iQ iR cF (pv 1) (aj (aQ (ael T) (hr.mono (by decide)) rfl T.rF T.F'51.kp T.b'51 .nil aV (aj dX (aj (cu (ixG (bO hr)) (pv 0) aC (fun _ _=>rfl)) au))) au)))
   (aq (aY (d9 fJ iQ iR cF (pv 1) (aj (aQ (ael T) (hr.mono (by decide)) rfl T.rF T.F'51.kp T.b'51 .nil aV (aj dX (aj (cu (ixG (bO hr)) (pv 0) aC (fun _ _=>rfl)) au))) au)))
   (aq (aU (i:=2) pY.nd rfl (Or.inl rfl) (cM (aj (cu (ixG (bO hr)) (cu (ixG (bO hr)) (pv 0) aC (fun _ _=>rfl)) aC (fun _ _=>rfl)) au)))
   (aq (jO jD rfl (fU (cu (ixG (bO hr)) (cu (ixG (bO hr)) (pv 0) aC (fun _ _=>rfl)) aC (fun _ _=>rfl))) (fB (i:=3) pY.nd rfl (Or.inl rfl)) (aF (aY (d9 fJ Ah Ai kO (pv 2) (aj (cM (aj (cu (ixG (bO hr)) (pv 3) aC (fun _ _=>rfl)) (aj (cu (ixG (bO hr)) (pv 3) aC (fun _ _=>rfl)) (aj (cu (ixG (bO hr)) (pv 3) aC (fun _ _=>rfl)) au)))) au)))))
   (aq (aY (d9 fJ iQ iR cF (pv 1) (aj (aQ (Dc T) (hr.mono (by decide)) rfl T.lR T.Mr.kp T.TJ .nil aV (aj dX (aj (pv 2) au))) au)))
   (aq (aY (d9 fJ iQ iR cF (pv 1) (aj (aQ (Dc T) (hr.mono (by decide)) rfl T.lR T.Mr.kp T.TJ .nil aV (aj dX (aj (aM wK (cM (aj (cu (ixG (bO hr)) (cu (ixG (bO hr)) (pv 0) aC (fun _ _=>rfl)) aC (fun _ _=>rfl)) (aj (cu (ixG (bO hr)) (cu (ixG (bO hr)) (pv 0) aC (fun _ _=>rfl)) aC (fun _ _=>rfl)) au))) (cu (ixG (bO hr)) (cu (ixG (bO hr)) (pv 0) aC (fun _ _=>rfl)) aC (fun _ _=>rfl))) au))) au)))
   (aq (aY (d9 fJ iQ iR cF (pv 1) (aj (aQ (Dc T) (hr.mono (by decide)) rfl T.lR T.Mr.kp T.TJ .nil aV (aj dX (aj (cu (ixG (bO hr)) (cu (ixG (bO hr)) (pv 0) aC (fun _ _=>rfl)) aC (fun _ _=>rfl)) au))) au)))
   (aF (cA (d9 Aj xY wz vh dX (aj (pv 1) au)))))))))))),?_⟩
  refine ⟨_,rfl,_,rfl,a,_,rfl,.inl (.inl ha),fun p hp=>⟨_,p,[x.room,x.reach,x.span],rfl,.inl (.inl ak),hx.k,by show 3<=900;decide,by decide +kernel,fun H1 t1=>?_⟩⟩
  have s1:=(Same.new (o:=.lst [.int x.room,.int x.reach,.int x.span]) hp).trans t1
  refine ⟨_,rfl,iz (.inl (.inl (s1 _ _ ha))) (v:=_) rfl ⟨_,_,P,_,x.room,x.cm,rfl,j3.same s1,hx.cn,hx.cl,by decide +kernel,fun H2 t2=>?_⟩⟩
  have s2:=s1.trans t2
  refine ⟨_,rfl,iz (.inl (.inl (s2 _ _ ha))) (v:=_) rfl ⟨_,_,P,_,x.room,x.wn,rfl,j4.same s2,hx.ws,hx.wl,by decide +kernel,fun H3 t3=>?_⟩⟩
  have s3:=s2.trans t3
  refine ⟨by show 3<=sizeLine;decide,fun L hL=>?_⟩
  have K0:Lk V.str H (upd H3 L (.lst [.str (eV (bM " ") (bM "keep" :: ([x.room,x.reach,x.span]:List Int).map sI)),.str (ln (bM "came") ((fN x.cm).map sI)),.str (ln (bM "went") ((fN x.wn).map sI))])) L [ln (bM "keep") (([x.room,x.reach,x.span]:List Int).map sI),ln (bM "came") ((fN x.cm).map sI),ln (bM "went") ((fN x.wn).map sI)]:=⟨s3.trans (Same.new hL),s3.free hL,ak⟩
  generalize upd H3 L _=G0 at K0 ⊢
  refine ⟨_,rfl,.inl ⟨rfl,_,.inl (.inl K0.g)⟩,_,rfl,iz (.inl (.inl (K0.s _ _ ha))) (v:=_) rfl ⟨_,_,P,_,x.up.x,rfl,j5.same K0.s,hx.u1,hx.tt.1,hx.u2,hx.u3,hx.u4,hx.u5,by decide +kernel,fun G1 t4=>?_⟩⟩
  refine ⟨L,_,_,rfl,rfl,t4 _ _ K0.g,aO (by simp),?_⟩
  have K1:=K0.one t4 (ln (bM "up") (rT x.up.x))
  generalize upd G1 L _=G2 at K1 ⊢
  refine ⟨_,rfl,.inl ⟨rfl,_,.inl (.inl K1.g)⟩,_,rfl,iz (.inl (.inl (K1.s _ _ ha))) (v:=_) rfl ⟨_,_,P,_,x.dn.x,rfl,j6.same K1.s,hx.d1,hx.tt.2,hx.d2,hx.d3,hx.d4,hx.d5,by decide +kernel,fun G3 t5=>?_⟩⟩
  refine ⟨L,_,_,rfl,rfl,t5 _ _ K1.g,aO (by simp),?_⟩
  have K2:=K1.one t5 (ln (bM "down") (rT x.dn.x))
  generalize upd G3 L _=G4 at K2 ⊢
  refine ⟨_,rfl,iz (.inl (.inl (K2.s _ _ ha))) (v:=.ref w) rfl (eE (.inl (.inl (K2.s _ _ hw))) (v:=.int x.wi.c) rfl ⟨by show 1<=sizeLine;decide,fun N hN=>?_⟩)⟩
  have tN:=Same.new (o:=.lst [.int x.wi.c]) hN
  have N0:Lk V.int G4 (upd G4 N (.lst [.int x.wi.c])) N (x.wi.c::((bx x.wi.ps).take 0).flatMap bI):=⟨tN,hN,ak⟩
  have K3:=K2.same tN
  generalize upd G4 N (.lst [.int x.wi.c])=G5 at N0 K3 ⊢
  have yl:bs.length=(bx x.wi.ps).length:=by rw [I73.at.1,aZ]
  have bl63:(bx x.wi.ps).length<=63:=by rw [lW];exact hx.i2
  refine ⟨_,rfl,iz (.inl (.inl (K3.s _ _ ha))) (v:=.ref w) rfl (eE (.inl (.inl (K3.s _ _ hw))) (v:=.ref wb) rfl ⟨wb,rfl,⟨_,.inl (.inl (K3.s _ _ hwb))⟩,jc (K:=K) (a:=wb) (xs:=bs) (fun i σ G=>∃ y:Option V,σ=[some (.ref a),some (.ref L),some (.ref N),y]/\Lk V.int G4 G N (x.wi.c::((bx x.wi.ps).take i).flatMap bI)) ⟨none,rfl,N0⟩ (fun i σ G _ ⟨_,_,k⟩=>.inl (.inl (k.s _ _ (K2.s _ _ hwb)))) ?_ ?_⟩)⟩
  ·rintro i v σ G hi ⟨y,rfl,kG⟩
   obtain ⟨t,ht,jt⟩:=I73.get hi
   obtain ⟨z,hz,rfl⟩:=T9 ht
   have li:i<(bx x.wi.ps).length:=(gZ.mp hz).1
   obtain ⟨m2,c,zs,rfl,hc,I2⟩:=jt.T7
   rcases I2 with _ | ⟨k0,_ | ⟨k1,_ | ⟨k2,_ | _⟩⟩⟩
   obtain rfl:=k0.val
   obtain rfl:=k1.val
   obtain rfl:=k2.val
   have hc:=kG.s _ _ (K2.s _ _ hc)
   refine ⟨_,rfl,.inl ⟨rfl,_,.inl (.inl kG.g)⟩,_,rfl,eE (.inl (.inl hc)) (v:=.int z.f) rfl ⟨_,rfl,eE (.inl (.inl hc)) (v:=.int z.l) rfl ⟨_,rfl,eE (.inl (.inl hc)) (v:=.int z.s) rfl ⟨by show 3<=sizeLine;decide,fun M hM=>?_⟩⟩⟩⟩
   have tM:=Same.new (o:=.lst [.int z.f,.int z.l,.int z.s]) hM
   refine ⟨N,M,_,_,rfl,rfl,tM _ _ kG.g,ak,mj (aO (by rw [aZ,cX,Dd,iw];show _+3<=1000;omega)),?_⟩
   exact ⟨_,rfl,by rw [adD hz,<- vM];exact kG.add tM [z.f,z.l,z.s]⟩
  ·rintro σ G ⟨y,rfl,kG⟩
   rw [yl,lZ] at kG
   have K4:=K2.same kG.s
   refine ⟨_,rfl,.inl ⟨rfl,_,.inl (.inl K4.g)⟩,_,rfl,_,N,_,rfl,.inl (.inl kG.g),hx.i1,by have:=hx.T6;omega,by decide +kernel,fun G6 t6=>?_⟩
   refine ⟨L,_,_,rfl,rfl,t6 _ _ K4.g,aO (by simp),?_⟩
   have K5:=K4.one t6 (eV (bM " ") (bM "window" :: ((x.wi.c::(bx x.wi.ps).flatMap bI).map sI)))
   generalize upd G6 L _=G7 at K5 ⊢
   refine ⟨_,rfl,.inl ⟨rfl,_,.inl (.inl K5.g)⟩,_,rfl,iz (.inl (.inl (K5.s _ _ ha))) (v:=.ref d) rfl (eE (.inl (.inl (K5.s _ _ hd))) (v:=.int x.di.n) rfl ⟨_,rfl,iz (.inl (.inl (K5.s _ _ ha))) (v:=.ref d) rfl (eE (.inl (.inl (K5.s _ _ hd))) (v:=.int x.di.v) rfl ⟨by show 2<=sizeLine;decide,fun e he=>?_⟩)⟩)⟩
   have te:=Same.new (o:=.lst [.int x.di.n,.int x.di.v]) he
   have fe:(upd G7 e (.lst [.int x.di.n,.int x.di.v])) e=some (.lst [.int x.di.n,.int x.di.v]):=ak
   generalize upd G7 e (.lst [.int x.di.n,.int x.di.v])=G8 at te fe ⊢
   have K6:=K5.same te
   refine ⟨_,rfl,iz (.inl (.inl (K6.s _ _ ha))) (v:=.ref d) rfl (eE (.inl (.inl (K6.s _ _ hd))) (v:=.ref dl) rfl ⟨e,dl,_,_,rfl,rfl,fe,K6.s _ _ hdl,?_,fun k hk=>?_⟩)⟩
   ·have:=aO (n:=66) (by decide)
    have:=hx.s2
    rw [aZ]
    show 2+_<=_
    omega
   have tk:=Same.new (o:=.lst ([.int x.di.n,.int x.di.v]++(srt (My.up x.di.v x.di.C)).map V.int)) hk
   refine ⟨_,k,[x.di.n,x.di.v]++srt (My.up x.di.v x.di.C),rfl,.inl (.inl (by rw [ak,cW];rfl)),hx.s1,by have:=hx.JL;omega,by decide +kernel,fun G9 t9=>?_⟩
   have tk9:=tk.trans t9
   refine ⟨L,_,_,rfl,rfl,tk9 _ _ K6.g,aO (by simp),?_⟩
   have K7:=K6.one tk9 (eV (bM " ") (bM "seen" :: (([x.di.n,x.di.v]++srt (My.up x.di.v x.di.C)).map sI)))
   generalize upd G9 L _=G10 at K7 ⊢
   refine ⟨_,rfl,.inl ⟨rfl,_,.inl (.inl K7.g)⟩,_,rfl,iz (.inl (.inl (K7.s _ _ ha))) (v:=.ref bb) rfl (eE (.inl (.inl (K7.s _ _ hbb))) (v:=.ref bl) rfl ⟨_,bl,L4 x.ba.q,rfl,.inl (.inl (K7.s _ _ hbl)),hx.b,by show 4<=900;decide,by decide +kernel,fun G11 t11=>?_⟩)⟩
   refine ⟨L,_,_,rfl,rfl,t11 _ _ K7.g,aO (by simp),?_⟩
   have K8:=K7.one t11 (eV (bM " ") (bM "sums" :: ((L4 x.ba.q).map sI)))
   generalize upd G11 L _=G12 at K8 ⊢
   exact ⟨rfl,_,rfl,bM "\n",L,rH x,rfl,rfl,.inl (.inl K8.g),by decide +kernel,hx.sum,q _ K8.s⟩
open MK
def adE (A:Ad):Sp:=fun vs H Q _=>∃ (x:KS) (n:Nat),vs=[.ref x.k]/\Kp A H x/\Kh x n/\Nb x n/\∀ H',Same H H'->Q (.bl true) H'
def aem (T:Tx K mg A):cI P w K mg base CX0 5 A.Q8 A.xq ["_law_keepsake"] (adE A):=by
 refine T.F'53.ok uF (fun vs H Q E h=>?_) (fun cdv B outer s H vs Q E hr h=>?_)
 ·obtain ⟨x,n,rfl,_⟩:=h
  rfl
 ·obtain ⟨x,n,rfl,hK,hG,hN,q⟩:=h
  have hx:=hN.kx hG
  refine ⟨_,(aq (aU (i:=1) uF.nd rfl (Or.inl rfl) (aQ (aec T) (hr.mono (by decide)) rfl T.Et T.F'42.kp T.b'42 .nil aV (aj (pv 0) au)))
   (aq (aU (i:=2) uF.nd rfl (Or.inl rfl) (aQ (ok'49 T) (hr.mono (by decide)) rfl T.WD T.F'49.kp T.b'49 .nil aV (aj (pv 0) au)))
   (aF (cA (aah (dz call_isinstance (by rfl) T.Jj aer (aj (pv 2) (aj (acf (v:=.ty "str") rfl T.Vj Hj rfl) au))) (aah (Uv qe (pv 2) (aQ (ok'52 T) (hr.mono (by decide)) rfl T.WK T.F'52.kp T.b'52 .nil aV (aj (pv 1) au)) (cP _)) (afA (Uv (afY hr.units) (aQ (aec T) (hr.mono (by decide)) rfl T.Et T.F'42.kp T.b'42 .nil aV (aj (pv 0) au)) (pv 1) (cP _))))))))),?_⟩
  refine ⟨_,rfl,x,n,rfl,hK,hG,fun v H1 s1 i1=>?_⟩
  refine ⟨_,rfl,x,rfl,hK.same s1,hx,fun H2 s2=>?_⟩
  have s12:=s1.trans s2
  refine ⟨_,rfl,_,_,_,_,true,rfl,rfl,(fun u hu=>hu),.str _,rfl,?_⟩
  refine ⟨_,rfl,aaD ⟨_,rfl,_,rfl,.ref v,_,_,x,rfl,i1.same s2,hx,fun H3 s3=>⟨rfl,?_⟩⟩⟩
  have s13:=s12.trans s3
  refine ⟨_,rfl,fX (fun _=>?_) (fun z=>absurd (decide_eq_true rfl) z)⟩
  refine ⟨_,rfl,x,n,rfl,hK.same s13,hG,fun v2 H4 s4 i4=>?_⟩
  exact ⟨_,rfl,4,v2,v,rfl,rfl,by decide,i4.alike ((i1.same s2).same (s3.trans s4)),q _ (s13.trans s4)⟩
structure W1 (A:Ad) (H0 H:Hp) (x:KS) (n:Nat):Prop where
 scr:Same H0 H
 kp:Kp A H x
 kh:Kh x n
 nb:Nb x n
 fx:∀ b∈x.pts,H0 b=none
def W1.same {A:Ad} {H0 H H':Hp} {x:KS} {n:Nat} (h:W1 A H0 H x n) (s:Same H H'):W1 A H0 H' x n:=⟨h.scr.trans s,h.kp.same s,h.kh,h.nb,h.fx⟩
def W1.row {A:Ad} {H0 H H1:Hp} {x x':KS} {n:Nat} {r:R3} (h:W1 A H0 H x n) (hn:n<63) (ok:r.ok) (k1:Kp A H1 x') (s1:SR r x x') (f1:Far A x.pts H H1):W1 A H0 H1 x' (n+1):=by
 have kh:=h.kh.row hn ok s1
 refine ⟨fun b o e=>f1.pb _ _ (h.scr b o e) fun m=>?_,k1,kh,h.nb.row h.kh kh ok s1,by rw [s1.sb.pts];exact h.fx⟩
 have:=h.fx b m
 rw [e] at this
 cases this
def Nb.eq {x y:KS} {n:Nat} (h:Nb y n) (e:Eqp x y):Nb x n:=by
 have gu:∀ {f g:Rs},ER f g->Gu g n->Gu f n:=fun {f g} e1 g1=>⟨by have:=g1.km;unfold Km at *; rw [e1.tt,e1.mi,e1.ma];exact this,by rw [e1.mi];exact g1.mi,by rw [e1.ma];exact g1.ma,by rw [e1.ls];exact g1.ls,by rw [e1.tn];exact g1.t0,by rw [e1.tn];exact g1.tn⟩
 exact ⟨by rw [e.reach];exact h.rc,by rw [e.span];exact h.sn,by rw [e.cm.c];exact h.cm,by rw [e.wn.c];exact h.wn,gu e.up h.up,gu e.dn h.dn,by rw [e.wi.c];exact h.c0,by rw [e.wi.c];exact h.c1,by rw [e.wi.c,e.wi.b];exact h.wi,by rw [e.di.n];exact h.dn0,by rw [e.di.n];exact h.dn1,by rw [e.di.v];exact h.dv,by rw [e.di.C];exact h.dc,by rw [e.ba];exact h.ba⟩
def ok'54 (T:Tx K mg A):cI P w K mg base CX0 9 A.VB A.abu ["_law_script"] (abG K):=by
 refine T.F'54.ok xM (fun vs H Q E h=>?_) (fun cdv B outer s H vs Q E hr h=>?_)
 ·obtain ⟨a,ns,rfl,_⟩:=h
  rfl
 ·obtain ⟨a,ns,rfl,hS,hlen,q⟩:=h
  refine ⟨_,(aq (wG (aQ (ok'38 T) (hr.mono (by decide)) rfl T.Ji T.F'38.kp T.b'38 .nil aV (aj (dz (Wu rfl) (by rfl) T.n_sum aev (aj (uP Ih (pv 0) Ib (mG aC)) au)) au)) (aai rfl (qW (fB (i:=1) xM.nd rfl (Or.inl rfl)) (qW (fB (i:=2) xM.nd rfl (Or.inl rfl)) (qW (fB (i:=3) xM.nd rfl (Or.inl rfl)) Uq)))))
   (aq (aU (i:=4) xM.nd rfl (Or.inl rfl) (mF T.mk'60 (ok'32 T) (hr.mono (by decide)) rfl T.Tv T.b'32 .nil aV (aj (pv 1) (aj (pv 2) (aj (pv 3) au)))))
   (aq (jO jD rfl (fU (pv 0)) (fB (i:=5) xM.nd rfl (Or.inl rfl)) (aq (aY (aQ (ok'39 T) (hr.mono (by decide)) rfl T.abC T.F'39.kp T.b'39 .nil aV (aj (pv 4) (aj (aQ (ok'37 T) (hr.mono (by decide)) rfl T.Tz T.F'37.kp T.b'37 .nil aV (aj (pv 5) au)) au))))
   (aF (gG (PW.pt (pw_and (cg qe (aM dF (aM gn (pv 5) aC) aC) aC (cP _)) (pw_and1 (afz (afy (aQ (aem T) (hr.mono (by decide)) rfl T.Ew T.F'53.kp T.b'53 .nil aV (aj (pv 4) au))))))) (aF (cA pe_bl)) eY))))
   (aF (cA (aQ (aem T) (hr.mono (by decide)) rfl T.Ew T.F'53.kp T.b'53 .nil aV (aj (pv 4) au))))))),?_⟩
  obtain ⟨cs,ecs,lcs,_⟩:=abj ns none (some 1)
  refine ⟨_,rfl,_,rfl,a,_,rfl,hS,fun z hz=>?_⟩
  rw [ecs]
  refine ⟨z,_,rfl,.inl (.inl ak),?_⟩
  have s0:=Same.new (o:=.lst (cs.map V.int)) hz
  generalize upd H z (.lst (cs.map V.int))=H0 at s0 ⊢
  refine ⟨_,rfl,fun t room reach span H1 r2 r64 ev rr hre hsp ht s1=>?_⟩
  refine ⟨t,_,rfl,.inl (.inl ht),rfl,_,_,rfl,_,_,rfl,_,_,rfl,rfl,?_⟩
  have s01:=s0.trans s1
  refine ⟨_,rfl,_,rfl,_,rfl,fun k dk n1 n2 n3=>⟨k,dk,room,reach,span,rfl,ak,r2,r64,ev,fun x H2 kp eqx ek hpts bt=>⟨rfl,?_⟩⟩⟩
  have up2:Same H1 (upd (upd H1 dk (.own k)) k (.ins A.cD dk [])):=fun b o e=>by rw [aA (ao e n1),aA (ao e n2)];exact e
  have s2:Same H1 H2:=fun b o e=>bt b o (up2 b o e) (ao e n1)
  have W0:W1 A H H2 x 0:=⟨s01.trans s2,kp,(kh0 reach span r2 r64 ev rr).eq eqx,(nb0 hre hsp).eq eqx,fun b m=>(s01.trans up2).free (hpts b m)⟩
  clear n1 n2 n3 up2 bt hpts
  refine ⟨_,rfl,a,rfl,⟨_,W0.scr.seq hS⟩,jc (K:=K) (a:=a) (xs:=ns.map V.int) (fun i σ G=>∃ (x':KS) (y:Option V),σ=[some (.ref a),some (.int room),some (.int reach),some (.int span),some (.ref k),y]/\W1 A H G x' i/\x'.k=k) ⟨x,none,rfl,W0,ek⟩ (fun i σ G _ ⟨_,_,_,h,_⟩=>h.scr.seq hS) ?_ ?_⟩
  ·rintro i v σ G hi ⟨x1,y,rfl,W,hk⟩
   have hi63:i<63:=by
    have:=(gZ.mp hi).1
    rw [aZ] at this
    omega
   obtain ⟨cell,_,rfl⟩:=int_at hi
   refine ⟨_,rfl,_,rfl,cell,rfl,fun tr r G1 ok nt htr s1=>?_⟩
   have W1:=W.same s1
   refine ⟨x1,i,tr,r,by rw [hk];rfl,W1.kp,W1.kh,by omega,htr,ok,fun x3 G2 k3 sr3 f3=>?_⟩
   have W3:=W1.row (by omega) ok k3 sr3 f3
   have hk3:x3.k=k:=sr3.sb.k.trans hk
   refine ⟨_,rfl,_,_,rfl,rfl,⟨by decide,by decide⟩,_,_,rfl,rfl,(by show (0:Int)<5;decide),rfl,_,rfl,fX (fun _=>?_) (fun _=>Sv ?_)⟩
   ·exact ⟨_,rfl,x3,i+1,by rw [hk3];rfl,W3.kp,W3.kh,W3.nb,fun G4 s4=>⟨_,rfl,Sv ⟨x3,_,rfl,W3.same s4,hk3⟩⟩⟩
   ·exact ⟨x3,_,rfl,W3,hk3⟩
  ·rintro σ G ⟨x1,y,rfl,W,hk⟩
   exact ⟨_,rfl,x1,_,by rw [hk];rfl,W.kp,W.kh,W.nb,fun H' s'=>q _⟩
theorem LK.fn {K : PySem.W.Frag} {n q : Str} {s : Stmt} {f : Addr} (h : LK K n q s f) : ∃ fd, Fun K n q s f fd := by
  obtain ⟨oc, od, an, sl, kV, dc, pm, cd, ct, l, c, k⟩ := h
  exact ⟨_, afN l c k⟩
noncomputable def fdOf {K : PySem.W.Frag} {n q : Str} {s : Stmt} {f : Addr} (h : LK K n q s f) : FuncData := Classical.choose h.fn
theorem aR {K : PySem.W.Frag} {n q : Str} {s : Stmt} {f : Addr} (h : LK K n q s f) : Fun K n q s f (fdOf h) := Classical.choose_spec h.fn
theorem CK.cl {K : PySem.W.Frag} {C : Addr} (h : CK K C) : Cls K C := ⟨h.1, h.2.1, h.2.2.1, h.2.2.2.1⟩
theorem CK.mk {K : PySem.W.Frag} {C f : Addr} {q : Str} {s : Stmt} (h : CK K C) (m : MeK K C "__init__" q s f) : Mk K C f := ⟨h.2.2.2.2.1, m.1, m.2.1, h.2.2.2.2.2⟩
theorem MeK.mt {K : PySem.W.Frag} {C f : Addr} {n q : Str} {s : Stmt} {fd : FuncData} (m : MeK K C n q s f) (F : Fun K n q s f fd) : Meth K C n f := ⟨m.1, m.2.1, F.kp⟩
def RR (w : World) (K : PySem.W.Frag) (mg : Str → Option Value) (fa : Addr) : Prop := ∃ fd : FuncData, (∀ (s : Shared) (v : Value), BindsTo s fd ⟨[v], []⟩ [("_law_script", v)]) ∧ ∀ base : Heap, K.In base → base.Ns mainGlobals mg → cI PySem.Challenge.rw_sketchbounds_k30_written.prog w K mg base CX0 9 fa fd ["_law_script"] (abG K)
theorem all_mk : aae RR := by
  intro w K h mg fa dB gP iI iY nU cD f'0 f'1 f'2 f'3 f'4 f'5 f'6 f'7 f'8 f'9 JR Qh Qi Qj Qk Ql JT Qm Qn Qo JV Qp Qq Qs Qt Qu JW Qv Qw Qx Qy Qz JX QB QC QD QF QG QH QJ QK QL QM QS QT QV QW QX QZ Q0 Q5 Q6 Q7 Q8 VB X G hfa Uc qR uM Ud nW rK Ue jF mq Ug jG mC Uh lD oZ Ui jH mD a'0 a'1 a'2 a'3 a'4 a'5 a'6 a'7 a'8 a'9 HB JZ J0 J5 Q9 Ra HD Rb J6 J7 HF Rf Rg J8 J9 Rh HJ Ka Kc Kd Ke Kf HN Ri Rj Rm Ro Rp Rq Rr Rt Rv Rw Rx Ry Rz RB RD RJ RK RL RM RN RP Dh zk Uj HS nY iB Kg zc nZ iC DG uN
  have e := hfa.symm.trans (PySem.W.mg_of X G Dh.1)
  cases e
  obtain ⟨Mf, yu, BP, BR, ql, BW, BX, BZ, _⟩ := uM
  obtain ⟨Mh, Mi, qm, yw, _⟩ := rK
  obtain ⟨Mj, Ca, vm, yx, _⟩ := mq
  obtain ⟨Ml, Ce, Cg, vo, _⟩ := mC
  obtain ⟨Vh, vp, _⟩ := oZ
  obtain ⟨Mp, Mq, Ci, En, Eo, Ep, Er, yC, yD, yE, _⟩ := mD
  obtain ⟨z_abs, agI, JM, z_len, agJ, z_max, z_min, adF, Ua, ab6, z_str, z_sum, _⟩ := zk
  have T : Tx K mg ⟨dB, gP, iI, iY, nU, cD, f'0, fdOf a'0.2, f'1, fdOf a'1.2, f'2, fdOf a'2.2, f'3, fdOf a'3.2.2, f'4, fdOf a'4.2.2, f'5, fdOf a'5.2, f'6, fdOf a'6.2, f'7, fdOf a'7.2.2, f'8, fdOf a'8.2.2, f'9, fdOf a'9.2, JR, fdOf HB.2.2, Qh, fdOf JZ.2.2, Qi, fdOf J0.2.2, Qj, fdOf J5.2.2, Qk, fdOf Q9.2, Ql, fdOf Ra.2, JT, fdOf HD.2.2, Qm, fdOf Rb.2, Qn, fdOf J6.2.2, Qo, fdOf J7.2.2, JV, fdOf HF.2.2, Qp, fdOf Rf.2, Qq, fdOf Rg.2, Qs, fdOf J8.2.2, Qt, fdOf J9.2.2, Qu, fdOf Rh.2, JW, fdOf HJ.2.2, Qv, fdOf Ka.2.2, Qw, fdOf Kc.2.2, Qx, fdOf Kd.2.2, Qy, fdOf Ke.2.2, Qz, fdOf Kf.2.2, JX, fdOf HN.2.2, QB, fdOf Ri.2, QC, fdOf Rj.2, QD, fdOf Rm.2, QF, fdOf Ro.2, QG, fdOf Rp.2, QH, fdOf Rq.2, QJ, fdOf Rr.2, QK, fdOf Rt.2, QL, fdOf Rv.2, QM, fdOf Rw.2, QS, fdOf Rx.2, QT, fdOf Ry.2, QV, fdOf Rz.2, QW, fdOf RB.2, QX, fdOf RD.2, QZ, fdOf RJ.2, Q0, fdOf RK.2, Q5, fdOf RL.2, Q6, fdOf RM.2, Q7, fdOf RN.2, Q8, fdOf RP.2, fa, fdOf Dh.2⟩ := ⟨qR.cl,
    PySem.W.mg_of X G Uc,
    qR.mk a'7,
    Mf,
    yu,
    BP,
    BR,
    ql,
    BW,
    BX,
    BZ,
    nW.cl,
    PySem.W.mg_of X G Ud,
    nW.mk HB,
    Mh,
    Mi,
    qm,
    yw,
    jF.cl,
    PySem.W.mg_of X G Ue,
    jF.mk HD,
    Mj,
    Ca,
    vm,
    yx,
    jG.cl,
    PySem.W.mg_of X G Ug,
    jG.mk HF,
    Ml,
    Ce,
    Cg,
    vo,
    lD.cl,
    PySem.W.mg_of X G Uh,
    lD.mk HJ,
    Vh,
    vp,
    jH.cl,
    PySem.W.mg_of X G Ui,
    jH.mk HN,
    Mp,
    Mq,
    Ci,
    En,
    Eo,
    Ep,
    Er,
    yC,
    yD,
    yE,
    aR a'0.2,
    (aR a'0.2).binds fun _ _ _ _ _ _ us hl => match us, hl with | [_, _, _], _ => rfl,
    PySem.W.mg_of X G a'0.1,
    aR a'1.2,
    (aR a'1.2).binds fun _ _ _ _ _ _ us hl => match us, hl with | [_], _ => rfl,
    PySem.W.mg_of X G a'1.1,
    aR a'2.2,
    (aR a'2.2).binds fun _ _ _ _ _ _ us hl => match us, hl with | [_, _], _ => rfl,
    PySem.W.mg_of X G a'2.1,
    aR a'3.2.2,
    (aR a'3.2.2).binds fun _ _ _ _ _ _ us hl => match us, hl with | [_, _], _ => rfl,
    a'3.mt (aR a'3.2.2),
    aR a'4.2.2,
    (aR a'4.2.2).binds fun _ _ _ _ _ _ us hl => match us, hl with | [_, _], _ => rfl,
    a'4.mt (aR a'4.2.2),
    aR a'5.2,
    (aR a'5.2).binds fun _ _ _ _ _ _ us hl => match us, hl with | [_, _], _ => rfl,
    PySem.W.mg_of X G a'5.1,
    aR a'6.2,
    (aR a'6.2).binds fun _ _ _ _ _ _ us hl => match us, hl with | [_, _], _ => rfl,
    PySem.W.mg_of X G a'6.1,
    aR a'7.2.2,
    (aR a'7.2.2).binds fun _ _ _ _ _ _ us hl => match us, hl with | [_, _], _ => rfl,
    a'7.mt (aR a'7.2.2),
    aR a'8.2.2,
    (aR a'8.2.2).binds fun _ _ _ _ _ _ us hl => match us, hl with | [_, _, _], _ => rfl,
    a'8.mt (aR a'8.2.2),
    aR a'9.2,
    (aR a'9.2).binds fun _ _ _ _ _ _ us hl => match us, hl with | [_, _], _ => rfl,
    PySem.W.mg_of X G a'9.1,
    aR HB.2.2,
    (aR HB.2.2).binds fun _ _ _ _ _ _ us hl => match us, hl with | [_, _, _], _ => rfl,
    HB.mt (aR HB.2.2),
    aR JZ.2.2,
    (aR JZ.2.2).binds fun _ _ _ _ _ _ us hl => match us, hl with | [_, _], _ => rfl,
    JZ.mt (aR JZ.2.2),
    aR J0.2.2,
    (aR J0.2.2).binds fun _ _ _ _ _ _ us hl => match us, hl with | [_, _], _ => rfl,
    J0.mt (aR J0.2.2),
    aR J5.2.2,
    (aR J5.2.2).binds fun _ _ _ _ _ _ us hl => match us, hl with | [_, _], _ => rfl,
    J5.mt (aR J5.2.2),
    aR Q9.2,
    (aR Q9.2).binds fun _ _ _ _ _ _ us hl => match us, hl with | [_], _ => rfl,
    PySem.W.mg_of X G Q9.1,
    aR Ra.2,
    (aR Ra.2).binds fun _ _ _ _ _ _ us hl => match us, hl with | [_], _ => rfl,
    PySem.W.mg_of X G Ra.1,
    aR HD.2.2,
    (aR HD.2.2).binds fun _ _ _ _ _ _ us hl => match us, hl with | [_, _], _ => rfl,
    HD.mt (aR HD.2.2),
    aR Rb.2,
    (aR Rb.2).binds fun _ _ _ _ _ _ us hl => match us, hl with | [_, _], _ => rfl,
    PySem.W.mg_of X G Rb.1,
    aR J6.2.2,
    (aR J6.2.2).binds fun _ _ _ _ _ _ us hl => match us, hl with | [_, _], _ => rfl,
    J6.mt (aR J6.2.2),
    aR J7.2.2,
    (aR J7.2.2).binds fun _ _ _ _ _ _ us hl => match us, hl with | [_, _], _ => rfl,
    J7.mt (aR J7.2.2),
    aR HF.2.2,
    (aR HF.2.2).binds fun _ _ _ _ _ _ us hl => match us, hl with | [_, _], _ => rfl,
    HF.mt (aR HF.2.2),
    aR Rf.2,
    (aR Rf.2).binds fun _ _ _ _ _ _ us hl => match us, hl with | [_, _], _ => rfl,
    PySem.W.mg_of X G Rf.1,
    aR Rg.2,
    (aR Rg.2).binds fun _ _ _ _ _ _ us hl => match us, hl with | [_, _], _ => rfl,
    PySem.W.mg_of X G Rg.1,
    aR J8.2.2,
    (aR J8.2.2).binds fun _ _ _ _ _ _ us hl => match us, hl with | [_, _], _ => rfl,
    J8.mt (aR J8.2.2),
    aR J9.2.2,
    (aR J9.2.2).binds fun _ _ _ _ _ _ us hl => match us, hl with | [_, _, _], _ => rfl,
    J9.mt (aR J9.2.2),
    aR Rh.2,
    (aR Rh.2).binds fun _ _ _ _ _ _ us hl => match us, hl with | [_, _, _], _ => rfl,
    PySem.W.mg_of X G Rh.1,
    aR HJ.2.2,
    (aR HJ.2.2).binds fun _ _ _ _ _ _ us hl => match us, hl with | [_, _], _ => rfl,
    HJ.mt (aR HJ.2.2),
    aR Ka.2.2,
    (aR Ka.2.2).binds fun _ _ _ _ _ _ us hl => match us, hl with | [_, _, _], _ => rfl,
    Ka.mt (aR Ka.2.2),
    aR Kc.2.2,
    (aR Kc.2.2).binds fun _ _ _ _ _ _ us hl => match us, hl with | [_, _, _], _ => rfl,
    Kc.mt (aR Kc.2.2),
    aR Kd.2.2,
    (aR Kd.2.2).binds fun _ _ _ _ _ _ us hl => match us, hl with | [_, _, _], _ => rfl,
    Kd.mt (aR Kd.2.2),
    aR Ke.2.2,
    (aR Ke.2.2).binds fun _ _ _ _ _ _ us hl => match us, hl with | [_, _, _], _ => rfl,
    Ke.mt (aR Ke.2.2),
    aR Kf.2.2,
    (aR Kf.2.2).binds fun _ _ _ _ _ _ us hl => match us, hl with | [_, _], _ => rfl,
    Kf.mt (aR Kf.2.2),
    aR HN.2.2,
    (aR HN.2.2).binds fun _ _ _ _ _ _ us hl => match us, hl with | [_, _, _, _], _ => rfl,
    HN.mt (aR HN.2.2),
    aR Ri.2,
    (aR Ri.2).binds fun _ _ _ _ _ _ us hl => match us, hl with | [_, _, _], _ => rfl,
    PySem.W.mg_of X G Ri.1,
    aR Rj.2,
    (aR Rj.2).binds fun _ _ _ _ _ _ us hl => match us, hl with | [], _ => rfl,
    PySem.W.mg_of X G Rj.1,
    aR Rm.2,
    (aR Rm.2).binds fun _ _ _ _ _ _ us hl => match us, hl with | [_], _ => rfl,
    PySem.W.mg_of X G Rm.1,
    aR Ro.2,
    (aR Ro.2).binds fun _ _ _ _ _ _ us hl => match us, hl with | [_], _ => rfl,
    PySem.W.mg_of X G Ro.1,
    aR Rp.2,
    (aR Rp.2).binds fun _ _ _ _ _ _ us hl => match us, hl with | [_], _ => rfl,
    PySem.W.mg_of X G Rp.1,
    aR Rq.2,
    (aR Rq.2).binds fun _ _ _ _ _ _ us hl => match us, hl with | [_], _ => rfl,
    PySem.W.mg_of X G Rq.1,
    aR Rr.2,
    (aR Rr.2).binds fun _ _ _ _ _ _ us hl => match us, hl with | [_, _], _ => rfl,
    PySem.W.mg_of X G Rr.1,
    aR Rt.2,
    (aR Rt.2).binds fun _ _ _ _ _ _ us hl => match us, hl with | [_], _ => rfl,
    PySem.W.mg_of X G Rt.1,
    aR Rv.2,
    (aR Rv.2).binds fun _ _ _ _ _ _ us hl => match us, hl with | [_], _ => rfl,
    PySem.W.mg_of X G Rv.1,
    aR Rw.2,
    (aR Rw.2).binds fun _ _ _ _ _ _ us hl => match us, hl with | [_], _ => rfl,
    PySem.W.mg_of X G Rw.1,
    aR Rx.2,
    (aR Rx.2).binds fun _ _ _ _ _ _ us hl => match us, hl with | [_], _ => rfl,
    PySem.W.mg_of X G Rx.1,
    aR Ry.2,
    (aR Ry.2).binds fun _ _ _ _ _ _ us hl => match us, hl with | [_], _ => rfl,
    PySem.W.mg_of X G Ry.1,
    aR Rz.2,
    (aR Rz.2).binds fun _ _ _ _ _ _ us hl => match us, hl with | [_, _], _ => rfl,
    PySem.W.mg_of X G Rz.1,
    aR RB.2,
    (aR RB.2).binds fun _ _ _ _ _ _ us hl => match us, hl with | [_], _ => rfl,
    PySem.W.mg_of X G RB.1,
    aR RD.2,
    (aR RD.2).binds fun _ _ _ _ _ _ us hl => match us, hl with | [_], _ => rfl,
    PySem.W.mg_of X G RD.1,
    aR RJ.2,
    (aR RJ.2).binds fun _ _ _ _ _ _ us hl => match us, hl with | [_], _ => rfl,
    PySem.W.mg_of X G RJ.1,
    aR RK.2,
    (aR RK.2).binds fun _ _ _ _ _ _ us hl => match us, hl with | [_], _ => rfl,
    PySem.W.mg_of X G RK.1,
    aR RL.2,
    (aR RL.2).binds fun _ _ _ _ _ _ us hl => match us, hl with | [_, _], _ => rfl,
    PySem.W.mg_of X G RL.1,
    aR RM.2,
    (aR RM.2).binds fun _ _ _ _ _ _ us hl => match us, hl with | [_, _], _ => rfl,
    PySem.W.mg_of X G RM.1,
    aR RN.2,
    (aR RN.2).binds fun _ _ _ _ _ _ us hl => match us, hl with | [_], _ => rfl,
    PySem.W.mg_of X G RN.1,
    aR RP.2,
    (aR RP.2).binds fun _ _ _ _ _ _ us hl => match us, hl with | [_], _ => rfl,
    PySem.W.mg_of X G RP.1,
    aR Dh.2,
    (aR Dh.2).binds fun _ _ _ _ _ _ us hl => match us, hl with | [_], _ => rfl,
    PySem.W.mg_of X G Dh.1,
    PySem.W.mg_none_of X G z_abs,
    PySem.W.mg_none_of X G agI,
    PySem.W.mg_none_of X G JM,
    PySem.W.mg_none_of X G z_len,
    PySem.W.mg_none_of X G agJ,
    PySem.W.mg_none_of X G z_max,
    PySem.W.mg_none_of X G z_min,
    PySem.W.mg_none_of X G adF,
    PySem.W.mg_none_of X G Ua,
    PySem.W.mg_none_of X G ab6,
    PySem.W.mg_none_of X G z_str,
    PySem.W.mg_none_of X G z_sum,
    ⟨_, PySem.W.mg_of X G HS, _, rfl⟩,
    ⟨_, PySem.W.mg_of X G iB, _, rfl⟩,
    ⟨_, PySem.W.mg_of X G zc, _, rfl⟩,
    ⟨_, PySem.W.mg_of X G iC, _, rfl⟩,
    ⟨_, PySem.W.mg_of X G uN, _, rfl⟩,
    aaT _ _ (by decide)⟩
  refine ⟨fdOf Dh.2, fun s v => ?_, fun base _ _ => ok'54 T⟩
  obtain ⟨_, _, _, _, _, _, _, _, _, e, _⟩ := (aR Dh.2).ex
  rw [e]; exact .of_eq rfl
theorem walk {q : Program} {loose : List Str} {XP : (Str → Option Value) → Heap → Prop} {YP : World → Heap → Prop} {d : DefRec} {K : Params → PySem.W.Frag} (hn : PySem.Challenge.rw_sketchbounds_k30_written.most = some 63) (hdf : d.params.defaults = []) (hY : ∀ (w : World) (h : Heap), YP w h → (K w.params).In h) (F : ∀ (w : World) (mg : Str → Option Value) (fa : Addr) (h : Heap), (K w.params).In h → h.Ns mainGlobals mg → mg d.name = some (.ref fa) → RR w (K w.params) mg fa) : PySem.W.WalkO q loose XP YP PySem.Challenge.rw_sketchbounds_k30_written.row.toRowW d [] (fun f vs => PySem.call f vs) :=
  L2.acr (n := 63) (k := 9) (x := "_law_script") (CX := fun _ => CX0) (sp := fun w => abG (K w.params)) hn (by decide) hdf ⟨rfl, by decide, by decide⟩ hY F (fun _ _ a ns hl _ hS => ⟨a, ns, rfl, hS, hl, fun _ => rfl⟩) fun _ _ _ _ _ z => z
end My
theorem PySem.Challenge.cw_sketchbounds_k30_written_holds : PySem.Challenge.rw_sketchbounds_k30_written.Holds := by
  exact My.head My.RR My.all_mk My.walk

