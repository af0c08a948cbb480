import PyProof.Rows.All
import Wide.All
import OpenK.KLine
import KE.KIsAll
import KE.KNestM
import KE.KLam
import PySem.Challenge.RW_joinmill_k21_joined
import Wide.FinOn
import Lean
import PyProof.EqAt
import PyProof.EqKinds
import PyProof.TupleCall
import PyProof.ListMulRoad
import PyProof.ZipIter
import PyProof.EnumMake
import PyProof.Rows.SetFrom
import PyProof.AttrMissSeq
import KE.KDictOf
import KE.KDictList
import KE.KEqDict
import PyProof.DictWalks
import PyProof.SetKind
import KE.FramesApart
import PyProof.Rows.CatchOwn
import PyProof.Rows.CatchBare
import PyProof.FString
import PyProof.ReprStr
import PyProof.ReprHeadsTuple
import KE.KIntText
import KE.IntTextLaws
set_option genSizeOf false
set_option genInjectivity false
set_option bootstrap.genMatcherCode false
set_option compiler.extract_closed false
set_option Elab.async false
set_option linter.all false
set_option maxRecDepth 100000
set_option synthInstance.maxHeartbeats 400000
set_option synthInstance.maxSize 4000
set_option maxHeartbeats 8000000
noncomputable section
open Array renaming find?_toList->A7,forIn_toList->HB,getD_eq_getD_getElem? ->vi,getElem?_eq_getElem->AW,getElem?_eq_none->Hr,getElem?_toList->f9,length_toList->mV,mk->Jh,replicate->RY,size_append->HD,size_map->Bn,toList->SF,toList_append->Hx
open Bool renaming and_eq_true->gD,and_eq_true_iff->Q5,and_false->Sb,and_true->Br,eq_iff_iff->Bl,false->bJ,false_eq_true->dq,false_ne_true->wQ,false_or->Sy,noConfusion->aT,not_eq_true'->Bb,or_eq_true->v8,true->bF,true_and->tZ
open Char renaming toNat->Tb
open Decidable renaming decide->cE
open False renaming elim->qP
open ForIn renaming forIn->l6
open ForInStep renaming yield->tY
open Int renaming emod_lt_of_pos->aS,emod_nonneg->yI,eq_ofNat_of_zero_le->j9,toNat_natCast->A9,toNat_of_nonneg->A6,zero_add->Ix
open Int.ofNat renaming inj->Il
open LawfulBEq renaming eq_of_beq->kI
open List renaming all_append->wb,all_cons->lA,all_eq_true->mE,all_map->Iv,all_nil->SU,any_cons->wU,any_eq_false->Ry,any_eq_true->wS,any_map->SM,append_assoc->nQ,append_nil->jF,cons_append->Bh,contains_iff_mem->sK,drop_drop->HX,drop_eq_getElem_cons->vl,drop_eq_nil_of_le->vp,drop_left'->RX,drop_zero->HU,filterMap_cons->dn,filterMap_map->Hy,filter_congr->RE,filter_cons->rC,find? ->S8,find?_cons->zR,find?_eq_none->vy,find?_map->Su,find?_some->HR,flatMap_cons->Bc,flatten_cons->oX,foldl->pb,foldl_cons->ef,forIn_cons->gk,forIn_nil->o4,getD_eq_getElem?_getD->qY,getElem?_append_left->aP,getElem?_append_right->tR,getElem?_drop->Rv,getElem?_eq_getElem->mU,getElem?_eq_none_iff->QF,getElem?_eq_some_iff->pK,getElem?_inj->RB,getElem?_map->nX,getElem?_range->Ri,getElem?_replicate->Hf,getElem?_set_ne->di,getElem?_set_self->ke,getElem?_zipWith->Q1,isEmpty_nil->RK,length->Iz,length_append->cO,length_cons->dB,length_drop->HL,length_eq_zero_iff->f8,length_erase_of_mem->QM,length_filter_le->vt,length_map->cA,length_nil->mF,length_range->qZ,length_replicate->QW,length_set->aV,length_singleton->vq,length_take->kl,length_zipWith->Rk,lookup->ek,lookup_cons->lJ,map->Jq,map_append->lK,map_congr_left->kh,map_cons->fY,map_filterMap->Rt,map_id->IG,map_id'->o8,map_map->kM,map_nil->zU,mem_append->hV,mem_append_left->mL,mem_append_right->mK,mem_cons->jJ,mem_cons_of_mem->fM,mem_cons_self->fF,mem_erase_of_ne->Rb,mem_filter->dy,mem_filterMap->vx,mem_flatMap->RP,mem_iff_getElem->Re,mem_map->gO,mem_of_find?_eq_some->QG,mem_of_getElem? ->dm,mem_range->qF,mem_singleton->mM,nil_append->ko,nodup_append->pM,nodup_cons->tV,nodup_iff_pairwise_ne->AU,nodup_nil->ku,not_mem_nil->aU,of_mem_zip->HQ,pairwise_map->RG,range->gK,range'->ID,range_succ_eq_map->kf,replicate->nR,replicate_succ->gc,set_cons_succ->Rs,size_toArray->hY,sum_cons->we,zipIdx_cons->RL,zipIdx_nil->RV,zip_cons_cons->HA
open List.Pairwise renaming imp_of_mem->QN,nil->cG9
open List.Perm renaming refl->aW,swap->Sn
open List.cons renaming inj->Ij,injEq->wa
open Min renaming min->vF
open Nat renaming add_assoc->Ik,add_comm->SL,add_le_add->Ss,add_mul->S5,add_sub_cancel_left->Hi,blt->ah,digitChar->SE,exists_eq_add_of_le->AZ,le_add_right->wR,le_of_ble_eq_true->Ht,le_of_eq->Io,le_of_lt->o5,le_of_not_lt->oY,le_refl->cU,le_succ->k6,le_succ_of_le->Be,le_trans->hE,lt_irrefl->aX,lt_of_le_of_lt->oT,lt_of_lt_of_le->nO,lt_succ_of_lt->Ba,lt_succ_self->Bf,lt_trans->SG,mod_lt->wj,mul_comm->SI,mul_le_mul->HS,mul_le_mul_right->kg,mul_succ->SJ,ne_of_gt->ky,ne_of_lt->hJ,sub_add_cancel->Ru,sub_self->SK,succ->Jl,succ_le_succ->RQ,succ_mul->SH,toDigits->k4,zero_add->kz,zero_le->lL
open Nat.succ renaming inj->SS
open Ne renaming symm->ip
open Option renaming getD_none->HM,isSome_iff_exists->AX,map->IY,map_map->HW,none->bL,some->L
open Option.some renaming inj->kE
open Or renaming inl->yP,inr->Cc,resolve_right->gj
open PUnit renaming unit->wX
open Prod renaming ext->li
open Pure renaming pure->dX
open PyProof.Rows renaming AllBare->af,IntsAre->w5,IsTup->iw,OwnCls->Cb,args_tuple_getitem->Rn,boot_all->cG2,boot_any->cG5,boot_bool->cF9,boot_dict->cF8,boot_int->Q3,boot_isinstance->cD2,boot_list->QV,boot_max->cG4,boot_min->cG3,boot_set->Jo,boot_str->Q4,boot_tuple->vn,callWith_builtin1->cD0,callWith_type1->AT,clssOf->B3,digit_range->cF1,drecsOf->ig,entry_tuple_getitem->Rg,envOfC->nZ,expectedOf->Bz,formatField_str->R4,iadd_int->R5,litsOf->B2,ownsOf->B1,plainGoodD->BD,plainGoodE->BC,plainSeenD->BB,plainSeenE->BA,recsOf->iu,setObjOf_fresh->Qy,slicePart_none->R7,slot_tuple_getitem->j8,split_pos->cG0,subscriptTail->Bp,subscriptTail_builtinR->Ho,tablesOk->BH,tabsOk->B4,tupleItemsOf_->Ib
open PyProof.Rows.TI renaming gone_none->SQ,gone_some->SO
open PySem renaming Addr->bI,Arguments->BF,Around->gW,BindsTo->pv,Builtin->et,CmpOp->am,Comprehension->Ic,DictEntry->rR,ElemsOf->xa,Env->jK,Expr->bU,FuncData->fO,GenState->wp,Heap->cH,IsPair->rX,IsPart->ak,IsZip->xB,Keyword->yO,NameKind->pO,Obj->cY,Operator->g9,OsState->wZ,Paired->jN,Params->eu,PassesOwn->pf,Pos->cW,Program->fH,Result->pw,Scope->kS,Sem->mZ,SetOf_store->IC,SetTable->ae,Shared->bT,Slot->IV,Stmt->fQ,Str->U,Tok->nA,Value->bK,Within->Im,World->cD,ZipApart->BU,assign->be,assignEach->wW,attributeBase->zS,backTo->lV,backToKw->ie,behindInMarks->wT,binaryOp->pN,bindArgs->BR,bindC->iz,bindL->iy,bltViewBooted->Bo,bootBuiltins->sO,boot_len->wc,builtinsNs->zV,cLine->jU,call->S7,callWith->Ji,call_meets->gy,call_meetsIn->Iu,callerA->lx,cellsFrom->Jd,check_set_init_1->RN,closureFor->wh,codeAny_builtin->oZ,codeAny_call_builtin->Ra,codeAny_mono->aY,codeAny_of_tree->RW,code_set_new_1->Si,compEnvC->lj,compPost->Jn,compareOp->jH,concat_meets->wg,dictEntries->By,dictEpoch->Jg,eval->fP,field->iA,findBy->B7,firstArgMember->Sh,fits_of_scanBound->HH,foldedSetIterable->gi,getItem->bc,getMethod->wm,getattributeRaised->Rr,hashStr->wz,holding->ag,importedModules->Bi,inplaceOp->BE,intText? ->Sm,isSubtype->lg,isSubtype_type->kq,keywordEach->gt,lastMarks->wl,leftWithCleanup->Bj,letOwnedTupleGo->Bk,lookup_relabel_local->A4,mainGlobals->kH,mem_of_lookup->gb,merged->Ca,methodCallForm->Sk,model->bY,noFill_list_add->QZ,noFill_tuple_add->HK,notedBy->bd,pick_run->Jj,pinGoodD->BL,pinSeenD->BI,plainId_quiet->Ig,pyIter->B5,pyNext->ai,rawInt->pP,recursionLimit->R6,relabel->w6,reprText->ba,scanBound->zX,seqSlot_of->RJ,seq_list_add->Ro,seq_tuple_add->Ia,setAddHashed->Iw,setMerge->wt,setRoomFor->I0,setState->BX,setsByText->IZ,sizeLine->cR,sizeLine_eq->vA,sliceBounds->k7,sliceRange_one->R8,slot_list_getitem->RA,standAt->lu,starEach->gG,storeName->Jb,storeSet->Jr,stored->B9,strLen_append->Bu,strValues->Je,subscripted->Bx,swappedStores->HZ,swapsWith->em,swapsWithSole->HY,sysModules->vC,treeTable->wY,truthy->B6,tupleText->wo,typeIs_int->IQ,typeIs_str->pa,typeLookup->IL,typeOf->B8,unaryOp->BY,unsupported->gu,valueAt->iq,weight_type_call_type->Q2,wpAny_Call_Name_kw->gf,wpAny_Call_method->HC,wpAny_FormattedValue_repr->QH,wpAny_Name->IK,wpAny_Return_some->Rw,wpAny_askSetting->RO,wpAny_assign_Name->Rx,wpAny_bind->bV,wpAny_call->k8,wpAny_callSpecial?_slot->oS,wpAny_call_entry->km,wpAny_comprehension_free->QI,wpAny_dictEntries->HI,wpAny_dictEpoch->RZ,wpAny_execs_cons->HJ,wpAny_execs_nil->v7,wpAny_field->vB,wpAny_getItem_of->RI,wpAny_holding->ei,wpAny_isInstance->Bg,wpAny_letGo->IB,wpAny_loadName_cell->Rf,wpAny_loadName_local->Q6,wpAny_mono->lU,wpAny_newFunctionEnv->Q8,wpAny_newObj_type->du,wpAny_notIn_of->R9,wpAny_onRaise->Bt,wpAny_passesOwn->kn,wpAny_pure->cT,wpAny_pyIter_enum->RD,wpAny_pyIter_list->v5,wpAny_pyIter_tuple->A8,wpAny_pyIter_zip->RM,wpAny_pyNext_tuple_end->QS,wpAny_pyNext_tuple_item->QO,wpAny_rule->g0,wpAny_runValue->Sj,wpAny_seqItems->eh,wpAny_sequenceKey->Rz,wpAny_setAddHashed_of->Hu,wpAny_setEpoch_of->RF,wpAny_setField->Se,wpAny_setField_rec->oV,wpAny_setState_of->kj,wpAny_specialOf->RU,wpAny_storeSet_of->HG,wpAny_truthy_bool->dr,wpAny_typeOf->o7,wpAny_updateSeq_pair->Hv,wpOwn_of_wpAny->Sr
open PySem.Around renaming frames_deeper->Q7,under->Ip,under_plain->Rq,under_plainId->A5
open PySem.AutoSeq1 renaming wpAny_loadPart'->QL
open PySem.Builtin.Dict renaming pairItems->cF7,selfAndRest->cE7,updateFrom->QQ
open PySem.Builtin.Frozenset renaming addrOf->vm,copyOf->cE8,isAnySet->oQ,merge->QR,slot1->cF3,unchanged->cD3,updateFrom->AS
open PySem.Builtin.List renaming listTooLong->AY
open PySem.Builtin.Range renaming rangeSize->cF2
open PySem.Builtin.Slice renaming sliceAdjust->Hb,sliceApplied->QB,sliceFields->cE0,slicePartIndex->cD1,slicePlaces->AV
open PySem.Builtin.SmallTypes renaming nextOf->aQ,ownedTupleHandOut->Qx,ownedTupleIsFree->AR
open PySem.Builtin.Str renaming occurrences->Hl,partsBetween->QJ,strKind->Rj,strSliceIndices->oP,subAt->cF6,tooLong->Rh
open PySem.Builtin.Tuple renaming tupleExact->oR,tupleIsExact->cD4,tupleItemsOf->QC,tupleTooMany->QD
open PySem.Calls renaming Constant_str->Rm,Name_function_global->QA,callWith_builtin->A0,evalArgs_plain->vu,spliced_cons->ge,spliced_nil->v4
open PySem.Challenge renaming pw_joinmill_k21_joined->AQ,rw_joinmill_k21_joined->oO
open PySem.Code renaming frames->SZ,isFrame->Ir,quiet_builtin->Hz
open PySem.Data renaming cell->wk,fields->Iy,seq->Jk
open PySem.Env renaming kindOf->S9
open PySem.EqMixed renaming ne_bool_str->cD8,ne_int_str->cE4,ne_str_bool->cD9,ne_str_int->cE6
open PySem.EqNone renaming ne_bool_none->cD7,ne_int_none->cE3,ne_none_bool->cD6,ne_none_int->cE1,ne_none_none->cD5,ne_none_str->cE2,ne_str_none->cE5
open PySem.F renaming args_list_add_2->QP,args_str_split_2->He,args_tuple_add_2->Hc,entry_dict_get->QT,entry_list_add->QU,entry_str_split->Hj,entry_tuple_add->Hg,excBase_ValueError->QE,plainAttrs_dict->Hh,plainAttrs_list->Hm,slot_dict_get->A3,slot_dict_pop->QX,slot_list_add->Q0,slot_list_append->Hq,slot_str_split->A1,slot_tuple_add->Hn,type_dict_get->QY,type_list_append->QK
open PySem.Heap renaming ExtBut->S4,FlyingW->Bv,SameBut->nY,get?_push_of_some->gF,get?_push_size->lC,lt_size->gH,size_push->yJ
open PySem.Heap.DictOf renaming new->RT
open PySem.Heap.IsList renaming push->cH1
open PySem.Heap.IsSliceOf renaming new->cG7
open PySem.Heap.IsTuple renaming push->RC
open PySem.Heap.SameBut renaming refl->ki,update->vv
open PySem.Heap.UpToSlots renaming of_keeps->cF4
open PySem.KeyKind renaming is_eq_decide->Q9
open PySem.NameKind renaming cell->Bs,free->sM
open PySem.NumText renaming AllDigits->cF5
open PySem.Obj renaming data_mapFields->Rp,mapSeq->IR
open PySem.Paired renaming length->kx
open PySem.PassesOwn renaming never->R3
open PySem.PassesOwnAt renaming never->cH0
open PySem.ReprIs renaming str->Ta
open PySem.SeqAt renaming EqAt->lb,RcAt->BG
open PySem.SeqAt.RcNeAt renaming tuples->cG6
open PySem.SetTable renaming bits->zT,fill->SD,fits->Ih,laid->wf,layClean->HE,leap->gp,road->Ii,runEnd->gm,sizeAbove->tT,turns->HV
open PySem.SetTable.layClean renaming free->Hs
open PySem.Shared renaming TypeIs->SA
open PySem.Str renaming empty->wn,length->IM,ofString->wV
open PySem.StrLaws renaming glued_eq_join->Qz,join_split->cF0,reprText_len->Hw,split_free->cE9
open PySem.Txt renaming join->pu,mul->Ie,split->yL,startswith->Bm
open PySem.Value renaming bool->IJ,bytes->SX,float->SY,int->lc,isInt->SV,isStrOf->Sw,none->zW,ref->lD,str->g5,type->gw
open PySem.W renaming CodeHd->BS,Frag->cG,OpenLaw->wv,SharedT->wx,alongIn->Jf,boot_drawn->IH,boot_heap->yK,boot_toks->Ja,callWith_K->o6,callWith_K0->Sx,cellsFrom_some->RH,clsGoodW->BN,clsIn->w9,clsSeenW->BK,codeIn->zZ,emptyDict->ej,envX->p0,excIn->l0,findIn->nS,fnOf->iv,hasDictIn->gq,instIn->Jp,instObj->g7,isFn->aj,keepIn->lE,kia_one->lf,kitCls->wq,kitOne->yN,kla_obj->pi,lookIn->BP,looseW->sQ,makesIn->ph,methodCall_KW->RS,mg_of->ly,nsIn->rT,nsOkIn->BV,openEnds->BO,openGood->pp,openSeen->pj,ownIn->Js,plainGet->gx,plainGet_of->H4,plainOver->o9,specialIn->Bw,subIn->w8,tabObj->en,tailIn->BW,takerIn->Jc,topFrom->wy,topRun->BZ,typeIn->pq,wideGood->BM,wideSeen->BJ
open PySem.W.WData renaming int->Tc
open PySem.W.WShape renaming has->S6
open PySem.Walks renaming list->IU
open PySem.Within renaming cons->cG8
open PySem.pickOrder renaming go->SN
open Std.Legacy renaming Range->HN
open Std.Legacy.Range renaming forIn_eq_forIn_range'->cC9,size->cG1
open Sum renaming inl->lr,inr->ij
open Sum.inr renaming inj->SW
open ToString renaming toString->zY
open True renaming intro->el
open _root_ renaming Array->dE,Bool->bW,DecidableEq->sP,False->hI,Int->bH,List->J,Nat->bD,Option->bR,String->kO,True->bf,Unit->mY,absurd->dD,beq_eq_false_iff_ne->lT,beq_iff_eq->mX,beq_self_eq_true->sL,congrArg->jZ,decide_eq_decide->HP,decide_eq_false->jI,decide_eq_true->kF,decide_eq_true_eq->v6,if_false->yM,if_neg->cX,if_pos->cK,if_true->rS,of_decide_eq_true->kR,or_false->aZ,outParam->vE,rfl->bQ
theorem bZ{p:Prop}(h:p:=by lia):p:=h
theorem lW{p:Prop}(h:p:=by decide+kernel):p:=h
theorem nB{p:Prop}(h:p:=by kernel_rfl):p:=h
theorem lX{p:Prop}(h:p):p:=h
theorem cS{p:Prop}(h:p:=by simp):p:=h
theorem hG{p:Prop}(h:p:=by decide):p:=h
section
namespace Jm
open PySem PySem.W PyProof.Rows
set_option maxHeartbeats 0
local macro_rules| `(tactic|o_head $H)=> `(tactic|assumption)
theorem pre(h:oO.row.Holds):oO.row.Holds:=by k_head
abbrev rr:=oO.row
noncomputable def vw:fH:={AQ with main:={AQ.main with body:=((((((((AQ.main.body.eraseIdx 92).eraseIdx 81).eraseIdx 77).eraseIdx 59).eraseIdx 44).eraseIdx 9).eraseIdx 7).eraseIdx 0)}}
noncomputable def lv:J (U×WData):=[]
noncomputable def ad:J bI:=[2,3,15,22,23,24,25,28,35,36,37,40,47,48,49,52,59,60,61,64,71,72,73,76,83,84,85,88,91,92,93,94,95,96,97,98,99,100,101,102,103,104,105,106,107,108,110,111,113,114,115,117,118,120,121,122,125,126,127,129,130,132,133,134,136,137,139,140,141,143,144,146,147,148,150,151,153,154,155,157,158,160,161,162,164,165,167,168,169,171,172,174,175,176,178,179,181,182,183,185,186,188,189,190,192,193,195,196,197,200,201,202,204,205,207,208,209,211,212,214,215,216,219,220,221,223,224,226,227,228,230,231,233,234,235,237,238,240,241,242,243,245,246,248,249,250,252,253,255,256,257,259,260,262,263,264,266,267,269,270,271,273,274,276,277,278,280,281,283,284,285,287,288,290,291,292,294,295,297,298,299,301,302,304,305,306,308,309,311,312,313,315,316,318,319,320,322,323,325,326,327,329,330,332,333,341,343,344,346,347,348,350,351,353,354,355,357,358,360,361,362,364,365,367,368,369,371,372,374,375,376,377,378,379,380,383,385,386,388,389,390,392,393,395,396,397,399,400,402,403,404,406,407,409,410,411,413,414,416,417,418,420,421,423,424,425,427,428,430,431,432,434,435,437,438,439,441,442,444,445,446,448,449,451,452,453,455,456,458,459,460,462,463,465,466,467,470,471,472,474,475,477,478,479,481,482,484,485,486,489,490,498,500,501,503,504,505,507,508,510,511,512,514,515,517,518,519,521,522,524,525,526,529,530,531,533,534,536,537,538,540,541,543,544,545,547,548,550,551,552,554,555,557,558,559,561,562,564,565,566,568,569,571,572,573,576,577,578,579,580,581,582,585,587,588,590,591,592,594,595,597,598,599,601,602,604,605,606,608,609,611,612,613,615,616,618,619,620,622,623,625,626,627,629,630,632,633,634,636,637,639,640,641,643,644,646,647,648,650,651,653,654,655,657,658,660,661,662,664,665,667,668,669,671,672,674,675,676,678,679,681,682,683,685,686,688,689,690,692,693,695,696,697,700,701,702,705,706,707,709,710,712,713,714,717,718,719,721,722,724,725,726,729,730,731,734,735,736,739,740,741,744,745,746,749,750,751,753,754,756,757,758,760,761,763,764,765,767,768,770,771,772,775,776,777,780,781]
abbrev xt(s:bT):bW:=xlAt vw lv s&&recOk rr.records s
abbrev pQ:Hook:=kmHook pre.heap_1 ad (λ_=>nB) [170,184]
noncomputable def Cd:Code->mZ Fin:=Fast.tw11892475500146522536 Fast.tw14364793385576792824
theorem Td:Cd=denote wY:=by unfold Cd;rw[<-Fast.te14364793385576792824, <-Fast.te11892475500146522536]
def xb(p:fH)(w:cD)(b:bD)(a:bR bK):bD->wx->Thread->bR wx
 |0,_,_=>none|n+1,s,t=>match through t with
  |true=>some s|false=>match Fast.tw6613529449190102663 b a t with
   |false=>none|true=>match Fast.tw10156331382660048174 Cd p w s t with|some (c,d)=>xb p w b a n c d|none=>none
theorem Jt{p:fH}{w:cD}{c:bD}{a:bR bK}:∀{n:bD} {s s':wx} {t:Thread},xb p w c a n s t=some s'->BZ wY p w c a n s.abs t=some s'.abs
 |0,_,_,_,h=>by cases h|n+1,s,s',t,h=>by
  unfold xb at h;rw[<-Fast.te6613529449190102663, <-Fast.te10156331382660048174,Td]at h;unfold BZ;cases d:through t with
  |true=>rw[d]at h;cases h;rfl|false=>
   rw[d]at h;cases pQ:stepOk c a t with
   |false=>rw[pQ]at h;cases h|true=>
    rw[pQ]at h;cases b:stepT (denote wY) p w s t with
    |none=>rw[b]at h;cases h|some r=>obtain⟨e,f⟩:=r;rw[b]at h;rw[stepT_spec b];exact Jt h
noncomputable def Ju:J cY->bD->BT->BT| [],_,t=>t|o::l,i,t=>Ju l (i+1) (t.ins i o)
def T0(P:eu):BT:=Ju (yK P).objs.toList 0 .nil
theorem n0(P:eu):(yK P).objs.size=11:=nB
noncomputable def an(P:eu):bR bK:=(yK P).nsMap kH "__annotations__"
theorem Te(P:eu):absHeap (T0 P) 11 (yK P).life=yK P:=nB
def dZ(w:cD)(a:wZ):bR wx:=xb rr.prog w 11 (an w.params) 10274 ⟨T0 w.params,11,(yK w.params).life, #[],IH,Ja,a⟩ (topStub rr.prog)
noncomputable abbrev LO:J U:=["STATEMENT_FORMS"]
noncomputable abbrev md:J U:=Bi rr.prog.main.body
theorem Tf:∀w:cD,(fencedOpening wY rr.prog w 10274).map (λs=>(s.heap,s.gens,s.drawn,s.toks))=L (yK w.params,Jh [],IH,Ja):=boot_open nB nB (λs=>nB)
theorem Th(P:eu):((yK P).isNs kH&&(#[]:dE wp).size==0)=bF:=nB
def bg(P:eu)(s:bT):bW:=staticsOk md (yK P) s.heap&&namesBound rr.prog s.heap&&gensDone s&&laidKept (yK P) s.heap
theorem Ti{p:fH}{w:cD}{N:bD}{c s₁:bT}(a:(c.heap.isNs kH&&c.gens.size==0)=bF)(r:BZ wY p w c.heap.objs.size (c.heap.nsMap kH "__annotations__") N c (topStub p)=L s₁)
 (b:(staticsOk (Bi p.main.body) c.heap s₁.heap&&namesBound p s₁.heap&&gensDone s₁&&laidKept c.heap s₁.heap)=bF):wy wY p w N c=L s₁:=by
 unfold wy;rw[a];dsimp only;rw[r];dsimp only[Option.bind];rw[b]
theorem To{p q:fH}{l:J U}{X:bT->bW}{α:Type}{f:bT->α}{y:α}{w:cD}{N:bD}{s₁:wZ->bT}{h:cH}{d:Drawn}{k:bD}
 (o:(fencedOpening wY p w N).map (λs=>(s.heap,s.gens,s.drawn,s.toks))=L (h,Jh [],d,k)) (r:∀c,wy wY p w N ⟨h, #[],d,k,c⟩=L (s₁ c))
 (a:∀c,pj q l (Bi p.main.body) X bF (s₁ c)=pp q l) (b:∀c,f (s₁ c)=y):(BO wY p w N).map (λs=>(pj q l (Bi p.main.body) X bF s,f s))=L (pp q l,y):=by
 obtain⟨⟨v,u,t,x,c⟩,e,g⟩:=Option.map_eq_some_iff.mp o;obtain⟨rfl,rfl,rfl,rfl⟩:v=h/\u=Jh []/\t=d/\x=k:=by have i:=jZ (·.1) g;have j:=jZ (·.2.1) g;have m:=jZ (·.2.2.1) g;have n:=jZ (·.2.2.2) g;exact⟨i,j,m,n⟩
 unfold BO;rw[e];show(wy wY p w N _).map _=_;rw[r c];exact jZ L (li (a c) (b c))
theorem Tp{w:cD}{a:wZ}{s:wx}(h:dZ w a=L s)(b:bg w.params s.abs=bF):wy wY rr.prog w 10274 ⟨yK w.params, #[],IH,Ja,a⟩=L s.abs:=by have r:=Jt h;unfold SharedT.abs at r;dsimp only at r;rw[Te]at r;refine Ti (Th _) ?_ b;show BZ _ _ _ (yK w.params).objs.size _ _ _ _=_;rw[n0];exact r
noncomputable abbrev hdL:List PySem.Str:=["STATEMENT_FORMS","KEPT_WORDS","SIGNS","NAME_SORTS","PART_SORTS","WORD"]
theorem hdz:looseW vw LO=hdL:=nB
def hdT(s:SharedT)(a:Addr):Option Obj:=match Nat.blt a s.n with|true=>alive ((s.tree.get a).getD default)|false=>none
theorem hdt(s:SharedT):s.abs.heap.get? =hdT s:=funext λa=>by
 unfold hdT Heap.get?;rw[show s.abs.heap=absHeap s.tree s.n s.life from rfl,absHeap_at];cases h:Nat.blt a s.n with
 |true=>rw[if_pos (Nat.blt_eq.mp h)];generalize (s.tree.get a).getD default=o;obtain ⟨_,_,d,_⟩:=o;cases d<;>rfl
 |false=>rw[if_neg (fun g=>by rw[Nat.blt_eq.mpr g] at h;cases h)]
theorem hdb:@BEq.beq PySem.Str _ =λs n=>s.cps.toList.isEqv n.cps.toList Nat.beq:=funext λ⟨⟨a⟩⟩=>funext λ⟨⟨b⟩⟩=>by
 have h:=@List.beq_eq_isEqv Nat _ a b;rw[show(λx y:Nat=>x==y)=Nat.beq from funext λ_=>funext λ_=>Bool.eq_iff_iff.2 (by simp)]at h;refine .trans ?_ h;show _=(a==b);rw[Bool.eq_iff_iff];simp
noncomputable def hdv(v:Value)(n:PySem.Str):Bool:=match v with|.str s _=>s.cps.toList.isEqv n.cps.toList Nat.beq|_=>false
theorem hdu:Value.isStr=hdv:=funext λv=>funext λn=>by cases v<;>first|rfl|exact congrFun (congrFun hdb _) n
theorem hdn:nsFind=λes n=>(es.toList.find? λe=>hdv e.key n).map (·.val):=funext λes=>funext λn=>by unfold nsFind findBy;rw[<-Array.find?_toList,hdu]
noncomputable abbrev hdj:=(hdL.drop 1).filterMap λx=>(theConstW vw x).map λd=>(x,d)
theorem hdw:wlitsOf vw=hdj:=nB
noncomputable def hdG(P:Params)(s:SharedT):{b//(openSeen vw LO md xt true s.abs,bg P s.abs)=b}:=⟨_,by conv=>lhs;delta openSeen seen tabsOk valsOk Heap.constOk Heap.tab0Ok Heap.tab0At wideSeen dfltAt constAt posAt kwAt shapeAtK Heap.shapeAtD Heap.restOk Heap.ownExcOk Heap.quietOk Heap.shapeAt Heap.codeRecOk Heap.clsAt Heap.isNs Heap.fnAt Heap.nsMap Heap.nsKeys Heap.nsPairs Heap.bltView bg staticsOk namesBound laidKept Heap.keysOk Heap.accountedOkI tablesOk Heap.tupStrsOk pinSeenD plainSeenE Heap.plainShapeAt clsSeenW wclsSeen Heap.laysOk Heap.methRestOk wmethOk;dsimp only;rw[hdt,hdb,hdn,hdw,hdz]
⟩
abbrev hda(L:List PySem.Str)(w:World):Prop:=∀f,(dZ w f).map (λs=>((hdG w.params s).1.1.1,(hdG w.params s).1.1.2.1,(hdG w.params s).1.1.2.2.2,ad.map (hdT s),[170,184].map (hdT s)))=some (expectedOf vw,bltViewBooted,(true,pinGoodD (drecsOf vw),plainGoodE vw L,plainGoodD vw LO,wideGood vw,clsGoodW vw LO),pQ.val w)
abbrev hdg(w:World):Prop:=∀f,(dZ w f).map (λs=>((hdG w.params s).1.1.2.2.1,(hdG w.params s).1.2))=some (true,true)
theorem Jv{w:World}(a:hda hdL w)(g:hdg w):
 (openEnds treeTable rr.prog w 10274).map (λs=>(openSeen vw LO md xt true s,pQ.obs s))=some (openGood vw LO,pQ.val w):=by
 have a:=Eq.mpr (congrArg (λL=>hda L w) hdz) a
 have z:∀f,∃s,dZ w f=some s/\bg w.params s.abs=true/\openSeen vw LO md xt true s.abs=openGood vw LO/\pQ.obs s.abs=pQ.val w:=λf=>by
  have a:=a f;have g:=g f;cases h:dZ w f with
  |none=>rw[h]at a;cases a|some s=>rw[h]at a g;have a:=Option.some.inj a;have g:=Option.some.inj g;have q:=(hdG w.params s).2;exact⟨s,rfl,(congrArg (·.2) q).trans (congrArg (·.2) g),(congrArg (·.1) q).trans (Prod.ext (congrArg (·.1) a) (Prod.ext (congrArg (·.2.1) a) (Prod.ext (congrArg (·.1) g) (congrArg (·.2.2.1) a)))),(congrArg (λg=>(ad.map g,[170,184].map g)) (hdt s)).trans (congrArg (·.2.2.2) a)⟩
 exact To (s₁:=λf=>(z f).choose.abs) (Tf w) (λf=>Tp (z f).choose_spec.1 (z f).choose_spec.2.1) (λf=>(z f).choose_spec.2.2.1) λf=>(z f).choose_spec.2.2.2
noncomputable abbrev w0(w:cD):cD:=w.withFollow "special-get-raises" bJ
noncomputable abbrev w1(w:cD):cD:=w.withFollow "special-get-raises" bF
theorem hdp(w:World):hda hdL (w0 w):=λ_=>nB
theorem hdr(w:World):hdg (w0 w):=λ_=>nB
theorem hds(w:World):hda hdL (w1 w):=λ_=>nB
theorem hdx(w:World):hdg (w1 w):=λ_=>nB
theorem TH:oO.row.wellSaid=bF:=nB
theorem wsHd:oO.wellSaid=bF:=by unfold OpenLaw.wellSaid;rw[TH];kernel_rfl
theorem le:LeftO rr.prog vw LO xt pQ.obs pQ.val 10274:=λw=>byRow2 "special-get-raises" (P:=λw=>(BO wY rr.prog w 10274).map (λs=>(pj vw LO md xt bF s,pQ.obs s))=L (pp vw LO,pQ.val w)) (λw=>Jv (hdp w) (hdr w)) (λw=>Jv (hds w) (hdx w)) w
theorem hdHd{d:DefRec}{h:J (U×bU)}(a:defOf vw rr.name=L (d,h))(b:rr.prog.theDef rr.name=L (d.params,d.body,d.scope))
 (c:kwWritten? d.params.kwonlyargs d.params.kw_defaults=L h) (e:(!rr.writes||List.isEmpty rr.records)=bF) (f:rr.wellSaid=bF)
 (g:(chainsOk vw&&opensWell rr.prog&&(frees rr.toRowW&&rr.within.isEmpty))=bF) (B:rr.prog.bare)
 (j:rr.promised) (i:WalkO vw LO (XL vw lv) pQ.says rr.toRowW d h λf vs=>call f vs):rr.Holds:=
 holds_open le (Hook.of pQ) (Hook.keeps pQ) (λs z=>xl_of s (Q5.mp z).1) XL.keeps a b c (λs z=>recFacts_of (Q5.mp z).2) e f g B j i
end Jm
end
set_option checkBinderAnnotations false in
theorem bA{p:Prop}[i:p]:p:=i
theorem bB{p:Prop}(h:p:=by decide+kernel):p:=h
def bC:Nat->Lean.Term->Lean.MacroM (Lean.TSyntax `rcasesPat)|0,_=>Lean.Macro.throwUnsupported|n+1,s=>match s with
 |`(⟨$x,*⟩)=>do {let q<-x.getElems.mapM (λx=>do `(Lean.Parser.Tactic.rcasesPatLo|$(<-bC n x):rcasesPat));`(rcasesPat|⟨$q,*⟩)}
 |`($i:ident)=>`(rcasesPat|$i:ident)|_=>`(rcasesPat|_)
local macro_rules
 |`(tactic|let⟨$x,*⟩:=$e)=>do `(tactic|obtain $(<-bC 9 (<-`(⟨$x,*⟩))):rcasesPat:=$e)
 |`(tactic|let⟨$x,*⟩ : $t := $e)=>do `(tactic|obtain $(<-bC 9 (<-`(⟨$x,*⟩))):rcasesPat : $t := $e)
 |`(tactic|let $d:letDecl)=>`(tactic|have $d:letDecl)
local macro_rules|`(tactic|calc $e:term)=>`(tactic|exact $e)
local macro_rules|`(tactic|delta $x:ident* $[$l:location]?)=>`(tactic|unfold $x:ident* $[$l:location]?)
local macro_rules|`(tactic|dsimp[$a,*]$[$l:location]?)=>`(tactic|simp only[$a,*]$[$l:location]?)
local macro_rules|`(~~~$x)=>`(($x).length)
local macro_rules|`($x⁻¹)=>`(($x).heap.objs.size)
local macro_rules|`($x<<<$y)=>`(($x).env.scope.names.lookup $y)
local macro_rules|`(tactic|exists $x,*)=>do `(tactic|obtain $(<-bC 9 (<-`(⟨$(x.getElems.push (Lean.mkIdent `h)),*⟩))):rcasesPat:=$(Lean.mkIdent `ob_ok) $(Lean.mkIdent `h))
local macro_rules|`(tactic|dsimp $[$l:location]?)=>`(tactic|simp only[$(Lean.mkIdent `bM):ident]$[$l:location]?)
local macro_rules|`(tactic|symm)=>`(tactic|split at $(Lean.mkIdent `h):ident)
local macro_rules|`($x>>>$e)=>if x.raw.getId==`A then `($(Lean.mkIdent `wpAny) ($(Lean.mkIdent `bY) $(Lean.mkIdent `prog) $(Lean.mkIdent `w)) $(Lean.mkIdent `A) $e)else `($(Lean.mkIdent `wpAny) ($(Lean.mkIdent `bY) ($x).prog ($x).w) ($x).A $e)
namespace L2
open PySem PySem.Spec PyProof.Rows
noncomputable abbrev gN:=Sum bH U
noncomputable def ew:gN->bK->bW| .inl k,v=>SV k v| .inr x,v=>Sw x v
noncomputable def TJ(w:cD):gN->bH| .inl k=>hashInt k| .inr x=>wz w x
def yQ:∀{k v},ew k v=bF->(∃i t,k=lr i/\v=lc i t)\/(∃x t,k=ij x/\v=g5 x t)| .inl i,v,h=>by let⟨t,e⟩:=Value.isInt_shape (k:=i) (v:=v) h;calc .inl ⟨i,t,rfl,e⟩| .inr x,v,h=>by let⟨t,e⟩:=Value.isStrOf_shape (x:=x) (v:=v) h;calc .inr ⟨x,t,rfl,e⟩
def TK(i)(t):ew (.inl i) (.int i t)=bF:=by simp[ew,SV]
def TL(x)(t):ew (.inr x) (.str x t)=bF:=by simp[ew,Sw]
def TM(a b):cE ((lr a:gN)=lr b)=(a==b):=by
 by_cases e:a=b
 .subst e;simp
 let h: ¬ (lr a:gN)=lr b:=λq=>e (Sum.inl.inj q)
 rw[jI h];calc(lT.mpr e).symm
def TN(a b):cE ((ij a:gN)=ij b)=cE (a=b):=by
 by_cases e:a=b
 .subst e;simp
 let h: ¬ (ij a:gN)=ij b:=λq=>e (SW q)
 rw[jI h,jI e]
def TR(a)(b):cE ((lr a:gN)=ij b)=bJ:=jI (λq=>nomatch q)
def TU(a)(b):cE ((ij a:gN)=lr b)=bJ:=jI (λq=>nomatch q)
def kA(prog)(w):PySem.KeyKind prog w gN where
 is:=ew
 hash:=TJ w
 inj:=λv a b g f=>by
  rcases yQ g with⟨i,t,rfl,rfl⟩|⟨x,t,rfl,rfl⟩
  .rcases yQ f with⟨j,u,rfl,e⟩|⟨y,u,rfl,e⟩
   .injection e with c _;rw[c]
   exact nomatch e
  rcases yQ f with⟨j,u,rfl,e⟩|⟨y,u,rfl,e⟩
  .exact nomatch e
  injection e with c _;rw[c]
 byValue:=λk v h=>by rcases yQ h with⟨i,t,rfl,rfl⟩|⟨x,t,rfl,rfl⟩<;>rfl
 pyHash:=λd h=>by
  rcases yQ d with⟨i,t,rfl,rfl⟩|⟨x,t,rfl,rfl⟩
  .exact wpAny_pyHash_int h
  exact wpAny_pyHash_str h
 eqBool:=λl d h=>by
  rcases yQ l with⟨i,t,rfl,rfl⟩|⟨x,t,rfl,rfl⟩
  .rcases yQ d with⟨j,u,rfl,rfl⟩|⟨y,u,rfl,rfl⟩
   .rw[TM]at h;exact wpAny_eqBool_int h
   rw[TR]at h;exact SeqAt.EqAt.int_str i t y u _ _ _ _ h
  rcases yQ d with⟨j,u,rfl,rfl⟩|⟨y,u,rfl,rfl⟩
  .rw[TU]at h;exact SeqAt.EqAt.str_int x t j u _ _ _ _ h
  rw[TN]at h;exact wpAny_eqBool_str h
 «strs» :=λk x t v h=>by
  rcases yQ h with⟨i,u,rfl,e⟩|⟨y,u,rfl,e⟩
  .exact nomatch e
  injection e with c _;subst c;cases v<;>rfl
def TV(prog)(w)(i)(t):(kA prog w).is (.inl i) (.int i t)=bF:=TK i t
def iB(prog)(w)(x)(t):(kA prog w).is (.inr x) (.str x t)=bF:=TL x t
set_option genInjectivity true in
inductive V where
 |n|b (b:bW)|int (i:bH)|str (x:U)|byt (b:dE UInt8)|flt (b:UInt64)|ref (a:bI)|ty (n:kO)
 deriving sP
noncomputable def dM:V->bK->Prop| .n,u=>u=zW| .b b,u=>u=IJ b| .int i,u=>∃t,u=lc i t| .str x,u=>∃t,u=g5 x t| .byt b,u=>∃t,u=SX b t| .flt b,u=>∃t,u=SY b t| .ref a,u=>u=lD a| .ty n,u=>u=gw n
abbrev dR:J V->J bK->Prop:=jN dM
def dR.length(r:dR xs us): ~~~xs= ~~~us:=kx r
theorem dR.get:∀{xs:J V} {us:J bK} {i:bD} {x:V},dR xs us->xs[i]? =L x->∃u,us[i]? =L u/\dM x u|_,_,_,_,.nil,e=>by simp at e|_,_,0,_,.cons r _,e=>by simp at e;subst e;calc⟨_,rfl,r⟩|_,_,i+1,x,.cons _ t,e=>by let⟨u,a,b⟩:=dR.get (i:=i) (x:=x) t (by simpa using e);calc⟨u,by simpa using a,b⟩
theorem dR.append:∀{xs ys us ws},dR xs us->dR ys ws->dR (xs++ys) (us++ws)|_,_,_,_,.nil,s=>s|_,_,_,_,.cons r t,s=>.cons r (dR.append t s)
theorem dR.take:∀{xs us} n,dR xs us->dR (xs.take n) (us.take n)|_,_,0,_=>.nil|_,_,_+1,.nil=>.nil|_,_,n+1,.cons r t=>.cons r (dR.take n t)
theorem dR.drop:∀{xs us} n,dR xs us->dR (xs.drop n) (us.drop n)|_,_,0,r=>r|_,_,_+1,.nil=>.nil|_,_,n+1,.cons _ t=>dR.drop n t
def dR.none_of:∀{xs:J V} {us:J bK} {i:bD},dR xs us->xs[i]? =bL->us[i]? =bL:=λ{xs us i} r e=>by let a:=r.length;let b: ~~~xs<=i:=QF.mp e;calc QF.mpr bZ
noncomputable def RelO:bR V->bR bK->Prop|some v,some u=>dM v u|none,none=>bf|_,_=>hI
def KV{κ:Type}:J (κ×V)->J (κ×bK)->Prop:=jN λ(p:κ×V) (q:κ×bK)=>p.1=q.1/\dM p.2 q.2
noncomputable def kV:gN->V| .inl i=>.int i| .inr x=>.str x
inductive HO where
 |l (xs:J V)
 |t (xs:J V)
 |dK (kvs:J (gN×V))
 |ins (C dx:bI) (fs:J (U×V))
 |own (x:bI)
 |rng (lo hi:bH)
 |frz (o:cY) (u:HO)
 |tbl (ps:dE bK)
 |ext (φ:cH->Prop)
noncomputable abbrev Hp:=bI->bR HO
noncomputable def upd(H:Hp)(a:bI)(o:HO):Hp:=λb=>if b=a then L o else H b
def gI:upd H a o a=L o:=by delta upd;rw[cK bQ]
def fK(h:b≠a):upd H a o b=H b:=by delta upd;rw[cX h]
def TW:upd (upd H a o) a u=upd H a u:=by funext b;delta upd;split<;>rfl
def bh{H:Hp}(h:H a=L o)(h':H b=bL):a≠b:=by intro e;subst e;rw[h]at h';cases h'
section
variable(P:fH)(w:cD)
def xD(h:cH)(a:bI)(items:dE bK):Prop:=∃o,h.get? a=L o/\(o.cls= .type "tuple" /\o.dict=bL)/\ ∃n,o.data= .seq items n
def xD.t(x:xD h a items):iw h a items:=let ⟨o,e,c,n⟩:=x;⟨o,e,c.1,n⟩
def xD.lt(x:xD h a items):a<h.objs.size:=x.t.lt
def xD.new(h:cH)(items):xD (h.push {cls:=.type "tuple",data:=.seq items}) h.objs.size items:=⟨_,lC _ bQ,⟨rfl,rfl⟩,_,rfl⟩
def nD(H:Hp)(h:cH)(a:bI):HO->Prop
 | .l d=> ~~~d<=cR/\ ∃(b:J bK) (n:bD),dR d b/\h.get? a=L {cls:=.type "list",data:=.seq b.toArray n}| .t d=> ~~~d<=cR/\ ∃b:J bK,dR d b/\xD h a b.toArray| .dK c=> ~~~c<=cR/\(a==vC)=bJ/\ ∃k,KV c k/\h.DictOf (kA P w) a k| .ins C e g=>H e=L (.own a)/\~~~g<=1000/\e≠a/\h.get? a=L (g7 C e)/\
  ∃mA,h.Ns1 e mA/\(∀f,RelO (g.lookup f) (mA f))/\Im mA (g.map (·.1))
 | .own _=>∃o,h.get? a=L o| .rng p m=>∃t u v,h.get? a=L {cls:=.type "range",data:=.fields #[.int p t,.int m u,.int 1 v]}| .frz o u=>h.get? a=L o/\nD H h a u| .tbl q=>h.get? a=L {cls:=.none,data:=.fields q}| .ext φ=>φ h/\(∃o,h.get? a=L o)/\ ∀i j:cH,φ i->(∀o,i.get? a=L o->j.get? a=L o)->φ j
def kB(H:Hp)(h:cH):Prop:=∀a o,H a=L o->nD P w H h a o
end
def nD.lt(x:nD P w H h a o):a<h.objs.size:=by
 cases o with
 |l c=>let⟨_,_,_,_,e⟩:=x;calc gH e|t c=>let⟨_,_,_,p⟩:=x;calc p.lt|dK b=>let⟨_,_,_,_,o,_,_,e,_⟩:=x;calc gH e|ins C d f=>let⟨_,_,_,e,_⟩:=x;calc gH e|own y=>let⟨_,e⟩:=x;calc gH e|rng i g=>let⟨_,_,_,e⟩:=x;calc gH e|frz ob u=>let⟨e,_⟩:=x;calc gH e|tbl j=>calc gH (show h.get? a=L _ from x)|ext φ=>let⟨_,⟨_,e⟩,_⟩:=x;calc gH e
theorem Paired.mapP{α β:Type}{F G:α->β->Prop}:∀{l₁ l₂},jN F l₁ l₂->(∀a b,F a b->G a b)->jN G l₁ l₂|_,_,.nil,_=>.nil|_,_,.cons r t,f=>.cons (f _ _ r) (Paired.mapP t f)
def nD.stay(x:nD P w H h a o)(k:∀b u,(b=a\/H b=L (.own a))->h.get? b=L u->h'.get? b=L u)(s:∀b,H b=L (.own a)->H' b=L (.own a))(N:∀b xs,H b=L (.t xs)->H' b=L (.t xs)):nD P w H' h' a o:=by
 induction o with
 |l xs=>let⟨z,f,n,r,e⟩:=x;calc⟨z,f,n,r,k _ _ (.inl bQ) e⟩|t xs=>let⟨z,f,r,ob,e,c⟩:=x;calc⟨z,f,r,ob,k _ _ (.inl bQ) e,c⟩|dK B=>let⟨z,y,G,r,ob,i,g,e,c⟩:=x;calc⟨z,y,G,r,ob,i,g,k _ _ (.inl bQ) e,c⟩|ins C I K=>let⟨d,z,E,e,mA,⟨F,i,g,m,c⟩,r⟩:=x;calc⟨s _ d,z,E,k _ _ (.inl bQ) e,mA,⟨F,i,g,k _ _ (.inr d) m,c⟩,r⟩|own y=>let⟨ob,e⟩:=x;calc⟨ob,k _ _ (.inl bQ) e⟩|rng O M=>let⟨t,u,v,e⟩:=x;calc⟨t,u,v,k _ _ (.inl bQ) e⟩|frz ob u A=>let⟨e,q⟩:=x;calc⟨k _ _ (.inl bQ) e,A q⟩|tbl j=>let e:h.get? a=L {cls:=.none,data:=.fields j}:=x;show h'.get? a=L {cls:=.none,data:=.fields j};calc k a _ (.inl bQ) e|ext φ=>let⟨p,⟨o,e⟩,st⟩:=x;calc⟨st _ _ p λo q=>k _ _ (.inl bQ) q,⟨o,k _ _ (.inl bQ) e⟩,st⟩
def kB.lt(x:kB P w H h)(e:H a=L o):a<h.objs.size:=(x a o e).lt
def kB.fresh(x:kB P w H h)(e:h.objs.size<=a):H a=none:=by
 cases q:H a with
 |none=>rfl|some u=>calc dD (nO (x.lt q) e) (aX _)
def kB.kept(x:kB P w H h)(k:∀b u,h.get? b=L u->h'.get? b=L u):kB P w H h':=λa o e=>
 (x a o e).stay (λb u _ q=>k b u q) (λ_ q=>q) λ_ _ q=>q
def kB.laid(x:kB P w H h)(k:∀b u,h.get? b=L u->h'.get? b=L u)(i:h.objs.size<=a)(d:nD P w (upd H a o) h' a o):kB P w (upd H a o) h':=λb u e=>by
 let g:=x.fresh i;by_cases f:b=a
 .subst f;rw[gI]at e;cases e;exact d
 rw[fK f]at e;calc(x b u e).stay (λc v _ q=>k c v q) (λc q=>by rw[fK (bh q g)];calc q) λc j q=>by rw[fK (bh q g)];calc q
def Rd(H:Hp)(a:bI)(u:HO):Prop:=H a=L u\/ ∃o,H a=L (.frz o u)
def Rd.ok(r:Rd H a u)(x:kB P w H h):nD P w H h a u:=by
 rcases r with r|⟨o,r⟩
 .exact x a u r
 let⟨_,q⟩:=x a _ r;calc q
noncomputable def p6:bR HO->Prop|some (.l _)=>bf|some (.dK _)=>bf|some (.ins _ _ _)=>bf|_=>hI
def kB.write(ok:kB P w H h)(j:p6 (H x))(he:e=x\/H e=L (.own x))(k:∀b u,b≠e->h.get? b=L u->h'.get? b=L u)(m:∃u,h'.get? e=L u)(n:nD P w (upd H x o') h' x o'):kB P w (upd H x o') h':=λb u q=>by
 let d:∀c y,H c=L (.own y)->c≠x:=λc y r z=>by subst z;rw[r]at j;exact j
 let f:∀c l,H c=L (.t l)->c≠x:=λc l r z=>by subst z;rw[r]at j;exact j
 by_cases g:b=x
 .subst g;rw[gI]at q;cases q;exact n
 rw[fK g]at q;by_cases a:b=e
 .let o:H b=L (.own x):=by
   rcases he with z|z
   .exact dD (a.trans z) g
   rw[a];exact z
  rw[q]at o;cases o;let⟨v,p⟩:=m;exact⟨v,by rw[a];calc p⟩
 refine(ok b u q).stay (λc v i r=>k c v ?_ r) (λc r=>by rw[fK (d c b r)];calc r) λc l r=>by rw[fK (f c l r)];exact r
 rcases i with rfl|i
 .exact a
 rintro rfl;rcases he with z|z
 .exact d c b i z
 rw[i]at z;cases z;calc g rfl
noncomputable def Jw:HO->bW| .frz _ _=>bF| .ext _=>bF|_=>bJ
structure Un(fs ex:J bI)(H H':Hp)(h h':cH):Prop where
 keep:∀b o,h.get? b=L o->H b=bL->b∉fs->b∉ex->h'.get? b=L o
 slot:∀b o,h.get? b=L o->H b=bL->b∈fs->b∉ex->∃sl,h'.get? b=L {o with slots:=sl}
 free:∀b o,h.get? b=L o->H b=bL->b∉ex->H' b=bL
 there:∀b o,h.get? b=L o->b∉ex->∃o',h'.get? b=L o'
 tups:∀b xs,H b=L (.t xs)->H' b=L (.t xs)
 frzs:∀b u,Jw u=bF->H b=L u->H' b=L u
 tbls:∀b ps,H b=L (.tbl ps)->∃more,H' b=L (.tbl (ps++more))
def Un.any(u:Un fs ex H H1 h h1)(q:h.get? b=L ob)(n:H b=bL)(c:b∉ex):∃sl,h1.get? b=L {ob with slots:=sl}:=by
 by_cases a:b∈fs
 .exact u.slot b ob q n a c
 calc⟨ob.slots,u.keep b ob q n a c⟩
def Un.kept(k:∀b u,h.get? b=L u->h'.get? b=L u):Un fs ex H H h h':=
 ⟨λb ob q _ _ _=>k b ob q,λb ob q _ _ _=>⟨ob.slots,k b ob q⟩,λ_ _ _ n _=>n,λb ob q _=>⟨ob,k b ob q⟩,λ_ _ q=>q,λ_ _ _ q=>q,λ_ a q=>⟨#[],by rw[q];simp⟩⟩
def Un.refl:Un fs ex H H h h:=Un.kept λ_ _ q=>q
def Un.laid(k:∀b u,h.get? b=L u->h'.get? b=L u)(d:h.objs.size<=a)(c:H a=bL):Un fs ex H (upd H a o) h h' where
 keep:=λb u q _ _ _=>k b u q
 slot:=λb u q _ _ _=>⟨u.slots,k b u q⟩
 free:=λb u q n _=>by rw[fK (hJ (nO (gH q) d))];exact n
 there:=λb u q _=>⟨u,k b u q⟩
 tups:=λb e q=>by rw[fK (bh q c)];exact q
 frzs:=λb u e q=>by rw[fK (bh q c)];exact q
 tbls:=λb f q=>⟨#[],by rw[fK (bh q c),q];simp⟩
def Un.write(c:p6 (H x))(he:e=x\/H e=L (.own x))(k:∀b u,b≠e->h.get? b=L u->h'.get? b=L u)(d:∃u,h'.get? e=L u):Un fs ex H (upd H x o) h h':=by
 let j:∀b,H b=bL->b≠x:=λb n z=>by subst z;rw[n]at c;exact c
 let g:∀b,H b=bL->b≠e:=λb n z=>by
  subst z;rcases he with r|r
  .exact j b n r
  rw[n]at r;cases r
 let f:∀b u,H b=L u-> ¬ p6 (L u)->b≠x:=λb u q nm z=>by subst z;rw[q]at c;exact nm c
 refine⟨λb u q n _ _=>k b u (g b n) q,λb u q n _ _=>⟨u.slots,k b u (g b n) q⟩,λb u q n _=>by rw[fK (j b n)];exact n,λb u q _=>?_,
  λb m q=>by rw[fK (f b _ q λz=>z)];calc q,λb u i q=>by rw[fK (f b _ q λz=>by cases u<;>first|calc z|cases i)];calc q,λb l q=>⟨#[],by rw[fK (f b _ q λz=>z),q];simp⟩⟩
 by_cases a:b=e
 .subst a;exact d
 calc⟨u,k b u a q⟩
noncomputable def xc(h:cH)(H:Hp):J bI:=(gK h.objs.size).filter λa=>(H a).isSome
def ao(h:cH)(H:Hp):cH:=W.hideAll h (xc h H)
theorem Jx(h)(H):(ao h H).objs.size=h.objs.size:=W.hideAll_size _ _
theorem Jy(e:h.get? b=L o)(n:H b=bL):(ao h H).get? b=L o:=
 W.hideAll_get _ e λa=>by let q:(H b).isSome=bF:=(dy.mp a).2;rw[n]at q;simp at q
theorem Jz(e:(ao h H).get? b=some o):h.get? b=some o/\H b=none:=by
 let a:h.get? b=some o:=W.of_hideAll (xc h H) e;refine⟨a,?_⟩;cases q:H b with
 |none=>rfl|some x=>let c:b∈xc h H:=dy.mpr ⟨qF.mpr (gH a),by simp[q]⟩;let z:(ao h H).get? b=none:=W.hideAll_none (xc h H) c;rw[z]at e;cases e
structure Mod(K:cG)(mg:U->bR bK)(base:cH):Prop where
 kin:K.In base
 glob:base.Ns kH mg
 blt:∃mb,base.Ns zV mb/\ ∀x:U,x≠ "__name__" ->mb x=sO x
 nolimit:base.NoLimit
structure Cx where
 prog:fH
 w:cD
 K:cG
 mg:U->bR bK
 base:cH
 A:gW
 N:J U
 s₀:bT
 Ha:Hp
 env:jK
 outer:J jK
 stack:J jK
 ex:J bI
 fn:U->bW
 calm:bW
 pn:J (bI×cY)
 xe:bK->bT->Prop
noncomputable def kC(l:J jK):J bI:=l.filterMap (·.frame)
abbrev Cx.fs(X:Cx):J bI:=kC X.outer
def Ce(sc:kS)(x:U):Prop:=sc.names.lookup x=L .local\/sc.names.lookup x=L .cell\/sc.names.lookup x=L .free
def Loc(sc:kS)(x:U):Prop:=sc.names.lookup x=L .local\/sc.names.lookup x=L .cell
def TX(env:jK)(h:cH)(m:U->bR bK)(x:U)(u:bK):Prop:=
 (env.kindOf x=L .local/\m x=L u)\/((env.kindOf x=L .cell\/env.kindOf x=L .free)/\ ∃c,env.cells.lookup x=L c/\h.IsCell c (L u))
structure Cx.Ok(X:Cx):Prop where
 mod:Mod X.K X.mg X.base
 kind:X.env.scope.kind= .function
 glob:X.env.globals=kH
 blt:X.env.builtins=zV
 above:X.s₀⁻¹<=X.env.locals
 inj:∀x y c,X.env.cells.lookup x=L c->X.env.cells.lookup y=L c->x=y
 has:∀x,(X.env.kindOf x=L .cell\/X.env.kindOf x=L .free)->∃c,X.env.cells.lookup x=L c
 cab:∀x c,X.fn x=bF->X.env.cells.lookup x=L c->X.s₀⁻¹<=c
 hd:X.calm=bF->X.A.handled=bL
 frames:X.A.frames=L X.stack
 stk:X.stack=X.outer\/(X.stack=X.env::X.outer/\X.env.frame=L X.env.locals)
 exf:∀b∈X.ex,b≠X.env.locals/\ ∀x c,X.env.cells.lookup x=L c->c≠b
 bs:∀b o,X.base.get? b=L o->X.s₀.heap.get? b=L o/\X.Ha b=bL
 bsz:X.base.objs.size<=X.s₀⁻¹
 noex:∀b o,X.base.get? b=L o->b∉X.ex
 exfs:∀b∈X.ex,b∉X.fs
 funs:X.s₀.heap.FunFrames X.base X.outer
 frf:∀b∈X.fs,X.Ha b=bL
structure bS(X:Cx)(pe:J (bI×cY))(Y:J (bR V))(H:Hp)(s:bT):Prop where
 ok:X.Ok
 os:s.os=X.s₀.os
 bare:af s.gens
 base:Un X.fs X.ex X.Ha H X.s₀.heap s.heap
 loc:∃m,s.heap.Ns X.env.locals m/\ ∀(i:bD) (x:U) (v:V),X.N[i]? =L x->Y[i]? =L (L v)->Ce X.env.scope x->∃u,dM v u/\TX X.env s.heap m x u
 cell:∀x c,X.env.cells.lookup x=L c->∃v,s.heap.IsCell c v
 free:H X.env.locals=bL
 freeC:∀x c,X.env.cells.lookup x=L c->H c=bL
 pin:∀p∈X.pn++pe,s.heap.get? p.1=L p.2/\H p.1=bL/\p.1≠X.env.locals/\p.1∉X.fs/\ ∀v,p.2.data≠ .cell v
 hok:kB X.prog X.w H s.heap
 len: ~~~Y= ~~~X.N
def Cx.Ok.nofr{X:Cx}(ok:X.Ok)(e:X.base.get? b=L o):b∉X.fs:=λa=>by have:=(ok.funs.mem a).1;rw[e]at this;cases this
def bS.bs(I:bS X pe Y H s):∀b o,X.base.get? b=L o->s.heap.get? b=L o/\H b=bL:=λb o e=>
 ⟨I.base.keep b o (I.ok.bs b o e).1 (I.ok.bs b o e).2 (I.ok.nofr e) (I.ok.noex b o e),I.base.free b o (I.ok.bs b o e).1 (I.ok.bs b o e).2 (I.ok.noex b o e)⟩
def bS.bk(I:bS X pe Y H s):∀b o,X.base.get? b=L o->s.heap.get? b=L o:=λb o e=>(I.bs b o e).1
def bS.mod(I:bS X pe Y H s):Mod X.K X.mg X.base:=I.ok.mod
def bS.kIn(I:bS X pe Y H s):X.K.In s.heap:=I.ok.mod.kin.keeps I.bk
def bS.nolimit(I:bS X pe Y H s):s.heap.NoLimit:=I.ok.mod.nolimit.keeps I.bk
def bS.lt(I:bS X pe Y H s):X.env.locals<s⁻¹:=let ⟨_,hn,_⟩:=I.loc;hn.lt
def bS.sz(I:bS X pe Y H s):X.s₀⁻¹<=s⁻¹:=hE I.ok.above (o5 I.lt)
def bS.nofs(I:bS X pe Y H s){a:bI}(h:s⁻¹<=a):a∉X.fs:=λb=>by let⟨_,o,c,_⟩:=I.ok.funs.mem b;calc dD (nO (gH c) (hE I.sz h)) (aX _)
def bS.cne(I:bS X pe Y H s):∀x c,X.env.cells.lookup x=L c->c≠X.env.locals:=λx c e z=>by let⟨v,o,f,d⟩:=I.cell x c e;let⟨m,⟨i,h,g,b,a,_⟩,_⟩:=I.loc;rw[z,b]at f;cases f;rw[a]at d;cases d
def bS.funs(I:bS X pe Y H s):s.heap.FunFrames X.base X.outer:=by
 let c:∀(l:J jK),(∀b∈kC l,b∈X.fs)->X.s₀.heap.FunFrames X.base l->s.heap.FunFrames X.base l:=by
  intro l;induction l with
  |nil=>intro _ _;trivial
  |cons i r t=>
   intro h m;let⟨k,⟨a,o,g,n,p,j⟩,q⟩:=m;let d:a∈X.fs:=h a (by delta kC;rw[dn,g];calc fF);let⟨u,e⟩:=I.base.slot a o p (I.ok.frf a d) d λz=>I.ok.exfs a z d
   exact⟨k,⟨a,_,g,n,e,j⟩,t (λb f=>h b (by delta kC;rw[dn,g];calc fM _ f)) q⟩
 calc c X.outer (λ_ f=>f) I.ok.funs
def bS.stack(I:bS X pe Y H s):s.heap.FunFrames X.base X.stack:=by
 rcases I.ok.stk with e|⟨e,a⟩
 .rw[e];exact I.funs
 rw[e];let⟨m,b,_⟩:=I.loc;refine .cons (by rw[I.ok.kind];decide) a b ?_ I.funs;calc Heap.get?_none_of_le (hE I.ok.bsz I.ok.above)
def bS.stkSub(I:bS X pe Y H s):∀b∈kC X.stack,b∈X.env.locals::X.fs:=λb a=>by
 rcases I.ok.stk with e|⟨e,c⟩
 .rw[e]at a;exact fM _ a
 rw[e]at a;delta kC at a;rw[dn,c]at a;calc a
def bS.stkFree(I:bS X pe Y H s):∀b∈kC X.stack,H b=bL:=λb hb=>by
 rcases jJ.mp (I.stkSub b hb)with e|hb
 .rw[e];exact I.free
 let⟨_,o,a,_⟩:=I.ok.funs.mem hb;calc I.base.free b o a (I.ok.frf b hb) λz=>I.ok.exfs b z hb
def bS.step{ch:J bI}(I:bS X pe Y H s)(h:∀b∈ch,(b∈X.ex\/X.s₀⁻¹<=b)/\b≠X.env.locals/\(∀x c,X.env.cells.lookup x=L c->c≠b)/\ ∀p∈X.pn++pe,p.1≠b)(j:∀b o,b≠X.env.locals->b∉X.fs->b∉ch->s.heap.get? b=L o->H b=bL->h'.get? b=L o)(C:∀b o,b≠X.env.locals->b∈X.fs->b∉ch->s.heap.get? b=L o->H b=bL->∃sl,h'.get? b=L {o with slots:=sl})(f:∀b o,b∉ch->s.heap.get? b=L o->H b=bL->H' b=bL)(F:∀b o,b∉ch->s.heap.get? b=L o->∃O,h'.get? b=L O)(Q:∀b xs,H b=L (.t xs)->H' b=L (.t xs))(M:∀b u,Jw u=bF->H b=L u->H' b=L u)(P:∀b ps,H b=L (.tbl ps)->∃more,H' b=L (.tbl (ps++more)))(ns:∀m,s.heap.Ns X.env.locals m->h'.Ns X.env.locals m)(T:kB X.prog X.w H' h')(hg:af g'):
 bS X pe Y H' {s with heap:=h',gens:=g',drawn:=d',toks:=t'}:=by
 let N:∀b o,X.s₀.heap.get? b=L o->b≠X.env.locals:=λb o e=>hJ (nO (gH e) I.ok.above)
 let B:∀b o,X.s₀.heap.get? b=L o->b∉X.ex->b∉ch:=λb o e a E=>by
  rcases(h b E).1 with z|z
  .exact a z
  exact dD (nO (gH e) z) (aX _)
 let g:∀x c,X.env.cells.lookup x=L c->∀v,s.heap.IsCell c v->h'.IsCell c v:=λx c e v qz=>by
  let⟨o,G,S⟩:=qz;let y:c∉ch:=λz=>(h c z).2.2.1 x c e bQ
  by_cases Z:c∈X.fs
  .let⟨sl,q⟩:=C c o (I.cne x c e) Z y G (I.freeC x c e);exact⟨_,q,S⟩
  exact⟨o,j c o (I.cne x c e) Z y G (I.freeC x c e),S⟩
 refine⟨I.ok,I.os,hg,⟨λb o e n E a=>?_,λb o e n E a=>?_,λb o e n a=>?_,λb o e a=>?_,λb xs e=>Q b xs (I.base.tups b xs e),λb o xs e=>M b o xs (I.base.frzs b o xs e),λb ps e=>?_⟩,?_,λx c e=>?_,?_,λx c e=>?_,λp hp=>?_,T,I.len⟩
 .exact j b o (N b o e) E (B b o e a) (I.base.keep b o e n E a) (I.base.free b o e n a)
 .let⟨sl,A⟩:=I.base.slot b o e n E a;let⟨W,K⟩:=C b _ (N b o e) E (B b o e a) A (I.base.free b o e n a);exact⟨W,K⟩
 .let⟨O,A⟩:=I.base.there b o e a;exact f b O (B b o e a) A (I.base.free b o e n a)
 .let⟨O,A⟩:=I.base.there b o e a;exact F b O (B b o e a) A
 .let⟨m1,A⟩:=I.base.tbls b ps e;let⟨m2,K⟩:=P b _ A;exact⟨m1++m2,by rw[K,Array.append_assoc]⟩
 .let⟨m,hn,hl⟩:=I.loc;refine⟨m,ns m hn,λi x v A K e3=>?_⟩;let⟨u,r,l⟩:=hl i x v A K e3;refine⟨u,r,?_⟩;rcases l with l|⟨k,c,e,z⟩
  .exact .inl l
  exact .inr ⟨k,c,e,g x c e _ z⟩
 .let⟨v,z⟩:=I.cell x c e;exact⟨v,g x c e v z⟩
 .let⟨m,⟨o,_,_,G,_⟩,_⟩:=I.loc;exact f _ o (λz=>(h _ z).2.1 bQ) G I.free
 .let⟨v,o,G,S⟩:=I.cell x c e;exact f c o (λz=>(h c z).2.2.1 x c e bQ) G (I.freeC x c e)
 let⟨e,n,ne,nf,d⟩:=I.pin p hp;let y:p.1∉ch:=λz=>(h p.1 z).2.2.2 p hp bQ
 calc⟨j p.1 p.2 ne nf y e n,f p.1 p.2 y e n,ne,nf,d⟩
def bS.un(I:bS X pe Y H s)(u:Un X.fs [] H H' s.heap h')(g:kB X.prog X.w H' h'):bS X pe Y H' {s with heap:=h',toks:=t'}:=by let⟨m,⟨o,p,l,h,r⟩,_⟩:=id I.loc;let⟨v,i⟩:=u.any h I.free cS;calc I.step (g':=s.gens) (d':=s.drawn) (ch:=[]) (λ_ z=>nomatch z) (λb o _ f _ e n=>u.keep b o e n f cS) (λb o _ f _ e n=>u.slot b o e n f cS) (λb o _ e n=>u.free b o e n cS) (λb o _ e=>u.there b o e cS) u.tups u.frzs u.tbls (λq j=>by let⟨t,d,c,a,k⟩:=j;rw[h]at a;cases a;calc⟨_,d,c,i,k⟩) g I.bare
def bS.call(I:bS X pe Y H s)(u:Un (kC X.stack) ch H H' s.heap h')(j:kB X.prog X.w H' h')(q:af g')(d:∀b∈ch,(b∈X.ex\/X.s₀⁻¹<=b)/\b≠X.env.locals/\(∀x c,X.env.cells.lookup x=L c->c≠b)/\ ∀p∈X.pn++pe,p.1≠b):
 bS X pe Y H' {s with heap:=h',gens:=g',drawn:=d',toks:=t'}:=by
 let⟨m,⟨o,A,y,k,r⟩,_⟩:=id I.loc;let⟨E,i⟩:=u.any k I.free λz=>(d _ z).2.1 bQ
 calc I.step (ch:=ch) d (λb o i l a e n=>u.keep b o e n (λz=>(jJ.mp (I.stkSub b z)).elim i l) a) (λb o _ _ a e n=>u.any e n a) (λb o a e n=>u.free b o e n a) (λb o a e=>u.there b o e a) u.tups u.frzs u.tbls (λB t=>by let⟨C,h,g,f,v⟩:=t;rw[k]at f;cases f;calc⟨_,h,g,i,v⟩) j q
def bS.turned(I:bS X pe Y H s)(k:∀b o,b≠it->s.heap.get? b=L o->h'.get? b=L o)(w:H it=bL)(f:it≠X.env.locals)(i:it∈X.ex\/X.s₀⁻¹<=it)(h2:∀x c,X.env.cells.lookup x=L c->c≠it)(j:∀p∈X.pn++pe,p.1≠it):bS X pe Y H {s with heap:=h',toks:=t'}:=by
 let d:∀b u,H b=L u->b≠it:=λb u e z=>by rw[z,w]at e;cases e
 refine I.step (g':=s.gens) (d':=s.drawn) (ch:=[it]) (λb l=>?_) (λb o _ _ a e _=>k b o (λz=>a (by simp[z])) e) (λb o _ _ a e _=>⟨o.slots,k b o (λz=>a (by simp[z])) e⟩) (λ_ _ _ _ n=>n)
  (λb o a e=>⟨o,k b o (λz=>a (by simp[z])) e⟩) (λ_ _ e=>e) (λ_ _ _ e=>e) (λb A e=>⟨#[],by rw[e];simp⟩) (λm t=>?_) (λb u e=>?_) I.bare
 .let e:b=it:=by simpa using l
  subst e;exact⟨i,f,h2,j⟩
 .let⟨o,h,g,y,r⟩:=t;exact⟨o,h,g,k _ o (ip f) y,r⟩
 refine(I.hok b u e).stay (λc v a q=>k c v ?_ q) (λ_ q=>q) λ_ _ q=>q
 rcases a with z|z
 .rw[z];exact d b u e
 calc d c _ z
def bS.tok(I:bS X pe Y H s)(t):bS X pe Y H {s with toks:=t}:=I.un (h':=s.heap) (t':=t) Un.refl I.hok
def bS.kept(I:bS X pe Y H s)(k:∀b u,s.heap.get? b=L u->h'.get? b=L u):bS X pe Y H {s with heap:=h',toks:=t'}:=I.un (Un.kept k) (I.hok.kept k)
def bS.laid(I:bS X pe Y H s)(k:∀b u,s.heap.get? b=L u->h'.get? b=L u)(c:s⁻¹<=a)(d:nD X.prog X.w (upd H a o) h' a o):
 bS X pe Y (upd H a o) {s with heap:=h',toks:=t'}:=I.un (Un.laid k c (I.hok.fresh c)) (I.hok.laid k c d)
def bS.write(I:bS X pe Y H s)(d:p6 (H x))(he:e=x\/H e=L (.own x))(k:∀b u,b≠e->s.heap.get? b=L u->h'.get? b=L u)(a:∃u,h'.get? e=L u)(c:nD X.prog X.w (upd H x o) h' x o):bS X pe Y (upd H x o) {s with heap:=h',toks:=t'}:=I.un (Un.write d he k a) (I.hok.write d he k a c)
def bS.pins_of(I:bS X pe Y H s)(h:∀p∈a,s.heap.get? p.1=L p.2/\H p.1=bL/\p.1≠X.env.locals/\p.1∉X.fs/\ ∀v,p.2.data≠ .cell v):bS X a Y H s:=
 ⟨I.ok,I.os,I.bare,I.base,I.loc,I.cell,I.free,I.freeC,λp b=>(hV.mp b).elim (λz=>I.pin p (mL _ z)) (h p),I.hok,I.len⟩
def JA{N:J U}(e:N.Nodup){j:bD}(a:N[i]? =L x)(b:N[j]? =L x):i=j:=by let⟨f,c⟩:=pK.mp a;let⟨g,d⟩:=pK.mp b;calc(List.getElem_inj e).mp (c.trans d.symm)
def JB{E:bK->bT->Prop}{Q:mY->bT->Prop}(I:bS X pe Y H s)(hN:X.N.Nodup)(Z:X.N[i]? =L x)(B:Loc X.env.scope x)(r:dM v u)(h:∀s',bS X pe (Y.set i (L v)) H s'->(∃a,nY a s.heap s'.heap/\(a=X.env.locals\/X.env.cells.lookup x=L a))->Q () s')(hf:X.fn x=bF\/X<<<x=L .local:=by first|calc .inl rfl|calc .inr rfl|assumption):wpAny M A (Jb X.env x u) Q E s:=by
 let⟨m,hn,hl⟩:=id I.loc;let W:(X.env.scope.kind== .class||(X.env.scope.kind== .module&&X.env.locals != X.env.globals))=bJ:=by rw[I.ok.kind];rfl
 let a0:i< ~~~Y:=by rw[I.len];exact(pK.mp Z).1
 let G:=I.cne;let l:∀{a:bI} {h':cH},(∃o,s.heap.get? a=L o/\H a=bL)->nY a s.heap h'->kB X.prog X.w H h':=λ{a h'} ha f b ob e=>by
  let⟨_,_,C⟩:=ha;refine(I.hok b ob e).stay (λc w' t q=>(f.2 c ?_).trans q) (λ_ q=>q) λ_ _ q=>q
  rintro rfl;rcases t with rfl|t
  .rw[C]at e;cases e
  rw[C]at t;cases t
 rcases B with hk|hk
 .refine wpAny_storeName_local hk hn (λh' a3 f=>?_) W;let⟨oL,_,_,a4,_⟩:=id hn;refine h _ ⟨I.ok,I.os,I.bare,⟨λb o e n K B=>?_,λb o e n K B=>?_,I.base.free,λb o e B=>?_,I.base.tups,I.base.frzs,I.base.tbls⟩,⟨_,a3,λj y v' g F e3=>?_⟩,λy c e=>?_,I.free,I.freeC,λp hp=>?_,l ⟨oL,a4,I.free⟩ f,by simpa using I.len⟩ ⟨_,f,.inl rfl⟩
  .exact(f.2 b (hJ (nO (gH e) I.ok.above))).trans (I.base.keep b o e n K B)
  .let⟨sl,g⟩:=I.base.slot b o e n K B;exact⟨sl,(f.2 b (hJ (nO (gH e) I.ok.above))).trans g⟩
  .let⟨o',g⟩:=I.base.there b o e B;exact⟨o',(f.2 b (hJ (nO (gH e) I.ok.above))).trans g⟩
  .by_cases P:j=i
   .subst P;rw[Z]at g;cases g;rw[ke a0]at F;cases F;exact⟨u,r,.inl ⟨hk,cS⟩⟩
   rw[di (ip P)]at F;let⟨u',r',q⟩:=hl j y v' g F e3;refine⟨u',r',?_⟩;rcases q with⟨k,e⟩|⟨k,c,e,z⟩
   .refine .inl ⟨k,?_⟩;have:y≠x:=λe=>P (JA hN g (e▸Z))
    simp[this,e]
   exact .inr ⟨k,c,e,z.sameBut f (G y c e)⟩
  .let⟨w',z⟩:=I.cell y c e;exact⟨w',z.sameBut f (G y c e)⟩
  let⟨e,n,ne,nf,d⟩:=I.pin p hp;exact⟨(f.2 p.1 ne).trans e,n,ne,nf,d⟩
 let O:X.fn x=bF:=by
  rcases hf with z|z
  .exact z
  rw[z]at hk;cases hk
 let⟨c,t⟩:=I.ok.has x (.inl hk);let⟨w',z⟩:=I.cell x c t;refine wpAny_storeName_cell I.ok.kind hk t z (λh' S f=>?_);let⟨oc,a1,a2⟩:=id z;refine h {s with heap:=h'} ⟨I.ok,I.os,I.bare,⟨λb o e n K B=>?_,λb o e n K B=>?_,I.base.free,λb o e B=>?_,I.base.tups,I.base.frzs,I.base.tbls⟩,⟨m,hn.sameBut f (ip (G x c t)),λj y v' g F e3=>?_⟩,λy c' e=>?_,I.free,I.freeC,λp hp=>?_,l ⟨oc,a1,I.freeC x c t⟩ f,by simpa using I.len⟩ ⟨c,f,.inr t⟩
 .exact(f.2 b (hJ (nO (gH e) (I.ok.cab x c O t)))).trans (I.base.keep b o e n K B)
 .let⟨sl,g⟩:=I.base.slot b o e n K B;exact⟨sl,(f.2 b (hJ (nO (gH e) (I.ok.cab x c O t)))).trans g⟩
 .let⟨o',g⟩:=I.base.there b o e B;exact⟨o',(f.2 b (hJ (nO (gH e) (I.ok.cab x c O t)))).trans g⟩
 .by_cases P:j=i
  .subst P;rw[Z]at g;cases g;rw[ke a0]at F;cases F;exact⟨u,r,.inr ⟨.inl hk,c,t,S⟩⟩
  rw[di (ip P)]at F;let⟨u',r',q⟩:=hl j y v' g F e3;refine⟨u',r',?_⟩;rcases q with q|⟨k,c',e,z'⟩
  .exact .inl q
  refine .inr ⟨k,c',e,z'.sameBut f ?_⟩;rintro rfl;exact P (JA hN g (I.ok.inj _ _ _ e t▸Z))
 .by_cases T:c'=c
  .subst T;exact⟨_,S⟩
  let⟨w2,z2⟩:=I.cell y c' e;exact⟨w2,z2.sameBut f T⟩
 let⟨e,n,ne,nf,d⟩:=I.pin p hp;refine⟨(f.2 p.1 ?_).trans e,n,ne,nf,d⟩;intro q;rw[q,a1]at e;let q':oc=p.2:=kE e;calc d w' (by rw[<-q'];calc a2)
def Cf{E:bK->bT->Prop}{Q:mY->bT->Prop}(I:bS X pe Y H s)(b:X.N.Nodup)(d:X.N[i]? =L x)(e:Loc X.env.scope x)(r:dM v u)(h:∀s',bS X pe (Y.set i (L v)) H s'->Q () s')(c:X.fn x=bF\/X<<<x=L .local:=by first|calc .inl bQ|calc .inr bQ|assumption):wpAny M A (Jb X.env x u) Q E s:=
 JB I b d e r (λs' a _=>h s' a) c
def bS.call'(I:bS X pe Y H s)(g:s'.os=s.os)(u:Un (kC X.stack) ch H H' s.heap s'.heap)(d:kB X.prog X.w H' s'.heap)(f:af s'.gens)(a:∀b∈ch,(b∈X.ex\/X.s₀⁻¹<=b)/\b≠X.env.locals/\(∀x c,X.env.cells.lookup x=L c->c≠b)/\ ∀p∈X.pn++pe,p.1≠b):bS X pe Y H' s':=by
 let⟨h',g',d',t',h⟩:=s';let e:h=s.os:=g;subst e;calc I.call (g':=g') (t':=t') (d':=d') u d f a
abbrev XK:=bK->bR bI->Hp->Prop
noncomputable abbrev St:=J (bR V)
abbrev VK:=V->Hp->Prop
abbrev TE:=St->Hp->VK->Prop
abbrev TT:=St->Hp->(bW->Hp->Prop)->Prop
abbrev TA:=St->Hp->(J V->Hp->Prop)->Prop
structure rE where
 nx:St->Hp->Prop
 rt:VK
 bk:St->Hp->Prop:=λ_ _=>hI
 ct:St->Hp->Prop:=λ_ _=>hI
abbrev TS:=rE->St->Hp->Prop
inductive EP(X:Cx)(pe:J (bI×cY))(Y:St)(Q:VK)(u:bK)(s':bT):Prop
 |mk (v:_) (H':_) (_:bS X pe Y H' s') (_:dM v u) (_:Q v H')
inductive TP(X:Cx)(pe:J (bI×cY))(Y:St)(Q:bW->Hp->Prop)(b:bW)(s':bT):Prop
 |mk (H':_) (_:bS X pe Y H' s') (_:Q b H')
inductive AP(X:Cx)(pe:J (bI×cY))(Y:St)(Q:J V->Hp->Prop)(us:J bK)(s':bT):Prop
 |mk (vs:_) (H':_) (_:bS X pe Y H' s') (_:dR vs us) (_:Q vs H')
inductive qa(X:Cx)(pe:J (bI×cY))(q:St->Hp->Prop)(s:bT):Prop
 |mk (Y:_) (H:_) (_:bS X pe Y H s) (_:q Y H)
inductive TY(X:Cx)(pe:J (bI×cY))(q:VK)(u:bK)(s:bT):Prop
 |mk (v:_) (Y:_) (H:_) (_:bS X pe Y H s) (_:dM v u) (_:q v H)
def SP(X:Cx)(a:J (bI×cY))(D:rE)(f:Flow)(s':bT):Prop:=
 match f with
 | .next=>qa X a D.nx s'| .brk=>qa X a D.bk s'| .cont=>qa X a D.ct s'| .ret u=>TY X a D.rt u s'
def PE(X:Cx)(e:bU)(t:TE):Prop:=
 ∀(a:J (bI×cY)) (s:bT) (Y:St) (H:Hp) (Q:VK),bS X a Y H s->t Y H Q->(X>>>(fP e X.env)) (EP X a Y Q) X.xe s
def PT(X:Cx)(e:bU)(t:TT):Prop:=
 ∀(a:J (bI×cY)) (s:bT) (Y:St) (H:Hp) (Q:bW->Hp->Prop),bS X a Y H s->t Y H Q->(X>>>(isTrue e X.env (fP e X.env))) (TP X a Y Q) X.xe s
def PW(X:Cx)(e:bU)(t:TT):Prop:=
 ∀(a:mZ bK) (b:J (bI×cY)) (s:bT) (Y:St) (H:Hp) (Q:bW->Hp->Prop),bS X b Y H s->t Y H Q->(X>>>(isTrue e X.env a)) (TP X b Y Q) X.xe s
def PW.pt(h:PW X e t):PT X e t:=h _
def PA(X:Cx)(b:J bU)(t:TA):Prop:=
 ∀(pos:cW) (a:J (bI×cY)) (s:bT) (Y:St) (H:Hp) (Q:J V->Hp->Prop),bS X a Y H s->t Y H Q->(X>>>(spliced (lV pos (gG b X.env)))) (AP X a Y Q) X.xe s
def PS(X:Cx)(st:fQ)(t:TS):Prop:=
 ∀(a:J (bI×cY)) (s:bT) (Y:St) (H:Hp) (D:rE),bS X a Y H s->t D Y H->(X>>>(exec st X.env)) (SP X a D) X.xe s
def pA(X:Cx)(st:J fQ)(t:TS):Prop:=
 ∀(a:J (bI×cY)) (s:bT) (Y:St) (H:Hp) (D:rE),bS X a Y H s->t D Y H->(X>>>(execs st X.env)) (SP X a D) X.xe s
def dA{α:Type}{t:mZ α}{Q b:α->bT->Prop}{E:bK->bT->Prop}(h:wpAny M A t Q E s)(c:∀a s,Q a s->b a s):wpAny M A t b E s:=lU h c λ_ _ x=>x
noncomputable def JC(i:bD):TE:=λY H Q=>∃v,Y[i]? =L (L v)/\Q v H
noncomputable def tC(v:V):TE:=λ_ H Q=>Q v H
def kU(g:X.N[i]? =L x)(o:Ce X.env.scope x)(d:(x==("__debug__" :U))=bJ:=by decide)(b:(x==("__classdict__" :U))=bJ:=by decide):PE X (.Name x pos) (JC i):=by
 intro p s Y H Q I h;let⟨v,e,h⟩:=h;let⟨m,n,j⟩:=I.loc;let⟨u,r,l⟩:=j i x v g e o;let dZ:EP X p Y Q u s:=⟨v,H,I,r,h⟩;rcases l with⟨hk,k⟩|⟨hk,c,f,a⟩
 .exact IK (Q6 I.ok.kind hk n k dZ) d
 rcases hk with hk|hk
 .exact IK (Rf I.ok.kind hk f a dZ) d
 calc IK (wpAny_loadName_free I.ok.kind hk f a dZ b) d
def qb{i j pos}:PE X (.Constant (.int i) j pos) (tC (.int i)):=λ_ _ _ H _ I h=>wpAny_Constant_int ⟨.int i,H,I.tok _,⟨_,rfl⟩,h⟩
def TZ{b j pos}:PE X (.Constant (.bool b) j pos) (tC (.b b)):=λ_ _ _ H _ I h=>Constant_bool ⟨.b b,H,I,rfl,h⟩
def JD{j pos}:PE X (.Constant .none j pos) (tC .n):=λ_ _ _ H _ I h=>Constant_none ⟨.n,H,I,rfl,h⟩
def T1{x j pos}:PE X (.Constant (.str x) j pos) (tC (.str x)):=λ_ _ _ H _ I h=>Rm ⟨.str x,H,I.tok _,⟨_,rfl⟩,h⟩
def Gl(X:Cx)(x:U):Prop:=X.env.kindOf x=L .globalImplicit
def ey{E:bK->bT->Prop}{Q:bK->bT->Prop}(I:bS X d Y H s)(b:Gl X x)(c:X.mg x=L u)(h:Q u s)(a:(x==("__debug__" :U))=bJ:=by decide):(X>>>(fP (.Name x pos) X.env)) Q E s:=
 QA I.ok.kind b (Calls.loadGlobal_global (by rw[I.ok.glob];calc I.mod.glob.keeps I.bk) c h) a
def l7{E:bK->bT->Prop}{Q:bK->bT->Prop}(I:bS X i Y H s)(d:Gl X x)(e:X.mg x=bL)(g:sO x=L u)(h:Q u s)(f:x≠ "__name__" :=by decide)(c:(x==("__debug__" :U))=bJ:=by decide):(X>>>(fP (.Name x pos) X.env)) Q E s:=by
 let⟨j,a,b⟩:=I.mod.blt;calc QA I.ok.kind d (Calls.loadGlobal_builtin (by rw[I.ok.glob];calc I.mod.glob.keeps I.bk) e (by rw[I.ok.blt];calc a.keeps I.bk) ((b x f).trans g) h) c
def qc(b:Gl X x)(c:X.mg x=L u)(r:dM v u)(a:(x==("__debug__" :U))=bJ:=by decide):PE X (.Name x pos) (tC v):=
 λ_ _ _ H _ I h=>ey I b c ⟨v,H,I,r,h⟩ a
def T2(b:Gl X x)(c:X.mg x=bL)(e:sO x=L u)(r:dM v u)(d:x≠ "__name__" :=by decide)(a:(x==("__debug__" :U))=bJ:=by decide):PE X (.Name x pos) (tC v):=
 λ_ _ _ H _ I h=>l7 I b c e ⟨v,H,I,r,h⟩ d a
noncomputable def T3(t u:TT):TT:=λY H Q=>t Y H λc a=>if c=bF then u Y a Q else Q bJ a
noncomputable def T4(t u:TT):TT:=λY H Q=>t Y H λc a=>if c=bF then Q bF a else u Y a Q
noncomputable def T5(t:TT):TT:=λY H Q=>t Y H λc a=>Q (!c) a
def T6(b:PT X a tA):PW X (.BoolOp .And [a] pos) tA:=by
 intro g d s Y H Q I h;refine isTrue_and (dA (b d s Y H Q I h) λc f e=>?_);cases c with
 |true=>calc isTrue_and_nil e|false=>calc e
def T7(b:PT X a tA):PW X (.BoolOp .Or [a] pos) tA:=by
 intro g d s Y H Q I h;refine isTrue_or (dA (b d s Y H Q I h) λc f e=>?_);cases c with
 |false=>calc isTrue_or_nil e|true=>calc e
def T8(i:PT X a tA)(j:PW X (.BoolOp .And (b::rest) pos) tB'):PW X (.BoolOp .And (a::b::rest) pos) (T3 tA tB'):=by
 intro m f s Y H Q I h;refine isTrue_and (dA (i f s Y H _ I h) λc l k=>?_);let⟨d,e,g⟩:=k;cases c with
 |true=>calc j m f l Y d Q e g|false=>calc⟨d,e,g⟩
def T9(i:PT X a tA)(j:PW X (.BoolOp .Or (b::rest) pos) tB'):PW X (.BoolOp .Or (a::b::rest) pos) (T4 tA tB'):=by
 intro m f s Y H Q I h;refine isTrue_or (dA (i f s Y H _ I h) λc l k=>?_);let⟨d,e,g⟩:=k;cases c with
 |true=>calc⟨d,e,g⟩|false=>calc j m f l Y d Q e g
def Ua(e:PT X a tA):PT X (.UnaryOp .Not a pos) (T5 tA):=by intro f s Y H Q I h;calc isTrue_not (dA (e f s Y H (λc b=>Q (!c) b) I h) λc i g=>by let⟨b,d,q⟩:=g;calc⟨b,d,q⟩)
noncomputable def Ub(d tb:TE):TE:=λY H Q=>d Y H λx a=>∃c,x= .b c/\if c=bF then tb Y a Q else Q (.b bJ) a
noncomputable def Uc(d:TE):TE:=λY H Q=>d Y H λx a=>∃c,x= .b c/\Q (.b (!c)) a
def Ud{op}(h:PE X a t):PE X (.BoolOp op [a] pos) t:=λc s Y H Q I b=>BoolOp_one (h c s Y H Q I b)
def Ue(i:PE X a ta)(j:PE X (.BoolOp .And (b::rest) pos) tb):PE X (.BoolOp .And (a::b::rest) pos) (Ub ta tb):=by
 intro g s Y H Q I h;refine BoolOp_and (dA (i g s Y H _ I h) λv m k=>?_);let⟨x,e,f,l,d⟩:=k;let⟨c,rfl,d⟩:=d;cases l;refine dr ?_;cases c with
 |true=>calc j g m Y e Q f d|false=>calc⟨.b false,e,f,rfl,d⟩
def Uf(g:PE X a ta):PE X (.UnaryOp .Not a pos) (Uc ta):=by intro i s Y H Q I h;refine UnaryOp_ (dA (g i s Y H _ I h) λv l j=>?_);let⟨x,e,f,k,d⟩:=j;let⟨c,rfl,d⟩:=d;cases k;calc not_of (dr ⟨.b (!c),e,f,rfl,d⟩)
noncomputable def Ug(t:TT)(b tb:TE):TE:=λY H Q=>t Y H λc a=>if c=bF then b Y a Q else tb Y a Q
def Cg(m:PT X c tA)(k:PE X a ta)(l:PE X b tb):PE X (.IfExp c a b pos) (Ug tA ta tb):=by
 intro e s Y H Q I h;refine wpAny_IfExp (dA (m e s Y H _ I h) λd j n=>?_);let⟨f,g,i⟩:=n;cases d with
 |true=>calc k e j Y f Q g i|false=>calc l e j Y f Q g i
def jA(K:cG)(H:Hp)(a:bI)(xs:J V):Prop:=
 Rd H a (.l xs)\/
  ∃(o:cY) (b:dE bK) (n:bD),K.lookup a=L o/\o.cls= .type "list" /\o.dict=bL/\o.data= .seq b n/\b.size<=cR/\dR xs b.toList
def kJ(K:cG)(H:Hp)(a:bI)(xs:J V):Prop:=
 Rd H a (.t xs)\/
  ∃(o:cY) (b:dE bK) (n:bD),K.lookup a=L o/\(o.cls= .type "tuple" /\o.dict=bL)/\o.data= .seq b n/\b.size<=cR/\dR xs b.toList
noncomputable def Uh:bK->bR V| .none=>L .n| .bool b=>L (.b b)| .int i _=>L (.int i)| .str x _=>L (.str x)| .bytes b _=>L (.byt b)| .float b _=>L (.flt b)| .ref a=>L (.ref a)| .type n=>L (.ty n)|_=>bL
def dM.abs(r:dM x u):Uh u=L x:=by
 cases x with
 |n=>cases r;rfl|b _=>cases r;rfl|int _=>let⟨t,rfl⟩:=r;rfl|str _=>let⟨t,rfl⟩:=r;rfl|byt _=>let⟨t,rfl⟩:=r;rfl|flt _=>let⟨t,rfl⟩:=r;rfl|ref _=>cases r;rfl|ty _=>cases r;rfl
def dM.inj(r:dM x u)(q:dM y u):x=y:=kE (r.abs.symm.trans q.abs)
theorem dR.inj:∀{xs ys us},dR xs us->dR ys us->xs=ys|_,_,_,.nil,.nil=>rfl|_,_,_,.cons r t,.cons a b=>by rw[r.inj a,dR.inj t b]
def jA.of{K:cG}(h:H a=L (.l xs)):jA K H a xs:=.inl (.inl h)
def kJ.of{K:cG}(h:H a=L (.t xs)):kJ K H a xs:=.inl (.inl h)
def bS.list(I:bS X pe Y H s)(h:jA X.K H a xs):∃its,dR xs its/\PlainL s.heap a its.toArray/\~~~xs<=cR:=by
 rcases h with h|⟨o,its,n,d,b,c,f,g,r⟩
 .let⟨z,its,n,r,e⟩:=h.ok I.hok;exact⟨its,r,⟨_,n,e,rfl,rfl,rfl⟩,z⟩
 refine⟨its.toList,r,⟨o,n,I.kIn a o d,b,c,by simpa using f⟩,?_⟩;let e:=r.length;dsimp[mV]at e
 lia
def bS.tupleN(I:bS X pe Y H s)(h:kJ X.K H a xs):∃its,dR xs its/\xD s.heap a its.toArray/\~~~xs<=cR:=by
 rcases h with h|⟨o,its,n,c,b,d,f,r⟩
 .let⟨z,its,r,p⟩:=h.ok I.hok;exact⟨its,r,p,z⟩
 refine⟨its.toList,r,⟨o,I.kIn a o c,b,n,by simpa using d⟩,?_⟩;let e:=r.length;dsimp[mV]at e
 lia
def bS.tuple(I:bS X pe Y H s)(h:kJ X.K H a xs):∃its,dR xs its/\iw s.heap a its.toArray/\~~~xs<=cR:=let ⟨its,r,p,z⟩:=I.tupleN h;⟨its,r,p.t,z⟩
def bS.list_inj(I:bS X pe Y H s)(h:jA X.K H a xs)(h':jA X.K H a ys):xs=ys:=by
 let⟨c,r,⟨o,n,e,_,_,d⟩,_⟩:=I.list h;let⟨b,j,⟨l,k,g,_,_,f⟩,_⟩:=I.list h';rw[e]at g;cases g;rw[d]at f;injection f with i _;have:c=b:=by simpa using jZ SF i
 subst this;calc r.inj j
def bS.tuple_inj(I:bS X pe Y H s)(h:kJ X.K H a xs)(h':kJ X.K H a ys):xs=ys:=by
 let⟨c,r,⟨o,e,_,n,d⟩,_⟩:=I.tuple h;let⟨b,j,⟨l,g,_,k,f⟩,_⟩:=I.tuple h';rw[e]at g;cases g;rw[d]at f;injection f with i _;have:c=b:=by simpa using jZ SF i
 subst this;calc r.inj j
noncomputable abbrev Cx.wish(X:Cx)(E:bK->bT->Prop):Cx:={X with xe:=E}
abbrev Cx.nox(X:Cx):Cx:=X.wish λ_ _=>hI
def Cx.Ok.wish{X:Cx}(ok:X.Ok)(E):(X.wish E).Ok:=
 ⟨ok.mod,ok.kind,ok.glob,ok.blt,ok.above,ok.inj,ok.has,ok.cab,ok.hd,ok.frames,ok.stk,ok.exf,ok.bs,ok.bsz,ok.noex,ok.exfs,ok.funs,ok.frf⟩
def Cx.Ok.unwish{X:Cx}{E:bK->bT->Prop}(ok:(X.wish E).Ok):X.Ok:=
 ⟨ok.mod,ok.kind,ok.glob,ok.blt,ok.above,ok.inj,ok.has,ok.cab,ok.hd,ok.frames,ok.stk,ok.exf,ok.bs,ok.bsz,ok.noex,ok.exfs,ok.funs,ok.frf⟩
section
variable{X:Cx}{pe:J (bI×cY)}{Y:St}{H:Hp}{s:bT}{E:bK->bT->Prop}
def bS.wish(I:bS X pe Y H s)(E):bS (X.wish E) pe Y H s:=⟨I.ok.wish E,I.os,I.bare,I.base,I.loc,I.cell,I.free,I.freeC,I.pin,I.hok,I.len⟩
def bS.unwish(I:bS (X.wish E) pe Y H s):bS X pe Y H s:=⟨I.ok.unwish,I.os,I.bare,I.base,I.loc,I.cell,I.free,I.freeC,I.pin,I.hok,I.len⟩
def SP.unwish(h:SP (X.wish E) pe D f s'):SP X pe D f s':=by
 cases f with
 |next=>let⟨b,a,I,q⟩:=h;calc⟨b,a,I.unwish,q⟩|brk=>let⟨b,a,I,q⟩:=h;calc⟨b,a,I.unwish,q⟩|cont=>let⟨b,a,I,q⟩:=h;calc⟨b,a,I.unwish,q⟩|ret u=>let⟨v,b,a,I,r,q⟩:=h;calc⟨v,b,a,I.unwish,r,q⟩
def pA.nox{st:J fQ}(h:pA X.nox st t):pA X st t:=λpe s Y H D I a=>
 lU (h pe s Y H D (I.wish _) a) (λ_ _ q=>q.unwish) λ_ _ z=>qP z
end
noncomputable def JE:TS:=λD Y H=>D.nx Y H
noncomputable def Ui(t u:TS):TS:=λD Y H=>t {D with nx:=u D} Y H
def JF:pA X [] JE:=λ_ _ Y H _ I h=>v7 ⟨Y,H,I,h⟩
def ez{st:fQ}(d:PS X st t)(h2:pA X rest u):pA X (st::rest) (Ui t u):=by
 intro a s Y H D I h;refine HJ (dA (d a s Y H {D with nx:=u D} I h) λf e q=>?_);cases f with
 |next=>let⟨g,b,c,q⟩:=q;calc h2 a e g b D c q|ret v=>calc q|brk=>calc q|cont=>calc q
def l8{st:fQ}(a:PS X st t):pA X [st] t:=by
 intro b s Y H D I h;refine HJ (dA (a b s Y H D I h) λf c q=>?_);cases f with
 |next=>calc v7 q|ret v=>calc q|brk=>calc q|cont=>calc q
def Uj:PS X (.Pass pos) JE:=λ_ _ Y H _ I h=>wpAny_Pass ⟨Y,H,I,h⟩
def bS.quiet(I:bS X a Y H s):interactive X.env=bJ:=by simp[interactive,I.ok.kind]
noncomputable def tDrop(b:TE):TS:=λD Y H=>b Y H λ_ a=>D.nx Y a
def qd(he:PE X e te)(hs:em e bL pos.line X.env=dX bJ:=by rfl):PS X (.Expr e pos) (tDrop te):=by intro c s Y H D I h;calc wpAny_Expr_any (dA (he c s Y H _ I h) λv i f=>by let⟨x,a,b,g,d⟩:=f;calc⟨Y,a,b,d⟩) I.quiet hs
noncomputable def JG(a:TE):TS:=λD Y H=>a Y H D.rt
def xd(he:PE X e te):PS X (.Return (L e) pos) (JG te):=by intro c s Y H D I h;calc Rw (dA (he c s Y H _ I h) λv i f=>by let⟨x,a,b,g,d⟩:=f;calc⟨x,Y,a,b,g,d⟩)
noncomputable def Uk(c:TT)(t u:TS):TS:=λD Y H=>c Y H λb a=>if b=bF then t D Y a else u D Y a
def Ci(n:PT X c k)(l:pA X a t)(m:pA X b u):PS X (.If c a b pos) (Uk k t u):=by
 intro e s Y H D I h;refine wpAny_If (dA (n e s Y H _ I h) λd j o=>?_);let⟨f,g,i⟩:=o;cases d with
 |true=>calc l e j Y f D g i|false=>calc m e j Y f D g i
noncomputable def Ul:TS:=λ_ _ _=>hI
def JH:pA X a Ul:=λ_ _ _ _ _ _ h=>h.elim
abbrev TG:=V->St->Hp->(St->Hp->Prop)->Prop
abbrev iC:=J V->St->Hp->(St->Hp->Prop)->Prop
def PG(X:Cx)(a:bU)(t:TG):Prop:=
 ∀(b:J (bI×cY)) (s:bT) (Y:St) (H:Hp) (v:V) (u:bK) (Q:St->Hp->Prop),bS X b Y H s->dM v u->t v Y H Q->
  (X>>>(be a X.env u)) (λ_ c=>qa X b Q c) X.xe s
def xf(X:Cx)(ts:J bU)(t:iC):Prop:=
 ∀(a:J (bI×cY)) (s:bT) (Y:St) (H:Hp) (c:J V) (b:J bK) (Q:St->Hp->Prop),bS X a Y H s->dR c b->t c Y H Q->
  (X>>>(assignInOrder ((wW ts X.env).map (·.2)) b)) (λ_ d=>qa X a Q d) X.xe s
abbrev Cj:=V->V->Hp->VK->Prop
def JI(X:Cx)(b:g9)(t:Cj):Prop:=
 ∀(a:J (bI×cY)) (s:bT) (Y:St) (H:Hp) (x y:V) (v u:bK) (Q:VK),bS X a Y H s->dM x v->dM y u->t x y H Q->
  (X>>>(BE b v u)) (EP X a Y Q) X.xe s
noncomputable def sR(i:bD):TG:=λv Y H Q=>Q (Y.set i (L v)) H
def iD(b:X.N.Nodup)(d:X.N[i]? =L x)(e:Loc X.env.scope x)(c:X.fn x=bF\/X<<<x=L .local:=by first|calc .inl bQ|calc .inr bQ|assumption):PG X (.Name x pos) (sR i):=by intro f s Y H v u Q I r h;calc Rx (Cf I b d e r (λg a=>⟨_,H,a,h⟩) c)
noncomputable def l9:iC:=λa Y H Q=>a= []/\Q Y H
noncomputable def yR(t:TG)(u:iC):iC:=λb Y H Q=>∃v r,b=v::r/\t v Y H λc a=>u r c a Q
def JJ:xf X [] l9:=by intro a s Y H c b Q I r h;let⟨e,h⟩:=h;subst e;cases r;calc assignInOrder_nil ⟨Y,H,I,h⟩
def xg(g:PG X e t)(h2:xf X a u)(hs:(wW (e::a) X.env).map (·.2)=be e X.env::(wW a X.env).map (·.2):=by rfl):xf X (e::a) (yR t u):=by
 intro b s Y H n m Q I r h;let⟨v,vr,f,h⟩:=h;subst f;cases r with
 |cons r rr=>rw[hs];refine assignInOrder_cons (dA (g b s Y H _ _ _ I r h) λ_ k j=>?_);let⟨l,c,d,i⟩:=j;calc h2 b k l c _ _ Q d rr i
noncomputable def ma(K:cG)(n:bD)(t:iC):TG:=λv Y H Q=>∃a b,v= .ref a/\kJ K H a b/\~~~b=n/\t b Y H Q
def JK(p:X.calm=bF)(h:xf X c t)(w: ~~~(wW c X.env)=n:=by rfl)(d:(wW c X.env).findIdx? (·.1)=bL:=by rfl):PG X (.Tuple c k pos) (ma X.K n t):=by
 intro g s Y H v u Q I r f;let⟨a,B,l,x,q,f⟩:=f;subst l;cases r;let⟨A,i,y,C⟩:=I.tuple x;refine assign_Tuple_tuple (I.ok.hd p) y (by simp[w, <-q,~~~i]) d λm z=>?_
 let j:bS X g Y H {s with heap:=m}:=I.kept (t':=s.toks) λb o e=>z b o (hJ (gH e)) e
 calc h g _ Y H B _ Q j (by simpa using i) f
noncomputable def qe(b:TE)(g:TG):TS:=λD Y H=>b Y H λx a=>g x Y a D.nx
def Um(he:PE X e c)(j:PG X a g)(hs:HY [a] e pos.line X.env=dX bJ:=by rfl)(k:HZ [a] e X.env=dX bL:=by rfl)(i:(wW [a] X.env).map (·.2)= [be a X.env]:=by rfl):PS X (.Assign [a] e pos) (qe c g):=by
 intro b s Y H D I h;refine wpAny_Assign_stores (dA (he b s Y H _ I h) λv o m=>?_) hs k;let⟨x,d,f,n,l⟩:=m;rw[i];calc dA (j b o Y d x v _ f n l) λ_ p q=>q
def eB(g:X.N.Nodup)(k:X.N[i]? =L x)(l:Loc X.env.scope x)(he:PE X e b)(hs:em e (L (.Name x a)) pos.line X.env=dX bJ:=by rfl)(j:X.fn x=bF\/X<<<x=L .local:=by first|calc .inl bQ|calc .inr bQ|assumption):
 PS X (.Assign [.Name x a] e pos) (qe b (sR i)):=by
 intro m s Y H D I h;refine wpAny_Assign_Name (dA (he m s Y H _ I h) λv q o=>?_) hs;let⟨y,c,d,p,n⟩:=o;calc Cf d g k l p (λr f=>⟨_,c,f,n⟩) j
noncomputable def Uo(i:bD)(c:TE)(d:Cj):TS:=λD Y H=>∃x,Y[i]? =L (L x)/\c Y H λy a=>d x y a λz b=>D.nx (Y.set i (L z)) b
def Up(M:X.N.Nodup)(p:X.N[i]? =L x)(d:Loc X.env.scope x)(he:PE X e q)(W:JI X f t)(P:X.fn x=bF\/X<<<x=L .local:=by first|calc .inl bQ|calc .inr bQ|assumption):
 PS X (.AugAssign (.Name x b) f e pos) (Uo i q t):=by
 intro g s Y H D I h;let⟨v,K,h⟩:=h;let⟨m,T,Q⟩:=I.loc;let n:Ce X.env.scope x:=by rcases d with k|k;calc .inl k;exact .inr (.inl k)
 let⟨u,r,l⟩:=Q i x v p K n;refine wpAny_AugAssign_Name ?_;let o:(X>>>(fP e X.env)) (λw s₂=>(X>>>(BE f u w)) (λr s₃=>(X>>>(Jb X.env x r)) (λ_=>SP X g D .next) X.xe s₃) X.xe s₂) X.xe s:=by
  refine dA (he g s Y H _ I h) λw s1 j=>?_
  let⟨y,B,E,r1,Z⟩:=j;refine dA (W g s1 Y B v y u w _ E r r1 Z) λz s2 j=>?_
  let⟨zv,C,F,r2,q2⟩:=j;exact Cf F M p d r2 (λs3 G=>⟨_,C,G,q2⟩) P
 rcases l with⟨hk,S⟩|⟨hk,c,O,a⟩
 .exact Q6 I.ok.kind hk T S o
 rcases hk with hk|hk
 .exact Rf I.ok.kind hk O a o
 rcases d with k|k
 .have:X<<<x=L .free:=hk;rw[k]at this;cases this
 have:X<<<x=L .free:=hk;rw[k]at this;cases this
def Uq(c:TT)(tb:TS):TS:=λD Y H=>∃W:bD->St->Hp->Prop,(∃m,W m Y H)/\ ∀m Y H,W m Y H->
 c Y H λb d=>if b=bF then ∃N:St->Hp->Prop,(∀f a,N f a->∃e,e<m/\W e f a)/\tb {D with nx:=N,ct:=N,bk:=D.nx} Y d else D.nx Y d
def Ur(B:pf (bY X.prog X.w) X.A X.env X.xe)(K:PT X c C)(G:pA X a tb):PS X (.While c a [] pos) (Uq C tb):=by
 intro q s Y H D I h;let⟨W,⟨M,w0⟩,e⟩:=h;refine wpAny_While (codeAny_whileLoop (λn P=>∃E t,bS X q E t P/\W n E t) ?_ M ⟨Y,H,I,w0⟩);rintro n Q ⟨k,u,F,w1⟩;refine kn B (dA (K q Q k u _ F (e n k u w1)) λb S O=>?_);let⟨x,y,i⟩:=O;cases b with
 |true=>
  let⟨N,z,i⟩:=i;rw[cK bQ];refine kn B (dA (G q S k x _ y i) λf T j=>?_);cases f with
  |next=>let⟨g,d,l,p⟩:=j;let⟨o,m,r⟩:=z g d p;calc⟨o,m,g,d,l,r⟩|cont=>let⟨g,d,l,p⟩:=j;let⟨o,m,r⟩:=z g d p;calc⟨o,m,g,d,l,r⟩|brk=>calc j|ret v=>calc j
 |false=>rw[cX wQ];calc v7 ⟨k,x,y,i⟩
structure It where
 go:bD->Hp->Prop
 yld:bD->Hp->V->Hp->Prop
 stop:bD->Hp->Prop
def qG(X:Cx)(a:J (bI×cY))(H:Hp)(b:bI):Prop:=
 H b=bL/\b≠X.env.locals/\b∉X.fs/\(b∈X.ex\/X.s₀⁻¹<=b)/\(∀x c,X.env.cells.lookup x=L c->c≠b)/\ ∀p∈X.pn++a,p.1≠b
def bS.fpOk(I:bS X f Y H s)(a:s⁻¹<=b)(g:d b=bL):qG X f d b:=by
 refine⟨g,ky (nO I.lt a),I.nofs a,.inr (hE I.sz a),λx c e z=>?_,λp h z=>?_⟩
 .let⟨v,q⟩:=I.cell x c e;exact dD (nO q.lt (by rw[z];calc a)) (aX _)
 calc dD (nO (gH (I.pin p h).1) (by rw[z];calc a)) (aX _)
structure bi(P:fH)(w:cD)(K:cG)(tg:bU)(a:It)(fp:J bI)(it:bI)(tn:bD->cH->Prop):Prop where
 mem:it∈fp
 obj:∀i h,tn i h->∀b∈fp,∃o,h.get? b=L o/\ ∀v,o.data≠ .cell v
 keep:∀i h h',tn i h->(∀b∈fp,∀o,h.get? b=L o->h'.get? b=L o)->tn i h'
 item:∀(X:Cx),X.prog=P->X.w=w->X.K=K->X.calm=bF->∀(i:bD) (pe:J (bI×cY)) (s:bT) (Y:St) (H:Hp) (E:bK->bT->Prop),bS X pe Y H s->(∀b∈fp,qG X pe H b)->tn i s.heap->a.go i H->
  wpAny (bY P w) X.A (ai (.ref it)) (λr s1=>∃u,r=L u/\
   wpAny (bY P w) X.A (Bk tg (.ref it) u) (λ_ s2=>∃x H',bS X pe Y H' s2/\dM x u/\a.yld i H x H'/\tn (i+1) s2.heap/\ ∀b∈fp,H' b=bL) E s1) E s
 done:∀(X:Cx),X.prog=P->X.w=w->X.K=K->X.calm=bF->∀(i:bD) (pe:J (bI×cY)) (s:bT) (Y:St) (H:Hp) (E:bK->bT->Prop),bS X pe Y H s->(∀b∈fp,qG X pe H b)->tn i s.heap->a.stop i H->
  wpAny (bY P w) X.A (ai (.ref it)) (λr s1=>r=bL/\bS X pe Y H s1) E s
 self:∀(A:gW) (i:bD) (s:bT) (Q:bK->bT->Prop) (E:bK->bT->Prop),tn i s.heap->Q (.ref it) s->wpAny (bY P w) A (B5 (.ref it)) Q E s
abbrev TI:=St->Hp->(It->Hp->Prop)->Prop
inductive JL(X:Cx)(pe:J (bI×cY))(Y:St)(tg:bU)(R:It->Hp->Prop)(itv:bK)(s2:bT):Prop
 |mk (it:bI) (fp:J bI) (tn:bD->cH->Prop) (J:It) (H':Hp) (_:itv= .ref it) (_:bS X pe Y H' s2) (_:bi X.prog X.w X.K tg J fp it tn) (_:tn 0 s2.heap) (_:(∀b∈fp,qG X pe H' b)) (_:R J H')
def PI(X:Cx)(d a:bU)(e:TI):Prop:=
 ∀(b:J (bI×cY)) (s:bT) (Y:St) (H:Hp) (R:It->Hp->Prop),bS X b Y H s->e Y H R->
  (X>>>(fP a X.env)) (λv c=>(X>>>(B5 v)) (JL X b Y d R) X.xe c) X.xe s
def qf{E:bK->bT->Prop}{Q:mY->bT->Prop}(f:s.heap.get? it=L o)(c:o.cls= .type n)(d:o.data= .fields vs)(e: ["enumerate","zip","dict_itemiterator","dict_reverseitemiterator","odict_iterator","itertools.zip_longest","itertools.pairwise"].contains n=bJ)(a:Q () s):wpAny M A (Bk b (.ref it) u) Q E s:=by
 delta Bk
 cases b<;>first
  |calc cT a
  | (cases u<;>first
      |calc cT a
      | (refine bV (wpAny_load f ?_)
         rw[c,d];show wpAny M A (if(["enumerate","zip","dict_itemiterator","dict_reverseitemiterator","odict_iterator","itertools.zip_longest","itertools.pairwise"].contains n&&vs[0]? ==L (pP _))=bF then _ else _) Q E s;rw[cX (by intro h;rw[e,Bool.false_and]at h;cases h)];calc cT a))
noncomputable def JM(K:cG)(a:bI):It:=
 ⟨λi H=>∃b x,jA K H a b/\b[i]? =L x,λi H x c=>c=H/\ ∀b,jA K H a b->b[i]? =L x,λi H=>∃b,jA K H a b/\~~~b<=i⟩
noncomputable def JN(K:cG)(a:bI):It:=
 ⟨λi H=>∃b x,kJ K H a b/\b[i]? =L x,λi H x c=>c=H/\ ∀b,kJ K H a b->b[i]? =L x,λi H=>∃b,kJ K H a b/\~~~b<=i⟩
noncomputable def xh(b:bH)(n:bD):It:=⟨λi _=>i<n,λi H x a=>a=H/\x= .int (b+i),λi _=>n<=i⟩
def Us{K:cG}(a it):bi P w K tg (JM K a) [it] it (λi h=>h.IsListIter it a i)where
 mem:=cS
 obj:=λi h st b f=>by
  let e:b=it:=by simpa using f
  subst e;let⟨o,e,c,d⟩:=st;exact⟨o,e,λv z=>by rw[d]at z;cases z⟩
 keep:=λi h j st k=>st.at λo e=>k it cS o e
 item:=by
  intro X B F A O i Q s Y H E I l st C;subst B F A;let⟨xs,x,m,G⟩:=C;let⟨M,N,p,hz⟩:=I.list m;let⟨u,Z,ru⟩:=N.get G;let⟨n,q,W,r,t,y⟩:=l it cS;refine wpAny_pyNext_list_item st p.isList (x:=u) (by simpa using Z) λj g sb=>?_
  let S:bS X Q Y H {s with heap:=j}:=I.turned (t':=s.toks) (λb o f e=>(sb.2 b f).trans e) n q r t y;let⟨o,e,c,d⟩:=id g;exact⟨u,rfl,qf (s:={s with heap:=j}) e c d hG ⟨x,H,S,ru,⟨rfl,λys hy=>by rw[I.list_inj hy m];calc G⟩,g,λb f=>(l b f).1⟩⟩
 done:=by intro X B F A O i Q s Y H E I l st C;subst B F A;let⟨xs,m,G⟩:=C;let⟨M,N,p,hz⟩:=I.list m;let⟨n,q,W,r,t,y⟩:=l it cS;let hl:=N.length;exact wpAny_pyNext_list_end (I.ok.hd O) st p.isList (by simp;lia) λj T=>⟨rfl,I.turned (t':=s.toks) (λb o f e=>T b o f e) n q r t y⟩
 self:=λ_ _ _ _ _ st h=>wpAny_pyIter_listiter st h
def Ut{K:cG}(a it):bi P w K tg (JN K a) [it] it (λi h=>h.IsTupleIter it a i)where
 mem:=cS
 obj:=λi h st b f=>by
  let e:b=it:=by simpa using f
  subst e;let⟨o,e,c,d⟩:=st;exact⟨o,e,λv z=>by rw[d]at z;cases z⟩
 keep:=λi h l st k=>st.at λo e=>k it cS o e
 item:=by
  intro X C G B O i Q s Y H E I m st F;subst C G B;let⟨xs,x,n,M⟩:=F;let⟨g,N,p,hz⟩:=I.tuple n;let⟨u,Z,ru⟩:=N.get M;let⟨q,r,W,t,y,A⟩:=m it cS;refine QO st (show s.heap.IsTuple a g.toArray from p) (x:=u) (by simpa using Z) λl j sb=>?_
  let S:bS X Q Y H {s with heap:=l}:=I.turned (t':=s.toks) (λb o f e=>(sb.2 b f).trans e) q r t y A;let⟨o,e,c,d⟩:=id j;exact⟨u,rfl,qf (s:={s with heap:=l}) e c d hG ⟨x,H,S,ru,⟨rfl,λys hy=>by rw[I.tuple_inj hy n];calc M⟩,j,λb f=>(m b f).1⟩⟩
 done:=by intro X C G B O i Q s Y H E I m st F;subst C G B;let⟨xs,n,M⟩:=F;let⟨g,N,p,hz⟩:=I.tuple n;let⟨q,r,W,t,y,A⟩:=m it cS;let hl:=N.length;exact QS (I.ok.hd O) st (show s.heap.IsTuple a g.toArray from p) (by simp;lia) λl T=>⟨rfl,I.turned (t':=s.toks) (λb o f e=>T b o f e) q r t y A⟩
 self:=λ_ _ _ _ _ st h=>wpAny_pyIter_tupleiter st h
theorem Uu{K:W.Frag}(it)(g)(n):bi P w K Q (xh g n) [it] it (λi h=>IsRangeIter h it (g+(i:bD)*1) ((n:bH)-(i:bD)) 1)where
 mem:=cS
 obj:=λi h st b a=>by
  let e:b=it:=by simpa using a
  subst e;exact⟨_,st,λv z=>by let S:Iy _=wk v:=z;cases S⟩
 keep:=λi h d st k=>k it cS _ st
 item:=by
  intro X u A r x i B s Y H E I f st y;subst u A r;let⟨j,l,M,m,p,q⟩:=f it cS;let W:=Walks.range (prog:=X.prog) (w:=X.w) (I.ok.hd x) it g 1 n;refine W.item i s _ _ y st λv d C N c O=>?_
  let⟨t,rfl⟩:=N;let F:bS X B Y H {s with heap:=d,toks:=C}:=I.turned (λb o a e=>O b o (by simpa using a) e) j l m p q;refine⟨_,rfl,qf (s:={s with heap:=d,toks:=C}) (n:="range_iterator") c rfl rfl hG ⟨.int (g+i),H,F,⟨t,?_⟩,⟨rfl,rfl⟩,c,λb a=>(f b a).1⟩⟩;rw[Int.mul_one]
 done:=by intro X u A r x i B s Y H E I f st y;subst u A r;let⟨j,l,M,m,p,q⟩:=f it cS;exact wpAny_pyNext_range_end (I.ok.hd x) st (by have:n<=i:=y;lia) λd G=>⟨rfl,I.turned (t':=s.toks) (λb o a e=>G b o a e) j l m p q⟩
 self:=λ_ _ _ _ _ st h=>wpAny_pyIter_rangeiter st h
def Uv{R:It->Hp->Prop}{E:bK->bT->Prop}(I:bS X f Y H s)(i: -(2^62)<=a)(h2:a<2^62)(j: -(2^62)<=c)(k:c<2^62)(q:R (xh a (c-a).toNat) H):(X>>>(B5 (.ref s⁻¹))) (JL X f Y tg R) E {s with heap:=s.heap.push {cls:=.type "range",data:=.fields #[.int a t,.int c u,.int 1 v]},toks:=tk}:=by
 refine wpAny_pyIter_range (IsRange.new ..) (small_one i h2 j k) ?_;let d:bS X f Y H {s with heap:=s.heap.push {cls:=.type "range",data:=.fields #[.int a t,.int c u,.int 1 v]},toks:=tk}:=I.kept λb o e=>gF _ e
 refine⟨(s.heap.push {cls:=.type "range",data:=.fields #[.int a t,.int c u,.int 1 v]}).objs.size,[(s.heap.push {cls:=.type "range",data:=.fields #[.int a t,.int c u,.int 1 v]}).objs.size],_,_,H,rfl,
  d.kept (t':=tk) λb o e=>gF _ e,Uu _ a (c-a).toNat,?_,λb l=>?_,q⟩
 .let g:a+((0:bD):bH)*1=a:=by simp
  let h:(((c-a).toNat:bD):bH)-((0:bD):bH)=cF2 a c 1:=by rw[rangeSize_one];split<;>lia
  show IsRangeIter _ _ (a+((0:bD):bH)*1) ((((c-a).toNat:bD):bH)-((0:bD):bH)) 1;rw[g,h];exact lC _ bQ
 let e:b=(s.heap.push {cls:=.type "range",data:=.fields #[.int a t,.int c u,.int 1 v]}).objs.size:=by simpa using l
 subst e;calc d.fpOk (cU _) (d.hok.fresh (cU _))
def Uw(b:TA):TI:=λY H R=>b Y H λc a=>∃j:bH,c= [.int j]/\ -(2^62)<=j/\j<2^62/\R (xh 0 j.toNat) a
def Ux(g:Gl X "range")(i:X.mg "range" =bL)(f:PA X [a] c)(hs:gG [a] X.env= [(bJ,fP a X.env)]:=by rfl):PI X tg (.Call (.Name "range" p) [a] [] pos) (Uw c):=by
 intro k s Y H R I h;refine Call_ (l7 I g i boot_range (AT (dA (f pos k s Y H _ I h) λv u m=>?_) hs rfl));let⟨w,o,d,n,b⟩:=m;let⟨j,e,b,l,q⟩:=b;subst e;cases n with
 |cons r rr=>cases rr;let⟨t,rfl⟩:=r;calc call_range_1 (Uv d bZ bZ b l (by simpa using q))
def Uy(h:TI)(g:TG)(tb:TS):TS:=λD Y H=>h Y H λa e=>∃W:bD->bD->St->Hp->Prop,(∃m,W 0 m Y e)/\ ∀i m Y H,W i m Y H->
 (a.stop i H/\D.nx Y H)\/(a.go i H/\ ∃N:St->Hp->Prop,(∀d b,N d b->∃c,c<m/\W (i+1) c d b)/\ ∀x b,a.yld i H x b->g x Y b λj f=>tb {D with nx:=N,ct:=N,bk:=D.nx} j f)
noncomputable def qg(a:J bI)(h:cH):J (bI×cY):=a.filterMap λb=>(h.get? b).map λo=>(b,o)
def xi(c:b∈a)(e:h.get? b=L o):(b,o)∈qg a h:=vx.mpr ⟨b,c,by rw[e];rfl⟩
def Uz(f:p∈qg a h):p.1∈a/\h.get? p.1=some p.2:=by
 let⟨b,d,e⟩:=vx.mp f;cases q:h.get? b with
 |none=>rw[q]at e;cases e|some o=>rw[q]at e;let c:(b,o)=p:=kE e;subst c;calc⟨d,q⟩
def bS.pinned(I:bS X c Y H s)(k:∀b∈a,qG X c H b)(l:∀b∈a,∃o,s.heap.get? b=L o/\ ∀v,o.data≠ .cell v):bS X (c++qg a s.heap) Y H s:=
 I.pins_of λp m=>(hV.mp m).elim (λz=>I.pin p (mK _ z)) λz=>by let⟨g,e⟩:=Uz z;let⟨h,i,j,_⟩:=k p.1 g;let⟨o,f,d⟩:=l p.1 g;rw[e]at f;cases f;calc⟨e,h,i,j,d⟩
def bS.unpinned(I:bS X (a++pl) Y H s):bS X a Y H s:=I.pins_of λp b=>I.pin p (mK _ (mL _ b))
def JO(G:pf (bY X.prog X.w) X.A X.env X.xe)(hc:X.calm=bF)(hi:PI X tg p wi)(hg:PG X tg g)(l:pA X y tb)(hs:∀x,gi p X.env x=dX x:=by intro _;rfl):PS X (.For tg p y [] pos) (Uy wi g tb):=by
 intro B s Y H D I h;refine wpAny_For (dA (hi B s Y H _ I h) λv s1 h1=>dA h1 λa3 s2 h2=>?_) hs;let⟨it,E,tn,a,H2,e,I2,T,a2,f2,W,⟨m0,w0⟩,S⟩:=h2;subst e;let bg:∀{t:Hp},(∀b∈E,t b=bL)->∀b∈E,qG X B t b:=λhn b l=>⟨hn b l,(f2 b l).2⟩
 refine codeAny_forLoop_any (λn s'=>∃i Z t,bS X B Z t s'/\tn i s'.heap/\(∀b∈E,t b=bL)/\W i n Z t) ?_ m0 ⟨0,Y,H2,I2,a2,λb l=>(f2 b l).1,w0⟩;rintro n s3 ⟨i,σ3,H3,I3,O,F,w3⟩;rcases S i n σ3 H3 w3 with⟨Q,qn⟩|⟨go,N,hN,P⟩
 .refine kn G (dA (T.done X bQ bQ bQ hc i B s3 σ3 H3 X.xe I3 (bg F) O Q) λr s4 ⟨hr,I4⟩=>?_);subst hr;exact v7 ⟨σ3,H3,I4,qn⟩
 refine kn G (dA (T.item X bQ bQ bQ hc i B s3 σ3 H3 X.xe I3 (bg F) O go) λr s4 M=>?_);let⟨u,hr,h4⟩:=M;subst hr;refine kn G (dA h4 λ_ s5 M=>?_);let⟨x,H5,I5,r5,y5,C,a1⟩:=M;let a0:=I5.pinned (bg a1) (T.obj _ _ C);refine kn G (dA (hg _ s5 σ3 H5 x u _ a0 r5 (P x H5 y5)) λ_ s6 M=>?_);let⟨σ6,H6,I6,q6⟩:=M;refine kn G (dA (l _ s6 σ6 H6 _ I6 q6) λf s7 z=>?_);let k:∀{q:St} {c:Hp},bS X (B++qg E s5.heap) q c s7->N q c->∃m,m<n/\ ∃i Z t,bS X B Z t s7/\tn i s7.heap/\(∀b∈E,t b=bL)/\W i m Z t:=λ{q c} j K=>by
  let⟨m',hm,w7⟩:=hN q c K;refine⟨m',hm,i+1,q,c,j.unpinned,T.keep _ _ _ C λb l o e=>(j.pin (b,o) (mK _ (mK _ (xi l e)))).1,λb l=>?_,w7⟩;let⟨o,e,d⟩:=T.obj _ _ C b l;exact(j.pin (b,o) (mK _ (mK _ (xi l e)))).2.1
 cases f with
 |next=>let⟨q,c,j,K⟩:=z;calc k j K|cont=>let⟨q,c,j,K⟩:=z;calc k j K|brk=>let⟨q,c,j,z⟩:=z;calc⟨q,c,j.unpinned,z⟩|ret v=>let⟨x7,q,c,j,r7,z⟩:=z;calc⟨x7,q,c,j.unpinned,r7,z⟩
abbrev R2:=V->V->Hp->VK->Prop
def fU(X:Cx)(f:bK->bK->mZ bK)(r:R2):Prop:=
 ∀(a:J (bI×cY)) (s:bT) (Y:St) (H:Hp) (x y:V) (v u:bK) (Q:VK),bS X a Y H s->dM x v->dM y u->r x y H Q->
  (X>>>(f v u)) (EP X a Y Q) X.xe s
def qh(X:Cx)(f:bK->mZ bK)(r:V->Hp->VK->Prop):Prop:=
 ∀(a:J (bI×cY)) (s:bT) (Y:St) (H:Hp) (x:V) (v:bK) (Q:VK),bS X a Y H s->dM x v->r x H Q->
  (X>>>(f v)) (EP X a Y Q) X.xe s
def jL(X:Cx)(f:bK)(r:J V->Hp->VK->Prop):Prop:=
 ∀(a:J (bI×cY)) (s:bT) (Y:St) (H:Hp) (c:J V) (b:J bK) (Q:VK),bS X a Y H s->dR c b->r c H Q->
  (X>>>(call f b)) (EP X a Y Q) X.xe s
def UA(X:Cx)(r:V->Hp->(bW->Hp->Prop)->Prop):Prop:=
 ∀(a:J (bI×cY)) (s:bT) (Y:St) (H:Hp) (x:V) (v:bK) (Q:bW->Hp->Prop),bS X a Y H s->dM x v->r x H Q->
  (X>>>(B6 v)) (TP X a Y Q) X.xe s
noncomputable def qi(r:R2)(c tb:TE):TE:=λY H Q=>c Y H λx a=>tb Y a λy b=>r x y b Q
noncomputable def UB(r:V->Hp->VK->Prop)(b:TE):TE:=λY H Q=>b Y H λx a=>r x a Q
noncomputable def rI(C:bH->bH->Prop)(g:bH->bH->V):R2:=λx y H Q=>∃i j,x= .int i/\y= .int j/\C i j/\Q (g i j) H
noncomputable def bj(g:bH->bH->V):R2:=λx y H Q=>∃i j,x= .int i/\y= .int j/\Q (g i j) H
def rU(g:bH->V):V->Hp->VK->Prop:=λx H Q=>∃i,x= .int i/\Q (g i) H
def Ck(l:PE X a ta)(m:PE X b tb){R:V->V->Hp->Prop}(I:bS X d Y H s)(h:ta Y H λx g=>tb Y g λy c=>R x y c){Q:bK->bT->Prop}{f:bK->bK->mZ bK}(n:∀v u e x y c,bS X d Y c e->dM x v->dM y u->R x y c->(X>>>(f v u)) Q X.xe e):
 (X>>>(fP a X.env)) (λv s₁=>(X>>>(fP b X.env)) (λu z=>(X>>>(f v u)) Q X.xe z) X.xe s₁) X.xe s:=by
 refine dA (l d s Y H _ I h) λv t i=>?_
 let⟨x,g,j,q,o⟩:=i;refine dA (m d t Y g _ j o) λu e i=>?_
 let⟨y,c,k,r,p⟩:=i;calc n v u e x y c k q r p
def Cm(i:fU X (pN c) r)(f:PE X a ta)(g:PE X b tb):PE X (.BinOp a c b pos) (qi r ta tb):=by intro j s Y H Q I h;calc wpAny_BinOp (Ck f g I h λv u m x y d e k l q=>i j m Y d x y v u Q e k l q)
def UC{r:V->Hp->VK->Prop}(g:qh X (BY b) r)(f:PE X a ta):PE X (.UnaryOp b a pos) (UB r ta):=by intro c s Y H Q I h;calc UnaryOp_ (dA (f c s Y H _ I h) λv l j=>by let⟨x,d,e,k,i⟩:=j;calc g c l Y d x v Q e k i)
def Co{C:bH->bH->Prop}{g:bH->bH->bH}(a:∀(i j:bH) (t u:nA) (s:bT) (Q:bK->bT->Prop) (E:bK->bT->Prop),C i j->Q (.int (g i j) s.toks) {s with toks:=s.toks+1}->(X>>>(f (.int i t) (.int j u))) Q E s):
 fU X f (rI C λi j=>.int (g i j)):=by
 intro k s Y H x y v u Q I c d h;let⟨i,j,rfl,rfl,b,q⟩:=h;let⟨t,rfl⟩:=c;let⟨e,rfl⟩:=d;calc a i j t e s _ _ b ⟨.int (g i j),H,I.tok _,⟨_,rfl⟩,q⟩
def Cp{g:bH->bH->bH}(a:∀(i j:bH) (t u:nA) (s:bT) (Q:bK->bT->Prop) (E:bK->bT->Prop),Q (.int (g i j) s.toks) {s with toks:=s.toks+1}->(X>>>(f (.int i t) (.int j u))) Q E s):
 fU X f (bj λi j=>.int (g i j)):=by
 intro e s Y H x y v u Q I b c h;let⟨i,j,rfl,rfl,q⟩:=h;let⟨t,rfl⟩:=b;let⟨d,rfl⟩:=c;calc a i j t d s _ _ ⟨.int (g i j),H,I.tok _,⟨_,rfl⟩,q⟩
def Cq{g:bH->bH->bW}(a:∀(i j:bH) (t u:nA) (s:bT) (Q:bK->bT->Prop) (E:bK->bT->Prop),Q (.bool (g i j)) s->(X>>>(f (.int i t) (.int j u))) Q E s):
 fU X f (bj λi j=>.b (g i j)):=by
 intro k s Y H x y v u Q I c d h;let⟨i,j,rfl,rfl,q⟩:=h;let⟨t,rfl⟩:=c;let⟨e,rfl⟩:=d;calc a i j t e s _ _ ⟨.b (g i j),H,I,rfl,q⟩
def UD(i j:bH):Prop:=0<j/\j<1073741824
def Cr(i j:bH):Prop:=(-(2^64)<i/\i<2^64)\/(-(2^64)<j/\j<2^64)
def Cr.ok(h:Cr i j):IntMulOk i j:=by
 rcases h with⟨a,b⟩|⟨a,b⟩
 .exact .of_left (intBits_le_64 a b)
 calc .of_right (intBits_le_64 a b)
def UE:fU X (pN .Add) (bj λi j=>.int (i+j)):=Cp λ_ _ _ _ _ _ _ q=>add_int q
def UF:fU X (pN .Sub) (bj λi j=>.int (i-j)):=Cp λ_ _ _ _ _ _ _ q=>sub_int q
def UG:fU X (pN .Mult) (rI Cr λi j=>.int (i*j)):=Co λ_ _ _ _ _ _ _ a q=>mul_int q a.ok
def UH:fU X (pN .FloorDiv) (rI UD λi j=>.int (i/j)):=Co λi j _ _ _ _ _ a q=>by let b:(0:bH)<j:=a.1;let c:j<1073741824:=a.2;calc floordiv_int bZ (by rw[Int.fdiv_eq_ediv_of_nonneg i bZ];calc q) (.inl (PyProof.noPylong_small bZ))
def UI:fU X (pN .Mod) (rI (λ_ j=>0<j) λi j=>.int (i%j)):=Co λi j _ _ _ _ _ a q=>by let b:(0:bH)<j:=a;calc mod_int' bZ (by rw[Int.fmod_eq_emod_of_nonneg i bZ];calc q)
def UJ:fU X (BE .Add) (bj λi j=>.int (i+j)):=Cp λ_ _ _ _ _ _ _ q=>R5 q
def UK{g:bH->bH}(a:∀(i:bH) (t:nA) (s:bT) (Q:bK->bT->Prop) (E:bK->bT->Prop),Q (.int (g i) s.toks) {s with toks:=s.toks+1}->(X>>>(f (.int i t))) Q E s):
 qh X f (rU λi=>.int (g i)):=by
 intro c s Y H x v Q I b h;let⟨i,rfl,q⟩:=h;let⟨t,rfl⟩:=b;calc a i t s _ _ ⟨.int (g i),H,I.tok _,⟨_,rfl⟩,q⟩
def UL:qh X (BY .USub) (rU λi=>.int (-i)):=UK λ_ _ _ _ _ q=>neg_int q
noncomputable def UM:V->V->bW| .n,.n=>bF| .n,.int _=>bF| .int _,.n=>bF| .n,.b _=>bF| .b _,.n=>bF| .n,.str _=>bF| .str _,.n=>bF| .int _,.int _=>bF| .b _,.b _=>bF| .str _,.str _=>bF| .byt _,.byt _=>bF| .int _,.str _=>bF| .str _,.int _=>bF| .b _,.str _=>bF| .str _,.b _=>bF|_,_=>bJ
def UN:R2:=λx y H Q=>UM x y=bF/\Q (.b (!cE (x=y))) H
def UO:cE (V.int i=V.int j)=(i==j):=by rw[Bl];simp
def UP:cE (V.b i=V.b j)=(i==j):=by rw[Bl];simp
def UQ:cE (V.str i=V.str j)=(i==j):=by rw[Bl];simp
def UR:cE (V.byt i=V.byt j)=(i.toList==j.toList):=by rw[Bl];cases i;cases j;simp
def qH(I:bS X c Y H s)(q:Q (.b k) H)(e:k=a):EP X c Y Q (.bool a) s:=by subst e;calc⟨.b k,H,I,rfl,q⟩
theorem JP:fU X (jH .NotEq) UN:=by
 intro f s Y H x y v u Q I e a h;let⟨d,q⟩:=h;cases x with
 |n=>
  cases e;cases y with
  |n=>cases a;calc cD5 (qH I q cS)|b j=>cases a;calc cD6 (qH I q cS)|int j=>let⟨c,rfl⟩:=a;calc cE1 (qH I q cS)|str j=>let⟨c,rfl⟩:=a;calc cE2 (qH I q cS)|_=>calc dD (show bJ=bF from d) wQ
 |b i=>
  cases e;cases y with
  |n=>cases a;calc cD7 (qH I q cS)|b j=>cases a;calc ne_bool (qH I q (jZ not UP))|str j=>let⟨c,rfl⟩:=a;calc cD8 (qH I q cS)|_=>calc dD (show bJ=bF from d) wQ
 |int i=>
  let⟨t,rfl⟩:=e;cases y with
  |n=>cases a;calc cE3 (qH I q cS)|int j=>let⟨c,rfl⟩:=a;calc ne_int (qH I q (jZ not UO))|str j=>let⟨c,rfl⟩:=a;calc cE4 (qH I q cS)|_=>calc dD (show bJ=bF from d) wQ
 |str i=>
  let⟨t,rfl⟩:=e;cases y with
  |n=>cases a;calc cE5 (qH I q cS)|b j=>cases a;calc cD9 (qH I q cS)|int j=>let⟨c,rfl⟩:=a;calc cE6 (qH I q cS)|str j=>let⟨c,rfl⟩:=a;calc ne_str (qH I q (jZ not UQ))|_=>calc dD (show bJ=bF from d) wQ
 |byt i=>
  let⟨t,rfl⟩:=e;cases y with
  |byt j=>let⟨c,rfl⟩:=a;calc W.ne_bytes (qH I q (jZ not UR))|_=>calc dD (show bJ=bF from d) wQ
 |_=>cases y<;>calc dD (show bJ=bF from d) wQ
def US:fU X (jH .Lt) (bj λi j=>.b (cE (i<j))):=Cq λ_ _ _ _ _ _ _ q=>lt_int q
def UT:fU X (jH .LtE) (bj λi j=>.b (cE (i<=j))):=Cq λ_ _ _ _ _ _ _ q=>le_int q
def UU:fU X (jH .Gt) (bj λi j=>.b (cE (j<i))):=Cq λ_ _ _ _ _ _ _ q=>gt_int q
def UV:fU X (jH .Lt) (λx y H Q=>∃i j,x= .str i/\y= .str j/\Q (.b (cE (i.cps.toList<j.cps.toList))) H):=by intro d s Y H x y v u Q I a c h;let⟨i,j,rfl,rfl,q⟩:=h;let⟨t,rfl⟩:=a;let⟨e,rfl⟩:=c;calc lt_str (qH I q rfl)
def UW:fU X (jH .Is) (λx y H Q=>y= .n/\Q (.b (cE (x= .n))) H):=by
 intro d s Y H x y v u Q I a c h;let⟨rfl,q⟩:=h;cases c;refine is_none_gen (qH I q ?_)
 cases x<;>first
  | (cases a;rfl)
  | (let⟨t,rfl⟩:=a;rfl)
def UX:fU X (jH .IsNot) (λx y H Q=>y= .n/\Q (.b (!cE (x= .n))) H):=by
 intro d s Y H x y v u Q I a c h;let⟨rfl,q⟩:=h;cases c;refine isnot_none_gen (qH I q ?_)
 cases x<;>first
  | (cases a;rfl)
  | (let⟨t,rfl⟩:=a;rfl)
def UY(b)(h:a≠ .In:=by decide)(h2:a≠ .NotIn:=by decide):wT a b=bJ:=by
 let c:(a==CmpOp.In)=bJ:=by cases a<;>first|rfl|exact dD bQ h
 let d:(a==CmpOp.NotIn)=bJ:=by cases a<;>first|rfl|exact dD bQ h2
 cases b<;>simp[wT,c,d]
def JQ(j:fU X (jH c) r)(f:PE X a ta)(g:PE X b tb)(i:wT c b=bJ):PE X (.Compare a [c] [b] pos) (qi r ta tb):=by intro k s Y H Q I h;calc wpAny_Compare1 (Ck f g I h λv u n x y d e l m q=>j k n Y d x y v u Q e l m q) i
noncomputable def JR(t:TE):TT:=λY H Q=>t Y H λx a=>∃k,x= .b k/\Q k a
def Cs(t:fU X (jH d) r)(o:PE X a ta)(p:PE X b tb)(q:wT d b=bJ):PT X (.Compare a [d] [b] pos) (JR (qi r ta tb)):=by
 intro f s Y H Q I h
 refine wpAny_isTrue_Compare1 (dA (o f s Y H _ I h) λv G ⟨x,g,l,C,w⟩=>dA (p f G Y g _ l w) λu K ⟨y,i,m,E,A⟩=>
  dA (t f K Y i x y v u _ m C E A) λc M ⟨z,j,n,F,k,e,B⟩=>?_) q
 subst e;cases F;calc dr ⟨j,n,B⟩
noncomputable def Ct(r f:R2)(g tb h:TE):TE:=λY H Q=>g Y H λx c=>tb Y c λy d=>r x y d λz a=>∃k,z= .b k/\
 (if k=bF then h Y a λi e=>f y i e Q else Q (.b bJ) a)
def UZ(M:fU X (jH j) r)(i:fU X (jH f) o)(E:PE X a ta)(F:PE X b tb)(G:PE X c tc)(K:wl [j,f] [b,c]=false:=by with_unfolding_all rfl):PE X (.Compare a [j,f] [b,c] pos) (Ct r o ta tb tc):=by
 intro g s Y H Q I h
 refine Compare_chain (dA (E g s Y H _ I h) λv s1 ⟨x,q,A,T,N⟩=>chain_link (dA (F g s1 Y q _ A N) λu s2 ⟨y,t,B,p,O⟩=>
  dA (M g s2 Y t x y v u _ B T p O) λd s3 ⟨z,l,m,W,k,e,n⟩=>?_)) K
 subst e;cases W;refine dr ?_;cases k with
 |false=>calc ite_ff ⟨.b false,l,m,rfl,n⟩|true=>calc ite_tt (chain_last (dA (G g s3 Y l _ m n) λw' s4 S=>by let⟨z',w,C,Z,P⟩:=S;calc i g s4 Y w y z' u w' Q C p Z P))
def U0(S:fU X (jH j) r)(i:fU X (jH f) o)(M:PE X a ta)(N:PE X b tb)(O:PE X c tc)(P:wl [j,f] [b,c]=false:=by with_unfolding_all rfl):PT X (.Compare a [j,f] [b,c] pos) (JR (Ct r o ta tb tc)):=by
 intro g s Y H Q I h
 refine isTrue_chain (dA (M g s Y H _ I h) λv s1 ⟨x,q,B,r1,W⟩=>test_link (dA (N g s1 Y q _ B W) λu s2 ⟨y,t,C,p,Z⟩=>
  dA (S g s2 Y t x y v u _ C r1 p Z) λd s3 ⟨z,l,m,r3,k,e,n⟩=>?_)) P
 subst e;cases r3;refine dr ?_;cases k with
 |false=>let⟨k',G,T⟩:=n;cases G;calc ite_ff ⟨l,m,T⟩|true=>refine ite_tt (test_last (dA (O g s3 Y l _ m n) λw' s4 ⟨z',w,E,r4,q4⟩=>dA (i g s4 Y w y z' u w' _ E p r4 q4) λd' s5 qz=>?_));let⟨z2,A,F,r5,k2,K,q5⟩:=qz;subst K;cases r5;calc dr ⟨A,F,q5⟩
def Cu(K:cG)(x:V)(H:Hp)(k:bW):Prop:=
 match x with
 | .n=>k=bJ| .b b=>k=b| .int i=>k=(i != 0)| .str y=> ~~~y<=cR/\k=((~~~y:bH) != 0)| .byt y=>y.size<=cR/\k=((y.size:bH) != 0)| .ref p=>(∃c,jA K H p c/\k= !c.isEmpty)\/(∃c,kJ K H p c/\k= !c.isEmpty)\/ ∃a,H p=L (.dK a)/\k= !a.isEmpty|_=>hI
def U1{κ:Type}{kvs:J (κ×V)}{vs:J (κ×bK)}(r:KV kvs vs):(!vs.isEmpty)= !kvs.isEmpty:=by cases r<;>rfl
def JS(r:dR xs its):(!its.toArray.isEmpty)= !xs.isEmpty:=by cases r<;>simp
def me:(cR:bD)<2^63:=by rw[vA];decide
theorem U2:UA X (λx H Q=>∃k,Cu X.K x H k/\Q k H):=by
 intro E s Y H x v Q I g h;let⟨k,e,q⟩:=h;let B:=me;let C:cR=16777216:=vA;cases x with
 |n=>cases g;let a:k=bJ:=e;subst a;calc truthy_none ⟨H,I,q⟩|b b=>cases g;let a:k=b:=e;subst a;calc dr ⟨H,I,q⟩|int i=>let⟨t,rfl⟩:=g;let a:k=(i != 0):=e;subst a;calc PySem.P.truthy_int ⟨H,I,q⟩|str y=>let⟨t,rfl⟩:=g;let⟨A,a⟩: ~~~y<=cR/\k=((~~~y:bH) != 0):=e;subst a;calc PySem.P.truthy_str bZ ⟨H,I.tok _,q⟩|byt y=>let⟨t,rfl⟩:=g;let⟨A,a⟩:y.size<=cR/\k=((y.size:bH) != 0):=e;subst a;calc W.truthy_bytes bZ ⟨H,I.tok _,q⟩|ref p=>
  cases g;let a:(∃f,jA X.K H p f/\k= !f.isEmpty)\/(∃f,kJ X.K H p f/\k= !f.isEmpty)\/ ∃c,H p=L (.dK c)/\k= !c.isEmpty:=e;rcases a with⟨f,j,a⟩|⟨f,j,a⟩|⟨c,j,a⟩
  .subst a;let⟨o,r,pl,u⟩:=I.list j;let d:=r.length;exact wpAny_truthy_list pl.isList (by dsimp[hY];lia) ⟨H,I.tok _,by rw[JS r];calc q⟩
  .subst a;let⟨o,r,pl,u⟩:=I.tuple j;let d:=r.length;exact truthy_tuple pl (by dsimp[hY];lia) ⟨H,I.tok _,by rw[JS r];calc q⟩
  subst a;let⟨u,z,l,r,m⟩: ~~~c<=cR/\(p==vC)=bJ/\ ∃l,KV c l/\s.heap.DictOf (kA X.prog X.w) p l:=I.hok p _ j;let d: ~~~c= ~~~l:=kx r;calc wpAny_truthy_dict z m bZ ⟨H,I.tok _,by rw[U1 r];calc q⟩
 |_=>calc(show hI from e).elim
def U3(g:PE X a ta)(he:∀b,isTrue a X.env b=(do let v <-b;lu a.pos;ag [v] (B6 v))):
 PT X a (λY H Q=>ta Y H λx c=>∃k,Cu X.K x c k/\Q k c):=by
 intro d s Y H Q I h;calc isTrue_plain (dA (g d s Y H _ I h) λv m j=>by let⟨x,e,f,l,i⟩:=j;calc U2 d m Y e x v Q f l i) (he _)
def U4:fU X (pN .Add) (λx y H Q=>∃i j,x= .str i/\y= .str j/\~~~i+ ~~~j<=cR/\Q (.str (i++j)) H):=by intro e s Y H x y v u Q I b c h;let⟨i,j,rfl,rfl,a,q⟩:=h;let⟨t,rfl⟩:=b;let⟨d,rfl⟩:=c;calc add_str (λd f=>⟨.str (i++j),H,I.tok _,⟨_,rfl⟩,q⟩) a
def pR(r:dR [x] us):∃u,us= [u]/\dM x u:=by
 cases r with
 |cons a b=>cases b;calc⟨_,rfl,a⟩
def xj(r:dR [x,y] us):∃u a,us= [u,a]/\dM x u/\dM y a:=by
 cases r with
 |cons b c=>
  cases c with
  |cons d e=>cases e;calc⟨_,_,rfl,b,d⟩
def U5(b:X.calm=bF):jL X (.builtin "max") (λxs H Q=>∃i j,xs= [.int i,.int j]/\Q (.int (if j>i then j else i)) H):=by
 intro d s Y H xs g Q I r h;let⟨i,j,rfl,q⟩:=h;let⟨u,l,rfl,⟨t,rfl⟩,⟨e,rfl⟩⟩:=xj r;refine max_two_ints (I.ok.hd b) λc f k=>⟨_,H,I.kept k,?_,q⟩
 by_cases a:j>i
 .rw[cK a,cK a];exact⟨_,rfl⟩
 rw[cX a,cX a];calc⟨_,rfl⟩
def U6(b:X.calm=bF):jL X (.builtin "min") (λxs H Q=>∃i j,xs= [.int i,.int j]/\Q (.int (if j<i then j else i)) H):=by
 intro d s Y H xs g Q I r h;let⟨i,j,rfl,q⟩:=h;let⟨u,l,rfl,⟨t,rfl⟩,⟨e,rfl⟩⟩:=xj r;refine min_two_ints (I.ok.hd b) λc f k=>⟨_,H,I.kept k,?_,q⟩
 by_cases a:j<i
 .rw[cK a,cK a];exact⟨_,rfl⟩
 rw[cX a,cX a];calc⟨_,rfl⟩
def JT:jL X (.type "int") (λxs H Q=>(∃i,xs= [.int i]/\Q (.int i) H)\/ ∃k,xs= [.b k]/\Q (.int (if k then 1 else 0)) H):=by
 intro c s Y H xs d Q I r h;rcases h with⟨i,rfl,q⟩|⟨k,rfl,q⟩
 .let⟨u,rfl,t,rfl⟩:=pR r;exact call_int_int ⟨.int i,H,I,⟨_,rfl⟩,q⟩
 let⟨u,rfl,a⟩:=pR r;cases a;calc call_int_bool ⟨.int (if k then 1 else 0),H,I.tok _,⟨_,rfl⟩,q⟩
def U7:jL X (.type "str") (λxs H Q=>∃i,xs= [.int i]/\i.natAbs.log2<1920/\Q (.str (zY i)) H):=by intro b s Y H xs c Q I r h;let⟨i,rfl,a,q⟩:=h;let⟨u,rfl,t,rfl⟩:=pR r;calc PySem.P.str_of_int a ⟨.str _,H,I.tok _,⟨_,rfl⟩,q⟩
structure iE(h:cH)(x dx C:bI)(mA:U->bR bK):Prop where
 obj:h.get? x=L (g7 C dx)
 ns:h.Ns1 dx mA
 ne:dx≠x
def U8{h:cH}(n:h.Ns1 c mA):∃f,h.get? c=L f/\ ∀name,BP name f=L (mA name):=by
 let⟨o,d,p,l,i,j,_,k⟩:=n;refine⟨o,l,λname=>?_⟩;let e:=k name;delta nsFind B7 at e;rw[<-A7]at e;delta BP;rw[i];dsimp only;split
 .rename_i y q;rw[q]at e;exact jZ L e
 rename_i q;rw[q]at e;let a:d.toList.any (·.refKey)=bJ:=by
  rw[Ry];intro y m;let⟨z,t,b⟩:=j y (Array.mem_toList_iff.mp m);simp[DictEntry.refKey,b]
 let g: ¬ d.toList.any (·.refKey)=bF:=by rw[a];exact wQ
 rw[cX g];calc jZ L e
def iE.look(I:iE h x b C mA):∃a,W.InstAt h x (g7 C b) C (L a)/\ ∀name,BP name a=L (mA name):=
 let ⟨a,ho,hl⟩:=U8 I.ns
 ⟨a,⟨I.obj,rfl,rfl,ho⟩,hl⟩
section
variable{prog:fH}{w:cD}{A:gW}{E:bK->bT->Prop}{s:bT}{K:cG}{x dx C f:bI}{mA:U->bR bK}{name:U}{v:bK}
theorem U9{Q:bK->bT->Prop}(X:K.In s.heap)(I:iE s.heap x dx C mA)(e:gx K C name=bF)(f:gq K C=bF)(d:nS K (.ref C) name=L bL)(i:mA name=L v)(c:W.handedIn v=bF)(h:Q v {s with toks:=s.toks+1}):
 (A>>>(getAttr (.ref x) name b)) Q E s:=by
 let⟨j,a,g⟩:=I.look;calc W.get_value X a (H4 e).1 (W.findObj_own f d bQ (by rw[g,i])) c h
theorem Va{Q:bK×J bK->bT->Prop}(X:K.In s.heap)(I:iE s.heap x dx C mA)(b:gx K C name=bF)(c:nS K (.ref C) name=L (L (.ref f)))(e:aj K (.ref f)=bF)(g:mA name=bL)(h:Q (.ref f,[.ref x]) s):
 (A>>>(wm (.ref x) name pl)) Q E s:=by
 let⟨i,a,d⟩:=I.look;calc W.method_fn X a (H4 b).1 (H4 b).2 c (mX.mp e) (by show(BP name i).map (·.isSome)=L bJ;rw[d,g];rfl) h
theorem Vb{Q:mY->bT->Prop}(X:K.In s.heap)(I:iE s.heap x dx C mA)(hs:nS K (.ref C) "__setattr__" =L (L (.builtin "object.__setattr__")))(n:o9 K C=bF)(o:Jc K C name=L bL)(m:gq K C=bF)(p:Im mA ns)(hsz: ~~~ns<=cR)(h:∀h',iE h' x dx C (λy=>if y=name then L v else mA y)->nY dx s.heap h'->Q () {s with heap:=h',toks:=s.toks+2}):
 (A>>>(setAttr (.ref x) name v)) Q E s:=by
 let⟨B,c,u⟩:=I.look;refine W.set_plain X c hs (W.osa_open (s:={s with toks:=s.toks+1}) (r:=bL) X c n o λb=>?_);let⟨t,l,g⟩:=W.any_some m;let q:s.heap.get? x=L ⟨.ref C,L dx,.plain, #[]⟩:=I.obj;refine bV (cT (bV (bV (wpAny_loadPart q (bV (W.Looks.here (s:={s with toks:=s.toks+1}) (W.looks_clsIn X l) ?_))))));rw[g];refine cT (a:=L dx) (bV (cT (bV ?_)));refine wpAny_nsSet1 (s:={s with toks:=s.toks+1}) I.ns λh' d e=>?_
 let⟨z,k,j,i,hdD,f⟩:=d.count (cG8 name v p);refine bV (wpAny_lookBehind i (by rw[hdD];calc pastItsLine_dict (hE f (by rw[dB];lia))) ?_);calc cT (h _ ⟨(e.2 _ (ip I.ne)).trans I.obj,d,I.ne⟩ e)
theorem Vc{R:pw->bT->Prop}(X:K.In s.heap)(e:ph K C=bF)(c:nS K (.ref C) "__init__" =L (L (.ref f)))(b:pq K (.ref f)=L (.type "function"))(h:codeAny (bY prog w) (A.under (.builtin "type.__call__" ⟨.ref C::vs,kw⟩)) (.call (.ref f) ⟨.ref (s⁻¹+1)::vs,kw⟩) (W.InitBack (s⁻¹+1) R)
   {s with heap:=(s.heap.push ej).push (g7 C s⁻¹)}):
 codeAny (bY prog w) A (.call (.ref C) ⟨vs,kw⟩) R s:=by
 let⟨i,g,d,t,j⟩:=s;calc W.make_core (W.makes_of X e) (W.looks_findIn X c) (λa=>W.bind_fn X a b) (.inl bQ) h
end
noncomputable def kZ(f:U)(v:V):J (U×V)->J (U×V)| []=>[(f,v)]| (g,x)::r=>if g=f then(g,v)::r else(g,x)::kZ f v r
theorem JU(f g)(v):∀fs:J (U×V),(kZ f v fs).lookup g=if g=f then L v else fs.lookup g
 | []=>by
  show ek g [(f,v)]=_;by_cases h:g=f
  .let a:(g==f)=bF:=mX.mpr h;dsimp[ek,a,cK h]
  let a:(g==f)=bJ:=lT.mpr h;dsimp[ek,a,cX h]
 | (k,x)::r=>by
  let c:=JU f g v r;rw[show kZ f v ((k,x)::r)=(if k=f then(k,v)::r else(k,x)::kZ f v r)from bQ];by_cases b:k=f
  .rw[cK b];by_cases h:g=k
   .let a:(g==k)=bF:=mX.mpr h;dsimp[ek,a,cK (h.trans b)]
   let a:(g==k)=bJ:=lT.mpr h;dsimp[ek,a,cX (λe:g=f=>h (e.trans b.symm))]
  rw[cX b];by_cases h:g=k
  .let a:(g==k)=bF:=mX.mpr h;dsimp[ek,a,cX (λe:g=f=>b (h.symm.trans e))]
  let a:(g==k)=bJ:=lT.mpr h;dsimp[ek,a];calc c
theorem Cv(f)(v):∀fs:J (U×V),f∈(kZ f v fs).map (·.1)/\ ∀g,g∈fs.map (·.1)->g∈(kZ f v fs).map (·.1)
 | []=>⟨by simp[kZ],λg h=>by simp at h⟩| (k,x)::r=>by
  let⟨b,c⟩:=Cv f v r;rw[show kZ f v ((k,x)::r)=(if k=f then(k,v)::r else(k,x)::kZ f v r)from bQ];by_cases a:k=f
  .rw[cK a];subst a;exact⟨cS,λg h=>by simpa using h⟩
  rw[cX a];refine⟨?_,λg h=>?_⟩
  .rw[fY];exact fM _ b
  rw[fY]at h|-;rcases jJ.mp h with e|e
  .exact jJ.mpr (.inl e)
  calc fM _ (c g e)
theorem JV(f)(v):∀fs:J (U×V),~~~(kZ f v fs)<= ~~~fs+1
 | []=>by simp[kZ]| (k,x)::r=>by
  let b:=JV f v r;rw[show kZ f v ((k,x)::r)=(if k=f then(k,v)::r else(k,x)::kZ f v r)from bQ];by_cases a:k=f
  .rw[cK a,dB,dB];lia
  rw[cX a,dB,dB];lia
def RelO.some_of(r:RelO (some v) o):∃u,o=some u/\dM v u:=by
 cases o with
 |none=>calc(show hI from r).elim|some u=>calc⟨u,rfl,r⟩
def RelO.none_of(r:RelO none o):o=none:=by
 cases o with
 |none=>rfl|some u=>calc(show hI from r).elim
theorem Vd(r:dM v u):W.handedIn u=bF:=by
 cases v with
 |n=>cases(show u=zW from r);rfl|b b=>cases(show u=IJ b from r);rfl|int i=>let⟨t,e⟩:=(show ∃t,u=lc i t from r);cases e;rfl|str x=>let⟨t,e⟩:=(show ∃t,u=g5 x t from r);cases e;rfl|byt b=>let⟨t,e⟩:=(show ∃t,u=SX b t from r);cases e;rfl|flt b=>let⟨t,e⟩:=(show ∃t,u=SY b t from r);cases e;rfl|ref a=>cases(show u=lD a from r);rfl|ty n=>cases(show u=gw n from r);rfl
def Cw(b:kB P w H h)(e:H a=L (.ins C dx fs)):∃mA,iE h a dx C mA/\(∀f,RelO (fs.lookup f) (mA f))/\Im mA (fs.map (·.1))/\~~~fs<=1000/\H dx=L (.own a):=by let⟨d,z,c,ob,mA,n,r,q⟩:=(show nD P w H h a (.ins C dx fs)from b a _ e);calc⟨mA,⟨ob,n,c⟩,r,q,z,d⟩
structure qQ(K:cG)(C:bI):Prop where
 pg:gx K C wn=bF
 hd:gq K C=bF
 po:o9 K C=bF
 sa:nS K (.ref C) "__setattr__" =L (L (.builtin "object.__setattr__"))
def qQ.get{K:cG}(c:qQ K C)(f):gx K C f=bF:=c.pg
def xF(K:cG)(C:bI)(f:U):Prop:=nS K (.ref C) f=L bL
def xF.taker{K:cG}(n:xF K C f):Jc K C f=L bL:=by delta Jc;rw[show nS K (.ref C) f=L bL from n];rfl
structure Con(K:cG)(C:bI)(f:U)(v:V)(u:bK):Prop where
 at_:nS K (.ref C) f=L (L u)
 rel:dM v u
 get:Bw K u "__get__" =L bL
 cp:W.copiedNames.contains f=bJ
structure wC(K:cG)(C:bI)(m:U)(f:bI):Prop where
 at_:nS K (.ref C) m=L (L (.ref f))
 fn:aj K (.ref f)=bF
 kp:lE K (.ref f)=bF
section
variable{X:Cx}{pe:J (bI×cY)}{Y:St}{H:Hp}{s:bT}{a C dx:bI}{fs:J (U×V)}{f:U}{v:V}{A:gW}{E:bK->bT->Prop}
def JW{Q:bK->bT->Prop}(I:bS X pe Y H s)(e:H a=L (.ins C dx fs))(c:qQ X.K C)(n:xF X.K C f)(l:fs.lookup f=L v)(h:∀u s',bS X pe Y H s'->dM v u->Q u s'):wpAny (bY X.prog X.w) A (getAttr (.ref a) f b) Q E s:=by
 let⟨mA,g,r,_,_,_⟩:=Cw I.hok e;let⟨u,i,d⟩:=RelO.some_of (v:=v) (o:=mA f) (by rw[<-l];calc r f);calc U9 I.kIn g (c.get f) c.hd n i (Vd d) (h u _ (I.tok _) d)
def JX{Q:bK×J bK->bT->Prop}(I:bS X pe Y H s)(e:H a=L (.ins C dx fs))(c:qQ X.K C)(k:wC X.K C m g)(l:fs.lookup m=bL)(h:Q (.ref g,[.ref a]) s):wpAny (bY X.prog X.w) A (wm (.ref a) m pl) Q E s:=by
 let⟨mA,b,r,_,_,_⟩:=Cw I.hok e;let d:mA m=bL:=RelO.none_of (by rw[<-l];calc r m);calc Va I.kIn b (c.get m) k.at_ k.fn d h
def JY{Q:mY->bT->Prop}(I:bS X pe Y H s)(e:H a=L (.ins C dx fs))(c:qQ X.K C)(n:xF X.K C f)(G: ~~~fs<1000)(B:dM y u)(h:∀s',bS X pe Y (upd H a (.ins C dx (kZ f y fs))) s'->Q () s'):wpAny (bY X.prog X.w) A (setAttr (.ref a) f u) Q E s:=by
 let⟨mA,i,r,k,_,j⟩:=Cw I.hok e;let v: ~~~(fs.map (·.1))<=cR:=by rw[cA,vA];lia
 refine Vb I.kIn i c.sa c.po n.taker c.hd k v λl d F=>h _ ?_
 let p:∃o,l.get? dx=L o:=let ⟨o,_,_,e',_⟩:=d.ns;⟨o,e'⟩;refine I.write (x:=a) (e:=dx) (by rw[e];calc el) (.inr j) (λb q m z=>(F.2 b m).trans z) p ?_;refine⟨by rw[fK i.ne];calc j,?_,i.ne,d.obj,_,d.ns,λg=>?_,λg t=>?_⟩
 .have:=JV f y fs;lia
 .show RelO ((kZ f y fs).lookup g) (if g=f then L u else mA g);rw[JU];by_cases q:g=f
  .rw[cK q,cK q];exact B
  rw[cX q,cX q];exact r g
 by_cases q:g=f
 .rw[q];exact(Cv f y fs).1
 refine(Cv f y fs).2 g (k g λz=>t ?_);show(if g=f then L u else mA g)=bL;rw[cX q];calc z
def bS.made(I:bS X pe Y H s):bS X pe Y (upd (upd H s⁻¹ (.own (s⁻¹+1))) (s⁻¹+1) (.ins C s⁻¹ []))
 {s with heap:=(s.heap.push ej).push (g7 C s⁻¹)}:=by
 let c:(s.heap.push ej).get? s⁻¹=L ej:=lC s.heap rfl;let g:((s.heap.push ej).push (g7 C s⁻¹)).get? (s⁻¹+1)=L (g7 C s⁻¹):=by
  have:=lC (s.heap.push ej) (o:=g7 C s⁻¹) rfl
  rwa [yJ]at this
 let h:(s.heap.push ej).Ns s⁻¹ (λ_=>bL):=⟨ej, #[],_,c,rfl,(λe i=>absurd i cS),λ_=>rfl⟩;let f:=I.laid (a:=s⁻¹) (o:=.own (s⁻¹+1)) (h':=s.heap.push ej) (t':=s.toks) (λb u q=>gF _ q) (cU _) ⟨_,c⟩;refine f.laid (a:=s⁻¹+1) (o:=.ins C s⁻¹ []) (t':=s.toks) (λb u q=>gF _ q) (Io (yJ _ _)) ?_;let d:s⁻¹≠s⁻¹+1:=hJ (Bf _);refine⟨by rw[fK d,gI],lL _,d,g,λ_=>bL,(Heap.Ns1.of_empty h).at λo q=>gF _ q,λ_=>el,λy j=>absurd rfl j⟩
def Ve{Q:bK->bT->Prop}(a:zS e f env (fP e env)=fP e env)(h:(A>>>(fP e env)) (λo s₁=>(A>>>(getAttr o f bF)) Q E s₁) E s):(A>>>(fP (.Attribute e f pos) env)) Q E s:=
 Attribute_any_ h (by rw[arm_eval_Attribute,a])
end
noncomputable def Vf(K:cG)(e:TE)(f:U):TE:=λY H Q=>e Y H λx b=>∃a C d c v,x= .ref a/\b a=L (.ins C d c)/\qQ K C/\xF K C f/\c.lookup f=L v/\Q v b
def Vg(K:cG)(g h:TE)(f:U):TS:=λD Y H=>h Y H λy e=>g Y e λx c=>∃a C d b,x= .ref a/\c a=L (.ins C d b)/\qQ K C/\xF K C f/\~~~b<1000/\
 D.nx Y (upd c a (.ins C d (kZ f y b)))
def JZ(X:Cx)(b:g9)(c:V->V->Hp->VK->Prop):Prop:=
 ∀(a:J (bI×cY)) (s:bT) (Y:St) (H:Hp) (x y:V) (u v:bK) (Q:VK),bS X a Y H s->dM x u->dM y v->c x y H Q->(X>>>(BE b u v)) (EP X a Y Q) X.xe s
def Vh(K:cG)(k l:TE)(j:V->V->Hp->VK->Prop)(f:U):TS:=λD Y H=>k Y H λx d=>∃a C i g v,x= .ref a/\d a=L (.ins C i g)/\qQ K C/\xF K C f/\g.lookup f=L v/\
 l Y d λy h=>j v y h λz e=>∃c b,e a=L (.ins C c b)/\~~~b<1000/\D.nx Y (upd e a (.ins C c (kZ f z b)))
def xk(he:PE X e ta)(k:zS e f X.env (fP e X.env)=fP e X.env):PE X (.Attribute e f pos) (Vf X.K ta f):=by intro m s Y H Q I h;refine Ve k (dA (he m s Y H _ I h) λu y o=>?_);let⟨x,b,d,r,a,C,t,w,v,j,i,c,n,l,q⟩:=o;subst j;obtain rfl:u=lD a:=r;calc JW d i c n l λA z g p=>⟨v,b,g,p,q⟩
def iF(m:PE X o ta)(p:PE X value tv)(hs:em value (L (.Attribute o f pos')) pos.line X.env=dX bJ):PS X (.Assign [.Attribute o f pos'] value pos) (Vg X.K ta tv f):=by intro b s Y H D I h;refine plainObj_wpAny_Assign_Attribute (dA (p b s Y H _ I h) λu A ⟨y,d,e,z,q⟩=>dA (m b A Y d _ e q) λr G v=>?_) hs;let⟨x,B,g,w,a,C,E,F,k,j,c,n,l,t⟩:=v;subst k;obtain rfl:r=lD a:=w;calc JY g j c n l z λM i=>⟨Y,_,i,t⟩
def J1{j:V->V->Hp->VK->Prop}(M:PE X o ta)(N:PE X value tv)(d:JZ X i j):PS X (.AugAssign (.Attribute o f tpos) i value pos) (Vh X.K ta tv j f):=by
 intro e s Y H D I h;refine wpAny_AugAssign_AttributeAny (dA (M e s Y H _ I h) λP s1 g=>?_);let⟨x,k,p,W,a,C,dx,fs,v,F,E,c,n,l,q⟩:=g;subst F;obtain rfl:P=lD a:=W;refine JW p E c n l λu s2 r T=>dA (N e s2 Y k _ r q) λw3 s3 ⟨y,m,t,Z,Q⟩=>dA (d e s3 Y m v y u w3 _ t T Z Q) λw4 s4 g=>?_
 let⟨z,H3,w,rz,B,G,b,O,S⟩:=g;calc JY w b c n O rz λs5 A=>⟨Y,_,A,S⟩
def Vi:V->V->Hp->VK->Prop:=λx y H Q=>∃i j,x= .int i/\y= .int j/\Q (.int (i+j)) H
def J2:JZ X .Add Vi:=by rintro d s Y H x y u v Q I b c ⟨i,j,rfl,rfl,q⟩;let⟨t,rfl⟩:=(show ∃t,u=lc i t from b);let⟨a,rfl⟩:=(show ∃a,v=lc j a from c);calc R5 ⟨.int (i+j),H,I.tok _,⟨_,rfl⟩,q⟩
section
variable{X:Cx}{pe:J (bI×cY)}{Y:St}{H:Hp}{s:bT}{A:gW}{E:bK->bT->Prop}{Q:bK->bT->Prop}{c:bK}{b:bW}
end
structure fZ(k:bD)(A:gW):Prop where
 hd:A.handled=bL
 dp:A.depth+3*k+5<R6
 un:A.units+16*k+200<jU
def fZ.mono(r:fZ k A)(h:j<=k):fZ j A:=⟨r.hd,by have:=r.dp;lia,by have:=r.un;lia⟩
def fZ.deeper(r:fZ (k+1) A)(env):fZ k (A.deeper env):=
 ⟨r.hd,by have:=r.dp;show A.depth+1+3*k+5<_;lia,by have:=r.un;show A.units+3+16*k+200<_;lia⟩
def Vj{A:gW}:(A.under (.builtin "type.__call__" ⟨.ref C::us,kw⟩)).depth=A.depth+1:=by first|rfl|simp[Ip,Code.weight,Code.isCreation,Code.isGuard,Code.isCaller,SZ,Ir,guardIds]
def Vk{A:gW}:(A.under (.builtin "type.__call__" ⟨.ref C::us,kw⟩)).units=A.units+1:=by first|rfl|simp[Ip,Code.cUnits,SZ,Ir]
def fZ.make(r:fZ (k+1) A)(C)(us)(kw):fZ k (A.under (.builtin "type.__call__" ⟨.ref C::us,kw⟩)):=
 ⟨r.hd,by have:=r.dp;rw[Vj];lia,by have:=r.un;rw[Vk];lia⟩
def fZ.depth(r:fZ k A):A.depth<R6:=by have:=r.dp;lia
def fZ.units(r:fZ k A):A.units+64<jU:=by have:=r.un;lia
noncomputable def Cy:TA:=λ_ H Q=>Q [] H
noncomputable def Vl(c:TE)(d:TA):TA:=λY H Q=>c Y H λx a=>d Y a λe b=>Q (x::e) b
def pS:PA X [] Cy:=λ_ _ _ _ H Q I h=>v4 ⟨[],H,I,.nil,h⟩
def lB(i:PE X e te)(j:PA X es t)(hs:gG (e::es) X.env=(bJ,fP e X.env)::gG es X.env:=by rfl):PA X (e::es) (Vl te t):=by intro pos b s Y H Q I h;rw[hs];show wpAny _ _ (spliced ((bJ,fP e X.env)::lV pos (gG es X.env))) _ _ s;refine ge (dA (i b s Y H _ I h) λu o a=>?_);let⟨x,c,f,m,k⟩:=a;calc dA (j pos b o Y c _ f k) λr q a=>by let⟨p,d,g,n,l⟩:=a;calc⟨x::p,d,g,.cons m n,l⟩
def Vm(t:TA):TE:=λY H Q=>t Y H λb a=> ~~~b<=cR/\ ∀p,a p=bL->Q (.ref p) (upd a p (.t b))
def Vn(t:TA):TE:=λY H Q=>t Y H λb a=> ~~~b<=cR/\ ∀p,a p=bL->Q (.ref p) (upd a p (.l b))
def J3{x1}(h:PA X es t):PE X (.Tuple es x1 pos) (Vm t):=by intro i s Y H Q I g;refine wpAny_Tuple_spliced (dA (h pos i s Y H _ I g) λj a ⟨k,c,d,r,z,q⟩=>⟨by rw[<-r.length];calc z,?_⟩);let f:c a⁻¹=bL:=d.hok.fresh (cU _);refine⟨.ref a⁻¹,upd c a⁻¹ (.t k),d.laid (t':=a.toks) (λb u e=>gF _ e) (cU _) ?_,rfl,q _ f⟩;calc⟨z,j,r,⟨_,lC _ bQ,⟨rfl,rfl⟩,_,rfl⟩⟩
def xl(h:PA X es t):PE X (.List es pos) (Vn t):=by intro i s Y H Q I g;refine wpAny_List_spliced (dA (h pos i s Y H _ I g) λj a ⟨k,c,d,r,z,q⟩=>⟨by rw[<-r.length];calc z,?_⟩);let f:c a⁻¹=bL:=d.hok.fresh (cU _);refine⟨.ref a⁻¹,upd c a⁻¹ (.l k),d.laid (t':=a.toks) (λb u e=>gF _ e) (cU _) ?_,rfl,q _ f⟩;calc⟨z,j,0,r,lC _ bQ⟩
abbrev Sp:=J V->Hp->VK->XK->Prop
abbrev vG:=J jK->Hp->bT->XK->bK->bT->Prop
structure eC(P:fH)(w:cD)(K:cG)(mg:U->bR bK)(base:cH)(A:gW)(outer:J jK)(s:bT)(H:Hp):Prop where
 frames:A.frames=L outer
 mod:Mod K mg base
 bs:∀b o,base.get? b=L o->s.heap.get? b=L o/\H b=bL
 bsz:base.objs.size<=s⁻¹
 funs:s.heap.FunFrames base outer
 frf:∀b∈kC outer,H b=bL
 hok:kB P w H s.heap
 bare:af s.gens
inductive CE(outer:J jK)(P:fH)(w:cD)(H:Hp)(s:bT)(Q:VK)(u:bK)(s':bT):Prop
 |mk (v:_) (H':_) (_:s'.os=s.os) (_:af s'.gens) (_:Un (kC outer) [] H H' s.heap s'.heap) (_:kB P w H' s'.heap) (_:dM v u) (_:Q v H')
def CR(CX:vG)(outer:J jK)(P:fH)(w:cD)(H:Hp)(s:bT)(Q:VK)(E:XK)(r:pw)(s':bT):Prop:=
 match r with
 | .ok (.ret u)=>CE outer P w H s Q u s'| .ok _=>hI| .error e=>CX outer H s E e s'
structure fC(P:fH)(w:cD)(K:cG)(mg:U->bR bK)(base:cH)(CX:vG)(k:bD)(f:bI)(fd:fO)(ps:J U)(sp:Sp):Prop where
 len:∀vs H Q E,sp vs H Q E-> ~~~vs= ~~~ps
 run:∀(A:gW) (outer:J jK) (s:bT) (H:Hp) (args:Args) (us:J bK) (vs:J V) (Q:VK) (E:XK),fZ k A->eC P w K mg base A outer s H->pv s fd args (ps.zip us)->dR vs us->sp vs H Q E->
  codeAny (bY P w) A (.call (.ref f) args) (CR CX outer P w H s Q E) s
theorem fC.mono{K:cG}(F:fC P w K mg base CX j f fd ps c)(h:j<=k):
 fC P w K mg base CX k f fd ps c:=⟨F.len,λA a s H b e g Q E d=>F.run A a s H b e g Q E (d.mono h)⟩
theorem fC.imp{K:cG}(F:fC P w K mg base CX k f fd ps d)(h:∀vs H Q E,c vs H Q E->d vs H Q E):fC P w K mg base CX k f fd ps c:=
 ⟨λvs H Q E q=>F.len vs H Q E (h _ _ _ _ q),λA a s H b m vs Q E i g e l j=>F.run A a s H b m vs Q E i g e l (h _ _ _ _ j)⟩
def eC.make{K:cG}(e:eC P w K mg base A outer s H)(C)(us)(kw):
 eC P w K mg base (A.under (.builtin "type.__call__" ⟨.ref C::us,kw⟩)) outer s H:=⟨by first|calc e.frames| (simpa[Ip,Code.envs,Ir,pushEnvs]using e.frames),e.mod,e.bs,e.bsz,e.funs,e.frf,e.hok,e.bare⟩
def bS.env0(I:bS X pe Y H s):eC X.prog X.w X.K X.mg X.base X.A X.stack s H:=
 ⟨I.ok.frames,I.ok.mod,I.bs,hE I.ok.bsz I.sz,I.stack,I.stkFree,I.hok,I.bare⟩
def bS.after(I:bS X pe Y H s)(h:CE X.stack X.prog X.w H s Q u s'):EP X pe Y Q u s':=by let⟨v,f,j,a,k,c,r,q⟩:=h;let⟨i,g,d,t,e⟩:=s';obtain rfl:e=s.os:=j;calc⟨v,f,I.call (h':=i) (g':=g) (d':=d) (t':=t) (ch:=[]) k c a (λb z=>dD z cS),r,q⟩
noncomputable def Vo(c:Sp)(a:J V)(E:XK)(t:TA):TE:=λY H Q=>t Y H λd b=>c (d++a) b Q E
noncomputable def J4(C:bI)(m:U)(g:Sp)(b:J V)(E:XK)(h:TE)(t:TA):TE:=λY H Q=>h Y H λx c=>∃a f d,x= .ref a/\c a=L (.ins C f d)/\d.lookup m=bL/\
 t Y c λi e=>g (x::(i++b)) e Q E
def J5(C:bI)(e:Sp)(c:J V)(E:XK)(t:TA):TE:=λY H Q=>t Y H λf b=>∀x a,b x=bL->b a=bL->a≠x->
 e (.ref x::(f++c)) (upd (upd b a (.own x)) x (.ins C a [])) (λv d=>v= .n/\Q (.ref x) d) E
def jO(K:cG)(fd:fO)(ps:J U)(ds:J bK):Prop:=
 ∀(s:bT) (a:J bK),K.In s.heap-> ~~~(a++ds)= ~~~ps->pv s fd ⟨a,[]⟩ (ps.zip (a++ds))
def jO.all{K:cG}(h:∀us:J bK,~~~us= ~~~ps->BR fd ⟨us,[]⟩=dX (ps.zip us)):jO K fd ps []:=λs us _ a=>by rw[jF]at a|-;calc .of_eq (h us a)
def eD(CX:vG)(X:Cx)(E:XK):Prop:=∀(b:J (bI×cY)) (Y:St) (H:Hp) (s:bT) (e:bK) (a:bT),bS X b Y H s->CX X.stack H s E e a->X.xe e a
section
variable{X:Cx}{CX:vG}{k:bD}{f C:bI}{fd:fO}{ps:J U}{sp:Sp}{dvs:J V}{ds:J bK}{E:XK}{x m:U}{p pos apos:cW}{e o:bU}{es:J bU}{ta:TE}{t:TA}
theorem qj(F:fC X.prog X.w X.K X.mg X.base CX k f fd ps sp)(l:fZ k X.A)(g:jO X.K fd ps ds)(i:dR dvs ds)(m:eD CX X E)(I:bS X b Y H s)(r:dR vs us)(h:sp (vs++dvs) H Q E):(X>>>(call (.ref f) us)) (EP X b Y Q) X.xe s:=by
 let c:dR (vs++dvs) (us++ds):=r.append i;let j: ~~~(us++ds)= ~~~ps:=by rw[<-c.length];exact F.len _ _ _ _ h
 refine k8 (aY (F.run X.A X.stack s H ⟨us,[]⟩ (us++ds) (vs++dvs) Q E l I.env0 (g s us I.kIn j) c h) λr n a=>?_);cases r with
 |error e=>calc m b Y H s e n I a|ok d=>
  cases d with
  |ret u=>calc I.after a|next=>calc qP a|brk=>calc qP a|cont=>calc qP a
def mf(F:fC X.prog X.w X.K X.mg X.base CX k f fd ps sp)(n:fZ k X.A)(j:Gl X x)(m:X.mg x=L (.ref f))(l:lE X.K (.ref f)=bF)(g:jO X.K fd ps ds)(i:dR dvs ds)(o:eD CX X E)(d:PA X (e::es) t)(a:(x==("__debug__" :U))=bJ:=by decide)(he:gG (e::es) X.env=(bJ,fP e X.env)::gG es X.env:=by rfl)(b:(lV pos (gG es X.env)).any (·.1)=bJ:=by rfl):
 PE X (.Call (.Name x p) (e::es) [] pos) (Vo sp dvs E t):=by
 intro u s Y H Q I h;refine gf (ey I j m ?_ a);refine o6 (h₀:=X.base) I.ok.mod.kin l (dA (d pos u s Y H _ I h) λz y ⟨B,v,c,r,q⟩=>⟨c.kIn,?_⟩) he b;calc qj F n g i o c r q
def xm{pl:mZ bW}(he:PE X o ta)(c:qQ X.K C)(j:wC X.K C m f)(F:fC X.prog X.w X.K X.mg X.base CX k f fd ps sp)(N:fZ k X.A)(G:jO X.K fd ps ds)(M:dR dvs ds)(P:eD CX X E)(B:PA X (e::es) t)(d:gG (e::es) X.env=(bJ,fP e X.env)::gG es X.env:=by rfl)(b:(lV pos (gG es X.env)).any (·.1)=bJ:=by rfl)(O:fP (.Call (.Attribute o m apos) (e::es) [] pos) X.env=(do
   let n <-fP o X.env
   lu apos.atName
   let (f,first) <-ag [n] (wm n m pl)
   Ji pos f first (lV pos (gG (e::es) X.env)) (ie pos (gt [] X.env))):=by rfl):
 PE X (.Call (.Attribute o m apos) (e::es) [] pos) (J4 C m sp dvs E ta t):=by
 intro p s Y H Q I h;refine RS (pl:=pl) (dA (he p s Y H _ I h) λu Z T=>?_) O;let⟨x,v,g,W,a,dx,fs,z,y,l,q⟩:=T;subst z;obtain rfl:u=lD a:=W;refine JX g y c j l ?_;refine o6 (first:=[.ref a]) (h₀:=X.base) I.ok.mod.kin j.kp (dA (B pos p Z Y v _ g q) λus s2 ⟨vs,H2,i,r,S⟩=>⟨i.kIn,?_⟩) d b;calc qj (us:=.ref a::us) (vs:=.ref a::vs) F N G M P i (.cons rfl r) S
def Vp(he:PE X o ta)(c:qQ X.K C)(d:wC X.K C m f)(F:fC X.prog X.w X.K X.mg X.base CX k f fd ps sp)(p:fZ k X.A)(j:jO X.K fd ps ds)(n:dR dvs ds)(t:eD CX X E)(r:fP (.Call (.Attribute o m apos) [] [] pos) X.env=(do
   let e <-fP o X.env
   lu apos.atName
   let (f,first) <-ag [e] (wm e m pl)
   Ji pos f first (lV pos (gG [] X.env)) (ie pos (gt [] X.env))):=by rfl):
 PE X (.Call (.Attribute o m apos) [] [] pos) (J4 C m sp dvs E ta Cy):=by
 intro v s Y H Q I h;refine RS (pl:=pl) (dA (he v s Y H _ I h) λu N y=>?_) r;let⟨x,B,b,z,a,G,M,i,g,l,q⟩:=y;subst i;obtain rfl:u=lD a:=z;refine JX b g c d l ?_;calc Sx (first:=[.ref a]) b.kIn d.kp (qj (us:=[.ref a]) (vs:=[.ref a]) F p j n t b (.cons rfl .nil) q)
structure Mk(K:cG)(C f:bI):Prop where
 makes:ph K C=bF
 init:nS K (.ref C) "__init__" =L (L (.ref f))
 fn:aj K (.ref f)=bF
 kp:lE K (.ref C)=bF
theorem J6(M:Mk X.K C f)(F:fC X.prog X.w X.K X.mg X.base CX k f fd ps sp)(z:fZ (k+1) X.A)(q:jO X.K fd ps ds)(t:dR dvs ds)(B:eD CX X E)(I:bS X d Y H s)(r:dR vs us)(h:∀x c,H x=bL->H c=bL->c≠x->sp (.ref x::(vs++dvs)) (upd (upd H c (.own x)) x (.ins C c [])) (λv l=>v= .n/\Q (.ref x) l) E):
 (X>>>(call (.ref C) us)) (EP X d Y Q) X.xe s:=by
 let g:=h (s⁻¹+1) s⁻¹ (I.hok.fresh (k6 _)) (I.hok.fresh (cU _)) (hJ (Bf _));let b:=bS.made (C:=C) I;let i:dR (V.ref (s⁻¹+1)::(vs++dvs)) (lD (s⁻¹+1)::(us++ds)):=.cons bQ (r.append t);let y: ~~~(lD (s⁻¹+1)::us++ds)= ~~~ps:=by let e:=i.length;rw[F.len _ _ _ _ g]at e;exact e.symm
 refine k8 (Vc (f:=f) I.kIn M.makes M.init (mX.mp M.fn) (aY (F.run _ X.stack _ _ ⟨lD (s⁻¹+1)::us,[]⟩ (lD (s⁻¹+1)::(us++ds)) _ _ E (z.make C us [])
  (b.env0.make C us []) (q _ (lD (s⁻¹+1)::us) b.kIn y) i g) λr O a=>?_))
 cases r with
 |error e=>calc B d Y _ _ e O b a|ok p=>
  cases p with
  |ret u=>let⟨v,j,m,N,o,G⟩:=b.after a;subst o;calc⟨N,⟨V.ref (s⁻¹+1),j,m,rfl,G⟩⟩|next=>calc qP a|brk=>calc qP a|cont=>calc qP a
def Vq(M:Mk X.K C f)(F:fC X.prog X.w X.K X.mg X.base CX k f fd ps sp)(m:fZ (k+1) X.A)(j:Gl X x)(l:X.mg x=L (.ref C))(g:jO X.K fd ps ds)(i:dR dvs ds)(n:eD CX X E)(d:PA X (e::es) t)(a:(x==("__debug__" :U))=bJ:=by decide)(he:gG (e::es) X.env=(bJ,fP e X.env)::gG es X.env:=by rfl)(b:(lV pos (gG es X.env)).any (·.1)=bJ:=by rfl):
 PE X (.Call (.Name x p) (e::es) [] pos) (J5 C sp dvs E t):=by
 intro o s Y H Q I h;refine gf (ey I j l ?_ a);refine o6 (h₀:=X.base) I.ok.mod.kin M.kp (dA (d pos o s Y H _ I h) λy v ⟨z,u,c,r,q⟩=>⟨c.kIn,?_⟩) he b;calc J6 M F m g i n c r q
def Vr(M:Mk X.K C f)(F:fC X.prog X.w X.K X.mg X.base CX k f fd ps sp)(g:fZ (k+1) X.A)(d:Gl X x)(e:X.mg x=L (.ref C))(b:jO X.K fd ps ds)(c:dR dvs ds)(i:eD CX X E)(a:(x==("__debug__" :U))=bJ:=by decide):PE X (.Call (.Name x p) [] [] pos) (J5 C sp dvs E Cy):=by
 intro j s Y H Q I h;refine gf (ey I d e ?_ a);calc Sx I.kIn M.kp (J6 (us:=[]) M F g b c i I .nil h)
end
structure pT(N P:J U)(sc:kS):Prop where
 kind:sc.kind= .function
 co:sc.isCoroutine=bJ
 gen:sc.isGenerator=bJ
 nd:N.Nodup
 pre:N.take (~~~P)=P
 par:∀x∈P,sc.names.lookup x=L .local\/sc.names.lookup x=L .cell
 nofree:∀y∈sc.names,y.2≠ .free
theorem J7{b:U->bR pO}{x:U}:∀{a m},(∀v,(x,v)∉a)->iy b a m x=m x
 | [],_,_=>rfl| (n,v)::r,m,h=>by
  delta iy;rw[J7 λw c=>h w (fM _ c)];split
  .have:x≠n:=by rintro rfl;exact h v fF
   simp[this]
  rfl
theorem J8{b:U->bR pO}{x:U}:∀{a m},(∀v,(x,v)∉a)->iz b a m x=m x
 | [],_,_=>rfl| (n,v)::r,m,h=>by
  delta iz;rw[J8 λw c=>h w (fM _ c)];split
  .rfl
  have:x≠n:=by rintro rfl;exact h v fF
  simp[this]
theorem J9{a:U->bR pO}{x:U}{v:bK}:∀{P:J U} {vs:J bK} {i:bD} {m:U->bR bK},P.Nodup->P[i]? =L x->vs[i]? =L v->a x=L .local->
 iy a (P.zip vs) m x=L v
 | [],_,_,_,_,h,_,_=>by simp at h|_::_,[],_,_,_,_,h,_=>by simp at h|p::P,w::vs,0,m,e,b,c,d=>by simp at b c;subst b;subst c;show iy a ((p,w)::P.zip vs) m p=_;delta iy;rw[J7 λv f=>(tV.mp e).1 (HQ f).1,cK d];simp|p::P,w::vs,i+1,m,e,b,c,d=>by show iy a ((p,w)::P.zip vs) m x=_;delta iy;calc J9 (i:=i) (tV.mp e).2 (by simpa using b) (by simpa using c) d
theorem Ka{a:U->bR pO}{x:U}{v:bK}:∀{P:J U} {vs:J bK} {i:bD} {m:U->bR bK},P.Nodup->P[i]? =L x->vs[i]? =L v->a x≠L .local->
 iz a (P.zip vs) m x=L v
 | [],_,_,_,_,h,_,_=>by simp at h|_::_,[],_,_,_,_,h,_=>by simp at h|p::P,w::vs,0,m,e,b,c,d=>by simp at b c;subst b;subst c;show iz a ((p,w)::P.zip vs) m p=_;delta iz;rw[J8 λv f=>(tV.mp e).1 (HQ f).1,cX d];simp|p::P,w::vs,i+1,m,e,b,c,d=>by show iz a ((p,w)::P.zip vs) m x=_;delta iz;calc Ka (i:=i) (tV.mp e).2 (by simpa using b) (by simpa using c) d
noncomputable def start(N:J U)(vs:J V):St:=vs.map L++nR (~~~N- ~~~vs) bL
noncomputable def nG(CX:vG)(P:fH)(w:cD)(K:cG)(mg:U->bR bK)(base:cH)(N:J U)(qual:U)(scope:kS)(f:bI)(b:bK)(A:gW)(outer:J jK)(s:bT)(H:Hp)(E:XK):Cx where
 prog:=P
 w:=w
 K:=K
 mg:=mg
 base:=base
 A:=A.deeper (nZ qual scope s⁻¹ f b)
 N:=N
 s₀:=s
 Ha:=H
 env:=nZ qual scope s⁻¹ f b
 outer:=outer
 stack:=nZ qual scope s⁻¹ f b::outer
 ex:=[]
 calm:=bF
 fn:=λ_=>bF
 pn:=[]
 xe:=λe d=>wpAny (bY P w) (A.deeper (nZ qual scope s⁻¹ f b)) (leaving (nZ qual scope s⁻¹ f b) e) (λ_ a=>CX outer H s E e a) (λc a=>CX outer H s E c a) d
def Kb{sc:kS}(h:sc.names.lookup x=L .cell):∃c,(Jd n sc.names []).lookup x=L c:=by let q:=RH sc.names n [] (.inl h);calc AX.mp q
def Vs{K:cG}(S:pT N ps scope)(M:A.handled=none)(g:eC P w K mg base A outer s H)(W: ~~~vs= ~~~ps)(r:dR vs us)(x:InCallC s s⁻¹ (iy (nZ qual scope s⁻¹ f t).kindOf (ps.zip us) λ_=>none) (Jd (s⁻¹+1) scope.names []) (iz (nZ qual scope s⁻¹ f t).kindOf (ps.zip us) λ_=>none) s1):
 bS (nG CX P w K mg base N qual scope f t A outer s H E) [] (start N vs) H s1:=by
 let O: ~~~ps<= ~~~N:=by have:=jZ Iz S.pre;rw[kl]at this;lia
 let⟨B,X,rfl,F⟩:=x.done;let l:∀b:bI,b∉(nG CX P w K mg base N qual scope f t A outer s H E).ex:=λb z=>dD (show b∈([]:J bI)from z) cS
 refine⟨⟨g.mod,S.kind,rfl,rfl,cU _,λy z c B d=>?_,λy j=>?_,λy c _ h=>?_,λ_=>M,Q7 g.frames,.inr ⟨rfl,rfl⟩,λb z=>dD z (l b),g.bs,g.bsz,λb _ _=>l b,λb z=>dD z (l b),g.funs,g.frf⟩,
  rfl,g.bare,Un.kept F,⟨_,x.toInCall.ns,λi y v B d T=>?_⟩,λy c h=>⟨_,x.cell y c h⟩,g.hok.fresh (cU _),λy c h=>?_,λp m=>dD (show p∈([]:J (bI×cY))from m) cS,g.hok.kept F,?_⟩
 .exact name_of_addr x.apart (gb B) (gb d)
 .let j:scope.names.lookup y=some .cell\/scope.names.lookup y=some .free:=j;rcases j with j|j
  .exact Kb j
  exact dD rfl (S.nofree _ (gb j))
 .exact o5 (x.above y c (gb h))
 .let C:i< ~~~vs:=by
   delta start at d;by_cases C:i< ~~~vs
   .exact C
   rw[tR (by simpa using C)]at d;rw[Hf]at d;split at d<;>cases d
  let I:vs[i]? =some v:=by
   delta start at d;rw[aP (by simpa using C),nX]at d;cases e:vs[i]? with
   |none=>rw[e]at d;cases d|some a=>rw[e]at d;cases d;rfl
  let⟨u,G,Q⟩:=r.get I;let m:ps[i]? =some y:=by rw[<-S.pre,List.getElem?_take_of_lt bZ];exact B
  let o:ps.Nodup:=by rw[<-S.pre];exact S.nd.sublist (List.take_sublist _ _)
  refine⟨u,Q,?_⟩;rcases S.par y (dm m)with k|k
  .exact .inl ⟨k,J9 o m G k⟩
  let⟨c,e⟩:=Kb (n:=s⁻¹+1) k;refine .inr ⟨.inl k,c,e,?_⟩;let q:=x.cell y c e;rw[Ka o m G (by show scope.names.lookup y≠_;rw[k];decide)]at q;exact q
 .exact g.hok.fresh (o5 (x.above y c (gb h)))
 delta start;show _= ~~~N;rw[cO,cA,QW]
 lia
theorem Cz{K:cG}{kV:bK}(lk:K.lookup f=L ⟨oc,od,.func (iv name qual c d scope dV kV l pm an cdv ct),M⟩)(C:zZ K cdv qual=bF)(S:pT N ps scope)(z:∀vs H Q E,X vs H Q E-> ~~~vs= ~~~ps)(h:∀(A:gW) (outer:J jK) (s:bT) (H:Hp) (vs:J V) (Q:VK) (E:XK),fZ k (A.deeper (nZ qual scope s⁻¹ f cdv))->X vs H Q E->
   ∃t,pA (nG CX P w K mg base N qual scope f cdv A outer s H E) d t/\t {nx:=λ_ g=>Q .n g,rt:=Q} (start N vs) H):
 fC P w K mg base CX (k+1) f (iv name qual c d scope dV kV l pm an cdv ct) ps X:=by
 refine⟨z,λA outer s H Z us vs Q E F m hb r p=>?_⟩;let hl:=z _ _ _ _ p;let Y:K.In s.heap:=m.mod.kin.keeps λb o e=>(m.bs b o e).1
 let G:s.heap.NoLimit:=m.mod.nolimit.keeps λb o e=>(m.bs b o e).1
 let i:∀y∈ps.zip us,scope.names.lookup y.1=L .local\/(scope.names.lookup y.1=L .cell/\((Jd (s⁻¹+1) scope.names []).lookup y.1).isSome=bF):=λ⟨n,v⟩ hy=>by
  rcases S.par n (HQ hy).1 with q|q
  .exact .inl q
  exact .inr ⟨q,RH _ _ _ (.inl q)⟩
 refine codeAny_call_function F.depth (Y _ _ lk) bQ S.co S.gen bQ (W.codeRec_of Y C) (hb _ _ _ _ ?_);refine wpAny_newFunctionEnv_cells S.kind i λa0 he s1 x=>?_
 subst he;refine⟨G.keeps x.toInCall.keep,codeAny_func ?_⟩;let⟨t,ht,hq⟩:=h A outer s H vs Q E (F.deeper _) p;let I:bS (nG CX P w K mg base N qual scope f cdv A outer s H E) [] (start N vs) H s1:=Vs S F.hd m hl r x;refine lU (ht [] s1 (start N vs) H _ I hq) (λfl T j=>?_) λe T j=>j
 let dZ:∀{B:St} {g:Hp} {v:V} {u:bK},bS (nG CX P w K mg base N qual scope f cdv A outer s H E) [] B g T->dM v u->Q v g->CE outer P w H s Q u T:=
  λ{B g v u} a O q=>⟨v,g,a.os,a.bare,a.base,a.hok,O,q⟩
 cases fl with
 |ret u=>let⟨v,B,g,a,O,q⟩:=j;calc dZ a O q|next=>let⟨B,g,a,q⟩:=j;calc dZ (v:=V.n) (u:=zW) a bQ q|brk=>let⟨_,_,_,q⟩:=j;calc qP q|cont=>let⟨_,_,_,q⟩:=j;calc qP q
section
variable{X:Cx}{x:U}{p pos:cW}{e:bU}{es:J bU}{t:TA}{id T:kO}{r:J V->Hp->VK->Prop}
noncomputable def Kc(r:J V->Hp->VK->Prop)(t:TA):TE:=λY H Q=>t Y H λb a=>r b a Q
def xo(i:jL X (.builtin id) r)(j:Gl X x)(k:X.mg x=bL)(m:sO x=L (.builtin id))(g:PA X (e::es) t)(l:x≠ "__name__" :=by decide)(a:(x==("__debug__" :U))=bJ:=by decide)(he:gG (e::es) X.env=(bJ,fP e X.env)::gG es X.env:=by rfl)(b:(lV pos (gG es X.env)).any (·.1)=bJ:=by rfl):PE X (.Call (.Name x p) (e::es) [] pos) (Kc r t):=by
 intro c s Y H Q I h;refine gf (l7 I j k m ?_ l a);calc cD0 (dA (g pos c s Y H _ I h) λv u o=>by let⟨w,d,f,q,n⟩:=o;calc i c u Y d w v Q f q n) he b
def mh(i:jL X (.type T) r)(j:Gl X x)(k:X.mg x=bL)(m:sO x=L (.type T))(g:PA X (e::es) t)(l:x≠ "__name__" :=by decide)(a:(x==("__debug__" :U))=bJ:=by decide)(he:gG (e::es) X.env=(bJ,fP e X.env)::gG es X.env:=by rfl)(b:(lV pos (gG es X.env)).any (·.1)=bJ:=by rfl):PE X (.Call (.Name x p) (e::es) [] pos) (Kc r t):=by
 intro c s Y H Q I h;refine gf (l7 I j k m ?_ l a);calc AT (dA (g pos c s Y H _ I h) λv u o=>by let⟨w,d,f,q,n⟩:=o;calc i c u Y d w v Q f q n) he b
end
end L2
namespace HT
open PySem PyProof.Rows
section
open PySem.SeqAt
open PySem.AutoSeq1 (wpAny_loadPart')
open PySem.MeetsSeq PySem.MeetsSeq2 PySem.MeetsSeq3
end
section
variable{prog:fH}{w:cD}{A:gW}{E:bK->bT->Prop}{s:bT}
def cat_tup{Q:bK->bT->Prop}(v:iw s.heap t vs.toArray)(u:iw s.heap b ws.toArray)(o:vs≠ [])(r:ws= []->Q (.ref t) s)(h2:ws≠ []->Q (.ref s⁻¹) {s with heap:=s.heap.push {cls:=.type "tuple",data:=.seq (vs++ws).toArray}})(hsz: ~~~vs+ ~~~ws<=cR):(A>>>(pN .Add (.ref t) (.ref b))) Q E s:=by
 let⟨⟨cls,dd,data,q⟩,h,l,n,m⟩:=id v;let⟨⟨k,c,j,g⟩,a,d,p,f⟩:=id u;simp only at l m d f;subst l m d f;let e:vs.toArray++ws.toArray=(vs++ws).toArray:=cS;by_cases i:ws= []
 .exact wg ⟨_,h,rfl⟩ ⟨_,a,rfl⟩ HK Ia Hn Hg (Hc _ _)
   (tuple_addW1 t b vs.toArray ws.toArray n p dd c q g (by simpa using o) (by simp[i])) ⟨h,a,r i⟩
 refine wg ⟨_,h,rfl⟩ ⟨_,a,rfl⟩ HK Ia Hn Hg (Hc _ _)
  (tuple_addW2 t b vs.toArray ws.toArray n p dd c q g (by simpa using o) (by simpa using i) (by rw[hY,hY];calc hsz)) ⟨h,a,?_⟩
 rw[e];calc h2 i
noncomputable def sIx(n d:bD):bR bH->bD|none=>d|some v=>if v<0 then(v+(n:bH)).toNat else vF v.toNat n
def sIx_none(n d):sIx n d bL=d:=rfl
def sIx_nat(n d k:bD):sIx n d (L (k:bH))=vF k n:=by show(if(k:bH)<0 then((k:bH)+(n:bH)).toNat else vF (k:bH).toNat n)=vF k n;rw[cX bZ,A9]
def sIx_le(n d)(b:d<=n)(o):sIx n d o<=n:=by
 cases o with
 |none=>calc b|some v=>
  show(if v<0 then(v+(n:bH)).toNat else vF v.toNat n)<=n;by_cases a:v<0
  .rw[cK a];lia
  rw[cX a];calc Nat.min_le_right _ _
def Kd(v)(n d:bD):(if v<0 then max (v+(n:bH)) 0 else vF v (n:bH))=((sIx n d (L v):bD):bH):=by
 show(if v<0 then max (v+(n:bH)) 0 else vF v (n:bH))=(((if v<0 then(v+(n:bH)).toNat else vF v.toNat n):bD):bH);by_cases a:v<0
 .dsimp[cK a];lia
 dsimp[cX a];lia
def Vt(b a)(n:bD):Hb b a 1 (n:bH)=(((sIx n 0 b:bD):bH),((sIx n n a:bD):bH)):=by
 let c: ¬ ((1:bH)<0):=bZ;delta Hb;dsimp[c,yM];refine li ?_ ?_
 .cases b with|none=>rfl|some v=>exact Kd v n 0
 cases a with|none=>rfl|some v=>calc Kd v n n
def Vu(i j:bD):AV (i:bH) (j:bH) 1=j-i:=by delta AV;let a:(1:bH)>0:=bZ;dsimp[a,rS,Int.ediv_one];split<;>lia
def Ke{Q:bR bH->bT->Prop}(p:ak v o)(h:Q o s):(A>>>(cD1 v)) Q E s:=by
 cases p with
 |none=>calc R7 h|int i t=>calc slicePart_int h
def sliceApplied_gen{Q:bH×bH×bD->bT->Prop}(hs:s.heap.IsSliceOf sl e f .none)(pl:ak e a)(i:ak f c)(h:Q (((sIx n 0 a:bD):bH),1,sIx n n c-sIx n 0 a) s):(A>>>(QB (.ref sl) (dX (n:bH)))) Q E s:=by
 let⟨j,d,g,b⟩:=id hs;delta QB cE0;refine bV (bV (vB d b (x:=e) bQ (bV (vB d b (x:=f) bQ (bV (vB d b (x:=.none) bQ (cT ?_)))))));refine bV (R7 ?_);show wpAny _ _ (if((1:bH)==0)=bF then _ else _) _ _ s;rw[cX hG];refine bV (Ke pl (bV (Ke i (bV (cT ?_)))));show wpAny _ _ (match Hb a c 1 (n:bH)with| (a,c)=>dX (a,(1:bH),AV a c 1)) _ _ s;rw[Vt a c n];show wpAny _ _ (dX (((sIx n 0 a:bD):bH),(1:bH),AV ((sIx n 0 a:bD):bH) ((sIx n n c:bD):bH) 1)) _ _ s;rw[Vu];calc cT h
def Vv(xs:dE bK)(i k:bD):((gK k).filterMap λ(m:bD)=>xs[((i:bH)+(m:bH)*1).toNat]?).toArray=((xs.toList.drop i).take k).toArray:=by
 let e:(λ(m:bD)=>xs[((i:bH)+(m:bH)*1).toNat]?)=λm=>xs[i+m]? :=by funext m;have:((i:bH)+(m:bH)*1).toNat=i+m:=bZ;rw[this]
 rw[e];have:=Jj xs i k;rw[Hy]at this;let a:((λx=>xs[x]?) ∘ λx=>i+x)=λm=>xs[i+m]? :=rfl
 rw[a]at this;rw[this]
def getItem_tuple_cut{Q:bK->bT->Prop}(d:iw s.heap t items)(hs:s.heap.IsSliceOf sl j k .none)(pl:ak j b)(p:ak k c)(n: ¬ (sIx items.size 0 b=0/\sIx items.size items.size c=items.size))(h:Q (.ref s⁻¹) {s with heap:=s.heap.push {cls:=.type "tuple",data:=.seq ((items.toList.drop (sIx items.size 0 b)).take (sIx items.size items.size c-sIx items.size 0 b)).toArray}})(hsz:items.size<=cR):(A>>>(bc (.ref t) (.ref sl))) Q E s:=by
 let a:sizeOk (.seq ((items.toList.drop (sIx items.size 0 b)).take (sIx items.size items.size c-sIx items.size 0 b)).toArray):=by
  show((items.toList.drop (sIx items.size 0 b)).take (sIx items.size items.size c-sIx items.size 0 b)).toArray.size<=cR;rw[hY,kl,HL,mV]
  lia
 let r:sIx items.size items.size c<=items.size:=sIx_le _ _ (cU _) c;let⟨o,i,f,l⟩:=id hs;let e:s.TypeIs (.ref sl) "slice" :=⟨o,i,f⟩;delta bc;try with_reducible refine ei ?_
 first|refine bV (cT ?_)|skip
 refine bV (Rz d.typeIs hG ?_)
 refine bV (oS (name:=wV "__getitem__") d.typeIs j8
  (km j8 d.typeIs Rg ?_ (Rn _ _)))
 show wpAny _ _ (QC (.ref t)>>=_) _ _ s;refine bV (Ib d ?_);refine bV (o7 e ?_);rw[cK hG];refine bV (sliceApplied_gen hs pl p ?_);let g: ¬ ((((sIx items.size 0 b:bD):bH)==0&&(1:bH)==1&&(sIx items.size items.size c-sIx items.size 0 b)==items.size)=bF):=by intro q;rw[gD,gD]at q;let u:((sIx items.size 0 b:bD):bH)=0:=kI q.1.1;let v:sIx items.size items.size c-sIx items.size 0 b=items.size:=kI q.2;exact n ⟨bZ,bZ⟩
 show wpAny _ _ (if(((sIx items.size 0 b:bD):bH)==0&&(1:bH)==1&&(sIx items.size items.size c-sIx items.size 0 b)==items.size)=bF then _ else _) _ _ s;rw[cX g,Vv]
 first
  |calc bV (m:=oR _) (du (cT ⟨_,rfl,cT h⟩) a)
  |calc bV (m:=oR _) (du (bV (cT (cT ⟨_,rfl,cT h⟩))) a)
  |calc bV (bV (m:=oR _) (du (cT (cT ⟨_,rfl,cT h⟩)) a))
  |calc bV (bV (m:=oR _) (du (cT ⟨_,rfl,cT h⟩) a))
end
end HT
namespace L2
open PySem PySem.Spec PyProof.Rows
abbrev TO:=St->Hp->(bR bH->Hp->Prop)->Prop
def PO(X:Cx)(e:bR bU)(t:TO):Prop:=
 ∀(b:J (bI×cY)) (s:bT) (Y:St) (H:Hp) (Q:bR bH->Hp->Prop),bS X b Y H s->t Y H Q->
  (X>>>(evalPart e X.env)) (λu c=>∃o a,bS X b Y a c/\ak u o/\Q o a) X.xe s
noncomputable def Vx:TO:=λ_ H Q=>Q bL H
noncomputable def Vy(t:TE):TO:=λY H Q=>t Y H λx a=>∃i,x= .int i/\Q (L i) a
def Vz:PO X bL Vx:=by intro a s Y H Q I h;rw[evalPart_none];calc cT ⟨bL,H,I,.none,h⟩
def VA(h:PE X e te):PO X (L e) (Vy te):=by
 intro d s Y H Q I c;rw[evalPart_some];refine dA (h d s Y H _ I c) λu k g=>?_
 let⟨x,a,b,j,f⟩:=g;let⟨i,rfl,q⟩:=f;let⟨t,rfl⟩:=j;calc⟨L i,a,b,.int i t,q⟩
def xp(X:Cx)(r:V->bR bH->bR bH->Hp->VK->Prop):Prop:=
 ∀(a:J (bI×cY)) (s:bT) (Y:St) (H:Hp) (x:V) (v c d:bK) (lo hi:bR bH) (b:bI) (Q:VK),bS X a Y H s->dM x v->s.heap.IsSliceOf b c d .none->ak c lo->ak d hi->r x lo hi H Q->
  ∃T id,IL (.type T) "__getitem__" =dX (L (.builtin id))/\s.TypeIs v T/\(X>>>(bc v (.ref b))) (EP X a Y Q) X.xe s
noncomputable def VB(r:V->bR bH->bR bH->Hp->VK->Prop)(d:TE)(tl e:TO):TE:=λY H Q=>d Y H λx a=>tl Y a λl b=>e Y b λu c=>r x l u c Q
def VC{lo:bR bU}{r:V->bR bH->bR bH->Hp->VK->Prop}(B:xp X r)(he:PE X e te)(z:PO X lo tl)(E:PO X hi th):PE X (.Subscript e (.Slice lo hi bL p2) pos) (VB r te tl th):=by
 intro c s Y H Q I h;refine Subscript_ (dA (he c s Y H _ I h) λv O g=>?_);let⟨x,j,m,N,G⟩:=g;refine wpAny_Slice (dA (z c O Y j _ m G) λd P ⟨l,k,n,pl,K⟩=>dA (E c P Y k _ n K) λf a g=>?_);let⟨u,i,o,F,M⟩:=g;rw[evalPart_none];refine cT ?_;let p:bS X c Y i {a with heap:=a.heap.push {cls:=.type "slice",data:=.fields #[d,f,.none]}}:=o.kept (t':=a.toks) λb ob q=>gF _ q
 let⟨T,id,t,C,y⟩:=B c {a with heap:=a.heap.push {cls:=.type "slice",data:=.fields #[d,f,.none]}} Y i x v d f l u a⁻¹ Q p N (cG7 ..) pl F M;show (X>>>(Bp e (.Slice lo hi bL p2) v (.ref a⁻¹))) (EP X c Y Q) X.xe {a with heap:=a.heap.push {cls:=.type "slice",data:=.fields #[d,f,.none]}};calc tail_any (ops:=[.ref a⁻¹,v]) C t y (by with_unfolding_all rfl)
def eF(xs:J V)(a b:bR bH):J V:=(xs.drop (HT.sIx xs.length 0 a)).take (HT.sIx xs.length xs.length b-HT.sIx xs.length 0 a)
def Kf(xs)(b a): ~~~(eF xs b a)<= ~~~xs:=by
 delta eF;rw[kl,HL]
 lia
def VD(K:cG):V->bR bH->bR bH->Hp->VK->Prop:=λx lo hi H Q=>∃a b,x= .ref a/\kJ K H a b/\
 ¬ (HT.sIx b.length 0 lo=0/\HT.sIx b.length b.length hi= ~~~b)/\ ∀p,H p=bL->Q (.ref p) (upd H p (.t (eF b lo hi)))
def VE:xp X (VD X.K):=by
 intro n s Y H x v u w lo hi p Q I m i pl l h;let⟨a,d,rfl,k,j,q⟩:=h;cases m;let⟨e,r,f,g⟩:=I.tuple k;let c:e.toArray.size= ~~~d:=by rw[hY];exact r.length.symm
 refine⟨"tuple",_,j8.lookup,f.typeIs,?_⟩;refine HT.getItem_tuple_cut f i pl l (by rw[c];calc j) ?_ (by rw[c];calc g);rw[c];refine⟨.ref s⁻¹,_,I.laid (t':=s.toks) (o:=.t (eF d lo hi)) (λb ob q=>gF _ q) (cU _) ?_,rfl,q _ (I.hok.fresh (cU _))⟩;calc⟨hE (Kf d lo hi) g,_,(r.drop (HT.sIx d.length 0 lo)).take (HT.sIx d.length d.length hi-HT.sIx d.length 0 lo),xD.new _ _⟩
def VF(K:cG):R2:=λx y H Q=>∃a b d c,x= .ref a/\y= .ref b/\kJ K H a d/\kJ K H b c/\d≠ []/\~~~d+ ~~~c<=cR/\
 (c= []->Q (.ref a) H)/\(c≠ []->∀p,H p=bL->Q (.ref p) (upd H p (.t (d++c))))
def dR.nil_iff(r:dR xs us):us= [] ↔ xs= []:=by
 cases r with
 |nil=>simp|cons _ _=>simp
def VG:fU X (pN .Add) (VF X.K):=by intro C s Y H x y v u Q I p r h;let⟨a,b,A,B,rfl,rfl,g,i,j,e,m,n⟩:=h;cases p;cases r;let⟨k,d,l,_⟩:=I.tuple g;let⟨f,c,p2,_⟩:=I.tuple i;refine HT.cat_tup l p2 (λz=>j (d.nil_iff.mp z)) (λz=>⟨.ref a,H,I,rfl,m (c.nil_iff.mp z)⟩) (λz=>?_) (by rw[<-d.length, <-c.length];calc e);refine⟨.ref s⁻¹,_,I.laid (t':=s.toks) (o:=.t (A++B)) (λb ob q=>gF _ q) (cU _) ?_,rfl,n (λw=>z (c.nil_iff.mpr w)) _ (I.hok.fresh (cU _))⟩;calc⟨by rw[cO];calc e,_,d.append c,xD.new _ _⟩
noncomputable def iG(n:bD)(i:bH):bR bD:=if 0<=i then(if i<n then L i.toNat else bL)else if-(n:bH)<=i then L (i+n).toNat else bL
def pB{α:Type}(xs:J α)(i:bH):bR α:=(iG xs.length i).bind λj=>xs[j]?
def VH(h:iG n i=L j):seqIndex? i n=L j/\j<n/\ -(n:bH)<=i/\i<n:=by
 delta iG at h;by_cases b:0<=i
 .rw[cK b]at h;by_cases a:i<n
  .rw[cK a]at h;let e:i.toNat=j:=kE h;exact⟨by rw[seqIndex_of b a,e],bZ,bZ,a⟩
  rw[cX a]at h;cases h
 rw[cX b]at h;by_cases a: -(n:bH)<=i
 .rw[cK a]at h;let e:(i+n).toNat=j:=kE h;exact⟨by rw[seqIndex_neg bZ a,e],bZ,a,bZ⟩
 rw[cX a]at h;cases h
def CA{α:Type}{xs:J α}{v:α}(h:pB xs i=some v):∃j,seqIndex? i (~~~xs)=some j/\xs[j]? =some v/\j< ~~~xs/\ -(~~~xs:bH)<=i/\i< ~~~xs:=by
 delta pB at h;cases e:iG xs.length i with
 |none=>rw[e]at h;cases h|some j=>rw[e]at h;let⟨a,b,c,d⟩:=VH e;calc⟨j,a,h,b,c,d⟩
def eI{α:Type}{xs:J α}{j:bD}{v:α}(h:xs[j]? =L v):pB xs (j:bH)=L v:=by
 let a:j< ~~~xs:=(pK.mp h).1;let e:iG xs.length (j:bH)=L j:=by delta iG;rw[cK bZ,cK bZ];simp
 delta pB;rw[e];calc h
def xq(b:bU):Prop:=∀o i,Bx b bJ o i=operate [o,i] (bc o i)
def iH(X:Cx)(r:R2):Prop:=
 ∀(b a:bU) (c:J (bI×cY)) (s:bT) (Y:St) (H:Hp) (x y:V) (v u:bK) (Q:VK),bS X c Y H s->dM x v->dM y u->r x y H Q->
  Bx a bJ v u=operate [v,u] (bc v u)->(X>>>(Bp b a v u)) (EP X c Y Q) X.xe s
def iI(X:Cx)(id:kO)(r:V->J V->Hp->VK->Prop):Prop:=
 ∀(a:J (bI×cY)) (s:bT) (Y:St) (H:Hp) (x:V) (c:J V) (v:bK) (b:J bK) (Q:VK),bS X a Y H s->dM x v->dR c b->r x c H Q->
  (X>>>(call (.builtin id) (v::b))) (EP X a Y Q) X.xe s
section
variable{X:Cx}{a b:bU}{ta tb:TE}{pos:cW}
def Kg(g:iH X r)(e:PE X a ta)(f:PE X b tb)(hs:xq b):PE X (.Subscript a b pos) (qi r ta tb):=by intro i s Y H Q I h;calc Subscript_ (Ck e f I h λv u l x y c d j k q=>g a b i l Y c x y v u Q d j k q (hs _ _))
def VI(K:cG):R2:=λx y H Q=>∃p a i v,x= .ref p/\y= .int i/\jA K H p a/\pB a i=L v/\Q v H
def VJ(K:cG):R2:=λx y H Q=>∃p a i v,x= .ref p/\y= .int i/\kJ K H p a/\pB a i=L v/\Q v H
def VL:R2:=λx y H Q=>∃z i c,x= .str z/\y= .int i/\~~~z<=cR/\pB z.cps.toList i=L c/\Q (.str ⟨#[c]⟩) H
def VM:iH X (VI X.K):=by
 intro f e m s Y H x y v u Q I F G h l;let⟨p,S,i,z,rfl,rfl,E,B,q⟩:=h;cases F;let⟨t,rfl⟩:=G;let⟨c,r,pl,P⟩:=I.list E;let⟨j,a,n,N,o,A⟩:=CA B;let⟨w,g,d⟩:=r.get n;let C:=r.length;let O:=me;let dZ:EP X m Y Q w s:=⟨z,H,I,d,q⟩;by_cases k:0<=i
 .let b:i.toNat=j:=by
   rw[seqIndex_of k A]at a;exact kE a
  exact item_listR pl.isList k bZ (by rw[b];simpa using g) dZ l
 let b:(i+(c.toArray.size:bH)).toNat=j:=by
  rw[seqIndex_neg bZ o]at a;rw[hY, <-C];exact kE a
 exact Ho (x:=w) pl.isList.typeIs RA.lookup
  (wpAny_getItem_list_neg (Q:=λr M=>r=w/\EP X m Y Q r M) pl.isList bZ (by rw[hY]<;>lia) bZ (by rw[b];simpa using g) ⟨rfl,dZ⟩) l
def ix_tup:iH X (VJ X.K):=by
 intro c b d s Y H x y v u Q I A B h n;let⟨p,O,i,z,rfl,rfl,m,k,q⟩:=h;cases A;let⟨t,rfl⟩:=B;let⟨o,r,pl,N⟩:=I.tuple m;let⟨j,f,g,E,F,G⟩:=CA k;let⟨w,e,a⟩:=r.get g;let l:=r.length;let M:=me;let dZ:EP X d Y Q w s:=⟨z,H,I,a,q⟩
 exact Ho (x:=w) pl.typeIs j8.lookup
  (getItem_tuple (j:=j) (Q:=λr C=>r=w/\EP X d Y Q r C) pl bZ bZ (by rw[hY, <-l];calc f) (by simpa using e) ⟨rfl,dZ⟩) n
def VN:iH X VL:=by
 intro b a C s Y H x y v u Q I p r h o;let⟨z,i,c,rfl,rfl,B,m,q⟩:=h;let⟨t,rfl⟩:=p;let⟨E,rfl⟩:=r;let⟨j,d,g,w,k,l⟩:=CA m;let n: ~~~z.cps.toList= ~~~z:=by simp[IM]
 rw[n]at d k l;let A:=me;calc tail_any (pa s z t) slot_str_getitem.lookup (getItem_str (c:=c) (by let e:cE (i< -(2^63:bH))=bJ:=jI bZ;let f:cE (i≥2^63)=bJ:=jI bZ;rw[e,f,Bool.or_false]) (by rw[d];simpa using g) ⟨.str ⟨#[c]⟩,H,I.tok _,⟨_,rfl⟩,q⟩) o
def VO(b a)(n):(k7 b a none n).1=((HT.sIx n 0 b:bD):bH)/\(k7 b a none n).2.1=((HT.sIx n n a:bD):bH)/\(k7 b a none n).2.2=1:=by
 refine⟨?_,?_,rfl⟩
 .cases b with
  |none=>simp[k7,HT.sIx]|some i=>
   dsimp[k7,HT.sIx,HM,show(1:bH)>0 by decide,rS];by_cases h:i<0
   .dsimp[h,rS]<;>lia
   dsimp[h,yM]<;>lia
 cases a with
 |none=>simp[k7,HT.sIx]|some i=>
  dsimp[k7,HT.sIx,HM,show(1:bH)>0 by decide,rS];by_cases h:i<0
  .dsimp[h,rS]<;>lia
  dsimp[h,yM]<;>lia
def VP(its:J bK)(a b):slicePick its.toArray a b bL=((its.drop (HT.sIx its.length 0 a)).take (HT.sIx its.length its.length b-HT.sIx its.length 0 a)).toArray:=by let⟨c,d,e⟩:=VO a b its.toArray.size;delta slicePick;rw[c,d,e];dsimp[R8,Jj,hY]<;>rfl
def VQ(K:cG):V->bR bH->bR bH->Hp->VK->Prop:=λx d c H Q=>∃a b,x= .ref a/\jA K H a b/\ ∀p,H p=bL->Q (.ref p) (upd H p (.l (eF b d c)))
def VR:xp X (VQ X.K):=by intro t s Y H x v w y e f u Q I p i pl n h;let⟨a,c,rfl,j,q⟩:=h;cases p;let⟨m,r,g,k⟩:=I.list j;let d:=r.length;refine⟨"list",_,RA.lookup,g.isList.typeIs,?_⟩;refine wpAny_getItem_list_slice g.isList i pl n .none cS ?_ (by rw[hY]<;>lia);rw[VP, <-d];refine⟨.ref s⁻¹,_,I.laid (t':=s.toks) (o:=.l (eF c e f)) (λb ob q=>gF _ q) (cU _) ?_,rfl,q _ (I.hok.fresh (cU _))⟩;calc⟨hE (Kf c e f) k,_,0,(r.drop (HT.sIx c.length 0 e)).take (HT.sIx c.length c.length f-HT.sIx c.length 0 e),lC _ rfl⟩
def Kh:jL X (.builtin "len") (λxs H Q=>∃p ys,xs= [.ref p]/\(jA X.K H p ys\/kJ X.K H p ys)/\Q (.int (~~~ys)) H):=by
 intro i s Y H xs j Q I r h;let⟨p,ys,rfl,b,q⟩:=h;let⟨u,rfl,f⟩:=pR r;cases f;let g:=me;rcases b with b|b
 .let⟨c,d,pl,e⟩:=I.list b;let a:=d.length;exact Calls.call_len_list pl.isList (by dsimp[hY]<;>lia) ⟨.int (~~~ys),H,I.tok _,⟨s.toks+1,by rw[hY,a]⟩,q⟩
 let⟨c,d,pl,e⟩:=I.tuple b;let a:=d.length;calc len_tuple pl (by dsimp[hY]<;>lia) ⟨.int (~~~ys),H,I.tok _,⟨s.toks+1,by rw[hY,a]⟩,q⟩
def VS:jL X (.builtin "len") (λxs H Q=>∃z,xs= [.str z]/\~~~z<=cR/\Q (.int (~~~z)) H):=by intro c s Y H xs d Q I r h;let⟨z,rfl,b,q⟩:=h;let⟨u,rfl,t,rfl⟩:=pR r;let a:=me;calc len_str bZ ⟨.int (~~~z),H,I.tok _,⟨_,rfl⟩,q⟩
def Ki:jL X (.type "list") (λxs H Q=>∃p ys,xs= [.ref p]/\(jA X.K H p ys\/kJ X.K H p ys)/\ ∀l,H l=bL->Q (.ref l) (upd H l (.l ys))):=by
 intro x s Y H xs z Q I r h;let⟨p,ys,rfl,i,q⟩:=h;let⟨u,rfl,y⟩:=pR r;cases y
 let dZ:∀(a:J bK),dR ys a-> ~~~ys<=cR->∀(c:cH) (d:bD),(∀b v,s.heap.get? b=L v->c.get? b=L v)->
  c.get? s⁻¹=L {cls:=.type "list",dict:=bL,data:=.seq a.toArray d,slots:= #[]}->EP X x Y Q (.ref s⁻¹) {s with heap:=c}:=λa f j c d kp e=>
  ⟨.ref s⁻¹,_,I.laid (t':=s.toks) kp (cU _) (show nD X.prog X.w _ c _ (.l ys)from⟨j,a,d,f,e⟩),rfl,q _ (I.hok.fresh (cU _))⟩
 rcases i with i|i
 .let⟨a,f,pl,j⟩:=I.list i;let g:=f.length;let⟨o,t,k,n,m⟩:=pl.isList;exact call_list_seq p (.inl rfl) t k m (λc d kp e=>dZ a f j c d kp e) (by dsimp[hY]<;>lia)
 let⟨a,f,pl,j⟩:=I.tuple i;let g:=f.length;let⟨o,t,k,n,m⟩:=pl;calc call_list_seq p (.inr rfl) t k m (λc d kp e=>dZ a f j c d kp e) (by dsimp[hY]<;>lia)
def Kj:jL X (.type "tuple") (λxs H Q=>∃p ys,xs= [.ref p]/\((jA X.K H p ys/\ ∀l,H l=bL->Q (.ref l) (upd H l (.t ys)))\/(kJ X.K H p ys/\Q (.ref p) H))):=by
 intro k s Y H xs v Q I r h;let⟨p,ys,rfl,h⟩:=h;let⟨u,rfl,n⟩:=pR r;cases n;rcases h with⟨d,q⟩|⟨d,q⟩
 .let⟨a,f,pl,j⟩:=I.list d;let i:=f.length;refine call_tuple_list pl.isList (λc kp=>?_) (by dsimp[hY]<;>lia);let g:bS X k Y H {s with heap:=c}:=I.kept (t':=s.toks) kp;let m:bS X k Y (upd H c.objs.size (.t ys)) {s with heap:=c.push {cls:=.type "tuple",data:=.seq a.toArray}}:=
   g.laid (t':=s.toks) (λb o e=>gF _ e) (cU _) (show nD X.prog X.w _ _ _ (.t ys)from⟨j,a,f,xD.new _ _⟩)
  exact⟨.ref c.objs.size,_,m,rfl,q _ (g.hok.fresh (cU _))⟩
 let⟨a,f,pl,j⟩:=I.tuple d;calc call_tuple_same pl ⟨.ref p,H,I,rfl,q⟩
def Kk(K:cG)(T:kO)(x:V)(H:Hp):Prop:=match x with
 | .str _=>T="str"| .int _=>T="int"| .ref p=>(T="list" /\ ∃b,jA K H p b)\/(T="tuple" /\ ∃o,K.lookup p=L o/\o.cls= .type "tuple" /\o.dict=bL)\/
  (T="dict" /\ ∃a,H p=L (.dK a))
 |_=>hI
def VT(I:bS X q Y H s)(r:dM x v)(d:Kk X.K T x H):
 s.TypeIs v T/\ ∀a,v= .ref a->∃ob,s.heap.get? a=L ob/\ob.dict=bL:=by
 cases x with
 |str z=>let⟨t,rfl⟩:=r;cases(show T="str" from d);calc⟨pa s z t,λ_ e=>nomatch e⟩|int i=>let⟨t,rfl⟩:=r;cases(show T="int" from d);calc⟨IQ s i t,λ_ e=>nomatch e⟩|ref p=>
  cases r;rcases d with⟨rfl,u,k⟩|⟨rfl,o,b,j,f⟩|⟨rfl,m,b⟩
  .let⟨l,_,pl,_⟩:=I.list k;refine⟨pl.isList.typeIs,λa e=>?_⟩;cases e;let⟨o,n,e,c,f,_⟩:=pl;exact⟨o,e,f⟩
  .refine⟨⟨o,I.kIn p o b,j⟩,λa e=>?_⟩;cases e;exact⟨o,I.kIn _ o b,f⟩
  let⟨_,_,_,_,o,_,_,e,g,_⟩:=I.hok p _ b;refine⟨⟨o,e,g.1⟩,λa h=>?_⟩;cases h;calc⟨o,e,g.2.1⟩
 |_=>calc qP d
noncomputable def VU(K:cG)(T:kO)(r:V->J V->Hp->VK->Prop)(c:TE)(t:TA):TE:=λY H Q=>c Y H λx a=>Kk K T x a/\t Y a λd b=>r x d b Q
variable{o e:bU}{es:J bU}{to:TE}{t:TA}{name:U}{apos cpos:cW}{T id:kO}{r:V->J V->Hp->VK->Prop}
def xu(B:PlainAttrs T)(f:Slot T name id)(g:B8 (.builtin id)=dX (.type "method_descriptor"))(z:iI X id r)(A:PE X o to)(y:PA X (e::es) t)(b:zS o name X.env (fP o X.env)=fP o X.env:=by rfl)(d:((lV cpos (gG (e::es) X.env)).all (λx=> !x.1)&&(ie cpos (gt [] X.env)).all (λx=>x.1.isSome)
   &&cE (~~~(e::es)+ ~~~([]:J yO)+(if([]:J yO).isEmpty then 0 else 1)<30))=bF:=by rfl)(c:(apos.endLine==cpos.line)=bF:=by rfl)(hs:gG (e::es) X.env=(bJ,fP e X.env)::gG es X.env:=by rfl)(a:(lV cpos (gG es X.env)).any (·.1)=bJ:=by rfl):
 PE X (.Call (.Attribute o name apos) (e::es) [] cpos) (VU X.K T r to t):=by
 intro i s Y H Q I h;refine wpAny_Call_method_late b d c bQ (dA (A i s Y H _ I h) λv G j=>?_);let⟨x,n,k,m,N,C⟩:=j;let⟨u,w⟩:=VT k m N;refine⟨T,id,B,f,g,u,w,?_⟩;let l:=y cpos i G Y n _ k C;rw[hs]at l|-;refine A0 (by show(bJ||(lV cpos (gG es X.env)).any (·.1))=bJ;rw[a]<;>rfl) (vu ?_);calc dA l λO M j=>by let⟨P,p,q,F,E⟩:=j;calc z i M Y p x P v O Q q m F E
end
def Kl(X:Cx)(id:kO)(r:V->J V->Hp->VK->Prop):Prop:=
 ∀(a:J (bI×cY)) (s:bT) (Y:St) (H:Hp) (x:V) (c:J V) (v:bK) (b:J bK) (Q:VK),bS X a Y H s->dM x v->dR c b->r x c H Q->
  (X>>>(call (.builtin id) (v::b))) (EP X a Y Q) X.xe s
def dR.one:∀{x us},dR [x] us->∃u,us= [u]/\dM x u|_,_,.cons r .nil=>⟨_,rfl,r⟩
def bS.lset{its:J bK}(I:bS X pe Y H s)(a:H l=L (.l xs))(e:s.heap.get? l=L {cls:=.type "list",data:=.seq its.toArray n})(c:f its.toArray=its'.toArray)(g:dR ys its')(hz: ~~~ys<=cR):
 bS X pe Y (upd H l (.l ys)) {s with heap:=s.heap.update l (IR f),toks:=t'}:=by
 let q:=PySem.IsL.update e f;rw[c]at q;refine I.write (x:=l) (e:=l) (by rw[a];calc trivial) (.inl bQ) (λh u b d=>(Heap.get?_update_other s.heap (IR f) (ip b)).trans d) ⟨_,q⟩ ?_;calc⟨hz,its',_,g,q⟩
def bS.lnew(I:bS X pe Y H s)(a:dR ys its)(hz: ~~~ys<=cR):
 bS X pe Y (upd H s⁻¹ (.l ys)) {s with heap:=s.heap.push {cls:=.type "list",data:=.seq its.toArray},toks:=t'}:=
 I.laid (λ_ _ q=>gF _ q) (cU _) ⟨hz,its,0,a,lC _ bQ⟩
def bS.fresh(I:bS X pe Y H s):H s⁻¹=bL:=I.hok.fresh (cU _)
def bS.lstM(I:bS X pe Y H s)(a:H l=L (.l xs)): ~~~xs<=cR/\ ∃(its:J bK) (n:bD),dR xs its/\~~~xs= ~~~its/\s.heap.get? l=L {cls:=.type "list",data:=.seq its.toArray n}:=by let⟨z,its,n,r,e⟩:=I.hok l _ a;calc⟨z,its,n,r,~~~r,e⟩
def VV(h:n<=cR):AY n=bJ:=by delta AY;calc jI bZ
def VW:V->J V->Hp->VK->Prop:=λx b H Q=>∃l a y,x= .ref l/\b= [y]/\H l=L (.l a)/\~~~a<cR/\Q .n (upd H l (.l (a++ [y])))
theorem CB:Kl X "list.append" VW:=by
 intro j s Y H x m v k Q I f d h;let⟨l,o,y,rfl,rfl,b,i,q⟩:=h;cases f;let⟨u,rfl,c⟩:=d.one;let⟨z,a,n,r,g,e⟩:=I.lstM b;refine gy Hq ⟨_,e,rfl⟩ F.entry_list_append (F.args_list_append_2 _ _) (PySem.list_append l a.toArray n u (by rw[hY];lia)) ⟨e,?_⟩;refine⟨.n,_,I.lset (its':=a++ [u]) b e cS (r.append (.cons c .nil)) ?_,rfl,q⟩;rw[cO,vq]
 lia
section
variable{prog:fH}{w:cD}{A:gW}{E:bK->bT->Prop}{s:bT}
end
end L2
namespace Att
open PySem PySem.W PySem.Calls PyProof.Rows
def VX:∀ns vs,WellAll P h vs (ns.map Tc)->w5 vs ns:=by
 intro ns;induction ns with
 |nil=>intro vs w;rw[zU]at w;cases w;calc .nil
 |cons n ns c=>
  intro vs w;rw[fY]at w;cases w with
  |cons a b=>cases a;calc .cons _ _ (c _ b)
def VY{l:wv}(t:l.most=L n)(b:l.row.toRowW.claim.pre args=bF)(k:WellAll P h c args):
 ∃a vs ns,c= [lD a]/\args= [WData.list (ns.map Tc)]/\h.get? a=L {cls:=.type "list",data:=.seq vs.toArray}/\w5 vs ns/\~~~ns<=n:=by
 let j:WShape.hasAll [] args [.list .int]=bF:=(pre_splitW b).1;let m:l.pre.holds [] {args:=args}=bF:=(pre_splitW b).2;let⟨d,r,rfl,o,p⟩:=hasAllW_cons j;obtain rfl:=hasAllW_nil p;let⟨x,rfl,s⟩:=hasW_list o;let⟨ns,rfl⟩:=items_int s;let f: ~~~ns<=n:=by
  delta OpenLaw.pre at m;let g:(WTm.not (.lt (.lit (.int (n:bH))) (.len (.arg 0)))).holds [] {args:=[.list (ns.map .int)]}=bF:=by let g:=(holds_andW m).1;rw[t]at g;exact g
  let i:=condW_of g (w_not (w_lt w_lit (w_len_list (w_arg rfl))));rw[cA]at i;refine oY λq=>?_
  let v:(n:bH)<((~~~ns:bD):bH):=bZ
  first
   | (rw[kF v]at i;calc dD i hG)
   | (simp at i;lia)
 cases k with
 |cons w1 w=>
  cases w;cases w1 with
  |list u e=>calc⟨_,_,ns,rfl,rfl,u,VX ns _ e,f⟩
def VZ(l:wv)(args):l.row.toRowW.claim.post args (.bool bF) args=bF:=
 postW_of (r:=l.row.toRowW) (X:=(bF==bF))
  (show S6 [] (.bool bF) .bool=bF by first|rfl|decide|simp[S6,WShape.arms,WShape.armsAll])
  (show(WTm.eq .res (.lit (.bool bF))).value [] {args:=args,res:=L (.bool bF),after:=args}=L (.bool (bF==bF))from w_eq_bool (w_res bQ) w_lit) bQ
def attach_call{l:wv}{z:(U->bR bK)->cH->Prop}{A:cD->cH->Prop}(T:l.most=L n)(s:d.params.defaults= [])(g:∀(w:cD) (y s₁:bT) (mg v:U->bR bK) (h:bI) (o:cY) (x m c:bK) (a:bI) (vs:J bK) (ns:J bH),
   Ground q b [] z w y mg v s₁.heap->A w s₁.heap->
   s₁.heap.get? h=L o->o.data= .func (docDef d.name d.params d.body d.scope x m c)->s₁.heap.CodeRec m d.name->mg d.name=L (.ref h)->
   s₁.heap.get? a=L {cls:=.type "list",data:=.seq vs.toArray}->w5 vs ns-> ~~~ns<=n->s₁.gens= #[]->
   codeAny (bY l.prog w) lx (.call (.ref h) ⟨[.ref a],[]⟩) (λr s'=>r= .ok (.ret (.bool bF))/\OldK s₁.heap s'.heap/\s'.os=s₁.os/\af s'.gens) s₁):
 WalkO q b z A l.row.toRowW d [] (λf vs=>S7 f vs):=by
 intro w y s₁ mg v G H h o x m c I kV W O p C t P B F Z k E Y u Q;obtain rfl:I= .none:=Dflts.none C s;obtain rfl:kV= .none:=Dflts.noKw C;let⟨a,vs,ns,rfl,rfl,j,e,i⟩:=VY T k u;refine enter_call (aY (g w y s₁ mg v h o x m c a vs ns G H W (fd_plain O) p t j e i P) λr s' X=>?_);let⟨rfl,K,M,N⟩:=X;calc⟨.inl ⟨.bool bF,.bool bF,[],rfl,λ_=>rfl,.bool bF,VZ l _,λ_=>⟨cG9,λ_ S=>(nomatch S)⟩⟩,K,M,N⟩
section
variable{prog:fH}{w:cD}{A:gW}{E:bK->bT->Prop}{s:bT}{K:cG}
noncomputable def cH3(h:cH)(b d:bI):J (bI×cY):=(gK h.objs.size).filterMap λa=>if a=b\/a=d then bL else(h.get? a).map λo=>(a,o)
end
end Att
namespace L2
open PySem PySem.Spec PyProof.Rows
theorem Km:∀{vs ns},w5 vs ns->dR (ns.map V.int) vs|_,_,.nil=>.nil|_,_,.cons n t h=>.cons ⟨t,rfl⟩ (Km h)
noncomputable abbrev KOf{K:cG}(_:K.In h):cG:=K
noncomputable def iJ(s:fQ):BF:=match s with| .FunctionDef _ a _ _ _ _ _ _ _ _=>a|_=>{posonlyargs:=[],args:=[],vararg:=bL,kwonlyargs:=[],kw_defaults:=[],kwarg:=bL,defaults:=[]}
noncomputable def mG(s:fQ):J fQ:=match s with| .FunctionDef _ _ b _ _ _ _ _ _ _=>b|_=>[]
noncomputable def dU(s:fQ):kS:=match s with| .FunctionDef _ _ _ _ _ _ a _ _ _=>a|_=>{kind:=.function,names:=[],isGenerator:=bJ,isCoroutine:=bJ}
noncomputable abbrev fS:vG:=λ_ _ _ _ _ _=>hI
noncomputable abbrev E0:XK:=λ_ _ _=>hI
def rY:eD fS X E0:=λ_ _ _ _ _ _ _ h=>h.elim
structure jB(K:cG)(x qual:U)(st:fQ)(f:bI)(fd:fO):Prop where
 ex:∃(oc:bK) (od:bR bI) (kV doc pm:bK) (an:bR bI) (cdv ct:bK) (osl:dE (bR bK)),
  fd=iv x qual (iJ st) (mG st) (dU st) .none kV doc pm an cdv ct/\K.lookup f=L ⟨oc,od,.func fd,osl⟩/\zZ K cdv qual=bF
 kp:lE K (.ref f)=bF
theorem jB.ok{K:cG}{st:fQ}(F:jB K x qual st f fd)(S:pT N ps (dU st))(d:∀vs H Q E,e vs H Q E-> ~~~vs= ~~~ps)(a:∀(cdv:bK) (A:gW) (outer:J jK) (s:bT) (H:Hp) (vs:J V) (Q:VK) (E:XK),fZ k (A.deeper (nZ qual (dU st) s⁻¹ f cdv))->e vs H Q E->
   ∃t,pA (nG fS P w K mg base N qual (dU st) f cdv A outer s H E).nox (mG st) t/\t {nx:=λ_ g=>Q .n g,rt:=Q} (start N vs) H):fC P w K mg base fS (k+1) f fd ps e:=by
 let⟨o,p,kV,i,r,an,cdv,m,l,rfl,lk,b⟩:=F.ex;refine Cz lk b S d λA outer s H vs Q E j c=>?_
 let⟨t,h,q⟩:=a cdv A outer s H vs Q E j c;calc⟨t,h.nox,q⟩
theorem jB.binds{K:cG}{st:fQ}(F:jB K x qual st f fd)(h:∀(kV a c:bK) (an:bR bI) (cdv b:bK) (us:J bK),~~~us= ~~~ps->BR (iv x qual (iJ st) (mG st) (dU st) .none kV a c an cdv b) ⟨us,[]⟩=dX (ps.zip us)):jO K fd ps []:=by
 let⟨g,i,kV,a,c,an,cdv,b,e,rfl,lk,d⟩:=F.ex;calc .all (h kV a c an cdv b)
def qk{K:cG}{st:fQ}{kV:bK}(l:K.lookup f=L ⟨oc,g,.func (iv x qual (iJ st) (mG st) (dU st) .none kV a e an cdv d),b⟩)(c:zZ K cdv qual=bF)(k:lE K (.ref f)=bF):jB K x qual st f (iv x qual (iJ st) (mG st) (dU st) .none kV a e an cdv d):=⟨⟨oc,g,kV,a,e,an,cdv,d,b,rfl,l,c⟩,k⟩
def hu_of(a:fZ k A):A.units+1<jU:=oT (Nat.add_le_add_left (by decide:1<=64) _) a.units
def CF(h:n<=1000):n<cR:=oT h hG
def yS{A B:Prop}(h:B):if bJ=bF then A else B:=by rw[cX wQ];calc h
def xG{A B:Prop}(h:A):if bF=bF then A else B:=by rw[cK bQ];calc h
def bX(H a:Hp):Prop:=∀b o,H b=L o->a b=L o
def bX.refl(H):bX H H:=λ_ _ h=>h
def bX.trans(a:bX H d)(b:bX d e):bX H e:=λc o h=>b c o (a c o h)
def bX.free(e:bX H a)(h:a l=bL):H l=bL:=by
 cases q:H l with
 |none=>rfl|some o=>rw[e l o q]at h;cases h
def bX.seq{K:cG}(e:bX H b)(h:jA K H a xs):jA K b a xs:=by
 rcases h with(h|⟨o,h⟩)|h
 .exact .inl (.inl (e _ _ h))
 .exact .inl (.inr ⟨o,e _ _ h⟩)
 calc .inr h
section
variable{κ:Type} [sP κ]
noncomputable def rF(kvs:J (κ×V))(k:κ):bR V:=(kvs.find? λkv=>cE (kv.1=k)).map (·.2)
noncomputable def wD(kvs:J (κ×V))(k:κ)(v:V):J (κ×V):=
 if(kvs.any λkv=>cE (kv.1=k))=bF then kvs.map (λkv=>if kv.1=k then(kv.1,v)else kv)else kvs++ [(k,v)]
noncomputable def xH(kvs:J (κ×V))(k:κ):J (κ×V):=kvs.filter λkv=>cE (kv.1≠k)
def CG{k:κ}(e:p.1=k):rF (p::r) k=L p.2:=by simp[rF,zR,e]
def CH{k:κ}(e: ¬ p.1=k):rF (p::r) k=rF r k:=by simp[rF,zR,e]
theorem Kn(k):∀kvs:J (κ×V),(kvs.any λkv=>cE (kv.1=k))=(rF kvs k).isSome
 | []=>rfl|p::r=>by
  rw[wU];by_cases e:p.1=k
  .dsimp[CG e,kF e,Bool.true_or,Option.isSome_some]
  rw[CH e,jI e,Sy];calc Kn k r
def Ko(kvs)(k:κ)(v): ~~~(wD kvs k v)<= ~~~kvs+1:=by
 delta wD;split
 .rw[cA];lia
 rw[cO,dB,mF];lia
def RelO.isSome_eq(r:RelO o u):o.isSome=u.isSome:=by
 cases o with
 |none=>cases u with
  |none=>rfl|some _=>calc(show hI from r).elim
 |some _=>cases u with|none=>calc(show hI from r).elim|some _=>rfl
def RelO.getD(r:RelO o u)(a:dM d d'):dM (o.getD d) (u.getD d'):=by
 cases o with
 |none=>cases u with
  |none=>calc a|some _=>calc(show hI from r).elim
 |some _=>cases u with|none=>calc(show hI from r).elim|some _=>calc r
def KV.val(r:KV kvs vs)(k:κ):RelO (rF kvs k) (iq vs k):=by
 delta KV at r;induction r with
 |nil=>calc el| @cons p q i c h t g=>
  let⟨d,f⟩:=h;by_cases e:p.1=k
  .let a:q.1=k:=d.symm.trans e;let b:iq (q::c) k=L q.2:=by simp[iq,zR,a]
   rw[CG e,b];exact f
  let a: ¬ q.1=k:=λz=>e (d.trans z)
  let b:iq (q::c) k=iq c k:=by simp[iq,zR,a]
  rw[CH e,b];calc g
def KV.any(r:KV kvs vs)(k:κ):(kvs.any λkv=>cE (kv.1=k))=vs.any λkv=>cE (kv.1=k):=by
 delta KV at r;induction r with
 |nil=>rfl|cons h t a=>rw[wU,wU,a,h.1]
def KV.repl(r:KV kvs vs)(k:κ)(d:dM y u):
 KV (kvs.map λkv=>if kv.1=k then(kv.1,y)else kv) (vs.map λkv=>if kv.1=k then(kv.1,u)else kv):=by
 delta KV at r|-;induction r with
 |nil=>calc .nil| @cons p q f g h t c=>
  rw[fY,fY];refine .cons ?_ c;let⟨a,b⟩:=h;by_cases e:p.1=k
  .rw[cK e,cK (a.symm.trans e)];exact⟨a,d⟩
  rw[cX e,cX (λz=>e (a.trans z))];calc⟨a,b⟩
def KV.put(r:KV kvs vs)(k:κ)(a:dM y u):KV (wD kvs k y) (B9 vs k u):=by
 delta wD B9;rw[r.any k];by_cases e:(vs.any λkv=>cE (kv.1=k))=bF
 .rw[cK e,cK e];exact r.repl k a
 rw[cX e,cX e];calc Paired.snoc r ⟨rfl,a⟩
def KV.drop(r:KV kvs vs)(k:κ):KV (xH kvs k) (without vs k):=by
 delta KV at r|-;delta xH without;induction r with
 |nil=>calc .nil| @cons p q i j h t d=>
  let⟨c,g⟩:=h;rw[rC,rC];by_cases e:p.1=k
  .let a: ¬ cE (p.1≠k)=bF:=by simp[e]
   let b: ¬ cE (q.1≠k)=bF:=by simp[c.symm.trans e]
   rw[cX a,cX b];exact d
  let f: ¬ q.1=k:=λz=>e (c.trans z)
  let a:cE (p.1≠k)=bF:=by simp[e]
  let b:cE (q.1≠k)=bF:=by simp[f]
  rw[cK a,cK b];calc .cons ⟨c,g⟩ d
def KV.length{vs:J (κ×bK)}(r:KV kvs vs): ~~~kvs= ~~~vs:=kx r
def V0(kvs)(k:κ): ~~~(xH kvs k)<= ~~~kvs:=vt _ _
end
def eJ(r:dM (kV k) u):(kA P w).is k u=bF:=by
 cases k with
 |inl i=>let⟨t,e⟩:=(show ∃t,u=lc i t from r);subst e;calc TV P w i t|inr x=>let⟨t,e⟩:=(show ∃t,u=g5 x t from r);subst e;calc iB P w x t
def V1(ok:kB P w H h)(e:Rd H a u):nD P w H h a u:=e.ok ok
def xI(ok:kB P w H h)(e:Rd H a (.dK kvs)): ~~~kvs<=cR/\(a==vC)=bJ/\ ∃vs,KV kvs vs/\h.DictOf (kA P w) a vs:=
 show nD P w H h a (.dK kvs)from V1 ok e
def CI(ok:kB P w H h)(e:H a=L (.dK kvs)): ~~~kvs<=cR/\(a==vC)=bJ/\ ∃vs,KV kvs vs/\h.DictOf (kA P w) a vs:=xI ok (.inl e)
def xJ(H:Hp)(a:bI)(y:V)(r:bR V):Prop:=
 (∃b k,Rd H a (.dK b)/\y=kV k/\r=rF b k)\/hI
def mj(H:Hp)(a:bI)(y v:V)(c:Hp):Prop:=
 (∃b k,H a=L (.dK b)/\y=kV k/\~~~b<cR/\c=upd H a (.dK (wD b k v)))\/
 hI
def xJ.k{H:Hp}{a:bI}{kvs:J (gN×V)}{k:gN}(e:H a=L (.dK kvs)):xJ H a (kV k) (rF kvs k):=.inl ⟨kvs,k,.inl e,rfl,rfl⟩
def mj.k{H:Hp}{a:bI}{kvs:J (gN×V)}{k:gN}{v:V}(e:H a=L (.dK kvs))(b: ~~~kvs<cR):mj H a (kV k) v (upd H a (.dK (wD kvs k v))):=.inl ⟨kvs,k,e,rfl,b,rfl⟩
section
variable{X:Cx}{pe:J (bI×cY)}{Y:St}{H:Hp}{s:bT}{a:bI}{y v:V}{u r:bK}{o:bR V}{A:gW}{E:bK->bT->Prop}
def bS.big(I:bS X pe Y H s):vC<s⁻¹:=by let h:kH<s⁻¹:=(I.mod.glob.keeps I.bk).lt;calc SG hG h
def V2{Q:bK->bT->Prop}(q:A.units+1<jU)(I:bS X pe Y H s)(g:xJ H a y (L v))(m:dM y u)(h:∀b s',bS X pe Y H s'->dM v b->Q b s'):
 wpAny (bY X.prog X.w) A (bc (.ref a) u) Q E s:=by
 rcases gj g id with⟨j,k,e,f,l⟩
 .subst f;let⟨z,p,n,c,dd⟩:=xI I.hok e;let⟨b,i,d⟩:=RelO.some_of (v:=v) (o:=iq n k) (by rw[l];calc c.val k);calc RI (eJ m) dd.mapOf i (h b _ (I.tok _) d)
def V3{Q:bK->bT->Prop}(j:A.units+1<jU)(I:bS X pe Y H s)(g:xJ H a y o)(i:dM y u)(h:∀s',bS X pe Y H s'->Q (.bool o.isSome) s'):
 wpAny (bY X.prog X.w) A (jH .In u (.ref a)) Q E s:=by
 rcases gj g id with⟨f,k,e,c,l⟩
 .subst c;let⟨z,d,m,b,dd⟩:=xI I.hok e;refine wpAny_in_of (eJ i) d dd.mapOf ?_;rw[<-(b.val k).isSome_eq, <-l];calc h _ (I.tok _)
def V4{Q:bK->bT->Prop}(j:A.units+1<jU)(I:bS X pe Y H s)(g:xJ H a y o)(i:dM y u)(h:∀s',bS X pe Y H s'->Q (.bool (!o.isSome)) s'):
 wpAny (bY X.prog X.w) A (jH .NotIn u (.ref a)) Q E s:=by
 rcases gj g id with⟨f,k,e,c,l⟩
 .subst c;let⟨z,d,m,b,dd⟩:=xI I.hok e;refine R9 (eJ i) d dd.mapOf ?_;rw[<-(b.val k).isSome_eq, <-l];calc h _ (I.tok _)
def Kq(I:bS X pe Y H s)(f:p6 (H a))(hs:nY a s.heap h')(he:∃q,h'.get? a=L q)(c:nD X.prog X.w (upd H a ob) h' a ob):
 bS X pe Y (upd H a ob) {s with heap:=h',toks:=t'}:=
 I.write (x:=a) (e:=a) f (.inl bQ) (λb q d z=>(hs.2 b d).trans z) he c
def xv(z: ~~~kvs<=cR)(d:(a==vC)=bJ)(b:KV kvs vs)(dd:h'.DictOf (kA P w) a vs):
 nD P w c h' a (.dK kvs):=⟨z,d,vs,b,dd⟩
def V5{Q:mY->bT->Prop}(G:A.units+1<jU)(I:bS X pe Y H s)(g:mj H a y v f)(C:dM y u)(B:dM v r)(h:∀s',bS X pe Y f s'->Q () s'):
 wpAny (bY X.prog X.w) A (setItem (.ref a) u r) Q E s:=by
 rcases gj g id with⟨c,k,e,j,l,i⟩
 .subst j i;let⟨z,n,F,d,dd⟩:=CI I.hok e;let x: ~~~F<=cR:=by rw[<-d.length];exact z
  let p: ~~~(wD c k v)<=cR:=by have:=Ko c k v;lia
  refine wpAny_setItem_pairs (hsz:=x) (eJ C) dd λm b t=>h _ ?_
  let o:∃q,m.get? a=L q:=let ⟨q,_,_,hq,_⟩:=b;⟨q,hq⟩;calc Kq I (by rw[e];calc el) t o (xv p n (d.put k B) b)
end
section
variable{X:Cx}{pe:J (bI×cY)}{Y:St}{H:Hp}{s:bT}{a:bI}{kvs:J (gN×V)}{k:gN}{u:bK}{A:gW}{E:bK->bT->Prop}
def V6{Q:bK->bT->Prop}(I:bS X pe Y H s)(e:H a=L (.dK kvs))(g:dM (kV k) u)(l:rF kvs k=L v)(j:more= []\/ ∃x,more= [x])(h:∀d s',bS X pe Y (upd H a (.dK (xH kvs k))) s'->dM v d->Q d s'):wpAny (bY X.prog X.w) A (call (.builtin "dict.pop") (.ref a::u::more)) Q E s:=by
 let⟨z,r,m,b,dd⟩:=CI I.hok e;let⟨d,G,f⟩:=RelO.some_of (v:=v) (o:=iq m k) (by rw[<-l];calc b.val k);let B:(keyPart u).isSome=bF:=by
  cases k with
  |inl i=>let⟨t,q⟩:=(show ∃t,u=lc i t from g);subst q;rfl|inr x=>let⟨t,q⟩:=(show ∃t,u=g5 x t from g);subst q;rfl
 let p:argsOk "dict.pop" ⟨.ref a::u::more,[]⟩:=by
  rcases j with q|⟨x,q⟩
  .subst q;exact PySem.F.args_dict_pop_2 _ _
  subst q;exact PySem.F.args_dict_pop_3 _ _ _
 refine Iu QX dd.typeIs PySem.F.entry_dict_pop p (meets_dict_pop_there (kA X.prog X.w) a (eJ g) more j B)
  ⟨m,d,dd,by rw[<-b.length];calc z,G,λn c C=>h d _ ?_ f⟩
 let y:∃q,n.get? a=L q:=let ⟨q,_,_,hq,_⟩:=c;⟨q,hq⟩;calc Kq I (by rw[e];calc el) C y (xv (hE (V0 kvs k) z) r (b.drop k) c)
def V7{Q:bK->bT->Prop}(I:bS X pe Y H s)(e:Rd H a (.dK kvs))(h:∀t s',bS X pe Y H s'->Q (.int kvs.length t) s'):wpAny (bY X.prog X.w) A (call (.builtin "len") [.ref a]) Q E s:=by let⟨z,c,d,b,dd⟩:=xI I.hok e;refine call_len_dict c dd (by rw[<-b.length];rw[vA]at z;lia) ?_;rw[<-b.length];calc h _ _ (I.tok _)
end
def V8(I:bS X c Y H s)(g:xJ H a y o):s.TypeIs (.ref a) "dict" :=by
 rcases gj g id with⟨b,k,e,_,_⟩
 .let⟨_,_,d,_,dd⟩:=xI I.hok e;calc dd.typeIs
noncomputable def V9(f h g:TE):TS:=λD Y H=>g Y H λv c=>f Y c λx d=>h Y d λy e=>∃a b,x= .ref a/\mj e a y v b/\D.nx Y b
def Kr(q:X.A.units+1<jU)(p:PE X o td)(n:PE X i ty)(t:PE X value tv)(hs:em value (L (.Subscript o i pos')) pos.line X.env=dX bJ):
 PS X (.Assign [.Subscript o i pos'] value pos) (V9 td ty tv):=by
 intro b s Y H D I h;refine wpAny_Assign_Subscript (dA (t b s Y H _ I h) λr K ⟨v,c,f,E,w⟩=>dA (p b K Y c _ f w) λu M ⟨x,d,j,F,z⟩=>dA (n b M Y d _ j z) λO P C=>?_) hs;let⟨y,N,k,G,a,e,m,g,B⟩:=C;subst m;obtain rfl:u=lD a:=F;calc V5 q k g G E λQ l=>⟨Y,e,l,B⟩
def Wa(h:cH)(a:vC<h.objs.size):nD P w H (h.push {cls:=.type "dict",data:=.dict #[]}) h.objs.size (.dK []):=
 ⟨lL _,lT.mpr (ip (hJ a)),[],.nil,RT h⟩
def Wb:TE:=λ_ H Q=>∀p,H p=bL->Q (.ref p) (upd H p (.dK []))
def qm:PE X (.Dict [] [] pos) Wb:=λb s Y H Q I h=>
 wpAny_Dict_empty ⟨.ref s⁻¹,_,I.laid (a:=s⁻¹) (o:=.dK []) (t':=s.toks) (λ_ _ q=>gF _ q) (cU _) (Wa s.heap I.big),rfl,h _ (I.hok.fresh (cU _))⟩
def mn(kvs more:J (gN×V)):J (gN×V):=more.foldl (λa kv=>wD a kv.1 kv.2) kvs
def KV.merge:∀{more a kvs vs},KV more a->KV kvs vs->KV (mn kvs more) (Ca vs a):=by
 intro more a kvs vs r;delta KV at r;induction r generalizing kvs vs with
 |nil=>intro q;calc q
 | @cons p q d f h t b=>
  intro c;let e:KV (wD kvs p.1 p.2) (B9 vs q.1 q.2):=by have:=c.put p.1 h.2;rw[<-h.1];exact this
  calc b e
theorem Ks:∀more kvs,~~~(mn kvs more)<= ~~~kvs+ ~~~more| [],kvs=>by show ~~~kvs<= ~~~kvs+0;lia|p::r,kvs=>by let a:=Ks r (wD kvs p.1 p.2);let b:=Ko kvs p.1 p.2;show(mn (wD kvs p.1 p.2) r).length<=_;rw[dB];lia
structure M1(X:Cx)(o:bU)(m:U)(apos:cW)(e:bU)(cpos:cW):Prop where
 base:zS o m X.env (fP o X.env)=fP o X.env
 few:((lV cpos (gG [e] X.env)).all (λx=> !x.1)&&(ie cpos (gt [] X.env)).all (λx=>x.1.isSome)
  &&cE (~~~([e]:J bU)+ ~~~([]:J yO)+(if([]:J yO).isEmpty then 0 else 1)<30))=bF
 line:(apos.endLine==cpos.line)=bF
 trees:lV cpos (gG [e] X.env)= [(bJ,fP e X.env)]
structure M2(X:Cx)(o:bU)(m:U)(apos:cW)(e f:bU)(cpos:cW):Prop where
 base:zS o m X.env (fP o X.env)=fP o X.env
 few:((lV cpos (gG [e,f] X.env)).all (λx=> !x.1)&&(ie cpos (gt [] X.env)).all (λx=>x.1.isSome)
  &&cE (~~~([e,f]:J bU)+ ~~~([]:J yO)+(if([]:J yO).isEmpty then 0 else 1)<30))=bF
 line:(apos.endLine==cpos.line)=bF
 trees:lV cpos (gG [e,f] X.env)= [(bJ,fP e X.env),(bJ,fP f X.env)]
def xw(H:Hp)(a:bI):Prop:=(∃b,Rd H a (.dK b))\/hI
def CJ(I:bS X i Y H s)(d:xw H a):
 s.TypeIs (.ref a) "dict" /\(∀b,lD a= .ref b->∃ob,s.heap.get? b=L ob/\ob.dict=bL)/\(a==vC)=bJ:=by
 rcases gj d id with⟨h,e⟩
 .let⟨_,g,j,_,dd⟩:=xI I.hok e;refine⟨dd.typeIs,λb q=>?_,g⟩;cases q;let⟨ob,_,_,c,f,_⟩:=dd;calc⟨ob,c,f.2.1⟩
section
variable{X:Cx}{pe:J (bI×cY)}{Y:St}{H:Hp}{s:bT}{a:bI}{y d:V}{u r:bK}{o:bR V}{A:gW}{E:bK->bT->Prop}
def Wc{Q:bK->bT->Prop}(m:A.units+1<jU)(I:bS X pe Y H s)(g:xJ H a y o)(j:dM y u)(h:∀c s',bS X pe Y H s'->dM (o.getD .n) c->Q c s'):
 wpAny (bY X.prog X.w) A (call (.builtin "dict.get") [.ref a,u]) Q E s:=by
 rcases gj g id with⟨i,k,e,d,l⟩
 .subst d;let⟨z,f,p,b,dd⟩:=xI I.hok e;refine Iu A3 dd.typeIs QT (PySem.F.args_dict_get_2 _ _) (meets_dict_get (kA X.prog X.w) a (eJ j) f) ⟨_,dd.mapOf,h _ _ (I.tok _) ?_⟩;rw[l];calc(b.val k).getD bQ
def Wd{Q:bK->bT->Prop}(p:A.units+1<jU)(I:bS X pe Y H s)(g:xJ H a y o)(n:dM y u)(m:dM d r)(h:∀c s',bS X pe Y H s'->dM (o.getD d) c->Q c s'):
 wpAny (bY X.prog X.w) A (call (.builtin "dict.get") [.ref a,u,r]) Q E s:=by
 rcases gj g id with⟨j,k,e,f,l⟩
 .subst f;let⟨z,i,q,b,dd⟩:=xI I.hok e;refine Iu A3 dd.typeIs QT (PySem.F.args_dict_get_3 _ _ _) (meets_dict_get_default (kA X.prog X.w) a (eJ n) i r) ⟨_,dd.mapOf,h _ _ (I.tok _) ?_⟩;rw[l];calc(b.val k).getD m
end
noncomputable def We(d e:TE):TE:=λY H Q=>d Y H λx b=>∃a,x= .ref a/\xw b a/\e Y b λy c=>∃o,xJ c a y o/\Q (o.getD .n) c
noncomputable def Wf(e g f:TE):TE:=λY H Q=>e Y H λx b=>∃a,x= .ref a/\xw b a/\g Y b λy d=>f Y d λz c=>∃o,xJ c a y o/\Q (o.getD z) c
def Wg(e f:TE):TE:=λY H Q=>e Y H λx c=>∃a,x= .ref a/\xw c a/\f Y c λy d=>∃b k v,d a=L (.dK b)/\y=kV k/\rF b k=L v/\Q v (upd d a (.dK (xH b k)))
def Wh(q:X.A.units+1<jU)(p:PE X o td)(he:PE X e ty)(m:M1 X o "get" apos e cpos):PE X (.Call (.Attribute o "get" apos) [e] [] cpos) (We td ty):=by intro f s Y H Q I h;refine HC m.base m.few m.line Hh A3 QY (dA (p f s Y H _ I h) λu B v=>?_);let⟨x,i,c,w,a,n,d,r⟩:=v;subst n;obtain rfl:u=lD a:=w;let⟨C,E,_⟩:=CJ c d;refine⟨C,E,?_⟩;rw[m.trees];refine A0 rfl (vu (ge (dA (he f B Y i _ c r) λF K ⟨y,j,k,z,G,g,t⟩=>v4 ?_)));calc Wc q k g z λN M l b=>⟨_,j,l,b,t⟩
def Wi(w:X.A.units+1<jU)(v:PE X o td)(he:PE X e ty)(t:PE X f tx)(m:M2 X o "get" apos e f cpos):PE X (.Call (.Attribute o "get" apos) [e,f] [] cpos) (Wf td ty tx):=by
 intro b s Y H Q I h;refine HC m.base m.few m.line Hh A3 QY (dA (v b s Y H _ I h) λu N F=>?_);let⟨x,j,i,G,a,r,d,B⟩:=F;subst r;obtain rfl:u=lD a:=G;let⟨P,S,_⟩:=CJ i d;refine⟨P,S,?_⟩;rw[m.trees]
 refine A0 rfl (vu (ge (dA (he b N Y j _ i B) λW O ⟨y,k,n,K,C⟩=>
  ge (dA (t b O Y k _ n C) λT s3 ⟨z,l,p,M,Z,g,E⟩=>v4 ?_))))
 calc Wd w p g K M λw' s4 q c=>⟨_,l,q,c,E⟩
def Wj(r:PE X o td)(he:PE X e ty)(m:M1 X o "pop" apos e cpos):PE X (.Call (.Attribute o "pop" apos) [e] [] cpos) (Wg td ty):=by intro f s Y H Q I h;refine HC m.base m.few m.line Hh QX PySem.F.type_dict_pop (dA (r f s Y H _ I h) λu E A=>?_);let⟨x,g,c,B,a,p,d,w⟩:=A;subst p;obtain rfl:u=lD a:=B;let⟨G,K,_⟩:=CJ c d;refine⟨G,K,?_⟩;rw[m.trees];refine A0 rfl (vu (ge (dA (he f E Y g _ c w) λN O ⟨y,M,i,C,t,k,v,n,q,l,z⟩=>v4 ?_)));subst q;calc V6 i n C l (.inl rfl) λS P j b=>⟨v,_,j,b,z⟩
section
variable{X:Cx}{pe:J (bI×cY)}{Y:St}{H:Hp}{s:bT}{a:bI}{kvs:J (gN×V)}{A:gW}{E:bK->bT->Prop}
def Wk{Q:bK->bT->Prop}(I:bS X pe Y H s)(e:Rd H a (.dK kvs))(h:∀p s',H p=bL->bS X pe Y (upd H p (.dK kvs)) s'->Q (.ref p) s'):wpAny (bY X.prog X.w) A (call (.type "dict") [.ref a]) Q E s:=by
 let⟨z,g,k,c,dd⟩:=xI I.hok e;refine kt_call_dict g dd (by rw[<-c.length];calc z) λj d i=>?_
 refine h _ _ (I.hok.fresh (cU _)) (I.laid (a:=s⁻¹) (o:=.dK kvs) (t':=s.toks) (λb q f=>?_) (cU _) (xv z (lT.mpr (ip (hJ I.big))) c d));calc(i.2 b (hJ (gH f))).trans (gF _ f)
end
section
variable{X:Cx}{pe:J (bI×cY)}{Y:St}{H:Hp}{s:bT}{a:bI}{y:V}{u:bK}{A:gW}{E:bK->bT->Prop}
end
def Wm:jL X (.builtin "len") (λxs H Q=>∃a kvs,xs= [V.ref a]/\H a=L (.dK kvs)/\Q (.int (~~~kvs)) H):=by intro e s Y H xs g Q I r h;let⟨a,kvs,rfl,c,q⟩:=h;let⟨u,rfl,d⟩:=pR r;cases d;calc V7 I (.inl c) λt f b=>⟨.int (~~~kvs),H,b,⟨t,rfl⟩,q⟩
section
variable{κ:Type} [sP κ]
def Wn{k:κ}(e:p.1=k):xH (p::r) k=xH r k:=by delta xH;rw[rC,cX (by simp[e])]
def Wo{k:κ}(e: ¬ p.1=k):xH (p::r) k=p::xH r k:=by delta xH;rw[rC,cK (by simp[e])]
end
end L2
namespace R
open PySem PySem.Spec PyProof.Rows L2
variable{K:cG}{E Q Ex:bK->bT->Prop}{mg:U->bR bK}{H F T Ha F' Fa F2 H2:Hp}{pe:J (bI×cY)}{X:Cx}{x y qual z q:U}{s s':bT}{P prog:fH}{M ifs elts:J bU}{k i n ep mask j j0:bD}{pos p py cp px p1 ap pt apos cpos:cW}{A:gW}{base h h':cH}{xs vs:J V}{fd:fO}{e iter tg elt value:bU}{sl sm:dE (bR bK)}{scope lsc:kS}{r:J V->Hp->VK->Prop}{α β:Type}{ps N caps os ts:J U}{kvs:J (gN×V)}{owner:dE (bR bD)}{env:jK}{ys items its:dE bK}{S:bI->Prop}{as fp ch:J bI}{t:ae}{op:am}{body rest:J fQ}{v:V}{l C dx cc ea c':bI}{tp neg:bW}{o:HO}{order:dE bD}{cells clos:J (U×bI)}{od:bR bI}{outer:J jK}{bmB bm:J bK}{each:mZ mY}{RR:bK->bI->pw->bT->Prop}{G:dE wp->dE wp->Prop}{XP:(U->bR bK)->cH->Prop}{next:bD->bD}{oc:bK}{newId:kO}{lps:BF}{hs:dE bH}{ls:J gN}{gens:J Ic}{YP:cD->cH->Prop}
section
abbrev St:=L2.St
inductive D where
 |n|b (b:bW)|int (i:bH)|str (x:U)|t (xs:J D)|l (xs:J D)|dct (ks:J U) (vs:J D)|shf (xs:J D)
inductive bP(α:Type)where
 |ok (a:α)|bad
noncomputable def bP.bind{α β:Type}(r:bP α)(f:α->bP β):bP β:=match r with| .ok a=>f a| .bad=>.bad
class dG where
 L:J (bI×cW×U)
 ap:∀t∈L,∀u∈L,t.1=u.1->t=u
 rc:bI
 sc:bI
noncomputable def shfN:J U:=["faces","face_keys","units","unit_keys","last_key"]
def xK[dG](a:bI)(xs:J V):HO:=.ins dG.sc a (shfN.zip xs)
section
variable [dG]
mutual
noncomputable def bM(K:cG)(F:Hp):D->V->Prop| .n,v=>v= .n| .b b,v=>v= .b b| .int i,v=>v= .int i| .str x,v=>v= .str x/\~~~x<=cR| .t c,v=>∃a xs,v= .ref a/\kJ K F a xs/\DatL K F c xs| .l c,v=>∃a xs,v= .ref a/\jA K F a xs/\DatL K F c xs| .dct d c,v=>∃a kvs,v= .ref a/\F a=L (.dK kvs)/\kvs.map (·.1)=d.map .inr/\DatL K F c (kvs.map (·.2))| .shf c,v=>∃a dx xs,v= .ref a/\F a=L (xK dx xs)/\~~~xs=5/\DatL K F c xs
noncomputable def DatL(K:cG)(F:Hp):J D->J V->Prop| [],xs=>xs= []|d::a,xs=>∃x r,xs=x::r/\bM K F d x/\DatL K F a r
end
omit [dG] in
def bX.seqT{a:bI}(e:bX H T)(h:kJ K H a xs):kJ K T a xs:=by
 rcases h with(h|⟨o,h⟩)|h
 .exact .inl (.inl (e _ _ h))
 .exact .inl (.inr ⟨o,e _ _ h⟩)
 calc .inr h
mutual
theorem bM.mono(e:bX F F'):∀{d:D} {v:V},bM K F d v->bM K F' d v| .n,_,h=>by dsimp at h|-;calc h| .b _,_,h=>by dsimp at h|-;calc h| .int _,_,h=>by dsimp at h|-;calc h| .str _,_,h=>by dsimp at h|-;calc h| .t i,_,h=>by dsimp at h|-;let⟨a,xs,c,f,g⟩:=h;calc⟨a,xs,c,bX.seqT e f,DatL.mono e g⟩| .l i,_,h=>by dsimp at h|-;let⟨a,xs,c,f,g⟩:=h;calc⟨a,xs,c,bX.seq e f,DatL.mono e g⟩| .dct k i,_,h=>by dsimp at h|-;let⟨a,xs,c,f,j,g⟩:=h;calc⟨a,xs,c,e _ _ f,j,DatL.mono e g⟩| .shf i,_,h=>by dsimp at h|-;let⟨a,dx,xs,c,f,j,g⟩:=h;calc⟨a,dx,xs,c,e _ _ f,j,DatL.mono e g⟩
theorem DatL.mono(e:bX F F'):∀{ds:J D} {xs:J V},DatL K F ds xs->DatL K F' ds xs| [],_,h=>by dsimp[DatL]at h|-;calc h|d::ds,_,h=>by dsimp[DatL]at h|-;let⟨x,r,a,b,c⟩:=h;calc⟨x,r,a,bM.mono e b,DatL.mono e c⟩
end
def DatL.nil:DatL K F [] []:=by dsimp[DatL]
def DatL.cons{x:V}(h:bM K F d x)(t:DatL K F ds xs):DatL K F (d::ds) (x::xs):=by dsimp[DatL];calc⟨x,xs,rfl,h,t⟩
theorem DatL.paired:∀{ds xs},DatL K F ds xs->jN (bM K F) ds xs| [],_,h=>by dsimp[DatL]at h;subst h;calc .nil|d::ds,_,h=>by dsimp[DatL]at h;let⟨x,r,rfl,a,b⟩:=h;calc .cons a (DatL.paired b)
theorem DatL.of:∀{ds xs},jN (bM K F) ds xs->DatL K F ds xs|_,_,.nil=>DatL.nil|_,_,.cons h t=>DatL.cons h (DatL.of t)
def DatL.length(h:DatL K F ds xs): ~~~ds= ~~~xs:=kx h.paired
end
section
variable{G:α->β->Prop}
theorem vH:∀{a c b d},jN G a b->jN G c d->jN G (a++c) (b++d)|_,_,_,_,.nil,s=>s|_,_,_,_,.cons r t,s=>.cons r (vH t s)
theorem xy:∀{a b} n,jN G a b->jN G (a.take n) (b.take n)|_,_,0,_=>.nil|_,_,_+1,.nil=>.nil|_,_,n+1,.cons r t=>.cons r (xy n t)
theorem xz:∀{a b} n,jN G a b->jN G (a.drop n) (b.drop n)|_,_,0,r=>r|_,_,_+1,.nil=>.nil|_,_,n+1,.cons _ t=>xz n t
theorem vJ:∀{a:J α} {b:J β} {i:bD} {x:α},jN G a b->a[i]? =L x->∃y,b[i]? =L y/\G x y|_,_,_,_,.nil,e=>by simp at e|_,_,0,_,.cons r _,e=>by simp at e;subst e;calc⟨_,rfl,r⟩|_,_,i+1,x,.cons _ t,e=>by let⟨u,c,d⟩:=vJ (i:=i) (x:=x) t (by simpa using e);calc⟨u,by simpa using c,d⟩
theorem iK:∀{a:J α} {b:J β} {i:bD} {y:β},jN G a b->b[i]? =L y->∃x,a[i]? =L x/\G x y|_,_,_,_,.nil,e=>by simp at e|_,_,0,_,.cons r _,e=>by simp at e;subst e;calc⟨_,rfl,r⟩|_,_,i+1,y,.cons _ t,e=>by let⟨u,c,d⟩:=iK (i:=i) (y:=y) t (by simpa using e);calc⟨u,by simpa using c,d⟩
end
noncomputable abbrev Tab:=J (U×D)
inductive Ob where
 |l (ds:J D)|row (ws:J D) (k:bH)|tab (T:Tab)|shf (Ts:J Tab) (k:bH)
class Pd where
 a:bD->bI
 o:bD->HO
noncomputable abbrev bl:Pd:=⟨λ_=>0,λ_=>.l []⟩
variable [dG] [Pd]
noncomputable def aq:HO->bW| .tbl _=>bJ|_=>bF
def Wp(H:Hp)(t:bI×cW×U):Prop:=∃ps,H t.1=L (.tbl ps)/\PySem.TriplesOk ps.toList/\
 (codeAmong t.2.1 ps.toList=bL\/ ∃c',codeAmong t.2.1 ps.toList=L (.ref c')/\H c'=L (.ext λh=>h.CodeRec (.ref c') t.2.2))
def sT(H:Hp):Prop:=∀t∈dG.L,Wp H t
def qo(F:Hp):Prop:=∀b ps,F b≠L (.tbl ps)
def pC(F H:Hp):Prop:=sT H/\qo F
def qo.upd(h:qo F)(p)(a:aq o=bF):qo (upd F p o):=λb ps e=>by
 by_cases z:b=p
 .subst z;rw[gI]at e;cases e;cases a
 rw[fK z]at e;calc h b ps e
def CK(H T:Hp):Prop:=∀b u,aq u=bF->H b=L u->T b=L u
structure cP(F H F' H':Hp):Prop where
 same:CK H H'
 more:∀b,H b≠bL->H' b≠bL
 tk:pC F H->pC F' H'
 fs:bX F F'
 sub:bX F' H'
 new:∀b,F b=bL->H b≠bL->F' b=bL
def cP.refl(s:bX F H):cP F H F H:=⟨λ_ _ _ q=>q,λ_ h=>h,λh=>h,bX.refl _,s,λ_ h _=>h⟩
def sT.same(h:sT H)(s:bX H T):sT T:=λt a=>by
 let⟨ps,e,o,q⟩:=h t a;refine⟨ps,s _ _ e,o,?_⟩;rcases q with q|⟨c',b,c⟩
 .exact .inl q
 calc .inr ⟨c',b,s _ _ c⟩
def Kt(s:bX H T):∀b,H b≠none->T b≠none:=λb h=>by
 cases q:H b with
 |none=>calc dD q h|some o=>rw[s b o q];simp
def cP.trans{e:Hp}(a:cP F H d e)(b:cP d e F2 H2):cP F H F2 H2 where
 same:=λc u n q=>b.same c u n (a.same c u n q)
 more:=λc h=>b.more c (a.more c h)
 tk:=λh=>b.tk (a.tk h)
 fs:=a.fs.trans b.fs
 sub:=b.sub
 new:=λc h n=>b.new c (a.new c h n) (a.more c n)
def rG{p:bI}(h:H p=bL)(o):bX H (upd H p o):=λb u q=>by rw[fK (bh q h)];calc q
def Wq(s:bX F H)(p)(o):bX (upd F p o) (upd H p o):=λb u q=>by
 by_cases e:b=p
 .subst e;rw[gI]at q|-;exact q
 rw[fK e]at q|-;calc s b u q
def mo(s:bX F H){p:bI}(h:F p=bL)(o):bX F (upd H p o):=λb u q=>by rw[fK (bh q h)];calc s b u q
def cP.laid(s:bX F H){p:bI}(h:H p=bL)(o)(c:aq o=bF:=by rfl):cP F H (upd F p o) (upd H p o)where
 same:=λb u _ q=>rG h o b u q
 more:=Kt (rG h o)
 tk:=λt=>⟨t.1.same (rG h o),t.2.upd p c⟩
 fs:=rG (bX.free s h) o
 sub:=Wq s p o
 new:=λb a n=>by
  let e:b≠p:=λe=>n (e▸h)
  rw[fK e];calc a
def cP.laidN(s:bX F H){p:bI}(h:H p=bL)(o):cP F H F (upd H p o)where
 same:=λb u _ q=>rG h o b u q
 more:=Kt (rG h o)
 tk:=λt=>⟨t.1.same (rG h o),t.2⟩
 fs:=bX.refl _
 sub:=mo s (bX.free s h) o
 new:=λb a n=>a
def cP.free(g:cP F H F' T)(h:T b=none):H b=none:=by
 cases q:H b with
 |none=>rfl|some o=>calc dD h (g.more b (by rw[q];simp))
def CL(m:∀b,H b≠bL->T b≠bL)(p)(o):∀b,H b≠bL->upd T p o b≠bL:=λb h=>by
 by_cases z:b=p
 .subst z;rw[gI];simp
 rw[fK z];exact m b h
open Classical in
noncomputable def ers(H:Hp)(S:bI->Prop):Hp:=λb=>if S b then bL else H b
def kW(n: ¬ S b):ers H S b=H b:=cX n
def eK(n:S b):ers H S b=bL:=cK n
def ar(e:ers H S b=L u): ¬ S b:=λz=>by rw[eK z]at e;cases e
def vK(e:ers H S b=L u):H b=L u:=by rw[kW (ar e)]at e;calc e
def au(h:ers H S b≠bL): ¬ S b/\H b≠bL:=by
 let n: ¬ S b:=λz=>h (eK z)
 rw[kW n]at h;calc⟨n,h⟩
def qp(s:bX F H):cP F (ers H S) F H where
 same:=λb u _ q=>vK q
 more:=λb h=>(au h).2
 tk:=λt=>⟨t.1.same λb u q=>vK q,t.2⟩
 fs:=bX.refl _
 sub:=s
 new:=λb h _=>h
def mq(s:bX F H)(c:F a=bL)(o)(h:S a):cP F (ers H S) F (upd H a o)where
 same:=λb u _ q=>by rw[fK (λz:b=a=>ar q (by rw[z];calc h))];exact vK q
 more:=λb h'=>by rw[fK (λz:b=a=>(au h').1 (by rw[z];calc h))];exact(au h').2
 tk:=λt=>⟨t.1.same λb u q=>by rw[fK (λz:b=a=>ar q (by rw[z];calc h))];calc vK q,t.2⟩
 fs:=bX.refl _
 sub:=mo s c _
 new:=λb h _=>h
def jP(K:cG)(F:Hp):Tab->J (gN×V)->Prop:=jN λp q=>q.1= .inr p.1/\bM K F p.2 q.2
def jP.mono(e:bX F F'){T:Tab}(h:jP K F T kvs):jP K F' T kvs:=Paired.mapP h λ_ _ z=>⟨z.1,z.2.mono e⟩
noncomputable def eM(a l:bI)(k:bH):HO:=.ins dG.rc a [("words",.ref l),("place",.int k)]
noncomputable def xL:HO->J bI| .ins _ _ [(_,.ref a),(_,.ref b),(_,.ref c),(_,.ref d),_]=>[a,b,c,d]|_=>[]
def Ow(H:Hp)(a b:bI):Prop:=b=a\/ ∃o,H a=L o/\b∈xL o
def eO:Ow H a a:=.inl bQ
def wE(u a:HO):Prop:=(∀dx l k,u=eM dx l k->∃b,a=eM dx l b)/\xL a=xL u
def wE.refl(u):wE u u:=⟨λ_ _ k e=>⟨k,e⟩,rfl⟩
def wE.trans{v:HO}(h:wE u v)(k:wE v w):wE u w:=⟨λdx l n e=>let ⟨n',e'⟩:=h.1 dx l n e;k.1 dx l n' e',k.2.trans h.2⟩
abbrev qI(H T:Hp)(a:bI):Prop:=∀u b,H a=L u->T a=L b->wE u b
noncomputable def qJ(as:J bI)(k:bH):J V:=as.map .ref++ [.int k]
noncomputable def Ob.ho(K:cG)(F H:Hp):Ob->HO->Prop| .l c,o=>∃xs,o= .l xs/\DatL K F c xs| .row d k,o=>∃dx l,o=eM dx l k/\bM K F (.l d) (.ref l)| .tab T,o=>∃kvs,o= .dK kvs/\jP K F T kvs| .shf b k,o=>∃dx as,o=xK dx (qJ as k)/\~~~as=4/\as.Nodup/\jN (λT a=>∃kvs,H a=L (.dK kvs)/\jP K F T kvs) b as
structure gA(K:cG)(F H:Hp)(a:bI)(s:Ob):Prop where
 n:∀b,Ow H a b->F b=bL
 o:∃o,H a=L o/\s.ho K F H o
def xO{k:bH}(h: ~~~as=4):xL (xK dx (qJ as k))=as:=by rcases as with _|⟨a,_|⟨b,_|⟨c,_|⟨d,_|⟨_,_⟩⟩⟩⟩⟩<;>first|rfl|cases h
def x3{s:Ob}(e:bX F F')(h:s.ho K F H o):s.ho K F' H o:=by
 cases s with
 |l j=>let⟨x,a,h⟩:=h;calc⟨x,a,h.mono e⟩|row m k=>let⟨x,y,a,h⟩:=h;calc⟨x,y,a,h.mono e⟩|tab T=>let⟨x,a,h⟩:=h;calc⟨x,a,h.mono e⟩|shf i k=>let⟨dx,as,a,b,c,h⟩:=h;calc⟨dx,as,a,b,c,Paired.mapP h λ_ _ d=>by let⟨kvs,f,g⟩:=d;calc⟨kvs,f,g.mono e⟩⟩
theorem CM{G:α->β->Prop}:∀{xs ys},jN G xs ys->jN (λx y=>G x y/\y∈ys) xs ys|_,_,.nil=>.nil|_,_,.cons h t=>.cons ⟨h,fF⟩ (Paired.mapP (CM t) λ_ _ z=>⟨z.1,fM _ z.2⟩)
def CN{s:Ob}(g:∀b∈xL o,∀kvs,H b=L (.dK kvs)->T b=L (.dK kvs))(h:s.ho K F H o):s.ho K F T o:=by
 cases s with
 |shf i k=>let⟨dx,as,rfl,a,c,h⟩:=h;rw[xO a]at g;calc⟨dx,as,rfl,a,c,Paired.mapP (CM h) λ_ _ z=>by let⟨⟨kvs,d,e⟩,f⟩:=z;calc⟨kvs,g _ f _ d,e⟩⟩|_=>calc h
def x4{s:Ob}(h:s.ho K F H o):aq o=bF/\ ∀φ,o≠ .ext φ:=by
 cases s with
 |l b=>let⟨_,rfl,_⟩:=h;calc⟨rfl,λ_ z=>nomatch z⟩|row c k=>let⟨_,_,rfl,_⟩:=h;calc⟨rfl,λ_ z=>nomatch z⟩|tab T=>let⟨_,rfl,_⟩:=h;calc⟨rfl,λ_ z=>nomatch z⟩|shf a k=>let⟨_,_,rfl,_⟩:=h;calc⟨rfl,λ_ z=>nomatch z⟩
def Ku{s:Ob}(h:s.ho K F H o)(hb:b∈xL o):∃kvs,H b=L (.dK kvs):=by
 cases s with
 |l f=>let⟨_,rfl,_⟩:=h;cases hb|row g k=>let⟨_,_,rfl,_⟩:=h;cases hb|tab T=>let⟨_,rfl,_⟩:=h;cases hb|shf e k=>
  let⟨dx,as,rfl,a,c,h⟩:=h;rw[xO a]at hb;clear a c;induction h with
  |nil=>cases hb|cons z t d=>
   rcases jJ.mp hb with rfl|hb
   .exact⟨_,z.choose_spec.1⟩
   calc d hb
def gA.own{s:Ob}(r:gA K F H a s)(h:Ow H a b):∃o,H b=L o/\aq o=bF/\ ∀φ,o≠ .ext φ:=by
 let⟨o,e,k⟩:=r.o;rcases h with rfl|⟨f,c,d⟩
 .exact⟨o,e,x4 k⟩
 rw[e]at c;cases c;let⟨kvs,z⟩:=Ku k d;calc⟨_,z,rfl,λ_ z=>nomatch z⟩
def gA.at{s:Ob}(r:gA K F H a s):F a=bL:=r.n a eO
def sT.drop(h:sT H)(n:∀b o,S b->H b=L o->aq o=bF/\ ∀φ,o≠ .ext φ):sT (ers H S):=λt d=>by
 let⟨ps,a,e,q⟩:=h t d;refine⟨ps,by rw[kW λz=>by cases(n _ _ z a).1];calc a,e,?_⟩;rcases q with q|⟨c',f,c⟩
 .exact .inl q
 calc .inr ⟨c',f,by rw[kW λz=>(n _ _ z c).2 _ bQ];calc c⟩
def sT.updL(h:sT H)(e:H a=L (.l xs))(ys):sT (upd H a (.l ys)):=(h.drop (S:=λb=>b=a) λb o z q=>by subst z;rw[e]at q;cases q;calc⟨rfl,λ_ z=>nomatch z⟩).same λb u q=>by rw[fK (ar (S:=λb=>b=a) q)];calc vK q
def sT.ers{s:Ob}(h:sT H)(r:gA K F H a s):sT (ers H (Ow H a)):=h.drop λb o z q=>by let⟨u,e,k⟩:=r.own z;rw[q]at e;cases e;calc k
def gA.some{s:Ob}(r:gA K F H a s):H a≠bL:=by let⟨o,e,_⟩:=r.o;rw[e];simp
def CO(e:T a=H a):Ow T a=Ow H a:=by delta Ow;rw[e]
def gA.here{s:Ob}(r:gA K F H a s)(g:cP F H F' T):T a=H a:=by let⟨o,e,k⟩:=r.o;rw[e];calc g.same _ _ (x4 k).1 e
def gA.ow{s:Ob}(r:gA K F H a s)(g:cP F H F' T):Ow T a=Ow H a:=CO (r.here g)
def gA.grow{s:Ob}(r:gA K F H a s)(g:cP F H F' T):gA K F' T a s:=by let⟨o,e,k⟩:=r.o;refine⟨λb h=>?_,o,g.same _ _ (x4 k).1 e,CN (λb _ kvs z=>g.same b _ bQ z) (x3 g.fs k)⟩;rw[r.ow g]at h;let⟨u,z,_⟩:=r.own h;calc g.new b (r.n b h) (by rw[z];simp)
def cP.ers{s:Ob}(g:cP F H F' T)(r:gA K F H a s):cP F (R.ers H (Ow H a)) F' (R.ers T (Ow T a))where
 same:=λb u n q=>by rw[r.ow g,kW (ar q)];exact g.same b u n (vK q)
 more:=λb h=>by rw[r.ow g,kW (au h).1];exact g.more b (au h).2
 tk:=λt=>let q:=g.tk ⟨t.1.same λb u q=>vK q,t.2⟩;⟨q.1.ers (r.grow g),q.2⟩
 fs:=g.fs
 sub:=λb u q=>by rw[kW λz=>by rw[(r.grow g).n b z]at q;cases q];exact g.sub b u q
 new:=λb h n=>g.new b h (au n).2
def eP(H:Hp)(a b:bI):Prop:=∀c,Ow H a c-> ¬ Ow H b c
def eP.symm(h:eP H a b):eP H b a:=λc d e=>h c e d
def gA.besideH{s:Ob}(r:gA K F H b s)(n:∀c,Ow H b c-> ¬ S c)(g:cP F (R.ers H S) F' T):T b=H b:=by let⟨o,e,k⟩:=r.o;rw[e];calc g.same _ _ (x4 k).1 (by rw[kW (n _ eO)];calc e)
def gA.beside{s:Ob}(r:gA K F H b s)(n:∀c,Ow H b c-> ¬ S c)(g:cP F (R.ers H S) F' T):gA K F' T b s:=by let⟨o,e,k⟩:=r.o;let a:=r.besideH n g;refine⟨λc h=>?_,o,by rw[a];calc e,CN (λc d kvs z=>g.same c _ bQ (by rw[kW (n c (.inr ⟨o,e,d⟩))];calc z)) (x3 g.fs k)⟩;rw[CO a]at h;let⟨u,z,_⟩:=r.own h;calc g.new c (r.n c h) (by rw[kW (n c h),z];simp)
def CP{s s':Ob}(r:gA K F H a s)(d:gA K F' T a s')(l:qI H T a):Ow T a=Ow H a:=by let⟨u,e,_⟩:=r.o;let⟨f,b,_⟩:=d.o;have:=(l u f e b).2;funext c;delta Ow;rw[e,b];simp[this]
def cP.ersR{s s':Ob}(g:cP F (R.ers H (Ow H a)) F' T)(r:gA K F H a s)(c:gA K F' T a s')(l:qI H T a):cP F (R.ers H (Ow H a)) F' (R.ers T (Ow T a))where
 same:=λb u n q=>by rw[CP r c l,kW (ar q)];exact g.same b u n q
 more:=λb h=>by rw[CP r c l,kW (au h).1];exact g.more b h
 tk:=λt=>let q:=g.tk t;⟨q.1.ers c,q.2⟩
 fs:=g.fs
 sub:=λb u q=>by rw[kW λz=>by rw[c.n b z]at q;cases q];exact g.sub b u q
 new:=λb h n=>g.new b h n
inductive Slot where
 |no|val (d:D)|is (v:V) (c:J (bI×HO))|obj (p:bD) (s:Ob)
noncomputable abbrev Slot.own(ds:J D):Slot:=.obj 0 (.l ds)
noncomputable abbrev Slot.row(p:bD)(ws:J D)(k:bH):Slot:=.obj p (.row ws k)
noncomputable abbrev Slot.dic(p:bD)(T:Tab):Slot:=.obj p (.tab T)
noncomputable abbrev cQ:=J Slot
def Kv(H:Hp)(p:bD)(a:bI):Prop:=∀n,p=n+1->a=Pd.a n/\ ∀u,H a=L u->wE (Pd.o n) u
noncomputable def eQ(K:cG)(F H:Hp):Slot->bR V->Prop| .no,_=>bf| .val d,o=>∃v,o=L v/\bM K F d v| .is v c,o=>o=L v/\ ∀p∈c,F p.1=L p.2| .obj p s,o=>∃a,o=L (.ref a)/\Kv H p a/\gA K F H a s
structure gP(K:cG)(F H:Hp)(O:cQ)(Y:St):Prop where
 tb:pC F H
 sub:bX F H
 len: ~~~O= ~~~Y
 at_:∀(i:bD) s,O[i]? =L s->∃o,Y[i]? =L o/\eQ K F H s o
 apart:∀(i j:bD) p s q t a b,i≠j->O[i]? =L (.obj p s)->O[j]? =L (.obj q t)->Y[i]? =L (L (.ref a))->Y[j]? =L (L (.ref b))->eP H a b
def gP.ob{p:bD}{s:Ob}(E:gP K F H O Y)(d:O[i]? =L (.obj p s))(c:Y[i]? =L (L (.ref a))):gA K F H a s:=by let⟨o,b,e,rfl,_,r⟩:=E.at_ i _ d;rw[c]at b;cases b;calc r
def eQ.grow(g:cP F H F' T){s:Slot}{o:bR V}(h:eQ K F H s o):eQ K F' T s o:=by
 cases s with
 |no=>trivial|val d=>let⟨v,e,h⟩:=h;calc⟨v,e,h.mono g.fs⟩|is v c=>calc⟨h.1,λp b=>g.fs _ _ (h.2 p b)⟩|obj p s=>let⟨a,e,b,h⟩:=h;calc⟨a,e,λn z=>⟨(b n z).1,λu f=>(b n z).2 u (by rw[<-h.here g];calc f)⟩,h.grow g⟩
def gP.grow(h:gP K F H O Y)(g:cP F H F' T):gP K F' T O Y:=
 ⟨g.tk h.tb,g.sub,h.len,λi s e=>let ⟨o,d,r⟩:=h.at_ i s e;⟨o,d,r.grow g⟩,λi j p s q t a b n d f k l c m u=>h.apart i j p s q t a b n d f k l c (by rw[<-(h.ob d k).ow g];calc m) (by rw[<-(h.ob f l).ow g];calc u)⟩
def sU{O:J α}{s t:α}(e:(O.set i s)[j]? =L t):(i=j/\t=s/\i< ~~~O)\/(i≠j/\O[j]? =L t):=by
 by_cases q:i=j
 .subst q;by_cases a:i< ~~~O
  .rw[ke a]at e;cases e;exact .inl ⟨rfl,rfl,a⟩
  rw[List.getElem?_eq_none (by rw[aV];lia)]at e;cases e
 rw[di q]at e;calc .inr ⟨q,e⟩
noncomputable def Kw:Slot->bW| .obj _ _=>bJ|_=>bF
def mu{O:cQ}{s:Slot}{p:bD}{t:Ob}(hs:Kw s=bF)(e:(O.set i s)[j]? =L (.obj p t)):i≠j/\O[j]? =L (.obj p t):=by
 rcases sU e with⟨rfl,rfl,_⟩|h
 .cases hs
 calc h
def gP.set(h:gP K F H O Y)(i)(m:bM K F d v):gP K F H (O.set i (.val d)) (Y.set i (L v)):=by
 refine⟨h.tb,h.sub,by rw[aV,aV];calc h.len,λj s e=>?_,λj k p s q t a b n c f g l=>?_⟩
 .rcases sU e with⟨rfl,rfl,o⟩|⟨n,e⟩
  .exact⟨L v,ke (by rw[<-h.len];calc o),v,rfl,m⟩
  rw[di n];exact h.at_ j s e
 let⟨r,c⟩:=mu rfl c;let⟨u,f⟩:=mu rfl f;rw[di r]at g;rw[di u]at l;calc h.apart j k p s q t a b n c f g l
def gE{α β:Type}(c:Hp->α->β->Prop)(F H:Hp)(r:bP α)(Q:β->Hp->Prop):Prop:=match r with| .ok a=>∀b F' T,cP F H F' T->c F' a b->Q b T| .bad=>hI
def gE.grow{c:Hp->α->β->Prop}{e:Hp}{r:bP α}{Q:β->Hp->Prop}(h:gE c F H r Q)(g:cP F H d e):gE c d e r Q:=by
 cases r with
 |ok a=>calc λb F' T f i=>h b F' T (g.trans f) i|bad=>calc h
def jV{γ δ:Type}{R1:Hp->α->β->Prop}{R2:Hp->γ->δ->Prop}{r:bP α}{g:α->bP γ}{Q:δ->Hp->Prop}{e:β->Hp->Prop}(h:gE R2 F H (r.bind g) Q)(k:∀a b c d,cP F H c d->R1 c a b->gE R2 c d (g a) Q->e b d):gE R1 F H r e:=by
 cases r with
 |ok a=>calc λb F' T f i=>k a b F' T f i (gE.grow (show gE R2 F H (g a) Q from h) f)|bad=>calc h
def dY{c:Hp->α->β->Prop}{Q:β->Hp->Prop}(h:gE c F H (.ok a) Q)(s:bX F H)(r:c F a b):Q b H:=h b F H (.refl s) r
def mv{Q:V->Hp->Prop}(h:gE (bM K) F H (.ok (.t ds)) Q)(s:bX F H)(r:DatL K F ds xs){p:bI}(a:H p=bL):Q (.ref p) (upd H p (.t xs)):=by refine h _ _ _ (cP.laid s a _) ?_;dsimp;calc⟨p,xs,rfl,kJ.of gI,r.mono (rG (bX.free s a) _)⟩
def iL{Q:V->Hp->Prop}(h:gE (bM K) F H (.ok (.l ds)) Q)(s:bX F H)(r:DatL K F ds xs){p:bI}(a:H p=bL):Q (.ref p) (upd H p (.l xs)):=by refine h _ _ _ (cP.laid s a _) ?_;dsimp;calc⟨p,xs,rfl,jA.of gI,r.mono (rG (bX.free s a) _)⟩
abbrev ME:=cQ->bP D
abbrev MT:=cQ->bP bW
abbrev MA:=cQ->bP (J D)
def Kx:Hp->bW->bW->Prop:=λ_ a b=>a=b
def RelO:Hp->bR bH->bR bH->Prop:=λ_ a b=>a=b
inductive tD(X:Cx)(f:ME)(Y:St)(H:Hp)(Q:VK):Prop
 |mk (O:_) (F:_) (_:gP X.K F H O Y) (_:gE (bM X.K) F H (f O) Q)
inductive av(X:Cx)(f:MT)(Y:St)(H:Hp)(Q:bW->Hp->Prop):Prop
 |mk (O:_) (F:_) (_:gP X.K F H O Y) (_:gE Kx F H (f O) Q)
inductive iM(X:Cx)(f:MA)(Y:St)(H:Hp)(Q:J V->Hp->Prop):Prop
 |mk (O:_) (F:_) (_:gP X.K F H O Y) (_:gE (DatL X.K) F H (f O) Q)
def IE(X:Cx)(e:bU)(f:ME):Prop:=PE X e (tD X f)
def IT(X:Cx)(e:bU)(f:MT):Prop:=PT X e (av X f)
def IW(X:Cx)(e:bU)(f:MT):Prop:=PW X e (av X f)
def IA(X:Cx)(M:J bU)(f:MA):Prop:=PA X M (iM X f)
def gU{t:TE}(h:PE X e t)(i:∀Y H Q,t' Y H Q->t Y H Q):PE X e t':=λpe s Y H Q I a=>h pe s Y H Q I (i Y H Q a)
def mw{t:TT}(h:PT X e t)(i:∀Y H Q,t' Y H Q->t Y H Q):PT X e t':=λpe s Y H Q I a=>h pe s Y H Q I (i Y H Q a)
def Ky{t:TT}(h:PW X e t)(i:∀Y H Q,t' Y H Q->t Y H Q):PW X e t':=λb pe s Y H Q I a=>h b pe s Y H Q I (i Y H Q a)
def yT{e:J bU}{t:TA}(h:PA X e t)(i:∀Y H Q,t' Y H Q->t Y H Q):PA X e t':=λp pe s Y H Q I a=>h p pe s Y H Q I (i Y H Q a)
def lM{e:fQ}{t:TS}(h:PS X e t)(i:∀E Y H,t' E Y H->t E Y H):PS X e t':=λpe s Y H E I a=>h pe s Y H E I (i E Y H a)
def CS{e:J fQ}{t:TS}(h:pA X e t)(i:∀E Y H,t' E Y H->t E Y H):pA X e t':=λpe s Y H E I a=>h pe s Y H E I (i E Y H a)
noncomputable def gv(i:bD):ME:=λO=>match O[i]? with|some (.val d)=>.ok d|_=>.bad
noncomputable def kc(d:D):ME:=λ_=>.ok d
section
variable{a b c:bU}{f g h:ME}
def Kz(i)(c:PE X (.Name x pos) (JC i)):IE X (.Name x pos) (gv i):=gU c λY H Q f=>by
 let⟨O,F,E,q⟩:=f;delta gv at q;split at q
 .rename_i d e;let⟨o,a,v,rfl,b⟩:=E.at_ i _ e;exact⟨v,a,dY q E.sub b⟩
 cases q
def qq{t:TE}(b:PE X e (tC v))(a:∀F,bM X.K F d v):IE X e (kc d):=gU b λY H Q c=>by let⟨O,F,E,q⟩:=c;calc dY q E.sub (a F)
def Wr{i j}:IE X (.Constant (.int i) j pos) (kc (.int i)):=qq (t:=tC (.int i)) qb λF=>by dsimp
def qr{i j}:IE X (.Constant (.bool i) j pos) (kc (.b i)):=qq (t:=tC (.b i)) TZ λF=>by dsimp
def Ws{j}:IE X (.Constant .none j pos) (kc .n):=qq (t:=tC .n) JD λF=>by dsimp
def Wu{x j}(a: ~~~x<=cR:=by decide):IE X (.Constant (.str x) j pos) (kc (.str x)):=qq (t:=tC (.str x)) T1 λF=>by dsimp;calc⟨trivial,a⟩
def m1(m:D->bP D)(f:ME):ME:=λO=>(f O).bind m
def m2(m:D->D->bP D)(f g:ME):ME:=λO=>(f O).bind λx=>(g O).bind λy=>m x y
def mx(X:Cx)(r:R2)(m:D->D->bP D):Prop:=∀F H a b c d Q,bX F H->bM X.K F a c->bM X.K F b d->gE (bM X.K) F H (m a b) Q->r c d H Q
def qt(X:Cx)(r:V->Hp->VK->Prop)(m:D->bP D):Prop:=∀F H d v Q,bX F H->bM X.K F d v->gE (bM X.K) F H (m d) Q->r v H Q
def my(X:Cx)(r:J V->Hp->VK->Prop)(m:J D->bP D):Prop:=∀F H a vs Q,bX F H->DatL X.K F a vs->gE (bM X.K) F H (m a) Q->r vs H Q
def x5{r:R2}(j:mx X r m){Q:VK}(q:tD X (m2 m f g) Y H Q):qi r (tD X f) (tD X g) Y H Q:=by let⟨O,F,E,q⟩:=q;calc⟨O,F,E,jV q λd v b l i e q=>⟨O,b,E.grow i,jV q λc k F2 H2 a h q=>j F2 H2 d c v k Q a.sub (e.mono a.fs) h q⟩⟩
def Wv{c:g9}{r:R2}(i:fU X (pN c) r)(h:mx X r m)(d:IE X a f)(e:IE X b g):IE X (.BinOp a c b pos) (m2 m f g):=
 gU (Cm i d e) λ_ _ _ q=>x5 h q
def Ww{r:R2}(i:fU X (jH op) r)(e:mx X r m)(c:IE X a f)(d:IE X b g)(h:wT op b=bJ):IE X (.Compare a [op] [b] pos) (m2 m f g):=
 gU (JQ i c d h) λ_ _ _ q=>x5 e q
def Wx{r:R2}(h:iH X r)(e:mx X r m)(c:IE X a f)(d:IE X b g)(hs:xq b):IE X (.Subscript a b pos) (m2 m f g):=
 gU (Kg h c d hs) λ_ _ _ q=>x5 e q
def Wy{b:UnaryOp}{r:V->Hp->VK->Prop}(k:qh X (BY b) r)(j:qt X r m)(i:IE X a f):IE X (.UnaryOp b a pos) (m1 m f):=
 gU (UC k i) λY H Q l=>by let⟨O,F,E,q⟩:=l;calc⟨O,F,E,jV q λd v c e h g q=>j c e d v Q h.sub g q⟩
noncomputable def gB:MA:=λ_=>.ok []
def aC(f:ME)(r:MA):MA:=λO=>(f O).bind λx=>(r O).bind λxs=>.ok (x::xs)
def yU:IA X [] gB:=yT pS λY H Q a=>by let⟨O,F,E,q⟩:=a;calc dY q E.sub DatL.nil
def x6{r:MA}(i:IE X e f)(j:IA X M r)(hs:gG (e::M) X.env=(bJ,fP e X.env)::gG M X.env:=by rfl):IA X (e::M) (aC f r):=
 yT (lB i j hs) λY H Q k=>by let⟨O,F,E,q⟩:=k;calc⟨O,F,E,jV q λd v b l h c q=>⟨O,b,E.grow h,jV q λm vs F2 H2 a g q=>dY q a.sub (DatL.cons (c.mono a.fs) g)⟩⟩
def x8{b:MA}(g:my X r m){Q:VK}(q:tD X (λO=>(b O).bind m) Y H Q):iM X b Y H λvs a=>r vs a Q:=by let⟨O,F,E,q⟩:=q;calc⟨O,F,E,jV q λd v c a f e q=>g c a d v Q f.sub e q⟩
def Wz{b:MA}(g:∀F H ds vs Q,pC F H->bX F H->DatL X.K F ds vs->gE (bM X.K) F H (m ds) Q->r vs H Q){Q:VK}(q:tD X (λO=>(b O).bind m) Y H Q):iM X b Y H λvs a=>r vs a Q:=by let⟨O,F,E,q⟩:=q;calc⟨O,F,E,jV q λd v e a c f q=>g e a d v Q (c.tk E.tb) c.sub f q⟩
def mA(m:J D->bP D)(a:MA):ME:=λO=>(a O).bind m
noncomputable def cV(ds:J D):bP D:=if ~~~ds<=cR then .ok (.t ds)else .bad
noncomputable def hZ(ds:J D):bP D:=if ~~~ds<=cR then .ok (.l ds)else .bad
def WA{b:MA}{k}(h:IA X M b):IE X (.Tuple M k pos) (mA cV b):=gU (J3 h) λY H Q q=>x8 (r:=λvs a Q=> ~~~vs<=cR/\ ∀p,a p=bL->Q (.ref p) (upd a p (.t vs))) (λF H e vs Q s d q=>by
 delta cV at q;split at q
 .rename_i z;exact⟨by rw[<-d.length];calc z,λp c=>mv q s d c⟩
 calc q.elim) q
def WB{b:MA}(h:IA X M b):IE X (.List M pos) (mA hZ b):=gU (xl h) λY H Q q=>x8 (r:=λvs a Q=> ~~~vs<=cR/\ ∀p,a p=bL->Q (.ref p) (upd a p (.l vs))) (λF H e vs Q s d q=>by
 delta hZ at q;split at q
 .rename_i z;exact⟨by rw[<-d.length];calc z,λp c=>iL q s d c⟩
 calc q.elim) q
def WC{id:kO}{c:MA}(f:jL X (.builtin id) r)(g:my X r m)(h:Gl X x)(i:X.mg x=bL)(k:sO x=L (.builtin id))(d:IA X (e::M) c)(j:x≠ "__name__" :=by decide)(a:(x==("__debug__" :U))=bJ:=by decide)(he:gG (e::M) X.env=(bJ,fP e X.env)::gG M X.env:=by rfl)(b:(lV pos (gG M X.env)).any (·.1)=bJ:=by rfl):
 IE X (.Call (.Name x p) (e::M) [] pos) (mA m c):=gU (xo f h i k d j a he b) λY H Q q=>x8 g q
def WD{id:kO}{c:MA}(f:jL X (.type id) r)(g:my X r m)(h:Gl X x)(i:X.mg x=bL)(k:sO x=L (.type id))(d:IA X (e::M) c)(j:x≠ "__name__" :=by decide)(a:(x==("__debug__" :U))=bJ:=by decide)(he:gG (e::M) X.env=(bJ,fP e X.env)::gG M X.env:=by rfl)(b:(lV pos (gG M X.env)).any (·.1)=bJ:=by rfl):
 IE X (.Call (.Name x p) (e::M) [] pos) (mA m c):=gU (mh f h i k d j a he b) λY H Q q=>x8 g q
inductive qK(K:cG)(m:J D->bP D)(vs:J V)(H:Hp)(Q:VK)(z3:XK):Prop
 |mk (F:_) (ds:_) (_:pC F H) (_:bX F H) (_:DatL K F ds vs) (_:gE (bM K) F H (m ds) Q)
structure KA(X:Cx)(k:bD)(x:U)(m:J D->bP D):Prop where
 ex:∃(f:bI) (fd:fO) (ps:J U),fC X.prog X.w X.K X.mg X.base fS k f fd ps (qK X.K m)/\X.mg x=L (.ref f)/\lE X.K (.ref f)=bF/\jO X.K fd ps []
def WE{c:MA}(C:KA X k x m)(t:fZ k X.A)(l:Gl X x)(i:IA X (e::M) c)(a:(x==("__debug__" :U))=bJ:=by decide)(he:gG (e::M) X.env=(bJ,fP e X.env)::gG M X.env:=by rfl)(b:(lV pos (gG M X.env)).any (·.1)=bJ:=by rfl):
 IE X (.Call (.Name x p) (e::M) [] pos) (mA m c):=by
 let⟨f,fd,ps,F,o,n,j⟩:=C.ex;refine gU (mf (E:=E0) F t l o n j .nil rY i a he b) λY H Q q=>?_
 refine Wz (r:=λvs g Q=>qK X.K m (vs++ []) g Q E0) (λF H h vs Q u s d q=>?_) q;show qK X.K m (vs++ []) H Q E0;rw[jF];calc⟨F,h,u,s,d,q⟩
noncomputable def xQ:D->bP bW| .b b=>.ok b|_=>.bad
noncomputable def yV:D->bP bW| .n=>.ok bJ| .b b=>.ok b| .int i=>.ok (i != 0)| .str x=>.ok ((~~~x:bH) != 0)| .t a=>.ok (!a.isEmpty)| .l a=>.ok (!a.isEmpty)|_=>.bad
def mT(f:ME):MT:=λO=>(f O).bind yV
def mB(f:ME):MT:=λO=>(f O).bind xQ
def CU{Q:bW->Hp->Prop}{t:TE}(e:∀Y H Q,tD X f Y H Q->t Y H Q)(q:av X (mB f) Y H Q):t Y H λx T=>∃k,x= .b k/\Q k T:=by
 let⟨O,F,E,q⟩:=q;refine e _ _ _ ⟨O,F,E,jV q λd v g h c a q=>?_⟩;cases d with
 |b b=>dsimp at a;calc⟨b,a,dY q c.sub bQ⟩|_=>calc q.elim
def WF{r:R2}(i:fU X (jH op) r)(e:mx X r m)(c:IE X a f)(d:IE X b g)(h:wT op b=bJ):IT X (.Compare a [op] [b] pos) (mB (m2 m f g)):=
 mw (Cs i c d h) λY H Q q=>CU (f:=m2 m f g) (λ_ _ _ q=>x5 e q) q
def WG{Q:bW->Hp->Prop}(s:bX F H)(h:bM X.K F d v)(q:gE Kx F H (yV d) Q):∃k,Cu X.K v H k/\Q k H:=by
 cases d with
 |n=>dsimp at h;subst h;calc⟨bJ,rfl,dY q s rfl⟩|b b=>dsimp at h;subst h;calc⟨b,rfl,dY q s rfl⟩|int i=>dsimp at h;subst h;calc⟨_,rfl,dY q s rfl⟩|str x=>dsimp at h;let⟨rfl,h⟩:=h;calc⟨_,⟨h,rfl⟩,dY q s rfl⟩|t c=>dsimp at h;let⟨a,xs,rfl,e,f⟩:=h;refine⟨!xs.isEmpty,.inr (.inl ⟨xs,bX.seqT s e,rfl⟩),dY q s ?_⟩;have:=f.length;cases c<;>cases xs<;>first|rfl|cases this
 |l c=>dsimp at h;let⟨a,xs,rfl,e,f⟩:=h;refine⟨!xs.isEmpty,.inl ⟨xs,bX.seq s e,rfl⟩,dY q s ?_⟩;have:=f.length;cases c<;>cases xs<;>first|rfl|cases this
 |_=>calc q.elim
def WH(g:IE X a f)(he:∀b,isTrue a X.env b=(do let v <-b;lu a.pos;ag [v] (B6 v)):=by intro _;rfl):IT X a (mT f):=
 mw (U3 g he) λY H Q h=>by let⟨O,F,E,q⟩:=h;calc⟨O,F,E,jV q λd v i j e c q=>WG e.sub c q⟩
def pD(p q:MT):MT:=λO=>(p O).bind λb=>if b=bF then q O else .ok bJ
def mO(p q:MT):MT:=λO=>(p O).bind λb=>if b=bF then .ok bF else q O
def jC(p:MT):MT:=λO=>(p O).bind λb=>.ok (!b)
def WI{p:MT}(b:IT X a p):IW X (.BoolOp .And [a] pos) p:=T6 b
def KB{p:MT}(b:IT X a p):IW X (.BoolOp .Or [a] pos) p:=T7 b
def CV{p:MT}{Q:bW->Hp->Prop}{k:bW->cQ->bP bW}{T:bW->St->Hp->Prop}(g:∀b Y H,av X (k b) Y H Q->T b Y H)(q:av X (λO=>(p O).bind λb=>k b O) Y H Q):av X p Y H λb a=>T b Y a:=by let⟨O,F,E,q⟩:=q;refine⟨O,F,E,jV q λd v c a f e q=>?_⟩;cases(show d=v from e);calc g _ _ _ ⟨O,c,E.grow f,q⟩
def x9{b:bW}{Q:bW->Hp->Prop}(q:av X (λ_=>.ok b) Y H Q):Q b H:=by let⟨O,F,E,q⟩:=q;calc dY q E.sub bQ
def WJ{p:MT}{rest:J bU}(e:IT X a p)(f:IW X (.BoolOp .And (b::rest) pos) q'):IW X (.BoolOp .And (a::b::rest) pos) (pD p q'):=Ky (T8 e f) λY H Q q=>
 CV (k:=λb O=>if b=true then q' O else .ok false) (T:=λc Y d=>if c=true then av X q' Y d Q else Q false d) (λb Y H h=>by
  cases b with
  |true=>calc xG h
  |false=>calc yS (x9 h)) q
def KC{p:MT}{rest:J bU}(e:IT X a p)(f:IW X (.BoolOp .Or (b::rest) pos) q'):IW X (.BoolOp .Or (a::b::rest) pos) (mO p q'):=Ky (T9 e f) λY H Q q=>
 CV (k:=λb O=>if b=true then .ok true else q' O) (T:=λc Y d=>if c=true then Q true d else av X q' Y d Q) (λb Y H h=>by
  cases b with
  |true=>calc xG (x9 h)
  |false=>calc yS h) q
def ya{p:MT}(e:IT X a p):IT X (.UnaryOp .Not a pos) (jC p):=mw (Ua e) λY H Q q=>
 CV (k:=λb _=>.ok (!b)) (T:=λc Y d=>Q (!c) d) (λb Y H h=>x9 h) q
def IW.it{p:MT}(h:IW X e p):IT X e p:=PW.pt h
def nT(f g:ME):ME:=λO=>(f O).bind λx=>(xQ x).bind λc=>if c=bF then g O else .ok (.b bJ)
def qu(f:ME):ME:=λO=>(f O).bind λx=>(xQ x).bind λc=>.ok (.b (!c))
def KD{Q:VK}{k:bW->ME}{T:bW->St->Hp->Prop}(i:∀b Y H,tD X (k b) Y H Q->T b Y H)(q:tD X (λO=>(f O).bind λx=>(xQ x).bind λc=>k c O) Y H Q):tD X f Y H λx a=>∃c,x= .b c/\T c Y a:=by
 let⟨O,F,E,q⟩:=q;refine⟨O,F,E,jV q λd v g a h e q=>?_⟩;cases d with
 |b c=>dsimp at e;calc⟨c,e,i _ _ _ ⟨O,g,E.grow h,q⟩⟩|_=>calc q.elim
def KE{Q:VK}(a:∀F,bM X.K F d v)(q:tD X (λ_=>.ok d) Y H Q):Q v H:=by let⟨O,F,E,q⟩:=q;calc dY q E.sub (a F)
def WK{op}(h:IE X a f):IE X (.BoolOp op [a] pos) f:=Ud h
def WL{rest:J bU}(e:IE X a f)(i:IE X (.BoolOp .And (b::rest) pos) g):IE X (.BoolOp .And (a::b::rest) pos) (nT f g):=gU (Ue e i) λY H Q q=>
 KD (k:=λc O=>if c=true then g O else .ok (.b false)) (T:=λc Y d=>if c=true then tD X g Y d Q else Q (.b false) d) (λb Y H h=>by
  cases b with
  |true=>calc xG h
  |false=>calc yS (KE (λF=>by dsimp) h)) q
def WM(e:IE X a f):IE X (.UnaryOp .Not a pos) (qu f):=gU (Uf e) λY H Q q=>
 KD (k:=λc _=>.ok (.b (!c))) (T:=λc Y d=>Q (.b (!c)) d) (λb Y H h=>KE (λF=>by dsimp) h) q
def xS(p:MT)(f g:ME):ME:=λO=>(p O).bind λc=>if c=bF then f O else g O
def WN{p:MT}(l:IT X c p)(j:IE X a f)(k:IE X b g):IE X (.IfExp c a b pos) (xS p f g):=gU (Cg l j k) λY H Q ⟨O,F,E,q⟩=>⟨O,F,E,jV q λd v e m h i q=>by
 cases(show d=v from i);cases d with
 |true=>calc xG ⟨O,e,E.grow h,q⟩
 |false=>calc yS ⟨O,e,E.grow h,q⟩⟩
end
end
variable{m:J D->bP D}{Y:St}{ds:J D}{O:cQ}{fa:MA}{f:ME}{Ts:J Tab}{m':D->D->bP D}
section
variable [dG] [Pd]
inductive Fl where
 |nx (O:cQ)|rt (d:D)|bk (O:cQ)|ct (O:cQ)|rr (d:D) (O:cQ)|rn (s:Ob)
abbrev MS:=cQ->bP Fl
structure SR(K:cG)(Fa Ha F H:Hp)(O:cQ)(Y:St):Prop where
 gr:cP Fa Ha F H
 env:gP K F H O Y
 frh:∀(i:bD) p s a,O[i]? =L (.obj p s)->Y[i]? =L (L (.ref a))->∀c,Ow H a c->Ha c=bL
def SR.grow(h:SR K Fa Ha F H O Y)(g:cP F H F' T):SR K Fa Ha F' T O Y:=⟨h.gr.trans g,h.env.grow g,λi p s a b d c e=>h.frh i p s a b d c (by rw[<-(h.env.ob b d).ow g];calc e)⟩
def SR.set(h:SR K Fa Ha F H O Y)(i)(f:bM K F d v):SR K Fa Ha F H (O.set i (.val d)) (Y.set i (L v)):=
 ⟨h.gr,h.env.set i f,λj p s a c b=>by let⟨q,e⟩:=mu bQ c;rw[di q]at b;calc h.frh j p s a e b⟩
def kP(X:Cx)(Fa Ha:Hp)(r:bP Fl)(E:rE):Prop:=match r with| .ok (.nx O)=>∀Y F H,SR X.K Fa Ha F H O Y->E.nx Y H| .ok (.rt d)=>∀v F H,cP Fa Ha F H->bM X.K F d v->E.rt v H| .ok (.bk O)=>∀Y F H,SR X.K Fa Ha F H O Y->E.bk Y H| .ok (.ct O)=>∀Y F H,SR X.K Fa Ha F H O Y->E.ct Y H| .ok (.rr d O)=>∀v Y F H,SR X.K Fa Ha F H O Y->bM X.K F d v->E.rt v H| .ok (.rn s)=>∀a F H,cP Fa Ha F H->(∀c,Ow H a c->Ha c=bL)->gA X.K F H a s->E.rt (.ref a) H| .bad=>hI
def bn{R1:Hp->α->β->Prop}{r:bP α}{E:rE}{e:β->Hp->Prop}(S:SR X.K Fa Ha F H O Y)(h:kP X Fa Ha (r.bind g) E)(k:∀a b c d,SR X.K Fa Ha c d O Y->cP F H c d->R1 c a b->kP X Fa Ha (g a) E->e b d):gE R1 F H r e:=by
 cases r with
 |ok a=>calc λb F' T f i=>k a b F' T (S.grow f) f i h|bad=>calc h
inductive tS(X:Cx)(Fa Ha:Hp)(g:MS)(E:rE)(Y:St)(H:Hp):Prop
 |mk (O:_) (F:_) (_:SR X.K Fa Ha F H O Y) (_:kP X Fa Ha (g O) E)
def IS(X:Cx)(st:fQ)(g:MS):Prop:=∀Fa Ha,PS X st (tS X Fa Ha g)
def nH(X:Cx)(st:J fQ)(g:MS):Prop:=∀Fa Ha,pA X st (tS X Fa Ha g)
noncomputable def cN:MS:=λO=>.ok (.nx O)
noncomputable def CY(g:MS):Fl->bP Fl| .nx O=>g O| .rt d=>.ok (.rt d)| .bk O=>.ok (.bk O)| .ct O=>.ok (.ct O)| .rr d O=>.ok (.rr d O)| .rn s=>.ok (.rn s)
def bO(u v:MS):MS:=λO=>(u O).bind (CY v)
def yb:nH X [] cN:=λFa Ha=>CS JF λE Y H a=>by let⟨O,F,S,q⟩:=a;calc q Y F H S
def bo{st:fQ}(h:IS X st u):nH X [st] u:=λFa Ha=>l8 (h Fa Ha)
def yc{st:fQ}{v:MS}(c:IS X st u)(h2:nH X rest v):nH X (st::rest) (bO u v):=λFa Ha=>CS (ez (c Fa Ha) (h2 Fa Ha)) λE Y H d=>by
 let⟨O,F,S,q⟩:=d;refine⟨O,F,S,?_⟩;delta bO at q;revert q;cases u O with
 |ok b=>
  intro q;cases b with
  |nx e=>calc λf F' T a=>⟨e,F',a,q⟩|_=>calc q
 |bad=>calc lX
def WO:IS X (.Pass pos) cN:=λFa Ha=>lM Uj λE Y H a=>by let⟨O,F,S,q⟩:=a;calc q Y F H S
def yd{E:rE}{k:D->MS}{T:V->Hp->Prop}(g:∀O F H d v,SR X.K Fa Ha F H O Y->bM X.K F d v->kP X Fa Ha (k d O) E->T v H)(q:tS X Fa Ha (λO=>(f O).bind λd=>k d O) E Y H):tD X f Y H T:=by
 let⟨O,F,S,q⟩:=q;calc⟨O,F,S.env,bn S q λd v a b c _ e q=>g O a b d v c e q⟩
def iN(f:ME):MS:=λO=>(f O).bind λ_=>.ok (.nx O)
def WP(he:IE X e f)(hs:em e bL pos.line X.env=dX bJ:=by rfl):IS X (.Expr e pos) (iN f):=λFa Ha=>lM (qd he hs) λE Y H q=>
 yd (k:=λ_ O=>.ok (.nx O)) (λO F H d v S _ q=>q Y F H S) q
def cF(f:ME):MS:=λO=>(f O).bind λd=>.ok (.rt d)
def eR(he:IE X e f):IS X (.Return (L e) pos) (cF f):=λFa Ha=>lM (xd he) λE Y H q=>
 yd (k:=λd _=>.ok (.rt d)) (λO F H d v S r q=>q v F H S.gr r) q
def dQ(i:bD)(f:ME):MS:=λO=>(f O).bind λd=>.ok (.nx (O.set i (.val d)))
def KF(h:∀t,PE X e t->PS X (.Assign [.Name x p] e pos) (qe t (sR i)))(he:IE X e f):IS X (.Assign [.Name x p] e pos) (dQ i f):=λFa Ha=>lM (h _ he) λE Y H q=>
 yd (k:=λd O=>.ok (.nx (O.set i (.val d)))) (λO F H d v S r q=>q _ F H (S.set i r)) q
def cI(p:MT)(u v:MS):MS:=λO=>(p O).bind λc=>if c=bF then u O else v O
def ye{v:MS}{p:MT}(i:IT X c p)(g:nH X a u)(h:nH X b v):IS X (.If c a b pos) (cI p u v):=λFa Ha=>lM (Ci i (g Fa Ha) (h Fa Ha)) λE Y H j=>by
 let⟨O,F,S,q⟩:=j;refine⟨O,F,S.env,bn S q λc v d k e _ f q=>?_⟩;cases(show c=v from f);cases c with
 |true=>calc xG ⟨O,d,e,q⟩|false=>calc yS ⟨O,d,e,q⟩
def turns(i:bD)(a:MS):J D->MS
 | [],O=>.ok (.nx O)|d::ds,O=>(a (O.set i (.val d))).bind λc=>match c with| .nx b=>turns i a ds b| .ct b=>turns i a ds b| .bk b=>.ok (.nx b)| .rt d=>.ok (.rt d)| .rr d b=>.ok (.rr d b)| .rn s=>.ok (.rn s)
def WQ{E:rE}(q:kP X Fa Ha (turns i a (d::ds) O) E){N:St->Hp->Prop}(c:∀b Y F H,SR X.K Fa Ha F H b Y->kP X Fa Ha (turns i a ds b) E->N Y H):
 kP X Fa Ha (a (O.set i (.val d))) {E with nx:=N,ct:=N,bk:=E.nx}:=by
 delta turns at q;revert q;cases a (O.set i (.val d))with
 |ok e=>
  intro q;cases e with
  |nx b=>calc λY F H S=>c b Y F H S q|ct b=>calc λY F H S=>c b Y F H S q|_=>calc q
 |bad=>calc lX
def cP.mix(a:cP Fa Ha F H)(b:cP F Ha F' T):cP Fa Ha F' T:=⟨b.same,b.more,λt=>b.tk ⟨t.1,(a.tk t).2⟩,a.fs.trans b.fs,b.sub,λc h n=>b.new c (a.new c h n) n⟩
def cP.here(a:cP Fa Ha F H):cP F Ha F H:=⟨a.same,a.more,λt=>a.tk ⟨t.1,λb ps e=>t.2 b ps (a.fs _ _ e)⟩,bX.refl _,a.sub,λ_ h _=>h⟩
def SR.here(h:SR K Fa Ha F H O Y):SR K F Ha F H O Y:=⟨h.gr.here,h.env,h.frh⟩
def SR.mix(a:cP Fa Ha F H)(h:SR K F Ha F' T b c):SR K Fa Ha F' T b c:=⟨a.mix h.gr,h.env,h.frh⟩
def kP.here{r:bP Fl}{E:rE}(a:cP Fa Ha F H)(q:kP X Fa Ha r E):kP X F Ha r E:=by
 cases r with
 |ok c=>
  cases c with
  |nx O=>calc λY F H S=>q Y F H (SR.mix a S)|bk O=>calc λY F H S=>q Y F H (SR.mix a S)|ct O=>calc λY F H S=>q Y F H (SR.mix a S)|rt d=>calc λv F H g r=>q v F H (a.mix g) r|rr d O=>calc λv Y F H S r=>q v Y F H (SR.mix a S) r|rn s=>calc λb F H g=>q b F H (a.mix g)
 |bad=>calc q
def KG(b:nH X body u):pA X body (λE Y H=>∃a,tS X a Ha u E Y H):=λpe s Y H E I ⟨a,h⟩=>b a Ha pe s Y H E I h
noncomputable def upTo(a:bH)(n:bD):J D:=(gK n).map λ(k:bD)=>D.int (a+(k:bH))
noncomputable def wG(n:bD)(ds:J D):cQ:=ds.map .val++nR (n- ~~~ds) .no
noncomputable def lF:Fl->bP D| .nx _=>.ok .n| .rt d=>.ok d|_=>.bad
def dS(k n:bD)(g:MS)(ds:J D):bP D:=if ~~~ds=k then(g (wG n ds)).bind lF else .bad
def WR(h:∀s∈O,Kw s=bF){p:bD}{s:Ob}(e:O[i]? =L (.obj p s)):hI:=aT (h _ (dm e))
noncomputable abbrev mH(n:bD)(sl:cQ):cQ:=sl++nR (n- ~~~sl) .no
def yf{sl:cQ}(z:pC F H)(g:cP F Ha F H)(r:jN (λs v=>eQ K F H s (L v)) sl vs)(x:∀(i j:bD) p s q t a b,i≠j->sl[i]? =L (.obj p s)->sl[j]? =L (.obj q t)->vs[i]? =L (.ref a)->vs[j]? =L (.ref b)->eP H a b)(fr:∀(i:bD) p s a,sl[i]? =L (.obj p s)->vs[i]? =L (.ref a)->∀c,Ow H a c->Ha c=bL):SR K F Ha F H (mH N.length sl) (start N vs):=by
 let G:=kx r;let k:∀{i:bD} {t},(mH N.length sl)[i]? =L t->(∃v,sl[i]? =L t/\vs[i]? =L v/\(start N vs)[i]? =L (L v)/\eQ K F H t (L v))\/(t= .no/\(start N vs)[i]? =L bL):=λ{i t} e=>by
  delta L2.start;by_cases y:i< ~~~sl
  .rw[aP y]at e;let⟨v,d,f⟩:=vJ r e;exact .inl ⟨v,e,d,by rw[aP (by simp;lia),nX,d];rfl,f⟩
  rw[tR bZ,Hf]at e;split at e
  .cases e;refine .inr ⟨rfl,?_⟩;rw[tR (by simp;lia),Hf];dsimp[cA];rw[cK bZ]
  cases e
 let ob:∀{i:bD} {p s},(mH N.length sl)[i]? =L (.obj p s)->∃v,sl[i]? =L (.obj p s)/\vs[i]? =L v/\(start N vs)[i]? =L (L v):=λe=>by
  rcases k e with⟨v,d,f,o,_⟩|⟨h,_⟩
  .exact⟨v,d,f,o⟩
  cases h
 refine⟨g,⟨z,g.sub,?_,λi t e=>?_,λi j p s q t a b n m l u w=>?_⟩,λi p s a m l=>?_⟩
 .delta mH L2.start;dsimp[cO,cA,QW]
  lia
 .rcases k e with⟨v,_,_,d,f⟩|⟨rfl,h⟩
  .exact⟨_,d,f⟩
  exact⟨_,h,trivial⟩
 .let⟨_,d,A,C⟩:=ob m;let⟨_,f,B,E⟩:=ob l;rw[C]at u;cases u;rw[E]at w;cases w;exact x i j p s q t a b n d f A B
 let⟨v,d,f,o⟩:=ob m;rw[o]at l;cases l;calc fr i p s a d f
theorem mz:∀{ds vs},DatL K F ds vs->jN (λs v=>eQ K F H s (L v)) (ds.map .val) vs| [],_,h=>by dsimp[DatL]at h;subst h;calc .nil|d::ds,_,h=>by dsimp[DatL]at h;let⟨x,r,rfl,a,b⟩:=h;calc .cons ⟨x,rfl,a⟩ (mz b)
def m4{p:bD}{s:Ob}(e:(ds.map Slot.val)[i]? =some (.obj p s)):hI:=by
 rw[nX]at e;cases h:ds[i]? with
 |none=>rw[h]at e;cases e|some d=>rw[h]at e;cases e
def CZ(c:pC F H)(s:bX F H)(r:DatL K F ds vs):SR K F H F H (wG N.length ds) (start N vs):=by
 have:=yf (N:=N) c (.refl s) (mz (H:=H) r) (λi j p s q t a b n e=>(m4 e).elim) λi p s a e=>(m4 e).elim
 delta mH at this;rw[cA]at this;calc this
theorem WS{st:fQ}{f:bI}{e:Sp}(F:jB K x qual st f fd)(S:pT N ps (dU st))(d:∀vs H Q E,e vs H Q E-> ~~~vs= ~~~ps)(a:∀(cdv:bK) (A:gW) (outer:J jK) (s:bT) (H:Hp) (vs:J V) (Q:VK) (E:XK),fd.code=cdv->fZ k (A.deeper (nZ qual (dU st) s⁻¹ f cdv))->e vs H Q E->
   ∃t,pA (nG fS P w K mg base N qual (dU st) f cdv A outer s H E).nox (mG st) t/\t {nx:=λ_ T=>Q .n T,rt:=Q} (start N vs) H):fC P w K mg base fS (k+1) f fd ps e:=by
 let⟨oc,od,kV,g,m,an,cdv,l,j,rfl,lk,b⟩:=F.ex;refine Cz lk b S d λA outer s H vs Q E i c=>?_
 let⟨t,h,q⟩:=a cdv A outer s H vs Q E rfl i c;calc⟨t,h.nox,q⟩
def C0{st:fQ}{f:bI}(F:jB K x qual st f fd)(S:pT N ps (dU st))(a:∀(_:Pd) (cdv:bK) (A:gW) (outer:J jK) (s:bT) (H:Hp) (E:XK),fd.code=cdv->fZ k (A.deeper (nZ qual (dU st) s⁻¹ f cdv))->
   nH (nG fS P w K mg base N qual (dU st) f cdv A outer s H E).nox (mG st) g):fC P w K mg base fS (k+1) f fd ps (qK K (dS ps.length N.length g)):=by
 refine WS F S (λvs H Q E h=>?_) (λcdv A outer s H vs Q E b j h=>?_)
 .let⟨F,ds,_,_,r,q⟩:=h;delta dS at q;split at q
  .rename_i e;rw[<-r.length];exact e
  cases q
 let⟨F,ds,l,s',r,q⟩:=h
 letI:Pd:=bl
 refine⟨_,a bl cdv A outer s H E b j F H,wG N.length ds,F,CZ l s' r,?_⟩;delta dS at q;split at q
 .revert q;cases g (wG N.length ds)with
  |ok i=>
   intro q;cases i with
   |nx O=>calc λY F' T c=>q .n F' T c.gr (by dsimp)|rt d=>calc q|_=>calc q.elim
  |bad=>exact lX
 cases q
def C1{st:fQ}{f:bI}(F:jB K x qual st f fd)(S:pT N ps (dU st))(a:∀(_:Pd) (cdv:bK) (A:gW) (outer:J jK) (s:bT) (H:Hp) (E:XK),fZ k (A.deeper (nZ qual (dU st) s⁻¹ f cdv))->
   nH (nG fS P w K mg base N qual (dU st) f cdv A outer s H E).nox (mG st) g):fC P w K mg base fS (k+1) f fd ps (qK K (dS ps.length N.length g)):=C0 F S λc cdv A outer s H E _ b=>a c cdv A outer s H E b
end
variable{u:MS}
def WT{t sl:bI}{j k:bK}(b:iw s.heap t items)(hs:s.heap.IsSliceOf sl j k .none)(pl:ak j a)(m:ak k c)(i:HT.sIx items.size 0 a=0/\HT.sIx items.size items.size c=items.size)(h:Q (.ref t) s):(A>>>(bc (.ref t) (.ref sl))) Q E s:=by
 let⟨os,g,e,l⟩:=id hs;let d:s.TypeIs (.ref sl) "slice" :=⟨os,g,e⟩;delta bc;try with_reducible refine ei ?_
 first|refine bV (cT ?_)|skip
 refine bV (Rz b.typeIs hG ?_)
 refine bV (oS (name:=wV "__getitem__") b.typeIs j8
  (km j8 b.typeIs Rg ?_ (Rn _ _)))
 show wpAny _ _ (QC (.ref t)>>=_) _ _ s;refine bV (Ib b ?_);refine bV (o7 d ?_);rw[cK hG];refine bV (HT.sliceApplied_gen hs pl m ?_);let f:((((HT.sIx items.size 0 a:bD):bH)==0&&(1:bH)==1&&(HT.sIx items.size items.size c-HT.sIx items.size 0 a)==items.size)=bF):=by rw[i.1,i.2];simp
 show wpAny _ _ (if(((HT.sIx items.size 0 a:bD):bH)==0&&(1:bH)==1&&(HT.sIx items.size items.size c-HT.sIx items.size 0 a)==items.size)=bF then _ else _) _ _ s;rw[cK f];delta cD4;refine bV (bV (o7 b.typeIs ?_));refine cT ?_;rw[cK hG];calc bV (g0 (cT ⟨_,rfl,cT h⟩))
theorem WU:fillsNumberSlot (.type "tuple") "mul" =dX bJ:=
 PySem.fillsNumberSlot_seq (id:="tuple.__mul__") (r:=L (.builtin "tuple.__rmul__")) F.slot_tuple_mul.lookup lW F.slot_tuple_rmul.lookup lW
theorem WV:seqRepeat? (.type "tuple")=dX (L (.builtin "tuple.__mul__")):=by delta seqRepeat?;rw[RJ (T:="tuple") (name:="__mul__") (id:="tuple.__mul__") F.slot_tuple_mul.lookup lW,RJ (T:="tuple") (name:="__rmul__") (id:="tuple.__rmul__") F.slot_tuple_rmul.lookup lW];rfl
def WW(a)(t)(l)(items)(n)(d)(sl):
 Meets (et.«int.__rmul__» ⟨[.int a t,.ref l],[]⟩) (λ_ R s=>s.heap.get? l=L {cls:=.type "tuple",dict:=d,data:=.seq items n,slots:=sl}/\R (.ok (.ret Value.notImplemented)) s):=
 .of_wp λprog w A R s h=>by let⟨c,g,d,e,os⟩:=s;let⟨b,h⟩:=h;wp_walk;calc⟨_,rfl,h⟩
def WX(l)(items)(n)(x)(u)(d)(sl)(e: ¬ (x< -(2^63)||x≥2^63)=bF)(h2: ¬ (items.isEmpty||x==1)=bF)(f: ¬ (x<=0||items.isEmpty)=bF)(i: ¬ ((items.size:bH)*x>(2^63-1)/8))(j: ¬ QD ((items.size:bH)*x)=bF)(c:(pb (λa b=>a++b) #[] (nR x.toNat items)).size<=cR):
 Meets (et.«tuple.__mul__» ⟨[.ref l,.int x u],[]⟩) (λ_ R s=>s.heap.get? l=L {cls:=.type "tuple",dict:=d,data:=.seq items n,slots:=sl}/\R (.ok (.ret (lD s⁻¹))) {s with heap:=s.heap.push {cls:=gw "tuple",data:=Jk (pb (λa b=>a++b) #[] (nR x.toNat items))},toks:=s.toks}):=
 .of_wp λprog w A R s h=>by
  let⟨o,g,d,p,os⟩:=s;let⟨k,h⟩:=h
  wp_walk
  rw[cX e];refine bV (Ib ⟨_,k,rfl,_,rfl⟩ ?_);rw[cX h2,cX f,cX i,cX j]
  first
   |calc bV (m:=oR _) (du (cT ⟨_,rfl,h⟩) c)
   |calc bV (m:=oR _) (du (cT ⟨_,rfl,cT h⟩) c)
def KH(xs:J bK)(k):pb (λc d=>c++d) #[] (nR k xs.toArray)=((nR k xs).flatten).toArray:=by
 let b:∀(k:bD) (a:J bK),pb (λc d=>c++d) a.toArray (nR k xs.toArray)=(a++(nR k xs).flatten).toArray:=by
  intro k;induction k with
  |zero=>intro a;simp
  |succ k f=>intro a;rw[gc,ef,gc,oX];let e:a.toArray++xs.toArray=(a++xs).toArray:=cS;rw[e,f,nQ]
 calc b k []
def KI(xs:J α)(k): ~~~((nR k xs).flatten)=k* ~~~xs:=by
 induction k with
 |zero=>simp|succ k a=>rw[gc,oX,cO,a,SH];lia
theorem WY{t:bI}{vs:J bK}{x:bH}{u:nA}(i:iw s.heap t vs.toArray)(j:vs≠ [])(h2:2<=x)(k:x<=1000)(f: ~~~vs<=1000)(h:Q (.ref s⁻¹) {s with heap:=s.heap.push {cls:=.type "tuple",data:=.seq ((nR x.toNat vs).flatten).toArray}}):(A>>>(pN .Mult (.ref t) (.int x u))) Q E s:=by
 let⟨⟨cls,dd,data,sl⟩,a,b,n,c⟩:=id i;simp only at b c;subst b c;let d:vs.toArray.isEmpty=bJ:=by
  cases vs with
  |nil=>calc dD bQ j|cons _ _=>rfl
 let g: ~~~vs*x.toNat<=1000*1000:=HS f bZ;let e:((vs.toArray.size:bH)*x)=((~~~vs*x.toNat:bD):bH):=by
  rw[hY,Int.natCast_mul];congr 1
  lia
 let hs:=sizeLine_eq';rw[<-KH]at h
 exact wpAny_binaryOp_repeat_ref (T:="tuple") (U:="int") hG ⟨_,a,rfl⟩ (λs'=>IQ s' x u) WU F.fills_int_mul F.slot_int_rmul WV F.slot_int_index.lookup
  (gy F.slot_int_rmul (IQ s x u) F.entry_int_rmul (F.args_int_rmul_2 _ _) (WW x u t vs.toArray n dd sl)
    ⟨a,rfl,⟨_,a,rfl⟩,gy F.slot_tuple_mul ⟨_,a,rfl⟩ F.entry_tuple_mul (F.args_tuple_mul_2 _ _)
     (WX t vs.toArray n x u dd sl (by simp;lia) (by rw[d];simp;lia) (by rw[d];simp;lia) (by rw[e];lia) (by rw[e];delta QD;calc λz=>dD (kR z) bZ)
       (by rw[KH,hY,KI,SI];lia))
     ⟨a,h⟩⟩)
 where sizeLine_eq':1000000<=cR:=hG
section
variable [dG] [Pd]
inductive rD(X:Cx)(m:D->D->bP D)(x:V)(y:V)(H:Hp)(Q:VK):Prop
 |mk (F:_) (d1:_) (d2:_) (_:bX F H) (_:bM X.K F d1 x) (_:bM X.K F d2 y) (_:gE (bM X.K) F H (m d1 d2) Q)
inductive KJ(X:Cx)(m:D->bP D)(x:V)(H:Hp)(Q:VK):Prop
 |mk (F:_) (d:_) (_:bX F H) (_:bM X.K F d x) (_:gE (bM X.K) F H (m d) Q)
inductive vM(X:Cx)(m:J D->bP D)(xs:J V)(H:Hp)(Q:VK):Prop
 |mk (F:_) (ds:_) (_:bX F H) (_:DatL X.K F ds xs) (_:gE (bM X.K) F H (m ds) Q)
def yg{m:D->D->bP D}:mx X (rD X m) m:=λF H a b e f Q s c d q=>⟨F,a,b,s,c,d,q⟩
def WZ{m:D->bP D}:qt X (KJ X m) m:=λF H d v Q s h q=>⟨F,d,s,h,q⟩
def yh:my X (vM X m) m:=λF H ds vs Q s h q=>⟨F,ds,s,h,q⟩
def W0{m:D->D->bP D}(h:fU X (pN c) (rD X m))(d:IE X a f)(e:IE X b g):IE X (.BinOp a c b pos) (m2 m f g):=Wv h yg d e
def W1{m:D->D->bP D}(h:fU X (jH op) (rD X m))(c:IE X a f)(d:IE X b g)(e:wT op b=bJ):IE X (.Compare a [op] [b] pos) (m2 m f g):=Ww h yg c d e
def KL{m:D->D->bP D}(h:fU X (jH op) (rD X m))(c:IE X a f)(d:IE X b g)(e:wT op b=bJ):IT X (.Compare a [op] [b] pos) (mB (m2 m f g)):=WF h yg c d e
noncomputable def cL:D->D->bP D| .int a,.int b=>.ok (.int (a+b))| .str x,.str y=>if ~~~x+ ~~~y<=cR then .ok (.str (x++y))else .bad| .t xs,.t ys=>if ~~~xs+ ~~~ys<=cR then .ok (.t (xs++ys))else .bad| .l xs,.l ys=>if ~~~xs+ ~~~ys<=cR then .ok (.l (xs++ys))else .bad|_,_=>.bad
def W2(x y:U): ~~~(x++y)= ~~~x+ ~~~y:=by show(x.cps++y.cps).size=_;rw[HD];rfl
def W3:fU X (pN .Add) (rD X cL):=by
 intro pe s Y H x y v u Q I M N h;let⟨F,d1,d2,g,k,l,q⟩:=h;cases d1<;>cases d2<;>try exact q.elim
 .dsimp at k l;subst k l;exact UE pe s Y H _ _ v u Q I M N ⟨_,_,rfl,rfl,dY q g (by dsimp)⟩
 .dsimp at k l;let⟨rfl,z1⟩:=k;let⟨rfl,z2⟩:=l;dsimp[cL]at q;split at q
  .rename_i z;exact U4 pe s Y H _ _ v u Q I M N ⟨_,_,rfl,rfl,z,dY q g (by dsimp;calc⟨trivial,by rw[W2];calc z⟩)⟩
  cases q
 .rename_i xs ys;dsimp at k l;let⟨p1,vs,rfl,i,a⟩:=k;let⟨p2,ws,rfl,j,b⟩:=l;dsimp[cL]at q;split at q
  .rename_i z;let m:=bX.seqT g i;let o:=bX.seqT g j;let l1:=a.length;let l2:=b.length;by_cases hx:vs= []
   .subst hx;let S:xs= []:=f8.mp l1;subst S;cases M;cases N;let⟨its,O,Z,_⟩:=I.tuple m;let⟨f,r2,a0,_⟩:=I.tuple o;let e0:its= []:=O.nil_iff.mpr rfl;subst e0;let⟨⟨P,dd,A,sl⟩,G,C,n,E⟩:=id Z;let⟨⟨w,B,r,t⟩,e,c,W,d⟩:=id a0;simp only at C E c d;subst C E c d
    exact wg ⟨_,G,rfl⟩ ⟨_,e,rfl⟩ HK Ia Hn Hg (Hc _ _)
     (tuple_addW0 p1 p2 _ _ n W dd B sl t cS) ⟨G,e,⟨.ref p2,H,I,rfl,dY q g (by dsimp[bM,ko];calc⟨p2,ws,rfl,j,b⟩)⟩⟩
   refine VG pe s Y H _ _ v u Q I M N ⟨p1,p2,vs,ws,rfl,rfl,m,o,hx,bZ,λhy=>?_,λhy p hp=>?_⟩
   .subst hy;let T:ys= []:=f8.mp l2;subst T;exact dY q g (by dsimp[bM,jF];calc⟨p1,vs,rfl,i,a⟩)
   exact mv q g (DatL.of (vH a.paired b.paired)) hp
  cases q
 rename_i xs ys;dsimp at k l;let⟨p1,vs,rfl,i,a⟩:=k;let⟨p2,ws,rfl,j,b⟩:=l;dsimp[cL]at q;split at q
 .rename_i z;let l1:=a.length;let l2:=b.length;cases M;cases N;let⟨its,O,⟨⟨P,dd,A,sl⟩,n,G,C,E,hs⟩,z1⟩:=I.list (bX.seq g i);let⟨f,r2,⟨⟨w,B,r,t⟩,W,e,c,d,K⟩,z2⟩:=I.list (bX.seq g j);simp only at C E c d hs K;subst C E c d hs K;let k1:=O.length;let k2:=r2.length
  refine wg ⟨_,G,rfl⟩ ⟨_,e,rfl⟩ QZ Ro Q0 QU (QP _ _)
   (list_addW p1 p2 _ _ n W bL bL sl t (by dsimp[hY];lia)) ⟨G,e,?_⟩
  let ea:its.toArray++f.toArray=(its++f).toArray:=cS;rw[ea];exact⟨.ref _,_,I.lnew (t':=s.toks) (O.append r2) (by rw[cO];lia),rfl,iL q g (DatL.of (vH a.paired b.paired)) I.fresh⟩
 cases q
def C2{m:D->D->bP D}{C:bH->bH->Prop}{gv:bH->bH->V}{gd:bH->bH->D}(a:fU X d (rI C gv))(l:∀b c F H Q,gE (bM X.K) F H (m b c) Q->∃i j,b= .int i/\c= .int j/\C i j/\gE (bM X.K) F H (.ok (gd i j)) Q)(k:∀i j F,bM X.K F (gd i j) (gv i j)):fU X d (rD X m):=by
 intro pe s Y H x y v u Q I n o h;let⟨F,b,c,p,e,f,q⟩:=h;let⟨i,j,rfl,rfl,g,q⟩:=l b c F H Q q;dsimp at e f;subst e f;calc a pe s Y H _ _ v u Q I n o ⟨i,j,rfl,rfl,g,dY q p (k i j F)⟩
def W4{gv:bH->bH->V}(h:fU X a (bj gv)):fU X a (rI (λ_ _=>bf) gv):=by intro pe s Y H x y v u Q I d e q;let⟨i,j,b,c,_,q⟩:=q;calc h pe s Y H x y v u Q I d e ⟨i,j,b,c,q⟩
noncomputable def dI(C:bH->bH->bW)(g:bH->bH->D):D->D->bP D| .int a,.int b=>if C a b=bF then .ok (g a b)else .bad|_,_=>.bad
def C3{C:bH->bH->bW}{Q:V->Hp->Prop}(a b)(q:gE (bM X.K) F H (dI C g a b) Q):∃i j,a= .int i/\b= .int j/\C i j=bF/\gE (bM X.K) F H (.ok (g i j)) Q:=by
 cases a<;>cases b<;>try exact q.elim
 rename_i i j;dsimp[dI]at q;split at q
 .rename_i h;exact⟨i,j,rfl,rfl,h,q⟩
 cases q
def rH:D->D->bP D:=dI (λ_ _=>bF) λa b=>.int (a-b)
def W5:fU X (pN .Sub) (rD X rH):=C2 (gd:=λa b=>.int (a-b)) (W4 UF) (λc d F H Q q=>let ⟨i,j,e1,e2,_,q⟩:=C3 c d q;⟨i,j,e1,e2,trivial,q⟩) λi j F=>by dsimp
def jW:D->D->bP D:=dI (λ_ j=>cE (0<j/\j<1073741824)) λa b=>.int (a/b)
def W6:fU X (pN .FloorDiv) (rD X jW):=C2 (gd:=λa b=>.int (a/b)) UH (λd e F H Q q=>let ⟨i,j,e1,e2,c,q⟩:=C3 d e q;⟨i,j,e1,e2,(show 0<j/\j<1073741824 from kR c),q⟩) λi j F=>by dsimp
def fW:D->D->bP D:=dI (λ_ j=>cE (0<j)) λa b=>.int (a%b)
def W7:fU X (pN .Mod) (rD X fW):=C2 (gd:=λa b=>.int (a%b)) UI (λd e F H Q q=>let ⟨i,j,e1,e2,c,q⟩:=C3 d e q;⟨i,j,e1,e2,kR c,q⟩) λi j F=>by dsimp
noncomputable def C4(i:bH):bW:=cE (-(2^64)<i/\i<2^64)
noncomputable def mI:D->D->bP D| .int a,.int b=>if C4 a||C4 b then .ok (.int (a*b))else .bad| .str x,.int n=>if 0<=n/\n<=100000/\~~~x<=100 then .ok (.str (Ie x n))else .bad| .t ds,.int n=>if 2<=n/\n<=1000/\0< ~~~ds/\~~~ds<=1000 then .ok (.t ((nR n.toNat ds).flatten))else .bad|_,_=>.bad
def W8(x)(n): ~~~(Ie x n)<= ~~~x*n.toNat:=by
 delta Ie;split
 .show 0<=_;lia
 rename_i g;split
 .rename_i b;rw[v8]at b;rcases b with b|b
  .have:n=1:=kI b;subst this;simp
  have: ~~~x=0:=kI b
  lia
 let e:∀(k:bD) (a:dE bD),(pb (λc d=>c++d) a (nR k x.cps)).size=a.size+ ~~~x*k:=by
  intro k;induction k with
  |zero=>intro a;simp
  |succ k f=>
   intro a;rw[gc,ef,f,HD,SJ];show a.size+x.cps.size+ ~~~x*k=a.size+(~~~x*k+ ~~~x);have:x.cps.size= ~~~x:=rfl
   lia
 show(pb (λc d=>c++d) #[] (nR n.toNat x.cps)).size<=_;rw[e];simp
theorem KM{us:J bK}(r:dR xs us):∀k,dR ((nR k xs).flatten) ((nR k us).flatten)|0=>.nil|k+1=>by rw[gc,oX,gc,oX];calc r.append (KM r k)
theorem KN{G:α->β->Prop}{xs:J α}{us:J β}(r:jN G xs us):∀k,jN G ((nR k xs).flatten) ((nR k us).flatten)|0=>.nil|k+1=>by rw[gc,oX,gc,oX];calc vH r (KN r k)
def W9:fU X (pN .Mult) (rD X mI):=by
 intro pe s Y H x y v u Q I r w h;let⟨F,C,E,g,a,c,q⟩:=h;cases C<;>cases E<;>try exact q.elim
 .rename_i i j;dsimp at a c;subst a c;dsimp[mI]at q;split at q
  .rename_i d;refine UG pe s Y H _ _ v u Q I r w ⟨_,_,rfl,rfl,?_,dY q g (by dsimp)⟩;rw[v8]at d;rcases d with d|d
   .exact .inl (kR d)
   exact .inr (kR d)
  cases q
 .rename_i z n;dsimp at a c;let⟨rfl,P⟩:=a;subst c;dsimp[mI]at q;split at q
  .rename_i f;let⟨t,rfl⟩:=r;let⟨t',rfl⟩:=w;let M: ~~~z*n.toNat<=100*100000:=HS f.2.2 bZ;let l:PySem.MulOk z n:=by
    refine⟨?_,λa _=>?_,λa _=>?_⟩
    .let G:cE (n< -(2^63:bH))=bJ:=jI bZ;let K:cE (n≥2^63)=bJ:=jI bZ;rw[G,K];rfl
    .let N:1<=n:=by lia
     let A:(100:bH)<=(2^63-1)/n:=by
      apply Int.le_ediv_of_mul_le bZ
      lia
     lia
    show Rh (~~~z*n.toNat)=bJ;delta Rh;let O:=vA;exact jI bZ
   exact PySem.SB.mul l λZ k=>⟨.str _,H,I.tok _,⟨_,rfl⟩,dY q g (by
    dsimp;refine⟨trivial,hE (W8 z n) ?_⟩;have:=vA
    lia)⟩
  cases q
 rename_i ds n;dsimp at a c;subst c;let⟨p1,vs,rfl,m,e⟩:=a;dsimp[mI]at q;split at q
 .rename_i f;let W:=e.length;cases r;let⟨t',rfl⟩:=w;let⟨its,B,p,_⟩:=I.tuple (bX.seqT g m);let S:=B.length;let P:=vA;refine WY p (λz=>by rw[z,mF]at S;lia) f.1 f.2.1 bZ ?_;let T:dR ((nR n.toNat vs).flatten) ((nR n.toNat its).flatten):=KM B _;refine⟨.ref s⁻¹,_,I.laid (t':=s.toks) (o:=.t ((nR n.toNat vs).flatten)) (λb ob q=>gF _ q) (cU _) ?_,rfl,mv q g (DatL.of (KN e.paired _)) (I.hok.fresh (cU _))⟩;refine⟨?_,_,T,xD.new _ _⟩;rw[KI];have:n.toNat* ~~~vs<=1000*1000:=HS bZ bZ
  lia
 cases q
noncomputable def qv:D->bP D| .int a=>.ok (.int (-a))|_=>.bad
def Xa:qh X (BY .USub) (KJ X qv):=by
 intro pe s Y H x v Q I b h;let⟨F,d,c,a,q⟩:=h;cases d<;>try exact q.elim
 dsimp at a;subst a;calc UL pe s Y H _ v Q I b ⟨_,rfl,dY q c (by dsimp)⟩
def Xb(b:IE X a f):IE X (.UnaryOp .USub a pos) (m1 qv f):=Wy Xa WZ b
noncomputable def yW:D->D->bP D| .int a,.int b=>.ok (.b (cE (a<b)))| .str a,.str b=>.ok (.b (cE (a.cps.toList<b.cps.toList)))|_,_=>.bad
noncomputable def nI:D->D->bP D| .int a,.int b=>.ok (.b (cE (a<=b)))| .str a,.str b=>.ok (.b (!cE (b.cps.toList<a.cps.toList)))|_,_=>.bad
noncomputable def pU:D->D->bP D| .int a,.int b=>.ok (.b (cE (b<a)))|_,_=>.bad
def Xc:fU X (jH .Lt) (rD X yW):=by
 intro pe s Y H x y v u Q I c d h;let⟨F,f,g,e,a,b,q⟩:=h;cases f<;>cases g<;>try exact q.elim
 .dsimp at a b;subst a b;exact US pe s Y H _ _ v u Q I c d ⟨_,_,rfl,rfl,dY q e (by dsimp)⟩
 dsimp at a b;let⟨rfl,i⟩:=a;let⟨rfl,j⟩:=b;calc UV pe s Y H _ _ v u Q I c d ⟨_,_,rfl,rfl,dY q e (by dsimp)⟩
def Xd:fU X (jH .LtE) (rD X nI):=by
 intro pe s Y H x y v u Q I d e h;let⟨F,g,i,f,a,c,q⟩:=h;cases g<;>cases i<;>try exact q.elim
 .dsimp at a c;subst a c;exact UT pe s Y H _ _ v u Q I d e ⟨_,_,rfl,rfl,dY q f (by dsimp)⟩
 dsimp at a c;let⟨rfl,k⟩:=a;let⟨rfl,l⟩:=c;let⟨t,rfl⟩:=d;let⟨j,rfl⟩:=e;calc PySem.P.le_str (qH I (dY (b:=V.b _) q f (by dsimp)) rfl)
def KO:fU X (jH .Gt) (rD X pU):=by
 intro pe s Y H x y v u Q I e f h;let⟨F,c,d,g,a,b,q⟩:=h;cases c<;>cases d<;>try exact q.elim
 dsimp at a b;subst a b;calc UU pe s Y H _ _ v u Q I e f ⟨_,_,rfl,rfl,dY q g (by dsimp)⟩
def rZ(m a:D->D->bP D)(f g h:ME):ME:=λO=>(f O).bind λx=>(g O).bind λy=>(m x y).bind λz=>(xQ z).bind λk=>if k=bF then(h O).bind λw=>a y w else .ok (.b bJ)
def KP{h:ME}{m:D->D->bP D}{Q:VK}(q:tD X (rZ m m' f g h) Y H Q):Ct (rD X m) (rD X m') (tD X f) (tD X g) (tD X h) Y H Q:=by
 let⟨O,F,E,q⟩:=q;refine⟨O,F,E,jV q λd v r x o t q=>⟨O,r,E.grow o,jV q λc A F2 H2 e l q=>⟨F2,d,c,e.sub,t.mono e.fs,l,jV q λz B a j i n q=>?_⟩⟩⟩;cases z with
 |b k=>
  dsimp at n;refine⟨k,n,?_⟩;cases k with
  |false=>calc yS (dY (show gE (bM X.K) a j (.ok (.b false)) Q from q) i.sub (by dsimp))|true=>calc xG ⟨O,a,((E.grow o).grow e).grow i,jV (show gE (bM X.K) a j ((h O).bind λw=>m' c w) Q from q) λw vw s y p u q=>⟨s,c,w,p.sub,(l.mono i.fs).mono p.fs,u,q⟩⟩
 |_=>calc q.elim
def Xe{h:ME}{m:D->D->bP D}(n:fU X (jH op) (rD X m))(e:fU X (jH d) (rD X m'))(i:IE X a f)(j:IE X b g)(k:IE X c h)(l:wl [op,d] [b,c]=bJ:=by with_unfolding_all rfl):
 IE X (.Compare a [op,d] [b,c] pos) (rZ m m' f g h):=gU (UZ n e i j k l) λ_ _ _ q=>KP q
def Xf{h:ME}{m:D->D->bP D}(n:fU X (jH op) (rD X m))(e:fU X (jH d) (rD X m'))(i:IE X a f)(j:IE X b g)(k:IE X c h)(l:wl [op,d] [b,c]=bJ:=by with_unfolding_all rfl):
 IT X (.Compare a [op,d] [b,c] pos) (mB (rZ m m' f g h)):=mw (U0 n e i j k l) λY H Q q=>CU (f:=rZ m m' f g h) (λ_ _ _ q=>KP q) q
mutual
noncomputable def qL:D->D->bW| .n,.n=>bF| .b a,.b b=>a==b| .b a,.int b=>(if a then 1 else 0)==b| .int a,.b b=>a==(if b then 1 else 0)| .int a,.int b=>a==b| .str a,.str b=>a==b| .t xs,.t ys=>eqL xs ys| .l xs,.l ys=>eqL xs ys| .dct _ _,.dct _ _=>bF| .shf _,.shf _=>bF|_,_=>bJ
noncomputable def eqL:J D->J D->bW| [],[]=>bF|x::xs,y::ys=>qL x y&&eqL xs ys|_,_=>bJ
end
mutual
noncomputable def fX:D->bD| .t xs=>depL xs+1| .l xs=>depL xs+1| .dct _ _=>1000| .shf _=>1000|_=>0
noncomputable def depL:J D->bD| []=>0|x::xs=>max (fX x) (depL xs)
end
mutual
theorem KQ:∀d:D,qL d d=bF| .n=>rfl| .b b=>(sL b:)| .int i=>(sL i:)| .str x=>(sL x:)| .t xs=>eqL_refl xs| .l xs=>eqL_refl xs| .dct _ _=>rfl| .shf _=>rfl
theorem eqL_refl:∀ds:J D,eqL ds ds=bF| []=>rfl|d::ds=>by rw[eqL,KQ d,eqL_refl ds];rfl
end
def KR(I:bS X pe Y H s){ys:J V}(h:kJ X.K H a xs)(h':jA X.K H a ys):hI:=by let⟨its,r,⟨o,e,c,n,d⟩,_⟩:=I.tuple h;let⟨f,k,⟨j,i,b,c',_,g⟩,_⟩:=I.list h';rw[e]at b;cases b;rw[c]at c';calc dD c' hG
abbrev lY(d:D):Prop:=fX d<1000
mutual
theorem bM.inj(I:bS X pe Y H s)(g:bX F H):∀{d d':D} {v:V},lY d->lY d'->bM X.K F d v->bM X.K F d' v->d=d'
 | .n,d',v,_,_,h,h'=>by dsimp at h;subst h;cases d'<;>dsimp at h'<;>first| (let⟨_,_,q,_⟩:=h';cases q;done)| (let⟨_,_,_,q,_⟩:=h';cases q;done)| (let⟨q,_⟩:=h';cases q;done)| (let⟨q,_⟩:=h';cases q;rfl)| (cases h';done)| (cases h';rfl)|rfl
 | .b b,d',v,_,_,h,h'=>by dsimp at h;subst h;cases d'<;>dsimp at h'<;>first| (let⟨_,_,q,_⟩:=h';cases q;done)| (let⟨_,_,_,q,_⟩:=h';cases q;done)| (let⟨q,_⟩:=h';cases q;done)| (let⟨q,_⟩:=h';cases q;rfl)| (cases h';done)| (cases h';rfl)|rfl
 | .int i,d',v,_,_,h,h'=>by dsimp at h;subst h;cases d'<;>dsimp at h'<;>first| (let⟨_,_,q,_⟩:=h';cases q;done)| (let⟨_,_,_,q,_⟩:=h';cases q;done)| (let⟨q,_⟩:=h';cases q;done)| (let⟨q,_⟩:=h';cases q;rfl)| (cases h';done)| (cases h';rfl)|rfl
 | .str x,d',v,_,_,h,h'=>by dsimp at h;let⟨rfl,_⟩:=h;cases d'<;>dsimp at h'<;>first| (let⟨_,_,q,_⟩:=h';cases q;done)| (let⟨_,_,_,q,_⟩:=h';cases q;done)| (let⟨q,_⟩:=h';cases q;done)| (let⟨q,_⟩:=h';cases q;rfl)| (cases h';done)| (cases h';rfl)|rfl
 | .dct _ _,_,_,z,_,_,_=>by delta lY at z;rw[fX]at z;lia| .shf _,_,_,z,_,_,_=>by delta lY at z;rw[fX]at z;lia| .t ds,d',v,z,j,h,h'=>by
  dsimp at h;let⟨a,xs,rfl,k,o⟩:=h;delta lY at z j;rw[fX]at z;cases d' with
  |t M=>dsimp at h';let⟨m,ys,e,c,f⟩:=h';cases e;have:=I.tuple_inj (bX.seqT g k) (bX.seqT g c);subst this;rw[fX]at j;rw[DatL.inj I g bZ bZ o f]|l M=>dsimp at h';let⟨m,ys,e,c,f⟩:=h';cases e;calc(KR I (bX.seqT g k) (bX.seq g c)).elim|str _=>dsimp at h';let⟨q,_⟩:=h';cases q|dct _ _=>rw[fX]at j;lia|shf _=>rw[fX]at j;lia|_=>dsimp at h';cases h'
 | .l ds,d',v,z,j,h,h'=>by
  dsimp at h;let⟨a,xs,rfl,k,o⟩:=h;delta lY at z j;rw[fX]at z;cases d' with
  |l M=>dsimp at h';let⟨m,ys,e,c,f⟩:=h';cases e;have:=I.list_inj (bX.seq g k) (bX.seq g c);subst this;rw[fX]at j;rw[DatL.inj I g bZ bZ o f]|t M=>dsimp at h';let⟨m,ys,e,c,f⟩:=h';cases e;calc(KR I (bX.seqT g c) (bX.seq g k)).elim|str _=>dsimp at h';let⟨q,_⟩:=h';cases q|dct _ _=>rw[fX]at j;lia|shf _=>rw[fX]at j;lia|_=>dsimp at h';cases h'
theorem DatL.inj(I:bS X pe Y H s)(c:bX F H):∀{ds M:J D} {xs:J V},depL ds<1000->depL M<1000->DatL X.K F ds xs->DatL X.K F M xs->ds=M
 | [],M,xs,_,_,h,h'=>by
  dsimp[DatL]at h;subst h;cases M with
  |nil=>rfl|cons e M=>dsimp[DatL]at h';let⟨_,_,q,_⟩:=h';cases q
 |d::ds,M,xs,z,i,h,h'=>by
  dsimp[DatL]at h;let⟨x,r,rfl,f,g⟩:=h;cases M with
  |nil=>dsimp[DatL]at h';cases h'|cons e M=>dsimp[DatL]at h';let⟨k,j,q,a,b⟩:=h';cases q;rw[depL]at z i;rw[bM.inj I c (by delta lY;lia) (by delta lY;lia) f a,DatL.inj I c bZ bZ g b]
end
def aw(ds M:J D)(j:bD):bW:=match ds[j]?,M[j]? with|some d,some e=>qL d e|_,_=>bF
theorem yi:∀ds M,eqL ds M=((gK (vF ds.length (~~~M))).all (aw ds M)&&(~~~ds== ~~~M))
 | [],[]=>rfl| [],e::M=>by simp[eqL]|d::ds,[]=>by simp[eqL]|d::ds,e::M=>by
  let g:=yi ds M;let a:vF (d::ds).length (~~~(e::M))=vF ds.length (~~~M)+1:=by dsimp[dB];lia
  rw[eqL,a,kf,lA,Iv,g];let b:(aw (d::ds) (e::M) ∘ Jl)=aw ds M:=by funext j;simp[aw]
  let c:aw (d::ds) (e::M) 0=qL d e:=by simp[aw]
  let f:(~~~(d::ds)== ~~~(e::M))=(~~~ds== ~~~M):=cS;rw[b,c,f,Bool.and_assoc]
theorem yj:∀{ds:J D} {j:bD} {d:D},ds[j]? =L d->fX d<=depL ds| [],_,_,h=>by simp at h|d::ds,0,_,h=>by simp at h;subst h;rw[depL];calc Nat.le_max_left _ _|d::ds,j+1,_,h=>by rw[depL];calc hE (yj (ds:=ds) (j:=j) (by simpa using h)) (Nat.le_max_right _ _)
inductive Vw(K:cG)(F:Hp)(s:bT):D->bK->Prop
 |n:Vw K F s .n .none
 |b (b:bW):Vw K F s (.b b) (.bool b)
 |int (i:bH) (t:_):Vw K F s (.int i) (.int i t)
 |str (x:U) (t:_):Vw K F s (.str x) (.str x t)
 |t {ds:J D} {p:bI} {xs:J V} {its:J bK} (h:iw s.heap p its.toArray) (r:dR xs its) (l:DatL K F ds xs):Vw K F s (.t ds) (.ref p)
 |l {ds:J D} {p:bI} {xs:J V} {its:J bK} (h:s.heap.IsList p its.toArray) (r:dR xs its) (l:DatL K F ds xs):Vw K F s (.l ds) (.ref p)
def Vw.of(I:bS X pe Y H s)(a:bX F H):∀{d x u},lY d->bM X.K F d x->dM x u->Vw X.K F s d u| .dct _ _,_,_,z,_,_=>by delta lY at z;rw[fX]at z;lia| .shf _,_,_,z,_,_=>by delta lY at z;rw[fX]at z;lia| .n,_,_,_,h,r=>by dsimp at h;subst h;cases r;calc .n| .b _,_,_,_,h,r=>by dsimp at h;subst h;cases r;calc .b _| .int _,_,_,_,h,r=>by dsimp at h;subst h;let⟨t,rfl⟩:=r;calc .int _ t| .str _,_,_,_,h,r=>by dsimp at h;let⟨rfl,_⟩:=h;let⟨t,rfl⟩:=r;calc .str _ t| .t _,_,_,_,h,r=>by dsimp at h;let⟨p,xs,rfl,g,l⟩:=h;cases r;let⟨its,k,t,_⟩:=I.tuple (bX.seqT a g);calc .t t k l| .l _,_,_,_,h,r=>by dsimp at h;let⟨p,xs,rfl,g,l⟩:=h;cases r;let⟨its,k,t,_⟩:=I.list (bX.seq a g);calc .l t.isList k l
def KS:∀{x p},dM x (.ref p)->x= .ref p
 | .ref _,_,h=>by cases h;rfl| .n,_,h| .b _,_,h| .ty _,_,h=>by cases h
 | .int _,_,h| .str _,_,h| .byt _,_,h| .flt _,_,h=>by let⟨_,z⟩:=h;cases z
def KT{M:J D}{ys:J V}{its:J bK}(w:∀(d e:D) (x y:V) (u v:bK),fX d<=n->lY e->bM X.K F d x->bM X.K F e y->dM x u->dM y v->lb A s u v (qL d e))(q:depL ds<=n)(he:depL M<1000)(h:DatL X.K F ds xs)(k1:dR xs its)(i:DatL X.K F M ys)(k2:dR ys a)(j)(w1:j<its.toArray.size)(k:j<a.toArray.size):lb A s its.toArray[j] a.toArray[j] (aw ds M j):=by
 let C:=h.length;let E:=i.length;let m1:=k1.length;let m2:=k2.length;rw[hY]at w1 k;let b:ds[j]? =L ds[j]:=mU bZ;let c:M[j]? =L M[j]:=mU bZ;let⟨x,r,dx⟩:=vJ h.paired b;let⟨y,t,l⟩:=vJ i.paired c;let⟨u,f,z⟩:=k1.get r;let⟨v,g,B⟩:=k2.get t;let o:its.toArray[j]=u:=kE ((mU w1).symm.trans f);let p:a.toArray[j]=v:=kE ((mU k).symm.trans g);let m:aw ds M j=qL ds[j] M[j]:=by delta aw;rw[b,c]
 rw[o,p,m];calc w _ _ x y u v (hE (yj b) q) (oT (yj c) he) dx l z B
def KU(I:bS X pe Y H s)(g:bX F H){e:D}{x y:V}{p q:bI}(h:lY d)(i:lY e)(b:bM X.K F d x)(h2:bM X.K F e y)(c:dM x (.ref p))(f:dM y (.ref q))(R1:BG A s (.ref p) (.ref q) (qL d e)):lb A s (.ref p) (.ref q) (qL d e):=by
 by_cases a:p=q
 .subst a;cases KS c;cases KS f;rw[bM.inj I g h i b h2,KQ];exact SeqAt.EqAt.same _
 exact SeqAt.EqAt.of_refs a R1
open SeqAt in
def yk{d e:D}{u v:bK}(c:A.units<jU)(a:Vw K F s d u)(b:Vw K F s e v)(f:∀ds M,d= .t ds->e≠ .t M)(i:∀ds M,d= .l ds->e≠ .l M):BG A s u v (qL d e)/\lb A s u v (qL d e):=by
 cases a with
 |n=>
  cases b with
  |n=>calc⟨.none_none,.same _⟩|b b=>calc⟨.none_bool b,.none_bool b⟩|int b t=>calc⟨.none_int b t,.none_int b t⟩|str b t=>calc⟨.none_str b t,.none_str b t⟩|t h _ _=>calc⟨.none_tuple h c,.none_tuple h c⟩|l h _ _=>calc⟨.none_list h c,.none_list h c⟩
 |b a=>
  cases b with
  |n=>calc⟨.bool_none a,.bool_none a⟩|b b=>calc⟨.bool_bool a b,.bool_bool a b⟩|int b t=>calc⟨.bool_int a b t,.bool_int a b t⟩|str b t=>calc⟨.bool_str a b t,.bool_str a b t⟩|t h _ _=>calc⟨.bool_tuple a h c,.bool_tuple a h c⟩|l h _ _=>calc⟨.bool_list a h c,.bool_list a h c⟩
 |int a t=>
  cases b with
  |n=>calc⟨.int_none a t,.int_none a t⟩|b b=>calc⟨.int_bool a t b,.int_bool a t b⟩|int b k=>calc⟨.int_int a t b k,.int_int a t b k⟩|str b k=>calc⟨.int_str a t b k,.int_str a t b k⟩|t h _ _=>calc⟨.int_tuple a t h c,.int_tuple a t h c⟩|l h _ _=>calc⟨.int_list a t h c,.int_list a t h c⟩
 |str a t=>
  cases b with
  |n=>calc⟨.str_none a t,.str_none a t⟩|b b=>calc⟨.str_bool a t b,.str_bool a t b⟩|int b k=>calc⟨.str_int a t b k,.str_int a t b k⟩|str b k=>calc⟨.str_str a t b k,.str_str a t b k⟩|t h _ _=>calc⟨.str_tuple a t h c,.str_tuple a t h c⟩|l h _ _=>calc⟨.str_list a t h c,.str_list a t h c⟩
 |t g _ _=>
  cases b with
  |n=>calc⟨.tuple_none g c,.tuple_none g c⟩|b b=>calc⟨.tuple_bool b g c,.tuple_bool b g c⟩|int b k=>calc⟨.tuple_int b k g c,.tuple_int b k g c⟩|str b k=>calc⟨.tuple_str b k g c,.tuple_str b k g c⟩|l h _ _=>calc⟨.tuple_list g h c,.tuple_list g h c⟩|t _ _ _=>calc(f _ _ bQ bQ).elim
 |l g _ _=>
  cases b with
  |n=>calc⟨.list_none g c,.list_none g c⟩|b b=>calc⟨.list_bool b g c,.list_bool b g c⟩|int b k=>calc⟨.list_int b k g c,.list_int b k g c⟩|str b k=>calc⟨.list_str b k g c,.list_str b k g c⟩|t h _ _=>calc⟨.list_tuple g h c,.list_tuple g h c⟩|l _ _ _=>calc(i _ _ bQ bQ).elim
def C5(I:bS X pe Y H s)(o:bX F H)(hn:n<1000):∀A d e x y u v,fX d<=n->lY e->A.units+n<jU->bM X.K F d x->bM X.K F e y->dM x u->dM y v->BG A s u v (qL d e)/\lb A s u v (qL d e):=by
 induction n with
 |zero=>intro A d e x y u v k i hu E p G B;let N:lY d:=oT k hn;refine yk hu (Vw.of I o N E G) (Vw.of I o i p B) (λ_ _ z=>?_) λ_ _ z=>?_<;>(subst z;rw[fX]at k;cases k)
 |succ n ih=>
  intro A d e x y u v k i hu E p G B;let N:lY d:=oT k hn;let h:A.units<jU:=bZ;let a0:A.in1.units+n<jU:=by show A.units+1+n<jU;lia
  let w1:=Vw.of I o N E G;let Z:=Vw.of I o i p B;let m:∀{ds M:J D} {xs ys:J V} {its g:J bK},depL ds+1<=n+1->depL M<1000->DatL X.K F ds xs->dR xs its->DatL X.K F M ys->dR ys g->∀(j:bD) (w1:j<its.toArray.size) (Z:j<g.toArray.size),lb A.in1 s its.toArray[j] g.toArray[j] (aw ds M j):=
   λq=>KT (λd e x y u v q z a b c f=>(ih bZ A.in1 d e x y u v q z a0 a b c f).2) (Nat.le_of_succ_le_succ q)
  clear ih;cases w1 with
  |t C r w=>
   cases Z with
   |t W S T=>refine(λO=>⟨O,KU I o N i E p G B O⟩) ?_;delta lY at i;rw[fX]at k i;let z:=SeqAt.RcAt.tuples C W h (m k bZ w r T S);rw[hY,hY, <-r.length, <-S.length, <-w.length, <-T.length, <-yi]at z;calc z|_=>calc yk h (.t C r w) (Vw.of I o i p B) (λ_ _ _ z=>by cases z) λ_ _ z=>by cases z
  |l C r w=>
   cases Z with
   |l W S T=>
    refine(λO=>⟨O,KU I o N i E p G B O⟩) ?_;delta lY at i;rw[fX]at k i;let m:=m k bZ w r T S;rename_i Q _ _ _ g;show BG _ _ _ _ (eqL _ _);rw[yi,w.length.trans (~~~r),T.length.trans (~~~S)];by_cases P: ~~~Q= ~~~g
    .let z:=SeqAt.RcAt.lists C W (by simpa using P) h m;rw[hY]at z;rw[mX.mpr P,Br, <-P,Nat.min_self];exact z
    rw[lT.mpr P,Sb];calc SeqAt.RcAt.lists_lengths (A:=A) (s:=s) C W (by simpa using P) h
   |_=>calc yk h (.l C r w) (Vw.of I o i p B) (λ_ _ z=>by cases z) λ_ _ _ z=>by cases z
  |_=>calc yk h (Vw.of I o N E G) Z (λ_ _ z=>by cases z) λ_ _ z=>by cases z
def dW(d e:D):bP D:=if fX d<=100/\fX e<=100 then .ok (.b (qL d e))else .bad
def Xg(j:X.A.units+100<jU):fU X (jH .Eq) (rD X dW):=by
 intro pe s Y H x y v u Q I k l h;let⟨F,d,e,a,f,g,q⟩:=h;delta dW at q;split at q
 .rename_i i;let c:=(C5 (n:=100) I a hG X.A d e x y v u i.1 (by delta lY;lia) j f g k l).1;exact c X.prog X.w X.xe _ ⟨.b _,H,I,rfl,dY q a (by dsimp)⟩
 cases q
def bp(d:D)(ds:J D):bW:=ds.any λe=>qL e d
def dT(neg:bW)(d:D):D->bP D
 | .t ds=>if depL ds<=100/\fX d<=100 then .ok (.b (if neg then !bp d ds else bp d ds))else .bad| .l ds=>if depL ds<=100/\fX d<=100 then .ok (.b (if neg then !bp d ds else bp d ds))else .bad| .dct a _=>match d with
  | .str k=>.ok (.b (neg != a.contains k))|_=>.bad
 |_=>.bad
def sA(K:cG)(F:Hp)(d:D)(u:bK):bW:=by
 classical
 calc if h:∃e x,lY e/\dM x u/\bM K F e x then qL h.choose d else bJ
def KW(I:bS X pe Y H s)(c:bX F H){e:D}{x:V}{u:bK}(z:lY e)(r:dM x u)(h:bM X.K F e x):sA X.K F d u=qL e d:=by
 classical
 let a:∃e x,lY e/\dM x u/\bM X.K F e x:=⟨e,x,z,r,h⟩;delta sA;rw[dif_pos a];let⟨f,g,b,h'⟩:=a.choose_spec;have:f=x:=b.inj r;subst this;rw[bM.inj I c g z h' h]
theorem qw(I:bS X pe Y H s)(a:bX F H){d:D}:∀{ds xs us},depL ds<1000->DatL X.K F ds xs->dR xs us->us.any (sA X.K F d)=bp d ds
 | [],_,_,_,h,r=>by dsimp[DatL]at h;subst h;cases r;rfl|e::ds,_,_,z,h,r=>by
  rw[depL]at z;dsimp[DatL]at h;let⟨x,xs,rfl,b,c⟩:=h;cases r with
  |cons f g=>rw[wU,KW I a (by delta lY;lia) f b,qw I a bZ c g];rfl
def Xh{ks:J U}{k:U}(h:kvs.map (·.1)=ks.map .inr):ks.contains k=(rF kvs (.inr k)).isSome:=by
 rw[<-Kn];induction kvs generalizing ks with
 |nil=>cases ks with
  |nil=>rfl|cons _ _=>cases h
 |cons p r a=>
  cases ks with
  |nil=>cases h|cons y ks=>
   rw[fY,fY,wa]at h;rw[List.contains_cons,wU,a h.2,h.1];congr 1;by_cases z:k=y
   .subst z;simp
   have: ¬ y=k:=λq=>z q.symm
   simp[z,this]
def KY(hu:X.A.units+200<jU):fU X (jH (if neg then .NotIn else .In)) (rD X (dT neg)):=by
 intro pe s Y H x y v u Q I M N h;let⟨F,a,P,c,C,i,q⟩:=h;let d:∀(ds:J D) (xs:J V) (its:J bK),DatL X.K F ds xs->dR xs its->depL ds<=100/\fX a<=100->∀w∈its.toArray,lb X.A.in1 s w v (sA X.K F a w):=λds xs its Z r m w hw=>by
  let E:w∈its:=by simpa using hw
  let⟨j,W⟩:=List.getElem?_of_mem E;let⟨x',G,z⟩:=iK r W;let⟨e,T,O⟩:=iK Z.paired G;let hm:=yj T;rw[KW I c (by delta lY;lia) z O];exact(C5 (n:=100) I c hG X.A.in1 e a x' x w v bZ (by delta lY;lia) (by show X.A.units+1+100<jU;lia) O C z M).2
 cases P with
 |t ds=>
  dsimp at i;let⟨p,xs,rfl,o,f⟩:=i;cases N;dsimp[dT]at q;split at q
  .rename_i m;let⟨its,r,pl,_⟩:=I.tuple (bX.seqT c o);cases neg with|false=>refine SeqAt.in_tupleAt (sA X.K F a) pl (d ds xs its f r m) ⟨.b _,H,I,rfl,?_⟩;rw[show its.toArray.any (sA X.K F a)=its.any (sA X.K F a) by simp,qw I c bZ f r];calc dY q c (by dsimp;rfl)|true=>refine SeqAt.notIn_tupleAt (sA X.K F a) pl (d ds xs its f r m) ⟨.b _,H,I,rfl,?_⟩;rw[show its.toArray.any (sA X.K F a)=its.any (sA X.K F a) by simp,qw I c bZ f r];exact dY q c (by dsimp;rfl)
  cases q
 |l ds=>
  dsimp at i;let⟨p,xs,rfl,o,f⟩:=i;cases N;dsimp[dT]at q;split at q
  .rename_i m;let⟨its,r,pl,_⟩:=I.list (bX.seq c o);cases neg with|false=>refine SeqAt.in_listAt (sA X.K F a) pl.isList (d ds xs its f r m) ⟨.b _,H,I,rfl,?_⟩;rw[show its.toArray.any (sA X.K F a)=its.any (sA X.K F a) by simp,qw I c bZ f r];calc dY q c (by dsimp;rfl)|true=>refine SeqAt.notIn_listAt (sA X.K F a) pl.isList (d ds xs its f r m) ⟨.b _,H,I,rfl,?_⟩;rw[show its.toArray.any (sA X.K F a)=its.any (sA X.K F a) by simp,qw I c bZ f r];exact dY q c (by dsimp;rfl)
  cases q
 |dct ks ds=>
  cases a with
  |str k=>
   dsimp at C i;let⟨rfl,_⟩:=C;let⟨p,kvs,rfl,o,S,_⟩:=i;cases N;let g:=xJ.k (k:=.inr k) (c _ _ o);let e:(rF kvs (.inr k)).isSome=ks.contains k:=by rw[<-Xh S]
   cases neg with
   |false=>calc V3 bZ I g M λs' B=>⟨.b _,H,B,rfl,by rw[e];calc dY q c (by dsimp;simp)⟩|true=>calc V4 bZ I g M λs' B=>⟨.b _,H,B,rfl,by rw[e];calc dY q c (by dsimp;simp)⟩
  |_=>calc q.elim
 |_=>calc q.elim
noncomputable def cZ(T:Tab)(k:U):bR D:=(T.find? λp=>cE (p.1=k)).map (·.2)
def C6(e: ¬ a=b): ¬ (ij a:gN)= .inr b:=λz=>e (by injection z)
def jP.length{T:Tab}(h:jP K F T kvs): ~~~T= ~~~kvs:=kx h
def jP.val{T:Tab}(h:jP K F T kvs)(k):(cZ T k=bL/\rF kvs (.inr k)=bL)\/ ∃d v,cZ T k=L d/\rF kvs (.inr k)=L v/\bM K F d v:=by
 delta jP at h;induction h with
 |nil=>calc .inl ⟨rfl,rfl⟩| @cons p q ps g h t f=>
  let⟨a,c⟩:=h;by_cases e:p.1=k
  .exact .inr ⟨p.2,q.2,by simp[cZ,zR,e],CG (by rw[a,e]),c⟩
  rw[CH (by rw[a];calc C6 e)];let b:cZ (p::ps) k=cZ ps k:=by simp[cZ,zR,e]
  rw[b];calc f
theorem qx:∀{ks:J U} {ds:J D} {kvs:J (gN×V)},kvs.map (·.1)=ks.map .inr->DatL K F ds (kvs.map (·.2))->jP K F (ks.zip ds) kvs| [],[],[],_,_=>.nil| [],_::_,[],_,h=>by dsimp[DatL]at h;let⟨_,_,h,_⟩:=h;cases h| [],_,_::_,h,_=>by cases h|_::_,_,[],h,_=>by cases h|_::_,[],_::_,_,h=>by dsimp[DatL]at h;cases h|k::ks,d::ds,p::kvs,h,h'=>by rw[fY,fY,wa]at h;dsimp[DatL]at h';let⟨x,r,e,a,b⟩:=h';cases e;calc .cons ⟨h.1,a⟩ (qx h.2 b)
noncomputable def cJ(T:Tab):D:=.dct (T.map (·.1)) (T.map (·.2))
def Xi{T:Tab}(h:jP K F T kvs):kvs.map (·.1)=(T.map (·.1)).map .inr/\DatL K F (T.map (·.2)) (kvs.map (·.2)):=by
 delta jP at h;induction h with
 |nil=>calc⟨rfl,DatL.nil⟩| @cons p q ps b h t a=>calc⟨by rw[fY,fY,fY,a.1,h.1],DatL.cons h.2 a.2⟩
def Xj{o i:bK}{T id:kO}(b:s.TypeIs o T)(d:IL (.type T) "__getitem__" =dX (L (.builtin id)))(h:(A>>>(bc o i)) Q E s)(hs:Bx a bJ o i=operate [o,i] (bc o i)):(A>>>(Bp value a o i)) Q E s:=by
 delta Bp;refine bV ?_;rw[getitemInPython_of_ne b.not_modules];refine bV (RU b d ?_);let dZ:(A>>>(Bx a bJ o i)) (λr c=>(A>>>(letTemporaryGo value o r>>=λ_=>dX r)) Q E c) E s:=by rw[hs];exact wpAny_operating (lU h (λr c e=>bV (wpAny_letTemporaryGo (cT e))) λ_ _ x=>x)
 first
  |calc cT (bV dZ)
  |calc bV (cT (bV dZ))
  |calc bV dZ
def dN:D->D->bP D
 | .t ds,.int i=>match pB ds i with
  |some d=>.ok d|none=>.bad
 | .l ds,.int i=>match pB ds i with
  |some d=>.ok d|none=>.bad
 | .str z,.int i=>match pB z.cps.toList i with
  |some c=>.ok (.str ⟨#[c]⟩)|none=>.bad
 | .dct a vs,.str k=>match cZ (a.zip vs) k with
  |some d=>.ok d|none=>.bad
 |_,_=>.bad
def KZ{xs:J α}{ys:J β}(h: ~~~xs= ~~~ys){i:bH}{x:α}(e:pB xs i=some x):∃j:bD,xs[j]? =some x/\pB ys i=ys[j]? :=by
 delta pB at e|-;rw[<-h];cases q:iG xs.length i with
 |none=>rw[q]at e;cases e|some j=>rw[q]at e;calc⟨j,e,rfl⟩
def Xk(P:X.A.units+1<jU):iH X (rD X dN):=by
 intro value a pe s Y H x y v u Q I o r h hs;let⟨F,G,K,f,b,e,q⟩:=h;cases G<;>cases K<;>try exact q.elim
 .rename_i z i;dsimp at b e;let⟨rfl,S⟩:=b;subst e;dsimp[dN]at q;split at q
  .rename_i c O;exact VN value a pe s Y H _ _ v u Q I o r ⟨z,i,c,rfl,rfl,S,O,dY q f (by dsimp;calc⟨trivial,by show 1<=cR;decide⟩)⟩ hs
  cases q
 .rename_i ds i;dsimp at b e;let⟨p,xs,rfl,m,n⟩:=b;subst e;dsimp[dN]at q;split at q
  .rename_i d l;let⟨j,t,w⟩:=KZ n.length l;let⟨x,B,dx⟩:=vJ n.paired t;exact ix_tup value a pe s Y H _ _ v u Q I o r ⟨p,xs,i,x,rfl,rfl,bX.seqT f m,w.trans B,dY q f dx⟩ hs
  cases q
 .rename_i ds i;dsimp at b e;let⟨p,xs,rfl,m,n⟩:=b;subst e;dsimp[dN]at q;split at q
  .rename_i d l;let⟨j,t,w⟩:=KZ n.length l;let⟨x,B,dx⟩:=vJ n.paired t;exact VM value a pe s Y H _ _ v u Q I o r ⟨p,xs,i,x,rfl,rfl,bX.seq f m,w.trans B,dY q f dx⟩ hs
  cases q
 rename_i ks ds k;dsimp at b e;let⟨p,kvs,rfl,m,M,N⟩:=b;let⟨rfl,_⟩:=e;dsimp[dN]at q;split at q
 .rename_i d l;rcases(qx M N).val k with⟨z,_⟩|⟨d',W,C,Z,z3⟩
  .rw[l]at z;cases z
  rw[l]at C;cases C;cases(show v=lD p from o);let g:=xJ.k (k:=.inr k) (f _ _ m);refine Xj (V8 I g) PySem.F.slot_dict_getitem.lookup (V2 P I (by rw[<-Z];calc g) r λw' s' E T=>⟨W,H,E,T,dY q f z3⟩) hs
 cases q
def Xl(e:X.A.units+1<jU)(c:IE X a f)(d:IE X b g)(hs:xq b:=by intro _ _;rfl):IE X (.Subscript a b pos) (m2 dN f g):=Wx (Xk e) yg c d hs
noncomputable def gJ:J D->bP D| [.str z]=>.ok (.int (~~~z))| [.t ds]=>.ok (.int (~~~ds))| [.l ds]=>.ok (.int (~~~ds))| [.dct a _]=>.ok (.int (~~~a))|_=>.bad
def pE(h:DatL K F [d] xs):∃x,xs= [x]/\bM K F d x:=by dsimp[DatL]at h;let⟨x,r,rfl,a,rfl⟩:=h;calc⟨x,rfl,a⟩
def C7:jL X (.builtin "len") (vM X gJ):=by
 intro pe s Y H xs e Q I r h;let⟨F,ds,b,d,q⟩:=h;delta gJ at q;split at q
 .rename_i z;let⟨x,rfl,a⟩:=pE d;dsimp at a;let⟨rfl,j⟩:=a;exact VS pe s Y H _ e Q I r ⟨z,rfl,j,dY q b (by dsimp)⟩
 .rename_i M;let⟨x,rfl,a⟩:=pE d;dsimp at a;let⟨p,ys,rfl,c,g⟩:=a;refine Kh pe s Y H _ e Q I r ⟨p,ys,rfl,.inr (bX.seqT b c),?_⟩;rw[<-g.length];exact dY q b (by dsimp)
 .rename_i M;let⟨x,rfl,a⟩:=pE d;dsimp at a;let⟨p,ys,rfl,c,g⟩:=a;refine Kh pe s Y H _ e Q I r ⟨p,ys,rfl,.inl (bX.seq b c),?_⟩;rw[<-g.length];exact dY q b (by dsimp)
 .let⟨x,rfl,a⟩:=pE d;dsimp at a;let⟨p,kvs,rfl,c,i,_⟩:=a;refine Wm pe s Y H _ e Q I r ⟨p,kvs,rfl,b _ _ c,?_⟩;rw[<-cA (f:=(·.1)) (as:=kvs),i,cA];exact dY q b (by dsimp)
 cases q
noncomputable def C8:J D->bP D| [.t ds]=>.ok (.l ds)| [.l ds]=>.ok (.l ds)|_=>.bad
def Xm:jL X (.type "list") (vM X C8):=by
 intro pe s Y H xs f Q I r h;let⟨F,ds,c,a,q⟩:=h;delta C8 at q;split at q
 .let⟨x,rfl,b⟩:=pE a;dsimp at b;let⟨p,ys,rfl,d,e⟩:=b;exact Ki pe s Y H _ f Q I r ⟨p,ys,rfl,.inr (bX.seqT c d),λl a=>iL q c e a⟩
 .let⟨x,rfl,b⟩:=pE a;dsimp at b;let⟨p,ys,rfl,d,e⟩:=b;exact Ki pe s Y H _ f Q I r ⟨p,ys,rfl,.inl (bX.seq c d),λl a=>iL q c e a⟩
 cases q
noncomputable def lG:J D->bP D| [.t ds]=>.ok (.t ds)| [.l ds]=>.ok (.t ds)|_=>.bad
def K0:jL X (.type "tuple") (vM X lG):=by
 intro pe s Y H xs g Q I r h;let⟨F,ds,c,b,q⟩:=h;delta lG at q;split at q
 .let⟨x,rfl,a⟩:=pE b;let e:=a;dsimp at a;let⟨p,ys,rfl,d,f⟩:=a;exact Kj pe s Y H _ g Q I r ⟨p,ys,rfl,.inr ⟨bX.seqT c d,dY q c e⟩⟩
 .let⟨x,rfl,a⟩:=pE b;dsimp at a;let⟨p,ys,rfl,d,f⟩:=a;exact Kj pe s Y H _ g Q I r ⟨p,ys,rfl,.inl ⟨bX.seq c d,λl b=>mv q c f b⟩⟩
 cases q
noncomputable def xT:J D->bP D| [.int i]=>if i.natAbs<2^64 then .ok (.str (zY i))else .bad| [.str z]=>.ok (.str z)|_=>.bad
end
section
variable [dG] [Pd]
noncomputable def C9(z:U):It:=⟨λi _=>i< ~~~z,λi H x T=>T=H/\ ∃c,z.cps[i]? =L c/\x= .str ⟨#[c]⟩,λi _=> ~~~z<=i⟩
def Xn(z)(t)(it):bi P w K tg (C9 z) [it] it (λi h=>h.IsStrIter it "str_ascii_iterator" z t i)where
 mem:=cS
 obj:=λi h st b a=>by
  let e:b=it:=by simpa using a
  subst e;let⟨o,e,c,d⟩:=st;exact⟨o,e,λv z=>by rw[d]at z;cases z⟩
 keep:=λi h h' st k=>let ⟨o,ho,r⟩:=st;⟨o,k it cS o ho,r⟩
 item:=by
  intro X u A q B i pe s Y H E I g st x;subst u A q;let⟨j,l,M,m,n,p⟩:=g it cS;let y:i< ~~~z:=x;let C:z.cps[i]? =L z.cps[i]:=AW y;refine wpAny_pyNext_ascii_item st C λh' f N=>?_
  let F:bS X pe Y H {s with heap:=h',toks:=s.toks+1}:=I.turned (λb o a e=>(N.2 b a).trans e) j l m n p;let⟨o,e,c,d⟩:=id f;exact⟨_,rfl,qf (s:={s with heap:=h',toks:=s.toks+1}) e c d hG ⟨.str ⟨#[z.cps[i]]⟩,H,F,⟨_,rfl⟩,⟨rfl,_,C,rfl⟩,f,λb a=>(g b a).1⟩⟩
 done:=by intro X u A q B i pe s Y H E I g st x;subst u A q;let⟨j,l,M,m,n,p⟩:=g it cS;let y: ~~~z<=i:=x;exact wpAny_pyNext_ascii_end (I.ok.hd B) st (Hr y) λh' G=>⟨rfl,I.turned (t':=s.toks) (λb o a e=>G b o a e) j l m n p⟩
 self:=λ_ _ _ _ _ st h=>wpAny_pyIter_striter_ascii st h
def Xo(z)(t)(it):bi P w K tg (C9 z) [it] it (λi h=>h.IsStrIter it "str_iterator" z t i)where
 mem:=cS
 obj:=λi h st b a=>by
  let e:b=it:=by simpa using a
  subst e;let⟨o,e,c,d⟩:=st;exact⟨o,e,λv z=>by rw[d]at z;cases z⟩
 keep:=λi h h' st k=>let ⟨o,ho,r⟩:=st;⟨o,k it cS o ho,r⟩
 item:=by
  intro X u A q B i pe s Y H E I g st x;subst u A q;let⟨j,l,M,m,n,p⟩:=g it cS;let y:i< ~~~z:=x;let C:z.cps[i]? =L z.cps[i]:=AW y;refine wpAny_pyNext_wide_item st C λh' f N=>?_
  let F:bS X pe Y H {s with heap:=h',toks:=s.toks+1}:=I.turned (λb o a e=>(N.2 b a).trans e) j l m n p;let⟨o,e,c,d⟩:=id f;exact⟨_,rfl,qf (s:={s with heap:=h',toks:=s.toks+1}) e c d hG ⟨.str ⟨#[z.cps[i]]⟩,H,F,⟨_,rfl⟩,⟨rfl,_,C,rfl⟩,f,λb a=>(g b a).1⟩⟩
 done:=by intro X u A q B i pe s Y H E I g st x;subst u A q;let⟨j,l,M,m,n,p⟩:=g it cS;let y: ~~~z<=i:=x;exact wpAny_pyNext_wide_end (I.ok.hd B) st (Hr y) λh' G=>⟨rfl,I.turned (t':=s.toks) (λb o a e=>G b o a e) j l m n p⟩
 self:=λ_ _ _ _ _ st h=>wpAny_pyIter_striter_wide st h
def sW(K:cG)(F:Hp)(a:It)(ds:J D):Prop:=∀n F2 H2,bX F F2->bX F2 H2->
 (∀d,ds[n]? =L d->a.go n H2/\ ∀x T,a.yld n H2 x T->∃F',cP F2 H2 F' T/\bM K F' d x)/\(n= ~~~ds->a.stop n H2)
abbrev ML:=cQ->bP (J D)
inductive tI(X:Cx)(f:ML)(Y:St)(H:Hp)(R:It->Hp->Prop):Prop
 |mk (O:_) (F:_) (_:gP X.K F H O Y) (_:match f O with
 | .ok ds=>∀J F' H',cP F H F' H'->sW X.K F' J ds->R J H'
 | .bad=>hI)
def II(X:Cx)(b a:bU)(f:ML):Prop:=PI X b a (tI X f)
noncomputable def eS(z:U):J D:=z.cps.toList.map λc=>.str ⟨#[c]⟩
noncomputable def iO:D->bP (J D)| .t ds=>.ok ds| .l ds=>.ok ds| .str z=>.ok (eS z)|_=>.bad
def Xp{t:TI}(h:PI X tg iter t)(i:∀Y H R,t' Y H R->t Y H R):PI X tg iter t':=λpe s Y H R I a=>h pe s Y H R I (i Y H R a)
def Xq(h:kJ K F a xs)(l:DatL K F ds xs):sW K F (JN K a) ds:=λn F2 H2 f g=>by let b:kJ K H2 a xs:=bX.seqT g (bX.seqT f h);refine⟨λd i=>?_,λj=>⟨xs,b,by rw[<-l.length,j];calc cU _⟩⟩;let⟨x,c,dx⟩:=vJ l.paired i;refine⟨⟨xs,x,b,c⟩,λk T y=>?_⟩;let⟨rfl,y⟩:=y;let e:=y xs b;rw[c]at e;cases e;calc⟨F2,.refl g,dx.mono f⟩
def Xr(h:jA K F a xs)(l:DatL K F ds xs):sW K F (JM K a) ds:=λn F2 H2 f g=>by let b:jA K H2 a xs:=bX.seq g (bX.seq f h);refine⟨λd i=>?_,λj=>⟨xs,b,by rw[<-l.length,j];calc cU _⟩⟩;let⟨x,c,dx⟩:=vJ l.paired i;refine⟨⟨xs,x,b,c⟩,λk T y=>?_⟩;let⟨rfl,y⟩:=y;let e:=y xs b;rw[c]at e;cases e;calc⟨F2,.refl g,dx.mono f⟩
def K1:sW K F (C9 z) (eS z):=λn F2 H2 h g=>by
 let f: ~~~(eS z)= ~~~z:=by delta eS;rw[cA];rfl
 refine⟨λd a=>?_,λb=>by show ~~~z<=n;lia⟩;let b:n< ~~~z:=by rw[<-f];exact(pK.mp a).1
 refine⟨b,λi T y=>?_⟩;let⟨rfl,c,e,rfl⟩:=y;delta eS at a;rw[nX,f9,e]at a;cases a;calc⟨F2,.refl g,by dsimp;calc⟨trivial,by show 1<=cR;decide⟩⟩
def Xs:sW K F (xh c k) (upTo c k):=λn F2 H2 g f=>by
 let e: ~~~(upTo c k)=k:=by delta upTo;rw[cA,qZ]
 refine⟨λd a=>?_,λb=>by show k<=n;lia⟩;let b:n<k:=by rw[<-e];exact(pK.mp a).1
 refine⟨b,λh T y=>?_⟩;let⟨rfl,rfl⟩:=y;delta upTo at a;rw[nX,Ri b]at a;cases a;calc⟨F2,.refl f,by dsimp⟩
def fE(f:ME):ML:=λO=>(f O).bind iO
def K2(he:IE X iter f):II X tg iter (fE f):=by
 rintro pe s Y H R I ⟨O,F,E,q⟩
 let B:=he pe s Y H (λx i=>∃j d ds,cP F H j i/\bM X.K j d x/\iO d= .ok ds/\ ∀c F' T,cP F H F' T->sW X.K F' c ds->R c T) I ⟨O,F,E,by
  delta fE at q;revert q;cases f O with
  |ok d=>
   intro q v j i l k;revert q
   show(match iO d with
    | .ok ds=>∀c F' T,cP F H F' T->sW X.K F' c ds->R c T
    | .bad=>hI)->_
   cases r:iO d with
   |ok ds=>calc λq=>⟨j,d,ds,l,k,r,q⟩|bad=>calc λq=>q.elim
  |bad=>calc lX⟩
 refine dA B λv g C=>?_
 let⟨x,i,h,w,j,d,ds,l,k,r,q⟩:=C;cases d<;>try cases r
 .rename_i z;dsimp at k;let⟨rfl,A⟩:=k;let⟨t,rfl⟩:=w;cases y:z.cps.all (· <128)
  .refine wpAny_pyIter_wide y ?_;refine⟨g⁻¹,[g⁻¹],_,_,i,rfl,h.kept (t':=g.toks) λb o e=>gF _ e,Xo z t _,⟨_,lC _ rfl,rfl,rfl⟩,λb m=>?_,q _ j i l K1⟩;let e:b=g⁻¹:=by simpa using m
   subst e;exact h.fpOk (cU _) (h.hok.fresh (cU _))
  refine wpAny_pyIter_ascii y ?_;refine⟨g⁻¹,[g⁻¹],_,_,i,rfl,h.kept (t':=g.toks) λb o e=>gF _ e,Xn z t _,⟨_,lC _ rfl,rfl,rfl⟩,λb m=>?_,q _ j i l K1⟩;let e:b=g⁻¹:=by simpa using m
  subst e;exact h.fpOk (cU _) (h.hok.fresh (cU _))
 .dsimp at k;let⟨a,xs,rfl,n,u⟩:=k;cases w;let⟨its,G,p,A⟩:=h.tuple (bX.seqT l.sub n);refine A8 (show g.heap.IsTuple a its.toArray from p) ?_;refine⟨g⁻¹,[g⁻¹],_,_,i,rfl,h.kept (t':=g.toks) λb o e=>gF _ e,Ut a _,⟨_,lC _ rfl,rfl,rfl⟩,λb m=>?_,q _ j i l (Xq n u)⟩;let e:b=g⁻¹:=by simpa using m
  subst e;exact h.fpOk (cU _) (h.hok.fresh (cU _))
 dsimp at k;let⟨a,xs,rfl,n,u⟩:=k;cases w;let⟨its,G,p,A⟩:=h.list (bX.seq l.sub n);refine v5 p.isList ?_;refine⟨g⁻¹,[g⁻¹],_,_,i,rfl,h.kept (t':=g.toks) λb o e=>gF _ e,Us a _,⟨_,lC _ rfl,rfl,rfl⟩,λb m=>?_,q _ j i l (Xr n u)⟩;let e:b=g⁻¹:=by simpa using m
 subst e;calc h.fpOk (cU _) (h.hok.fresh (cU _))
noncomputable def bq:D->bP (J D)| .int j=>if-(2^62)<=j/\j<2^62 then .ok (upTo 0 j.toNat)else .bad|_=>.bad
def lH(f:ME):ML:=λO=>(f O).bind bq
def Xt(g:Gl X "range")(n:X.mg "range" =bL)(m:IE X a f)(b:gG [a] X.env= [(bJ,fP a X.env)]:=by rfl):II X tg (.Call (.Name "range" p) [a] [] cpos) (lH f):=
 Xp (Ux g n (lB m pS b) b) λY H R o=>by
  let⟨O,F,E,q⟩:=o;refine⟨O,F,E,?_⟩;delta lH at q;revert q;cases f O with
  |ok d=>
   intro q v i k l h;cases d with
   |int j=>
    dsimp at h;subst h;by_cases c: -(2^62)<=j/\j<2^62
    .let e:(bP.ok (D.int j)).bind bq= .ok (upTo 0 j.toNat):=by show bq (.int j)=_;dsimp[bq];rw[cK c]
     rw[e]at q;exact⟨j,rfl,c.1,c.2,q _ i k l Xs⟩
    let e:(bP.ok (D.int j)).bind bq= .bad:=by show bq (.int j)=_;dsimp[bq];rw[cX c]
    rw[e]at q;cases q
   |_=>calc q.elim
  |bad=>calc lX
def jQ(i:bD)(fl:ML)(a:MS):MS:=λO=>(fl O).bind λds=>turns i a ds O
def K3(B:X.calm=bF)(M:pf (bY X.prog X.w) X.A X.env X.xe)(I:II X tg iter fl)(G:PG X tg (sR i))(z:nH X body u)(hs:∀x,gi iter X.env x=dX x:=by intro _;rfl):
 IS X (.For tg iter body [] pos) (jQ i fl u):=λFa Ha=>lM (JO M B I G (KG (Ha:=Ha) z) hs) λE Y H ⟨O,F,S,q⟩=>by
 refine⟨O,F,S.env,?_⟩;delta jQ at q;revert q;cases fl O with
 |ok ds=>
  intro q a c Z p N;let k:=S.grow p;refine⟨λn m j T=>m= ~~~ds-n/\n<= ~~~ds/\ ∃g F',SR X.K c Ha F' T g j/\kP X c Ha (turns i u (ds.drop n) g) E,⟨_,rfl,lL _,O,c,k.here,kP.here k.gr q⟩,?_⟩;rintro n m j T ⟨rfl,hn,g,F',d,f⟩;let⟨t,v⟩:=N n F' T d.gr.fs d.env.sub;by_cases b:n< ~~~ds
  .let C:ds[n]? =L ds[n]:=mU b;let⟨s,Q⟩:=t _ C;refine .inr ⟨s,λY H=>∃O F',SR X.K c Ha F' H O Y/\kP X c Ha (turns i u (ds.drop (n+1)) O) E,λσ2 H2 h=>⟨~~~ds-(n+1),bZ,rfl,b,h⟩,λx H2 y=>?_⟩;let⟨F2,r,dx⟩:=Q x H2 y;rw[vl b]at f;exact⟨c,g.set i (.val ds[n]),F2,(d.grow r).set i dx,WQ f λW σ3 l H3 o P=>⟨W,l,o,P⟩⟩
  let e:n= ~~~ds:=by lia
  subst e;rw[vp (cU _)]at f;calc .inl ⟨v rfl,f j F' T d⟩
 |bad=>calc lX
end
variable{fl:ML}
section
variable [dG] [Pd]
noncomputable def pV(a:J (U×pO))(cells:J (U×bI))(acc:J (U×bI)):J (U×bI):=match a with| []=>acc| (n,k)::r=>pV r cells (if k= .free then(n,(cells.lookup n).getD 0)::acc else acc)
theorem K4{env:jK}:∀a acc,(∀y∈a,y.2= .free->∃c,env.cells.lookup y.1=L c)->
 (l6 a acc λy f=>if(y.2==sM)=bF then(do let c <-cellOf env y.1;dX (tY ((y.1,c)::f)))else dX (tY f):mZ (J (U×bI)))=dX (pV a env.cells acc)
 | [],acc,_=>rfl| (n,k)::r,acc,h=>by
  let i:=K4 (env:=env) r;rw[gk];by_cases d:k= .free
  .subst d;let⟨c,g⟩:=h (n,.free) fF bQ;let b:((sM==sM)=bF)=bf:=cS;dsimp[b,rS];let j:cellOf env n=dX c:=by delta cellOf;rw[g]
   rw[j];dsimp[pure_bind];rw[i _ λy e=>h y (fM _ e)];rw[pV,cK bQ,g];rfl
  let b:(k==sM)=bJ:=by cases k<;>first|rfl|exact dD bQ d
  dsimp[b,dq,yM];dsimp[pure_bind];rw[i _ λy e=>h y (fM _ e)];rw[pV,cX d]
def K5(h:∀y∈scope.names,y.2= .free->∃c,env.cells.lookup y.1=L c):wh scope env=dX (pV scope.names env.cells []):=by
 have:=K4 (env:=env) scope.names [] h;delta wh
 first
  |calc this
  | (dsimp[bind_pure];calc this)
theorem Da{c:bI}:∀a acc,(pV a cells acc).lookup y=L c->acc.lookup y=L c\/((y,.free)∈a/\(cells.lookup y).getD 0=c)
 | [],acc,h=>.inl h| (n,k)::r,acc,h=>by
  rw[pV]at h;rcases Da r _ h with q|⟨d,f⟩
  .by_cases b:k= .free
   .rw[cK b,lJ]at q;cases e:y==n with|true=>rw[e]at q;have:y=n:=kI e;subst this;subst b;calc .inr ⟨fF,kE q⟩|false=>rw[e]at q;exact .inl q
   rw[cX b]at q;exact .inl q
  calc .inr ⟨fM _ d,f⟩
theorem Db:∀a acc,(y,.free)∈a\/(acc.lookup y).isSome=true->((pV a cells acc).lookup y).isSome=true
 | [],acc,h=>by
  rcases h with h|h
  .cases h
  calc h
 | (n,k)::r,acc,h=>by
  rw[pV];refine Db r _ ?_;rcases h with h|h
  .rcases jJ.mp h with e|h
   .cases e;refine .inr ?_;rw[cK bQ,lJ];simp
   exact .inl h
  refine .inr ?_;by_cases b:k= .free
  .rw[cK b,lJ];cases e:y==n with|true=>rfl|false=>exact h
  rw[cX b];calc h
abbrev pW(X:Cx)(a:J U)(scope:kS)(C:bI)(b:J bI)(s:bT)(H:Hp)(E:bK->bT->Prop):Cx:=
 {X with N:=a,s₀:=s,Ha:=H,env:=lj scope (pV scope.names X.env.cells []) C X.env,outer:=X.stack,ex:=b,fn:=λ_=>bJ,xe:=E}
structure sX(X:Cx)(scope:kS)(os caps:J U)(js:J bD):Prop where
 kind:scope.kind= .function
 nocell:∀y∈scope.names,y.2≠ .cell
 names:∀y∈scope.names,y.2= .local->scope.names.lookup y.1=L .local
 loc:∀x∈os,scope.names.lookup x=L .local
 fr:∀y∈scope.names,y.2= .free->X.env.kindOf y.1=L .cell\/X.env.kindOf y.1=L .free
 nd:(os++caps).Nodup
 len: ~~~caps= ~~~js
 cap:∀(k:bD) y j,caps[k]? =L y->js[k]? =L j->X.N[j]? =L y/\scope.names.lookup y=L .free
def sX.js{js:J bD}(S:sX X scope os caps js):js.Nodup:=by
 rw[AU,List.pairwise_iff_getElem];intro i j c d f z;let e:=(pM.mp S.nd).2.1;let g:∀k (h:k< ~~~js),caps[k]? =L (caps[k]'(by rw[S.len];calc h))/\js[k]? =L js[k]:=λk h=>⟨mU _,mU h⟩
 let a:=(S.cap i _ _ (g i c).1 (g i c).2).1;let b:=(S.cap j _ _ (g j d).1 (g j d).2).1;rw[z,b]at a;have:=(RB (by rw[S.len];calc c) e).mp ((g i c).1.trans (a.symm.trans (g j d).1.symm))
 lia
noncomputable def ym:Slot->Slot| .val d=>.val d| .obj p s=>.obj p s|_=>.no
def lN(js:J bD)(O:cQ):cQ:=js.map λj=>ym (O.getD j .no)
noncomputable def mP(js:J bD)(Y:St):St:=js.map λj=>Y.getD j bL
noncomputable def hX(p:MT)(g:ME)(rest:cQ):J D->bP (J D)| []=>.ok []|d::ds=>(p (.val d::rest)).bind λb=>if b=bF then(g (.val d::rest)).bind λy=>(hX p g rest ds).bind λys=>.ok (y::ys)else hX p g rest ds
theorem K6{scope:kS}{env:jK}{y:U}:∀{a:J (U×pO)},a.lookup y=L .free->
 (a.map λ(n,k)=>if(k==sM&&env.scope.kind== .function&&env.kindOf n==L .cell)then(n,Bs)else(n,k)).lookup y=L .cell\/
 (a.map λ(n,k)=>if(k==sM&&env.scope.kind== .function&&env.kindOf n==L .cell)then(n,Bs)else(n,k)).lookup y=L .free
 | [],h=>by cases h| (n,k)::r,h=>by
  rw[fY,lJ];rw[lJ]at h;cases e:y==n with
  |true=>
   rw[e]at h;cases h;by_cases b:(sM==sM&&env.scope.kind== .function&&env.kindOf n==L .cell)=true
   .dsimp[b,rS];rw[e];exact .inl bQ
   dsimp[b,dq,yM];rw[e];calc .inr bQ
  |false=>
   rw[e]at h;let c:= @K6 scope env y r h;by_cases b:(k==sM&&env.scope.kind== .function&&env.kindOf n==L .cell)=true
   .dsimp[b,rS];rw[e];exact c
   dsimp[b,dq,yM];rw[e];calc c
theorem Dc{env:jK}{y:U}{K:pO}(c:K= .cell\/K= .free):∀{a:J (U×pO)},(∀z∈a,z.2≠ .cell)->
 (a.map λ(n,k)=>if(k==sM&&env.scope.kind== .function&&env.kindOf n==L .cell)then(n,Bs)else(n,k)).lookup y=L K->(y,.free)∈a
 | [],_,h=>by cases h| (n,k)::r,f,h=>by
  rw[fY,lJ]at h;let g:= @Dc env y K c r λz j=>f z (fM _ j)
  cases e:y==n with
  |true=>
   let i:y=n:=kI e;subst i;by_cases b:(k==sM&&env.scope.kind== .function&&env.kindOf y==L .cell)=true
   .rw[gD,gD]at b;have:k= .free:=kI b.1.1;subst this;exact fF
   dsimp[b,dq,yM]at h;rw[e]at h;let d:k=K:=kE h;rcases c with q|q
   .exact dD (d.trans q) (f (y,k) fF)
   rw[d.trans q];calc fF
  |false=>
   by_cases b:(k==sM&&env.scope.kind== .function&&env.kindOf n==L .cell)=true
   .dsimp[b,rS]at h;rw[e]at h;exact fM _ (g h)
   dsimp[b,dq,yM]at h;rw[e]at h;calc fM _ (g h)
def Xu{R:pw->bT->Prop}(I:bD->bT->Prop)(d:∀n s,I n s->(A>>>(ai it)) (λr s₁=>match r with
   |none=>R (.ok .next) s₁
   |some v=>(A>>>(Bk a it v)) (λ_ b=>(A>>>(be a env v)) (λ_ k=>
    (A>>>(l6 ifs true λc r=>if r=true then do let ok <-isTrue c env (fP c env);dX (tY ok)else dX (tY r))) (λok g=>
     if ok=true then (A>>>(fP elt env)) (λx l=>
      (A>>>(call (.builtin "list.append") [acc,x])) (λ_ o=>∃m,m<n/\I m o) (bd (bY prog w) A env λe s'=>R (.error e) s') l) (bd (bY prog w) A env λe s'=>R (.error e) s') g
     else ∃m,m<n/\I m g) (bd (bY prog w) A env λe s'=>R (.error e) s') k) (bd (bY prog w) A env λe s'=>R (.error e) s') b)
      (bd (bY prog w) A env λe s'=>R (.error e) s') s₁) (bd (bY prog w) A env λe s'=>R (.error e) s') s)(n)(h:I n s):codeAny (bY prog w) A (.compLoop (.ListComp elt [⟨a,iter,ifs,0⟩] scope pos) 0 it acc env) R s:=by
 apply codeAny_loop bQ I ?_ n h;intro n s p;show wpAny _ A ((compTurn (.ListComp elt [⟨a,iter,ifs,0⟩] scope pos) 0 it acc env).onRaise λx=>do noteFrame x env;theTreesLotGoes x) _ _ s;apply wpAny_noted;rw[compTurn_list];apply bV;apply wpAny_standAt;apply bV;apply lU (d n s p) ?_ (λ_ _ h'=>h');intro r s₁ i;cases r with
 |none=>calc cT i|some v=>
  apply bV;apply lU i ?_ (λ_ _ h'=>h');intro _ b f;apply bV;apply lU f ?_ (λ_ _ h'=>h');intro _ k q;apply bV;apply lU q ?_ (λ_ _ h'=>h');intro ok g j;cases ok with
  |false=>calc cT ⟨rfl,j⟩|true=>apply bV;apply bV;apply lU j ?_ (λ_ _ h'=>h');intro x l t;apply bV;apply lU t ?_ (λ_ _ h'=>h');intro _ o u;calc cT (cT ⟨rfl,u⟩)
def br(X:Cx)(a:J bU)(p:MT):Prop:=(a= []/\p=λ_=>.ok bF)\/ ∃c,a= [c]/\IT X c p
def Xv{p:MT}(h:br X ifs p){Q:bW->Hp->Prop}(I:bS X pe Y H s)(q:av X p Y H Q):
 (X>>>(l6 ifs bF λc r=>if r=bF then do let ok <-isTrue c X.env (fP c X.env);dX (tY ok)else dX (tY r))) (TP X pe Y Q) X.xe s:=by
 rcases h with⟨rfl,rfl⟩|⟨c,rfl,a⟩
 .exact wpAny_tests_nil ⟨H,I,x9 q⟩
 calc wpAny_tests_one (a pe s Y H Q I q)
theorem Xw{m:U->bR bK}(S:sX X scope os caps js)(I:bS X pe Y H s)(r:∀b∈fp,qG X pe H b)(P:∀b∈fp,b<s⁻¹)(hn:W.Ns s⁻¹ m)(B:∀b o,s.heap.get? b=some o->W.get? b=some o):
 bS (pW X (os++caps) scope s⁻¹ fp s H E) pe (os.map (λ_=>none)++mP js Y) H {s with heap:=W,toks:=tk}:=by
 let a:∀y c,(pV scope.names X.env.cells []).lookup y=some c->X.env.cells.lookup y=some c/\(y,sM)∈scope.names:=λy c e=>by
  rcases Da scope.names [] e with q|⟨q1,q2⟩
  .cases q
  let⟨c',l⟩:=I.ok.has y (S.fr (y,.free) q1 rfl);rw[l]at q2;have:c'=c:=q2;subst this;exact⟨l,q1⟩
 let f:∀b,b≠X.env.locals->b∉X.fs->b∉kC X.stack:=λb t w p=>by
  rcases jJ.mp (I.stkSub b p)with z|z
  .exact t z
  exact w z
 let x:∀b o,s.heap.get? b=some o->b≠s⁻¹:=λb o e=>hJ (gH e)
 refine⟨⟨I.ok.mod,S.kind,I.ok.glob,I.ok.blt,cU _,λy z c t w=>?_,λy hy=>?_,λy c hf _=>(by cases hf),I.ok.hd,I.ok.frames,.inl rfl,λb p=>?_,I.bs,hE I.ok.bsz I.sz,λb o e p=>?_,λb p=>?_,I.stack,I.stkFree⟩,
  rfl,I.bare,Un.kept B,⟨m,hn,λi y v t w h3=>?_⟩,λy c e=>?_,I.hok.fresh (cU _),λy c e=>I.freeC y c (a y c e).1,λq hq=>?_,I.hok.kept B,?_⟩
 .exact I.ok.inj y z c (a y c t).1 (a z c w).1
 .let T:(w6 scope X.env).names.lookup y=some .cell\/(w6 scope X.env).names.lookup y=some .free:=hy;let F:(y,sM)∈scope.names:=by
   rcases T with q|q
   .exact Dc (.inl rfl) S.nocell q
   exact Dc (.inr rfl) S.nocell q
  exact AX.mp (Db scope.names [] (.inl F))
 .refine⟨hJ (P b p),λy c e=>?_⟩;exact(r b p).2.2.2.2.1 y c (a y c e).1
 .let z:=(r b p).2.2.2.1;rcases z with z|z
  .exact I.ok.noex b o e z
  exact dD (nO (gH (I.ok.bs b o e).1) z) (aX _)
 .exact f b (r b p).2.1 (r b p).2.2.1
 .let t:(os++caps)[i]? =some y:=t;by_cases M:i< ~~~os
  .rw[aP (by rw[cA];calc M),nX,mU M]at w;cases w
  let⟨k,rfl⟩:=AZ (oY M);let G:caps[k]? =some y:=by rw[tR (wR _ _)]at t;simpa using t
  let g:(mP js Y)[k]? =some (some v):=by rw[tR (by rw[cA];calc wR _ _)]at w;simpa using w
  delta mP at g;rw[nX]at g;cases N:js[k]? with
  |none=>rw[N]at g;cases g|some j=>
   rw[N]at g;let h:Y.getD j none=some v:=kE g;let⟨c1,Z⟩:=S.cap k y j G N;let hσ:Y[j]? =some (some v):=by
    rw[qY]at h;cases e:Y[j]? with
    |none=>rw[e]at h;cases h|some o=>rw[e]at h;exact jZ some h
   let hm:(y,sM)∈scope.names:=gb Z;let C:=S.fr (y,.free) hm rfl;let⟨m0,a0,O⟩:=I.loc
   let⟨u,ru,lk⟩:=O j y v c1 hσ (by
    rcases C with z|z
    .exact .inr (.inl z)
    calc .inr (.inr z))
   refine⟨u,ru,?_⟩;rcases lk with⟨kd,_⟩|⟨_,c,hc,A⟩
   .rcases C with z|z
    .exact dD (kd.symm.trans z) hG
    exact dD (kd.symm.trans z) hG
   let⟨c',l⟩:=AX.mp (Db (cells:=X.env.cells) scope.names [] (.inl hm));have:c'=c:=by
    have:=(a y c' l).1;rw[hc]at this;exact(kE this).symm
   subst this;refine .inr ⟨K6 (scope:=scope) Z,c',l,?_⟩;let⟨o,Q,K⟩:=A;exact⟨o,B _ o Q,K⟩
 .let⟨v,o,Q,K⟩:=I.cell y c (a y c e).1;exact⟨v,o,B _ o Q,K⟩
 .let⟨e,n,ne,nf,d⟩:=I.pin q hq;exact⟨B _ _ e,n,x _ _ e,f q.1 ne nf,d⟩
 show(os.map (λ_=>none)++mP js Y).length= ~~~(os++caps);delta mP;rw[cO,cO,cA,cA,S.len]
section
variable{js:J bD}{p P:MT}{g G:ME}{sp:D->bR (J D)}{gg:TG}
def Xx{g:J (bI×cY)}{k:J U}(I:bS X pe Y H s)(c:bS (pW X k scope C fp s H E) g w T s')(t:s⁻¹<=C)(hs:nY C s'.heap h')(i:∀b∈fp,qG X pe H b):bS X pe Y T {s' with heap:=h'}:=by
 let j:∀b o,s.heap.get? b=L o->b≠C:=λb o e=>hJ (nO (gH e) t)
 let d:T C=bL:=c.free;refine I.call' (s':={s' with heap:=h'}) (ch:=fp) c.os ⟨λb o q n f h=>?_,λb o q n f h=>?_,c.base.free,λb o q h=>?_,c.base.tups,c.base.frzs,c.base.tbls⟩ (λa o e=>?_) c.bare λb f=>?_
 .exact(hs.2 b (j b o q)).trans (c.base.keep b o q n f h)
 .let⟨sl,e⟩:=c.base.slot b o q n f h;exact⟨sl,(hs.2 b (j b o q)).trans e⟩
 .let⟨v,e⟩:=c.base.there b o q h;exact⟨v,(hs.2 b (j b o q)).trans e⟩
 .refine(c.hok a o e).stay (λb u f q=>(hs.2 b λz=>?_).trans q) (λ_ q=>q) λ_ _ q=>q
  subst z;rcases f with z|z
  .subst z;rw[e]at d;cases d
  rw[z]at d;cases d
 let⟨_,l,_,m,p,r⟩:=i b f;calc⟨m,l,p,r⟩
theorem K7{M:J D}(nd:js.Nodup)(l:DatL K F' M vs)(E:gP K F H O Y)(u:cP F H F' T):gP K F' T (M.map .val++lN js O) (vs.map some++mP js Y):=by
 let hl:=l.length;let o:∀{i:bD} {p t},(M.map Slot.val++lN js O)[i]? =some (.obj p t)->∃k j,i= ~~~M+k/\js[k]? =some j/\O[j]? =some (.obj p t)/\(vs.map some++mP js Y)[i]? =some (Y.getD j none):=λ{i p t} e=>by
  by_cases f:i< ~~~M
  .rw[aP (by rw[cA];calc f)]at e;exact(m4 e).elim
  let⟨k,rfl⟩:=AZ (oY f);rw[tR (by rw[cA];calc wR _ _),cA,Hi]at e;rw[tR (by rw[cA];lia),cA,show ~~~M+k- ~~~vs=k by lia];delta lN at e;delta mP;rw[nX]at e|-;cases g:js[k]? with
  |none=>rw[g]at e;cases e|some j=>
   rw[g]at e;let c:ym (O.getD j .no)= .obj p t:=kE e;refine⟨k,j,rfl,g,?_,rfl⟩;rw[qY]at c;cases q:O[j]? with
   |none=>rw[q]at c;cases c|some B=>rw[q]at c;cases B<;>cases c;rfl
 refine⟨u.tk E.tb,u.sub,?_,λi sl e=>?_,λi j p s q t a b n r c w A=>?_⟩
 .delta lN mP;dsimp[cO,cA,hl]
 .by_cases f:i< ~~~M
  .rw[aP (by rw[cA];calc f),nX,mU f]at e;cases e;let⟨v,hv,Q⟩:=vJ l.paired (mU f);exact⟨some v,by rw[aP (by rw[cA];lia),nX,hv];rfl,v,rfl,Q⟩
  let⟨k,rfl⟩:=AZ (oY f);let m:(lN js O)[k]? =some sl:=by rw[tR (by rw[cA];calc wR _ _)]at e;simpa using e
  delta lN at m;rw[nX]at m;cases g:js[k]? with
  |none=>rw[g]at m;cases m|some j=>
   rw[g]at m;let c:ym (O.getD j .no)=sl:=kE m;refine⟨Y.getD j none,?_,?_⟩
   .rw[tR (by rw[cA];lia),cA,show ~~~M+k- ~~~vs=k by lia];delta mP;rw[nX,g];rfl
   subst c;cases q:O[j]? with
   |none=>rw[qY,q];trivial|some B=>
    rw[qY,q];cases B with
    |val d=>let⟨o',r,v,rfl,Z⟩:=E.at_ j _ q;refine⟨v,?_,Z.mono u.fs⟩;rw[qY,r];rfl|obj p t=>let⟨o',r,h⟩:=E.at_ j _ q;have:=eQ.grow u h;rw[qY,r];calc this|_=>trivial
 let⟨k,x,rfl,I,N,S⟩:=o r;let⟨l,y,rfl,W,P,X⟩:=o c;let ne:x≠y:=λz=>n (by subst z;rw[(RB (pK.mp I).1 nd).mp (I.trans W.symm)])
 rw[S]at w;rw[X]at A;let⟨_,C,a1,rfl,_⟩:=E.at_ x _ N;let⟨_,G,a2,rfl,_⟩:=E.at_ y _ P;rw[qY,C]at w;rw[qY,G]at A;cases w;cases A;calc(E.grow u).apart x y p s q t _ _ ne N P C G
structure iP(X:Cx)(scope:kS)(tg:bU)(os caps:J U)(sp:D->bR (J D))(gg:TG)(P:MT)(G:ME)(p:MT)(g:ME):Prop where
 pg:∀C fp s H E,PG (pW X (os++caps) scope C fp s H E) tg gg
 ok:∀{d es v F H as σr},sp d=L es->bM X.K F d v->bX F H-> ~~~as= ~~~os->∃vs,~~~vs= ~~~os/\DatL X.K F es vs/\gg v (as++σr) H λσ7 H7=>σ7=vs.map L++σr/\H7=H
 hp:∀{d r},P (.val d::r)≠ .bad->∃es,sp d=L es
 lo:∀{d es},sp d=L es-> ~~~es= ~~~os
 eq:∀{d es} r,sp d=L es->P (.val d::r)=p (es.map .val++r)/\G (.val d::r)=g (es.map .val++r)
noncomputable def sY{α:Type}(P:MT)(G:cQ->α->bP (D×α))(a:α->cQ):J D->α->bP (J D×α)| [],x=>.ok ([],x)|d::ds,x=>(P (.val d::a x)).bind λb=>if b=bF then(G (.val d::a x) x).bind λr=>(sY P G a ds r.2).bind λc=>.ok (r.1::c.1,c.2)else sY P G a ds x
structure De{α:Type}(X:Cx)(os caps:J U)(js:J bD)(scope:kS)(elt:bU)(Y:St)(F2 H2:Hp)(cx:α->cQ)(g:cQ->α->bP (D×α))(Rl:α->Hp->Hp->Prop):Prop where
 sm:∀{x F H},Rl x F H->bX F2 F/\bX F H
 up:∀{x F H F' H'},Rl x F H->cP F H F' H'->Rl x F' H'
 ac:∀{x F H b vs} vs',Rl x F H->H2 b=bL->H b=L (.l vs)->F b=bL->Rl x F (upd H b (.l vs'))
 env:∀{x F H F' H'} {es:J D} {vz:J V},Rl x F H->cP F H F' H'->DatL X.K F' es vz->gP X.K F' H' (es.map .val++cx x) (vz.map L++mP js Y)
 run:∀{C fp s0 H0 E pe s F H} {es:J D} {vz:J V} {x},bS (pW X (os++caps) scope C fp s0 H0 E) pe (vz.map L++mP js Y) H s-> ~~~vz= ~~~os-> ~~~es= ~~~os->Rl x F H->gP X.K F H (es.map .val++cx x) (vz.map L++mP js Y)->g (es.map .val++cx x) x≠ .bad->
  (X>>>(fP elt (pW X (os++caps) scope C fp s0 H0 E).env)) (EP (pW X (os++caps) scope C fp s0 H0 E) pe (vz.map L++mP js Y) λv H'=>∃y x' F',g (es.map .val++cx x) x= .ok (y,x')/\Rl x' F' H'/\bX F F'/\(∀b vs,H b=L (.l vs)->F b=bL->H' b=L (.l vs)/\F' b=bL)/\bM X.K F' y v) E s
inductive CW{α:Type}(X X':Cx)(pe:List (bI×cY))(tn:Nat->cH->Prop)(fp:List bI)(os:List U)(js:List Nat)(Y:St)(Rl:α->Hp->Hp->Prop)(Dd:bI)(P:MT)(GG:cQ->α->bP (D×α))(cx:α->cQ)(ds:List D)(R:bP (List D×α))(n:Nat)(s:bT):Prop
 |mk (i:Nat) (σ':St) (H F:Hp) (zs:List D) (vs:List V) (x:α) (_:n= ~~~ds-i) (_:i<= ~~~ds) (_:bS X' pe σ' H s) (_:tn i s.heap) (_:∀b∈fp,H b=none) (_:∃as:St,~~~as= ~~~os/\σ'=as++mP js Y) (_:Rl x F H) (_:F Dd=none) (_:H Dd=some (.l vs)) (_:DatL X.K F zs vs) (_: ~~~zs<=i) (_:((sY P GG cx (ds.drop i) x).bind λr=>.ok (zs++r.1,r.2))=R)
def K8{N:α->cQ}{Rl:α->Hp->Hp->Prop}{j:bT}{f:It}{tn:bD->cH->Prop}(S:sX X scope os caps js)(hc:X.calm=true)(I2:bS X pe Y H2 j)(a:bi X.prog X.w X.K tg f fp it tn)(Tg:iP X scope tg os caps sp gg P G p g)(t0:tn 0 j.heap)(f2:∀b∈fp,qG X pe H2 b)(io:sW X.K F2 f ds)(sb:bX F2 H2)(hp:∀C fp s H E,br (pW X (os++caps) scope C fp s H E) ifs p)(B:De X os caps js scope elt Y F2 H2 N gR Rl)(eG:∀{d} {M:J D} r x,sp d=L M->GG (.val d::r) x=gR (M.map .val++r) x)(R0:Rl x0 F2 H2)(d8:sY P GG N ds x0=R)(hR:R≠ .bad)(e4: ~~~ds<=cR)(c2:∀Dd C s' T F' vs m' ys x',R= .ok (ys,x')->H2 Dd=bL->Rl x' F' T->F' Dd=bL->T Dd=L (.l vs)->DatL X.K F' ys vs->s'.heap.Ns C m'->(∀h',nY C s'.heap h'->bS X pe Y T {s' with heap:=h'})->qG X pe T C->RR (.ref Dd) C (.ok .next) s'):
 (X>>>(newList [])) (λacc s₃=>(X>>>(newFunctionEnv scope X.env.globals (pV scope.names X.env.cells []) [] X.env.qual bL .none (L X.env))) (λa3 s₄=>
  codeAny (bY X.prog X.w) X.A (.compStart (.ListComp elt [⟨tg,iter,ifs,0⟩] scope pos) 0 (.ref it) acc {a3 with scope:=w6 scope X.env}) (RR acc a3.locals) s₄) Ex s₃) Ex j:=by
 refine du (Q8 S.nocell (by intro y hy;simp at hy) (λh₁ Z a0=>?_) S.kind);dsimp only at Z a0|-;let I3:bS X pe Y (upd H2 j⁻¹ (.l [])) {j with heap:=j.heap.push {cls:=.type "list",data:=.seq ([]:J bK).toArray},toks:=j.toks}:=I2.lnew (its:=[]) (t':=j.toks) .nil (lL _);generalize c5:({j with heap:=j.heap.push {cls:=.type "list",data:=.seq ([]:J bK).toArray},toks:=j.toks}:bT)=s3 at I3;let e3:j.heap.push {cls:=.type "list",dict:=bL,data:=.seq ([]:J bK).toArray}=s3.heap:=by rw[<-c5]
 let a5:s3⁻¹=j⁻¹+1:=by rw[<-e3,yJ]
 rw[e3]at Z a0|-;let m:H2 j⁻¹=bL:=I2.hok.fresh (cU _);let W:∀b∈fp,b<j⁻¹:=λb k=>by let⟨o,e,_⟩:=a.obj 0 _ t0 b k;exact gH e
 let f3:∀b∈fp,qG X pe (upd H2 j⁻¹ (.l [])) b:=λb k=>⟨by rw[fK (hJ (W b k))];calc(f2 b k).1,(f2 b k).2⟩
 let t:∀b o,s3.heap.get? b=L o->h₁.get? b=L o:=λb o e=>(a0.2 b (hJ (gH e))).trans (gF _ e)
 let J0:=Xw (E:=bd (bY X.prog X.w) X.A (lj scope (pV scope.names X.env.cells []) s3⁻¹ X.env) λe s'=>RR (.ref j⁻¹) s3⁻¹ (.error e) s')
  (tk:=s3.toks+ ~~~([]:J (U×bK))) S I3 f3 (λb k=>by rw[a5];calc Ba (W b k)) Z t
 let t1:tn 0 h₁:=a.keep 0 _ _ t0 λb k o e=>t b o (by rw[<-e3];calc gF _ e)
 generalize h:pW X (os++caps) scope s3⁻¹ fp s3 (upd H2 j⁻¹ (.l [])) (bd (bY X.prog X.w) X.A (lj scope (pV scope.names X.env.cells []) s3⁻¹ X.env) λe s'=>RR (.ref j⁻¹) s3⁻¹ (.error e) s')=X' at J0;let a8:∀{T:Hp},(∀b∈fp,T b=bL)->∀b∈fp,qG X' pe T b:=λ{T} hn b k=>by
  rw[<-h];refine⟨hn b k,?_,?_,.inl k,λy c e=>?_,λq hq=>(f2 b k).2.2.2.2.2 q hq⟩
  .show b≠s3⁻¹;rw[a5];exact hJ (Ba (W b k))
  .show b∉kC X.stack;intro z;rcases jJ.mp (I2.stkSub b z)with z|z
   .exact(f2 b k).2.1 z
   exact(f2 b k).2.2.1 z
  rcases Da scope.names [] e with q|⟨q1,q2⟩
  .cases q
  let⟨c',c0⟩:=I2.ok.has y (S.fr (y,.free) q1 rfl);rw[c0]at q2;have:c'=c:=q2;subst this;exact(f2 b k).2.2.2.2.1 y c' c0
 let hA:X'.A=X.A:=by rw[<-h]
 let O:X'.xe=bd (bY X.prog X.w) X.A (lj scope (pV scope.names X.env.cells []) s3⁻¹ X.env) λe s'=>RR (.ref j⁻¹) s3⁻¹ (.error e) s':=by rw[<-h]
 let a4:X'.env=lj scope (pV scope.names X.env.cells []) s3⁻¹ X.env:=by rw[<-h]
 let hP:X'.prog=X.prog:=by rw[<-h]
 let hW:X'.w=X.w:=by rw[<-h]
 let hK:X'.K=X.K:=by rw[<-h]
 let a6:∀s4:bT,s4={s3 with heap:=h₁,toks:=s3.toks+ ~~~([]:J (U×bK))}->
  codeAny (bY X.prog X.w) X.A (.compLoop (.ListComp elt [⟨tg,iter,ifs,0⟩] scope pos) 0 (.ref it) (.ref j⁻¹) (lj scope (pV scope.names X.env.cells []) s3⁻¹ X.env)) (RR (.ref j⁻¹) s3⁻¹) s4:=by
  rintro s4 rfl;refine Xu (CW X X' pe tn fp os js Y Rl j⁻¹ P GG N ds R) ?_ (~~~ds) ?_
  .rintro n s' ⟨i,σ',T,F',zs,vs,x,rfl,hi,I',st,fr,⟨as,la,rfl⟩,gr,fD,hD,dl,zl,hm⟩;let⟨e0,e1⟩:=io i F' T (B.sm gr).1 (B.sm gr).2;by_cases a2:i< ~~~ds
   .let hd:ds[i]? =L ds[i]:=mU a2;let⟨go,yl⟩:=e0 _ hd;let c3:=a.item X' (by rw[<-h]) (by rw[<-h]) (by rw[<-h]) (by rw[<-h];calc hc) i pe s' (as++mP js Y) T X'.xe I' (a8 fr) st go;rw[hA,O]at c3;refine lU c3 (λr s5 qz=>?_) λ_ _ z=>z
    let⟨u,hr,h5⟩:=qz;subst hr;refine lU h5 (λ_ s6 qz=>?_) λ_ _ z=>z;let⟨v,H6,I6,r6,y6,a9,d1⟩:=qz
    let⟨F6,g6,d6⟩:=yl v H6 y6;let c7:=I6.pinned (a8 d1) (a.obj _ _ a9);let b5:H6 j⁻¹=L (.l vs):=g6.same _ _ rfl hD;let d0:F6 j⁻¹=bL:=g6.new _ fD (by rw[hD];simp);rw[vl a2,sY]at hm;let⟨M,he⟩:=Tg.hp (d:=ds[i]) (r:=N x) λz=>hR (by rw[<-hm,z];rfl)
    rw[(Tg.eq (N x) he).1,eG (N x) x he]at hm;let⟨vz,lz,dz,gz⟩:=Tg.ok (σr:=mP js Y) he d6 g6.sub la;let pg:PG X' tg gg:=by rw[<-h];exact Tg.pg _ _ _ _ _
    let b9:=pg _ s6 _ H6 v u _ c7 r6 gz;rw[hA,O,a4,hP,hW]at b9;refine lU b9 (λ_ s7 qz=>?_) λ_ _ z=>z;let⟨σ7,H7,I7,e7,c9⟩:=qz
    subst e7 c9;let E7:=B.env gr g6 dz;let c4:=hp s3⁻¹ fp s3 (upd H2 j⁻¹ (.l [])) (bd (bY X.prog X.w) X.A (lj scope (pV scope.names X.env.cells []) s3⁻¹ X.env) λe s'=>RR (.ref j⁻¹) s3⁻¹ (.error e) s');rw[h]at c4
    let c6:=Xv (Q:=λb' H8=>∃F8,p (M.map .val++N x)= .ok b'/\cP F6 H7 F8 H8) c4 I7 ⟨_,F6,by rw[hK];exact E7,by
     cases k:p (M.map .val++N x)with
     |ok b=>calc λb' F8 H8 g8 e8=>⟨F8,jZ _ e8,g8⟩
     |bad=>calc hR (by rw[<-hm,k];rfl)⟩
    rw[hA,O,a4,hP,hW]at c6;refine lU c6 (λb' s8 qz=>?_) λ_ _ z=>z;let⟨H8,I8,F8,k,g8⟩:=qz
    rw[k]at hm;let b4:=B.up (B.up gr g6) g8;let b6:H8 j⁻¹=L (.l vs):=g8.same _ _ rfl b5;let b2:F8 j⁻¹=bL:=g8.new _ d0 (by rw[b5];simp);let F:∀{σ9:St} {H9:Hp} {s9:bT},bS X' (pe++qg fp s6.heap) σ9 H9 s9->tn (i+1) s9.heap/\ ∀b∈fp,H9 b=bL:=λ{σ9 H9 s9} I9=>
     ⟨a.keep _ _ _ a9 λb k o e=>(I9.pin (b,o) (mK _ (mK _ (xi k e)))).1,λb k=>by let⟨o,e,d⟩:=a.obj _ _ a9 b k;calc(I9.pin (b,o) (mK _ (mK _ (xi k e)))).2.1⟩
    cases b' with
    |false=>calc yS ⟨~~~ds-(i+1),bZ,i+1,vz.map L++mP js Y,H8,F8,zs,vs,x,rfl,a2,I8.unpinned,(F I8).1,(F I8).2,⟨_,by rw[cA];calc lz,rfl⟩,b4,b2,b6,(dl.mono g6.fs).mono g8.fs,bZ,hm⟩|true=>
     refine xG ?_;let I:(((gR (M.map .val++N x) x).bind λr=>(sY P GG N (ds.drop (i+1)) r.2).bind λrs=>.ok (r.1::rs.1,rs.2)).bind λr=>.ok (zs++r.1,r.2))=R:=hm;let b1:=I8;rw[<-h]at b1;let d3:=B.run b1 lz (Tg.lo he) b4 (E7.grow g8) λz=>hR (by rw[<-I,z];rfl)
     refine lU d3 (λu9 s9 qz=>?_) λ_ _ z=>z;let⟨v9,H9,I9,r9,y,x',F9,d4,d2,e2,k9,d9⟩:=qz
     rw[h]at I9;rw[d4]at I;let⟨b7,b3⟩:=k9 _ _ b6 b2;let e5: ~~~vs= ~~~zs:=dl.length.symm
     let b8:=CB (X:=X') _ s9 _ H9 (.ref j⁻¹) [v9] (.ref j⁻¹) [u9] (λw b0=>b0=upd H9 j⁻¹ (.l (vs++ [v9]))) I9 rfl (.cons r9 .nil)
      ⟨_,vs,v9,rfl,rfl,b7,bZ,rfl⟩
     rw[hA,O,hP,hW]at b8;refine lU b8 (λ_ s10 qz=>?_) λ_ _ z=>z;let⟨w,b0,a7,_,c8⟩:=qz
     subst c8;refine⟨~~~ds-(i+1),bZ,i+1,vz.map L++mP js Y,_,F9,zs++ [y],vs++ [v9],x',rfl,a2,a7.unpinned,(F a7).1,(F a7).2,⟨_,by rw[cA];calc lz,rfl⟩,B.ac _ d2 m b7 b3,b3,gI,?_,?_,?_⟩
     .exact DatL.of (vH (((dl.mono g6.fs).mono g8.fs).mono e2).paired (.cons d9 .nil))
     .rw[cO];show ~~~zs+1<=i+1;lia
     rw[<-I];show _=((sY P GG N (ds.drop (i+1)) x').bind λrs=>.ok (y::rs.1,rs.2)).bind λr=>.ok (zs++r.1,r.2)
     cases sY P GG N (ds.drop (i+1)) x' with
     |ok r=>show(bP.ok ((zs++ [y])++r.1,r.2):bP (J D×α))= .ok (zs++(y::r.1),r.2);simp|bad=>rfl
   let e:i= ~~~ds:=by lia
   subst e;let c1:=a.done X' (by rw[<-h]) (by rw[<-h]) (by rw[<-h]) (by rw[<-h];calc hc) ds.length pe s' (as++mP js Y) T X'.xe I' (a8 fr) st (e1 rfl);rw[hA,O]at c1;refine lU c1 (λr s5 ⟨hr,I5⟩=>?_) λ_ _ z=>z
   subst hr;rw[vp (cU _)]at hm;let I:(bP.ok (zs++ [],x):bP (J D×α))=R:=hm;rw[jF]at I;let a1:=I5;rw[<-h]at a1;let⟨m',d5,_⟩:=a1.loc;refine c2 j⁻¹ s3⁻¹ s5 T F' vs m' zs x I.symm m gr fD hD dl d5 (λh' d7=>Xx I3 a1 (cU _) d7 f3) ?_;exact I3.fpOk (cU _) a1.free
  refine⟨0,os.map (λ_=>bL)++mP js Y,_,F2,[],[],x0,bZ,lL _,J0,t1,λb k=>(f3 b k).1,⟨_,by rw[cA],rfl⟩,B.up R0 (cP.laidN sb m _),bX.free sb m,gI,DatL.nil,cU _,?_⟩;rw[HU,d8];cases R<;>rfl
 subst c5;calc codeAny_compStart_list (a6 _ rfl) (a.self _ 0 _ _ _ t1 (a6 _ rfl))
end
def gY(js:J bD)(fl:ML)(p:MT)(g:ME):ME:=λO=>(fl O).bind λds=>if ~~~ds<=cR then(hX p g (lN js O) ds).bind λys=>.ok (.l ys)else .bad
def K9(S:sX X scope os caps js)(I:bS X pe Y H s):wh scope X.env=dX (pV scope.names X.env.cells []):=
 K5 λy b a=>I.ok.has y.1 (S.fr y b a)
theorem Dg{P:MT}{G:ME}{rest:cQ}:∀ds,sY P (λO (_:mY)=>(G O).bind λy=>.ok (y,())) (λ_=>rest) ds ()=(hX P G rest ds).bind λys=>.ok (ys,())
 | []=>rfl|d::ds=>by
  delta sY hX;cases P (.val d::rest)with
  |ok b=>
   cases b with
   |false=>calc Dg ds|true=>
    show(((G (.val d::rest)).bind λy=>bP.ok (y,())).bind _)=((G (.val d::rest)).bind _).bind _;cases G (.val d::rest)with
    |ok y=>show((sY P _ _ ds ()).bind _)=((hX P G rest ds).bind _).bind _;rw[Dg ds];cases hX P G rest ds<;>rfl|bad=>rfl
  |bad=>rfl
def Xy(z:js.Nodup)(Ev:gP X.K F2 H2 O Y)(t:∀C fp s H E,IE (pW X (os++caps) scope C fp s H E) elt g):De X os caps js scope elt Y F2 H2 (λ_:mY=>lN js O) (λO _=>(g O).bind λy=>.ok (y,())) (λ_ F H=>cP F2 H2 F H)where
 sm:=λg=>⟨g.fs,g.sub⟩
 up:=λg h=>g.trans h
 ac:=λ_ g c i r=>⟨λb o nt q=>by rw[fK (bh q c)];calc g.same b o nt q,CL g.more _ _,λj=>⟨(g.tk j).1.updL i _,(g.tk j).2⟩,g.fs,mo g.sub r _,g.new⟩
 env:=λg h d=>K7 z d Ev (g.trans h)
 run:=λ{C fp G l E pe s F H M P x} I _ _ p k w=>by
  refine dA (t C fp G l E pe s _ H (λv T=>∃y F',g (M.map .val++lN js O)= .ok y/\cP F H F' T/\bM X.K F' y v) I ⟨_,F,k,?_⟩) λu N A=>by let⟨v,m,n,B,y,F',e,a,f⟩:=A;exact⟨v,m,n,B,y,(),F',by rw[e];rfl,p.trans a,a.fs,λb vs c i=>⟨a.same b _ bQ c,a.new b i (by rw[c];simp)⟩,f⟩
  cases e:g (M.map .val++lN js O)with
  |ok y=>calc λv F' T a f=>⟨y,F',rfl,a,f⟩|bad=>calc w (by rw[e];rfl)
def La(g:cP F H F2 H2)(f:H2 c=bL)(j:cP F2 H2 F' T)(i:F' c=bL)(k:T c=L (.l vs)):cP F H (upd F' c (.l vs)) T:=by
 let a:=g.trans j;refine⟨a.same,a.more,λh=>⟨(a.tk h).1,(a.tk h).2.upd _ bQ⟩,a.fs.trans (rG i _),λb o e=>?_,λb m d=>?_⟩
 .by_cases z:b=c
  .subst z;rw[gI]at e;cases e;exact k
  rw[fK z]at e;exact a.sub b o e
 let z:b≠c:=λz=>d (z▸g.free f)
 rw[fK z];calc a.new b m d
def Lb{p P:MT}{G:ME}(S:sX X scope os caps js)(Tg:iP X scope tg os caps sp gg P G p g)(hc:X.calm=bF)(hi:II X tg iter fl)(hp:∀C fp s H E,br (pW X (os++caps) scope C fp s H E) ifs p)(hg:∀C fp s H E,IE (pW X (os++caps) scope C fp s H E) elt g)(hs:∀x,gi iter X.env x=dX x)(I:bS X pe Y H s)(Ev:gP X.K F H O Y)(nb:gY js fl P G O≠ .bad)(i:∀h C s' T F' vs m' ys,gY js fl P G O= .ok (.l ys)->cP F H (upd F' h (.l vs)) T->F' h=bL->DatL X.K F' ys vs->s'.heap.Ns C m'->(∀h',nY C s'.heap h'->bS X pe Y T {s' with heap:=h'})->qG X pe T C->Jn (bY X.prog X.w) X.A X.xe use Q (.ref h) C (.ok .next) s'):
 (X>>>(comprehension (.ListComp elt [⟨tg,iter,ifs,0⟩] scope pos) scope X.env spos (newList []) bJ (fP iter X.env) use)) Q X.xe s:=by
 refine QI (use:=use) rfl hs (K9 S I) S.kind S.names ?_
 let f:=hi pe s Y H (λb H2=>∃F2 ds,fl O= .ok ds/\cP F H F2 H2/\sW X.K F2 b ds) I ⟨O,F,Ev,by
  cases q:fl O with
  |ok ds=>calc λb F' T Z u=>⟨F',ds,rfl,Z,u⟩
  |bad=>calc nb (by delta gY;rw[q];rfl)⟩
 refine lU f (λv s1 h1=>lU h1 (λa0 s2 h2=>?_) λ_ _ e=>e) λ_ _ e=>e
 let⟨it,fp,tn,b,H2,rfl,M,a,t0,W,F2,ds,q,k,u⟩:=h2;let j:gY js fl P G O=if ~~~ds<=cR then(hX P G (lN js O) ds).bind λys=>.ok (.l ys)else .bad:=by delta gY;rw[q];rfl
 let c: ~~~ds<=cR:=by
  by_cases z: ~~~ds<=cR
  .exact z
  rw[j,cX z]at nb;exact dD rfl nb
 rw[cK c]at j;refine K8 (GG:=λO _=>(G O).bind λy=>.ok (y,())) (RR:=λn C=>Jn (bY X.prog X.w) X.A X.xe use Q n C) S hc M a Tg t0 W u k.sub hp (Xy S.js (Ev.grow k) hg) (λr x e=>by rw[(Tg.eq r e).2]) (.refl k.sub) (Dg ds) (λz=>nb ?_) c ?_
 .rw[j];cases e:hX P G (lN js O) ds with|bad=>rfl|_=>rw[e]at z;cases z
 intro h C s' T F' vs m' ys x' m o gr B hD N hn d t;refine i h C s' T F' vs m' ys ?_ (La k o gr B hD) B N hn d t;rw[j];cases e:hX P G (lN js O) ds with
 |ok zs=>rw[e]at m;cases m;rfl|_=>rw[e]at m;cases m
def Lc{p P:MT}{G:ME}(S:sX X scope os caps js)(Tg:iP X scope tg os caps sp gg P G p g)(i:X.calm=bF)(l:II X tg iter fl)(n:∀C fp s H E,br (pW X (os++caps) scope C fp s H E) ifs p)(k:∀C fp s H E,IE (pW X (os++caps) scope C fp s H E) elt g)(hs:∀x,gi iter X.env x=dX x):IE X (.ListComp elt [⟨tg,iter,ifs,0⟩] scope pos) (gY js fl P G):=by
 rintro pe s Y H Q I ⟨O,F,Ev,q⟩;rw[eval_ListComp];refine Lb S Tg i l n k hs I Ev (λz=>by rw[z]at q;calc q) ?_;intro b C s' T F' vs m' ys e h f d m a j;rw[e]at q;refine⟨m',m,λh' c=>⟨.ref b,T,a h' c,rfl,q (.ref b) _ T h ?_⟩⟩;dsimp;calc⟨b,vs,rfl,jA.of gI,d.mono (rG f _)⟩
def Xz{u:bK}{m:U->bR bK}{Q:bT->Prop}(I:bS X pe Y H s)(F:X.N.Nodup)(M:X.N[i]? =L y)(P:Loc X.env.scope y)(r:dM v u)(O:s.heap.Ns C m)(E:qG X pe H C)(h:∀a,bS X pe (Y.set i (L v)) H a->Q a)(K:X.fn y=bF\/X<<<y=L .local:=by first|calc .inl bQ|calc .inr bQ|assumption):
 (X>>>(be (.Name y py) X.env u)) (λ_ a=>∃m,a.heap.Ns C m/\ ∀h',nY C a.heap h'->Q {a with heap:=h'}) X.xe s:=by
 refine Rx (JB I F M P r (λs' q j=>?_) K);let⟨t,n,S,x,p,B⟩:=E;let f:∀c,(c=X.env.locals\/X.env.cells.lookup y=L c)->C≠c:=λc d z=>by
  rcases d with d|d
  .exact n (z.trans d)
  exact p y c d z.symm
 let⟨c,l,g⟩:=j;refine⟨m,O.sameBut l (f c (by rcases g with z|z<;>first|calc .inl z|calc .inr z)),λh' k=>h _ ?_⟩;calc q.turned (t':=s'.toks) (λb o G e=>(k.2 b G).trans e) t n x p B
def sB(i:bD)(js:J bD)(fl:ML)(p:MT)(g:ME):MS:=dQ i (gY js fl p g)
def XA{p P:MT}{G:ME}(S:sX X scope os caps js)(Tg:iP X scope tg os caps sp gg P G p g)(r:X.calm=bF)(w:II X tg iter fl)(M:∀C fp s H E,br (pW X (os++caps) scope C fp s H E) ifs p)(u:∀C fp s H E,IE (pW X (os++caps) scope C fp s H E) elt g)(o:X.N.Nodup)(Z:X.N[i]? =L y)(B:Loc X.env.scope y)(d:em (.ListComp elt [⟨tg,iter,ifs,0⟩] scope pos) (L (.Name y py)) spos.line X.env=dX bF)(hs:∀x,gi iter X.env x=dX x)(t:X.fn y=bF\/X<<<y=L .local):
 IS X (.Assign [.Name y py] (.ListComp elt [⟨tg,iter,ifs,0⟩] scope pos) spos) (sB i js fl P G):=by
 rintro Fa Ha pe s Y H E I ⟨O,F,h,q⟩;rw[exec_Assign_Name_used _ _ _ _ d];refine bV (wpAny_standAt (bV ?_));show wpAny _ X.A (do let _ <-comprehension (.ListComp elt [⟨tg,iter,ifs,0⟩] scope pos) scope X.env _ (newList []) bJ (fP iter X.env) (L (be (.Name y py) X.env))) _ _ s;refine bV (lU (Lb (use:=L (be (.Name y py) X.env)) (Q:=λ_ s'=>SP X pe E .next s') S Tg r w M u hs I h.env (λz=>by delta sB dQ at q;rw[z]at q;calc q) ?_) (λ_ s' W=>cT (cT W)) λ_ _ e=>e);intro f C s' T F' vs m' ys l n m k K a c;delta sB dQ at q;rw[l]at q;let j:bS X pe Y T s':=a s'.heap (ki _ _);refine Xz (i:=i) (v:=.ref f) j o Z B bQ K c (λa0 b=>⟨_,T,b,?_⟩) t;calc q _ _ _ ((h.grow n).set i (by dsimp;calc⟨f,vs,rfl,jA.of gI,k.mono (rG m _)⟩))
def Ld{p:MT}(S:sX X scope [x] caps js):iP X scope (.Name x px) [x] caps (λd=>L [d]) (sR 0) p g p g where
 pg:=λ_ _ _ _ _=>iD (i:=0) S.nd bQ (.inl (A4 (S.loc x fF))) (.inr (A4 (S.loc x fF)))
 ok:=λ{d M v F H as c} e a _ b=>by
  cases e
  match as,b with
  | [o],_=>exact⟨[v],rfl,DatL.cons a DatL.nil,rfl,rfl⟩
 hp:=λ_=>⟨_,rfl⟩
 lo:=λe=>by cases e;rfl
 eq:=λr e=>by cases e;calc⟨rfl,rfl⟩
def sD{α:Type}(xs:J α)(a b:bR bH):J α:=(xs.drop (HT.sIx xs.length 0 a)).take (HT.sIx xs.length xs.length b-HT.sIx xs.length 0 a)
def pX(z:U)(b a:bR bH):U:=⟨(sD z.cps.toList b a).toArray⟩
def XB(xs:J α)(b a): ~~~(sD xs b a)<= ~~~xs:=by delta sD;rw[kl,HL];lia
def Le(z)(b a): ~~~(pX z b a)<= ~~~z:=by show(sD z.cps.toList b a).toArray.size<=z.cps.size;rw[hY];calc hE (XB _ _ _) cS
def Lf(n)(b a):oP b a 1 n=(gK (HT.sIx n n a-HT.sIx n 0 b)).map (HT.sIx n 0 b+ ·):=by
 let c:∀(o:bR bH) (d:bD),d<=n->(match o with
  |none=>(d:bH)
  |some i=>max 0 (vF (if i<0 then i+(n:bH)else i) (n:bH)))=((HT.sIx n d o:bD):bH):=by
  intro o d g;cases o with
  |none=>rfl|some i=>
   show max 0 (vF (if i<0 then i+(n:bH)else i) (n:bH))=((if i<0 then(i+(n:bH)).toNat else vF i.toNat n:bD):bH);by_cases a:i<0
   .rw[cK a,cK a];lia
   rw[cX a,cX a];lia
 rw[<-R8];delta oP;dsimp[show(1:bH)>0 by decide,rS];let e:=c b 0 (lL _);let f:=c a n (cU _);rw[<-e, <-f];cases b<;>cases a<;>rfl
def XC(z)(b a):(⟨((oP b a 1 (~~~z)).filterMap (z.cps[·]?)).toArray⟩:U)=pX z b a:=by
 rw[Lf,Jj];delta pX sD;have: ~~~z.cps.toList= ~~~z:=by simp[IM]
 rw[this]
def XD(h:((oP b a 1 (~~~z)).length== ~~~z)=bF):pX z b a=z:=by
 let h':(oP b a 1 (~~~z)).length= ~~~z:=kI h;rw[Lf,cA,qZ]at h';let g:HT.sIx z.length z.length a<= ~~~z:=HT.sIx_le _ _ (cU _) a;delta pX sD;let e: ~~~z.cps.toList= ~~~z:=by simp[IM]
 rw[e];by_cases f: ~~~z=0
 .have:z.cps.toList= []:=f8.mp (by rw[e];calc f);rw[this];cases z with
  |mk c=>
   have:c= #[]:=by apply Array.toList_inj.mp;simpa using this
   subst this;simp
 let d:HT.sIx z.length 0 b=0:=by lia
 rw[d,HU,List.take_of_length_le (by rw[e];lia)]
def XE{t:nA}{l u:bR (bH×nA)}(hz: ~~~z<=cR)(h:∀t' k,Q (.str (pX z (l.map (·.1)) (u.map (·.1))) t') {s with toks:=k}):(sliceMade z t l u bL).post Q s:=by
 delta sliceMade slicePicked;dsimp[Option.map_none,HM];by_cases a:((1:bH)==1&&(oP (l.map (·.1)) (u.map (·.1)) 1 (~~~z)).length== ~~~z)=bF
 .rw[cK a];rw[gD]at a;let e:=XD a.2;have:=h t s.toks;rw[e]at this;exact this
 rw[cX a,XC];refine⟨?_,h _ _⟩;calc hE (Le z _ _) hz
section
variable{a b c:bU}{g h:ME}{p2:cW}{m:D->D->bP D}
noncomputable def eU:D->bR bH->bR bH->bP D| .str z,b,a=>.ok (.str (pX z b a))| .t ds,b,a=>.ok (.t (sD ds b a))| .l ds,b,a=>.ok (.l (sD ds b a))|_,_,_=>.bad
inductive XF(X:Cx)(x:V)(lo:bR bH)(hi:bR bH)(H:Hp)(Q:VK):Prop
 |mk (F:_) (d:_) (_:bX F H) (_:bM X.K F d x) (_:gE (bM X.K) F H (eU d lo hi) Q)
def Lg{v:bK}{o:bR bH}(h:ak v o):∃q:bR (bH×nA),v=partValue q/\q.map (·.1)=o:=by
 cases h with
 |none=>calc⟨none,rfl,rfl⟩|int i t=>calc⟨L (i,t),rfl,rfl⟩
def XG:xp X (XF X):=by
 intro pe s Y H x v C E o m sl Q I y hs pl w h;let⟨F,d,b,c,q⟩:=h;cases d with
 |str z=>dsimp at c;let⟨rfl,A⟩:=c;let⟨t,rfl⟩:=y;let⟨N,rfl,G⟩:=Lg pl;let⟨O,rfl,K⟩:=Lg w;refine⟨"str",_,PySem.F.slot_str_getitem.lookup,pa _ _ _,?_⟩;refine wpAny_getItem_str_slice (l:=N) (u:=O) (st:=bL) hs rfl (XE A λP k=>?_);rw[G,K];calc⟨.str _,H,I.tok _,⟨_,rfl⟩,dY q b (by dsimp;calc⟨trivial,hE (Le _ _ _) A⟩)⟩|t ds=>
  dsimp at c;let⟨p,xs,rfl,g,f⟩:=c;let i:=f.length;by_cases n:HT.sIx ds.length 0 o=0/\HT.sIx ds.length ds.length m= ~~~ds
  .let e:sD ds o m=ds:=by
    delta sD;rw[n.1,n.2];simp
   dsimp[eU,e]at q;cases y;let⟨its,r,B,A⟩:=I.tuple (bX.seqT b g);let j:its.toArray.size= ~~~ds:=by rw[hY, <-r.length, <-i]
   refine⟨"tuple",_,j8.lookup,B.typeIs,?_⟩;exact WT B hs pl w (by rw[j];calc n) ⟨.ref p,H,I,rfl,dY q b (by dsimp;calc⟨p,xs,rfl,g,f⟩)⟩
  dsimp[eU]at q;refine VE pe s Y H _ v C E o m sl Q I y hs pl w ⟨p,xs,rfl,bX.seqT b g,by rw[<-i];calc n,λM a=>?_⟩;refine mv q b ?_ a;delta sD eF;rw[i];calc DatL.of (xy _ (xz _ f.paired))
 |l ds=>dsimp at c;let⟨p,xs,rfl,g,f⟩:=c;let i:=f.length;refine VR pe s Y H _ v C E o m sl Q I y hs pl w ⟨p,xs,rfl,bX.seq b g,λM a=>?_⟩;refine iL q b ?_ a;delta sD eF;rw[i];calc DatL.of (xy _ (xz _ f.paired))|_=>calc q.elim
abbrev MO:=cQ->bP (bR bH)
inductive XH(X:Cx)(f:MO)(Y:St)(H:Hp)(Q:bR bH->Hp->Prop):Prop
 |mk (O:_) (F:_) (_:gP X.K F H O Y) (_:gE R.RelO F H (f O) Q)
def qy(X:Cx)(e:bR bU)(f:MO):Prop:=PO X e (XH X f)
noncomputable def bt:MO:=λ_=>.ok bL
noncomputable def XI:D->bP (bR bH)| .int i=>.ok (L i)|_=>.bad
def ax(f:ME):MO:=λO=>(f O).bind XI
def Lh{o:bR bU}{t:TO}(h:PO X o t)(i:∀Y H Q,t' Y H Q->t Y H Q):PO X o t':=λpe s Y H Q I a=>h pe s Y H Q I (i Y H Q a)
def XJ:qy X bL bt:=Lh Vz λY H Q a=>by let⟨O,F,E,q⟩:=a;calc dY q E.sub bQ
def XM(he:IE X e f):qy X (L e) (ax f):=Lh (VA he) λY H Q ⟨O,F,E,q⟩=>⟨O,F,E,jV q λd v c g b a q=>by
 cases d with
 |int i=>dsimp at a;calc⟨i,a,dY q b.sub bQ⟩
 |_=>calc q.elim⟩
def ay(f:ME)(l u:MO):ME:=λO=>(f O).bind λd=>(l O).bind λb=>(u O).bind λa=>eU d b a
def XN{h g:bR bU}{l u:MO}(he:IE X e f)(o:qy X h l)(p:qy X g u):IE X (.Subscript e (.Slice h g bL p2) pos) (ay f l u):=gU (VC XG he o p) λY H Q ⟨O,F,E,q⟩=>⟨O,F,E,jV q λd v i t a k q=>⟨O,i,E.grow a,jV (R1:=R.RelO) q λy r F2 H2 b m q=>by cases(show y=r from m);refine⟨O,F2,(E.grow a).grow b,jV (R1:=R.RelO) q λz s j w c n q=>?_⟩;cases(show z=s from n);calc⟨j,d,c.sub,(k.mono b.fs).mono c.fs,q⟩⟩⟩
noncomputable def rd(T:kO):D->bW| .b _=>T== "int" ||T== "bool"| .int _=>T== "int"| .str _=>T== "str"| .t _=>T== "tuple"| .l _=>T== "list"|_=>bJ
def pY(T:kO)(d:D):bP D:=match d with| .shf _=>.bad|d=>.ok (.b (rd T d))
def vN(K:cG)(T:kO):Prop:=yN K (.type "NoneType") (.type T)=L bJ/\yN K (.type "bool") (.type T)=L (T== "int" ||T== "bool")/\yN K (.type "int") (.type T)=L (T== "int")/\
 yN K (.type "str") (.type T)=L (T== "str")/\yN K (.type "tuple") (.type T)=L (T== "tuple")/\yN K (.type "list") (.type T)=L (T== "list")/\yN K (.type "dict") (.type T)=L bJ
def XO(K):vN K "int" :=by delta vN yN wq w8;dsimp only;decide+kernel
def XR(K):vN K "bool" :=by delta vN yN wq w8;dsimp only;decide+kernel
def XT(K):vN K "str" :=by delta vN yN wq w8;dsimp only;decide+kernel
def Dh(K):vN K "tuple" :=by delta vN yN wq w8;dsimp only;decide+kernel
def XU(K):vN K "list" :=by delta vN yN wq w8;dsimp only;decide+kernel
theorem XV{T:kO}(w:vN X.K T):jL X (.builtin "isinstance") (λxs H Q=>∃F d v,xs= [v,.ty T]/\bX F H/\bM X.K F d v/\gE (bM X.K) F H (pY T d) Q):=by
 intro pe s Y H xs S Q I r h;let⟨F,d,v,rfl,k,a,q⟩:=h;let⟨x,y,A,B,C,E,G⟩:=w;let⟨u,O,rfl,c,N⟩:=xj r;cases(show O=gw T from N);let hs:(∃xs,d= .shf xs)\/pY T d= .ok (.b (rd T d)):=by cases d<;>first|calc .inr rfl|exact .inl ⟨_,rfl⟩
 rcases hs with⟨_,rfl⟩|hs
 .cases q
 rw[hs]at q;let dZ:∀b,b=rd T d->∀m,EP X pe Y Q (.bool b) {s with toks:=m}:=λb e m=>⟨.b b,H,I.tok m,rfl,by subst e;calc dY q k (by dsimp)⟩
 cases d with
 |n=>dsimp at a;subst a;cases c;calc lf W.kitx_none I.kIn el x (λz=>nomatch z) (dZ _ rfl)|b b=>dsimp at a;subst a;cases c;calc lf W.kitx_bool I.kIn el y (λz=>nomatch z) (dZ _ rfl)|int i=>dsimp at a;subst a;let⟨t,rfl⟩:=c;calc lf W.kitx_int I.kIn el A (λz=>nomatch z) (dZ _ rfl)|str z=>dsimp at a;let⟨rfl,_⟩:=a;let⟨t,rfl⟩:=c;calc lf W.kitx_str I.kIn el B (λz=>nomatch z) (dZ _ rfl)|t ds=>dsimp at a;let⟨p,xs,rfl,j,M⟩:=a;cases c;let⟨its,_,⟨o,f,g,_⟩,_⟩:=I.tuple (bX.seqT k j);calc lf W.kitx_tuple I.kIn ⟨o,f,g⟩ C (λz=>nomatch z) (dZ _ rfl)|l ds=>dsimp at a;let⟨p,xs,rfl,j,M⟩:=a;cases c;let⟨its,_,⟨o,n,f,g,_⟩,_⟩:=I.list (bX.seq k j);calc lf W.kitx_list I.kIn ⟨o,f,g⟩ E (λz=>nomatch z) (dZ _ rfl)|dct P ds=>dsimp at a;let⟨p,kvs,rfl,j,_⟩:=a;cases c;let⟨_,_,_,_,o,_,_,f,g,_⟩:=CI I.hok (k _ _ j);calc lf W.kitx_dict I.kIn ⟨o,f,g.1⟩ G (λz=>nomatch z) (dZ _ rfl)|shf _=>cases hs
def XW{T:kO}{b:U}(m:vN X.K T)(k:IE X a f)(l:Gl X "isinstance")(n:X.mg "isinstance" =bL)(e:Gl X b)(g:X.mg b=bL)(r:sO b=L (.type T))(o:b≠ "__name__" :=by decide)(c:(b==("__debug__" :U))=bJ:=by decide)(he:gG (a:: [.Name b p1]) X.env=(bJ,fP a X.env)::gG [.Name b p1] X.env:=by rfl):IE X (.Call (.Name "isinstance" p) [a,.Name b p1] [] pos) (m1 (pY T) f):=by
 refine gU (xo (XV m) l n cD2 (lB k (lB (T2 (v:=.ty T) e g r bQ o c) pS) he) (he:=he)) λY H Q s=>by let⟨O,F,E,q⟩:=s;calc⟨O,F,E,jV q λd v h t j i q=>⟨h,d,v,rfl,j.sub,i,q⟩⟩
structure m5(K:cG)(mg:U->bR bK)(x:U)(d:D):Prop where
 ex:∃(v:V) (u:bK),mg x=L u/\dM v u/\ ∀F,bM K F d v
def XX(f:Gl X x)(C:m5 X.K X.mg x d)(e:(x==("__debug__" :U))=bJ:=by decide):IE X (.Name x pos) (kc d):=by let⟨v,u,a,b,c⟩:=C.ex;calc qq (t:=tC v) (qc f a b e) c
end
noncomputable def az:J D->bP (J bW)| []=>.ok []| .b b::r=>(az r).bind λa=>.ok (b::a)|_::_=>.bad
theorem Di:∀{ds bs},az ds= .ok bs->ds=bs.map .b
 | [],bs,h=>by cases h;rfl|d::r,bs,h=>by
  cases d with
  |b b=>
   dsimp[az]at h;cases q:az r with
   |ok a=>rw[q]at h;cases h;rw[Di q];rfl|bad=>rw[q]at h;cases h
  |_=>cases h
noncomputable def eV:J D->bP D| [.l ds]=>(az ds).bind λa=>.ok (.b (a.all id))|_=>.bad
def XY(bs:J bW):(gK (~~~bs)).all (λi=>bs.getD i bF)=bs.all id:=by
 induction bs with
 |nil=>rfl|cons b r a=>rw[dB,kf,lA,Iv,lA, <-a];rfl
section
variable{a b c o:bU}{g h:ME}{p2:cW}{m:D->D->bP D}
def XZ(P:X.calm=bF):jL X (.builtin "all") (vM X eV):=by
 intro pe s Y H xs us Q I r h;let⟨F,ds,E,Z,q⟩:=h;delta eV at q;split at q
 .rename_i M;let⟨x,rfl,y⟩:=pE Z;dsimp at y;let⟨p,ys,rfl,O,B⟩:=y;let⟨u,rfl,ru⟩:=pR r;cases ru;cases k:az M with
  |ok f=>
   rw[k]at q;let e:=Di k;subst e;let⟨its,C,pl,hz⟩:=I.list (bX.seq E O);let S:X.A.in1.handled=none:=I.ok.hd P;let o:p≠s⁻¹:=by let⟨ob,n,e,_⟩:=pl;exact hJ (gH e)
   refine call_all_walk (v5 pl.isList ?_);let m:(s.heap.push {cls:=.type "list_iterator",data:=.fields #[.ref p,.int 0 0]}).IsList p its.toArray:=by let⟨ob,e,c,d⟩:=pl.isList;exact⟨ob,gF _ e,c,d⟩
   refine⟨s⁻¹,_,_,_,_,_,λi=>f.getD i bF,rfl,IU S s⁻¹ p o its.toArray,⟨⟨_,lC _ rfl,rfl,rfl⟩,m⟩,?_,λh' tk W=>?_⟩
   .intro i v s' K E' T hq;let l:its[i]? =some v:=by simpa using T
    let⟨x',t,w⟩:=iK C l;let⟨d,g,dx⟩:=iK B.paired t;rw[nX]at g;cases a:f[i]? with
    |none=>rw[a]at g;cases g|some b=>
     rw[a]at g;cases g;dsimp at dx;subst dx;cases w;refine dr ?_;let N:f.getD i bF=b:=by rw[qY,a];rfl
     let j:K (f.getD i bF) s':=hq;rw[N]at j;exact j
   let hn:its.toArray.size= ~~~f:=by
    rw[hY, <-C.length, <-B.length,cA]
   rw[hn,XY]
   let G:bS X pe Y H {s with heap:=h',toks:=tk}:=I.kept λb ob e=>W b ob (λz=>by
    let z':b=s⁻¹:=by simpa using z
    calc dD (gH e) (by rw[z'];calc aX _)) (gF _ e)
   calc⟨.b _,H,G,rfl,dY q E (by dsimp)⟩
  |bad=>rw[k]at q;cases q
 cases q
noncomputable def X0:D->bP U| .str z=>.ok z|_=>.bad
def xU(m:U->J D->bP D)(f:ME)(a:MA):ME:=λO=>(f O).bind λd=>(X0 d).bind λz=>(a O).bind λds=>m z ds
inductive m6(X:Cx)(m:U->J D->bP D)(x:V)(xs:J V)(H:Hp)(Q:VK):Prop
 |mk (F:_) (z:_) (ds:_) (_:bX F H) (_:x= .str z) (_: ~~~z<=cR) (_:DatL X.K F ds xs) (_:gE (bM X.K) F H (m z ds) Q)
def X1{m:U->J D->bP D}{id:kO}(h:IV "str" name id)(i:B8 (.builtin id)=dX (.type "method_descriptor"))(t:iI X id (m6 X m))(u:IE X o f)(s:IA X (e::M) fa)(b:zS o name X.env (fP o X.env)=fP o X.env:=by rfl)(g:((lV pos (gG (e::M) X.env)).all (λx=> !x.1)&&(ie pos (gt [] X.env)).all (λx=>x.1.isSome)
   &&cE (~~~(e::M)+ ~~~([]:J yO)+(if([]:J yO).isEmpty then 0 else 1)<30))=bF:=by rfl)(c:(apos.endLine==pos.line)=bF:=by rfl)(hs:gG (e::M) X.env=(bJ,fP e X.env)::gG M X.env:=by rfl)(a:(lV pos (gG M X.env)).any (·.1)=bJ:=by rfl):
 IE X (.Call (.Attribute o name apos) (e::M) [] pos) (xU m f fa):=gU (xu PySem.F.plainAttrs_str h i t u s b g c hs a) λY H Q ⟨O,F,E,q⟩=>⟨O,F,E,jV q λd v j l p k q=>by
 cases d with
 |str z=>dsimp at k;let⟨rfl,w⟩:=k;calc⟨rfl,O,j,E.grow p,jV (show gE (bM X.K) j l ((fa O).bind λds=>m z ds) Q from q) λy A F2 H2 r n q=>⟨F2,z,y,r.sub,rfl,w,n,q⟩⟩
 |_=>calc q.elim⟩
noncomputable def xV(z:U):J D->bP D| [.str y]=>.ok (.b (Bm z y))|_=>.bad
def X2:iI X "str.startswith" (m6 X xV):=by
 intro pe s Y H x xs v j Q I e d h;let⟨F,z,ds,f,rfl,g,c,q⟩:=h;let⟨t,rfl⟩:=e;delta xV at q;split at q
 .let⟨x,rfl,a⟩:=pE c;dsimp at a;let⟨rfl,_⟩:=a;let⟨u,rfl,i,rfl⟩:=pR d;exact PySem.SC.startswith ⟨.b _,H,I,rfl,dY q f (by dsimp)⟩
 cases q
def X3{t u:nA}(d:(~~~y==0)=false)(hsz: ~~~x+2<=cR)(c:∀l k,l.map (·.1)=yL x y->Q (.ref s⁻¹) {s with heap:=s.heap.push {cls:=.type "list",data:=.seq (Je l).toArray},toks:=k}):
 (A>>>(call (.builtin "str.split") [.str x t,.str y u])) Q E s:=by
 let f:=split_le x y;cases a:(cE (~~~x< ~~~y)||decide (Rj x<Rj y))with
 |true=>
  let e:yL x y= [x]:=by delta yL;rw[cK a]
  calc gy A1 (pa _ _ _) Hj (He _ _) (meets_str_split_cannot_occur x y t u a) (c [(x,t)] s.toks (by rw[e];rfl))
 |false=>
  cases b:(Hl x y 0 x.length (~~~x+1)).isEmpty with
  |true=>
   let e:yL x y= [x]:=by delta yL;rw[cX (by rw[a];decide),cK b]
   calc gy A1 (pa _ _ _) Hj (He _ _) (meets_str_split_not_found x y t u a d b) (c [(x,t)] s.toks (by rw[e];rfl))
  |false=>
   let e:yL x y=QJ x (Hl x y 0 x.length (~~~x+1)) (~~~y):=by delta yL;rw[cX (by rw[a];decide),cX (by rw[b];decide)]
   let g:(QJ x (Hl x y 0 x.length (~~~x+1)) (~~~y)).length<=cR:=by rw[<-e];lia
   refine gy A1 (pa _ _ _) Hj (He _ _) (meets_str_split_sep x y t u a d b bZ g) ?_;rw[strsFrom_eq];calc c (numbered s.toks _) _ (by rw[numbered_texts,e])
theorem Li:∀l,dR (l.map λp=>V.str p.1) (Je l)| []=>.nil|p::r=>.cons ⟨p.2,rfl⟩ (Li r)
theorem Lj:∀(ts:J U),(∀x∈ts,~~~x<=cR)->DatL K F (ts.map .str) (ts.map V.str)| [],_=>DatL.nil|x::r,h=>DatL.cons (by dsimp;calc⟨trivial,h x fF⟩) (Lj r λy a=>h y (fM _ a))
theorem Lk:∀{l:J U} {x:U},x∈l-> ~~~x<=(l.map (·.length)).sum
 |y::r,x,h=>by
  rw[fY,we];rcases jJ.mp h with rfl|h
  .lia
  have:=Lk h;lia
noncomputable def m7(z:U):J D->bP D| [.str y]=>if ~~~y≠0/\~~~z+2<=cR then .ok (.l ((yL z y).map .str))else .bad|_=>.bad
def X4:iI X "str.split" (m6 X m7):=by
 intro pe s Y H x xs v o Q I i g h;let⟨F,z,ds,j,rfl,n,f,q⟩:=h;let⟨t,rfl⟩:=i;delta m7 at q;split at q
 .rename_i y;let⟨x,rfl,a⟩:=pE f;dsimp at a;let⟨rfl,_⟩:=a;let⟨u,rfl,t',rfl⟩:=pR g;split at q
  .rename_i d;refine X3 (by simpa using d.1) d.2 λl k b=>?_
   let m:=split_weight z y bZ;let c:∀x∈yL z y,~~~x<=cR:=λx a=>by
    have:=Lk a
    lia
   let e:(l.map λp=>V.str p.1)=(yL z y).map V.str:=by rw[<-b,kM];rfl
   let r:=Li l;rw[e]at r;refine⟨.ref _,_,I.lnew (t':=k) r (by rw[cA];have:=split_le z y;lia),rfl,iL q j (Lj _ c) I.fresh⟩
  cases q
 cases q
end
def X5(a:X.A.units+200<jU):fU X (jH .In) (rD X (dT bJ)):=KY (neg:=bJ) a
def X6(a:X.A.units+200<jU):fU X (jH .NotIn) (rD X (dT bF)):=KY (neg:=bF) a
def yn(a:fZ k A):A.units+100<jU:=by have:=a.un;lia
def Ll(a:fZ k A):A.units+200<jU:=by have:=a.un;lia
def X7(i:X.N=N)(l:X.env.scope=sc)(b:scope.kind= .function)(h2:(scope.names.all λy=>cE (y.2≠ .cell))=bF)(c:(scope.names.all λy=>cE (y.2= .local->scope.names.lookup y.1=L .local))=bF)(d:(os.all λx=>cE (scope.names.lookup x=L .local))=bF)(e:(scope.names.all λy=>cE (y.2= .free->sc.names.lookup y.1=L .cell\/sc.names.lookup y.1=L .free))=bF)(f:(os++caps).Nodup)(g: ~~~caps= ~~~js)(h:((caps.zip js).all λq=>cE (N[q.2]? =L q.1)&&cE (scope.names.lookup q.1=L .free))=bF):sX X scope os caps js where
 kind:=b
 nocell:=λy a=>kR (mE.mp h2 y a)
 names:=λy a=>kR (mE.mp c y a)
 loc:=λy a=>kR (mE.mp d y a)
 fr:=λy a m=>by have:=kR (mE.mp e y a) m;show X<<<y.1=_\/X<<<y.1=_;rw[l];exact this
 nd:=f
 len:=g
 cap:=λk y j a n=>by
  let o:(y,j)∈caps.zip js:=by
   have:(caps.zip js)[k]? =L (y,j):=by rw[List.getElem?_zip_eq_some];exact⟨a,n⟩
   exact dm this
  have:=mE.mp h _ o;rw[gD]at this;rw[i];calc⟨kR this.1,kR this.2⟩
def Lm:br X [] λ_=>.ok bF:=.inl ⟨rfl,rfl⟩
def X8{p:MT}(h:IT X e p):br X [e] p:=.inr ⟨e,rfl,h⟩
def Lo{f:bI}(c:∀ds,m ds= .bad):fC P w K mg base CX k f fd ps (qK K m):=by
 let b:∀vs H Q E,¬ qK K m vs H Q E:=λvs H Q E h=>by let⟨F,ds,_,_,_,q⟩:=h;rw[c ds]at q;exact q
 calc⟨λvs H Q E h=>dD h (b vs H Q E),λA outer s H a d vs Q E _ _ _ _ h=>dD h (b vs H Q E)⟩
structure yX(P:fH)(w:cD)(K:cG)(mg:U->bR bK)(base:cH)(k:bD)(x:U)(m:J D->bP D):Prop where
 ex:∃(f:bI) (fd:fO) (ps:J U),fC P w K mg base fS k f fd ps (qK K m)/\mg x=L (.ref f)/\lE K (.ref f)=bF/\jO K fd ps []
def yX.of(h:yX X.prog X.w X.K X.mg X.base k x m):KA X k x m:=⟨h.ex⟩
def yo(K:cG):Sp:=λvs H Q _=>∃(a:bI) (c:J bH) (F:Hp),vs= [.ref a]/\pC F H/\bX F H/\jA K F a (c.map V.int)/\~~~c<=63/\ ∀T,Q (.b bF) T
theorem Lp:∀ns:J bH,DatL K F (ns.map .int) (ns.map V.int)| []=>DatL.nil|n::r=>DatL.cons (by dsimp) (Lp r)
theorem X9{f:bI}(F:fC P w K mg base fS k f fd ps (qK K m))(i:∀ns:J bH,~~~ns<=63->m [.l (ns.map .int)]= .ok (.b bF)):fC P w K mg base fS k f fd ps (yo K):=F.imp λvs H Q E ⟨a,ns,Fa,e,n,j,c,h,q⟩=>by
 subst e;refine⟨Fa,[.l (ns.map .int)],n,j,DatL.cons (by dsimp;calc⟨a,_,rfl,c,Lp ns⟩) DatL.nil,?_⟩;rw[i ns h];intro v F' T g d;dsimp at d;subst d;calc q T
noncomputable def fV:bU->bW| .Starred _ _=>bF|_=>bJ
def fA(h:fV e=bJ):gG (e::M) env=(bJ,fP e env)::gG M env:=by cases e<;>first|rfl| (calc aT h)
def dC(M:J bU):bW:=M.all λe=> !fV e
theorem kX:∀{M},dC M=bF->(lV pos (gG M env)).any (·.1)=bJ| [],_=>rfl|e::M,h=>by delta dC at h;rw[lA,gD]at h;rw[fA (by simpa using h.1)];show(bJ||(lV pos (gG M env)).any (·.1))=bJ;rw[Sy];calc kX h.2
theorem bu:∀{M},dC M=bF->(lV pos (gG M env)).all (λx=> !x.1)=bF| [],_=>rfl|e::M,h=>by delta dC at h;rw[lA,gD]at h;rw[fA (by simpa using h.1)];show(bF&&(lV pos (gG M env)).all λx=> !x.1)=bF;rw[tZ];calc bu h.2
structure jG(N:J U)(sc:kS)(i:bD)(x:U):Prop where
 n:N[i]? =L x
 v:sc.names.lookup x=L .local\/sc.names.lookup x=L .cell\/sc.names.lookup x=L .free
 d:(x==("__debug__" :U))=bJ
 c:(x==("__classdict__" :U))=bJ
def rJ(h:jG X.N X.env.scope i x):IE X (.Name x pos) (gv i):=Kz i (kU h.n h.v h.d h.c)
def Lq{x j}(a:Nat.ble x.length cR=bF):IE X (.Constant (.str x) j pos) (kc (.str x)):=Wu (Ht a)
def xW{r:MA}(hs:fV e=bJ)(a:IE X e f)(b:IA X M r):IA X (e::M) (aC f r):=x6 a b (fA hs)
def yp(C:yX X.prog X.w X.K X.mg X.base k x m)(g:fZ k X.A)(f:X<<<x=L .globalImplicit)(a:dC (e::M)=bF)(d:(x==("__debug__" :U))=bJ)(c:IA X (e::M) fa):
 IE X (.Call (.Name x p) (e::M) [] pos) (mA m fa):=by
 let b:fV e=bJ/\dC M=bF:=by delta dC at a;rw[lA,gD]at a;exact⟨by simpa using a.1,a.2⟩
 calc WE (yX.of C) g f c d (fA b.1) (kX b.2)
def Dj{id:kO}(f:jL X (.builtin id) r)(j:my X r m)(h:X<<<x=L .globalImplicit)(i:X.mg x=bL)(k:sO x=L (.builtin id))(b:dC (e::M)=bF)(g:(x==("__debug__" :U))=bJ)(a:(x==("__name__" :U))=bJ)(d:IA X (e::M) fa):IE X (.Call (.Name x p) (e::M) [] pos) (mA m fa):=by
 let c:fV e=bJ/\dC M=bF:=by delta dC at b;rw[lA,gD]at b;exact⟨by simpa using b.1,b.2⟩
 calc WC f j h i k d (by intro z;rw[z]at a;simp at a) g (fA c.1) (kX c.2)
def Yb{id:kO}(f:jL X (.type id) r)(j:my X r m)(h:X<<<x=L .globalImplicit)(i:X.mg x=bL)(k:sO x=L (.type id))(b:dC (e::M)=bF)(g:(x==("__debug__" :U))=bJ)(a:(x==("__name__" :U))=bJ)(d:IA X (e::M) fa):IE X (.Call (.Name x p) (e::M) [] pos) (mA m fa):=by
 let c:fV e=bJ/\dC M=bF:=by delta dC at b;rw[lA,gD]at b;exact⟨by simpa using b.1,b.2⟩
 calc WD f j h i k d (by intro z;rw[z]at a;simp at a) g (fA c.1) (kX c.2)
def Dk{T:kO}(j:vN X.K T)(hs:fV a=bJ)(i:X<<<("isinstance" :U)=L .globalImplicit)(k:X.mg "isinstance" =bL)(d:X<<<b=L .globalImplicit)(e:X.mg b=bL)(l:sO b=L (.type T))(h:(b==("__debug__" :U))=bJ)(c:(b==("__name__" :U))=bJ)(g:IE X a f):IE X (.Call (.Name "isinstance" p) [a,.Name b p1] [] pos) (m1 (pY T) f):=
 XW j g i k d e l (by intro z;rw[z]at c;simp at c) h (fA hs)
def Lr(b:X<<<x=L .globalImplicit)(C:m5 X.K X.mg x d)(a:(x==("__debug__" :U))=bJ):IE X (.Name x pos) (kc d):=XX b C a
def Lu{o:bU}{m:U->J D->bP D}{id:kO}(d:IV "str" name id)(g:B8 (.builtin id)=dX (.type "method_descriptor"))(l:iI X id (m6 X m))(c:dC (e::M)=bF)(j:ah (~~~(e::M)) 30=bF)(b:(apos.endLine==pos.line)=bF)(a:zS o name X.env (fP o X.env)=fP o X.env)(n:IE X o f)(i:IA X (e::M) fa):IE X (.Call (.Attribute o name apos) (e::M) [] pos) (xU m f fa):=by
 let h:fV e=bJ/\dC M=bF:=by delta dC at c;rw[lA,gD]at c;exact⟨by simpa using c.1,c.2⟩
 refine X1 d g l n i a ?_ b (fA h.1) (kX h.2);rw[bu c];let k: ~~~(e::M)<30:=Ht j;show(bF&&bF&&cE (~~~(e::M)+0+(if([]:J yO).isEmpty then 0 else 1)<30))=bF;dsimp[RK,rS,tZ];calc kF bZ
def Yc(b:X<<<("range" :U)=L .globalImplicit)(d:X.mg "range" =bL)(hs:fV a=bJ)(c:IE X a f):II X tg (.Call (.Name "range" p) [a] [] pos) (lH f):=
 Xt b d c (by rw[fA hs];rfl)
noncomputable def wH:bU->bW| .ListComp _ _ _ _=>bF| .SetComp _ _ _ _=>bF| .DictComp _ _ _ _ _=>bF|_=>bJ
def vO{t:bR bU}(h:wH e=bJ):em e t l env=dX bJ:=by cases e<;>first|rfl| (calc aT h)
def Lv(a:X.N.Nodup)(c:X.N[i]? =L x)(d:Loc X.env.scope x)(hs:wH e=bJ)(b:X.fn x=bF\/X<<<x=L .local)(he:IE X e f):IS X (.Assign [.Name x p] e pos) (dQ i f):=
 KF (λt h=>eB (i:=i) a c d h (vO hs) b) he
def Yd(hs:wH e=bJ)(he:IE X e f):IS X (.Expr e pos) (iN f):=WP he (vO hs)
variable [dG] [Pd]
noncomputable def yq:bU->bW| .Name _ _=>bF| .Constant (.int _) _ _=>bF| .BinOp _ _ _ _=>bF| .UnaryOp _ _ _=>bF| .Call _ _ _ _=>bF| .Subscript _ _ _=>bF| .Attribute _ _ _=>bF|_=>bJ
def Lw(h:yq b=bF):xq b:=by
 cases b<;>first
  | (calc aT h)
  | (intro _ _;rfl)
  | (rename_i k _ _;cases k<;>first| (calc aT h)| (intro _ _;rfl))
def Ye(e:X.A.units+1<jU)(hs:yq b=bF)(c:IE X a f)(d:IE X b g):IE X (.Subscript a b pos) (m2 dN f g):=Xl e c d (Lw hs)
noncomputable def Dl:bU->bW| .Name _ _=>bF| .Call _ _ _ _=>bF| .Subscript _ _ _=>bF| .Attribute _ _ _=>bF| .BinOp _ _ _ _=>bF|_=>bJ
def Yf(h:Dl a=bF):∀b,isTrue a env b=(do let v <-b;lu a.pos;ag [v] (B6 v)):=by
 cases a<;>first
  | (calc aT h)
  | (intro _;rfl)
def yr(hs:Dl a=bF)(b:IE X a f):IT X a (mT f):=WH b (Yf hs)
noncomputable def iQ:bU->bW| .Name _ _=>bF| .Call _ _ _ _=>bF| .Subscript _ _ _=>bF| .BinOp _ _ _ _=>bF| .ListComp _ _ _ _=>bF| .Tuple _ _ _=>bF| .List _ _=>bF|_=>bJ
def iR(h:iQ a=bF):∀x,gi a env x=dX x:=by
 cases a<;>first
  | (calc aT h)
  | (intro _;rfl)
end
section
variable [dG] [Pd]
def Lx(h:n<2^64):n.log2<1920:=by
 by_cases a:n=0
 .subst a;decide
 have:=(Nat.log2_lt a).mpr h
 lia
def Yg:jL X (.type "str") (vM X xT):=by
 intro pe s Y H xs g Q I r h;let⟨F,ds,e,d,q⟩:=h;delta xT at q;split at q
 .let⟨x,rfl,a⟩:=pE d;dsimp at a;subst a;split at q
  .rename_i c;exact U7 pe s Y H _ g Q I r ⟨_,rfl,Lx c,dY q e (by dsimp;calc⟨trivial,int_text_fits (Lx c)⟩)⟩
  cases q
 .let⟨x,rfl,a⟩:=pE d;let b:=a;dsimp at a;let⟨rfl,i⟩:=a;let⟨u,rfl,f⟩:=pR r;let⟨t,rfl⟩:=f;exact PySem.P.str_of_str ⟨.str _,H,I,⟨_,rfl⟩,dY q e b⟩
 cases q
noncomputable def jR:D->D->bP D| .int i,.int j=>.ok (.b (!(i==j)))| .str x,.str y=>.ok (.b (!(x==y)))| .t xs,.t ys=>if depL xs<=90/\depL ys<=90 then .ok (.b (!eqL xs ys))else .bad|_,_=>.bad
def Yh(T:X.A.units+100<jU):fU X (jH .NotEq) (rD X jR):=by
 intro pe s Y H x y v u Q I m o h;let⟨F,C,E,l,g,k,q⟩:=h;cases C<;>cases E<;>try exact q.elim
 .rename_i i j;dsimp at g k;subst g k;refine JP pe s Y H _ _ v u Q I m o ⟨rfl,?_⟩;let e:(!cE ((V.int i)=V.int j))= !(i==j):=by
   by_cases q:i=j
   .subst q;simp
   simp[q]
  first| (rw[e];calc dY q l (by dsimp))|skip
 .rename_i i j;dsimp at g k;let⟨rfl,_⟩:=g;let⟨rfl,_⟩:=k;refine JP pe s Y H _ _ v u Q I m o ⟨rfl,?_⟩;let e:(!cE ((V.str i)=V.str j))= !(i==j):=by
   by_cases q:i=j
   .subst q;simp
   simp[q]
  first| (rw[e];calc dY q l (by dsimp))|skip
 rename_i ds M;replace q:gE (bM X.K) F H (if depL ds<=90/\depL M<=90 then .ok (.b (!eqL ds M))else .bad) Q:=q;split at q
 .rename_i G;dsimp at g k;let⟨p1,xs,rfl,N,p⟩:=g;let⟨p2,ys,rfl,O,r⟩:=k;cases m;cases o;let⟨W,t,P,_⟩:=I.tuple (bX.seqT l N);let⟨Z,B,S,_⟩:=I.tuple (bX.seqT l O);let z:=cG6 (A:=X.A) P S bZ (KT (λd e x y u v q z a b c f=>(C5 (n:=90) I l hG X.A.in1 d e x y u v q z (by show X.A.units+1+90<jU;lia) a b c f).2) G.1 bZ p t r B);rw[hY,hY, <-t.length, <-B.length, <-p.length, <-r.length, <-yi]at z;exact z X.prog X.w X.xe _ ⟨.b _,H,I,rfl,dY q l (by dsimp)⟩
 cases q
def bv(i j:bD)(f:ME):MS:=λO=>(f O).bind λd=>match d with| .t [x,y]=>.ok (.nx ((O.set i (.val x)).set j (.val y)))|_=>.bad
def Yi(h:∀t,PE X e t->PS X (.Assign [.Tuple [.Name x px,.Name y py] k pt] e pos) (qe t (ma X.K 2 (yR (sR i) (yR (sR j) l9)))))(he:IE X e f):
 IS X (.Assign [.Tuple [.Name x px,.Name y py] k pt] e pos) (bv i j f):=λFa Ha=>lM (h _ he) λE Y H q=>
 yd (k:=λd O=>match d with| .t [x,y]=>.ok (.nx ((O.set i (.val x)).set j (.val y)))|_=>.bad) (λO F H d v S r q=>by
  cases d with
  |t ds=>
   cases ds with
   |nil=>calc q.elim|cons n ds=>
    cases ds with
    |nil=>calc q.elim|cons o ds=>
     cases ds with
     |cons _ _=>calc q.elim|nil=>dsimp at r;let⟨p,xs,rfl,b,a⟩:=r;dsimp[DatL]at a;let⟨l,s,rfl,c,m,u,rfl,g,rfl⟩:=a;calc⟨p,_,rfl,bX.seqT S.env.sub b,rfl,l,_,rfl,m,_,rfl,rfl,q _ F H ((S.set i c).set j g)⟩
  |_=>calc q.elim) q
def Yj(h:X.calm=bF)(b:X.N.Nodup)(m:X.N[i]? =L x)(p:Loc X.env.scope x)(n:X.N[j]? =L y)(q:Loc X.env.scope y)(l:X.fn x=bF\/X<<<x=L .local)(a:X.fn y=bF\/X<<<y=L .local)(c: ~~~(wW [.Name x px,.Name y py] X.env)=2)(h2:(wW [.Name x px,.Name y py] X.env).findIdx? (·.1)=bL)(d:(wW [.Name x px,.Name y py] X.env).map (·.2)=be (.Name x px) X.env::(wW [.Name y py] X.env).map (·.2))(f:(wW [.Name y py] X.env).map (·.2)=be (.Name y py) X.env::(wW [] X.env).map (·.2))(hs:HY [.Tuple [.Name x px,.Name y py] k pt] e pos.line X.env=dX bJ)(o:HZ [.Tuple [.Name x px,.Name y py] k pt] e X.env=dX bL)(g:(wW [.Tuple [.Name x px,.Name y py] k pt] X.env).map (·.2)= [be (.Tuple [.Name x px,.Name y py] k pt) X.env]){t:TE}(he:PE X e t):
 PS X (.Assign [.Tuple [.Name x px,.Name y py] k pt] e pos) (qe t (ma X.K 2 (yR (sR i) (yR (sR j) l9)))):=
 Um he (JK h (xg (iD b m p l) (xg (iD b n q a) JJ f) d) c h2) hs o g
def Yk(c:X.calm=bF)(b:X.N.Nodup)(g:X.N[i]? =L x)(n:Loc X.env.scope x)(h:X.N[j]? =L y)(o:Loc X.env.scope y)(d:X.fn x=bF\/X<<<x=L .local)(a:X.fn y=bF\/X<<<y=L .local)(hs:HY [.Tuple [.Name x px,.Name y py] k pt] e pos.line X.env=dX bJ)(m:HZ [.Tuple [.Name x px,.Name y py] k pt] e X.env=dX bL)(he:IE X e f):
 IS X (.Assign [.Tuple [.Name x px,.Name y py] k pt] e pos) (bv i j f):=
 Yi (λt l=>Yj c b g n h o d a bQ bQ bQ bQ hs m bQ l) he
noncomputable def jX(neg:bW):D->D->bP D| .n,.n=>.ok (.b (!neg))|_,.n=>.ok (.b neg)|_,_=>.bad
def Ly(h:bM K F d v):jX neg d .n= .ok (.b (neg != cE (v= .n))):=by
 cases d<;>dsimp at h
 .subst h;cases neg<;>rfl
 .subst h;cases neg<;>rfl
 .subst h;cases neg<;>rfl
 .let⟨rfl,_⟩:=h;cases neg<;>rfl
 all_goals first| (let⟨a,xs,rfl,_⟩:=h;cases neg<;>rfl)| (let⟨a,_,xs,rfl,_⟩:=h;cases neg<;>rfl)
def Yl:fU X (jH .Is) (rD X (jX bJ)):=by
 intro pe s Y H x y v u Q I f g h;let⟨F,c,d,i,e,a,q⟩:=h;cases d<;>try (cases c<;>calc q.elim)
 dsimp at a;subst a;rw[Ly e]at q;refine UW pe s Y H _ _ v u Q I f g ⟨rfl,?_⟩;have:=dY q i (b:=V.b (bJ != cE (x= .n))) (by dsimp);simpa using this
def Ym:fU X (jH .IsNot) (rD X (jX bF)):=by
 intro pe s Y H x y v u Q I f g h;let⟨F,c,d,i,e,a,q⟩:=h;cases d<;>try (cases c<;>calc q.elim)
 dsimp at a;subst a;rw[Ly e]at q;refine UX pe s Y H _ _ v u Q I f g ⟨rfl,?_⟩;have:=dY q i (b:=V.b (bF != cE (x= .n))) (by dsimp);simpa using this
inductive re(K:cG)(c:J (bI×HO))(m:J D->bP D)(vs:J V)(H:Hp)(Q:VK)(z3:XK):Prop
 |mk (F:_) (ds:_) (_:pC F H) (_:bX F H) (_:(∀p∈c,F p.1=L p.2)) (_:DatL K F ds vs) (_:gE (bM K) F H (m ds) Q)
structure bw(P:fH)(w:cD)(K:cG)(mg:U->bR bK)(base:cH)(n:bD)(v:V)(c:J (bI×HO))(m:J D->bP D):Prop where
 ex:∃(a:bI) (fd:fO) (ps:J U),v= .ref a/\((∃o fd',base.get? a=L o/\o.data= .func fd')\/lE K (.ref a)=bF)/\fC P w K mg base fS n a fd ps (re K c m)/\jO K fd ps []
def Yn{Q:VK}{E:XK}(h:re K [] m vs H Q E):qK K m vs H Q E:=by let⟨F,ds,a,b,_,c,d⟩:=h;exact⟨F,ds,a,b,c,d⟩
open Classical in
def eW(i:bD)(v:V)(c:J (bI×HO))(m:J D->bP D)(a:MA):ME:=λO=>if O[i]? =L (.is v c)then(a O).bind m else .bad
def Yo{g:Hp->Prop}(i:∀F F',bX F F'->g F->g F')(h:∀F H ds vs Q,pC F H->bX F H->g F->DatL X.K F ds vs->gE (bM X.K) F H (m ds) Q->r vs H Q){Q:VK}(E:gP X.K F H O Y)(f:g F)(q:gE (bM X.K) F H ((fa O).bind m) Q):iM X fa Y H λvs a=>r vs a Q:=by
 calc⟨O,F,E,jV q λd v c a b e q=>h c a d v Q (b.tk E.tb) b.sub (i _ _ b.fs f) e q⟩
theorem Yp(C:bw X.prog X.w X.K X.mg X.base n v c m)(hr:fZ n X.A)(y:jG X.N X.env.scope i x)(t:dC (e::M)=bF)(S:IA X (e::M) fa):
 IE X (.Call (.Name x p) (e::M) [] pos) (eW i v c m fa):=by
 let⟨a,fd,ps,rfl,B,F,j⟩:=C.ex;intro pe s Y H Q I q;let⟨O,F0,E,q⟩:=q;delta eW at q;split at q
 .rename_i hi;let⟨o',e1,rfl,hc⟩:=E.at_ i _ hi
  let hq:=Yo (X:=X) (r:=λvs k Q=>re X.K c m (vs++ []) k Q E0) (g:=λF=>∀p∈c,F p.1=L p.2) (λF F' sm h p hp=>sm _ _ (h p hp))
   (λF H ds vs Q ti sb g d q=>by rw[jF];calc⟨F,ds,ti,sb,g,d,q⟩) E hc q
  let hs:fV e=bJ/\dC M=bF:=by delta dC at t;rw[lA,gD]at t;exact⟨by simpa using t.1,t.2⟩
  refine gf ?_;refine dA (kU y.n y.v y.d y.c pe s Y H (λv' T=>v'= .ref a/\T=H) I ⟨.ref a,e1,rfl,rfl⟩) λu P qz=>?_
  let⟨v',k,l,r1,ev,eH⟩:=qz;subst ev eH;obtain rfl:u=lD a:=r1;rcases B with⟨o,z,B,Z⟩|hk
  .let b:∀{s':bT} {σ':St} {T:Hp},bS X pe σ' T s'->W.FnAt a s'.heap:=λ{s' σ' T} I'=>by
    let h:=I'.bk a o B;let⟨oc,od,dt,sl⟩:=o;simp only at Z;subst Z;exact⟨oc,od,z,sl,h⟩
   refine W.callWith_F (b l) (dA (S pos pe P Y k _ l hq) λus s2 ⟨vs,H2,f,r,G⟩=>⟨b f,?_⟩) (fA hs.1) (kX hs.2);exact qj F hr j .nil rY f r G
  refine o6 (h₀:=P.heap) l.kIn hk (dA (S pos pe P Y k _ l hq) λus s2 ⟨vs,H2,f,r,G⟩=>⟨f.kIn,?_⟩) (fA hs.1) (kX hs.2);exact qj F hr j .nil rY f r G
 cases q
noncomputable def rf(n:bD)(ds:J D)(v:V)(c:J (bI×HO)):cQ:=ds.map .val++(.is v c::nR (n- ~~~ds-1) .no)
def m8(k n:bD)(v:V)(c:J (bI×HO))(g:MS)(ds:J D):bP D:=if ~~~ds+1=k then(g (rf n ds v c)).bind lF else .bad
inductive aA(K:cG)(v:V)(c:J (bI×HO))(m:J D->bP D)(vs:J V)(H:Hp)(Q:VK)(z3:XK):Prop
 |mk (F:_) (ds:_) (vs0:_) (_:vs=vs0++ [v]) (_:pC F H) (_:bX F H) (_:(∀p∈c,F p.1=L p.2)) (_:DatL K F ds vs0) (_:gE (bM K) F H (m ds) Q)
def Yq(k:pC F H)(s:bX F H)(g:∀p∈c,F p.1=L p.2)(r:DatL K F ds vs):SR K F H F H (rf N.length ds v c) (start N (vs++ [v])):=by
 let f:∀{i:bD} {p s},(ds.map Slot.val++ [.is v c])[i]? =L (.obj p s)->hI:=λe=>WR (λs hs=>by
  rcases hV.mp hs with h|h
  .let⟨d,_,rfl⟩:=gO.mp h;rfl
  cases mM.mp h;rfl) e
 have:=yf (N:=N) k (.refl s) (vH (mz (H:=H) r) (.cons (a:=Slot.is v c) (b:=v) ⟨rfl,g⟩ .nil)) (λi j p s q t a b n e=>(f e).elim) λi p s a e=>(f e).elim
 delta mH at this;delta rf;rw[cO,cA,nQ]at this;calc this
theorem Yr{st:fQ}{f:bI}(F:jB K x qual st f fd)(S:pT N ps (dU st))(t: ~~~ps<= ~~~N)(a:∀(_:Pd) (cdv:bK) (A:gW) (outer:J jK) (s:bT) (H:Hp) (E:XK),fZ k (A.deeper (nZ qual (dU st) s⁻¹ f cdv))->
   nH (nG fS P w K mg base N qual (dU st) f cdv A outer s H E).nox (mG st) g):fC P w K mg base fS (k+1) f fd ps (aA K v c (m8 ps.length N.length v c g)):=by
 refine F.ok S (λvs H Q E h=>?_) (λcdv A outer s H vs Q E m h=>?_)
 .let⟨F,ds,b,rfl,_,_,_,r,q⟩:=h;delta m8 at q;split at q
  .rename_i e;rw[cO, <-r.length];exact e
  cases q
 let⟨F,ds,b,rfl,p,s',l,r,q⟩:=h;delta m8 at q;split at q
 .rename_i e
  letI:Pd:=bl
  refine⟨_,a bl cdv A outer s H E m F H,rf N.length ds v c,F,Yq p s' l r,?_⟩;revert q;cases g (rf N.length ds v c)with
  |ok fl=>
   intro q;cases fl with
   |nx O=>calc λY F' T i=>q .n F' T i.gr (by dsimp)|rt d=>calc λv F' T j o=>q v F' T j o|_=>calc q.elim
  |bad=>exact lX
 cases q
noncomputable def yt(P:fH)(w:cD)(K:cG)(mg:U->bR bK)(base:cH)(N:J U)(qual:U)(scope:kS)(a:bI)(b:bK)(c:J (U×bI))(A:gW)(outer:J jK)(s:bT)(H:Hp):Cx where
 prog:=P
 w:=w
 K:=K
 mg:=mg
 base:=base
 A:=A.deeper (p0 qual scope s⁻¹ a b c)
 N:=N
 s₀:=s
 Ha:=H
 env:=p0 qual scope s⁻¹ a b c
 outer:=outer
 stack:=p0 qual scope s⁻¹ a b c::outer
 ex:=[]
 fn:=λ_=>bJ
 calm:=bF
 pn:=[]
 xe:=λ_ _=>hI
noncomputable abbrev rg(a:bI)(qual:U):J (bI×HO):=[(a,.ext λh=>h.CodeRec (.ref a) qual)]
noncomputable def vP(i:bH)(g:ME):J D->bP D| [d]=>g [.val d,.val (.int i)]|_=>.bad
structure rh(x y:U)(scope:kS):Prop where
 kind:scope.kind= .function
 co:scope.isCoroutine=bJ
 gen:scope.isGenerator=bJ
 nocell:∀z∈scope.names,z.2≠ .cell
 loc:scope.names.lookup x=L .local
 fr:scope.names.lookup y=L .free
 one:∀z,scope.names.lookup z=L .free->z=y
theorem Ys{l:bU}{i:bH}{t:nA}(ho:base.get? a=L (pi name qual B l scope [(y,cc)] pm c' a2))(Y:base.IsCell cc (L (.int i t)))(S:rh x y scope)(X:∀(_:Pd) (A:gW) (outer:J jK) (s:bT) (H:Hp),fZ n (A.deeper (p0 qual scope s⁻¹ a (.ref c') [(y,cc)]))->IE (yt P w K mg base [x,y] qual scope a (.ref c') [(y,cc)] A outer s H) l g):
 fC P w K mg base fS (n+1) a (W.kla_fn name qual B l scope [(y,cc)] pm (.ref c') a2) [x] (re K (rg c' qual) (vP i g)):=by
 let a6:∀{vs:J V} {H:Hp} {Q:VK} {E:XK},re K (rg c' qual) (vP i g) vs H Q E->∃F d v,vs= [v]/\pC F H/\bX F H/\F c'=L (.ext λh=>h.CodeRec (.ref c') qual)/\bM K F d v/\gE (bM K) F H (g [.val d,.val (.int i)]) Q:=λ{vs H Q E} h=>by
  let⟨F,ds,ti,sb,hc,dl,q⟩:=h;delta vP at q;split at q
  .let⟨v,rfl,hv⟩:=pE dl;exact⟨F,_,v,rfl,ti,sb,hc _ fF,hv,q⟩
  cases q
 refine⟨λvs H Q E h=>?_,λA outer s H b2 us vs Q E hr m hb r a9=>?_⟩
 .let⟨F,d,v,rfl,_⟩:=a6 h;rfl
 let⟨F,d,v,rfl,ti,sb,hc,hv,q⟩:=a6 a9;let⟨u,rfl,ru⟩:∃u,us= [u]/\dM v u:=by
  cases r with
  |cons r1 r2=>cases r2;exact⟨_,rfl,r1⟩
 let Z:s.heap.CodeRec (.ref c') qual:=(m.hok c' _ (sb _ _ hc)).1;let b1:s.heap.NoLimit:=m.mod.nolimit.keeps λb o e=>(m.bs b o e).1
 refine W.kla_callFunE hr.depth (m.bs a _ ho).1 rfl S.co S.gen rfl Z (hb _ _ _ _ ?_);refine Q8 S.nocell (λz hz=>?_) (λh₁ a7 a4=>⟨b1.fresh _ a4,?_⟩) S.kind
 .obtain rfl:z=(x,u):=by simpa using hz
  exact S.loc
 show codeAny _ _ (.expr l (p0 qual scope s⁻¹ a (.ref c') [(y,cc)])) _ _;let N:∀b o,s.heap.get? b=L o->h₁.get? b=L o:=λb o e=>a4.extBut b o (hJ (gH e)) (gF _ e)
 let M:∀z c,([(y,cc)]:J (U×bI)).lookup z=L c->z=y/\c=cc:=λz c e=>by
  rw[lJ]at e;split at e
  .rename_i hz;exact⟨kI hz,(kE e).symm⟩
  cases e
 let a5:([(y,cc)]:J (U×bI)).lookup y=L cc:=by rw[lJ,sL]
 let⟨oc,a8,a3⟩:=Y;let a0:=m.bs cc oc a8;let I:bS (yt P w K mg base [x,y] qual scope a (.ref c') [(y,cc)] A outer s H) [] [L v,L (.int i)] H {s with heap:=h₁,toks:=s.toks+1}:=by
  let a1:∀b:bI,b∉(yt P w K mg base [x,y] qual scope a (.ref c') [(y,cc)] A outer s H).ex:=λb z=>dD (show b∈([]:J bI)from z) cS
  refine⟨⟨m.mod,S.kind,rfl,rfl,cU _,λC z c G O=>?_,λC hy=>?_,λC c hf _=>?_,λ_=>hr.hd,Q7 m.frames,.inr ⟨rfl,rfl⟩,λb z=>dD z (a1 b),m.bs,m.bsz,λb _ _=>a1 b,λb z=>dD z (a1 b),m.funs,m.frf⟩,
   rfl,m.bare,Un.kept N,⟨_,a7,λj z v' G O h3=>?_⟩,λC c h=>?_,m.hok.fresh (cU _),λC c h=>?_,λp hp=>dD (show p∈([]:J (bI×cY))from hp) cS,m.hok.kept N,rfl⟩
  .exact(M C c G).1.trans (M z c O).1.symm
  .let b0:scope.names.lookup C=L .cell\/scope.names.lookup C=L .free:=hy;rcases b0 with q|q
   .exact dD rfl (S.nocell _ (gb q))
   rw[S.one C q];exact⟨cc,a5⟩
  .cases hf
  .match j,G,O with
   |0,G,O=>
    let e1:x=z:=kE G;let e2:v=v':=by simpa using O
    subst e1 e2;refine⟨u,ru,.inl ⟨S.loc,?_⟩⟩;simp
   |1,G,O=>
    let e1:y=z:=kE G;let e2:V.int i=v':=by simpa using O
    subst e1 e2;calc⟨.int i t,⟨t,rfl⟩,.inr ⟨.inr S.fr,cc,a5,oc,N _ _ a0.1,a3⟩⟩
   |j+2,G,O=>cases G
  .let⟨_,rfl⟩:=M C c h;exact⟨_,oc,N _ _ a0.1,a3⟩
  let⟨_,rfl⟩:=M C c h;exact a0.2
 letI:Pd:=bl
 let En:gP K F H [.val d,.val (.int i)] [L v,L (.int i)]:=by
  refine⟨ti,sb,rfl,λj s' e=>?_,λj k p s q t b b' _ e=>?_⟩
  .match j,e with|0,e=>cases e;calc⟨_,rfl,v,rfl,hv⟩|1,e=>cases e;exact⟨_,rfl,_,rfl,by dsimp⟩
  .match j,e with|0,e=>cases e|1,e=>cases e
 refine W.kla_codeExpr (lU (X bl A outer s H (hr.deeper _) [] _ _ H Q I ⟨_,F,En,q⟩) (λu' s' qz=>?_) λ_ _ z=>z.elim);let⟨v',T,f,rv,q'⟩:=qz;calc⟨v',T,f.os,f.bare,f.base,f.hok,rv,q'⟩
def Lz{a h2:cH}(x:a.CodeRec (.ref c') q)(k:∀o,a.get? c'=L o->h2.get? c'=L o):h2.CodeRec (.ref c') q:=by let⟨c,o,vs,t,e,b,r⟩:=x;cases e;calc⟨c',o,vs,t,rfl,k o b,r⟩
def Yt{a:cH}(x:a.CodeRec (.ref c') q):∃o,a.get? c'=L o:=by let⟨c,o,vs,t,e,b,r⟩:=x;cases e;calc⟨o,b⟩
theorem Yu{f:cW}(I:bS X pe Y H s)(ti:sT H)(hL:(Pt,f,lq)∈dG.L)(B:X.env.code= .ref c)(Z:BS X.base c Pt)(hq:X.env.qual++ "<lambda>" =lq)(a4:X.base.BuiltinsAt X.mg Pt)(T:defaultsOf lps X.env=([],[]))(S:wh lsc X.env=dX clos)(h:∀a c' j G s1,bS X pe Y G s1->s⁻¹<=a->G a=bL->s1.heap.get? a=L (pi "<lambda>" lq lps g lsc clos ((X.mg "__name__").getD .none) c' j)->G c'=L (.ext λh=>h.CodeRec (.ref c') lq)->
   CK H G->(∀b,H b≠bL->G b≠bL)->sT G->(∀F:Hp,bX F H->(∀b ps,F b≠L (.tbl ps))->bX F G)->Q (.ref a) s1):
 (X>>>(fP (.Lambda lps g lsc f) X.env)) Q E s:=by
 let⟨ps,l,C,r⟩:=ti _ hL;let hP:s.heap.get? Pt=L (en ps):=I.hok Pt _ l;let hg:s.heap.Ns kH X.mg:=I.mod.glob.keeps I.bk;let hb:s.heap.BuiltinsAt X.mg Pt:=by let⟨bm,o,h1,h2,h3,h4,h5,h6⟩:=a4;exact⟨bm,o,h1,h2,h3,h4,I.bk _ _ h5,h6⟩
 let a7:kH≠Pt:=λz=>by let⟨o,M,ep,e,_⟩:=I.mod.glob;have:=(I.bs _ _ e).2;rw[z,l]at this;cases this
 refine W.kla_eval T ?_;rw[hq];rcases r with r|⟨c',r,a5⟩
 .refine W.kla_makeFunction S I.ok.glob hg B (Z.keeps I.bk) hP C r a7 hb λc' j h' tk hx K a8 a1 a2=>?_
  let P:Pt<s⁻¹:=gH hP;let a3:Pt≠c':=hJ (nO P K);let a6:H c'=bL:=I.hok.fresh K;let v:s⁻¹<=h'.objs.size:=bZ;let p:upd (upd H Pt (.tbl (ps++ #[pP f.line,pP f.col,.ref c']))) c' (.ext λh=>h.CodeRec (.ref c') lq) Pt=L (.tbl (ps++ #[pP f.line,pP f.col,.ref c'])):=by rw[fK a3,gI]
  let m:∀b,b≠Pt->b≠c'->upd (upd H Pt (.tbl (ps++ #[pP f.line,pP f.col,.ref c']))) c' (.ext λh=>h.CodeRec (.ref c') lq) b=H b:=λb h1 h2=>by rw[fK h2,fK h1]
  let nP:∀b u,aq u=bF->H b=L u->b≠Pt:=λb u n e z=>by rw[z,l]at e;cases e;cases n
  let nC:∀b u,H b=L u->b≠c':=λb u e z=>by rw[z,a6]at e;cases e
  let N:CK H (upd (upd H Pt (.tbl (ps++ #[pP f.line,pP f.col,.ref c']))) c' (.ext λh=>h.CodeRec (.ref c') lq)):=λb u n e=>by rw[m b (nP b u n e) (nC b u e)];exact e
  let mr:∀b,H b≠bL->upd (upd H Pt (.tbl (ps++ #[pP f.line,pP f.col,.ref c']))) c' (.ext λh=>h.CodeRec (.ref c') lq) b≠bL:=λb n=>by
   by_cases z:b=c'
   .subst z;rw[gI];simp
   by_cases O:b=Pt
   .subst O;rw[p];simp
   rw[m b O z];exact n
  let un:Un X.fs [] H (upd (upd H Pt (.tbl (ps++ #[pP f.line,pP f.col,.ref c']))) c' (.ext λh=>h.CodeRec (.ref c') lq)) s.heap (h'.push (pi "<lambda>" lq lps g lsc clos ((X.mg "__name__").getD .none) c' j)):=by
   refine⟨λb o e n _ _=>?_,λb o e n _ _=>⟨o.slots,?_⟩,λb o e n _=>?_,λb o e _=>?_,λb xs e=>N _ _ rfl e,λb u i e=>N b u (by cases u<;>first|rfl|cases i) e,λb b1 e=>?_⟩
   .exact gF _ (hx b o (λz=>by rw[z,l]at n;cases n) e)
   .exact gF _ (hx b o (λz=>by rw[z,l]at n;cases n) e)
   .rw[m b (λz=>by rw[z,l]at n;cases n) (hJ (nO (gH e) K))];exact n
   .by_cases z:b=Pt
    .subst z;exact⟨_,gF _ a2⟩
    exact⟨o,gF _ (hx b o z e)⟩
   by_cases z:b=Pt
   .subst z;rw[l]at e;cases e;exact⟨_,p⟩
   exact⟨#[],by rw[m b z (nC b _ e),e];simp⟩
  let a9:kB X.prog X.w (upd (upd H Pt (.tbl (ps++ #[pP f.line,pP f.col,.ref c']))) c' (.ext λh=>h.CodeRec (.ref c') lq)) (h'.push (pi "<lambda>" lq lps g lsc clos ((X.mg "__name__").getD .none) c' j)):=by
   intro b o e;by_cases z:b=c'
   .subst z;rw[gI]at e;cases e;let a0:=Lz (h2:=h'.push (pi "<lambda>" lq lps g lsc clos ((X.mg "__name__").getD .none) b j)) a1 λo q=>gF _ q
    exact⟨a0,Yt a0,λh1 h2 x k=>Lz x k⟩
   by_cases O:b=Pt
   .subst O;rw[p]at e;cases e;exact gF _ a2
   rw[m b O z]at e;refine(I.hok b o e).stay (λd u hd q=>gF _ (hx d u ?_ q)) (λd q=>N _ _ rfl q) λd xs q=>N _ _ rfl q
   rcases hd with hd|hd
   .exact λy=>O (hd.symm.trans y)
   exact λy=>by rw[y,l]at hd;cases hd
  refine h _ c' j _ _ (I.un un a9) v ?_ (lC _ rfl) gI N mr (λt ht=>?_) λF sF nF b u e=>?_
  .rw[m _ (ky (nO P v)) (ky a8)];exact I.hok.fresh v
  .by_cases z:t=(Pt,f,lq)
   .subst z;refine⟨_,p,?_,.inr ⟨c',?_,gI⟩⟩
    .rw[Hx];exact TriplesOk_snoc _ _ _ _ C
    rw[Hx];exact codeAmong_snoc _ C r
   let z1:t.1≠Pt:=λy=>z (dG.ap t ht _ hL y)
   let⟨b0,e2,o2,q2⟩:=ti t ht;refine⟨b0,by rw[m _ z1 (nC _ _ e2)];calc e2,o2,?_⟩;rcases q2 with q2|⟨d,q3,q4⟩
   .exact .inl q2
   exact .inr ⟨d,q3,N _ _ rfl q4⟩
  exact N b u (by
   cases u with
   |tbl ps=>calc dD e (nF b ps)
   |_=>rfl) (sF b u e)
 refine W.kla_makeFunctionHit S I.ok.glob hg B (Z.keeps I.bk) hP C r hb λj h' tk hk v=>?_
 calc h _ c' j H _ (I.kept λb u e=>gF _ (hk b u e)) v (I.hok.fresh v) (lC _ rfl) a5 (λ_ _ _ e=>e) (λ_ n=>n) ti λF sF _=>sF
def Dm(base:cH)(a c:bI):Hp:=λb=>if(base.get? b).isSome=bF\/b=a\/b=c then bL else L (.own 0)
def xX(h base:cH)(a b:bI):cH:=ao h (Dm base a b)
def Dn{o:cY}(e:h.get? b=L o)(k:(base.get? b).isSome=bF\/b=a\/b=cc):(xX h base a cc).get? b=L o:=
 Jy e (by delta Dm;rw[cK k])
def LA{o:cY}(e:(xX h base a cc).get? b=L o):h.get? b=L o/\((base.get? b).isSome=bF\/b=a\/b=cc):=by
 let⟨d,c⟩:=Jz e;refine⟨d,?_⟩;delta Dm at c;split at c
 .rename_i k;exact k
 cases c
def Yv(c:base.get? b=none)(h2:b≠a)(d:b≠cc):(xX h base a cc).get? b=none:=by
 cases e:(xX h base a cc).get? b with
 |none=>rfl|some o=>
  rcases(LA e).2 with k|k|k
  .rw[c]at k;cases k
  .exact dD k h2
  calc dD k d
theorem LB{a:bI}:∀{l},h.FunFrames base l->(∀b∈kC l,b≠a/\b≠cc)->h.FunFrames (xX h base a cc) l| [],_,_=>trivial|env::rest,⟨d,⟨c,o,e,g,i,j⟩,p⟩,k=>by let f:c∈kC (env::rest):=vx.mpr ⟨env,fF,e⟩;refine⟨d,⟨c,o,e,Yv g (k c f).1 (k c f).2,i,j⟩,LB p λb q=>k b ?_⟩;let⟨m,d,n⟩:=vx.mp q;calc vx.mpr ⟨m,fM _ d,n⟩
def Yw{C:cY}{u:bR bK}(l:bS X pe Y H0 s0)(I:bS X pe Y H s)(f:s0⁻¹<=a)(F:s.heap.get? a=L C)(x:H a=bL)(j:X.env.cells.lookup y=L cc)(v:X.fn y=bF)(r:s.heap.IsCell cc u):
 eC X.prog X.w X.K X.mg (xX s.heap X.base a cc) X.A X.stack s H:=by
 let d:∀b o,X.base.get? b=L o->(xX s.heap X.base a cc).get? b=L o:=λb o e=>Dn (I.bk b o e) (.inl (by rw[e];rfl))
 let q:Mod X.K X.mg (xX s.heap X.base a cc):=⟨I.mod.kin.keeps d,I.mod.glob.keeps d,let ⟨mb,h1,h2⟩:=I.mod.blt;⟨mb,h1.keeps d,h2⟩,I.mod.nolimit.keeps d⟩;refine⟨I.ok.frames,q,λb o e=>?_,by delta xX;rw[Jx];calc cU _,LB I.stack λb i=>⟨?_,?_⟩,I.stkFree,I.hok,I.bare⟩
 .let⟨p,k⟩:=LA e;refine⟨p,?_⟩;rcases k with k|k|k
  .let⟨B,n⟩:=AX.mp k;exact(I.bs b B n).2
  .rw[k];exact x
  rw[k];exact I.freeC y cc j
 .let⟨_,o,g,_⟩:=l.stack.mem i;exact hJ (nO (gH g) f)
 rcases jJ.mp (I.stkSub b i)with z|z
 .intro E;let⟨m,⟨o,M,ep,e,t,_⟩,_⟩:=I.loc;let⟨oc,h,c⟩:=r;rw[<-E,z,e]at h;cases h;rw[t]at c;cases c
 let⟨_,o,g,_⟩:=I.ok.funs.mem z;calc hJ (nO (gH g) (I.ok.cab y cc v j))
noncomputable def yu(j:bD)(O:cQ):bP bH:=match O[j]? with|some (.val (.int i))=>.ok i|_=>.bad
noncomputable def Do:D->bP D| .b b=>.ok (.b b)|_=>.bad
def m9(c d:ME)(j:bD)(M:bH->J D->bP D):ME:=λO=>(c O).bind λa=>(d O).bind λb=>(yu j O).bind λi=>(M i [a,b]).bind Do
theorem LC{f:bI}{px:U}{M:(J D->bP D)->J D->bP D}(b3:∀(C:cH) (v:V) (cl:J (bI×HO)) (m:J D->bP D),bw X.prog X.w X.K X.mg C (n+1) v cl m->fC X.prog X.w X.K X.mg C fS kr f fd ps (aA X.K v cl (M m)))(hr:fZ kr X.A)(hg:Gl X x)(hm:X.mg x=L (.ref f))(hk:lE X.K (.ref f)=bF)(hb:jO X.K fd ps [])(c4:(x==("__debug__" :U))=bJ)(hn:dC [e1,e2,.Lambda lps B lsc a0]=bF)(c5:IE X e1 f1)(c6:IE X e2 f2)(hN:X.N[j]? =L y)(a7:X<<<y=L .cell)(c7:X.fn y=bF)(hL:(Pt,a0,lq)∈dG.L)(a6:X.env.code= .ref c)(d0:X.K.In X.base->BS X.base c Pt)(hq:X.env.qual++ "<lambda>" =lq)(c0:X.K.In X.base->X.base.BuiltinsAt X.mg Pt)(b1:defaultsOf lps X.env=([],[]))(a5:∀cells:J (U×bI),pV lsc.names cells []= [(y,(cells.lookup y).getD 0)])(c8:∀z∈lsc.names,z.2= .free->z.1=y)(S:rh px y lsc)(b9:∀(G:J (U×bI)) (pm cd ct:bK) (us:J bK),~~~us=1->BR (W.kla_fn "<lambda>" lq lps B lsc G pm cd ct) ⟨us,[]⟩=dX ([px].zip us))(a4:∀(_:Pd) (C:cH) (a:bI) (cd:bK) (G:J (U×bI)) (A:gW) (outer:J jK) (s:bT) (H:Hp),fZ n (A.deeper (p0 lq lsc s⁻¹ a cd G))->IE (yt X.prog X.w X.K X.mg C [px,y] lq lsc a cd G A outer s H) B g):
 IE X (.Call (.Name x p) [e1,e2,.Lambda lps B lsc a0] [] pos) (m9 f1 f2 j λi=>M (vP i g)):=by
 rintro pe s Y H Q I ⟨O,F,E,q⟩;delta m9 at q;cases h1:f1 O with
 |bad=>rw[h1]at q;cases q|ok d1=>
 cases h2:f2 O with
 |bad=>rw[h1]at q;dsimp[bP.bind,h2]at q;cases q|ok d2=>
 cases h3:yu j O with
 |bad=>rw[h1]at q;dsimp[bP.bind,h2,h3]at q;cases q|ok i=>
 let q0:gE (bM X.K) F H ((M (vP i g) [d1,d2]).bind Do) Q:=by rw[h1]at q;dsimp[bP.bind,h2,h3]at q;exact q
 let⟨bb,a9⟩:∃bb,M (vP i g) [d1,d2]= .ok (.b bb):=by
  cases h4:M (vP i g) [d1,d2]with
  |bad=>rw[h4]at q0;cases q0|ok d=>
   cases d with
   |b bb=>calc⟨bb,rfl⟩|_=>rw[h4]at q0;cases q0
 let q1:gE (bM X.K) F H (.ok (.b bb)) Q:=by rw[a9]at q0;exact q0
 let hs:fV e1=bJ/\fV e2=bJ:=by dsimp[dC,lA,gD]at hn;exact⟨by simpa using hn.1,by simpa using hn.2.1⟩
 let d7:O[j]? =L (.val (.int i)):=by
  delta yu at h3;split at h3
  .rename_i k d3;cases h3;exact d3
  cases h3
 refine gf (ey I hg hm ?_ c4);refine o6 (h₀:=X.base) I.ok.mod.kin hk ?_ (fA hs.1) (kX (by dsimp[dC,lA,gD]at hn|-;calc hn.2));rw[fA hs.1,fA hs.2,fA (e:=.Lambda lps B lsc a0) rfl];refine ge (dA (c5 pe s Y H (λv1 H1=>∃F1,cP F H F1 H1/\bM X.K F1 d1 v1) I ⟨O,F,E,by rw[h1];calc λb F' T g r=>⟨F',g,r⟩⟩) λu1 s1 ⟨v1,H1,I1,r1,F1,g1,b7⟩=>?_);refine ge (dA (c6 pe s1 Y H1 (λv2 H2=>∃F2,cP F1 H1 F2 H2/\bM X.K F2 d2 v2) I1 ⟨O,F1,E.grow g1,by rw[h2];calc λb F' T g r=>⟨F',g,r⟩⟩) λu2 s2 ⟨v2,H2,I2,r2,F2,g2,b8⟩=>?_);let E2:=(E.grow g1).grow g2;let⟨o,eσ,vj,rfl,dj⟩:=E2.at_ j _ d7;dsimp at dj;subst dj;let⟨m2,e5,d4⟩:=I2.loc;let⟨uj,⟨tj,rfl⟩,lk⟩:=d4 j y _ hN eσ (.inr (.inl a7));let b2:X.env.kindOf y=L .cell:=a7;let⟨cc,a2,c2⟩:∃cc,X.env.cells.lookup y=L cc/\s2.heap.IsCell cc (L (.int i tj)):=by
  rcases lk with⟨z,_⟩|⟨_,cc,h1,h2⟩
  .rw[b2]at z;cases z
  exact⟨cc,h1,h2⟩
 let c3:wh lsc X.env=dX [(y,cc)]:=by rw[K5 λz hz d6=>⟨cc,by rw[c8 z hz d6];calc a2⟩,a5,a2];rfl
 refine ge (Yu I2 E2.tb.1 hL a6 (d0 I.ok.mod.kin) hq (c0 I.ok.mod.kin) b1 c3 λa c' b6 H3 s3 I3 c9 ha a3 b0 sx mr e4 sF=>?_);refine v4 ⟨I3.kIn,?_⟩;let⟨tk,Z⟩:∃tk,s3.heap.IsCell cc (L (.int i tk)):=by
  let⟨_,e6,d5⟩:=I3.loc;let⟨uk,⟨tk,rfl⟩,d9⟩:=d5 j y _ hN eσ (.inr (.inl a7));rcases d9 with⟨z,_⟩|⟨_,e7,z1,z2⟩
  .rw[b2]at z;cases z
  rw[a2]at z1;cases z1;exact⟨tk,z2⟩
 let e0:=Yw I2 I3 c9 a3 ha a2 c7 Z;let a8:(xX s3.heap X.base a cc).get? a=L (pi "<lambda>" lq lps B lsc [(y,cc)] ((X.mg "__name__").getD .none) c' b6):=Dn a3 (.inr (.inl rfl));let c1:(xX s3.heap X.base a cc).IsCell cc (L (.int i tk)):=let ⟨oc,e,d⟩:=Z;⟨oc,Dn e (.inr (.inr rfl)),d⟩;let d8:=Ys (n:=n) (P:=X.prog) (w:=X.w) (K:=X.K) (mg:=X.mg) a8 c1 S λpd A outer s H hr=>a4 pd _ a (.ref c') [(y,cc)] A outer s H hr
 let b5:bw X.prog X.w X.K X.mg (xX s3.heap X.base a cc) (n+1) (.ref a) (rg c' lq) (vP i g):=⟨⟨a,_,[px],rfl,.inl ⟨_,_,a8,rfl⟩,d8,jO.all λus hl=>b9 _ _ _ _ us hl⟩⟩;let FN:=b3 _ (.ref a) (rg c' lq) (vP i g) b5;let b4:=sF F2 E2.sub E2.tb.2;let a1:bX F2 (upd F2 c' (.ext λh=>h.CodeRec (.ref c') lq)):=λb u e=>by
  by_cases z:b=c'
  .subst z;have:=b4 _ _ e;rw[b0]at this;rw[gI];exact this
  rw[fK z];exact e
 let e3:bX (upd F2 c' (.ext λh=>h.CodeRec (.ref c') lq)) H3:=λb u e=>by
  by_cases z:b=c'
  .subst z;rw[gI]at e;cases e;exact b0
  rw[fK z]at e;exact b4 b u e
 let t3:pC (upd F2 c' (.ext λh=>h.CodeRec (.ref c') lq)) H3:=⟨e4,E2.tb.2.upd c' rfl⟩;let dl:DatL X.K (upd F2 c' (.ext λh=>h.CodeRec (.ref c') lq)) [d1,d2] [v1,v2]:=DatL.cons ((b7.mono g2.fs).mono a1) (DatL.cons (b8.mono a1) DatL.nil);let sp:aA X.K (.ref a) (rg c' lq) (M (vP i g)) [v1,v2,.ref a] H3 (λv T=>∃F4,cP (upd F2 c' (.ext λh=>h.CodeRec (.ref c') lq)) H3 F4 T/\bM X.K F4 (.b bb) v) E0:=by
  refine⟨_,[d1,d2],[v1,v2],rfl,t3,e3,λp hp=>?_,dl,?_⟩
  .obtain rfl:p=(c',.ext λh=>h.CodeRec (.ref c') lq):=by simpa using hp
   exact gI
  rw[a9];exact λv F' T g r=>⟨F',g,r⟩
 let r3:dR [v1,v2,.ref a] [u1,u2,.ref a]:=.cons r1 (.cons r2 (.cons rfl .nil));let hl: ~~~([u1,u2,.ref a]++([]:J bK))= ~~~ps:=FN.len _ _ _ _ sp;refine k8 (aY (FN.run X.A X.stack s3 H3 ⟨[u1,u2,.ref a],[]⟩ [u1,u2,.ref a] [v1,v2,.ref a] _ E0 hr e0 (hb s3 [u1,u2,.ref a] I3.kIn hl) r3 sp) λr s' hq=>?_);cases r with
 |error e=>calc rY pe Y H3 s3 e s' I3 hq|ok fl=>
  cases fl with
  |next=>calc qP hq|brk=>calc qP hq|cont=>calc qP hq|ret u=>let⟨v,T,l,rv,F4,g4,dv⟩:=I3.after hq;dsimp at dv;subst dv;refine⟨_,T,l,rv,q1 _ F2 T ((g1.trans g2).trans ⟨λb u n e=>g4.same b u n (sx b u n e),λb n=>g4.more b (mr b n),λt=>⟨(g4.tk t3).1,t.2⟩,bX.refl _,a1.trans (g4.fs.trans g4.sub),λ_ h _=>h⟩) (by dsimp)⟩
structure yv(K:cG)(mg:U->bR bK)(fd:fO)(lpos:cW)(lq:U):Prop where
 ex:∃c Pt,fd.code= .ref c/\(Pt,lpos,lq)∈dG.L/\ ∀base:cH,K.In base->BS base c Pt/\base.BuiltinsAt mg Pt
noncomputable def iT(m:J D->bP D):J D->bP D| []=>.ok (.b bF)|x::r=>(m [x]).bind λd=>(yV d).bind λb=>if b=bF then iT m r else .ok (.b bJ)
end
section
instance (priority:=low) pdI:Pd:=bl
variable [dG] [Pd]
noncomputable def sZ(b:bI):bW:=dG.L.any λt=>t.1==b
def Yx{t:bI×cW×U}(h:t∈dG.L):sZ t.1=bF:=wS.mpr ⟨t,h,sL _⟩
def Yy(h:sZ b=bF):∃t∈dG.L,t.1=b:=by let⟨t,a,c⟩:=wS.mp h;calc⟨t,a,kI c⟩
def Yz{fa:bI}{vs:J bK}(KX:K.In s₁.heap)(X:s₁.heap.Ns kH mg)(C:s₁.heap.Ns zV mb)(a3:∀x:U,x≠ "__name__" ->mb x=sO x)(W:s₁.heap.NoLimit)(hg:s₁.gens= #[])(hT:∀t∈dG.L,(∃c,s₁.heap.TableAt c t.1 #[])/\K.lookup t.1=none)(Q:s₁.heap.get? a=some {cls:=.type "list",data:=.seq vs.toArray})(hi:w5 vs ns)(hl: ~~~ns<=63)(hr:fZ k lx)(F:∀base:cH,K.In base->base.Ns kH mg->fC P w K mg base fS k fa fd [x] (yo K))(E:∀(s:bT) (u:bK),pv s fd ⟨[u],[]⟩ [(x,u)]):
 codeAny (bY P w) lx (.call (.ref fa) ⟨[.ref a],[]⟩) (λr s'=>r= .ok (.ret (.bool true))/\OldK s₁.heap s'.heap/\s'.os=s₁.os/\af s'.gens) s₁:=by
 let rv:=Km hi;let a0:=hi.length;let S: ~~~ns<=cR:=o5 (CF bZ);let i:∀b,sZ b=true->s₁.heap.get? b=some (en #[])/\K.lookup b=none/\ ∃c,s₁.heap.TableAt c b #[]:=λb h=>by let⟨t,h1,rfl⟩:=Yy h;let⟨⟨c,h2⟩,h3⟩:=hT t h1;exact⟨h2.2,h3,c,h2⟩
 let p:∀Fa:Hp,(∀b,Fa b=none\/(b=a/\K.lookup a=none/\Fa b=some (.frz {cls:=.type "list",data:=.seq vs.toArray} (.l (ns.map V.int)))))->jA K Fa a (ns.map V.int)->
  codeAny (bY P w) lx (.call (.ref fa) ⟨[.ref a],[]⟩) (λr s'=>r= .ok (.ret (.bool true))/\OldK s₁.heap s'.heap/\s'.os=s₁.os/\af s'.gens) s₁:=by
  intro Fa hF hS;let a4:sZ a=false:=by
   cases z:sZ a with
   |false=>rfl|true=>have:=(i a z).1;rw[Q]at this;cases this
  let' H:Hp:=λb=>if sZ b=true then some (.tbl #[])else Fa b
  let HT:∀b,sZ b=true->H b=some (.tbl #[]):=λb h=>cK h
  let HF:∀b,sZ b=false->H b=Fa b:=λb h=>cX (by rw[h];calc wQ)
  let Z:bX Fa H:=λb u e=>by
   rcases hF b with z|⟨z,_,z2⟩
   .rw[z]at e;cases e
   subst z;rw[HF _ a4];exact e
  let g:∀b u,H b=some u->(sZ b=true/\u= .tbl #[])\/(b=a/\K.lookup a=none/\sZ b=false/\u= .frz {cls:=.type "list",data:=.seq vs.toArray} (.l (ns.map V.int))):=λb u e=>by
   cases z:sZ b with
   |true=>rw[HT b z]at e;cases e;calc .inl ⟨rfl,rfl⟩|false=>
    rw[HF b z]at e;rcases hF b with y|⟨y1,y2,y3⟩
    .rw[y]at e;cases e
    rw[y3]at e;cases e;exact .inr ⟨y1,y2,rfl,rfl⟩
  let Y:kB P w H s₁.heap:=λb u e=>by
   rcases g b u e with⟨z,rfl⟩|⟨rfl,_,_,rfl⟩
   .exact(i b z).1
   exact⟨Q,by rw[cA];calc S,vs,_,rv,Q⟩
  let a6:pC Fa H:=by
   refine⟨λt ht=>⟨#[],HT _ (Yx ht),trivial,.inl rfl⟩,λb ps e=>?_⟩;rcases hF b with z|⟨_,_,z⟩
   .rw[z]at e;cases e
   rw[z]at e;cases e
  let base_of:∀{b:bI} {o:cY},s₁.heap.get? b=some o->H b=none->(ao s₁.heap H).get? b=some o:=λe n=>Jy e n
  let a5:∀{b:bI} {o:cY} {M:dE rR} {ep:bD},s₁.heap.get? b=some o->o.data= .dict M ep->H b=none:=λ{b o M ep} e d=>by
   cases q:H b with
   |none=>rfl|some u=>
    rcases g b u q with⟨z,_⟩|⟨z,_,_,_⟩
    .rw[(i b z).1]at e;cases e;cases d
    subst z;rw[Q]at e;cases e;cases d
  let j:∀{b:bI} {m:U->bR bK},s₁.heap.Ns b m->(ao s₁.heap H).Ns b m:=λ{b m} ⟨o,M,ep,e,d,r⟩=>⟨o,M,ep,base_of e (a5 e d),d,r⟩
  let O:K.In (ao s₁.heap H):=λb o e=>base_of (KX b o e) (by
   cases q:H b with
   |none=>rfl|some u=>
    rcases g b u q with⟨z,_⟩|⟨z,z2,_,_⟩
    .rw[(i b z).2.1]at e;cases e
    subst z;rw[z2]at e;cases e)
  let hM:Mod K mg (ao s₁.heap H):=⟨O,j X,⟨mb,j C,a3⟩,let ⟨mc,h1,h2⟩:=W;⟨mc,j h1,h2⟩⟩;let e0:eC P w K mg (ao s₁.heap H) lx [] s₁ H:=⟨rfl,hM,λb o e=>Jz e,Io (Jx _ _),trivial,λb C=>dD (show b∈([]:J bI)from C) cS,Y,.of_eq hg⟩;refine aY ((F _ O (j X)).run lx [] s₁ H ⟨[.ref a],[]⟩ [.ref a] [.ref a] (λv _=>v= .b true) (λ_ _ _=>hI) hr e0 (E s₁ (.ref a)) (.cons rfl .nil) ⟨a,ns,Fa,rfl,a6,Z,hS,hl,λ_=>rfl⟩) λr s' h=>?_
  cases r with
  |error e=>calc(show hI from h).elim|ok fl=>
   cases fl with
   |next=>calc qP h|brk=>calc qP h|cont=>calc qP h|ret u=>
    let⟨v,T,os,G,un,A,r',q⟩:=h;let q':v= .b true:=q;subst q';obtain rfl:u=IJ true:=r';let a1:∀b:bI,b∉kC []:=λb z=>dD (show b∈([]:J bI)from z) cS
    let B:∀b,sZ b=true->∃f,s'.heap.get? b=some (en (#[]++f)):=λb z=>by let⟨f,e⟩:=un.tbls b _ (HT b z);exact⟨f,A b _ e⟩
    let a2:∀b o,s₁.heap.get? b=some o->sZ b=false->s'.heap.get? b=some o:=λb o e z=>by
     cases q:H b with
     |none=>calc un.keep b o e q (a1 b) cS|some u=>
      rcases g b u q with⟨z2,_⟩|⟨_,_,_,rfl⟩
      .rw[z]at z2;cases z2
      let⟨I,_⟩:=Y b _ q;let⟨N,_⟩:=A b _ (un.frzs b _ rfl q);rw[e]at I;cases I;exact N
    refine⟨rfl,⟨λb o e=>?_,λb o e=>?_⟩,os,G⟩
    .cases z:sZ b with|false=>calc .inl (a2 b o e z)|true=>let⟨f,N⟩:=B b z;let I:=(i b z).1;rw[e]at I;cases I;let⟨c,tc⟩:=(i b z).2.2;exact .inr (.inl ⟨tc.isCodeTable,rfl, #[],f,rfl,N⟩)
    cases z:sZ b with|false=>calc⟨o,a2 b o e z⟩|true=>let⟨f,N⟩:=B b z;exact⟨_,N⟩
 cases hk:K.lookup a with
 |some o=>let e:=KX a o hk;rw[Q]at e;cases e;calc p (λ_=>none) (λ_=>.inl rfl) (.inr ⟨_,vs.toArray,_,hk,rfl,rfl,rfl,by rw[hY,a0];calc S,by simpa using rv⟩)|none=>
  refine p (λb=>if b=a then some (.frz {cls:=.type "list",data:=.seq vs.toArray} (.l (ns.map V.int)))else none) (λb=>?_) (.inl (.inr ⟨{cls:=.type "list",data:=.seq vs.toArray},cK rfl⟩));by_cases C:b=a
  .exact .inr ⟨C,hk,cK C⟩
  calc .inl (cX C)
end
noncomputable def aB(Ps:J bI)(b:bI):bW:=Ps.any λP=>P==b
def qR(K:cG)(Ps:J bI)(bm:bI)(ob:cY):cG:=(bm,ob)::K.filter λp=> !aB Ps p.1
theorem yw{Ps:J bI}{b:bI}(c:aB Ps b=bJ):∀K:cG,(K.filter λp=> !aB Ps p.1).lookup b=K.lookup b
 | []=>rfl| (a,o)::r=>by
  rw[rC];by_cases z:b=a
  .subst z;dsimp[c,Bool.not_false,rS,lJ,sL]
  let e:(b==a)=bJ:=lT.mpr z;split
  .rw[lJ,lJ,e,yw c r]
  rw[lJ,e,yw c r]
theorem yx{Ps:J bI}{b:bI}(c:aB Ps b=bF):∀K:cG,(K.filter λp=> !aB Ps p.1).lookup b=bL
 | []=>rfl| (a,o)::r=>by
  rw[rC];split
  .rename_i h;let z:(b==a)=bJ:=by
    refine lT.mpr λe=>?_
    subst e;rw[c]at h;cases h
   rw[lJ,z];exact yx c r
  calc yx c r
section
variable{Ps:J bI}{bm:bI}{ob:cY}
structure pF(K:cG)(Ps:J bI)(bm:bI)(ob:cY)(h:cH):Prop where
 hk:K.In h
 hb:h.get? bm=L ob
 hp:ob.data= .plain
 ht:∀P∈Ps,h.get? P=L (en #[])
def YA(h:aB Ps b=bF):b∈Ps:=by let⟨P,a,c⟩:=wS.mp h;rw[<-kI c];calc a
def YB(h:b∈Ps):aB Ps b=bF:=wS.mpr ⟨b,h,sL _⟩
def pF.ne(a:pF K Ps bm ob h){P:bI}(d:P∈Ps):bm≠P:=λz=>by let e:=a.ht P d;rw[<-z,a.hb]at e;let c:ob=en #[]:=kE e;let b:=a.hp;rw[c]at b;cases b
def pF.isIn(b:pF K Ps bm ob h):(qR K Ps bm ob).In h:=λa o e=>by
 delta qR at e;rw[lJ]at e;split at e
 .rename_i z;rw[kI z,b.hb];exact e
 cases q:aB Ps a with|true=>rw[yx q]at e;cases e|false=>rw[yw q]at e;calc b.hk _ _ e
def pF.no(a:pF K Ps bm ob h){P:bI}(b:P∈Ps):(qR K Ps bm ob).lookup P=bL:=by delta qR;rw[lJ,lT.mpr (a.ne b).symm];calc yx (YB b) K
def pF.at'(a:pF K Ps bm ob h):(qR K Ps bm ob).lookup bm=L ob:=by delta qR;rw[lJ,sL]
def pF.up(a:pF K Ps bm ob h){o:cY}(e:K.lookup b=L o)(n:o.data≠ .fields #[]):(qR K Ps bm ob).lookup b=L o:=by
 let f:aB Ps b=false:=by
  cases z:aB Ps b with
  |false=>rfl|true=>let d:=a.hk _ _ e;rw[a.ht b (YA z)]at d;cases d;exact dD bQ n
 delta qR;rw[lJ];split
 .rename_i z;let c:b=bm:=kI z;subst c;rw[<-a.hb,a.hk _ _ e]
 rw[yw f];calc e
def pF.code(a:pF K Ps bm ob h)(e:zZ K d q=bF):zZ (qR K Ps bm ob) d q=bF:=by
 delta zZ at e|-;split at e
 .rename_i c;split at e
  .rename_i vs _ g;let b:vs≠ #[]:=λz=>by subst z;cases e
   let f:=a.up g (λz=>b (by injection z));dsimp[f];exact e
  cases e
 cases e
theorem pF.fn(a:pF K Ps bm ob h){st:fQ}{f:bI}(F:jB K x qual st f fd):jB (qR K Ps bm ob) x qual st f fd:=by let⟨oc,od,kV,c,l,an,b,g,d,i,j,k⟩:=F.ex;let e:=a.up j (λz=>by cases z);refine⟨⟨oc,od,kV,c,l,an,b,g,d,i,e,a.code k⟩,?_⟩;delta lE;dsimp[e]
def pF.hd(a:pF K Ps bm ob h){P:bI}{oc:bK}{vs:dE bK}{o:nA}{e:bH}{p:nA}(q:P∈Ps)(m:K.lookup c=L ⟨.type "code",od,.fields vs,sl⟩)(f:vs[11]? =L (.ref P))(k:vs.getD 18 .none= .str d n)(s:vs.getD 7 .none= .int b o)(t:vs.getD 9 .none= .bool g)(j:vs.getD 10 .none= .int e p)(r:(qR K Ps bm ob).In base):BS base c P:=by
 let i:vs≠ #[]:=λz=>by subst z;cases f
 refine⟨_,vs,d,n,b,o,g,e,p,r _ _ (a.up m λz=>i (by injection z)),rfl,rfl,f,?_,k,s,t,j,λz=>?_⟩
 .rw[vi,f];rfl
 subst z;let l:=a.hk _ _ m;rw[a.ht _ q]at l;cases l
end
def walk_ofU{l:wv}{q:fH}{i:J U}{K:eu->cG}{ts:J bI}(O:l.most=L 63)(r:d.params.defaults= [])(Q:fZ k lx)(H:∀(w:cD) (h:cH),YP w h->(K w.params).In h)(I:∀(w:cD) (h:cH),YP w h->∀P∈ts,h.get? P=L (en #[]))(F:∀(w:cD) (mg:U->bR bK) (p:bI) (h:cH),(K w.params).In h->h.Ns kH mg->mg d.name=L (.ref p)->(∀P∈ts,h.get? P=L (en #[]))->
   (∃bm ob,mg "__builtins__" =L (.ref bm)/\bm≠zV/\h.get? bm=L ob/\ob.cls= .type "module" /\ob.dict=L zV/\ob.data= .plain)->
   ∃(T:dG) (j:cG) (fd:fO),j.In h/\(∀t∈T.L,(∃c,h.TableAt c t.1 #[])/\j.lookup t.1=bL)/\(∀(s:bT) (u:bK),pv s fd ⟨[u],[]⟩ [(x,u)])/\
    ∀base:cH,j.In base->base.Ns kH mg->fC l.prog w j mg base fS k p fd [x] (yo j)):
 W.WalkO q i XP YP l.row.toRowW d [] (λf vs=>S7 f vs):=by
 refine Att.attach_call O r λw s₀ s₁ mg Z p o pm S z a vs ns G y Y X M v n e m N=>?_
 let⟨T,j,fd,A,B,C,E⟩:=F w mg p _ (H w _ y) G.T.g v (I w _ y) G.T.bmain;calc Yz A G.T.g G.T.b G.T.builtins G.T.nolimit N B n e m Q E C
section
variable [dG] [Pd]
noncomputable def yY(w:cD)(K:cG):J rR->J (U×D)->Prop| [],[]=>bf|e::M,(x,d)::r=>e.hash=wz w x/\(∃t,e.key= .str x t)/\(∃v,dM v e.val/\ ∀F,bM K F d v)/\yY w K M r|_,_=>hI
structure iU(w:cD)(K:cG)(mg:U->bR bK)(x:U)(tbl:J (U×D)):Prop where
 ex:∃p es ep,mg x=L (.ref p)/\(p==vC)=bJ/\K.lookup p=L ⟨.type "dict",bL,.dict es ep, #[]⟩/\yY w K es.toList tbl
theorem LD:∀{M b},yY w K M b->∀e∈M,∃k,(kA P w).is k e.key=bF/\e.hash=(kA P w).hash k
 | [],_,_,e,h=>by cases h|e::M,[],h,_,_=>h.elim|e::M,(x,d)::r,⟨f,⟨t,g⟩,_,i⟩,c,a=>by
  rcases jJ.mp a with rfl|a
  .exact⟨.inr x,by rw[g];calc iB P w x t,f⟩
  calc LD i c a
theorem Dq(z):∀{M a},yY w K M a->
 (a.lookup z=bL/\(M.find? λe=>(kA P w).is (.inr z) e.key).map (·.val)=bL)\/ ∃d v u,a.lookup z=L d/\(M.find? λe=>(kA P w).is (.inr z) e.key).map (·.val)=L u/\dM v u/\ ∀F,bM K F d v
 | [],[],_=>.inl ⟨rfl,rfl⟩| [],_::_,h=>h.elim|e::M,[],h=>h.elim|e::M,(x,d)::r,⟨m,⟨t,f⟩,⟨v,j,b⟩,l⟩=>by
  by_cases c:z=x
  .subst c;refine .inr ⟨d,v,e.val,by rw[lJ,sL],?_,j,b⟩;rw[zR,f,iB];rfl
  let g:(z==x)=bJ:=lT.mpr c;let i:(kA P w).is (.inr z) e.key=bJ:=by
   rw[f];have:=Q9 (knd:=kA P w) (k:=.inr x) (v:=.str x t) (iB P w x t) (.inr z);rw[this];exact jI λq=>c (by injection q)
  rw[lJ,g,zR,i];calc Dq z l
noncomputable def bx(a:J (U×D))(neg:bW):D->bP D| .str z=>.ok (.b ((a.lookup z).isSome != neg))|_=>.bad
noncomputable def aD(a:J (U×D)):D->bP D
 | .str z=>match a.lookup z with
  |some d=>.ok d|none=>.bad
 |_=>.bad
def Dr{q:bI}{M:dE rR}(I:bS X pe Y H s)(b:X.K.lookup q=L ⟨.type "dict",bL,.dict M ep, #[]⟩)(he:yY X.w X.K M.toList tbl):
 s.heap.MapOf (kA X.prog X.w) q (λk=>B7 (kA X.prog X.w).is M k):=
 ⟨_,M,ep,I.kIn _ _ b,⟨rfl,rfl,rfl⟩,rfl,λe a=>LD he e (by simpa using a),λ_=>rfl⟩
def rl(K:cG)(w:cD)(a:J (U×D))(neg:bW):R2:=λx y H Q=>∃z p M ep,x= .str z/\y= .ref p/\(p==vC)=bJ/\K.lookup p=L ⟨.type "dict",bL,.dict M ep, #[]⟩/\yY w K M.toList a/\Q (.b ((a.lookup z).isSome != neg)) H
def LF{M:dE rR}(he:yY w K M.toList tbl)(z):(B7 (kA P w).is M (.inr z)).isSome=(tbl.lookup z).isSome:=by
 rcases Dq (P:=P) z he with⟨a,b⟩|⟨d,v,u,a,b,_⟩
 .rw[a];show((M.find? _).map _).isSome=_;rw[<-A7,b];rfl
 rw[a];show((M.find? _).map _).isSome=_;rw[<-A7,b];rfl
def LG:fU X (jH .In) (rl X.K X.w tbl bJ):=by intro pe s Y H x y v u Q I d e h;let⟨z,p,M,ep,rfl,rfl,hs,c,a,q⟩:=h;let⟨t,rfl⟩:=d;cases(show u=lD p from e);refine wpAny_in_of (knd:=kA X.prog X.w) (k:=.inr z) (iB _ _ z t) hs (Dr I c a) ?_;rw[LF a];rw[Bool.bne_false]at q;calc⟨.b _,H,I.tok _,rfl,q⟩
def LH:fU X (jH .NotIn) (rl X.K X.w tbl bF):=by intro pe s Y H x y v u Q I d e h;let⟨z,p,M,ep,rfl,rfl,hs,c,a,q⟩:=h;let⟨t,rfl⟩:=d;cases(show u=lD p from e);refine R9 (knd:=kA X.prog X.w) (k:=.inr z) (iB _ _ z t) hs (Dr I c a) ?_;rw[LF a];rw[Bool.bne_true]at q;calc⟨.b _,H,I.tok _,rfl,q⟩
def LI(K:cG)(w:cD)(a:J (U×D)):R2:=λx y H Q=>∃z p M ep,x= .ref p/\y= .str z/\K.lookup p=L ⟨.type "dict",bL,.dict M ep, #[]⟩/\yY w K M.toList a/\ ∃d,a.lookup z=L d/\ ∀v,(∀F,bM K F d v)->Q v H
def YC:iH X (LI X.K X.w tbl):=by
 intro value b pe s Y H x y v u Q I A B h hs;let⟨z,p,M,ep,rfl,rfl,o,f,d,e,q⟩:=h;cases(show v=lD p from A);let⟨t,rfl⟩:=B;let g:=Dr I o f;rcases Dq (P:=X.prog) z f with⟨a,_⟩|⟨C,i,c,a,j,l,m⟩
 .rw[e]at a;cases a
 rw[e]at a;cases a;let n:(λk=>B7 (kA X.prog X.w).is M k) (.inr z)=L c:=by
  show(M.find? _).map _=_;rw[<-A7,j]
 calc Ho (x:=c) g.typeIs slot_dict_getitem.lookup (RI (Q:=λr s'=>r=c/\EP X pe Y Q r s') (iB _ _ z t) g n ⟨rfl,i,H,I.tok _,l,q i m⟩) hs
def Ds{r:V->Hp->VK->Prop}{m:D->bP D}(g:qt X r m){Q:VK}(q:tD X (m1 m f) Y H Q):tD X f Y H λv a=>r v a Q:=by let⟨O,F,E,q⟩:=q;calc⟨O,F,E,jV q λd v b a e c q=>g b a d v Q e.sub c q⟩
def LJ{p:bI}{M:dE rR}(hs:(p==vC)=bJ)(a:X.K.lookup p=L ⟨.type "dict",bL,.dict M ep, #[]⟩)(he:yY X.w X.K M.toList tbl):qt X (λx H Q=>rl X.K X.w tbl neg x (.ref p) H Q) (bx tbl neg):=λF H d v Q s h q=>by
 cases d with
 |str z=>dsimp at h;calc⟨z,p,M,ep,h.1,rfl,hs,a,he,dY q s (by dsimp)⟩|_=>calc q.elim
def YD{p:bI}{M:dE rR}(b:X.K.lookup p=some ⟨.type "dict",none,.dict M ep, #[]⟩)(he:yY X.w X.K M.toList tbl):qt X (λy H Q=>LI X.K X.w tbl (.ref p) y H Q) (aD tbl):=λF H d v Q s h q=>by
 cases d with
 |str z=>
  dsimp at h;delta aD at q;cases a:tbl.lookup z with
  |none=>dsimp[a]at q;cases q|some d=>dsimp[a]at q;calc⟨z,p,M,ep,rfl,h.1,b,he,d,a,λe c=>dY q s (c F)⟩
 |_=>calc q.elim
def YE(b:(op= .In/\neg=bJ)\/(op= .NotIn/\neg=bF))(C:iU X.w X.K X.mg x tbl)(j:X<<<x=L .globalImplicit)(i:(x==("__debug__" :U))=bJ)(k:wT op (.Name x p)=bJ)(h:IE X a f):
 IE X (.Compare a [op] [.Name x p] pos) (m1 (bx tbl neg) f):=by
 let⟨q,M,ep,c,d,e,g⟩:=C.ex;let l:fU X (jH op) (rl X.K X.w tbl neg):=by
  rcases b with⟨rfl,rfl⟩|⟨rfl,rfl⟩
  .exact LG
  exact LH
 calc gU (JQ l h (qc (v:=.ref q) j c rfl i) k) λY H Q z=>Ds (LJ d e g) z
def YF(b:(op= .In/\neg=bJ)\/(op= .NotIn/\neg=bF))(C:iU X.w X.K X.mg x tbl)(j:X<<<x=L .globalImplicit)(i:(x==("__debug__" :U))=bJ)(k:wT op (.Name x p)=bJ)(h:IE X a f):
 IT X (.Compare a [op] [.Name x p] pos) (mB (m1 (bx tbl neg) f)):=by
 let⟨q,M,ep,c,d,e,g⟩:=C.ex;let l:fU X (jH op) (rl X.K X.w tbl neg):=by
  rcases b with⟨rfl,rfl⟩|⟨rfl,rfl⟩
  .exact LG
  exact LH
 calc mw (Cs l h (qc (v:=.ref q) j c rfl i) k) λY H Q z=>CU (f:=m1 (bx tbl neg) f) (λ_ _ _ z=>Ds (LJ d e g) z) z
def YG(C:iU X.w X.K X.mg x tbl)(h:X<<<x=L .globalImplicit)(g:(x==("__debug__" :U))=bJ)(hs:yq b=bF)(e:IE X b f):IE X (.Subscript (.Name x p) b pos) (m1 (aD tbl) f):=by let⟨q,M,ep,a,i,c,d⟩:=C.ex;calc gU (Kg YC (qc (v:=.ref q) h a bQ g) e (Lw hs)) λY H Q z=>Ds (YD c d) z
theorem YH{f:bI}(F:fC P w K mg base fS j f fd ps b)(h:j<=k):fC P w K mg base fS k f fd ps b:=
 ⟨F.len,λA outer s H a d vs Q E c=>F.run A outer s H a d vs Q E (c.mono h)⟩
theorem YI(C:yX P w K mg base n x m):∃a,mg x=L (.ref a)/\bw P w K mg base n (.ref a) [] m:=by let⟨f,fd,ps,F,d,c,b⟩:=C.ex;calc⟨f,d,⟨⟨f,fd,ps,rfl,.inr c,F.imp λvs H Q E h=>Yn h,b⟩⟩⟩
def YJ{f:bI}{M:J D->bP D}(x:fC X.prog X.w X.K X.mg X.base fS k f a ps (aA X.K (.ref d) [] M))(C:fZ k X.A)(r:X.mg xr=L (.ref f))(n:lE X.K (.ref f)=bF)(h:jO X.K a ps [])(o:X.mg xn=L (.ref d))(z:X<<<xr=L .globalImplicit)(m:X<<<xn=L .globalImplicit)(s:dC [e1,e2]=bF)(y:(xr==("__debug__" :U))=bJ)(i:(xn==("__debug__" :U))=bJ)(j:IE X e1 f1)(l:IE X e2 f2):
 IE X (.Call (.Name xr p) [e1,e2,.Name xn pn] [] pos) (mA M (aC f1 (aC f2 gB))):=by
 let hs:fV e1=bJ/\fV e2=bJ:=by dsimp[dC,lA,gD]at s;exact⟨by simpa using s.1,by simpa using s.2.1⟩
 let T:dC [.Name xn pn]=bF:=rfl;refine gU (mf (E:=E0) x C z r n h .nil rY (lB j (lB l (lB (qc (v:=.ref d) m o bQ i) pS (fA bQ)) (fA hs.2)) (fA hs.1)) y (fA hs.1) (kX (by simp[dC,hs.2];rfl))) λY H Q q=>?_
 let⟨O,F,E,q⟩:=q;let e:mA M (aC f1 (aC f2 gB)) O=(f1 O).bind λb=>(f2 O).bind λc=>M [b,c]:=by
  delta mA aC gB;cases f1 O with
  |ok _=>cases f2 O<;>rfl|bad=>rfl
 rw[e]at q;calc⟨O,F,E,jV q λb N u S t G q=>⟨O,u,E.grow t,jV q λc P F2 H2 g I q=>⟨F2,[b,c],[N,P],rfl,g.tk (t.tk E.tb),g.sub,(λp B=>nomatch B),DatL.cons (G.mono g.fs) (DatL.cons I DatL.nil),q⟩⟩⟩
end
noncomputable def vI:bK->D->bW| .str x _,.str y=>x==y&&cE (~~~y<=1000)| .int i _,.int j=>i==j|_,_=>bJ
noncomputable def vL:J bK->J D->bW| [],[]=>bF|v::r,d::s=>vI v d&&vL r s|_,_=>bJ
def vD(K:cG):bK->D->bW
 | .ref p,.t ds=>(match K.lookup p with
  |some ⟨.type "tuple",none,.seq its _,_⟩=>vL its.toList ds&&cE (~~~ds<=1000)
  |_=>bJ)
 |v,d=>vI v d
noncomputable def Dt(K:cG)(x:U):bW:=match rT K kH x with|some none=>bF|_=>bJ
def yy(K:cG):J (U×D)->bW
 | []=>bF
 |q::l=>(match rT K kH q.1 with
  |some (some v)=>vD K v q.2
  |_=>bJ)&&yy K l
noncomputable def rq(K:cG):J rR->J (U×D)->bW| [],[]=>bF|e::M,q::r=>(vI e.key (.str q.1)&&vD K e.val q.2)&&rq K M r|_,_=>bJ
def YK(h:Dt K x=bF):rT K kH x=L bL:=by
 delta Dt at h;symm
 .rename_i e;exact e
 cases h
section
variable [dG]{w:cD}{Ps:J bI}{bm:bI}{ob:cY}{v:bK}{d:D}
def Du(q:vI v d=bF):∃x,dM x v/\ ∀K F,bM K F d x:=by
 delta vI at q;split at q
 .rw[gD]at q;cases kI q.1;exact⟨.str _,⟨_,rfl⟩,λK F=>by dsimp;calc⟨trivial,o5 (CF (kR q.2))⟩⟩
 .cases kI q;exact⟨.int _,⟨_,rfl⟩,λK F=>by dsimp⟩
 cases q
theorem LK:∀{its ds},vL its ds=bF->∃xs,dR xs its/\~~~its= ~~~ds/\ ∀K F,DatL K F ds xs| [],[],_=>⟨[],.nil,rfl,λ_ _=>DatL.nil⟩|v::r,d::s,q=>by rw[vL,gD]at q;let⟨x,a,b⟩:=Du q.1;let⟨xs,c,e,g⟩:=LK q.2;calc⟨x::xs,.cons a c,jZ (· +1) e,λK F=>DatL.cons (b K F) (g K F)⟩
def LL(f:pF K Ps bm ob h)(q:vD K v d=bF):∃x,dM x v/\ ∀F,bM (qR K Ps bm ob) F d x:=by
 delta vD at q;split at q
 .split at q
  .rename_i e;rw[gD]at q;let⟨xs,a,b,c⟩:=LK q.1;refine⟨.ref _,rfl,λF=>?_⟩;dsimp;exact⟨_,xs,rfl,.inr ⟨_,_,_,f.up e λz=>(by cases z),⟨rfl,rfl⟩,rfl,hE (Io b) (o5 (CF (kR q.2))),a⟩,c _ F⟩
  cases q
 let⟨x,a,b⟩:=Du q;calc⟨x,a,b _⟩
theorem LM(f:pF K Ps bm ob h)(X:K.In h)(G:h.Ns kH mg):∀{l},yy K l=bF->∀x d,l.lookup x=L d->m5 (qR K Ps bm ob) mg x d
 | [],_,_,_,e=>by cases e|q::l,c,x,d,e=>by
  rw[yy,gD]at c;rw[lJ]at e;split at e
  .rename_i z;cases kI z;cases e;let c:=c.1;split at c
   .rename_i n;let⟨y,a,b⟩:=LL f c;exact⟨y,_,ly X G n,a,b⟩
   cases c
  calc LM f X G c.2 x d e
theorem LN(c:pF K Ps bm ob h):∀{M d},rq K M d=bF->M.map (·.hash)=(d.map λp=>wz w p.1)->yY w (qR K Ps bm ob) M d
 | [],[],_,_=>trivial| [],_::_,q,_=>by cases q|_::_,[],q,_=>by cases q|e::M,p::r,q,i=>by
  rw[rq,gD,gD]at q;dsimp[fY,wa]at i;refine⟨i.1,?_,LL c q.1.2,LN c q.2 i.2⟩;let⟨x,a,b⟩:=Du q.1.1;let b:=b K λ_=>bL
  dsimp at b;cases b.1;calc a
def YL{p:bI}{M:dE rR}(a:pF K Ps bm ob h)(e:mg x=L (.ref p))(hs:(p==vC)=bJ)(d:K.lookup p=L ⟨.type "dict",bL,.dict M ep, #[]⟩)(c:rq K M.toList b=bF)(h2:M.toList.map (·.hash)=b.map λp=>wz w p.1):iU w (qR K Ps bm ob) mg x b:=
 ⟨⟨p,M,ep,e,hs,(a.up d λz=>by cases z),LN a c h2⟩⟩
end
def pZ(tp:bW)(h:cH)(it l:bI)(k:bD):Prop:=match tp with|true=>h.IsTupleIter it l k|false=>h.IsListIter it l k
def xY(tp:bW)(h:cH)(l:bI)(ys:dE bK):Prop:=match tp with|true=>h.IsTuple l ys|false=>h.IsList l ys
def pZ.at_(x:pZ tp h it l k)(f:∀o,h.get? it=L o->h'.get? it=L o):pZ tp h' it l k:=by
 cases tp
 .exact Heap.IsListIter.at x f
 calc Heap.IsTupleIter.at x f
def xY.at_(x:xY tp h l ys)(f:∀o,h.get? l=L o->h'.get? l=L o):xY tp h' l ys:=by
 cases tp
 .exact Heap.IsList.at x f
 calc Heap.IsTuple.at x f
def pZ.obj(x:pZ tp h it l k):∃o,h.get? it=L o/\(o.cls= .type "tuple_iterator" \/o.cls= .type "list_iterator")/\o.data= .fields #[.ref l,.int k 0]:=by
 cases tp
 .let⟨o,a,b,c⟩:=x;exact⟨o,a,.inr b,c⟩
 let⟨o,a,b,c⟩:=x;calc⟨o,a,.inl b,c⟩
theorem YM{x:bK}(a:s.heap.IsTupleIter it l i)(h:s.heap.IsTuple l ys)(j:ys[i]? =L x)(f:∀h',h'.IsTupleIter it l (i+1)->nY it s.heap h'->Q x {s with heap:=h'}):(A>>>(aQ (.ref it))) Q E s:=by
 let⟨o,c,g,b⟩:=id a;let⟨k,e,_,nl,d⟩:=h;delta aQ;refine bV (oS (name:=wV "__next__") a.typeIs F.slot_tuple_iterator_next (km F.slot_tuple_iterator_next a.typeIs F.entry_tuple_iterator_next ?_ (F.args_tuple_iterator_next_1 _)));show wpAny _ _ (iA (.ref it) 0>>=_) _ _ s;refine bV (vB c b (x:=.ref l) bQ ?_);show wpAny _ _ (if(lD l==zW)=bF then _ else _) _ _ s;rw[cX (show ¬ ((lD l==zW)=bF)from wQ)];show wpAny _ _ (iA (.ref it) 1>>=_) _ _ s;refine bV (vB c b (x:=.int i 0) bQ ?_);show wpAny _ _ (seqItems? (.ref l)>>=_) _ _ s;refine bV (eh e d ?_);dsimp[A9,j];refine bV (Se c b cS (cT ⟨x,rfl,cT (f _ ⟨_,Heap.get?_update_self _ c (Obj.isFreed_of_fields (Rp b _)),(Obj.cls_mapFields ..).trans g,by rw[Rp b];simp[pP]⟩ (vv ..))⟩))
theorem YN(h:A.handled=bL)(b:s.heap.IsTupleIter it l i)(k:s.heap.IsTuple l ys)(n:ys[i]? =bL)(j:∀h' e,S4 it s.heap h'->(∃o,h'.get? e=L o/\o.cls= .type "StopIteration")->E (.ref e) {s with heap:=h'}):(A>>>(aQ (.ref it))) Q E s:=by
 let⟨o,f,p,c⟩:=id b;let⟨q,g,_,nl,d⟩:=k;delta aQ;refine bV (oS (name:=wV "__next__") b.typeIs F.slot_tuple_iterator_next (km F.slot_tuple_iterator_next b.typeIs F.entry_tuple_iterator_next ?_ (F.args_tuple_iterator_next_1 _)));show wpAny _ _ (iA (.ref it) 0>>=_) _ _ s;refine bV (vB f c (x:=.ref l) bQ ?_);show wpAny _ _ (if(lD l==zW)=bF then _ else _) _ _ s;rw[cX (show ¬ ((lD l==zW)=bF)from wQ)];show wpAny _ _ (iA (.ref it) 1>>=_) _ _ s;refine bV (vB f c (x:=.int i 0) bQ ?_);show wpAny _ _ (seqItems? (.ref l)>>=_) _ _ s;refine bV (eh g d ?_);dsimp[A9,n];refine bV (g0 (bV (Se f c cS ?_)));show wpAny _ _ (newExc (.type "StopIteration") []>>=_) _ _ _;refine bV ?_;dsimp[newExc,newTuple];refine bV (du ?_ (by size_fits));refine bV (m:=Sh _ _) (wpAny_of_eq (a:=zW) (by first|rfl| (dsimp[Sh];rfl)) ?_);refine du ?_ (by size_fits);dsimp[raiseNew];refine bV (wpAny_handled ?_);first|rw[show A.in1.handled=bL from h]|rw[h]
 refine bV (cT (wpAny_throw ?_));calc j _ _ (((vv ..).extBut.push _).push _) ⟨_,lC _ bQ,rfl⟩
def Dv{x:bK}(a:pZ tp s.heap it l i)(c:xY tp s.heap l ys)(d:ys[i]? =L x)(b:∀h',pZ tp h' it l (i+1)->nY it s.heap h'->Q x {s with heap:=h'}):(A>>>(aQ (.ref it))) Q E s:=by
 cases tp
 .exact wpAny_nextOf_list_item a c d b
 calc YM a c d b
def LP(c:A.handled=bL)(a:pZ tp s.heap it l i)(d:xY tp s.heap l ys)(f:ys[i]? =bL)(b:∀h' e,S4 it s.heap h'->(∃o,h'.get? e=L o/\o.cls= .type "StopIteration")->E (.ref e) {s with heap:=h'}):(A>>>(aQ (.ref it))) Q E s:=by
 cases tp
 .exact wpAny_nextOf_list_end c a d f b
 calc YN c a d f b
theorem YO{z TI TO m H:bI}{xs:dE bK}{x y:bK}{Q:bR bK->bT->Prop}(D:BU z TI TO m n H I)(hz:xB s.heap z TI TO .none)(W:rX s.heap TI (.ref m) (.ref n))(X:rX s.heap TO a b)(h1:pZ t1 s.heap m H k1)(h2:pZ t2 s.heap n I k2)(Y:xY t1 s.heap H xs)(Z:xY t2 s.heap I ys)(hx:xs[k1]? =L x)(hy:ys[k2]? =L y)(hQ:∀h',xB h' z TI TO (pP s⁻¹)->rX h' TO x y->pZ t1 h' m H (k1+1)->pZ t2 h' n I (k2+1)->rX h' s⁻¹ x y->h'.objs.size=s⁻¹+1->
   (∀c o,c≠z->c≠TO->c≠m->c≠n->s.heap.get? c=L o->h'.get? c=L o)->Q (L (.ref s⁻¹)) {s with heap:=h'}):(A>>>(ai (.ref z))) Q E s:=by
 let hT:s.TypeIs (.ref z) "zip" :=⟨_,hz,rfl⟩;delta ai;refine bV (wpAny_attempt (oS (name:=wV "__next__") hT F.slot_zip_next (km F.slot_zip_next hT F.entry_zip_next (lU (Q:=λdZ s'=>∃v,dZ= .done (.ret v)/\Q (L v) s') ?_ (λdZ s' h=>?_) λ_ _ e=>e) (F.args_zip_next_1 _))))
 .show wpAny _ _ (iA (.ref z) 2>>=_) _ _ _;refine bV (vB hz rfl (x:=.bool bJ) rfl ?_);show wpAny _ _ (iA (.ref z) 3>>=_) _ _ _;refine bV (vB hz rfl (x:=.ref TI) rfl ?_);refine bV (eh W rfl ?_);show wpAny _ _ (AR (.ref z)>>=_) _ _ _;refine bV ?_;delta AR;refine bV (vB hz rfl (x:=.none) rfl (cT ?_));dsimp[rS];refine bV (g0 (bV (vB hz rfl (x:=.ref TO) rfl (bV (oV hz cS λh₁ r f=>?_)))));replace r:xB h₁ z TI TO .ellipsis:=r;refine bV ?_;dsimp[RL,RV,gk,o4];refine bV (bV (Bt ?_));show wpAny _ _ (aQ (.ref m)>>=_) _ _ _;refine bV (Dv (h1.at_ λo e=>f.extBut _ _ D.i1z e) (Y.at_ λo e=>f.extBut _ _ D.l1z e) hx λh₂ S k=>cT ?_);let q2:rX h₂ TO a b:=k.extBut _ _ D.TOi1 (f.extBut _ _ D.TOz X);refine bV (eh q2 rfl (bV (Hv q2 λh₃ q3 l=>?_)));replace q3:rX h₃ TO x b:=q3;refine bV (IB (cT (bV (bV (Bt ?_)))));show wpAny _ _ (aQ (.ref n)>>=_) _ _ _;let t:∀c o,c≠z->c≠m->c≠TO->s.heap.get? c=L o->h₃.get? c=L o:=λc o j u B e=>l.extBut _ _ B (k.extBut _ _ u (f.extBut _ _ j e))
  refine bV (Dv (h2.at_ λo e=>t _ o D.i2z D.i12.symm D.TOi2.symm e) (Z.at_ λo e=>t _ o D.l2z D.l2i1 D.l2TO e) hy λh₄ T g=>cT ?_);let q4:rX h₄ TO x b:=g.extBut _ _ D.TOi2 q3;refine bV (eh q4 rfl (bV (Hv q4 λd M i=>?_)));replace M:rX d TO x y:=M;refine bV (IB (cT (cT (bV (eh M rfl (bV (wpAny_newTuple ?_)))))));let C:d.objs.size=s⁻¹:=by rw[i.1,g.1,l.1,k.1,f.1]
  let z5:xB d z TI TO .ellipsis:=i.extBut _ _ D.TOz.symm (g.extBut _ _ D.i2z.symm (l.extBut _ _ D.TOz.symm (k.extBut _ _ D.i1z.symm r)));let a0:∀c o,c≠z->c≠TO->c≠m->c≠n->s.heap.get? c=L o->d.get? c=L o:=λc o j u B P e=>i.extBut _ _ u (g.extBut _ _ P (t c o j B u e))
  let a1:pZ t1 d m H (k1+1):=S.at_ λo e=>i.extBut _ _ D.TOi1.symm (g.extBut _ _ D.i12 (l.extBut _ _ D.TOi1.symm e))
  let a2:pZ t2 d n I (k2+1):=T.at_ λo e=>i.extBut _ _ D.TOi2.symm e
  let K:z<d.objs.size:=gH z5;show wpAny _ _ (Qx (.ref z) (.ref d.objs.size)>>=_) _ _ _;refine bV ?_;delta Qx;let z6:xB (d.push {cls:=.type "tuple",data:=.seq #[x,y]}) z TI TO .ellipsis:=gF _ z5;refine bV (oV z6 cS λh₇ z7 p=>?_);replace z7:xB h₇ z TI TO (pP d.objs.size):=z7;refine oV z7 cS λG O q=>?_;replace O:xB G z TI TO (pP d.objs.size):=O
  let N:∀c o,c≠z->d.get? c=L o->G.get? c=L o:=λc o j e=>q.extBut _ _ j (p.extBut _ _ j (gF _ e))
  let p8:rX G d.objs.size x y:=q.extBut _ _ (ky K) (p.extBut _ _ (ky K) (lC _ rfl));let s8:G.objs.size=d.objs.size+1:=by rw[q.1,p.1,yJ]
  rw[C]at O p8 s8;refine cT ⟨_,rfl,?_⟩;show Q (L (.ref d.objs.size)) _;rw[C];exact hQ G O (N _ _ D.TOz M) (a1.at_ λo e=>N _ o D.i1z e) (a2.at_ λo e=>N _ o D.i2z e) p8 s8 λc o j u B P e=>N c o j (a0 c o j u B P e)
 let⟨v,rfl,h⟩:=h;calc⟨v,rfl,cT h⟩
theorem YQ{z TI TO q O P:bI}{xs:dE bK}{Q:bR bK->bT->Prop}(Y:A.handled=none)(D:BU z TI TO n q O P)(hz:xB s.heap z TI TO .none)(G:rX s.heap TI (.ref n) (.ref q))(H:rX s.heap TO a b)(W:pZ t1 s.heap n O k1)(h2:pZ t2 s.heap q P k2)(v:xY t1 s.heap O xs)(I:xY t2 s.heap P ys)(u:xs[k1]? =none\/ys[k2]? =none)(hQ:∀h',(∀c o,c≠z->c≠TO->c≠n->c≠q->s.heap.get? c=some o->h'.get? c=some o)->Q none {s with heap:=h'}):(A>>>(ai (.ref z))) Q E s:=by
 let X:s.TypeIs (.ref z) "zip" :=⟨_,hz,rfl⟩;delta ai
 let dZ:∀h' e,(∀c o,c≠z->c≠TO->c≠n->c≠q->s.heap.get? c=some o->h'.get? c=some o)->(∃o,h'.get? e=some o/\o.cls= .type "StopIteration")->
  (A>>>(do if(<-isInstance (.ref e) (.type "StopIteration"))=bF then dX none else throw (.ref e))) Q E {s with heap:=h'}:=λh' e hk t=>by
  let⟨o,ho,hc⟩:=t;exact bV (Bg (T:="StopIteration") (b:=bF) ⟨o,ho,hc⟩ isSubtype_stop (cT (hQ _ hk)))
 refine bV (wpAny_attempt (oS (name:=wV "__next__") X F.slot_zip_next (km F.slot_zip_next X F.entry_zip_next ?_ (F.args_zip_next_1 _))));show wpAny _ _ (iA (.ref z) 2>>=_) _ _ _;refine bV (vB hz bQ (x:=.bool bJ) bQ ?_);show wpAny _ _ (iA (.ref z) 3>>=_) _ _ _;refine bV (vB hz bQ (x:=.ref TI) bQ ?_);refine bV (eh G bQ ?_);show wpAny _ _ (AR (.ref z)>>=_) _ _ _;refine bV ?_;delta AR;refine bV (vB hz bQ (x:=.none) bQ (cT ?_));dsimp[rS];refine bV (g0 (bV (vB hz bQ (x:=.ref TO) bQ (bV (oV hz cS λh₁ k f=>?_)))));replace k:xB h₁ z TI TO .ellipsis:=k;refine bV ?_;dsimp[RL,RV,gk,o4];refine bV (bV (Bt ?_));show wpAny _ _ (aQ (.ref n)>>=_) _ _ _;cases K:xs[k1]? with
 |none=>
  refine bV (LP Y (W.at_ λo e=>f.extBut _ _ D.i1z e) (v.at_ λo e=>f.extBut _ _ D.l1z e) K λM e g t=>?_);let⟨S,d,i⟩:=t;let z2:xB M z TI TO .ellipsis:=g _ _ D.i1z.symm k;let m:e≠z:=λx=>by subst x;rw[z2]at d;cases d;simp at i
  refine oV z2 cS λN _ j=>dZ N e (λc o l _ r _ x=>j.extBut _ _ l (g _ _ r (f.extBut _ _ l x))) ⟨S,j.extBut _ _ m d,i⟩
 |some x=>
  let hy:ys[k2]? =none:=by rcases u with h|h;rw[K]at h;cases h;exact h
  refine bV (Dv (W.at_ λo e=>f.extBut _ _ D.i1z e) (v.at_ λo e=>f.extBut _ _ D.l1z e) K λM a0 g=>cT ?_);let Z:rX M TO a b:=g.extBut _ _ D.TOi1 (f.extBut _ _ D.TOz H);refine bV (eh Z bQ (bV (Hv Z λN q3 j=>?_)));refine bV (IB (cT (bV (bV (Bt ?_)))));show wpAny _ _ (aQ (.ref q)>>=_) _ _ _;let p:∀c o,c≠z->c≠n->c≠TO->s.heap.get? c=some o->N.get? c=some o:=λc o l C r e=>j.extBut _ _ r (g.extBut _ _ C (f.extBut _ _ l e))
  refine bV (LP Y (h2.at_ λo e=>p _ o D.i2z D.i12.symm D.TOi2.symm e) (I.at_ λo e=>p _ o D.l2z D.l2i1 D.l2TO e) hy λh₄ e y t=>?_);let⟨S,d,i⟩:=t;let z4:xB h₄ z TI TO .ellipsis:=y _ _ D.i2z.symm (j.extBut _ _ D.TOz.symm (g.extBut _ _ D.i1z.symm k));let m:e≠z:=λx=>by subst x;rw[z4]at d;cases d;simp at i
  refine oV z4 cS λh₅ _ B=>dZ h₅ e (λc o l C r c4 x=>B.extBut _ _ l (y _ _ c4 (p c o l r C x))) ⟨S,B.extBut _ _ m d,i⟩
noncomputable abbrev zA(h:cH)(a:bI):cH:=h.push {cls:=.type "list_iterator",data:=.fields #[.ref a,.int 0 0]}
abbrev zB(h:cH)(a b:bI):cH:=(zA h a).push {cls:=.type "tuple_iterator",data:=.fields #[.ref b,.int 0 0]}
abbrev zC(h:cH)(a b:bI):cH:=(zB h a b).push {cls:=.type "tuple",data:=.seq #[.ref h.objs.size,.ref (zA h a).objs.size]}
abbrev zD(h:cH)(a b:bI):cH:=(zC h a b).push {cls:=.type "tuple",data:=.seq #[.none,.none]}
abbrev zE(h:cH)(a b:bI):cH:=(zD h a b).push {cls:=.type "zip",data:=.fields #[.none,.bool bJ,.bool bJ,.ref (zB h a b).objs.size,.ref (zC h a b).objs.size]}
def YR(a b)(xs ys):Meets (et.«zip.__new__» ⟨[.type "zip",.ref a,.ref b],[]⟩) (λ_ R s=>s.heap.IsList a xs/\s.heap.IsTuple b ys/\R (.ok (.ret (.ref (zD s.heap a b).objs.size))) {s with heap:=zE s.heap a b}):=
 .of_wp λprog w A R s h=>by
  let⟨j,g,d,k,os⟩:=s;let⟨e,f,h⟩:=h;let i:=sub_zip;let c:Heap.IsTuple (Shared.heap ⟨zA j a,g,d,k,os⟩) b ys:=RC f _
  wp_walk using v5 e,A8 c
  calc⟨_,rfl,h⟩
theorem YS{xs:dE bK}(e:s.heap.IsList a xs)(f:s.heap.IsTuple b ys)(h:∀h',xB h' (s⁻¹+4) (s⁻¹+2) (s⁻¹+3) .none->rX h' (s⁻¹+2) (.ref s⁻¹) (.ref (s⁻¹+1))->
   rX h' (s⁻¹+3) .none .none->pZ bJ h' s⁻¹ a 0->pZ bF h' (s⁻¹+1) b 0->h'.objs.size=s⁻¹+5->
   (∀c o,s.heap.get? c=L o->h'.get? c=L o)->Q (.ref (s⁻¹+4)) {s with heap:=h'}):(A>>>(call (.type "zip") [.ref a,.ref b])) Q E s:=by
 refine callType_new F.called_zip hG (F.typeCall_zip_2 _ _) (F.newCall_zip_2 _ _) (λl=>F.args_object_init_3 l _ _) F.entry_zip_new (YR a b xs ys) ⟨e,f,?_⟩;let g:(zA s.heap a).objs.size=s⁻¹+1:=yJ ..;let i:(zB s.heap a b).objs.size=s⁻¹+2:=by rw[yJ,g]
 let j:(zC s.heap a b).objs.size=s⁻¹+3:=by rw[yJ,i]
 let k:(zD s.heap a b).objs.size=s⁻¹+4:=by rw[yJ,j]
 let t:(zE s.heap a b).objs.size=s⁻¹+5:=by rw[yJ,k]
 let m:∀{c o},(zB s.heap a b).get? c=L o->(zE s.heap a b).get? c=L o:=λx=>gF _ (gF _ (gF _ x))
 let d:(zE s.heap a b).get? (zD s.heap a b).objs.size=L _:=lC _ bQ;let q:(zE s.heap a b).get? (zC s.heap a b).objs.size=L _:=gF _ (lC _ bQ);let p:(zE s.heap a b).get? (zB s.heap a b).objs.size=L _:=gF _ (gF _ (lC _ bQ));let n:(zE s.heap a b).get? (zA s.heap a).objs.size=L _:=m (lC _ bQ);let r:(zE s.heap a b).get? s⁻¹=L _:=m (gF _ (lC _ bQ));show _/\_;rw[i,j,k]at d;rw[g,i]at p;rw[j]at q;rw[g]at n;rw[k];calc⟨⟨_,d,rfl⟩,h _ d p q ⟨_,r,rfl,rfl⟩ ⟨_,n,rfl,rfl⟩ t λc o x=>m (gF _ (gF _ x))⟩
def Sq(tp:bW)(K:cG)(H:Hp)(a:bI)(xs:J V):Prop:=match tp with|true=>kJ K H a xs|false=>jA K H a xs
def iV(I:bS X pe Y H s)(h:Sq tp X.K H a xs):∃its,dR xs its/\xY tp s.heap a its.toArray/\~~~xs<=cR:=by
 cases tp
 .let⟨its,r,p,z⟩:=I.list h;exact⟨its,r,p.isList,z⟩
 let⟨its,r,p,z⟩:=I.tuple h;calc⟨its,r,p,z⟩
def LR(I:bS X pe Y H s){ys:J V}(h:Sq tp X.K H a xs)(h2:Sq tp X.K H a ys):xs=ys:=by
 cases tp
 .exact I.list_inj h h2
 calc I.tuple_inj h h2
def LS{u:HO}(h:Rd H a u)(c:H b=bL):a≠b:=λz=>by
 subst z;rcases h with h|⟨o,h⟩
 .rw[c]at h;cases h
 rw[c]at h;cases h
def yz(I:bS X pe Y H s)(h:Sq tp X.K H a xs)(f:qG X pe H b):a≠b:=by
 let c:∀o,X.K.lookup a=L o->a≠b:=λo e z=>by
  subst z;let d:=I.ok.mod.kin _ _ e;rcases f.2.2.2.1 with q|q
  .exact I.ok.noex _ _ d q
  exact dD (nO (gH (I.ok.bs _ _ d).1) q) (aX _)
 cases tp
 .rcases h with h|⟨o,_,_,h,_⟩
  .exact LS h f.1
  exact c o h
 rcases h with h|⟨o,_,_,h,_⟩
 .exact LS h f.1
 calc c o h
def Sq.same(b:bX F F')(h:Sq tp K F a xs):Sq tp K F' a xs:=by
 cases tp
 .exact bX.seq b h
 calc bX.seqT b h
def y0(I:bS X pe Y H s)(f:∀b∈ch,qG X pe H b)(k:∀b o,b∉ch->s.heap.get? b=L o->h'.get? b=L o):bS X pe Y H {s with heap:=h',toks:=t'}:=by
 let d:∀b u,H b=L u->b∉ch:=λb u e z=>by have:=(f b z).1;rw[e]at this;cases this
 refine I.step (g':=s.gens) (d':=s.drawn) (ch:=ch) (λb l=>?_) (λb o _ _ a e _=>k b o a e) (λb o _ _ a e _=>⟨o.slots,k b o a e⟩) (λ_ _ _ _ n=>n) (λb o a e=>⟨o,k b o a e⟩) (λ_ _ e=>e) (λ_ _ _ e=>e) (λb ps e=>⟨#[],by rw[e];simp⟩) (λm p=>?_) (λb u e=>?_) I.bare
 .let⟨_,g,_,h,i,j⟩:=f b l;exact⟨h,g,i,j⟩
 .let⟨o,M,ep,t,r⟩:=p;exact⟨o,M,ep,k _ o (λz=>(f _ z).2.1 bQ) t,r⟩
 refine(I.hok b u e).stay (λc v a q=>k c v ?_ q) (λ_ q=>q) λ_ _ q=>q
 rcases a with z|z
 .rw[z];exact d b u e
 calc d c _ z
def LU{x y:V}{u v:bK}(I:bS X pe Y H s)(f:∀b∈ch,qG X pe H b)(k:∀b o,b∉ch->s.heap.get? b=L o->h'.get? b=L o)(C:dM x u)(E:dM y v)(B:rX h' s⁻¹ u v):
 bS X pe Y (upd H s⁻¹ (.t [x,y])) {s with heap:=h',toks:=t'}:=by
 let g:H s⁻¹=bL:=I.hok.fresh (cU _);let d:∀b u,H b=L u->b∉ch:=λb u e z=>by have:=(f b z).1;rw[e]at this;cases this
 let sm:bX H (upd H s⁻¹ (.t [x,y])):=λb o e=>by rw[fK (λz=>by rw[z,g]at e;cases e)];exact e
 refine I.step (g':=s.gens) (d':=s.drawn) (ch:=ch) (λb p=>?_) (λb o _ _ a e _=>k b o a e) (λb o _ _ a e _=>⟨o.slots,k b o a e⟩) (λb o _ e n=>?_) (λb o a e=>⟨o,k b o a e⟩) (λ_ _ e=>sm _ _ e) (λ_ _ _ e=>sm _ _ e) (λb ps e=>⟨#[],by rw[sm _ _ e];simp⟩) (λm w=>?_) (λb u e=>?_) I.bare
 .let⟨_,h,_,i,j,l⟩:=f b p;exact⟨i,h,j,l⟩
 .rw[fK (hJ (gH e))];exact n
 .let⟨o,M,ep,A,r⟩:=w;exact⟨o,M,ep,k _ o (λz=>(f _ z).2.1 bQ) A,r⟩
 by_cases z:b=s⁻¹
 .subst z;rw[gI]at e;cases e;exact⟨by show 2<=cR;decide,_,.cons C (.cons E .nil),_,B,⟨rfl,rfl⟩,_,rfl⟩
 rw[fK z]at e;refine(I.hok b u e).stay (λc v a q=>k c v ?_ q) (λ_ q=>sm _ _ q) λ_ _ q=>sm _ _ q
 rcases a with z|z
 .rw[z];exact d b u e
 calc d c _ z
def LV(t1 t2:bW)(K:cG)(a b:bI):It:=
 ⟨λi H=>∃xs ys x y,Sq t1 K H a xs/\Sq t2 K H b ys/\xs[i]? =L x/\ys[i]? =L y,
  λi H v T=>∃p x y,H p=bL/\v= .ref p/\T=upd H p (.t [x,y])/\ ∀xs ys,Sq t1 K H a xs->Sq t2 K H b ys->xs[i]? =L x/\ys[i]? =L y,
  λi H=>∃xs ys,Sq t1 K H a xs/\Sq t2 K H b ys/\(~~~xs<=i\/ ~~~ys<=i)⟩
def YT(t1 t2:bW)(z TI TO c d a b:bI)(i:bD)(h:cH):Prop:=xB h z TI TO .none/\rX h TI (.ref c) (.ref d)/\(∃u v,rX h TO u v)/\pZ t1 h c a i/\pZ t2 h d b i
structure YU(z TI TO i1 i2:bI):Prop where
 d1:TI≠z
 d2:TO≠z
 d3:i1≠z
 d4:i2≠z
 d5:TI≠TO
 d6:TI≠i1
 d7:TI≠i2
 d8:TO≠i1
 d9:TO≠i2
 d10:i1≠i2
def YV{z TI TO:bI}(V:YU z TI TO g j):
 bi P w K (.Tuple elts kk pos) (LV t1 t2 K a b) [z,TI,TO,g,j] z (YT t1 t2 z TI TO g j a b)where
 mem:=cS
 obj:=λi h st c f=>by
  let⟨F,B,⟨u,v,G⟩,M,N⟩:=st;let O:c=z\/c=TI\/c=TO\/c=g\/c=j:=by simpa using f
  rcases O with rfl|rfl|rfl|rfl|rfl
  .exact⟨_,F,λv q=>by cases(show Iy _=wk v from q)⟩
  .exact⟨_,B,λv q=>by cases(show Jk _ _=wk v from q)⟩
  .exact⟨_,G,λv q=>by cases(show Jk _ _=wk v from q)⟩
  .let⟨o,e,_,d⟩:=M.obj;exact⟨o,e,λv q=>by rw[d]at q;cases q⟩
  let⟨o,e,_,d⟩:=N.obj;exact⟨o,e,λv q=>by rw[d]at q;cases q⟩
 keep:=λi h h' st k=>by let⟨F,B,⟨u,v,G⟩,M,N⟩:=st;exact⟨k z cS _ F,k TI cS _ B,⟨u,v,k TO cS _ G⟩,M.at_ λo e=>k g cS o e,N.at_ λo e=>k j cS o e⟩
 item:=by
  intro X hP hw Z f i pe s Y H E I C st hg;subst hP hw Z;let⟨xs,ys,x,y,n,p,S,hy⟩:=hg;let⟨r,r1,p1,z1⟩:=iV I n;let⟨A,r2,p2,z2⟩:=iV I p;let⟨u,hu,ru⟩:=r1.get S;let⟨v,hv,rv⟩:=r2.get hy;let⟨F,B,⟨u0,v0,G⟩,M,N⟩:=st;let l:∀c∈ [z,TI,TO,g,j],a≠c:=λc f=>yz I n (C c f)
  let m:∀c∈ [z,TI,TO,g,j],b≠c:=λc f=>yz I p (C c f)
  let D:BU z TI TO g j a b:=⟨V.d1,V.d2,V.d3,V.d4,V.d5,V.d6,V.d7,V.d8,V.d9,V.d10,l z cS,l TO cS,l g cS,l j cS,m z cS,m TO cS,m g cS,m j cS⟩;refine YO (xs:=r.toArray) (ys:=A.toArray) D F B G M N p1 p2 (x:=u) (y:=v) (by simpa using hu) (by simpa using hv) λh' a1 a2 a3 a4 a5 a6 a7=>?_
  let Q:∀c∈ [z,TO,g,j],c∈ [z,TI,TO,g,j]:=λc f=>by simp at f|-;rcases f with rfl|rfl|rfl|rfl<;>simp
  let I1:=LU (t':=s.toks) (h':=h') (ch:=[z,TO,g,j]) I (λc f=>C c (Q c f)) (λc o f e=>a7 c o (λq=>f (by simp[q])) (λq=>f (by simp[q])) (λq=>f (by simp[q])) (λq=>f (by simp[q])) e) ru rv a5;let lt:∀c∈ [z,TI,TO,g,j],c≠s⁻¹:=λc f=>by
   let O:c=z\/c=TI\/c=TO\/c=g\/c=j:=by simpa using f
   rcases O with rfl|rfl|rfl|rfl|rfl
   .exact hJ (gH F)
   .exact hJ (gH B)
   .exact hJ (gH G)
   .let⟨o,e,_⟩:=M.obj;exact hJ (gH e)
   let⟨o,e,_⟩:=N.obj;exact hJ (gH e)
  let f1:∀c∈ [z,TI,TO,g,j],qG X pe (upd H s⁻¹ (.t [x,y])) c:=λc f=>⟨by rw[fK (lt c f)];calc(C c f).1,(C c f).2⟩
  refine⟨_,rfl,wpAny_letOwnedTupleGo_zip (s:={s with heap:=h'}) a1 λW b1 T=>?_⟩;let I2:bS X pe Y (upd H s⁻¹ (.t [x,y])) {s with heap:=W}:=y0 (s:={s with heap:=h'}) (t':=s.toks) (ch:=[z]) I1 (λc f=>f1 c (by rw[mM.mp f];simp)) λc o f e=>T.extBut _ _ (λq=>f (by simp[q])) e
  refine⟨.ref s⁻¹,upd H s⁻¹ (.t [x,y]),I2,rfl,⟨_,x,y,I.hok.fresh (cU _),rfl,rfl,λa0 a8 q1 q2=>?_⟩,⟨b1,?_,⟨u,v,?_⟩,?_,?_⟩,λc f=>(f1 c f).1⟩
  .rw[LR I q1 n,LR I q2 p];exact⟨S,hy⟩
  .exact T.extBut _ _ V.d1 (a7 _ _ V.d1 V.d5 V.d6 V.d7 B)
  .exact T.extBut _ _ V.d2 a2
  .exact a3.at_ λo e=>T.extBut _ _ V.d3 e
  exact a4.at_ λo e=>T.extBut _ _ V.d4 e
 done:=by
  intro X hP hw Z f i pe s Y H E I C st hg;subst hP hw Z;let⟨xs,ys,n,p,S⟩:=hg;let⟨r,r1,p1,z1⟩:=iV I n;let⟨A,r2,p2,z2⟩:=iV I p;let⟨F,B,⟨u0,v0,G⟩,M,N⟩:=st;let l:∀c∈ [z,TI,TO,g,j],a≠c:=λc f=>yz I n (C c f)
  let m:∀c∈ [z,TI,TO,g,j],b≠c:=λc f=>yz I p (C c f)
  let D:BU z TI TO g j a b:=⟨V.d1,V.d2,V.d3,V.d4,V.d5,V.d6,V.d7,V.d8,V.d9,V.d10,l z cS,l TO cS,l g cS,l j cS,m z cS,m TO cS,m g cS,m j cS⟩;let Q:∀c∈ [z,TO,g,j],c∈ [z,TI,TO,g,j]:=λc f=>by simp at f|-;rcases f with rfl|rfl|rfl|rfl<;>simp
  let l1:=r1.length;let l2:=r2.length
  refine YQ (xs:=r.toArray) (ys:=A.toArray) (I.ok.hd f) D F B G M N p1 p2 (by
   rcases S with S|S
   .exact .inl (by simp;lia)
   calc .inr (by simp;lia)) λh' k=>⟨rfl,y0 (t':=s.toks) (ch:=[z,TO,g,j]) I (λc f=>C c (Q c f)) λc o f e=>k c o (λq=>f (by simp[q])) (λq=>f (by simp[q])) (λq=>f (by simp[q])) (λq=>f (by simp[q])) e⟩
 self:=λ_ _ _ _ _ st h=>RM st.1 h
section
variable [dG] [Pd]
noncomputable def pairD(ds M:J D):J D:=List.zipWith (λd e=>D.t [d,e]) ds M
def YW{ys:J V}{M:J D}(G:Sq t1 K F a xs)(h2:Sq t2 K F b ys)(w:DatL K F ds xs)(A:DatL K F M ys):sW K F (LV t1 t2 K a b) (pairD ds M):=λn F2 H2 g h=>by
 let k:Sq t1 K H2 a xs:=(G.same g).same h;let l:Sq t2 K H2 b ys:=(h2.same g).same h;let N:=w.length;let O:=A.length;refine⟨λd e=>?_,λq=>?_⟩
 .delta pairD at e;rw[Q1]at e;cases c:ds[n]? with
  |none=>rw[c]at e;cases e|some B=>
   cases f:M[n]? with
   |none=>rw[c,f]at e;cases e|some C=>
    rw[c,f]at e;let i:D.t [B,C]=d:=kE e;subst i;let⟨x,r,dx⟩:=vJ w.paired c;let⟨y,s,E⟩:=vJ A.paired f;refine⟨⟨xs,ys,x,y,k,l,r,s⟩,λv T I=>?_⟩;let⟨p,P,Q,j,rfl,rfl,H⟩:=I;let⟨m,o⟩:=H xs ys k l;rw[r]at m;cases m;rw[s]at o;cases o;refine⟨upd F2 p (.t [x,y]),cP.laid h j _,?_⟩;let fp:F2 p=none:=by
     cases z:F2 p with
     |none=>rfl|some u=>rw[h _ _ z]at j;cases j
    dsimp;exact⟨p,[x,y],rfl,kJ.of gI,DatL.cons ((dx.mono g).mono (rG fp _)) (DatL.cons ((E.mono g).mono (rG fp _)) DatL.nil)⟩
 refine⟨xs,ys,k,l,?_⟩;delta pairD at q;rw[Rk]at q
 lia
noncomputable def ng:D->D->bP (J D)| .l ds,.t M=>.ok (pairD ds M)|_,_=>.bad
def iW(f g:ME):ML:=λO=>(f O).bind λd=>(g O).bind λe=>ng d e
def YX(h:bM K F d v):(∀ds,d≠ .t ds/\d≠ .l ds)\/ ∃t a xs ds,v= .ref a/\Sq t K F a xs/\DatL K F ds xs/\(d= .t ds\/d= .l ds):=by
 cases d with
 |t ds=>dsimp at h;let⟨a,xs,rfl,q,l⟩:=h;calc .inr ⟨bF,a,xs,ds,rfl,q,l,.inl rfl⟩|l ds=>dsimp at h;let⟨a,xs,rfl,q,l⟩:=h;calc .inr ⟨bJ,a,xs,ds,rfl,q,l,.inr rfl⟩|_=>calc .inl λds=>⟨cS,cS⟩
def YY{e:D}{ps:J D}(h:ng d e= .ok ps):∃ds M,d= .l ds/\e= .t M/\ps=pairD ds M:=by
 delta ng at h;symm
 .cases h;exact⟨_,_,rfl,rfl,rfl⟩
 cases h
def YZ(C:X<<<("zip" :U)=L .globalImplicit)(hm:X.mg "zip" =bL)(G:dC [a,b]=bF)(hf:IE X a f)(hg:IE X b g):II X (.Tuple elts k pt) (.Call (.Name "zip" p) [a,b] [] pos) (iW f g):=by
 rintro pe s Y H R I ⟨O,F,E,q⟩;let hs:fV a=bJ/\fV b=bJ:=by dsimp[dC,lA,gD]at G;exact⟨by simpa using G.1,by simpa using G.2.1⟩
 let ha:IA X [a,b] (aC f (aC g gB)):=x6 hf (x6 hg yU (fA hs.2)) (fA hs.1);let hA:iM X (aC f (aC g gB)) Y H λvs l=>∃j d e ps,ng d e= .ok ps/\cP F H j l/\DatL X.K j [d,e] vs/\ ∀h F' T,cP F H F' T->sW X.K F' h ps->R h T:=by
  refine⟨O,F,E,?_⟩;delta iW at q;cases y:f O with
  |ok d=>
   cases A:g O with
   |ok e=>
    rw[y,A]at q
    let z:(match ng d e with
     | .ok ds=>∀h F' T,cP F H F' T->sW X.K F' h ds->R h T
     | .bad=>hI):=q
    let e0:aC f (aC g gB) O= .ok [d,e]:=by simp[aC,gB,y,A,bP.bind]
    rw[e0];cases t:ng d e with
    |ok ps=>rw[t]at z;calc λvs j l r x=>⟨j,d,e,ps,t,r,x,z⟩|bad=>rw[t]at z;cases z
   |bad=>rw[y,A]at q;cases q
  |bad=>rw[y]at q;cases q
 refine Call_ (l7 I C hm boot_zip (AT (dA (ha pos pe s Y H _ I hA) λus i qz=>?_) (fA hs.1) (kX (by simp[dC,hs.2]))));let⟨vs,l,m,N,j,d,e,ps,t,r,x,q'⟩:=qz;dsimp[DatL]at x;let⟨v1,_,rfl,n,v2,_,rfl,o,rfl⟩:=x;let⟨ds,M,rfl,rfl,rfl⟩:=YY t;dsimp at n o;let⟨W,xs,rfl,v,l1⟩:=n;let⟨Z,ys,rfl,w,l2⟩:=o;cases N with
 |cons N rr=>
  cases rr with
  |cons r2 rr=>
   cases rr;cases N;cases r2;let⟨Q,a0,p1,z1⟩:=iV (tp:=bJ) m (Sq.same (tp:=bJ) r.sub v);let⟨S,a3,p2,z2⟩:=iV (tp:=bF) m (Sq.same (tp:=bF) r.sub w);refine YS p1 p2 λh' P b2 b3 b4 b5 b6 b7=>?_
   refine RM (s:={i with heap:=h'}) P ?_;refine⟨i⁻¹+4,[i⁻¹+4,i⁻¹+2,i⁻¹+3,i⁻¹,i⁻¹+1],_,_,l,rfl,m.kept (t':=i.toks) b7,YV (t1:=bJ) (t2:=bF) (a:=W) (b:=Z) ⟨?_,?_,?_,?_,?_,?_,?_,?_,?_,?_⟩,⟨P,b2,⟨_,_,b3⟩,b4,b5⟩,λc hc=>?_,q' _ j l r (YW v w l1 l2)⟩
   all_goals first
    | (show(_:bD)≠_;lia)
    |skip
   let u:i⁻¹<=c:=by
    let B:c=i⁻¹+4\/c=i⁻¹+2\/c=i⁻¹+3\/c=i⁻¹\/c=i⁻¹+1:=by simpa using hc
    rcases B with rfl|rfl|rfl|rfl|rfl
    .exact wR _ _
    .exact wR _ _
    .exact wR _ _
    .exact cU _
    exact wR _ _
   calc m.fpOk u (m.hok.fresh u)
def hO(i j:bD)(a:MS):J D->MS
 | [],O=>.ok (.nx O)|d::ds,O=>match d with
  | .t [x,y]=>(a ((O.set i (.val x)).set j (.val y))).bind λfl=>match fl with
   | .nx b=>hO i j a ds b| .ct b=>hO i j a ds b| .bk b=>.ok (.nx b)| .rt d=>.ok (.rt d)| .rr d b=>.ok (.rr d b)| .rn s=>.ok (.rn s)
  |_=>.bad
def wI(i j:bD)(fl:ML)(a:MS):MS:=λO=>(fl O).bind λds=>hO i j a ds O
def Y0{E:rE}{x y:D}(q:kP X Fa Ha (hO i j b (.t [x,y]::ds) O) E){N:St->Hp->Prop}(c:∀a Y F H,SR X.K Fa Ha F H a Y->kP X Fa Ha (hO i j b ds a) E->N Y H):
 kP X Fa Ha (b ((O.set i (.val x)).set j (.val y))) {E with nx:=N,ct:=N,bk:=E.nx}:=by
 delta hO at q;revert q;show kP X Fa Ha ((b ((O.set i (.val x)).set j (.val y))).bind _) E->_;cases b ((O.set i (.val x)).set j (.val y))with
 |ok fl=>
  intro q;cases fl with
  |nx a=>calc λY F H S=>c a Y F H S q|ct a=>calc λY F H S=>c a Y F H S q|_=>calc q
 |bad=>calc lX
def Y1{E:rE}(q:kP X Fa Ha (hO i j a (d::ds) O) E):∃x y,d= .t [x,y]:=by
 delta hO at q;split at q
 .exact⟨_,_,rfl⟩
 cases q
def Y2(P:X.calm=bF)(hp:pf (bY X.prog X.w) X.A X.env X.xe)(Z:II X tg iter fl)(W:PG X tg (ma X.K 2 (yR (sR i) (yR (sR j) l9))))(N:nH X body u)(hs:∀x,gi iter X.env x=dX x):
 IS X (.For tg iter body [] pos) (wI i j fl u):=λFa Ha=>lM (JO hp P Z W (KG (Ha:=Ha) N) hs) λE Y H ⟨O,F,S,q⟩=>by
 refine⟨O,F,S.env,?_⟩;delta wI at q;revert q;cases fl O with
 |ok ds=>
  intro q a c H1 C it;let s:=S.grow C;refine⟨λn m r T=>m= ~~~ds-n/\n<= ~~~ds/\ ∃g F',SR X.K c Ha F' T g r/\kP X c Ha (hO i j u (ds.drop n) g) E,⟨_,rfl,lL _,O,c,s.here,kP.here s.gr q⟩,?_⟩;rintro n m r T ⟨rfl,hn,g,F',f,d⟩;let⟨I,M⟩:=it n F' T f.gr.fs f.env.sub;by_cases b:n< ~~~ds
  .let Q:ds[n]? =L ds[n]:=mU b;let⟨G,yl⟩:=I _ Q;refine .inr ⟨G,λY H=>∃O F',SR X.K c Ha F' H O Y/\kP X c Ha (hO i j u (ds.drop (n+1)) O) E,λσ2 H2 h=>⟨~~~ds-(n+1),bZ,rfl,b,h⟩,λx H2 y=>?_⟩;let⟨F2,t,dx⟩:=yl x H2 y;rw[vl b]at d;let⟨x1,y1,o⟩:=Y1 d;rw[o]at d dx;dsimp at dx;let⟨p,xs,rfl,sq,v⟩:=dx;dsimp[DatL]at v;let⟨v1,_,rfl,k,v2,_,rfl,l,rfl⟩:=v;exact⟨p,_,rfl,bX.seqT t.sub sq,rfl,v1,_,rfl,v2,_,rfl,rfl,c,(g.set i (.val x1)).set j (.val y1),F2,((f.grow t).set i k).set j l,Y0 d λρ3 σ3 z H3 B q3=>⟨ρ3,z,B,q3⟩⟩
  let e:n= ~~~ds:=by lia
  subst e;rw[vp (cU _)]at d;calc .inl ⟨M rfl,d r F' T f⟩
 |bad=>calc lX
def LW(c:X.calm=bF)(b:X.N.Nodup)(e:X.N[i]? =L x)(g:Loc X.env.scope x)(f:X.N[j]? =L y)(h:Loc X.env.scope y)(d:X.fn x=bF\/X<<<x=L .local)(a:X.fn y=bF\/X<<<y=L .local):
 PG X (.Tuple [.Name x px,.Name y py] k pt) (ma X.K 2 (yR (sR i) (yR (sR j) l9))):=
 JK c (xg (iD b e g d) (xg (iD b f h a) JJ bQ) bQ) bQ bQ
noncomputable def jS{α:Type}(p:cQ->bP α):cQ->bP α| .val (.t [a,b])::r=>p (.val a:: .val b::r)|_=>.bad
noncomputable def Dw:D->bR (J D)| .t [a,b]=>L [a,b]|_=>bL
def Dx{M:J D}(h:Dw d=L M):∃a b,d= .t [a,b]/\M= [a,b]:=by
 delta Dw at h;symm
 .cases h;exact⟨_,_,rfl,rfl⟩
 cases h
def Y3{p:MT}(S:sX X scope [x,x2] caps js)(u:X.calm=bF):iP X scope (.Tuple [.Name x px,.Name x2 px2] kt pt) [x,x2] caps Dw (ma X.K 2 (yR (sR 0) (yR (sR 1) l9))) (jS p) (jS g) p g where
 pg:=λ_ _ _ _ _=>
  let f:=A4 (S.loc x fF);let k:=A4 (S.loc x2 (fM _ fF))
  LW (i:=0) (j:=1) u S.nd rfl (.inl f) rfl (.inl k) (.inr f) (.inr k)
 ok:=λ{d M v F H as B} e c sm y=>by
  let⟨a,b,rfl,rfl⟩:=Dx e;dsimp at c;let⟨q,xs,rfl,z,l⟩:=c;let w:=l;dsimp[DatL]at l;let⟨m,_,rfl,s,n,_,rfl,t,rfl⟩:=l
  match as,y with
  | [o,A],_=>exact⟨[m,n],rfl,w,q,_,rfl,bX.seqT sm z,rfl,m,_,rfl,n,_,rfl,rfl,rfl,rfl⟩
 hp:=λ{d r} h=>by
  delta jS at h;symm
  .rename_i e;cases e;exact⟨_,rfl⟩
  exact dD rfl h
 lo:=λe=>by let⟨a,b,rfl,rfl⟩:=Dx e;rfl
 eq:=λr e=>by let⟨a,b,rfl,rfl⟩:=Dx e;calc⟨rfl,rfl⟩
abbrev NT(H:Hp)(S:bI->Prop):Prop:=∀b o,S b->H b=L o->aq o=bF/\ ∀φ,o≠ .ext φ
def gA.nt{s:Ob}(r:gA K F H a s):NT H (Ow H a):=λb o h e=>by let⟨u,z,k⟩:=r.own h;rw[e]at z;cases z;calc k
def Ch(K:cG)(H d T:Hp)(S:bI->Prop)(Y:St)(O b:cQ):Prop:=b.length= ~~~O/\ ∀(j:bD) (t:Slot),b[j]? =L t->(O[j]? =L t/\ ∀p s a,t= .obj p s->Y[j]? =L (L (.ref a))->∀c,Ow H a c-> ¬ S c)\/
 ∃p s s' a,t= .obj p s'/\O[j]? =L (.obj p s)/\Y[j]? =L (L (.ref a))/\qI H T a/\gA K d T a s'
def Ch.old(E:gP K F H O Y)(g:cP F (ers H S) F' T)(c:Ch K H F' T S Y O ρ'){q:bD}{t:Ob}(e:ρ'[j]? =L (.obj q t))(f:Y[j]? =L (L (.ref b))):(∃G,O[j]? =L (.obj q G))/\Ow T b=Ow H b/\gA K F' T b t/\Kv T q b:=by
 rcases c.2 j _ e with⟨d,n⟩|⟨p,s,s',a,z,d,A,l,B⟩
 .let v:=n q t b bQ f;let r:=E.ob d f;let⟨o,i,C,x,h,_⟩:=E.at_ j _ d;rw[f]at i;cases i;cases x;exact⟨⟨t,d⟩,CO (r.besideH v g),r.beside v g,λk z=>⟨(h k z).1,λu m=>(h k z).2 u (by rw[<-r.besideH v g];calc m)⟩⟩
 cases z;rw[f]at A;cases A;let r:=E.ob d f;let⟨o,i,C,x,h,_⟩:=E.at_ j _ d;rw[f]at i;cases i;cases x;let⟨w,z,_⟩:=r.o;calc⟨⟨s,d⟩,CP r B l,B,λk y=>⟨(h k y).1,λu m=>((h k y).2 w z).trans (l w u z m)⟩⟩
def gP.stepS(E:gP K F H O Y)(nt:NT H S)(g:cP F (ers H S) F' T)(c:Ch K H F' T S Y O ρ'):gP K F' T ρ' Y:=by
 refine⟨g.tk ⟨E.tb.1.drop nt,E.tb.2⟩,g.sub,by rw[c.1];calc E.len,λj t e=>?_,λj k q t M Z b y n f h l m=>?_⟩
 .cases t with
  |obj q t=>
   let⟨o,d⟩:∃o,Y[j]? =L (L (V.ref o)):=by
    rcases c.2 j _ e with⟨f,_⟩|⟨p,s,s',a,_,_,h,_⟩
    .let⟨_,d,a,rfl,_⟩:=E.at_ j _ f;exact⟨a,d⟩
    exact⟨a,h⟩
   let⟨_,_,r,C⟩:=Ch.old E g c e d;calc⟨_,d,o,rfl,C,r⟩
  |_=>
   rcases c.2 j _ e with⟨f,_⟩|⟨_,_,_,_,z,_⟩
   .let⟨I,d,i⟩:=E.at_ j _ f;refine⟨I,d,?_⟩;first
    |trivial
    | (let⟨v,W,X⟩:=i;calc⟨v,W,X.mono g.fs⟩)
    |exact⟨i.1,λr G=>g.fs _ _ (i.2 r G)⟩
   cases z
 let⟨⟨N,A⟩,w1,_⟩:=Ch.old E g c f l;let⟨⟨P,B⟩,Q,_⟩:=Ch.old E g c h m;intro x u w;rw[w1]at u;rw[Q]at w;calc E.apart j k q N M P b y n A B l m x u w
def SR.stepS(a:SR K Fa Ha F H O Y)(nt:NT H S)(d:∀c,S c->Ha c=bL)(g:cP F (ers H S) F' T)(c:Ch K H F' T S Y O ρ'):SR K Fa Ha F' T ρ' Y:=by
 refine⟨⟨λb u nt z=>g.same b u nt (by rw[kW (λh=>by rw[d b h]at z;cases z)];calc a.gr.same b u nt z),λb h=>?_,λt=>g.tk ⟨(a.gr.tk t).1.drop nt,(a.gr.tk t).2⟩,a.gr.fs.trans g.fs,g.sub,λb m e=>?_⟩,a.env.stepS nt g c,λj q t b k f x i=>?_⟩
 .exact g.more b (by rw[kW (λz=>h (d b z))];calc a.gr.more b h)
 .exact g.new b (a.gr.new b m e) (by rw[kW (λz=>e (d b z))];calc a.gr.more b e)
 let⟨⟨n,l⟩,w1,_⟩:=Ch.old a.env g c k f;rw[w1]at i;calc a.frh j q n b l f x i
def LX{s s':Ob}{p:bD}(E:gP K F H O Y)(f:O[i]? =L (.obj p s))(d:Y[i]? =L (L (.ref a)))(lk:qI H T a)(l:gA K F' T a s'):Ch K H F' T (Ow H a) Y O (O.set i (.obj p s')):=by
 refine⟨by rw[aV],λj t e=>?_⟩;rcases sU e with⟨rfl,rfl,_⟩|⟨n,e⟩
 .exact .inr ⟨p,s,s',a,rfl,f,d,lk,l⟩
 refine .inl ⟨e,λq m b z g c h k=>?_⟩;subst z;calc E.apart i j p s q m a b n f e d g c k h
def gP.step{s s':Ob}{p:bD}(E:gP K F H O Y)(c:O[i]? =L (.obj p s))(b:Y[i]? =L (L (.ref a)))(lk:qI H T a)(g:cP F (ers H (Ow H a)) F' T)(d:gA K F' T a s'):gP K F' T (O.set i (.obj p s')) Y:=
 E.stepS (E.ob c b).nt g (LX E c b lk d)
def SR.step{s s':Ob}{p:bD}(S:SR K Fa Ha F H O Y)(c:O[i]? =L (.obj p s))(b:Y[i]? =L (L (.ref a)))(lk:qI H T a)(g:cP F (ers H (Ow H a)) F' T)(d:gA K F' T a s'):SR K Fa Ha F' T (O.set i (.obj p s')) Y:=
 S.stepS (S.env.ob c b).nt (S.frh i p s a c b) g (LX S.env c b lk d)
def SR.new{s:Ob}(S:SR K Fa Ha F H O Y)(g:cP F H F' T)(y:∀c,Ow T l c->H c=none)(r:gA K F' T l s)(i):SR K Fa Ha F' T (O.set i (.obj 0 s)) (Y.set i (some (.ref l))):=by
 let f:=S.grow g;let m:∀{j:bD} {q t b},O[j]? =some (.obj q t)->Y[j]? =some (some (.ref b))->eP T b l:=λ{j q t b} d a c w E=>by let B:=S.env.ob d a;rw[B.ow g]at w;let⟨u,z,_⟩:=B.own w;rw[y c E]at z;cases z
 refine⟨f.gr,⟨f.env.tb,f.env.sub,by rw[aV,aV];calc f.env.len,λj t e=>?_,λj k q t M N b C n d a o h=>?_⟩,λj q t b d a x A=>?_⟩
 .rcases sU e with⟨rfl,rfl,p⟩|⟨n,e⟩
  .exact⟨some (.ref l),ke (by rw[<-S.env.len];calc p),l,rfl,(λn z=>nomatch z),r⟩
  rw[di n];exact f.env.at_ j t e
 .rcases sU o with⟨rfl,Q,_⟩|⟨G,o⟩
  .cases Q;rcases sU a with⟨rfl,_,_⟩|⟨v,a⟩
   .exact dD rfl n
   rw[di v]at h;exact(m a h).symm
  rcases sU d with⟨rfl,_,_⟩|⟨_,d⟩
  .exact dD rfl G
  rcases sU h with⟨rfl,W,_⟩|⟨I,h⟩
  .cases W;exact m d o
  rcases sU a with⟨rfl,_,_⟩|⟨_,a⟩
  .exact dD rfl I
  exact f.env.apart j k q t M N b C n d a o h
 rcases sU a with⟨rfl,P,_⟩|⟨v,a⟩
 .cases P;cases z:Ha x with|none=>rfl|some u=>exact dD (y x A) (S.gr.more x (by rw[z];simp))
 rcases sU d with⟨rfl,_,_⟩|⟨_,d⟩
 .exact dD rfl v
 calc f.frh j q t b d a x A
noncomputable def Ob.dat:Ob->bR D| .l ds=>L (.l ds)| .tab T=>L (cJ T)| .shf Ts k=>L (.shf (Ts.map cJ++ [.int k]))|_=>bL
open Classical in
noncomputable def xZ(F H:Hp)(S:bI->Prop):Hp:=λb=>if S b then H b else F b
def nh(h:S b):xZ F H S b=H b:=cK h
def eX(h: ¬ S b):xZ F H S b=F b:=cX h
def Dy(n:∀c,S c->F c=bL):bX F (xZ F H S):=λb u e=>by rw[eX λz=>by rw[n b z]at e;cases e];calc e
def LY{T:Tab}(e:F a=L (.dK kvs))(b:jP K F T kvs):bM K F (cJ T) (.ref a):=by let⟨c,d⟩:=Xi b;delta cJ;dsimp;calc⟨a,kvs,rfl,e,c,d⟩
def Y4{s:Ob}(h:s.dat=L d)(k:s.ho K F H o)(e:H a=L o)(n:∀c,Ow H a c->F c=bL):bM K (xZ F H (Ow H a)) d (.ref a):=by
 let g:bX F (xZ F H (Ow H a)):=Dy n;let ea:xZ F H (Ow H a) a=L o:=by rw[nh eO];exact e
 cases s with
 |l ds=>cases h;let⟨xs,rfl,i⟩:=k;dsimp;calc⟨a,xs,rfl,jA.of ea,i.mono g⟩|tab T=>cases h;let⟨kvs,rfl,j⟩:=k;calc LY ea (j.mono g)|row _ _=>cases h|shf Ts n=>
  cases h;let⟨dx,as,rfl,f,m,u⟩:=k;dsimp;refine⟨a,dx,_,rfl,ea,by delta qJ;rw[cO,cA,f];rfl,DatL.of (vH ?_ (.cons (by dsimp) .nil))⟩;let q:∀b∈as,Ow H a b:=λb p=>.inr ⟨_,e,by rw[xO f];calc p⟩
  clear f m ea e;induction u with
  |nil=>calc .nil| @cons T b Ts y z t v=>let⟨kvs,w,x⟩:=z;calc .cons (LY (by rw[nh (q b fF)];calc w) (x.mono g)) (v λc r=>q c (fM _ r))
def gP.view{s:Ob}{p:bD}(E:gP K F H O Y)(w:O[i]? =L (.obj p s))(M:s.dat=L d):∃a,Y[i]? =L (L (.ref a))/\gA K F H a s/\gP K (xZ F H (Ow H a)) H (O.set i (.val d)) Y:=by
 let⟨_,g,a,rfl,_,r⟩:=E.at_ i _ w;let⟨o,I,k⟩:=r.o;let h:bX F (xZ F H (Ow H a)):=Dy r.n;let X:bX (xZ F H (Ow H a)) H:=λb u e=>by
  by_cases z:Ow H a b
  .rw[nh z]at e;exact e
  rw[eX z]at e;exact E.sub b u e
 let Q:qo (xZ F H (Ow H a)):=λb ps e=>by
  by_cases z:Ow H a b
  .rw[nh z]at e;have:=(r.nt b _ z e).1;cases this
  rw[eX z]at e;exact E.tb.2 b ps e
 refine⟨a,g,r,⟨⟨E.tb.1,Q⟩,X,by rw[aV];calc E.len,λj t e=>?_,λj k q t W Z b B n C G=>E.apart j k q t W Z b B n (mu rfl C).2 (mu rfl G).2⟩⟩;rcases sU e with⟨rfl,rfl,_⟩|⟨n,e⟩
 .exact⟨L (.ref a),g,.ref a,rfl,Y4 M k I r.n⟩
 let⟨T,A,f⟩:=E.at_ j t e;refine⟨T,A,?_⟩;cases t with|no=>trivial|val d'=>let⟨x,l,m⟩:=f;calc⟨x,l,m.mono h⟩|is x c=>calc⟨f.1,λp N=>h _ _ (f.2 p N)⟩|obj q t=>let⟨b,rfl,P,y⟩:=f;let S:∀c,Ow H b c-> ¬ Ow H a c:=E.apart j i q t p s b a n.symm e w A g;let⟨u,l,m⟩:=y.o;calc⟨b,rfl,P,λc v=>by rw[eX (S c v)];calc y.n c v,u,l,x3 h m⟩
def kD(i:bD):MS:=λO=>match O[i]? with
 |some (.obj 0 s)=>(match s.dat with
  |some d=>.ok (.nx (O.set i (.val d)))
  |none=>.bad)
 |_=>.bad
section
variable{lp:cW}{v:MS}
def Y5(h:nH X rest v):nH X rest (bO (kD i) v):=λFa Ha=>CS (h Fa Ha) λE Y H u=>by
 let⟨O,F,S,q⟩:=u;delta bO kD at q;split at q
 .rename_i s e;split at q
  .rename_i d p;let⟨a,m,r,c⟩:=S.env.view e p;let l:=S.frh i _ _ a e m;refine⟨O.set i (.val d),xZ F H (Ow H a),⟨⟨S.gr.same,S.gr.more,λt=>⟨(S.gr.tk t).1,c.tb.2⟩,S.gr.fs.trans (Dy r.n),c.sub,λb o f=>?_⟩,c,λj q t b g k=>S.frh j q t b (mu bQ g).2 k⟩,q⟩;rw[eX (λz=>f (l b z))];exact S.gr.new b o f
  cases q
 cases q
def cP.less(g:cP (xZ F H S) H F' T)(a:∀c,S c->F c=bL)(nt:NT H S):cP F H (R.ers F' S) T where
 same:=g.same
 more:=g.more
 tk:=λt=>let r:=g.tk ⟨t.1,λb ps e=>by
  by_cases z:S b
  .rw[nh z]at e;have:=(nt b _ z e).1;cases this
  rw[eX z]at e;calc t.2 b ps e⟩;⟨r.1,λb ps e=>r.2 b ps (vK e)⟩
 fs:=λb v e=>by
  let n: ¬ S b:=λz=>by rw[a b z]at e;cases e
  rw[kW n];exact g.fs b v (by rw[eX n];calc e)
 sub:=λb v e=>g.sub b v (vK e)
 new:=λb e n=>by
  by_cases z:S b
  .exact eK z
  rw[kW z];calc g.new b (by rw[eX z];calc e) n
def kK(i:bD)(t:MT):MT:=λO=>match O[i]? with
 |some (.obj _ s)=>(match s.dat with
  |some d=>t (O.set i (.val d))
  |none=>.bad)
 |_=>t O
def Y6{t:MT}(h:IT X e t):IT X e (kK i t):=mw h λY H Q m=>by
 let⟨O,F,E,q⟩:=m;delta kK at q;split at q
 .rename_i p s l;split at q
  .rename_i d k;let⟨a,u,r,f⟩:=E.view l k;refine⟨_,_,f,?_⟩;revert q;cases t (O.set i (.val d))with|ok b=>calc λq c o j g e=>q c _ j (g.less r.n r.nt) e|bad=>exact lX
  cases q
 calc⟨O,F,E,q⟩
noncomputable def Ob.isD:Ob->bW| .tab _=>bF| .shf _ _=>bF|_=>bJ
noncomputable def Dz:HO->bW| .dK _=>bF| .ins _ _ _=>bF|_=>bJ
def Y7{s:Ob}(r:gA K F H a s)(h:s.isD=bF)(c:Ow H a b):∃o,H b=L o/\Dz o=bF:=by
 let⟨o,e,k⟩:=r.o;rcases c with rfl|⟨f,d,c⟩
 .refine⟨o,e,?_⟩;cases s with|tab T=>let⟨_,rfl,_⟩:=k;rfl|shf Ts n=>let⟨_,_,rfl,_⟩:=k;rfl|_=>cases h
 rw[e]at d;cases d;let⟨kvs,z⟩:=Ku k c;calc⟨_,z,rfl⟩
mutual
theorem bM.less(n:∀b,S b->∃o,F b=L o/\Dz o=bF):∀{d:D} {v:V},fX d<1000->bM K F d v->bM K (R.ers F S) d v
 | .n,_,_,h=>by dsimp at h|-;calc h| .b _,_,_,h=>by dsimp at h|-;calc h| .int _,_,_,h=>by dsimp at h|-;calc h| .str _,_,_,h=>by dsimp at h|-;calc h| .dct _ _,_,z,_=>by rw[fX]at z;lia| .shf _,_,z,_=>by rw[fX]at z;lia| .t ds,_,z,h=>by
  dsimp at h|-;let⟨a,xs,f,c,g⟩:=h;rw[fX]at z;refine⟨a,xs,f,?_,DatL.less n bZ g⟩;rcases c with(c|⟨o,c⟩)|c
  .exact .inl (.inl (by rw[kW λy=>by let⟨o,e,k⟩:=n a y;rw[c]at e;cases e;cases k];calc c))
  .exact .inl (.inr ⟨o,by rw[kW λy=>by let⟨o,e,k⟩:=n a y;rw[c]at e;cases e;cases k];calc c⟩)
  calc .inr c
 | .l ds,_,z,h=>by
  dsimp at h|-;let⟨a,xs,f,c,g⟩:=h;rw[fX]at z;refine⟨a,xs,f,?_,DatL.less n bZ g⟩;rcases c with(c|⟨o,c⟩)|c
  .exact .inl (.inl (by rw[kW λy=>by let⟨o,e,k⟩:=n a y;rw[c]at e;cases e;cases k];calc c))
  .exact .inl (.inr ⟨o,by rw[kW λy=>by let⟨o,e,k⟩:=n a y;rw[c]at e;cases e;cases k];calc c⟩)
  calc .inr c
theorem DatL.less(n:∀b,S b->∃o,F b=L o/\Dz o=bF):∀{ds:J D} {xs:J V},depL ds<1000->DatL K F ds xs->DatL K (R.ers F S) ds xs| [],_,_,h=>by dsimp[DatL]at h|-;calc h|d::ds,_,z,h=>by dsimp[DatL]at h|-;let⟨x,r,a,c,e⟩:=h;rw[depL]at z;calc⟨x,r,a,bM.less n bZ c,DatL.less n bZ e⟩
end
def y4(d:D):bP D:=if fX d<1000 then .ok d else .bad
def yZ(i:bD)(f:ME):ME:=λO=>match O[i]? with
 |some (.obj _ s)=>if s.isD=bF then(match s.dat with
  |some d=>(f (O.set i (.val d))).bind y4
  |none=>.bad)else .bad
 |_=>f O
def Y8(h:IE X e f):IE X e (yZ i f):=gU h λY H Q A=>by
 let⟨O,F,E,q⟩:=A;delta yZ at q;split at q
 .rename_i p s x;split at q
  .rename_i u;split at q
   .rename_i d w;let⟨a,C,r,j⟩:=E.view x w;refine⟨_,_,j,?_⟩;revert q;cases f (O.set i (.val d))with
    |bad=>calc lX|ok y=>
     intro q v B k g l;let q:gE (bM X.K) F H (y4 y) Q:=q;delta y4 at q;split at q
     .rename_i z;refine q v _ k (g.less r.n r.nt) (bM.less (λb c=>?_) z l);let⟨o,m,t⟩:=Y7 r u c;exact⟨o,g.fs b o (by rw[nh c];calc m),t⟩
     cases q
   cases q
  cases q
 calc⟨O,F,E,q⟩
def wJ(e:H a=L o)(h:xL o= [])(z:Ow H a c):c=a:=by
 rcases z with z|⟨d,b,z⟩
 .exact z
 rw[e]at b;cases b;rw[h]at z;cases z
def bz{s:Ob}(n:F a=bL)(e:H a=L o)(h:xL o= [])(k:s.ho K F H o):gA K F H a s:=⟨λb z=>by rw[wJ e h z];calc n,o,e,k⟩
def LZ(n:F a=bL)(b:DatL X.K F ds xs):gA X.K F (upd H a (.l xs)) a (.l ds):=bz n gI bQ ⟨xs,rfl,b⟩
def Y9(S:SR X.K Fa Ha F H O Y)(a:H l=bL)(b:DatL X.K F ds xs)(i):SR X.K Fa Ha F (upd H l (.l xs)) (O.set i (.own ds)) (Y.set i (L (.ref l))):=
 S.new (cP.laidN S.env.sub a (.l xs)) (λc h=>by rw[wJ gI bQ h];calc a) (LZ (bX.free S.env.sub a) b) i
def rx(E:gP X.K F H O Y)(f:O[i]? =L (.obj b (.l ds))):∃a xs,Y[i]? =L (L (.ref a))/\H a=L (.l xs)/\F a=bL/\DatL X.K F ds xs:=by let⟨_,c,a,rfl,_,r⟩:=E.at_ i _ f;let⟨_,d,xs,rfl,e⟩:=r.o;calc⟨a,xs,c,d,r.at,e⟩
def Zb{ys:J V}(h:H a=L (.l xs))(h':T a=L (.l ys)):qI H T a:=λu c e b=>by rw[h]at e;cases e;rw[h']at b;cases b;calc⟨λdx l k z=>(by cases z),rfl⟩
def DA(S:SR X.K Fa Ha F H O Y)(g:O[i]? =L (.obj b (.l ds)))(f:Y[i]? =L (L (.ref a)))(e:F a=bL)(j:DatL X.K F c d):SR X.K Fa Ha F (upd H a (.l d)) (O.set i (.obj b (.l c))) Y:=by let⟨m,xs,h,k,_⟩:=rx S.env g;rw[f]at h;cases h;calc S.step g f (Zb k gI) (mq S.env.sub e _ eO) (LZ e j)
def qM(i:bD):MS:=λO=>.ok (.nx (O.set i (.own [])))
def Zc(a:X.N.Nodup)(c:X.N[i]? =L x)(e:Loc X.env.scope x)(b:X.fn x=bF\/X<<<x=L .local):IS X (.Assign [.Name x p] (.List [] lp) pos) (qM i):=λFa Ha=>
 lM (eB (i:=i) a c e (xl pS) (vO bQ) b) λE Y H f=>by let⟨O,F,S,q⟩:=f;calc⟨lL _,λl d=>q _ F _ (Y9 S d DatL.nil i)⟩
def tB(i:bD)(f:ME):MS:=λO=>match O[i]? with|some (.obj p (.l ds))=>(f O).bind λd=>if ~~~ds<cR then .ok (.nx (O.set i (.obj p (.l (ds++ [d])))))else .bad|_=>.bad
def Zd(b:jG X.N X.env.scope i x)(hs:fV e=bJ)(u:(ap.endLine==cp.line)=bF)(t:zS (.Name x p) "append" X.env (fP (.Name x p) X.env)=fP (.Name x p) X.env)(he:IE X e f):
 IS X (.Expr (.Call (.Attribute (.Name x p) "append" ap) [e] [] cp) pos) (tB i f):=λFa Ha=>
 lM (qd (xu Hm Hq QK CB (kU b.n b.v b.d b.c) (lB he pS (fA hs)) t (by rw[bu (show dC [e]=bF by simp[dC,hs])];rfl) u (fA hs) (kX bQ)) (vO bQ)) λE Y H ⟨O,F,S,q⟩=>by
 delta tB at q;split at q
 .rename_i p ds m;let⟨a,xs,k,h,s,l⟩:=rx S.env m;refine⟨.ref a,k,.inl ⟨rfl,xs,jA.of h⟩,O,F,S.env,bn S q λd w j y o g r q=>?_⟩;split at q
  .rename_i z;let fa:j a=bL:=g.new _ s (by rw[h];simp);let A:=l.length;refine⟨a,xs,w,rfl,rfl,g.same _ _ bQ h,bZ,?_⟩;exact q Y j _ (DA o m k fa (DatL.of (vH (l.mono g.fs).paired (.cons r .nil))))
  cases q
 cases q
end
end
section
def L3(K:cG)(a:bI):It:=
 ⟨λi H=>∃xs x,jA K H a xs/\xs[i]? =L x,
  λi H v T=>∃p x,H p=bL/\v= .ref p/\T=upd H p (.t [.int (i:bH),x])/\ ∀xs,jA K H a xs->xs[i]? =L x,
  λi H=>∃xs,jA K H a xs/\~~~xs<=i⟩
def Ze(e it a:bI)(i:bD)(h:cH):Prop:=(∃b,IsEnum h e it (i:bH) b)/\h.IsListIter it a i
def Zf{e:bI}(V:e≠it):bi P w K (.Tuple elts kk pos) (L3 K a) [e,it] e (Ze e it a)where
 mem:=cS
 obj:=λi h st c b=>by
  let⟨⟨g,f⟩,o,l,_,d⟩:=st;let j:c=e\/c=it:=by simpa using b
  rcases j with rfl|rfl
  .exact⟨_,f,λv q=>by cases(show Iy _=wk v from q)⟩
  exact⟨o,l,λv q=>by rw[d]at q;cases q⟩
 keep:=λi h h' st k=>⟨let ⟨g,f⟩:=st.1;⟨g,k e cS _ f⟩,Heap.IsListIter.at st.2 λo q=>k it cS o q⟩
 item:=by
  intro X B F A b i pe s Y H E I m st C;subst B F A;let⟨xs,x,n,G⟩:=C;let⟨its,M,p,z⟩:=I.list n;let⟨u,hu,ru⟩:=M.get G;let⟨⟨g,f⟩,l⟩:=st;refine wpAny_pyNext_enum_item (items:=its.toArray) (x:=u) f l p.isList (by simpa using hu) V λh' T W Z a4 a5=>?_
  let Q:=LU (t':=s.toks+1) (h':=h') (ch:=[e,it]) (x:=.int (i:bH)) (y:=x) (u:=.int i s.toks) (v:=u) I m (λc o b q=>a5 c o (λz=>b (by simp[z])) (λz=>b (by simp[z])) q) ⟨_,rfl⟩ ru Z;let lt:∀c∈ [e,it],c≠s⁻¹:=λc b=>by
   let j:c=e\/c=it:=by simpa using b
   rcases j with rfl|rfl
   .exact hJ (gH f)
   let⟨o,q,_⟩:=l;exact hJ (gH q)
  let O:∀c∈ [e,it],qG X pe (upd H s⁻¹ (.t [.int (i:bH),x])) c:=λc b=>⟨by rw[fK (lt c b)];calc(m c b).1,(m c b).2⟩
  refine⟨_,rfl,wpAny_letOwnedTupleGo_enum (s:={s with heap:=h',toks:=s.toks+1}) T λr b1 N=>?_⟩;let S:bS X pe Y (upd H s⁻¹ (.t [.int (i:bH),x])) {s with heap:=r,toks:=s.toks+1}:=y0 (s:={s with heap:=h',toks:=s.toks+1}) (t':=s.toks+1) (ch:=[e]) Q (λc b=>O c (by rw[mM.mp b];simp)) λc o b q=>N.extBut _ _ (λz=>b (by simp[z])) q
  refine⟨.ref s⁻¹,_,S,rfl,⟨_,x,I.hok.fresh (cU _),rfl,rfl,λa0 q=>by rw[I.list_inj q n];calc G⟩,⟨⟨u,by simpa using b1⟩,Heap.IsListIter.at W λo q=>N.extBut _ _ V.symm q⟩,λc b=>(O c b).1⟩
 done:=by intro X B F A b i pe s Y H E I m st C;subst B F A;let⟨xs,n,G⟩:=C;let⟨its,M,p,z⟩:=I.list n;let⟨⟨g,f⟩,l⟩:=st;let l1:=M.length;exact wpAny_pyNext_enum_end (items:=its.toArray) (I.ok.hd b) f l p.isList (by simp;lia) λh' k=>⟨rfl,y0 (t':=s.toks) (ch:=[it]) I (λc b=>m c (by rw[mM.mp b];simp)) λc o b q=>k c o (λz=>b (by simp[z])) q⟩
 self:=λ_ _ _ _ _ st h=>let ⟨_,f⟩:=st.1;RD f h
variable [dG] [Pd]
def y7(ds:J D):J D:=pairD (upTo 0 (~~~ds)) ds
def Zg(h:jA K F a xs)(l:DatL K F ds xs):sW K F (L3 K a) (y7 ds):=λn F2 H2 m g=>by
 let q:jA K H2 a xs:=bX.seq g (bX.seq m h);let z:=l.length;let s:(upTo 0 (~~~ds)).length= ~~~ds:=by delta upTo;rw[cA,qZ]
 delta y7 pairD;refine⟨λd c=>?_,λu=>⟨xs,q,by rw[Rk,s]at u;lia⟩⟩;rw[Q1]at c;cases b:ds[n]? with
 |none=>rw[b]at c;revert c;cases(upTo 0 (~~~ds))[n]? <;>intro c<;>cases c
 |some o=>
  let f:n< ~~~ds:=(pK.mp b).1;let w:(upTo 0 (~~~ds))[n]? =some (.int (n:bH)):=by delta upTo;rw[nX,Ri f];simp
  rw[b,w]at c;let e:D.t [.int (n:bH),o]=d:=kE c;subst e;let⟨x,k,dx⟩:=vJ l.paired b;refine⟨⟨xs,x,q,k⟩,λv T y=>?_⟩;let⟨p,A,j,rfl,rfl,r⟩:=y;let i:=r xs q;rw[k]at i;cases i;let fp:=bX.free g j;refine⟨upd F2 p (.t [.int (n:bH),x]),cP.laid g j _,?_⟩;dsimp;calc⟨p,_,rfl,kJ.of gI,DatL.cons (by dsimp) (DatL.cons ((dx.mono m).mono (rG fp _)) DatL.nil)⟩
noncomputable def Zh:D->bP (J D)| .l ds=>.ok (y7 ds)|_=>.bad
def ry(f:ME):ML:=λO=>(f O).bind Zh
def Zi(u:X<<<("enumerate" :U)=L .globalImplicit)(S:X.mg "enumerate" =bL)(hs:fV a=bJ)(P:IE X a f):II X (.Tuple elts k pt) (.Call (.Name "enumerate" p) [a] [] pos) (ry f):=by
 rintro pe s Y H R I ⟨O,F,E,q⟩;let M:IA X [a] (aC f gB):=x6 P yU (fA hs);delta ry at q;cases r:f O with
 |ok d=>
  rw[r]at q;cases d with
  |l ds=>
   let W:∀e F' T,cP F H F' T->sW X.K F' e (y7 ds)->R e T:=q;let G:iM X (aC f gB) Y H λvs i=>∃h,cP F H h i/\DatL X.K h [.l ds] vs:=by
    refine⟨O,F,E,?_⟩;let C:aC f gB O= .ok [.l ds]:=by simp[aC,gB,r,bP.bind]
    rw[C];exact λvs h i n o=>⟨h,n,o⟩
   refine Call_ (l7 I u S boot_enumerate (AT (dA (M pos pe s Y H _ I G) λus g Z=>?_) (fA hs) (kX rfl)));let⟨vs,i,m,w,h,n,o⟩:=Z;let⟨v,rfl,y⟩:=pE o;dsimp at y;let⟨b,xs,rfl,z,Q⟩:=y;cases w with
   |cons w rr=>
    cases rr;cases w;let⟨its,rv,p1,z1⟩:=m.list (bX.seq n.sub z);refine call_enumerate_list p1.isList λh' x A b3 B=>?_
    refine RD (s:={g with heap:=h'}) x ?_;refine⟨g⁻¹+1,[g⁻¹+1,g⁻¹],_,_,i,rfl,m.kept (t':=g.toks) B,Zf (a:=b) (by show(_:bD)≠_;lia),⟨⟨_,x⟩,A⟩,λc N=>?_,W _ h i n (Zg z Q)⟩;let j:g⁻¹<=c:=by
     let t:c=g⁻¹+1\/c=g⁻¹:=by simpa using N
     rcases t with rfl|rfl
     .exact wR _ _
     exact cU _
    calc m.fpOk j (m.hok.fresh j)
  |_=>calc q.elim
 |bad=>rw[r]at q;cases q
noncomputable def ca:J D->bP D| [.int i,.int j]=>.ok (.int (if j<i then j else i))|_=>.bad
noncomputable def cb:J D->bP D| [.int i,.int j]=>.ok (.int (if j>i then j else i))|_=>.bad
def L4{i j:bH}(h:DatL K F [.int i,.int j] xs):xs= [.int i,.int j]:=by dsimp[DatL,bM]at h;let⟨_,_,rfl,rfl,_,_,rfl,rfl,rfl⟩:=h;rfl
def Zj(a:X.calm=bF):jL X (.builtin "min") (vM X ca):=by
 intro pe s Y H xs d Q I r h;let⟨F,ds,c,b,q⟩:=h;delta ca at q;split at q
 .cases L4 b;exact U6 a pe s Y H _ d Q I r ⟨_,_,rfl,dY q c (by dsimp)⟩
 cases q
def Zk(a:X.calm=bF):jL X (.builtin "max") (vM X cb):=by
 intro pe s Y H xs d Q I r h;let⟨F,ds,c,b,q⟩:=h;delta cb at q;split at q
 .cases L4 b;exact U5 a pe s Y H _ d Q I r ⟨_,_,rfl,dY q c (by dsimp)⟩
 cases q
end
noncomputable def yA(Y:J U)(k:U):J U:=if Y.any (· ==k)then Y else Y++ [k]
noncomputable def qA(val:bD->U):bD->J U|0=>[]|i+1=>yA (qA val i) (val i)
def Zl(Y)(v k):(yA Y v).any (· ==k)=(Y.any (· ==k)||decide (k=v)):=by
 delta yA;by_cases h:Y.any (· ==v)=bF
 .rw[cK h];by_cases e:k=v
  .subst e;rw[h];simp
  simp[e]
 rw[cX h,List.any_append];by_cases e:k=v
 .subst e;simp
 let a:(v==k)=bJ:=lT.mpr λh'=>e h'.symm
 simp[a,e]
def L5(Y)(v): ~~~(yA Y v)=if Y.any (· ==v)then ~~~Y else ~~~Y+1:=by delta yA;split<;>simp
theorem L6(val):∀i,~~~(qA val i)<=i|0=>cU _|i+1=>by rw[qA,L5];have:=L6 val i;split<;>lia
def L7{S:U->bW}(d:h.SetOf (strKind prog w) a S n)(e:∀k,S k=S' k)(c:n=b):h.SetOf (strKind prog w) a S' b:=by let z:S=S':=funext e;subst z;subst c;calc d
def DB{S:U->bW}(b:h.SetOf (strKind prog w) a S n)(k:∀o,h.get? a=L o->h'.get? a=L o):h'.SetOf (strKind prog w) a S n:=by let⟨o,M,ep,t,c,r⟩:=b;calc⟨o,M,ep,t,k _ c,r⟩
section
variable{w:cD}{R:pw->bT->Prop}{I:bI}{wr:J bI}{P:bD->bK->Prop}{St:bD->bT->Prop}
theorem L8(W:WalksS prog w A.in1 I fp wr G n P St)(S)(l:S∉fp)(val)(y:∀i v,P i v->∃t,v= .str (val i) t)(f:n+1<zX):∀k i s,n-i=k->i<=n->St i s->
 s.heap.SetOf (strKind prog w) S (λg=>(qA val i).any (· ==g)) (~~~(qA val i))->(∀s',Moved (S::wr) G s s'->s'.heap.SetOf (strKind prog w) S (λg=>(qA val n).any (· ==g)) (~~~(qA val n))->R (.ok (.ret .none)) s')->
 codeAny (bY prog w) A (.builtin "set.update.loop" ⟨[.ref S,.ref I],[]⟩) R s:=by
 let m:S∉wr:=λh=>l (W.sub _ h)
 let a:∀b∈wr,b∈S::wr:=λb f=>fM _ f
 intro k;induction k with
 |zero=>intro i s Q O d C B;obtain rfl:i=n:=bZ;refine oZ F.entry_set_update_loop ?_;rw[A5 F.plain_set_update_loop _];show wpAny _ A.in1 (ai (.ref I)>>=_) _ _ s;refine bV (W.done s _ _ d λs' q=>?_);show wpAny _ A.in1 (ret zW) _ _ s';calc cT (B s' (q.mono a) (DB C λo e=>q.heap S _ m e))
 |succ k T=>
  intro i s Q O d C B;let p:i<n:=bZ;refine oZ F.entry_set_update_loop ?_;rw[A5 F.plain_set_update_loop _];show wpAny _ A.in1 (ai (.ref I)>>=_) _ _ s;refine bV (W.item i s _ _ p d λv s' N x q=>?_);let⟨t,rfl⟩:=y i v N;let E:=DB (h':=s'.heap) C λo e=>q.heap S _ m e
  show wpAny _ A.in1 (ag [g5 (val i) t] (setAdd S (.str (val i) t))>>=_) _ _ s';refine bV (ei ?_);delta setAdd;refine ei (bV ((strKind prog w).pyHash (k:=val i) (strKind_is _ _ _ _) ?_));let c: ~~~(qA val i)+1<zX:=by have:=L6 val i;lia
  refine Hu (knd:=strKind prog w) (s:={s' with toks:=s'.toks+1}) (strKind_is _ _ _ _) rfl E c λh' u H=>?_
  let K:h'.SetOf (strKind prog w) S (λg=>(qA val (i+1)).any (· ==g)) (~~~(qA val (i+1))):=L7 H (λg=>by rw[qA,Zl]) (by rw[qA,L5]);refine cT ⟨Ig F.plain_set_update_loop _,T (i+1) _ bZ p (W.frame _ s' _ _ x (k6 _) λb f o e=>?_) K λM r j=>?_⟩
  .rw[u.2 b (λz:b=S=>l (by rw[<-z];calc f))];exact e
  refine B M (Moved.trans W.gtrans ((q.mono a).then_heap (k6 _) λb o f e=>?_) r) j;rw[u.2 b (λz:b=S=>f (by rw[z];calc fF))];calc e
end
def Zm:lg (.type "tuple") (.type "set")=dX bJ:=by rw[kq];kernel_rfl
def Zn:lg (.type "tuple") (.type "frozenset")=dX bJ:=by rw[kq];kernel_rfl
def Zo:lg (.type "list") (.type "set")=dX bJ:=by rw[kq];kernel_rfl
def Zp:lg (.type "list") (.type "frozenset")=dX bJ:=by rw[kq];kernel_rfl
noncomputable abbrev lO(led:bW):cY:={cls:=.type "set",dict:=bL,data:=.set #[] 0 (.fresh 0 0 led)}
theorem Zq(hh:A.handled=bL)(hl:xY tp s.heap l items)(g:∀(i:bD) (v:bK),items[i]? =L v->∃t,v= .str (val i) t)(n:items.size+1<zX)(h:∀(h':cH) (tk:bD),h'.SetOf (strKind prog w) s⁻¹ (λT=>(qA val items.size).any (· ==T)) (~~~(qA val items.size))->(∀b o,s.heap.get? b=L o->h'.get? b=L o)->Q (.ref s⁻¹) {s with heap:=h',toks:=tk}):
 (A>>>(call (.type "set") [.ref l])) Q E s:=by
 let⟨c,tl,a0⟩:=F.called_set.mro;let N:=F.called_set.made;let a5:=F.called_set.sub;refine k8 (RW ?_);show wpAny _ _ (callAny (.type "set") _) _ _ _;refine cT ⟨Hz _ lW,oZ F.entry_type_call ?_⟩;rw[Rq (Q2 "set" [.ref l] []) rfl];let h1:=F.called_set.notType;let h2:=F.called_set.canCreate;let a8:=F.typeCall_set_1 (.ref l)
 repeat (any_goals (first|assumption|wp_step))
 refine aY (Si (.ref l) (E:=E) (Q₁:=λz s₁=>∃a:bW,z= .ref s⁻¹/\s₁={s with heap:=s.heap.push (lO a)}) λa=>⟨a,rfl,rfl⟩) λr s₁ O=>?_
 cases r with
 |error e=>calc O|ok fl=>
  cases fl with
  |ret z=>
   let⟨a,rfl,rfl⟩:=O;let hS:(s.heap.push (lO a)).get? s⁻¹=L (lO a):=lC _ rfl;let hT:SA {s with heap:=s.heap.push (lO a)} (.ref s⁻¹) "set" :=⟨_,hS,rfl⟩;let a9:=F.called_set.init.lookup;let a7:=F.called_set.init.bind (.ref s⁻¹)
   repeat (any_goals (first|assumption|wp_step))
   refine aY (Ra (R:=wants (λr s₂=>r= .none/\ ∃h' tk,s₂={s with heap:=h',toks:=tk}/\h'.SetOf (strKind prog w) s⁻¹ (λT=>(qA val items.size).any (· ==T)) (~~~(qA val items.size))/\
    (∀b o,s.heap.get? b=L o->h'.get? b=L o)) E) F.called_set.init.plain F.entry_set_init (RN hT ?_)) λr₂ s₂ k=>?_
   .let d:xY tp (s.heap.push (lO a)) l items:=hl.at_ λo e=>gF _ e
    cases tp
    all_goals (
     let⟨ol,y,p,nl,q⟩:=hl;let⟨a6,X,W,C⟩:=ol;simp only at p q;subst p;subst q;let a2:=gF (lO a) y;let a4:=Zm;let a3:=Zn;let S:=Zo;let P:=Zp;let b0:(gw "tuple" ==gw "dict")=bJ:=hG;let a1:(gw "list" ==gw "dict")=bJ:=hG;delta et.«set.__init__» noKeywords AS;generalize H:B5=PI
     wp_walk
     subst H
     first
      |refine A8 d (bV (Sj ?_))
      |refine v5 d (bV (Sj ?_))
     let x:l<s⁻¹:=gH y;let u:A.in1.in1.in1.handled=bL:=by simp[hh]
     let f:l≠(s.heap.push (lO a)).objs.size:=by rw[yJ];exact hJ (Ba x)
     let m:s⁻¹∉ [(s.heap.push (lO a)).objs.size,l]:=by rw[yJ];dsimp[jJ,mM,aU,aZ,not_or];exact⟨hJ (Bf _),ky x⟩
     first
      |refine L8 ((Walks.tuple u _ l f items).toS) s⁻¹ m val g n (items.size-0) 0 _ bZ (lL _) ⟨⟨_,lC _ rfl,rfl,rfl⟩,(RC d _)⟩ ?hS0 ?hR
      |refine L8 ((IU u _ l f items).toS) s⁻¹ m val g n (items.size-0) 0 _ bZ (lL _) ⟨⟨_,lC _ rfl,rfl,rfl⟩,(cH1 d _)⟩ ?hS0 ?hR
     case hS0=>exact L7 ((Qy (knd:=strKind prog w) a).setOf (gF _ hS) (by delta zX;lia)) (λ_=>rfl) rfl
     case hR=>
      intro s' B j;let⟨h',g',d',Z,Y⟩:=s';let eg:g'=s.gens:=B.gens;let ed:d'=s.drawn:=B.drawn;let eo:Y=s.os:=B.os;subst eg;subst ed;subst eo;show wpAny _ _ _ _ _ _;refine cT ?_;show wpAny _ _ (ret zW) _ _ _;refine cT ⟨rfl,h',Z,rfl,j,λb o e=>?_⟩;let n:=gH e;let I:b≠s⁻¹:=hJ n;let K:b≠(s.heap.push (lO a)).objs.size:=by rw[yJ];exact hJ (Ba n)
      calc B.heap b o (by dsimp[jJ,mM,aU,aZ,not_or];calc⟨I,K⟩) (gF _ (gF _ e)))
   cases r₂ with
   |error e=>calc k|ok G=>
    cases G with
    |ret r=>
     let⟨rfl,h',tk,rfl,j,M⟩:=k
     repeat (any_goals (first|assumption|wp_step))
     calc h _ _ j M
    |_=>calc k.elim
  |_=>calc O.elim
section
variable [dG] [Pd]
noncomputable def ce:J D->bR (J U)| []=>L []| .str z::r=>(ce r).map (z:: ·)|_::_=>bL
def r8(zs:J U):bD:=(zs.foldl yA []).length
def se(ds:J D):bP D:=match ce ds with|some a=>if ~~~a<1000 then .ok (.int (r8 a))else .bad|none=>.bad
noncomputable def ni:D->bP D| .t ds=>se ds| .l ds=>se ds|_=>.bad
theorem L9(zs:J U):∀i,i<= ~~~zs->qA (λi=>zs.getD i "") i=(zs.take i).foldl yA []|0,_=>by simp[qA]|i+1,h=>by let a:i< ~~~zs:=bZ;rw[qA,L9 zs i bZ,List.take_add_one,List.foldl_append,mU a];simp[qY,a]
def Zr(zs:J U):qA (λi=>zs.getD i "") (~~~zs)=zs.foldl yA []:=by rw[L9 zs zs.length (cU _),List.take_length]
theorem DC:∀{ds zs xs},ce ds=some zs->DatL K F ds xs->xs=zs.map V.str
 | [],zs,xs,h,l=>by dsimp[ce]at h;cases h;dsimp[DatL]at l;subst l;rfl|d::r,zs,xs,h,l=>by
  dsimp[DatL]at l;let⟨x,e,rfl,b,c⟩:=l;cases d with
  |str z=>
   dsimp[ce]at h;cases a:ce r with
   |none=>rw[a]at h;cases h|some f=>rw[a]at h;cases h;dsimp at b;rw[b.1,DC a c];rfl
  |_=>cases h
abbrev DD(X:Cx)(a:bI)(zs:J U):HO:=.ext λh=>h.SetOf (strKind X.prog X.w) a (λb=>(zs.foldl yA []).any (· ==b)) (r8 zs)
def Zs(n:X.calm=bF):jL X (.type "set") (λvs H Q=>∃t p zs,vs= [.ref p]/\Sq t X.K H p (zs.map V.str)/\~~~zs<1000/\ ∀a,H a=bL->Q (.ref a) (upd H a (DD X a zs))):=by
 intro pe s Y H xs P Q I r h;let⟨t,p,zs,rfl,A,O,q⟩:=h;let⟨u,rfl,E⟩:=pR r;cases E;let⟨its,l,pl,_⟩:=iV I A;let j: ~~~zs= ~~~its:=by have:=l.length;rw[cA]at this;exact this
 let m:its.toArray.size+1<zX:=by rw[hY];delta zX;lia
 refine Zq (val:=λi=>zs.getD i "") (items:=its.toArray) (I.ok.hd n) pl (λi v B=>?_) m λh' F c w=>?_
 .let b:its[i]? =L v:=by simpa using B
  let f:i< ~~~zs:=by rw[j];exact(pK.mp b).1
  let⟨u,g,C⟩:=l.get (i:=i) (x:=V.str zs[i]) (by rw[nX,mU f];rfl);rw[b]at g;cases g;let⟨t,rfl⟩:=C;exact⟨t,by rw[qY,mU f];rfl⟩
 let e:its.toArray.size= ~~~zs:=by rw[hY,j]
 rw[e,Zr]at c;let d:=I.hok.fresh (cU s⁻¹);let⟨o,M,ep,t,y,r⟩:=id c;calc⟨.ref s⁻¹,_,I.laid (o:=DD X s⁻¹ zs) (h':=h') (t':=F) w (cU _) (show _/\_ from⟨c,⟨o,y⟩,λG N z k=>DB z k⟩),rfl,q _ d⟩
def Zt:jL X (.builtin "len") (λvs H Q=>∃a zs,vs= [.ref a]/\H a=L (DD X a zs)/\~~~zs<1000/\Q (.int (r8 zs)) H):=by intro pe s Y H xs p Q I r h;let⟨a,zs,rfl,j,n,q⟩:=h;let⟨u,rfl,k⟩:=pR r;cases k;let⟨⟨o,M,ep,t,b,c,d,l,m,e,g,i⟩,_⟩:=I.hok a _ j;let f:M.size<4096:=e;calc call_len_set b c d g bZ ⟨.int (r8 zs),H,I.tok _,⟨_,by rw[i]⟩,q⟩
def Zu(y:X.calm=bF)(hs:fV e=bJ)(h:X<<<("len" :U)=L .globalImplicit)(j:X.mg "len" =bL)(i:X<<<("set" :U)=L .globalImplicit)(k:X.mg "set" =bL)(he:IE X e f):
 IE X (.Call (.Name "len" p1) [.Call (.Name "set" p2) [e] [] c2] [] c1) (m1 ni f):=by
 refine gU (xo Zt h j wc (lB (mh (Zs y) i k Jo (lB he pS (fA hs)) hG hG (fA hs) (kX rfl)) pS (fA rfl)) hG hG (fA rfl) (kX rfl)) λY H Q q=>?_
 let⟨O,F,E,q⟩:=q;delta m1 at q;refine⟨O,F,E,?_⟩;cases m:f O with
 |ok d=>
  rw[m]at q;let o:gE (bM X.K) F H (ni d) Q:=q;intro v s C g u;rcases YX u with n|⟨t,p,xs,ds,rfl,B,l,z⟩
  .cases d<;>first
    |calc o.elim
    |calc dD rfl (n _).1
    |exact dD rfl (n _).2
  let b:gE (bM X.K) F H (se ds) Q:=by rcases z with rfl|rfl<;>exact o
  delta se at b;split at b
  .rename_i r A;split at b
   .rename_i c;let w:=DC A l;subst w;exact⟨t,p,r,rfl,B.same g.sub,c,λa x=>⟨a,r,rfl,gI,c,b _ s _ (g.trans (cP.laidN g.sub x _)) (by dsimp)⟩⟩
   cases b
  cases b
 |bad=>rw[m]at q;cases q
noncomputable def Ma(b:J fQ):cW:=match b.getLast? with|some (.Return (some (.Call _ [_,_,.Lambda _ _ _ p] _ _)) _)=>p|_=>⟨0,0,0,0⟩
noncomputable def Mc(a:kS)(b:J fQ):kS:=match b.getLast? with|some (.Return (some (.Call _ [_,_,.Lambda _ _ c _] _ _)) _)=>c|_=>a
def Md(b:scope.kind= .function)(h2:scope.isCoroutine=bJ)(c:scope.isGenerator=bJ)(d:(scope.names.all λz=>cE (z.2≠ .cell))=bF)(e:scope.names.lookup x=L .local)(f:scope.names.lookup y=L .free)(g:(scope.names.all λz=>cE (z.2= .free->z.1=y))=bF):rh x y scope:=
 ⟨b,h2,c,λz a=>kR (mE.mp d z a),e,f,λz a=>kR (mE.mp g (z,.free) (gb a)) bQ⟩
def Zv(C:bw P w K mg base j v b m)(h:j<=k):bw P w K mg base k v b m:=by let⟨a,fd,ps,c,d,e,f⟩:=C.ex;calc⟨⟨a,fd,ps,c,d,YH e h,f⟩⟩
def Zw(a:X.N.Nodup)(c:X.N[i]? =L x)(d:Loc X.env.scope x)(hs:em e (L (.Name x p)) pos.line X.env=dX bJ)(b:X.fn x=bF\/X<<<x=L .local)(he:IE X e f):IS X (.Assign [.Name x p] e pos) (dQ i f):=
 KF (λt h=>eB (i:=i) a c d h hs b) he
abbrev MN:=cQ->bP Ob
def yB(K:cG)(F H:Hp)(r:bP Ob)(Q:VK):Prop:=match r with| .ok s=>∀l F' T,cP F H F' T->(∀c,Ow T l c->H c=bL)->gA K F' T l s->Q (.ref l) T| .bad=>hI
def yB.grow{r:bP Ob}{Q:VK}(h:yB K F H r Q)(g:cP F H a b):yB K a b r Q:=by
 cases r with
 |ok s=>calc λl F' T d f=>h l F' T (g.trans d) λc e=>g.free (f c e)|bad=>calc h
def iX{R1:Hp->α->β->Prop}{r:bP α}{Q:VK}{e:β->Hp->Prop}(h:yB K F H (r.bind g) Q)(k:∀a b c d,cP F H c d->R1 c a b->yB K c d (g a) Q->e b d):gE R1 F H r e:=by
 cases r with
 |ok a=>calc λb F' T f i=>k a b F' T f i (yB.grow (show yB K F H (g a) Q from h) f)|bad=>calc h
def sf{s:Ob}{Q:VK}(q:yB K F H (.ok s) Q)(d:bX F H){p:bI}(k:s.ho K F (upd H p o) o)(a:H p=bL)(b:xL o= []:=by rfl):Q (.ref p) (upd H p o):=q p F _ (cP.laidN d a o) (λc e=>by rw[wJ gI b e];calc a) (bz (bX.free d a) gI b k)
inductive tN(X:Cx)(f:MN)(Y:St)(H:Hp)(Q:VK):Prop
 |mk (O:_) (F:_) (_:gP X.K F H O Y) (_:yB X.K F H (f O) Q)
def IN(X:Cx)(e:bU)(f:MN):Prop:=PE X e (tN X f)
def eY(a:MA):MN:=λO=>(a O).bind λds=>if ~~~ds<=cR then .ok (.l ds)else .bad
noncomputable def Me:D->D->bP Ob| .l xs,.l ys=>if ~~~xs+ ~~~ys<=cR then .ok (.l (xs++ys))else .bad|_,_=>.bad
def si(f g:ME):MN:=λO=>(f O).bind λx=>(g O).bind λy=>Me x y
noncomputable def aE:MN:=λ_=>.ok (.tab [])
def iY(t:MT)(f g:MN):MN:=λO=>(t O).bind λc=>if c=bF then f O else g O
def Zx(h:IA X M fa):IN X (.List M pos) (eY fa):=gU (xl h) λY H Q ⟨O,F,E,q⟩=>⟨O,F,E,iX q λds vs e f b a q=>by
 split at q
 .rename_i d;exact⟨by rw[<-a.length];calc d,λp c=>sf q b.sub ⟨vs,rfl,a⟩ c⟩
 calc q.elim⟩
def Zy:fU X (pN .Add) (λx y H Q=>∃l b xs ys,x= .ref l/\y= .ref b/\jA X.K H l xs/\jA X.K H b ys/\~~~xs+ ~~~ys<=cR/\ ∀p,H p=bL->Q (.ref p) (upd H p (.l (xs++ys)))):=by
 intro pe s Y H x y v u Q I G M h;let⟨p1,p2,vs,P,rfl,rfl,i,j,z,q⟩:=h;cases G;cases M;let⟨its,A,⟨⟨C,dd,o,sl⟩,n,w,r,t,hs⟩,S⟩:=I.list i;let⟨a,B,⟨⟨m,E,g,k⟩,F,e,c,d,f⟩,T⟩:=I.list j;simp only at r t c d hs f;subst r t c d hs f;let N:=A.length;let O:=B.length
 refine wg ⟨_,w,rfl⟩ ⟨_,e,rfl⟩ QZ Ro Q0 QU (QP _ _)
  (list_addW p1 p2 _ _ n F bL bL sl k (by dsimp[hY];lia)) ⟨w,e,?_⟩
 let ea:its.toArray++a.toArray=(its++a).toArray:=cS;rw[ea];calc⟨.ref _,_,I.lnew (t':=s.toks) (A.append B) (by rw[cO];lia),rfl,q _ I.fresh⟩
def Zz(m:IE X a f)(n:IE X b g):IN X (.BinOp a .Add b pos) (si f g):=gU (Cm Zy m n) λY H Q ⟨O,F,E,q⟩=>⟨O,F,E,iX q λd v k u l e q=>⟨O,k,E.grow l,iX q λy A F2 H2 c h q=>by
 delta Me at q;split at q
 .split at q
  .rename_i z;dsimp at e h;let⟨p1,vs,rfl,r,i⟩:=e;let⟨p2,t,rfl,s,j⟩:=h;let w:=i.length;let x:=j.length;exact⟨p1,p2,vs,t,rfl,rfl,bX.seq c.sub (bX.seq c.fs r),bX.seq c.sub s,bZ,λp o=>sf q c.sub ⟨_,rfl,DatL.of (vH (i.mono c.fs).paired j.paired)⟩ o⟩
  cases q
 calc q.elim⟩⟩
def ZA:IN X (.Dict [] [] pos) aE:=gU qm λY H Q b=>by let⟨O,F,E,q⟩:=b;calc λp a=>sf q E.sub ⟨[],rfl,.nil⟩ a
def ZB{t:MT}(j:IT X c t)(h:IN X a ff)(i:IN X b gg):IN X (.IfExp c a b pos) (iY t ff gg):=gU (Cg j h i) λY H Q ⟨O,F,E,q⟩=>⟨O,F,E,iX q λd v e k f g q=>by
 cases(show d=v from g);cases d with
 |true=>calc xG ⟨O,e,E.grow f,q⟩
 |false=>calc yS ⟨O,e,E.grow f,q⟩⟩
def mQ(i:bD)(f:MN):MS:=λO=>(f O).bind λs=>.ok (.nx (O.set i (.obj 0 s)))
def ZC(b:X.N.Nodup)(d:X.N[i]? =L x)(g:L2.Loc X.env.scope x)(hs:wH e=bJ)(c:X.fn x=bF\/X<<<x=L .local)(he:IN X e ff):IS X (.Assign [.Name x p] e pos) (mQ i ff):=λFa Ha=>
 lM (eB (i:=i) b d g he (vO hs) c) λE Y H ⟨O,F,S,q⟩=>⟨O,F,S.env,by
 delta mQ at q;revert q;cases ff O with
 |ok s=>calc λq l h j a f r=>q _ _ _ (S.new a f r i)
 |bad=>calc lX⟩
def ZD(l)(items)(n)(b)(a)(m)(sl)(k: ¬(!items.isEmpty&&AY (items.size+a.size))=bF)(c:items.size<=cR)(e:items.size+a.size<=cR+1):
 Meets (et.«list.extend» ⟨[.ref l,.ref b],[]⟩) (λ_ R s=>s.heap.get? l=L {cls:=.type "list",dict:=bL,data:=.seq items n,slots:= #[]}/\s.heap.get? b=L {cls:=.type "list",dict:=bL,data:=.seq a m,slots:=sl}/\R (.ok (.ret zW)) {s with heap:=s.heap.update l (IR λx=>x++a),toks:=s.toks}):=
 .of_wp λprog w A R s h=>by
  let⟨u,g,d,v,os⟩:=s;let⟨i,j,h⟩:=h;let o:=AutoSeq1.idx_int;let p:=AutoSeq1.sub_tuple_tuple;let q:=AutoSeq1.sub_list_list;let r:=AutoSeq1.sub_tuple_list;let t:=AutoSeq1.sub_list_tuple;let f:(items++a).size<=cR+1:=by rw[HD];exact e
  wp_walk using(wpAny_updateSeq i bQ (hz:=c) (_hz':=f)),QL i,QL j;calc⟨_,rfl,h⟩
theorem ZE:Kl X "list.extend" (λx vs H Q=>∃l b xs zs,x= .ref l/\vs= [.ref b]/\H l=L (.l xs)/\jA X.K H b zs/\~~~xs+ ~~~zs<=cR/\Q .n (upd H l (.l (xs++zs)))):=by
 intro pe s Y H x vs v O Q I G E h;let⟨l,b,xs,zs,rfl,rfl,p,y,N,q⟩:=h;cases G;let⟨u,rfl,C⟩:=E.one;cases C;let⟨z,its,n,r,M,e⟩:=I.lstM p;let⟨a,t,⟨⟨o,w,i,m⟩,B,j,d,f,g⟩,P⟩:=I.list y;simp only at d f g;subst d f g;let A:=t.length;let k:its.toArray.size+a.toArray.size<=cR:=by rw[hY,hY];lia
 let c: ¬ (!its.toArray.isEmpty&&AY (its.toArray.size+a.toArray.size))=bF:=by rw[VV k,Sb];exact wQ
 refine gy F.slot_list_extend ⟨_,e,rfl⟩ F.entry_list_extend (F.args_list_extend_2 _ _)
  (ZD l its.toArray n b a.toArray B m c (by rw[hY];lia) bZ) ⟨e,j,?_⟩
 refine⟨.n,_,I.lset (its':=its++a) p e cS (r.append t) ?_,rfl,q⟩;rw[cO]
 lia
noncomputable def sj(i:bD)(O:cQ)(d:D):bP Fl:=match O[i]?,d with|some (.obj p (.l ds)),.l M=>if ~~~ds+ ~~~M<=cR then .ok (.nx (O.set i (.obj p (.l (ds++M)))))else .bad|_,_=>.bad
def lP(i:bD)(f:ME):MS:=λO=>(f O).bind (sj i O)
def ZF(j:jG X.N X.env.scope i x)(hs:fV e=bJ)(A:(ap.endLine==cp.line)=bF)(he:IE X e f):IS X (.Expr (.Call (.Attribute (.Name x p) "extend" ap) [e] [] cp) pos) (lP i f):=λFa Ha=>
 lM (qd (xu Hm PySem.F.slot_list_extend PySem.F.type_list_extend ZE (kU j.n j.v j.d j.c) (lB he pS (fA hs)) rfl (by rw[bu (show dC [e]=bF by simp[dC,hs])];rfl) A (fA hs) (kX rfl)) (vO rfl)) λE Y H ⟨O,F,S,q⟩=>by
 delta lP at q;cases m:f O with
 |ok d=>
  rw[m]at q;let g:kP X Fa Ha (sj i O d) E:=q;delta sj at g;split at g
  .rename_i p ds M u;split at g
   .rename_i T;let⟨a,xs,s,k,z,t⟩:=rx S.env u;let B:∀Y F H,SR X.K Fa Ha F H (O.set i (.obj p (.l (ds++M)))) Y->E.nx Y H:=g;refine⟨.ref a,s,.inl ⟨rfl,xs,jA.of k⟩,O,F,S.env,?_⟩;rw[m];intro w y I h r;dsimp at r;let⟨b,G,rfl,C,o⟩:=r;let P:=t.length;let Q:=o.length;exact⟨a,b,xs,G,rfl,rfl,h.same _ _ rfl k,bX.seq h.sub C,bZ,B Y y _ (DA (S.grow h) u s (h.new _ z (by rw[k];simp)) (DatL.of (vH (t.mono h.fs).paired o.paired)))⟩
   cases g
  cases g
 |bad=>rw[m]at q;cases q
noncomputable def sr(i:bD)(O:cQ)(d:D):bP Fl:=match O[i]?,d with|some (.val (.int a)),.int b=>.ok (.nx (O.set i (.val (.int (a+b)))))|_,_=>.bad
def nj(i:bD)(f:ME):MS:=λO=>(f O).bind (sr i O)
def ZG(r:X.N.Nodup)(h:X.N[i]? =L x)(s:L2.Loc X.env.scope x)(c:X.fn x=bF\/X<<<x=L .local)(he:IE X e f):IS X (.AugAssign (.Name x p) .Add e pos) (nj i f):=λFa Ha=>
 lM (Up (i:=i) r h s he (show JI X .Add _ from UJ) c) λE Y H ⟨O,F,S,q⟩=>by
 delta nj at q;cases c:f O with
 |ok d=>
  rw[c]at q;let g:kP X Fa Ha (sr i O d) E:=q;delta sr at g;split at g
  .rename_i a b h;let⟨o,n,v,rfl,j⟩:=S.env.at_ i _ h;dsimp at j;subst j;let t:∀Y F H,SR X.K Fa Ha F H (O.set i (.val (.int (a+b)))) Y->E.nx Y H:=g;refine⟨.int a,n,O,F,S.env,?_⟩;rw[c];intro w l u m k;dsimp at k;subst k;exact⟨a,b,rfl,rfl,t _ l _ ((S.grow m).set i (by dsimp))⟩
  cases g
 |bad=>rw[c]at q;cases q
theorem Mf:∀{zs us},dR (zs.map V.str) us->∃l:J (U×nA),Je l=us/\l.map (·.1)=zs| [],_,.nil=>⟨[],rfl,rfl⟩|z::r,_,.cons c rr=>by let⟨t,rfl⟩:=c;let⟨l,a,b⟩:=Mf rr;calc⟨(z,t)::l,by rw[<-a];rfl,by rw[fY,b]⟩
def iZ(z:U):J D->bP D
 | [.l ds]=>match ce ds with
  |some a=>if JoinOk z a=bF/\~~~(pu z a)<=cR then .ok (.str (pu z a))else .bad|none=>.bad
 |_=>.bad
def ZH:iI X "str.join" (m6 X iZ):=by
 intro pe s Y H x xs v A Q I o j h;let⟨F,z,ds,d,rfl,r,i,q⟩:=h;let⟨t,rfl⟩:=o;delta iZ at q;split at q
 .let⟨y,rfl,c⟩:=pE i;dsimp at c;let⟨a,ys,rfl,p,e⟩:=c;split at q
  .rename_i B hs;split at q
   .rename_i b;let g:=DC hs e;subst g;let⟨u,rfl,m⟩:=j.one;cases m;let⟨its,n,pl,_⟩:=I.list (bX.seq d p);let⟨l,rfl,f⟩:=Mf n;exact SC.join pl.isList f b.1 λw k=>⟨.str _,H,I.tok _,⟨_,rfl⟩,dY q d (by dsimp;calc⟨trivial,b.2⟩)⟩
   cases q
  cases q
 cases q
def vQ(K:cG)(F H:Hp)(a:bI)(s:Ob)(r:bP (D×Ob))(Q:VK):Prop:=match r with| .ok r=>∀v F' T,qI H T a->cP F (ers H (Ow H a)) F' T->gA K F' T a r.2->bM K F' r.1 v->Q v T| .bad=>hI
abbrev MX:=cQ->bP (D×Ob)
inductive tX(X:Cx)(i:bD)(g:MX)(Y:St)(H:Hp)(Q:VK):Prop
 |mk (O:_) (F:_) (a:_) (p:_) (s:_) (_:gP X.K F H O Y) (_:O[i]? =L (.obj p s)) (_:Y[i]? =L (L (.ref a))) (_:vQ X.K F H a s (g O) Q)
def IX(X:Cx)(i:bD)(e:bU)(g:MX):Prop:=PE X e (tX X i g)
def vQ.grow{s:Ob}{r:bP (D×Ob)}{Q:VK}(q:vQ K F H a s r Q)(ob:gA K F H a s)(g:cP F H b c):vQ K b c a s r Q:=by
 cases r with
 |ok r=>calc λv F' T l f=>q v F' T (λu h e d=>l u h (by rw[ob.here g];calc e) d) ((g.ers ob).trans f)|bad=>calc q
def nk{R1:Hp->α->β->Prop}{s:Ob}{r:bP α}{Q:VK}{e:β->Hp->Prop}(ob:gA K F H a s)(h:vQ K F H a s (r.bind g) Q)(k:∀x b c d,cP F H c d->R1 c x b->vQ K c d a s (g x) Q->e b d):gE R1 F H r e:=by
 cases r with
 |ok x=>calc λb F' T f i=>k x b F' T f i (vQ.grow (show vQ K F H a s (g x) Q from h) ob f)|bad=>calc h
def cf(i:bD)(g:MX)(kk:D->MS):MS:=λO=>match O[i]? with|some (.obj p _)=>(g O).bind λr=>kk r.1 (O.set i (.obj p r.2))|_=>.bad
section
variable{g h:MX}{st:fQ}{v:MS}
def su{E:rE}{T:V->Hp->Prop}(k:∀O F H d v,SR X.K Fa Ha F H O Y->bM X.K F d v->kP X Fa Ha (kk d O) E->T v H)(q:tS X Fa Ha (cf i g kk) E Y H):tX X i g Y H T:=by
 let⟨O,F,S,q⟩:=q;delta cf at q;split at q
 .rename_i p s b;let⟨o,c,a,rfl,n,r⟩:=S.env.at_ i _ b;refine⟨O,F,a,p,s,S.env,b,c,?_⟩;revert q;cases g O with|ok d=>calc λq v e f l j m h=>k _ e f _ v (S.step b c l j m) h q|bad=>exact lX
 cases q
def lZ(i:bD)(g:MX):MS:=cf i g λ_ O=>.ok (.nx O)
def lQ(i j:bD)(g:MX):MS:=cf i g λd O=>.ok (.nx (O.set j (.val d)))
def gQ(i:bD)(g:MX):MS:=cf i g λd O=>.ok (.rr d O)
def Mg(hs:wH e=bJ)(he:IX X i e g):IS X (.Expr e pos) (lZ i g):=λFa Ha=>lM (qd he (vO hs)) λE Y H q=>su (kk:=λ_ O=>.ok (.nx O)) (λO F H d v S _ q=>q Y F H S) q
def ZI(he:IX X i e g):IS X (.Return (L e) pos) (gQ i g):=λFa Ha=>lM (xd he) λE Y H q=>su (kk:=λd O=>.ok (.rr d O)) (λO F H d v S r q=>q v Y F H S r) q
def ZJ(a:X.N.Nodup)(c:X.N[j]? =L x)(f:Loc X.env.scope x)(hs:wH e=bJ)(b:X.fn x=bF\/X<<<x=L .local)(he:IX X i e g):IS X (.Assign [.Name x p] e pos) (lQ i j g):=λFa Ha=>
 lM (eB (i:=j) a c f he (vO hs) b) λE Y H q=>su (kk:=λd O=>.ok (.nx (O.set j (.val d)))) (λO F H d v S r q=>q _ F H (S.set j r)) q
def sv(i:bD)(g:MX)(m:D->D->bP D)(f:ME)(u:MS):MS:=cf i g λd O=>(f O).bind λc=>(m d c).bind λz=>(xQ z).bind λk=>if k=bF then u O else .ok (.nx O)
def ZK(w:fU X (jH op) (rD X a))(r:IX X i e g)(s:IE X b f)(t:wT op b=false)(x:nH X body u):IS X (.If (.Compare e [op] [b] p) body [] pos) (sv i g a f u):=λFa Ha=>
 lM (Ci (Cs w r s t) (x Fa Ha) JF) λE Y H q=>su (kk:=λd O=>(f O).bind λc=>(a d c).bind λz=>(xQ z).bind λk=>if k=true then u O else .ok (.nx O)) (λO F H d v S n q=>⟨O,F,S.env,bn S q λc B m y h o dc q=>⟨m,d,c,h.env.sub,n.mono o.fs,dc,bn h q λz C F2 H2 j A l q=>by
  cases z with
  |b k=>
   dsimp at l;refine⟨k,l,?_⟩;cases k with
   |true=>calc xG ⟨O,F2,j,q⟩|false=>calc yS (q Y F2 H2 j)
  |_=>calc q.elim⟩⟩) q
def qS(i j:bD)(g:MX):MS:=λO=>match O[j]? with
 |some (.obj 0 (.l _))=>cf i g (λd O=>match O[j]? with
  |some (.obj 0 (.l ds))=>if ~~~ds<cR then .ok (.nx (O.set j (.own (ds++ [d]))))else .bad
  |_=>.bad) O
 |_=>.bad
def ZL(h:jG X.N X.env.scope j x)(hs:fV e=bJ)(B:(ap.endLine==py.line)=bF)(z:zS (.Name x p) "append" X.env (fP (.Name x p) X.env)=fP (.Name x p) X.env)(he:IX X i e g):
 IS X (.Expr (.Call (.Attribute (.Name x p) "append" ap) [e] [] py) pos) (qS i j g):=λFa Ha=>
 lM (qd (xu Hm Hq QK CB (kU h.n h.v h.d h.c) (lB he pS (fA hs)) z (by rw[bu (show dC [e]=bF by simp[dC,hs])];rfl) B (fA hs) (kX bQ)) (vO bQ)) λE Y H ⟨O,F,S,q⟩=>by
 delta qS at q;split at q
 .rename_i t A;let⟨a,xs,k,y,M,P⟩:=rx S.env A;refine⟨.ref a,k,.inl ⟨rfl,xs,jA.of y⟩,?_⟩;refine su (Fa:=Fa) (Ha:=Ha) (E:=E) (λW s I d w m u f=>?_) ⟨O,F,S,q⟩;split at f
  .rename_i ds b;split at f
   .rename_i Q;let⟨K,l,r,C,G,o⟩:=rx m.env b;rw[k]at r;cases r;let T:=o.length;refine⟨a,l,w,rfl,rfl,C,bZ,?_⟩;exact f Y s _ (DA m b k G (DatL.of (vH o.paired (.cons u .nil))))
   cases f
  cases f
 cases q
def xP(i:bD)(f:ME):MX:=λO=>(f O).bind λd=>match O[i]? with|some (.obj _ s)=>.ok (d,s)|_=>.bad
def ZM(he:IE X e f):IX X i e (xP i f):=gU he λY H Q m=>by let⟨O,F,a,p,s,E,b,h,q⟩:=m;refine⟨O,F,E,nk (E.ob b h) q λd v j k g l q=>?_⟩;rw[b]at q;calc q v j k (λu n e c=>by rw[e]at c;cases c;calc wE.refl u) (qp g.sub) ((E.ob b h).grow g) l
def i9(t:MT)(g h:MX):MX:=λO=>(t O).bind λc=>if c=bF then g O else h O
def ZN{t:MT}(n:IT X c t)(l:IX X i a g)(m:IX X i b h):IX X i (.IfExp c a b pos) (i9 t g h):=gU (Cg n l m) λY H Q o=>by
 let⟨O,F,a,p,s,E,e,d,q⟩:=o;refine⟨O,F,E,nk (E.ob e d) q λc b f r j k q=>?_⟩;cases(show c=b from k);cases c with
 |true=>calc xG ⟨O,f,a,p,s,E.grow j,e,d,q⟩|false=>calc yS ⟨O,f,a,p,s,E.grow j,e,d,q⟩
def DE(a:J Tab)(k:bH):D:=.shf (a.map cJ++ [.int k])
noncomputable def Ob.inp:Ob->J D->J D| .row a k,ds=>.l a:: .int k::ds| .tab T,ds=>cJ T::ds| .l xs,ds=>.l xs::ds| .shf Ts k,ds=>DE Ts k::ds
noncomputable def ZO(ws:J D):D->bP (D×Ob)| .t [d,.int k]=>.ok (d,.row ws k)|_=>.bad
noncomputable def ZP:D->bP (D×Ob)| .t [d,.dct a vs]=>.ok (d,.tab (a.zip vs))|_=>.bad
noncomputable def ZQ:D->bP (D×Ob)| .t [d,.shf [.dct a e,.dct b f,.dct kc g,.dct c h,.int k]]=>.ok (d,.shf [a.zip e,b.zip f,kc.zip g,c.zip h] k)|_=>.bad
def Ob.dec(s:Ob)(r:bP D):bP (D×Ob):=r.bind λd=>match s with| .row a _=>ZO a d| .tab _=>ZP d| .shf _ _=>ZQ d| .l _=>.bad
def Mh{xs:J D}(y)(r):Ob.dec (.l xs) y≠ .ok r:=by cases y<;>calc λz=>by cases z
def qB(m:J D->bP D)(ds:J D)(s:Ob):bP (D×Ob):=s.dec (m (s.inp ds))
inductive zF(K:cG)(n:bD)(m:J D->Ob->bP (D×Ob))(vs:J V)(H:Hp)(Q:VK)(z3:XK):Prop
 |mk (F:_) (a:_) (s:_) (ds:_) (pre:_) (post:_) (_:vs=pre++ .ref a::post) (_: ~~~pre=n) (_:pC F H) (_:bX F H) (_:gA K F H a s) (_:DatL K F ds (pre++post)) (_:vQ K F H a s (m ds s) Q)
structure Mi(P:fH)(w:cD)(K:cG)(mg:U->bR bK)(base:cH)(k:bD)(x:U)(n:bD)(m:J D->bP D):Prop where
 ex:∃(f:bI) (fd:fO) (ps:J U),fC P w K mg base fS k f fd ps (zF K n (qB m))/\mg x=L (.ref f)/\lE K (.ref f)=bF/\jO K fd ps []
inductive ZR(X:Cx)(i n:bD)(fa:MA)(Y:St)(H:Hp)(Q:J V->Hp->Prop):Prop
 |mk (O:_) (F:_) (a:_) (_:gP X.K F H O Y) (_:Y[i]? =some (some (.ref a))) (_:gE (λF ds vs=>∃pre post,vs=pre++ .ref a::post/\~~~pre=n/\DatL X.K F ds (pre++post)) F H (fa O) Q)
def sy(X:Cx)(i n:bD)(M:J bU)(a:MA):Prop:=PA X M (ZR X i n a)
def ZS(b:jG X.N X.env.scope i y)(k:IA X M fa):sy X i 0 (.Name y py::M) fa:=yT (lB (kU b.n b.v b.d b.c) k (fA bQ)) λY H Q ⟨O,F,a,E,j,q⟩=>⟨.ref a,j,O,F,E,by
 revert q;cases fa O with
 |ok ds=>calc λq vs e f h g=>q _ e f h ⟨[],vs,rfl,rfl,g⟩
 |bad=>calc lX⟩
def ZT(hs:fV e=bJ)(he:IE X e f)(h:sy X i n M fa):sy X i (n+1) (e::M) (aC f fa):=yT (lB he h (fA hs)) λY H Q ⟨O,F,a,E,o,q⟩=>⟨O,F,E,jV q λd v g r m j q=>⟨O,g,a,E.grow m,o,jV q λds vs F2 H2 c k q=>by let⟨pre,b,rfl,p,l⟩:=k;calc dY q c.sub ⟨v::pre,b,rfl,by rw[dB,p],DatL.cons (j.mono c.fs) l⟩⟩⟩
def gM(i:bD)(m:J D->bP D)(a:MA):MX:=λO=>match O[i]? with|some (.obj _ s)=>(a O).bind λds=>qB m ds s|_=>.bad
def ZU(C:Mi X.prog X.w X.K X.mg X.base k x n m)(G:fZ k X.A)(v:X<<<x=L .globalImplicit)(u:(x==("__debug__" :U))=bJ)(d:dC (e::M)=bF)(r:sy X i n (e::M) fa):
 IX X i (.Call (.Name x p) (e::M) [] pos) (gM i m fa):=by
 let⟨f,fd,ps,F,B,y,t⟩:=C.ex;let b:fV e=bJ/\dC M=bF:=by delta dC at d;rw[lA,gD]at d;exact⟨by simpa using d.1,d.2⟩
 refine gU (mf (E:=E0) F G v B y t .nil rY r u (fA b.1) (kX b.2)) λY H Q I=>?_
 let⟨O,F,a,p,s,E,h,b,q⟩:=I;refine⟨O,F,a,E,b,?_⟩;delta gM at q;rw[h]at q;refine nk (E.ob h b) q λds vs j N g l q=>?_
 let⟨pre,c,rfl,z,o⟩:=l;calc⟨j,a,s,ds,pre,c,by rw[jF],z,(E.grow g).tb,g.sub,(E.ob h b).grow g,o,q⟩
structure jd(P:fH)(w:cD)(K:cG)(mg:U->bR bK)(base:cH)(k:bD)(x:U)(m:J D->bP D):Prop where
 c:qQ K dG.rc
 ex:∃(f:bI) (fd:fO) (ps:J U),fC P w K mg base fS k f fd ps (zF K 0 (qB m))/\wC K dG.rc x f/\jO K fd ps []
 ne:(x==("words" :U))=bJ/\(x==("place" :U))=bJ
def jd.no(M:jd P w K mg base k x m)(l)(n):ek x [(("words" :U),V.ref l),("place",.int n)]=bL:=by rw[lJ,M.ne.1,lJ,M.ne.2];rfl
def tf(g:dC M=bF)(d:ah M.length 30=bF)(a:(ap.endLine==pos.line)=bF):fP (.Call (.Attribute (.Name y py) x ap) M [] pos) env=(do
 let b <-fP (.Name y py) env
 lu ap.atName
 let (f,first) <-ag [b] (wm b x (do return (<-importBound (.Name y py) env).getD bF))
 Ji pos f first (lV pos (gG M env)) (ie pos (gt [] env))):=by
 let c:Sk (~~~M+0) (lV pos (gG M env)) (ie pos (gt [] env))=bF:=by delta Sk;rw[bu g];let e: ~~~M<30:=Ht d;show(bF&&bF&&cE (~~~M+0+(if([]:J yO).isEmpty then 0 else 1)<30))=bF;dsimp[RK,rS,tZ];exact kF bZ
 rw[PySem.arm_eval_Call]
 show(do
  let b <-fP (.Name y py) env
  lu ap.atName
  methodCall (.Name y py) x ap pos env b (~~~M+0) _ _)=_
 delta methodCall calleeOf methodCallPos;rw[c,a];rfl
def tm{k:bH}(E:gP X.K F H O Y)(f:O[i]? =L (.obj b (.row ws k))):∃a dx l,Y[i]? =L (L (.ref a))/\H a=L (eM dx l k)/\F a=bL/\bM X.K F (.l ws) (.ref l):=by let⟨_,c,a,rfl,_,r⟩:=E.at_ i _ f;let⟨_,d,dx,l,rfl,e⟩:=r.o;calc⟨a,dx,l,c,d,r.at,e⟩
def kY(i:bD)(m:J D->bP D)(a:MA):MX:=λO=>match O[i]? with|some (.obj _ (.row b k))=>(a O).bind λds=>qB m ds (.row b k)|_=>.bad
def Mj{Q:VK}(M:jd X.prog X.w X.K X.mg X.base k x m)(j:tX X i (kY i m fa) Y H Q):∃a dx fs,Y[i]? =L (L (.ref a))/\H a=L (.ins dG.rc dx fs)/\ek x fs=bL/\iM X fa Y H λvs e=>zF X.K 0 (qB m) (.ref a::vs++ []) e Q E0:=by
 let⟨O,F,a,p,s,E,c,b,q⟩:=j;delta kY at q;rw[c]at q;cases s with
 |row t n=>let⟨r,dx,l,f,o,_⟩:=tm E c;rw[b]at f;cases f;refine⟨a,dx,_,b,o,M.no l n,O,F,E,nk (E.ob c b) q λds vs g e d h q=>?_⟩;calc⟨g,a,_,ds,[],vs,by rw[jF];rfl,rfl,(E.grow d).tb,d.sub,(E.ob c b).grow d,h,q⟩|_=>calc q.elim
def Ml(M:jd X.prog X.w X.K X.mg X.base k x m)(r:fZ k X.A)(e:jG X.N X.env.scope i y)(b:(ap.endLine==pos.line)=bF):IX X i (.Call (.Attribute (.Name y py) x ap) [] [] pos) (kY i m gB):=by
 let⟨f,fd,ps,F,p,o⟩:=M.ex;refine gU (Vp (E:=E0) (kU e.n e.v e.d e.c) M.c p F r o .nil rY (tf bQ bQ b)) λY H Q q=>?_
 let⟨a,dx,s,g,h,j,O,F,E,l⟩:=Mj M q;calc⟨.ref a,g,a,dx,_,rfl,h,j,dY l E.sub DatL.nil⟩
def ZV(b:jd X.prog X.w X.K X.mg X.base k x m)(B:fZ k X.A)(l:jG X.N X.env.scope i y)(g:(ap.endLine==pos.line)=bF)(u:ah (e::M).length 30=bF)(h:dC (e::M)=bF)(s:IA X (e::M) fa):IX X i (.Call (.Attribute (.Name y py) x ap) (e::M) [] pos) (kY i m fa):=by
 let⟨f,fd,ps,F,z,t⟩:=b.ex;let j:fV e=bJ/\dC M=bF:=by delta dC at h;rw[lA,gD]at h;exact⟨by simpa using h.1,h.2⟩
 refine gU (xm (E:=E0) (kU l.n l.v l.d l.c) b.c z F B t .nil rY s (fA j.1) (kX j.2) (tf h u g)) λY H Q q=>?_
 let⟨a,dx,C,j,o,p,r⟩:=Mj b q;calc⟨.ref a,j,a,dx,_,rfl,o,p,r⟩
end
inductive y8(n:bD)(s:Ob)(r:D×Ob)(fl:Fl):Prop
 |mk (O:_) (s':_) (_:(fl= .rr r.1 O\/fl= .nx O/\r.1= .n)) (_:O[n]? =L (.obj 1 s')) (_:(s'=r.2\/ ∃ws k us k',s= .row ws k/\s'= .row us k'/\r.2= .row ws k'))
noncomputable abbrev vR(n:bD)(ds:J D)(s:Ob):cQ:=(ds.take n).map .val++ .obj 1 s::(ds.drop n).map .val
theorem DF{st:fQ}{f:bI}{m:J D->Ob->bP (D×Ob)}(F:jB K x qual st f fd)(S:pT N ps (dU st))(hm:∀ds s r,m ds s= .ok r-> ~~~ds+1= ~~~ps/\ ∃fl,g (mH N.length (vR n ds s))= .ok fl/\y8 n s r fl)(C:∀(_:Pd) (cdv:bK) (A:gW) (outer:J jK) (s:bT) (H:Hp) (E:XK),fZ k (A.deeper (nZ qual (dU st) s⁻¹ f cdv))->
   nH (nG fS P w K mg base N qual (dU st) f cdv A outer s H E).nox (mG st) g):fC P w K mg base fS (k+1) f fd ps (zF K n m):=by
 refine F.ok S (λvs H Q E h=>?_) (λcdv A outer s H vs Q E hr h=>?_)
 .let⟨F,a,s,ds,pre,y,rfl,_,_,_,_,I,q⟩:=h;cases e:m ds s with
  |bad=>rw[e]at q;cases q|ok r=>
   let l1:=I.length;let l2:=(hm ds s r e).1;dsimp[cO,dB]at l1|-
   lia
 let⟨F,a,X,ds,pre,y,rfl,W,ti,sb,ob,I,q⟩:=h;cases e:m ds X with
 |bad=>rw[e]at q;cases q|ok r=>
  rw[e]at q;let⟨_,fl,hg,O,s',a0,hρ,a1⟩:=hm ds X r e;let⟨o0,M,k0⟩:=ob.o
  letI:Pd:=⟨λ_=>a,λ_=>o0⟩
  let l1:=I.length;rw[cO,W]at l1;let d1:DatL K F (ds.take n) pre:=by have:=xy n I.paired;rw[List.take_left' W]at this;exact DatL.of this
  let d2:DatL K F (ds.drop n) y:=by have:=xz n I.paired;rw[RX W]at this;exact DatL.of this
  let only:∀{i:bD} {p t},(vR n ds X)[i]? =L (.obj p t)->i=n:=λ{i p t} e=>by
   let ln: ~~~((ds.take n).map Slot.val)=n:=by rw[cA,kl];lia
   by_cases hi:i<n
   .rw[aP bZ]at e;exact(m4 e).elim
   rw[tR bZ,ln]at e;cases hk:i-n with|zero=>lia|succ j=>rw[hk,List.getElem?_cons_succ]at e;exact(m4 e).elim
  let S0:=yf (N:=N) (K:=K) (Ha:=ers H (Ow H a)) ti (qp sb) (vH (mz (H:=H) d1) (.cons (a:=Slot.obj 1 X) (b:=V.ref a) ⟨a,rfl,λn z=>⟨rfl,λu hu=>by rw[M]at hu;cases hu;calc wE.refl _⟩,ob⟩ (mz d2))) (λi j p s q t a b n d G=>dD ((only d).trans (only G).symm) n) λi p s b d G=>by rw[only d,tR bZ,W,SK]at G;cases G;exact λc hc=>eK hc
  refine⟨_,C ⟨λ_=>a,λ_=>o0⟩ cdv A outer s H E hr F (ers H (Ow H a)),_,F,S0,?_⟩;let dZ:∀{v Y F' T},SR K F (ers H (Ow H a)) F' T O Y->bM K F' r.1 v->Q v T:=λ{v Y F' T} B Z=>by
   let⟨_,_,b,rfl,hb,r'⟩:=B.env.at_ n _ hρ;let⟨rfl,lk⟩:=hb 0 rfl;refine q v F' T (λu u' d G=>by rw[M]at d;cases d;calc lk u' G) B.gr ?_ Z;rcases a1 with rfl|⟨ws,k,us,k',rfl,rfl,z⟩
   .exact r'
   rw[z];let⟨dx,l,rfl,dw⟩:=k0;let⟨o',d,a2,l',rfl,_⟩:=r'.o;let⟨k2,z2⟩:=(lk _ d).1 dx l k rfl;cases z2;exact⟨r'.n,_,d,dx,l,rfl,dw.mono B.gr.fs⟩
  rw[hg];rcases a0 with rfl|⟨rfl,z⟩
  .exact λv Y F' T B Z=>dZ B Z
  calc λY F' T B=>dZ B (by rw[z];dsimp)
section
variable{g h:MX}{tp:cW}{st:fQ}{v:MS}
structure nn(K:cG):Prop where
 c:qQ K dG.rc
 w:xF K dG.rc "words"
 p:xF K dG.rc "place"
def eZ(i:bD):ME:=λO=>match O[i]? with|some (.obj _ (.row a _))=>.ok (.l a)|_=>.bad
def e9(i:bD):ME:=λO=>match O[i]? with|some (.obj _ (.row _ k))=>.ok (.int k)|_=>.bad
def ZW(C:nn X.K)(b:jG X.N X.env.scope i y):IE X (.Attribute (.Name y py) "words" pos) (eZ i):=gU (xk (kU b.n b.v b.d b.c) bQ) λY H Q j=>by
 let⟨O,F,E,q⟩:=j;delta eZ at q;split at q
 .rename_i p m k h;let⟨a,dx,l,e,f,_,g⟩:=tm E h;exact⟨.ref a,e,a,_,dx,_,.ref l,rfl,f,C.c,C.w,rfl,dY q E.sub g⟩
 cases q
def ZX(C:nn X.K)(b:jG X.N X.env.scope i y):IE X (.Attribute (.Name y py) "place" pos) (e9 i):=gU (xk (kU b.n b.v b.d b.c) bQ) λY H Q h=>by
 let⟨O,F,E,q⟩:=h;delta e9 at q;split at q
 .rename_i p j k g;let⟨a,dx,l,e,f,_⟩:=tm E g;exact⟨.ref a,e,a,_,dx,_,.int k,rfl,f,C.c,C.p,rfl,dY q E.sub (by dsimp)⟩
 cases q
noncomputable def Mm(k:bH):bP D->bP D| .ok (.t [d,.int j])=>if j=k then .ok d else .bad|_=>.bad
def pG(i:bD)(m:J D->bP D):ME:=λO=>match O[i]? with|some (.obj _ (.row a k))=>Mm k (m [.l a,.int k])|_=>.bad
def ZY(c:H a=L o)(f:xL o= [])(nt:aq o=bF/\ ∀φ,o≠ .ext φ)(g:cP F (ers H (Ow H a)) F' T)(d:T a=L o)(n:F' a=bL):cP F H F' T where
 same:=λb u n q=>by
  by_cases z:b=a
  .subst z;rw[c]at q;cases q;exact d
  exact g.same b u n (by rw[kW (λy=>z (wJ c f y))];calc q)
 more:=λb h=>by
  by_cases z:b=a
  .subst z;rw[d];simp
  exact g.more b (by rw[kW (λy=>z (wJ c f y))];calc h)
 tk:=λt=>g.tk ⟨t.1.drop λb j y e=>by rw[wJ c f y,c]at e;cases e;calc nt,t.2⟩
 fs:=g.fs
 sub:=g.sub
 new:=λb h i=>by
  by_cases z:b=a
  .subst z;exact n
  calc g.new b h (by rw[kW (λy=>z (wJ c f y))];calc i)
def ZZ(M:jd X.prog X.w X.K X.mg X.base k x m)(B:fZ k X.A)(C:jG X.N X.env.scope i y)(b:(ap.endLine==pos.line)=bF):IE X (.Call (.Attribute (.Name y py) x ap) [] [] pos) (pG i m):=by
 refine gU (Ml (py:=py) M B C b) λY H Q G=>?_
 let⟨O,F,E,q⟩:=G;delta pG at q;split at q
 .rename_i p n k c;let⟨a,dx,l,u,g,I,P⟩:=tm E c;refine⟨O,F,a,p,_,E,c,u,?_⟩;delta kY;rw[c];show vQ _ _ _ _ _ (Ob.dec (.row n k) (m [.l n,.int k])) _;delta Mm at q;split at q
  .rename_i d j e;rw[e];split at q
   .rename_i z;subst z;intro v F' T lk t h r;let⟨W,f,s,S,rfl,_⟩:=h.o;let⟨_,z⟩:=(lk _ _ g f).1 dx l _ rfl;cases z;exact q v F' T (ZY g rfl ⟨rfl,λ_ z=>nomatch z⟩ t f h.at) r
   cases q
  cases q
 cases q
def nq(i:bD)(n:bH):MS:=λO=>match O[i]? with|some (.obj p (.row a k))=>.ok (.nx (O.set i (.row p a (k+n))))|_=>.bad
def Z0{n:bH}(C:nn X.K)(b:jG X.N X.env.scope i y):IS X (.AugAssign (.Attribute (.Name y py) "place" tp) .Add (.Constant (.int n) c cp) pos) (nq i n):=λFa Ha=>
 lM (J1 (kU b.n b.v b.d b.c) qb J2) λE Y H ⟨O,F,S,q⟩=>by
 delta nq at q;split at q
 .rename_i p x k m;let⟨a,dx,l,h,f,j,r⟩:=tm S.env m;refine⟨.ref a,h,a,_,dx,_,.int k,rfl,f,C.c,C.p,rfl,k,n,rfl,rfl,dx,_,f,(by show 2<1000;decide),?_⟩;refine q Y F _ (S.step m h (λu w e g=>?_) (mq S.env.sub j (eM dx l (k+n)) eO) (bz j gI bQ ⟨dx,l,rfl,r⟩));rw[f]at e;cases e;rw[gI]at g;cases g;exact⟨λo t s z=>by cases z;calc⟨_,rfl⟩,rfl⟩
 cases q
def rK(t:MT)(u:MS):bD->MS
 |0,_=>.bad|n+1,O=>(t O).bind λc=>if c=bF then(u O).bind λfl=>match fl with
  | .nx a=>rK t u n a| .ct a=>rK t u n a| .bk a=>.ok (.nx a)| .rt d=>.ok (.rt d)| .rr d a=>.ok (.rr d a)| .rn s=>.ok (.rn s)
  else .ok (.nx O)
def ci(t:MT)(u:MS):MS:=λO=>rK t u 33554432 O
def Z1{t:MT}(k:pf (bY X.prog X.w) X.A X.env X.xe)(j:IT X c t)(i:nH X body u):IS X (.While c body [] pos) (ci t u):=λFa Ha=>
 lM (Ur k j (i Fa Ha)) λE Y H ⟨O,F,S,q⟩=>by
 refine⟨λn Y H=>∃O F,SR X.K Fa Ha F H O Y/\kP X Fa Ha (rK t u n O) E,⟨_,O,F,S,q⟩,?_⟩;rintro n Y H ⟨O,F,S,q⟩;cases n with
 |zero=>calc q.elim|succ n=>
  refine⟨O,F,S.env,?_⟩;delta rK at q;revert q;cases t O with
  |ok c=>
   intro q b d g e h;cases(show c=b from h);cases c with
   |true=>
    refine xG ⟨λf T=>∃O F,SR X.K Fa Ha F T O f/\kP X Fa Ha (rK t u n O) E,λf T w=>⟨n,Bf n,w⟩,O,d,S.grow e,?_⟩;revert q;show kP X Fa Ha ((u O).bind _) E->_;cases u O with
    |ok fl=>
     intro q;cases fl with
     |nx a=>calc λY F H S=>⟨a,F,S,q⟩|ct a=>calc λY F H S=>⟨a,F,S,q⟩|_=>calc q
    |bad=>calc lX
   |false=>calc yS (q Y d g (S.grow e))
  |bad=>calc lX
abbrev vS:=cQ->bP (J D×Ob)
def y9(K:cG)(F H:Hp)(a:bI)(r:bP (J D×Ob))(Q:J V->Hp->Prop):Prop:=match r with| .ok r=>∀v F' T,qI H T a->cP F (ers H (Ow H a)) F' T->gA K F' T a r.2->DatL K F' r.1 v->Q v T| .bad=>hI
inductive Mn(X:Cx)(i:bD)(g:vS)(Y:St)(H:Hp)(Q:J V->Hp->Prop):Prop
 |mk (O:_) (F:_) (a:_) (p:_) (s:_) (_:gP X.K F H O Y) (_:O[i]? =L (.obj p s)) (_:Y[i]? =L (L (.ref a))) (_:y9 X.K F H a (g O) Q)
def fb(X:Cx)(i:bD)(M:J bU)(g:vS):Prop:=PA X M (Mn X i g)
def vU(g:MX):vS:=λO=>(g O).bind λr=>.ok ([r.1],r.2)
def vV(f:ME)(g:vS):vS:=λO=>(f O).bind λd=>(g O).bind λr=>.ok (d::r.1,r.2)
def Mo(hs:fV e=bJ)(he:IX X i e g):fb X i [e] (vU g):=yT (lB he pS (fA hs)) λY H Q h=>by
 let⟨O,F,a,p,s,E,f,d,q⟩:=h;refine⟨O,F,a,p,s,E,f,d,?_⟩;delta vU at q;revert q;cases g O with
 |ok z=>calc λq v F' T l c j b=>q [v] F' T l c j (DatL.cons b DatL.nil)|bad=>calc lX
def Mq{s:Ob}(ob:gA K F H a s)(g:cP F H c b)(l:qI b T a):qI H T a:=λu f e d=>l u f (by rw[ob.here g];calc e) d
def Z2(hs:fV e=bJ)(he:IE X e f)(o:fb X i M b):fb X i (e::M) (vV f b):=yT (lB he o (fA hs)) λY H Q r=>by
 let⟨O,F,a,p,s,E,h,g,q⟩:=r;refine⟨O,F,E,?_⟩;delta vV at q;revert q;cases f O with
 |ok d=>
  intro q v k u c m;refine⟨O,k,a,p,s,E.grow c,h,g,?_⟩;revert q;show y9 X.K F H a ((b O).bind _) Q->_;cases b O with
  |ok z=>calc λq vs F2 H2 l j t n=>q (v::vs) F2 H2 (Mq (E.ob h g) c l) ((c.ers (E.ob h g)).trans j) t (DatL.cons (m.mono j.fs) n)|bad=>calc lX
 |bad=>calc lX
def nr(i:bD)(g:MX)(b:vS):vS:=λO=>match O[i]? with|some (.obj p _)=>(g O).bind λr=>(b (O.set i (.obj p r.2))).bind λa=>.ok (r.1::a.1,a.2)|_=>.bad
def Z3(hs:fV e=bJ)(he:IX X i e g)(A:fb X i M c):fb X i (e::M) (nr i g c):=yT (lB he A (fA hs)) λY H Q C=>by
 let⟨O,F,a,p,s,E,b,d,q⟩:=C;refine⟨O,F,a,p,s,E,b,d,?_⟩;delta nr at q;rw[b]at q;revert q;show y9 X.K F H a ((g O).bind _) Q->_;cases g O with
 |ok z=>
  intro q v m N f k h n;let x:i< ~~~O:=(pK.mp b).1;refine⟨_,m,a,p,z.2,E.step b d f k h,ke x,d,?_⟩;revert q;show y9 X.K F H a ((c (O.set i (.obj p z.2))).bind _) Q->_;cases c (O.set i (.obj p z.2))with
  |ok y=>calc λq vs F2 H2 B l G r=>q (v::vs) F2 H2 (λu I e t=>by let⟨w,j,_⟩:=h.o;calc(f u w e j).trans (B w I j t)) ((k.ersR (E.ob b d) h f).trans l) G (DatL.cons (n.mono l.fs) r)|bad=>calc lX
 |bad=>calc lX
def Mr{Q:VK}{kk:J D->bP D}{b:J V->Hp->Prop}(o:∀ds vs F' T,bX F' T->DatL X.K F' ds vs->gE (bM X.K) F' T (kk ds) (λv H2=>Q v H2)->b vs T)(w:tX X i (λO=>(c O).bind λr=>(kk r.1).bind λd=>.ok (d,r.2)) Y H Q):
 Mn X i c Y H b:=by
 let⟨O,F,a,p,s,E,t,n,q⟩:=w;refine⟨O,F,a,p,s,E,t,n,?_⟩;revert q;show vQ X.K F H a s ((c O).bind _) Q->_;cases c O with
 |ok z=>
  intro q vs F' T l g h j;refine o z.1 vs F' T g.sub j ?_;revert q;show vQ X.K F H a s ((kk z.1).bind λd=>.ok (d,z.2)) Q->_;cases kk z.1 with
  |ok d=>calc λq v F2 H2 f k=>q v F2 H2 (λu x e m=>l u x e (by rw[<-h.here f];calc m)) (g.trans f) (h.grow f) k|bad=>calc lX
 |bad=>calc lX
def vW(m:J D->bP D)(a:vS):MX:=λO=>(a O).bind λr=>(m r.1).bind λd=>.ok (d,r.2)
def ix_tup{c}(d:fb X i M b):IX X i (.Tuple M c pos) (vW cV b):=gU (J3 d) λY H Q q=>Mr (λds vs F' T f a q=>by
 delta cV at q;split at q
 .rename_i z;exact⟨by rw[<-a.length];calc z,λp e=>mv q f a e⟩
 calc q.elim) q
def Z4{id:kO}(h:jL X (.type id) (vM X m))(k:X<<<x=L .globalImplicit)(l:X.mg x=bL)(n:sO x=L (.type id))(a:dC (e::M)=bF)(j:(x==("__debug__" :U))=bJ)(b:(x==("__name__" :U))=bJ)(g:fb X i (e::M) c):IX X i (.Call (.Name x p) (e::M) [] pos) (vW m c):=by
 let d:fV e=bJ/\dC M=bF:=by delta dC at a;rw[lA,gD]at a;exact⟨by simpa using a.1,a.2⟩
 calc gU (mh h k l n g (by simpa using b) j (fA d.1) (kX d.2)) λY H Q q=>Mr (λds vs F' T o f q=>⟨F',ds,o,f,q⟩) q
end
def tq(n:bD)(ws:J D)(k:bH)(ds:J D):cQ:=.row 1 ws k::wG (n-1) ds
def nu(d:D)(O:cQ):bP D:=match(O[0]? :bR Slot)with|some (.obj 1 (.row _ k))=>.ok (.t [d,.int k])|_=>.bad
noncomputable def nJ:Fl->bP D| .rr d O=>nu d O| .nx O=>nu .n O|_=>.bad
noncomputable def qN(np n:bD)(g:MS):J D->bP D| .l a:: .int k::ds=>if ~~~ds+1=np then(g (tq n a k ds)).bind nJ else .bad|_=>.bad
def Z5(ds)(s)(r)(h:qB (qN np n g) ds s= .ok r): ~~~ds+1=np/\ ∃fl,g (mH n (vR 0 ds s))= .ok fl/\y8 0 s r fl:=by
 delta qB at h;cases s with
 |row a k=>
  let h:Ob.dec (.row a k) (if ~~~ds+1=np then(g (tq n a k ds)).bind nJ else .bad)= .ok r:=h;symm
  .rename_i q;refine⟨q,?_⟩;let e:mH n (vR 0 ds (.row a k))=tq n a k ds:=by
    delta tq wG mH;show Slot.obj 1 (.row a k)::(ds.map .val++nR (n-(ds.map Slot.val).length.succ) .no)=_;rw[cA,Nat.sub_sub,SL 1]
   rw[e];cases o:g (tq n a k ds)with
   |bad=>rw[o]at h;cases h|ok fl=>
    rw[o]at h;refine⟨fl,rfl,?_⟩;let f:∀d O,Ob.dec (.row a k) (nu d O)= .ok r->r.1=d/\ ∃c b,O[0]? =L (.obj 1 (.row c b))/\r.2= .row a b:=λd O z=>by
     delta nu at z;split at z
     .rename_i c b p;cases z;exact⟨rfl,c,b,p,rfl⟩
     cases z
    cases fl with
    |rr d O=>let⟨i,c,b,j,m⟩:=f d O h;calc⟨O,_,.inl (by rw[i]),j,.inr ⟨a,k,c,b,rfl,rfl,m⟩⟩|nx O=>let⟨i,c,b,j,m⟩:=f .n O h;calc⟨O,_,.inr ⟨rfl,i⟩,j,.inr ⟨a,k,c,b,rfl,rfl,m⟩⟩|_=>cases h
  cases h
 |tab T=>cases h|shf _ _=>cases h|l xs=>calc dD h (Mh _ _)
def tr(i:bD)(p:bD)(js:J bD)(g:MX)(O:cQ):J D->Ob->bP (J D×Ob):=sY (λ_=>.ok bF) (λY _=>g Y) λs=>lN js (O.set i (.obj p s))
noncomputable def DG:Ob->bW| .row _ _=>bF|_=>bJ
def DH{s:Ob}(h:DG s=bF)(k:s.ho K F H o):∃dx l n,o=eM dx l n:=by
 cases s with
 |row a n=>let⟨dx,l,rfl,_⟩:=k;calc⟨dx,l,n,rfl⟩|_=>cases h
def Z6{s:Ob}{n:bH}(k:s.ho K F H (eM dx l n)):DG s=bF:=by
 cases s with
 |row b n=>rfl|l ds=>let⟨_,z,_⟩:=k;cases z|tab T=>let⟨_,z,_⟩:=k;cases z|shf Ts n=>let⟨_,as,z,a,_⟩:=k;have:=jZ xL z;rw[xO a]at this;rw[<-this]at a;cases a
def Z7(nd:js.Nodup)(Ev:gP X.K F2 H2 O Y)(i:O[c]? =L (.obj j s0))(f:Y[c]? =L (L (.ref a)))(hj:js[ii]? =L c)(hg:∀C fp s H E,IX (pW X ([x]++caps) scope C fp s H E) (ii+1) elt g):De X [x] caps js scope elt Y F2 H2 (λs=>lN js (O.set c (.obj j s))) (λY _=>g Y) (λs F H=>qI H2 H a/\cP F2 (ers H2 (Ow H2 a)) F H/\gA X.K F H a s/\DG s=bF)where
 sm:=λg=>⟨g.2.1.fs,g.2.1.sub⟩
 up:=λ{x F H F' T} g h=>⟨λu G e t=>g.1 u G e (by rw[<-g.2.2.1.here h];calc t),g.2.1.trans h,g.2.2.1.grow h,g.2.2.2⟩
 ac:=λ{x F H b vs} a3 g p W h3=>by
  let N:a≠b:=λz=>(Ev.ob i f).some (by rw[z];calc p)
  let⟨w,m,k⟩:=g.2.2.1.o;let⟨dx,ll,n,rfl⟩:=DH g.2.2.2 k;exact⟨λu G e t=>by rw[fK N]at t;calc g.1 u G e t,⟨λb o nt q=>by rw[fK (bh (vK q) p)];calc g.2.1.same b o nt q,CL g.2.1.more _ _,λti=>⟨(g.2.1.tk ti).1.updL W _,(g.2.1.tk ti).2⟩,g.2.1.fs,mo g.2.1.sub h3 _,g.2.1.new⟩,bz g.2.2.1.at (by rw[fK N];calc m) rfl (CN (o:=eM dx ll n) (λb (z:b∈([]:J bI))=>nomatch z) k),g.2.2.2⟩
 env:=λg h d=>K7 nd d (Ev.step i f g.1 g.2.1 g.2.2.1) h
 run:=λ{C fp a2 H0 E pe s F H M vz r} I lz le B Ee P=>by
  let Z:c< ~~~O:=(pK.mp i).1
  match M,le,vz,lz with
  | [S],_,[v0],_=>
  let a0:([S].map Slot.val++lN js (O.set c (.obj j r)))[ii+1]? =L (.obj j r):=by show(lN js (O.set c (.obj j r)))[ii]? =_;delta lN;rw[nX,hj];show L (ym ((O.set c (.obj j r)).getD c .no))=_;rw[qY,ke Z];rfl
  let a1:([v0].map L++mP js Y)[ii+1]? =L (L (.ref a)):=by show(mP js Y)[ii]? =_;delta mP;rw[nX,hj];show L (Y.getD c bL)=_;rw[qY,f];rfl
  refine dA (hg C fp a2 H0 E pe s _ H (λv T=>∃y F',g ([S].map .val++lN js (O.set c (.obj j r)))= .ok y/\qI H T a/\cP F (ers H (Ow H a)) F' T/\gA X.K F' T a y.2/\bM X.K F' y.1 v) I ⟨_,F,a,j,r,Ee,a0,a1,?_⟩) λu s1 qz=>?_
  .cases e:g ([S].map .val++lN js (O.set c (.obj j r)))with|ok y=>calc λv F' T l A r' Q=>⟨y,F',rfl,l,A,r',Q⟩|bad=>exact P e
  let⟨v,H1,I1,r1,y,F',e,l,A,rr,Q⟩:=qz;let⟨w,m,k⟩:=B.2.2.1.o;let⟨dx,ll,n,rfl⟩:=DH B.2.2.2 k;let⟨w',e2,k'⟩:=rr.o;let⟨n',rfl⟩:=(l _ w' m e2).1 dx ll n rfl;refine⟨v,H1,I1,r1,y.1,y.2,F',e,⟨λu G e t=>(B.1 u _ e m).trans (l _ G m t),(B.2.1.ersR (Ev.ob i f) B.2.2.1 B.1).trans A,rr,Z6 k'⟩,A.fs,λb vs p W=>?_,Q⟩;let N:b≠a:=λz=>by rw[z,m]at p;cases p
  let P: ¬ Ow H a b:=λz=>N (wJ m rfl z)
  calc⟨A.same b _ rfl (by rw[kW P];calc p),A.new b W (by rw[kW P,p];simp)⟩
def nv(i:bD)(js:J bD)(fl:ML)(g:MX):MX:=λO=>match O[i]? with|some (.obj p (.row a k))=>(fl O).bind λds=>if ~~~ds<=cR then(tr i p js g O ds (.row a k)).bind λr=>.ok (.l r.1,r.2)else .bad|_=>.bad
def Z8(S:sX X scope [x] caps js)(hc:X.calm=bF)(hi:II X (.Name x px) iter fl)(hj:js[ii]? =L i)(hg:∀C fp s H E,IX (pW X ([x]++caps) scope C fp s H E) (ii+1) elt g)(hs:∀x,gi iter X.env x=dX x):IX X i (.ListComp elt [⟨.Name x px,iter,[],0⟩] scope pos) (nv i js fl g):=by
 intro pe s Y H Q I qz;let⟨O,F,a,p,s0,Ev,j,h1,q⟩:=qz;rw[eval_ListComp];refine QI (use:=bL) rfl hs (K9 S I) S.kind S.names ?_;delta nv at q;rw[j]at q;cases s0 with
 |l _=>calc q.elim|tab _=>calc q.elim|shf _ _=>calc q.elim|row M k=>
 dsimp only at q
 let h:=hi pe s Y H (λc H2=>∃F2 ds,fl O= .ok ds/\cP F H F2 H2/\sW X.K F2 c ds) I ⟨O,F,Ev,by
  cases hf:fl O with
  |ok ds=>calc λc F' T g' io=>⟨F',ds,rfl,g',io⟩
  |bad=>rw[hf]at q;calc q⟩
 refine lU h (λv s1 W=>lU W (λa3 s2 h2=>?_) λ_ _ e=>e) λ_ _ e=>e
 let⟨it,fp,tn,c,H2,rfl,I2,b,t0,f2,F2,ds,hf,d,io⟩:=h2;rw[hf]at q;let t:vQ X.K F H a (.row M k) (if ~~~ds<=cR then(tr i p js g O ds (.row M k)).bind λr=>.ok (.l r.1,r.2)else .bad) Q:=q;let ob:=Ev.ob j h1;split at t
 .rename_i G;refine K8 (GG:=λY _=>g Y) (RR:=λN C=>Jn (bY X.prog X.w) X.A X.xe bL (EP X pe Y Q) N C) S hc I2 b (Ld (p:=λ_=>.ok bF) (g:=λ_=>.bad) S) t0 f2 io d.sub (λ_ _ _ _ _=>Lm) (Z7 S.js (Ev.grow d) j h1 hj hg) (λr x e=>by cases e;rfl) ⟨λu u' e e'=>by rw[e]at e';cases e';calc wE.refl u,qp d.sub,ob.grow d,rfl⟩ rfl (λz=>?_) G ?_
  .let z:tr i p js g O ds (.row M k)= .bad:=z;rw[z]at t;exact t
  rintro m C s' T F' vs m' ys k1 hR B ⟨lk,gr,rr,ir⟩ P Z dl hn f a2;let hR:tr i p js g O ds (.row M k)= .ok (ys,k1):=hR;rw[hR]at t;let q2:vQ X.K F H a (.row M k) (.ok (.l ys,k1)) Q:=t;refine⟨m',hn,λh' a1=>⟨.ref m,T,f h' a1,rfl,?_⟩⟩;let⟨w,e1,kk⟩:=rr.o;let⟨dx,ll,n,rfl⟩:=DH ir kk;let na:m≠a:=λz=>by rw[z,e1]at Z;cases Z
  let a0:ers H2 (Ow H2 a) m=bL:=by rw[kW (λz=>by let⟨u,y,_⟩:=(ob.grow d).own z;rw[B]at y;cases y)];exact B
  refine q2 (.ref m) (upd F' m (.l vs)) T (Mq ob d lk) (La (d.ers ob) a0 gr P Z) (bz ?_ e1 rfl (x3 (rG P _) kk)) ?_
  .rw[fK na.symm];exact rr.at
  dsimp;exact⟨m,vs,rfl,jA.of gI,dl.mono (rG P _)⟩
 calc t.elim
def fc:D->bP (J D)
 | .str t=>match m7 t [.str " "]with
  | .ok (.l a)=>.ok a|_=>.bad
 |_=>.bad
inductive Ms(K:cG)(vs:J V)(H:Hp)(Q:VK)(z3:XK):Prop
 |mk (F:_) (x:_) (dx:_) (d:_) (v:_) (ws:_) (_:vs= [.ref x,v]) (_:pC F H) (_:bX F H) (_:H x=L (.ins dG.rc dx [])) (_:F x=bL) (_:bM K F d v) (_:fc d= .ok ws) (_:∀F' H',cP F (ers H (Ow H x)) F' H'->gA K F' H' x (.row ws 0)->Q .n H')
theorem Z9{st:fQ}{f:bI}{s t:U}{M N:cW}(F:jB K x qual st f fd)(S:pT [s,t] [s,t] (dU st))(C:nn K)(hb:mG st= [.Assign [.Attribute (.Name s p1) "words" p2] (.Call (.Attribute (.Name t p3) "split" M) [.Constant (.str " ") c p5] [] N) p7,.Assign [.Attribute (.Name s p8) "place" p9] (.Constant (.int 0) W q1) q2])(hs:jG [s,t] (dU st) 0 s)(ht:jG [s,t] (dU st) 1 t)(hl:(M.endLine==N.line)=bF):fC P w K mg base fS (k+1) f fd [s,t] (Ms K):=by
 refine F.ok S (λvs H Q E h=>?_) (λX A outer s' H vs Q E hr h=>?_)
 .let⟨F,x,dx,d,v,ws,rfl,_⟩:=h;rfl
 let⟨F,x,dx,d,v,ws,rfl,ti,sb,I,fx,Z,m,q⟩:=h;rw[hb];refine⟨_,ez (iF (kU hs.n hs.v hs.d hs.c) (Lu A1 PySem.F.type_str_split X4 rfl rfl hl rfl (rJ ht) (xW rfl (Lq rfl) yU)) rfl) (l8 (iF (kU hs.n hs.v hs.d hs.c) qb rfl)),?_⟩;cases d with
 |str z=>
  delta fc at m;dsimp only at m;split at m
  .rename_i a0 e;cases m;refine⟨[.no,.val (.str z)],F,⟨ti,sb,rfl,λi sl e=>?_,λi j p s q t a b n e1 e2=>?_⟩,?_⟩
   .rcases i with _|_|i
    .cases e;exact⟨_,rfl,trivial⟩
    .cases e;exact⟨_,rfl,v,rfl,Z⟩
    cases e
   .rcases i with _|_|i<;>cases e1
   show gE (bM K) F H (m7 z [.str " "]) _;rw[e];intro v1 B T g G;dsimp at G;let⟨l,xs,rfl,sq,Y⟩:=G;let y:T x=L (.ins dG.rc dx []):=g.same _ _ rfl I;let r:B x=bL:=g.new _ fx (by rw[I];simp);refine⟨.ref x,rfl,x,_,dx,[],rfl,y,C.c,C.w,hG,?_⟩;refine⟨.ref x,rfl,x,_,dx,_,rfl,gI,C.c,C.p,(by show 1<1000;decide),?_⟩;rw[TW];refine q B _ ⟨λb u n e=>?_,λb h=>?_,λt=>?_,g.fs,mo g.sub r _,λb h n=>g.new b h (au n).2⟩ (bz r gI rfl ⟨dx,l,rfl,by dsimp;calc⟨l,xs,rfl,sq,Y⟩⟩)
   .rw[fK (λz=>ar e (.inl z))];exact g.same b u n (vK e)
   .rw[fK (λz=>(au h).1 (.inl z))];exact g.more b (au h).2
   let O:=g.tk ⟨t.1.same λb u q=>vK q,t.2⟩;exact⟨(O.1.drop (S:=λb=>b=x) λb o z e=>by subst z;rw[y]at e;cases e;calc⟨rfl,λ_ z=>nomatch z⟩).same λb u q=>by rw[fK (ar (S:=λb=>b=x) q)];calc vK q,O.2⟩
  cases m
 |_=>cases m
structure Mt(P:fH)(w:cD)(K:cG)(mg:U->bR bK)(base:cH)(k:bD)(x:U):Prop where
 ex:∃(f:bI) (fd:fO) (ps:J U),fC P w K mg base fS k f fd ps (Ms K)/\mg x=L (.ref dG.rc)/\Mk K dG.rc f/\jO K fd ps []
def tu(f:ME):MN:=λO=>(f O).bind λd=>(fc d).bind λa=>.ok (.row a 0)
def bA0(C:Mt X.prog X.w X.K X.mg X.base k y)(hr:fZ (k+1) X.A)(W:X<<<y=L .globalImplicit)(S:(y==("__debug__" :U))=bJ)(i:fV e=bJ)(he:IE X e f):IN X (.Call (.Name y py) [e] [] cp) (tu f):=by
 let⟨fn,fd,ps,Fn,Z,M,N⟩:=C.ex;refine gU (Vq (E:=E0) M Fn hr W Z N .nil rY (lB he pS (fA i)) S (fA i) rfl) λY H Q ⟨O,F,E,q⟩=>⟨O,F,E,iX q λd v x j I B q=>?_⟩
 intro a dx n p ne;cases r:fc d with
 |bad=>rw[r]at q;cases q|ok ws=>
  rw[r]at q;let l:=E.grow I;let m:=cP.laidN l.sub p (.own a);let g:upd j dx (.own a) a=bL:=by rw[fK ne.symm];exact n
  let t:=cP.laidN m.sub g (.ins dG.rc dx []);let h:ers (upd (upd j dx (.own a)) a (.ins dG.rc dx [])) (Ow (upd (upd j dx (.own a)) a (.ins dG.rc dx [])) a)=upd j dx (.own a):=by
   funext b;by_cases z:b=a
   .rw[eK (.inl z),z,g]
   rw[kW (λy=>z (wJ gI rfl y)),fK z]
  refine⟨x,a,dx,d,v,ws,rfl,((l.grow m).grow t).tb,t.sub,gI,bX.free l.sub n,B,r,λF' T s u=>⟨rfl,?_⟩⟩;rw[h]at s;refine q a F' T (m.trans s) (λc P=>?_) u;let⟨o,G,k⟩:=u.o;let⟨_,_,rfl,_⟩:=k;rw[wJ G rfl P];calc n
noncomputable def aF:J D->bP D
 | [.int i]=>.ok (.int i)| [.b b]=>.ok (.int (if b then 1 else 0))
 | [.str z]=>(match Sm z with
  |some n=>if ~~~z<=640 then .ok (.int n)else .bad
  |none=>.bad)
 |_=>.bad
def bA1:jL X (.type "int") (vM X aF):=by
 intro pe s Y H xs d Q I r h;let⟨F,ds,c,b,q⟩:=h;delta aF at q;split at q
 .let⟨x,rfl,a⟩:=pE b;dsimp at a;subst a;exact JT pe s Y H _ d Q I r (.inl ⟨_,rfl,dY q c (by dsimp)⟩)
 .let⟨x,rfl,a⟩:=pE b;dsimp at a;subst a;exact JT pe s Y H _ d Q I r (.inr ⟨_,rfl,dY q c (by dsimp)⟩)
 .let⟨x,rfl,a⟩:=pE b;dsimp at a;let⟨rfl,_⟩:=a;let⟨u,rfl,t,rfl⟩:=pR r;split at q
  .rename_i n e;split at q
   .rename_i f;exact W.KIN.call_text e f ⟨.int n,H,I.tok _,⟨_,rfl⟩,dY q c (by dsimp)⟩
   cases q
  cases q
 cases q
end
section
variable{w:cD}
def bA2:IL (.type "tuple") "keys" =dX bL:=by rw[typeLookup_type,builtinLookup_eq_fast];kernel_rfl
theorem bA3{xs:dE bK}{Q:bR bK->bT->Prop}(j:s.heap.get? a=L ⟨.type "tuple",bL,.seq xs k,sl⟩)(l:A.handled=bL)(h:∀h' tk,(∀b o,s.heap.get? b=L o->h'.get? b=L o)->Q bL {s with heap:=h',toks:=tk}):(A>>>(getAttr? (.ref a) "keys")) Q E s:=by
 let⟨m,g,d,tk,os⟩:=s;let i:∀f,(⟨m,g,d,f,os⟩:bT).TypeIs (.ref a) "tuple" :=λ_=>⟨_,j,rfl⟩
 let n:=sub_AttributeError;let p:=F.slot_tuple_getattribute.lookup;let q:=F.slot_tuple_getattribute.bind (.ref a);let r:=am_tuple_getattr_none;delta getAttr? getAttrBy?;delta getAttrBy
 repeat (any_goals (first|assumption|calc i _| ((with_reducible show wpAny _ _ (call (Value.builtin "tuple.__getattribute__") _ _) _ _ _);refine gy F.slot_tuple_getattribute (i _) am_entry_tuple_getattribute (F.args_tuple_getattribute_2 _ _) (meets_getattribute_miss_tuple a xs k sl "keys" _ bA2 lW) ⟨j,l,λh' f e c=>?_⟩)|wp_step))
 let⟨u,v,t⟩:=c.there;show wpAny _ _ (Rr _ _ _ _ _ _ _) _ _ _;delta Rr
 repeat (any_goals (first|assumption|wp_step))
 calc h _ _ c.keeps
def za:plainId "dict.update.loop" =bF:=lW
def Mu:entryFor table "dict.update.loop" =L et.«dict.update.loop» :=entryFor_of_tree nB
variable{κ:Type} [sP κ]{knd:KeyKind prog w κ}
def ny(knd:KeyKind prog w κ)(h:cH)(its:dE bK)(more:J (κ×bK)):Prop:=its.size= ~~~more/\ ∀(j:bD) k v,more[j]? =L (k,v)->∃p a,its[j]? =L (.ref p)/\h.IsTuple p #[a,v]/\knd.is k a=bF
def ny.keep(x:ny knd h its more)(k:∀p o,h.get? p=L o->o.cls= .type "tuple" ->h'.get? p=L o):ny knd h' its more:=
 ⟨x.1,λj a b e=>let ⟨p,key,h1,⟨o,h2,h3,h4⟩,h5⟩:=x.2 j a b e;⟨p,key,h1,⟨o,k p o h2 h3,h3,h4⟩,h5⟩⟩
def DI{kvs:J (κ×bK)}(x:h.DictOf knd d kvs){o:cY}(e:h.get? d=L o)(c:o.cls= .type "tuple" \/o.cls= .type "tuple_iterator"):hI:=by let⟨f,M,ep,a,b,_⟩:=x;rw[e]at a;cases a;rcases c with c|c<;>rw[b.1]at c<;>injection c with c<;>calc dD c hG
def bA4{R:pw->bT->Prop}(hh:A.handled=bL){t:bI}(hm: ~~~more<=1000):∀m i s kvs,its.size-i=m->i<=its.size->
 s.heap.IsTupleIter it t i->s.heap.IsTuple t its->s.heap.DictOf knd d kvs->ny knd s.heap its more-> ~~~kvs<=i->
 (∀h' tk,h'.DictOf knd d (Ca kvs (more.drop i))->(∀b o,b≠d->b≠it->s.heap.get? b=L o->h'.get? b=L o)->R (.ok (.ret .none)) {s with heap:=h',toks:=tk})->
 codeAny (bY prog w) A (.builtin "dict.update.loop" ⟨[.ref d,.ref it,pP i,.none],[]⟩) R s:=by
 let hz:=vA;intro m;induction m with
 |zero=>
  intro i s kvs hk hi f N y u hl M;refine oZ Mu ?_;rw[A5 za _];let hx:its[i]? =bL:=Hr bZ;show wpAny _ A.in1 (ai (.ref it)>>=_) _ _ s;refine bV (QS hh f N hx λh' hs=>?_);let e0:more.drop i= []:=vp (by rw[<-u.1];lia);rw[e0]at M;let n:d≠it:=λz=>by let⟨o,l,h,_⟩:=f;exact DI y (z▸l) (.inr h)
  calc bV (cT (cT (M h' s.toks (y.extBut hs n) λb o _ h e=>hs b o h e)))
 |succ m ih=>
  intro i s kvs hk hi f N y u hl M;let F:i<its.size:=bZ;refine oZ Mu ?_;rw[A5 za _];let⟨⟨k,v⟩,H⟩:∃x,more[i]? =L x:=⟨more[i]'(by rw[<-u.1];calc F),mU _⟩;let⟨p,r,l,h,h3⟩:=u.2 i k v H;show wpAny _ A.in1 (ai (.ref it)>>=_) _ _ s;refine bV (QO f N l λh' C hs=>?_);let n:d≠it:=λz=>by let⟨o,l,h,_⟩:=f;exact DI y (z▸l) (.inr h)
  let a0:∀q o,s.heap.get? q=L o->o.cls= .type "tuple" ->q≠it:=λq o e c z=>by let⟨o',l,h,_⟩:=f;rw[z,l]at e;cases e;rw[h]at c;injection c with c;exact dD c hG
  let k1:∀q o,s.heap.get? q=L o->o.cls= .type "tuple" ->h'.get? q=L o:=λq o e c=>hs.extBut _ _ (a0 q o e c) e
  let Y:h'.IsTuple t its:=let ⟨o,a,b,c⟩:=N;⟨o,k1 _ _ a b,b,c⟩;let X:ny knd h' its more:=u.keep k1;let B:h'.DictOf knd d kvs:=y.extBut hs.extBut n;let⟨op,I,P,np,T⟩:=(let ⟨o,a,b,c⟩:=h;⟨o,k1 _ _ a b,b,c⟩:h'.IsTuple p #[r,v]);let hT:({s with heap:=h'}:bT).TypeIs (.ref p) "tuple" :=⟨op,I,P⟩;refine bV (ei ?_);refine bV (wpAny_tryCatch ?_);delta cF7;refine bV (o7 hT ?_);rw[cK hG];refine bV (eh I T (cT ?_));show wpAny _ _ (ag [r,v] (dictSet d r v)) _ _ _;refine ei (wpAny_dictSet_pairs (s:={s with heap:=h'}) h3 B (λj Q K=>?_) (by have:=u.1;lia));refine cT ⟨Ig za _,?_⟩;let g:∀q o,h'.get? q=L o->(o.cls= .type "tuple" \/o.cls= .type "tuple_iterator")->j.get? q=L o:=λq o e c=>K.extBut _ _ (λz=>DI B (z▸e) c) e
  let Z:j.IsTuple t its:=let ⟨o,a,b,c⟩:=Y;⟨o,g _ _ a (.inl b),b,c⟩;let E:j.IsTupleIter it t (i+1):=let ⟨o,a,b,c⟩:=C;⟨o,g _ _ a (.inr b),b,c⟩;let e1:more.drop i=(k,v)::more.drop (i+1):=by let⟨G,e⟩:=pK.mp H;rw[vl G,e]
  have:=ih (i+1) {s with heap:=j,toks:=s.toks+1} (B9 kvs k v) bZ F E Z Q (X.keep λq o e c=>g q o e (.inl c)) (hE (stored_length_le kvs k v) bZ) λO tk S W=>by refine M O tk (by rw[e1];calc S) λb o n1 n2 e=>W b o n1 n2 (K.extBut _ _ n1 (hs.extBut _ _ n2 e))
  calc this
theorem bA5{t:bI}(p:A.handled=bL)(u:s.heap.get? t=L ⟨.type "tuple",bL,.seq its n,sl⟩)(C:ny knd s.heap its more)(B: ~~~more<=1000)(h:∀h' tk,h'.DictOf knd s⁻¹ (Ca [] more)->(∀b o,s.heap.get? b=L o->h'.get? b=L o)->Q (.ref s⁻¹) {s with heap:=h',toks:=tk}):
 (A>>>(call (.type "dict") [.ref t])) Q E s:=by
 refine callType_codes (Q₁:=λg v=>g= .ref s⁻¹/\v={s with heap:=s.heap.push {cls:=.type "dict",data:=.dict #[]}}) F.kt_called_dict (F.kt_typeCall_dict_1 _) F.entry_dict_init (kt_code_dict_new _ ⟨rfl,rfl⟩) ?_;rintro g v ⟨rfl,rfl⟩;let a:(s.heap.push {cls:=.type "dict",data:=.dict #[]}).DictOf knd s⁻¹ []:=RT s.heap;let c:(s.heap.push {cls:=.type "dict",data:=.dict #[]}).get? t=L ⟨.type "tuple",bL,.seq its n,sl⟩:=gF _ u;let x:({s with heap:=s.heap.push {cls:=.type "dict",data:=.dict #[]}}:bT).TypeIs (.ref t) "tuple" :=⟨_,c,rfl⟩;refine⟨a.typeIs,F.args_dict_init_2 _ _,?_⟩;delta et.«dict.__init__»;refine bV ?_;delta cE7;refine bV (wpAny_notOrdered_dict a.typeIs ?_);show wpAny _ _ (dX (s⁻¹,[lD t])) _ _ _;refine cT ?_;show wpAny _ _ (QQ "dict.__init__" s⁻¹ (.ref t) [] .none) _ _ _;delta QQ;refine bV (o7 x ?_);rw[cK hG];refine bV (bA3 (s:={s with heap:=s.heap.push {cls:=.type "dict",data:=.dict #[]}}) c p λf m i=>?_);rw[cK (by rfl)];refine bV (g0 ?_);let k:f.IsTuple t its:=⟨_,i _ _ c,rfl,n,rfl⟩;refine bV (A8 (s:={s with heap:=f,toks:=m}) k ?_);let l:∀b o,s.heap.get? b=L o->(f.push {cls:=.type "tuple_iterator",data:=.fields #[.ref t,pP 0]}).get? b=L o:=λb o e=>gF _ (i _ _ (gF _ e))
 refine cT ⟨Ig za _,?_⟩;refine bA4 (more:=more) (its:=its) (t:=t) (it:=f.objs.size) (d:=s⁻¹) (knd:=knd) (A:=A.in1) p B its.size 0 _ [] rfl (lL _) ⟨_,lC _ rfl,rfl,rfl⟩ ⟨_,l _ _ u,rfl,n,rfl⟩ ?_ (C.keep λq o e _=>l q o e) (lL _) λh' tk y z=>?_
 .let⟨o,M,ep,j,r⟩:=a;exact⟨o,M,ep,gF _ (i _ _ j),r⟩
 let G:s⁻¹<f.objs.size:=let ⟨_,_,_,j,_⟩:=a;gH (i _ _ j);calc⟨rfl,h h' tk y λb o e=>z b o (hJ (gH e)) (hJ (SG (gH e) G)) (l b o e)⟩
end
section
open PySem PySem.Spec PyProof.Rows PySem.W L2
variable [dG] [Pd]
noncomputable def hU(T:Tab)(k:U)(d:D):Tab:=if(T.any λp=>cE (p.1=k))=bF then T.map (λp=>if p.1=k then(p.1,d)else p)else T++ [(k,d)]
def jP.any{T:Tab}(h:jP K F T kvs)(k):(kvs.any λkv=>cE (kv.1= .inr k))=T.any λp=>cE (p.1=k):=by
 delta jP at h;induction h with
 |nil=>rfl| @cons p q ps b h t a=>rw[wU,wU,a,h.1];congr 1;by_cases e:p.1=k<;>simp[e]
def jP.put{T:Tab}(h:jP K F T kvs){k:U}(b:bM K F d v):jP K F (hU T k d) (wD kvs (.inr k) v):=by
 delta hU wD;rw[h.any k];split
 .rename_i z;clear z;delta jP at h|-;induction h with
  |nil=>calc .nil| @cons p q ps g h t f=>
   rw[fY,fY];refine .cons ?_ f;let⟨a,c⟩:=h;by_cases e:p.1=k
   .rw[cK e,cK (by rw[a,e])];exact⟨a,b⟩
   rw[cX e,cX (by rw[a];calc C6 e)];exact⟨a,c⟩
 calc vH h (.cons ⟨rfl,b⟩ .nil)
noncomputable def pairsOf:J D->bR Tab| []=>L []| .t [.str k,v]::r=>(pairsOf r).map ((k,v):: ·)|_=>bL
def DJ(T ps:Tab):Tab:=ps.foldl (λT p=>hU T p.1 p.2) T
def jP.merge{ps:Tab}(h:jP K F ps more):∀{T kvs},jP K F T kvs->jP K F (DJ T ps) (mn kvs more):=by
 delta jP at h;induction h with
 |nil=>calc lX| @cons p q ps c h t b=>intro T kvs d;let a:=d.put (k:=p.1) h.2;rw[<-h.1]at a;calc b a
theorem Mv:∀{ds xs ps},pairsOf ds=some ps->DatL K F ds xs->∃kvs,jP K F ps kvs/\jN (λ(x:V) (kv:gN×V)=>∃b,x= .ref b/\kJ K F b [kV kv.1,kv.2]) xs kvs
 | [],xs,ps,h,l=>by dsimp[DatL]at l;subst l;cases h;calc⟨[],.nil,.nil⟩|d::ds,xs,ps,h,l=>by
  delta pairsOf at h;symm
  .rename_i g;exact dD g cS
  .rename_i k v r e;cases e;cases c:pairsOf ds with|none=>rw[c]at h;cases h|some T=>rw[c]at h;cases h;dsimp[DatL]at l;let⟨x,xs,rfl,f,n⟩:=l;let⟨kvs,i,j⟩:=Mv c n;dsimp at f;let⟨b,ys,rfl,m,a⟩:=f;dsimp[DatL,bM]at a;let⟨_,_,rfl,⟨rfl,_⟩,y,_,rfl,a,rfl⟩:=a;exact⟨(.inr k,y)::kvs,.cons ⟨rfl,a⟩ i,.cons ⟨b,rfl,m⟩ j⟩
  cases h
noncomputable def tDrop(T:Tab)(k:U):Tab:=T.filter λp=>cE (p.1≠k)
def jP.drop{T:Tab}(h:jP K F T kvs)(k):jP K F (tDrop T k) (xH kvs (.inr k)):=by
 delta jP at h;induction h with
 |nil=>calc .nil| @cons p q ps c h t b=>
  by_cases e:p.1=k
  .let a:tDrop (p::ps) k=tDrop ps k:=by simp[tDrop,rC,e]
   rw[a,Wn (by rw[h.1,e])];exact b
  let a:tDrop (p::ps) k=p::tDrop ps k:=by simp[tDrop,rC,e]
  rw[a,Wo (by rw[h.1];calc C6 e)];calc .cons h b
section
variable{g:ME}{p2 pos':cW}
def bA6:jL X (.type "dict") λvs H Q=>∃a kvs,vs= [.ref a]/\H a=L (.dK kvs)/\ ∀p,H p=bL->Q (.ref p) (upd H p (.dK kvs)):=by
 intro pe s Y H xs f Q I r h;let⟨a,kvs,rfl,e,q⟩:=h;cases r with
 |cons c t=>cases t;cases c;calc Wk I (.inl e) λp s' d b=>⟨.ref p,_,b,rfl,q p d⟩
def bA7(B:X.calm=bF):jL X (.type "dict") λvs H Q=>∃a xs kvs,vs= [.ref a]/\kJ X.K H a xs/\jN (λ(x:V) (kv:gN×V)=>∃b,x= .ref b/\kJ X.K H b [kV kv.1,kv.2]) xs kvs/\~~~kvs<=1000/\ ∀l,H l=bL->Q (.ref l) (upd H l (.dK (mn [] kvs))):=by
 intro pe s Y H xs us Q I r h;let⟨a,xs,kvs,rfl,F,y,hl,q⟩:=h;let⟨u,rfl,ru⟩:=pR r;cases ru;let⟨its,i,⟨o,E,⟨f,g⟩,n,c⟩,hz⟩:=I.tupleN F
 let z:∀(xs:J V) (kvs:J (gN×V)) (its:J bK),jN (λ(x:V) (kv:gN×V)=>∃b,x= .ref b/\kJ X.K H b [kV kv.1,kv.2]) xs kvs->dR xs its->
  ∃more,KV kvs more/\~~~its= ~~~more/\ ∀(j:bD) k v,more[j]? =L (k,v)->∃p d,its[j]? =L (.ref p)/\s.heap.IsTuple p #[d,v]/\(kA X.prog X.w).is k d=bF:=by
  intro xs kvs its y;induction y generalizing its with
  |nil=>intro i;cases i;calc⟨[],.nil,rfl,λj k v e=>by simp at e⟩
  | @cons x kv xs kvs h t M=>
   intro i;cases i with
   | @cons _ w0 _ its Z r2=>
    let⟨more,m1,m2,m3⟩:=M its r2;let⟨b,rfl,A⟩:=h;cases Z;let⟨N,rj,W,_⟩:=I.tuple A;cases rj with
    | @cons _ d _ _ O P=>
     cases P with
     | @cons _ w1 _ _ S T=>
      cases T;refine⟨(kv.1,w1)::more,.cons ⟨rfl,S⟩ m1,by simp[m2],λj k v e=>?_⟩;cases j with
      |zero=>cases e;calc⟨b,d,rfl,W,eJ O⟩|succ j=>exact m3 j k v e
 let⟨more,m1,m2,m3⟩:=z xs kvs its y i;let m:s.heap.get? a=L ⟨.type "tuple",bL,.seq its.toArray n,o.slots⟩:=by rw[E];cases o;simp only at f g c;subst f g c;rfl
 let C:=m1.length;refine bA5 (knd:=kA X.prog X.w) (more:=more) (I.ok.hd B) m ⟨by rw[hY];calc m2,λj k v e=>let ⟨p,d,g1,g2⟩:=m3 j k v e;⟨p,d,by rw[List.getElem?_toArray];calc g1,g2⟩⟩ bZ λh' tk dd kp=>?_
 let G:=vA;refine⟨.ref s⁻¹,_,I.laid (t':=tk) kp (cU _) (xv (kvs:=mn [] kvs) (vs:=Ca [] more) (by have:=Ks kvs [];dsimp[mF,kz]at this;lia) ?_ (KV.merge m1 .nil) dd),rfl,q _ (I.hok.fresh (cU _))⟩;have:=I.big;calc lT.mpr (ky this)
def fe:D->bP Ob
 | .dct a vs=>.ok (.tab (a.zip vs))| .t ds=>match pairsOf ds with
  |some ps=>if ~~~ps<=1000 then .ok (.tab (DJ [] ps))else .bad|none=>.bad
 |_=>.bad
def bA8(w:X.calm=bF):jL X (.type "dict") λvs H Q=>∃F d v,vs= [v]/\bX F H/\bM X.K F d v/\yB X.K F H (fe d) Q:=by
 intro pe s Y H xs j Q I r h;let⟨F,d,v,rfl,c,e,q⟩:=h;delta fe at q;split at q
 .dsimp at e;let⟨a,kvs,rfl,o,t,u⟩:=e;exact bA6 pe s Y H _ j Q I r ⟨a,kvs,rfl,c _ _ o,λp y=>sf q c ⟨kvs,rfl,qx t u⟩ y⟩
 .rename_i ds;split at q
  .rename_i ps g;split at q
   .rename_i f;dsimp at e;let⟨a,xs,rfl,z,k⟩:=e;let⟨kvs,i,A⟩:=Mv g k;exact bA7 w pe s Y H _ j Q I r ⟨a,xs,kvs,rfl,bX.seqT c z,Paired.mapP A λx kv B=>(by let⟨b,m,n⟩:=B;calc⟨b,m,bX.seqT c n⟩),by rw[<-i.length];calc f,λl f=>sf q c ⟨_,rfl,jP.merge i .nil⟩ f⟩
   cases q
  cases q
 cases q
def fg(f:ME):MN:=λO=>(f O).bind fe
def bA9(g:X.calm=bF)(h:X<<<("dict" :U)=L .globalImplicit)(i:X.mg "dict" =bL)(hs:fV e=bJ)(he:IE X e f):IN X (.Call (.Name "dict" p) [e] [] pos) (fg f):=
 gU (mh (bA8 g) h i cF8 (lB he pS (fA hs)) hG hG (fA hs) (kX bQ)) λY H Q j=>by let⟨O,F,E,q⟩:=j;calc⟨O,F,E,iX q λd v a k c b q=>⟨a,d,v,rfl,c.sub,b,q⟩⟩
def Mw{T:Tab}(E:gP X.K F H O Y)(f:O[i]? =L (.obj b (.tab T))):∃a kvs,Y[i]? =L (L (.ref a))/\H a=L (.dK kvs)/\F a=bL/\jP X.K F T kvs:=by let⟨_,c,a,rfl,_,r⟩:=E.at_ i _ f;let⟨_,d,kvs,rfl,e⟩:=r.o;calc⟨a,kvs,c,d,r.at,e⟩
def Mx(h:H a=L (.dK kvs))(h':T a=L (.dK b)):qI H T a:=λu d e c=>by rw[h]at e;cases e;rw[h']at c;cases c;calc⟨λdx l k z=>(by cases z),rfl⟩
def tw(i:bD)(b a:D):MS:=λO=>match O[i]?,a with|some (.obj p (.tab T)),.str k=>if ~~~T<cR then .ok (.nx (O.set i (.dic p (hU T k b))))else .bad|_,_=>.bad
def mJ(i:bD)(f g:ME):MS:=λO=>(g O).bind λb=>(f O).bind λa=>tw i b a O
def bB0(I:X.A.units+1<jU)(j:jG X.N X.env.scope i x)(he:IE X e f)(K:IE X value g)(hs:wH value=bJ):IS X (.Assign [.Subscript (.Name x p) e pos'] value pos) (mJ i f g):=λFa Ha=>
 lM (Kr I (kU j.n j.v j.d j.c) he K (vO hs)) λE Y H ⟨O,F,S,q⟩=>⟨O,F,S.env,bn S q λG v z Q l W B q=>by
 cases m:f O with
 |bad=>rw[m]at q;cases q|ok C=>
  rw[m]at q;replace q:kP X Fa Ha (tw i G C O) E:=q;delta tw at q;split at q
  .rename_i b T k t;split at q
   .rename_i M;let⟨a,kvs,y,u,P,w⟩:=Mw l.env t;refine⟨.ref a,y,O,z,l.env,?_⟩;rw[m];intro Z F2 H2 h r;dsimp at r;let⟨rfl,_⟩:=r;let o:H2 a=L (.dK kvs):=h.same _ _ rfl u;let s:F2 a=bL:=h.new a P (by rw[u];simp);refine⟨a,_,rfl,mj.k (k:=.inr k) (v:=v) o (by rw[<-w.length];calc M),?_⟩;exact q Y F2 _ ((l.grow h).step t y (Mx o gI) (mq h.sub s _ eO) (bz s gI rfl ⟨_,rfl,(w.mono h.fs).put (B.mono h.fs)⟩))
   cases q
  calc q.elim⟩
def zb(a:D):bR Slot->bP (D×Ob)
 |some (.obj _ (.tab T))=>match a with
  | .str k=>(match cZ T k with
   |some d=>.ok (d,.tab (tDrop T k))
   |none=>.bad)
  |_=>.bad
 |_=>.bad
def nz(i:bD)(f:ME):MX:=λO=>(f O).bind λa=>zb a O[i]?
def bB1(l:jG X.N X.env.scope i x)(he:IE X e f)(G:M1 X (.Name x p) "pop" ap e cp):IX X i (.Call (.Attribute (.Name x p) "pop" ap) [e] [] cp) (nz i f):=
 gU (Wj (kU l.n l.v l.d l.c) he G) λY H Q I=>by
 let⟨O,F,a,b,s,E,j,g,q⟩:=I;cases s with
 |tab T=>
  let⟨M,kvs,A,m,K,z⟩:=Mw E j;rw[g]at A;cases A;refine⟨.ref a,g,a,rfl,.inl ⟨kvs,.inl m⟩,O,F,E,nk (E.ob j g) q λP v o B h t q=>?_⟩;rw[j]at q;delta zb at q;dsimp only at q;split at q
  .rename_i k;dsimp at t;let⟨rfl,_⟩:=t;let r:B a=L (.dK kvs):=h.same _ _ rfl m;let u:o a=bL:=h.new a K (by rw[m];simp);rcases z.val k with⟨g,w⟩|⟨d,y,g,w,C⟩
   .rw[g]at q;cases q
   rw[g]at q;exact⟨kvs,.inr k,y,r,rfl,w,q y o _ (Mx r gI) (mq h.sub u _ eO) (bz u gI rfl ⟨_,rfl,(z.mono h.fs).drop k⟩) (C.mono h.fs)⟩
  cases q
 |_=>exfalso;delta nz at q;rw[j]at q;revert q;cases f O<;>calc lX
noncomputable def n3(i:bD):MS:=λO=>match O[i]? with|some (.obj 0 s)=>.ok (.rn s)|_=>.bad
def bB2(b:jG X.N X.env.scope i x):IS X (.Return (L (.Name x p)) pos) (n3 i):=λFa Ha=>lM (xd (kU b.n b.v b.d b.c)) λE Y H g=>by
 let⟨O,F,S,q⟩:=g;delta n3 at q;split at q
 .rename_i s e;let⟨_,f,a,rfl,_,r⟩:=S.env.at_ i _ e;exact⟨.ref a,f,q a F H S.gr (S.frh i _ _ a e f) r⟩
 cases q
noncomputable def zc:bP D->bP Ob| .ok (.dct a vs)=>.ok (.tab (a.zip vs))|_=>.bad
inductive n4(K:cG)(m:J D->bP D)(vs:J V)(H:Hp)(Q:VK)(z3:XK):Prop
 |mk (F:_) (ds:_) (_:pC F H) (_:bX F H) (_:DatL K F ds vs) (_:yB K F H (zc (m ds)) Q)
structure My(P:fH)(w:cD)(K:cG)(mg:U->bR bK)(base:cH)(k:bD)(x:U)(m:J D->bP D):Prop where
 ex:∃(f:bI) (fd:fO) (ps:J U),fC P w K mg base fS k f fd ps (n4 K m)/\mg x=L (.ref f)/\lE K (.ref f)=bF/\jO K fd ps []
def n5(m:J D->bP D)(a:MA):MN:=λO=>(a O).bind λds=>zc (m ds)
def bB3(C:My X.prog X.w X.K X.mg X.base k x m)(r:fZ k X.A)(l:X<<<x=L .globalImplicit)(j:(x==("__debug__" :U))=bJ)(a:dC (e::M)=bF)(h:IA X (e::M) fa):IN X (.Call (.Name x p) (e::M) [] pos) (n5 m fa):=by
 let⟨f,fd,ps,F,o,n,i⟩:=C.ex;let c:fV e=bJ/\dC M=bF:=by delta dC at a;rw[lA,gD]at a;exact⟨by simpa using a.1,a.2⟩
 calc gU (mf (E:=E0) F r l o n i .nil rY h j (fA c.1) (kX c.2)) λY H Q s=>by let⟨O,F,E,q⟩:=s;calc⟨O,F,E,iX q λds vs d t b g q=>⟨d,ds,(E.grow b).tb,b.sub,by rw[jF];calc g,q⟩⟩
end
def lR(T:Tab):(T.map (·.1)).zip (T.map (·.2))=T:=by
 induction T with
 |nil=>rfl|cons p T a=>rw[fY,fY,HA,a]
noncomputable def zd:Fl->bP D| .rn (.tab T)=>.ok (cJ T)|_=>.bad
def tz(k n:bD)(g:MS)(ds:J D):bP D:=if ~~~ds=k then(g (wG n ds)).bind zd else .bad
def t5(n:bD)(d:D)(O:cQ):bP D:=match O[n]? with|some (.obj 1 (.tab T))=>.ok (.t [d,cJ T])|_=>.bad
noncomputable def fh(n:bD):Fl->bP D| .rr d O=>t5 n d O| .nx O=>t5 n .n O|_=>.bad
noncomputable def je(pos np n:bD)(g:MS):J D->bP D| .dct a vs::ds=>if ~~~ds+1=np then(g (mH n (vR pos ds (.tab (a.zip vs))))).bind (fh pos)else .bad|_=>.bad
def bB4{pos:bD}(ds)(s)(r)(h:qB (je pos np n g) ds s= .ok r): ~~~ds+1=np/\ ∃fl,g (mH n (vR pos ds s))= .ok fl/\y8 pos s r fl:=by
 delta qB at h;cases s with
 |tab T=>
  let h:Ob.dec (.tab T) (if ~~~ds+1=np then(g (mH n (vR pos ds (.tab ((T.map (·.1)).zip (T.map (·.2))))))).bind (fh pos)else .bad)= .ok r:=h;rw[lR]at h;symm
  .rename_i m;refine⟨m,?_⟩;cases i:g (mH n (vR pos ds (.tab T)))with
   |bad=>rw[i]at h;cases h|ok fl=>
    rw[i]at h;refine⟨fl,rfl,?_⟩;let b:∀d O,Ob.dec (.tab T) (t5 pos d O)= .ok r->r.1=d/\ ∃a,O[pos]? =L (.obj 1 (.tab a))/\r.2= .tab a:=λd O z=>by
     delta t5 at z;split at z
     .rename_i a j;let z:bP.ok (d,Ob.tab ((a.map (·.1)).zip (a.map (·.2))))= .ok r:=z;rw[lR]at z;cases z;exact⟨rfl,a,j,rfl⟩
     cases z
    cases fl with
    |rr d O=>let⟨c,a,e,f⟩:=b d O h;calc⟨O,_,.inl (by rw[c]),e,.inl f.symm⟩|nx O=>let⟨c,a,e,f⟩:=b .n O h;calc⟨O,_,.inr ⟨rfl,c⟩,e,.inl f.symm⟩|_=>cases h
  cases h
 |row o k=>cases h|shf _ _=>cases h|l xs=>calc dD h (Mh _ _)
theorem bB5{st:fQ}{f:bI}(F:jB K x qual st f fd)(S:pT N ps (dU st))(c:∀(_:Pd) (cdv:bK) (A:gW) (outer:J jK) (s:bT) (H:Hp) (E:XK),fZ k (A.deeper (nZ qual (dU st) s⁻¹ f cdv))->
   nH (nG fS P w K mg base N qual (dU st) f cdv A outer s H E).nox (mG st) g):fC P w K mg base fS (k+1) f fd ps (n4 K (tz ps.length N.length g)):=by
 refine F.ok S (λvs H Q E h=>?_) (λcdv A outer s H vs Q E i h=>?_)
 .let⟨F,ds,_,_,r,q⟩:=h;delta tz at q;split at q
  .rename_i e;rw[<-r.length];exact e
  cases q
 let⟨F,ds,j,s',r,q⟩:=h
 letI:Pd:=bl
 refine⟨_,c bl cdv A outer s H E i F H,wG N.length ds,F,CZ j s' r,?_⟩;delta tz at q;split at q
 .revert q;cases g (wG N.length ds)with
  |ok fl=>
   intro q;cases fl with
   |rn s=>
    cases s with
    |tab b=>let q:yB K F H (.ok (.tab ((b.map (·.1)).zip (b.map (·.2))))) Q:=q;rw[lR]at q;calc λa F' T g d r=>q a F' T g d r|_=>calc q.elim
   |_=>calc q.elim
  |bad=>exact lX
 cases q
end
section
abbrev yC(K a:cG):Prop:=∀b o,K.lookup b=L o->o.data≠ .fields #[]->a.lookup b=L o
def DK{r:bR bK}(M:yC K K')(h:rT K a x=L r):rT K' a x=L r:=by
 delta rT at h|-;symm
 .rename_i e;rw[M _ _ e λz=>by cases z];exact h
 cases h
def Mz{r:bR bK}(M:yC K K')(h:Js K x c=L r):Js K' x c=L r:=by
 cases c with
 |ref a=>
  delta Js at h|-;dsimp only at h|-;symm
  .rename_i e;rw[M _ _ e λz=>by cases z];exact DK M h
  cases h
 |_=>calc h
theorem MB{r:bR bK}(M:yC K K'):∀{l},Jf K x l=L r->Jf K' x l=L r
 | [],h=>h|c::l,h=>by
  delta Jf at h|-;symm
  .rename_i e;rw[Mz M e];exact h
  .rename_i e;rw[Mz M e];exact MB M h
  cases h
def fj{r:bR bK}(M:yC K K'){t:bK}(h:nS K t x=L r):nS K' t x=L r:=by
 cases t with
 |ref a=>
  delta nS at h|-;dsimp only at h|-;symm
  .rename_i e;rw[M _ _ e λz=>by cases z];exact MB M h
  cases h
 |_=>calc h
def qQ.up(M:yC K K')(c:qQ K C):qQ K' C:=by
 let e:∃oc od f sl,K.lookup C=L ⟨oc,od,.cls f,sl⟩:=by
  have:=c.hd;delta gq w9 at this;split at this
  .rename_i e;exact⟨_,_,_,_,e⟩
  cases this
 let⟨oc,od,f,sl,e⟩:=e;let g:=M _ _ e λz=>by cases z
 let b:=c.hd;let d:=c.po;let a:=c.pg;delta gq w9 at b;delta o9 w9 at d;delta gx at a;rw[e]at b d;rw[gD,mX,mX]at a;refine⟨?_,?_,?_,fj M c.sa⟩
 .delta gx;rw[gD,mX,mX];exact⟨fj M a.1,fj M a.2⟩
 .delta gq w9;rw[g];exact b
 delta o9 w9;rw[g];calc d
def MC{f:bI}(M:yC K K')(a:aj K (.ref f)=bF)(h2:lE K (.ref f)=bF)(e:K.lookup f=L ⟨oc,od,.func d,sl⟩):aj K' (.ref f)=bF/\lE K' (.ref f)=bF:=by
 let b:=M _ _ e λz=>by cases z
 delta aj pq at a|-;delta lE at h2|-;dsimp only at a|-;rw[e]at a;rw[b];calc⟨a,rfl⟩
def Mk.up{f:bI}(M:yC K K')(m:ph K C=bF)(i:nS K (.ref C) "__init__" =L (L (.ref f)))(j:aj K (.ref f)=bF)(h2:lE K (.ref f)=bF)(e:K.lookup f=L ⟨oc,od,.func d,sl⟩){l:bR bI}{h:ClassData}(b:K.lookup C=L ⟨.type "type",l,.cls h,sm⟩)(c:lE K (.ref C)=bF):Mk K' C f:=by
 let a:=M _ _ b λz=>by cases z
 let t:pq K (.ref C)=L (.type "type"):=by delta pq;dsimp only;rw[b];rfl
 let g:pq K' (.ref C)=L (.type "type"):=by delta pq;dsimp only;rw[a];rfl
 let hs:∀y,Bw K' (.ref C) y=Bw K (.ref C) y:=λy=>by delta Bw;rw[t,g];rfl
 let k:∀y,Jp K' (.ref C) y=Jp K (.ref C) y:=λy=>by delta Jp;rw[t,g];rfl
 refine⟨?_,fj M i,(MC M j h2 e).1,?_⟩
 .delta ph at m|-;rw[b]at m;rw[a];dsimp[hs,k];exact m
 delta lE at c|-;dsimp only at c|-;rw[b]at c;rw[a];dsimp[hs];calc c
def MD(M:yC K K')(h:BV K a=bF):BV K' a=bF:=by
 delta BV at h|-;symm
 .rename_i e;rw[M _ _ e λz=>by cases z];exact h
 cases h
theorem MF(M:yC K K'):∀{l},BW K bm l=bF->BW K' bm l=bF
 | [],h=>h|v::r,h=>by
  delta BW at h|-;rw[v8]at h|-;rcases h with h|h
  .exact .inl h
  refine .inr ?_;symm
  .symm
   .rename_i e;rw[gD,gD,mX]at h;rw[M _ _ e λz=>by cases z];show(BV K' _&&rT K' _ "__init__" ==L bL&&BW K' bm r)=bF;rw[MD M h.1.1,DK M h.1.2,MF M h.2];rfl
   cases h
  cases h
def bB6(M:yC K K')(h:l0 K c bm a=bF):l0 K' c bm a=bF:=by
 delta l0 at h|-;symm
 .rename_i e;rw[M _ _ e λz=>by cases z];symm
  .rename_i b d;dsimp[gD,mX]at h;dsimp[b,d,gD,mX];let⟨⟨⟨⟨⟨f,g⟩,i⟩,j⟩,k⟩,l⟩:=h;exact⟨⟨⟨⟨⟨f,g⟩,i⟩,MF M j⟩,MD M k⟩,DK M l⟩
  cases h
 cases h
variable [dG] [Pd]
def bB7{f:bI}(h:∀ds,m ds= .bad):fC P w K mg base fS n f fd ps (zF K j (qB m)):=by
 let z:∀vs H Q E,¬ zF K j (qB m) vs H Q E:=λvs H Q E h'=>by let⟨F,a,s,ds,pre,c,_,_,_,_,_,_,q⟩:=h';delta qB at q;rw[h]at q;cases s<;>exact q
 calc⟨λvs H Q E q=>dD q (z vs H Q E),λA outer s H b i vs Q E g d e r q=>dD q (z _ _ _ _)⟩
def bB8{f:bI}(h:∀ds,m ds= .bad):fC P w K mg base fS n f fd ps (n4 K m):=by
 let z:∀vs H Q E,¬ n4 K m vs H Q E:=λvs H Q E h'=>by let⟨F,ds,_,_,_,q⟩:=h';rw[h]at q;exact q
 calc⟨λvs H Q E q=>dD q (z vs H Q E),λA outer s H a e vs Q E d b c r q=>dD q (z _ _ _ _)⟩
end
section
variable [dG] [Pd]
noncomputable def cj(x:U):bR bD:=if x== "faces" then L 0 else if x== "face_keys" then L 1 else if x== "units" then L 2 else if x== "unit_keys" then L 3 else if x== "last_key" then L 4 else bL
structure zG(K:cG):Prop where
 c:qQ K dG.sc
 n:∀x∈shfN,xF K dG.sc x
def MG(h:cj x=L n):shfN[n]? =L x:=by
 delta cj at h;symm
 .rename_i e;cases h;rw[kI e];rfl
 symm
 .rename_i e;cases h;rw[kI e];rfl
 symm
 .rename_i e;cases h;rw[kI e];rfl
 symm
 .rename_i e;cases h;rw[kI e];rfl
 symm
 .rename_i e;cases h;rw[kI e];rfl
 cases h
def bB9:shfN.Nodup:=lW
theorem MH:∀{ks:J U} {xs:J α} {n:bD},ks.Nodup->ks[n]? =L x-> ~~~ks= ~~~xs->(ks.zip xs).lookup x=xs[n]?
 | [],_,_,_,h,_=>by cases h|k::ks,[],_,_,_,h=>by cases h|k::ks,y::xs,n,a,h,b=>by
  let a:=tV.mp a;rw[HA,lJ];cases n with
  |zero=>cases h;rw[sL];rfl|succ n=>
   have:(x==k)=bJ:=lT.mpr λe=>a.1 (by rw[<-e];calc dm h)
   rw[this];calc MH a.2 h (by simpa using b)
def DL(a: ~~~xs=5)(h:cj x=L n):(shfN.zip xs).lookup x=xs[n]? :=MH bB9 (MG h) (by rw[a];rfl)
def zG.no(C:zG K)(h:cj x=L n):xF K dG.sc x:=C.n x (dm (MG h))
noncomputable def nK(n:bD):D->bP D
 | .shf ds=>(match ds[n]? with
  |some d=>.ok d
  |none=>.bad)
 |_=>.bad
noncomputable def qC:D->D->D->bP D| .dct a vs,.str k,d=>.ok ((cZ (a.zip vs) k).getD d)|_,_,_=>.bad
def m3(m:D->D->D->bP D)(f g h:ME):ME:=λO=>(f O).bind λx=>(g O).bind λy=>(h O).bind λz=>m x y z
section
variable{o e1 e2:bU}{g h:ME}{m:U}{tp pos':cW}{mm:J D->bP D}
def bC0(C:zG X.K)(h:cj x=L n)(m:zS e x X.env (fP e X.env)=fP e X.env)(he:IE X e f):IE X (.Attribute e x pos) (m1 (nK n) f):=
 gU (xk he m) λY H Q ⟨O,F,E,q⟩=>⟨O,F,E,jV q λd v r s g b q=>by
 delta nK at q;split at q
 .dsimp at b;let⟨a,dx,xs,rfl,j,k,l⟩:=b;split at q
  .rename_i d o;let⟨v,p,i⟩:=vJ l.paired o;exact⟨a,_,dx,_,v,rfl,g.sub _ _ j,C.c,C.no h,by rw[DL k h];calc p,dY q g.sub i⟩
  cases q
 calc q.elim⟩
def bC1(S:X.A.units+1<jU)(P:IE X o f)(he:IE X e1 g)(i:IE X e2 h)(M:M2 X o "get" ap e1 e2 cp):IE X (.Call (.Attribute o "get" ap) [e1,e2] [] cp) (m3 qC f g h):=
 gU (Wi S P he i M) λY H Q ⟨O,F,E,q⟩=>⟨O,F,E,by
 delta m3 at q;cases i:f O with
 |bad=>rw[i]at q;calc q|ok d=>
  rw[i]at q;intro v w W b p;replace q:gE (bM X.K) F H ((g O).bind λy=>(h O).bind λz=>qC d y z) Q:=q;cases j:g O with
  |bad=>rw[j]at q;cases q|ok t=>
   rw[j]at q;replace q:gE (bM X.K) F H ((h O).bind λz=>qC d t z) Q:=q;cases l:h O with
   |bad=>rw[l]at q;cases q|ok G=>
    rw[l]at q;replace q:gE (bM X.K) F H (qC d t G) Q:=q;delta qC at q;split at q
    .rename_i Z vs k;dsimp at p;let⟨a,kvs,rfl,u,I,N⟩:=p;refine⟨a,rfl,.inl ⟨kvs,.inl (b.sub _ _ u)⟩,O,w,E.grow b,?_⟩;rw[j];intro v2 F2 H2 c s;dsimp at s;let⟨rfl,_⟩:=s;refine⟨O,F2,(E.grow b).grow c,?_⟩;rw[l];intro v3 x B e C;refine⟨rF kvs (.inr k),.inl ⟨kvs,.inr k,.inl (e.sub _ _ (e.fs _ _ (c.fs _ _ u))),rfl,rfl⟩,q _ x B ((b.trans c).trans e) ?_⟩;rcases(qx I N).val k with⟨m,n⟩|⟨r,v',m,n,T⟩
     .rw[m,n];exact C
     rw[m,n];exact T.mono (c.fs.trans e.fs)
    calc q.elim⟩
def bC2(z:X.A.units+1<jU)(x:IE X o f)(he:IE X e1 g)(M:M1 X o "get" ap e1 cp):IE X (.Call (.Attribute o "get" ap) [e1] [] cp) (m3 qC f g (kc .n)):=
 gU (Wh z x he M) λY H Q ⟨O,F,E,q⟩=>⟨O,F,E,by
 delta m3 at q;cases p:f O with
 |bad=>rw[p]at q;calc q|ok d=>
  rw[p]at q;intro v s C c j;replace q:gE (bM X.K) F H ((g O).bind λy=>qC d y .n) Q:=q;cases e:g O with
  |bad=>rw[e]at q;cases q|ok t=>
   rw[e]at q;replace q:gE (bM X.K) F H (qC d t .n) Q:=q;delta qC at q;split at q
   .rename_i G vs k;dsimp at j;let⟨a,kvs,rfl,m,u,w⟩:=j;refine⟨a,rfl,.inl ⟨kvs,.inl (c.sub _ _ m)⟩,O,s,E.grow c,?_⟩;rw[e];intro N F2 H2 b l;dsimp at l;let⟨rfl,_⟩:=l;refine⟨rF kvs (.inr k),.inl ⟨kvs,.inr k,.inl (b.sub _ _ (b.fs _ _ m)),rfl,rfl⟩,q _ F2 H2 (c.trans b) ?_⟩;rcases(qx u w).val k with⟨h,i⟩|⟨r,I,h,i,B⟩
    .rw[h,i];dsimp[Option.getD];dsimp
    rw[h,i];exact B.mono b.fs
   calc q.elim⟩
structure MI(P:fH)(w:cD)(K:cG)(mg:U->bR bK)(base:cH)(k:bD)(x:U)(m:J D->bP D):Prop where
 c:zG K
 ex:∃(f:bI) (fd:fO) (ps:J U),fC P w K mg base fS k f fd ps (qK K m)/\wC K dG.sc x f/\jO K fd ps []
 ne:x∉shfN
theorem ze:∀{ks:J U} {xs:J α},x∉ks->(ks.zip xs).lookup x=bL| [],_,_=>rfl|_::_,[],_=>rfl|k::ks,y::xs,h=>by rw[HA,lJ,show(x==k)=bJ from lT.mpr λe=>h (by rw[e];calc fF)];calc ze λz=>h (fM _ z)
noncomputable def bC3:D->bP D| .shf ds=>.ok (.shf ds)|_=>.bad
def jM(m:J D->bP D)(f:ME)(a:MA):ME:=λO=>(f O).bind λd=>(bC3 d).bind λd=>(a O).bind λds=>m (d::ds)
def bC4(b:MI X.prog X.w X.K X.mg X.base k x mm)(G:fZ k X.A)(h:jG X.N X.env.scope i y)(f:(ap.endLine==pos.line)=bF)(B:ah (e::M).length 30=bF)(g:dC (e::M)=bF)(t:IA X (e::M) fa):IE X (.Call (.Attribute (.Name y py) x ap) (e::M) [] pos) (jM mm (gv i) fa):=by
 let⟨S,fd,ps,Fn,C,u⟩:=b.ex;let o:fV e=bJ/\dC M=bF:=by delta dC at g;rw[lA,gD]at g;exact⟨by simpa using g.1,g.2⟩
 let z:IE X (.Name y py) (gv i):=Kz i (kU h.n h.v h.d h.c);refine gU (xm (E:=E0) z b.c.c C Fn G u .nil rY t (fA o.1) (kX o.2) (tf g B f)) λY H Q ⟨O,F,E,q⟩=>⟨O,F,E,jV q λd v p P l j q=>?_⟩
 cases d with
 |shf ds=>let r:=j;dsimp at j;let⟨a,dx,xs,rfl,I,T,W⟩:=j;refine⟨a,dx,_,rfl,l.sub _ _ I,ze b.ne,O,p,E.grow l,jV q λM vs F2 H2 m s q=>?_⟩;calc⟨F2,_,((E.grow l).grow m).tb,m.sub,by rw[jF];calc DatL.cons (r.mono m.fs) s,q⟩|_=>calc q.elim
def DM{k:bH}(E:gP X.K F H O Y)(f:O[i]? =L (.obj b (.shf Ts k))):∃a dx as,Y[i]? =L (L (.ref a))/\gA X.K F H a (.shf Ts k)/\H a=L (xK dx (qJ as k))/\~~~as=4/\as.Nodup/\jN (λT a=>∃kvs,H a=L (.dK kvs)/\jP X.K F T kvs) Ts as:=by let⟨_,c,a,rfl,_,r⟩:=E.at_ i _ f;let⟨_,d,dx,as,rfl,l,g,e⟩:=r.o;calc⟨a,dx,as,c,r,d,l,g,e⟩
def MJ{k:bH}(l: ~~~as=4)(h:H a=L (xK dx (qJ as k)))(h':T a=L (xK b (qJ as d))):qI H T a:=λu g e c=>by rw[h]at e;cases e;rw[h']at c;cases c;refine⟨λdx f k z=>?_,by rw[xO l,xO l]⟩;have:=jZ xL z;rw[xO l]at this;rw[this]at l;cases l
noncomputable def n6(i:bD)(n:bH):MS:=λO=>match O[i]? with|some (.obj p (.shf Ts k))=>.ok (.nx (O.set i (.obj p (.shf Ts (k+n)))))|_=>.bad
def bC5{k j:bH}(l: ~~~as=4):HO.ins dG.sc dx (kZ "last_key" (.int j) (shfN.zip (qJ as k)))=xK dx (qJ as j):=by rcases as with _|⟨a,_|⟨b,_|⟨c,_|⟨d,_|⟨_,_⟩⟩⟩⟩⟩<;>first|rfl|cases l
def DN{k:bH}(l: ~~~as=4): ~~~(qJ as k)=5:=by delta qJ;rw[cO,cA,l];rfl
def MK{k:bH}(l: ~~~as=4)(g:as.Nodup)(n:∀b,b=a\/b∈as->F b=bL)(e:H a=L (xK dx (qJ as k)))(f:jN (λT a=>∃kvs,H a=L (.dK kvs)/\jP X.K F T kvs) Ts as):gA X.K F H a (.shf Ts k):=
 ⟨λb z=>by
  rcases z with z|⟨o,c,d⟩
  .exact n b (.inl z)
  rw[e]at c;cases c;rw[xO l]at d;calc n b (.inr d),_,e,dx,as,rfl,l,g,f⟩
def MM{k:bH}(l: ~~~as=4)(e:H a=L (xK dx (qJ as k)))(r:gA X.K F H a (.shf Ts k)):∀b,b=a\/b∈as->F b=bL:=λb z=>r.n b (by
 rcases z with z|z
 .exact .inl z
 calc .inr ⟨_,e,by rw[xO l];calc z⟩)
def bC6{n:bH}(C:zG X.K)(f:jG X.N X.env.scope i y):IS X (.AugAssign (.Attribute (.Name y py) "last_key" tp) .Add (.Constant (.int n) c cp) pos) (n6 i n):=λFa Ha=>
 lM (J1 (kU f.n f.v f.d f.c) qb J2) λE Y H ⟨O,F,S,q⟩=>by
 delta n6 at q;split at q
 .rename_i p Ts k j;let⟨a,dx,as,h,r,e,l,s,o⟩:=DM S.env j;let m:cj "last_key" =L 4:=nB;let t:(qJ as k)[4]? =L (.int k):=by delta qJ;rw[tR (by rw[cA];lia),cA,l];rfl
  refine⟨.ref a,h,a,_,dx,_,.int k,rfl,e,C.c,C.no m,by rw[DL (DN l) m];calc t,k,n,rfl,rfl,dx,_,e,(by rw[List.length_zip,DN l];decide),?_⟩;rw[bC5 l];refine q Y F _ (S.step j h (MJ l e gI) (mq S.env.sub r.at _ eO) (MK l s (MM l e r) gI (Paired.mapP o λT b ⟨kvs,g,u⟩=>⟨kvs,?_,u⟩)));rw[fK λz=>by rw[z,e]at g;cases g];exact g
 cases q
theorem MP{G c:α->β->Prop}{g:α}{b:β}(f:c g b)(d:∀x y,y≠b->G x y->c x y):∀{xs ys n},jN G xs ys->ys.Nodup->ys[n]? =L b->jN c (xs.set n g) ys|_,_,_,.nil,_,h=>by cases h|_,_,0,.cons r t,a,h=>by cases h;let a:=tV.mp a;calc .cons f (Paired.mapP (CM t) λx y z=>d x y (λe=>a.1 (e▸z.2)) z.1)|_,_,n+1,.cons r t,a,h=>by let a:=tV.mp a;calc .cons (d _ _ (λe=>a.1 (by rw[e];calc dm h)) r) (MP f d t a.2 h)
def t7(i n:bD)(b a:D):MS:=λO=>match O[i]?,a with
 |some (.obj p (.shf Ts k)),.str z=>(match Ts[n]? with
  |some T=>if ~~~T<cR then .ok (.nx (O.set i (.obj p (.shf (Ts.set n (hU T z b)) k))))else .bad
  |none=>.bad)
 |_,_=>.bad
def yD(i n:bD)(f g:ME):MS:=λO=>(g O).bind λb=>(f O).bind λa=>t7 i n b a O
def bC7(C:zG X.K)(W:cj x=L n)(hu:X.A.units+1<jU)(u:jG X.N X.env.scope i y)(he:IE X e f)(hw:IE X value g)(hs:wH value=bJ):IS X (.Assign [.Subscript (.Attribute (.Name y py) x ap) e pos'] value pos) (yD i n f g):=λFa Ha=>
 lM (Kr hu (xk (kU u.n u.v u.d u.c) rfl) he hw (vO hs)) λE Y H ⟨O,F,S,q⟩=>⟨O,F,S.env,bn S q λdv v F1 H1 w g1 d1 q=>by
 cases B:f O with
 |bad=>rw[B]at q;cases q|ok dk=>
  rw[B]at q;replace q:kP X Fa Ha (t7 i n dv dk O) E:=q;delta t7 at q;split at q
  .rename_i p Ts k z Q;split at q
   .rename_i T hT;split at q
    .rename_i hz;let⟨a,dx,as,z1,r,M,l,Z,P⟩:=DM w.env Q;let⟨b,t,kvs,y1,y2⟩:=vJ P hT;let vb:(qJ as k)[n]? =L (.ref b):=by
      delta qJ;rw[aP (by rw[cA];calc(pK.mp t).1),nX,t];rfl
     refine⟨.ref a,z1,a,_,dx,_,.ref b,rfl,M,C.c,C.no W,by rw[DL (DN l) W];calc vb,O,F1,w.env,?_⟩;rw[B];intro v2 F2 H2 h I;dsimp at I;let⟨rfl,_⟩:=I;let G:H2 b=L (.dK kvs):=h.same _ _ rfl y1;let j:H2 a=L (xK dx (qJ as k)):=h.same _ _ rfl M;let o:a≠b:=λz=>by rw[z,G]at j;cases j
     let r2:=r.grow h;let s:=MM l j r2;let m:b∈as:=dm t;refine⟨b,_,rfl,mj.k (k:=.inr z) (v:=v) G (by rw[<-y2.length];calc hz),?_⟩;refine q Y F2 _ ((w.grow h).step Q z1 (MJ l j (by rw[fK o];calc j)) (mq h.sub (s b (.inr m)) _ (.inr ⟨_,j,by rw[xO l];calc m⟩)) (MK l Z s (by rw[fK o];calc j) (MP (b:=b) ⟨_,gI,(y2.mono h.fs).put (d1.mono h.fs)⟩ (λT c nc ⟨kv,w1,w2⟩=>⟨kv,?_,w2.mono h.fs⟩) P Z t)));rw[fK nc];exact h.same _ _ rfl w1
    cases q
   cases q
  calc q.elim⟩
structure MQ(P:fH)(w:cD)(K:cG)(mg:U->bR bK)(base:cH)(k:bD)(x:U)(m:J D->bP D):Prop where
 c:zG K
 ex:∃(f:bI) (fd:fO) (ps:J U),fC P w K mg base fS k f fd ps (zF K 0 (qB m))/\wC K dG.sc x f/\jO K fd ps []
 ne:x∉shfN
def zH(i:bD)(m:J D->bP D)(a:MA):MX:=λO=>match O[i]? with|some (.obj _ (.shf Ts k))=>(a O).bind λds=>qB m ds (.shf Ts k)|_=>.bad
def MR(b:MQ X.prog X.w X.K X.mg X.base k x mm)(G:fZ k X.A)(l:jG X.N X.env.scope i y)(g:(ap.endLine==pos.line)=bF)(B:ah (e::M).length 30=bF)(h:dC (e::M)=bF)(u:IA X (e::M) fa):IX X i (.Call (.Attribute (.Name y py) x ap) (e::M) [] pos) (zH i mm fa):=by
 let⟨W,fd,ps,Fn,C,z⟩:=b.ex;let f:fV e=bJ/\dC M=bF:=by delta dC at h;rw[lA,gD]at h;exact⟨by simpa using h.1,h.2⟩
 refine gU (xm (E:=E0) (kU l.n l.v l.d l.c) b.c.c C Fn G z .nil rY u (fA f.1) (kX f.2) (tf h B g)) λY H Q I=>?_
 let⟨O,F,a,p,s,E,j,f,q⟩:=I;delta zH at q;rw[j]at q;cases s with
 |shf Ts n=>let⟨T,dx,as,o,_,P,_⟩:=DM E j;rw[f]at o;cases o;refine⟨.ref a,f,a,dx,_,rfl,P,ze b.ne,O,F,E,nk (E.ob j f) q λds vs r S m t q=>?_⟩;calc⟨r,a,_,ds,[],vs,by rw[jF];rfl,rfl,(E.grow m).tb,m.sub,(E.ob j f).grow m,t,q⟩|_=>calc q.elim
end
def MV{x:bI}{u:HO}(g:cP F (ers H S) F' T)(c:S x)(a:F' x=bL)(e:T x=L u)(nt:aq u=bF/\ ∀φ,u≠ .ext φ):cP F (ers H S) F' (upd T x o)where
 same:=λb v n q=>by rw[fK (λz:b=x=>ar q (by rw[z];calc c))];exact g.same b v n q
 more:=λb h=>CL g.more x o b h
 tk:=λt=>⟨((g.tk t).1.drop (S:=λb=>b=x) λb v z q=>by subst z;rw[e]at q;cases q;calc nt).same λb v q=>by rw[fK (ar (S:=λb=>b=x) q)];calc vK q,(g.tk t).2⟩
 fs:=g.fs
 sub:=mo g.sub a o
 new:=g.new
structure zf(F H:Hp)(x dx:bI)(Hk:Hp)(fs:J (U×V))(as:J bI):Prop where
 e:Hk x=L (.ins dG.sc dx fs)
 g:cP F (ers H (λb=>b=x)) F Hk
 d:∀p∈as,Hk p=L (.dK [])/\H p=bL
 n:as.Nodup
def zf.step{h:Hp}{x p:bI}{f:U}(M:zf F H x dx h fs as)(o:F x=none)(c:h p=none):zf F H x dx (upd (upd h p (.dK [])) x (.ins dG.sc dx (kZ f (.ref p) fs))) (kZ f (.ref p) fs) (as++ [p]):=by
 let k:x≠p:=λz=>by rw[<-z,M.e]at c;cases c
 let m:upd h p (.dK []) x=some (.ins dG.sc dx fs):=by rw[fK k];exact M.e
 let r:cP F (ers H (λb=>b=x)) F (upd h p (.dK [])):=M.g.trans (cP.laidN M.g.sub c _);let s:H p=none:=by
  cases z:H p with
  |none=>rfl|some u=>exact dD c (M.g.more p (by rw[kW (S:=λb=>b=x) (λy:p=x=>k y.symm),z];simp))
 refine⟨gI,MV r bQ o m ⟨rfl,λ_ z=>nomatch z⟩,λq i=>?_,?_⟩
 .rcases hV.mp i with i|i
  .let⟨j,v⟩:=M.d q i;refine⟨?_,v⟩;rw[fK (λz=>by rw[z,M.e]at j;cases j),fK (λz=>by rw[z,c]at j;cases j)];exact j
  rw[mM.mp i];exact⟨by rw[fK k.symm,gI],s⟩
 refine pM.mpr ⟨M.n,cS,λa l b t z=>?_⟩;rw[mM.mp t]at z;rw[z]at l;have:=(M.d p l).1;rw[c]at this;cases this
inductive MW(K:cG)(vs:J V)(H:Hp)(Q:VK)(z3:XK):Prop
 |mk (F:_) (x:_) (dx:_) (_:vs= [.ref x]) (_:pC F H) (_:bX F H) (_:H x=some (.ins dG.sc dx [])) (_:F x=none) (_:∀F' H',cP F (ers H (λb=>b=x)) F' H'->(∀c,Ow H' x c->c=x\/H c=none)->gA K F' H' x (.shf [[],[],[],[]] 0)->Q .n H')
theorem bC8{st:fQ}{f:bI}{s:U}(F:jB K x qual st f fd)(S:pT [s] [s] (dU st))(C:zG K)(hb:mG st= [.Assign [.Attribute (.Name s p1) "faces" p2] (.Dict [] [] p3) p4,.Assign [.Attribute (.Name s q1) "face_keys" q2] (.Dict [] [] q3) q4,.Assign [.Attribute (.Name s r1) "units" r2] (.Dict [] [] r3) r4,.Assign [.Attribute (.Name s s1) "unit_keys" s2] (.Dict [] [] s3) s4,.Assign [.Attribute (.Name s t1) "last_key" t2] (.Constant (.int 0) c t3) t4])(hs:jG [s] (dU st) 0 s):fC P w K mg base fS (k+1) f fd [s] (MW K):=by
 refine F.ok S (λvs H Q E h=>?_) (λa0 A outer s' H vs Q E hr h=>?_)
 .let⟨F,x,dx,rfl,_⟩:=h;rfl
 let⟨F,x,dx,rfl,ti,sb,hx,t,q⟩:=h;rw[hb];refine⟨_,ez (iF (kU hs.n hs.v hs.d hs.c) qm rfl) (ez (iF (kU hs.n hs.v hs.d hs.c) qm rfl) (ez (iF (kU hs.n hs.v hs.d hs.c) qm rfl) (ez (iF (kU hs.n hs.v hs.d hs.c) qm rfl) (l8 (iF (kU hs.n hs.v hs.d hs.c) qb rfl))))),?_⟩;let M0:zf F H x dx H [] []:=⟨hx,qp sb,λ_ h=>(nomatch h),ku⟩;let B:∀y∈shfN,xF K dG.sc y:=C.n;intro a W;let M1:=M0.step (f:="faces") t W;let e1:upd H a (.dK []) x=L (.ins dG.sc dx []):=by rw[fK (λz=>by rw[<-z,hx]at W;cases W)];exact hx
 refine⟨.ref x,rfl,x,_,dx,[],rfl,e1,C.c,B _ lW,hG,?_⟩;intro i X;let M2:=M1.step (f:="face_keys") t X;refine⟨.ref x,rfl,x,_,dx,_,rfl,by rw[fK (λz=>by rw[<-z,M1.e]at X;cases X)];calc M1.e,C.c,B _ lW,(by show 1<1000;decide),?_⟩;intro j Y;let N:=M2.step (f:="units") t Y;refine⟨.ref x,rfl,x,_,dx,_,rfl,by rw[fK (λz=>by rw[<-z,M2.e]at Y;cases Y)];calc M2.e,C.c,B _ lW,(by show 2<1000;decide),?_⟩;intro l Z;let r:=N.step (f:="unit_keys") t Z;refine⟨.ref x,rfl,x,_,dx,_,rfl,by rw[fK (λz=>by rw[<-z,N.e]at Z;cases Z)];calc N.e,C.c,B _ lW,(by show 3<1000;decide),?_⟩;refine⟨.ref x,rfl,x,_,dx,_,rfl,r.e,C.c,B _ lW,(by show 4<1000;decide),?_⟩;let dZ:∀(u:HO),u=xK dx (qJ [a,i,j,l] 0)->∀T,T=upd (upd (upd (upd (upd (upd (upd (upd H a (.dK [])) x (.ins dG.sc dx (kZ "faces" (.ref a) []))) i (.dK [])) x (.ins dG.sc dx (kZ "face_keys" (.ref i) (kZ "faces" (.ref a) [])))) j (.dK [])) x (.ins dG.sc dx (kZ "units" (.ref j) (kZ "face_keys" (.ref i) (kZ "faces" (.ref a) []))))) l (.dK [])) x (.ins dG.sc dx (kZ "unit_keys" (.ref l) (kZ "units" (.ref j) (kZ "face_keys" (.ref i) (kZ "faces" (.ref a) [])))))->Q .n (upd T x u):=λu hu T hH=>by
  subst hu;rw[<-hH]at r;let nd: [a,i,j,l].Nodup:=r.n;let dd:∀p∈ [a,i,j,l],T p=L (.dK [])/\H p=bL:=r.d;let O:∀p∈ [a,i,j,l],p≠x:=λp M z=>by have:=(dd p M).1;rw[z,r.e]at this;cases this
  let ff:∀b,b=x\/b∈ [a,i,j,l]->F b=bL:=λb hb=>by
   rcases hb with rfl|hb
   .exact t
   exact bX.free sb (dd b hb).2
  let m:∀p∈ [a,i,j,l],∃kvs,upd T x (xK dx (qJ [a,i,j,l] 0)) p=L (.dK kvs)/\jP K F [] kvs:=λp M=>⟨[],by rw[fK (O p M)];calc(dd p M).1,.nil⟩
  refine q F _ (MV r.g rfl t r.e ⟨rfl,λ_ z=>nomatch z⟩) (λc hc=>?_) ⟨λb hb=>?_,_,gI,dx,_,rfl,rfl,nd,.cons (m _ cS) (.cons (m _ cS) (.cons (m _ cS) (.cons (m _ cS) .nil)))⟩
  .rcases hc with hc|⟨o,G,I⟩
   .exact .inl hc
   rw[gI]at G;cases G;rw[xO rfl]at I;exact .inr (dd c I).2
  rcases hb with hb|⟨o,G,I⟩
  .exact ff b (.inl hb)
  rw[gI]at G;cases G;rw[xO rfl]at I;exact ff b (.inr I)
 calc dZ _ nB _ rfl
structure MY(P:fH)(w:cD)(K:cG)(mg:U->bR bK)(base:cH)(k:bD)(x:U):Prop where
 ex:∃(f:bI) (fd:fO) (ps:J U),fC P w K mg base fS k f fd ps (MW K)/\mg x=L (.ref dG.sc)/\Mk K dG.sc f/\jO K fd ps []
noncomputable def zg:MN:=λ_=>.ok (.shf [[],[],[],[]] 0)
def bC9(C:MY X.prog X.w X.K X.mg X.base k y)(t:fZ (k+1) X.A)(r:X<<<y=L .globalImplicit)(o:(y==("__debug__" :U))=bJ):IN X (.Call (.Name y py) [] [] cp) zg:=by
 let⟨B,fd,ps,Fn,s,M,m⟩:=C.ex;refine gU (Vr (E:=E0) M Fn t r s m .nil rY o) λY H Q v=>?_
 let⟨O,F,E,q⟩:=v;intro a dx i j u;let f:=cP.laidN E.sub j (.own a);let d:upd H dx (.own a) a=bL:=by rw[fK u.symm];exact i
 let g:=cP.laidN f.sub d (.ins dG.sc dx []);let e:ers (upd (upd H dx (.own a)) a (.ins dG.sc dx [])) (λb=>b=a)=upd H dx (.own a):=by
  funext b;by_cases z:b=a
  .rw[eK (S:=λb=>b=a) z,z,d]
  rw[kW (S:=λb=>b=a) z,fK z]
 refine⟨F,a,dx,rfl,((E.grow f).grow g).tb,g.sub,gI,bX.free E.sub i,λF' T l p x=>⟨rfl,?_⟩⟩;rw[e]at l;refine q a F' T (f.trans l) (λc n=>?_) x;rcases p c n with rfl|h
 .exact i
 calc(f.trans g).free h
noncomputable def zI:D->bR Ob| .l ds=>L (.l ds)| .dct a vs=>L (.tab (a.zip vs))|_=>bL
def zh{s:Ob}(h:s.dat=L d)(n:(zI d).isSome=bF):zI d=L s:=by
 cases s with
 |l ds=>cases h;rfl|tab T=>cases h;delta cJ zI;dsimp only;rw[lR]|row _ _=>cases h|shf _ _=>cases h;cases n
def zi:bP D->bP (D×Ob×Ob)
 | .ok (.t [d,x,y])=>(match zI x,zI y with
  |some s,some t=>.ok (d,s,t)
  |_,_=>.bad)
 |_=>.bad
def pH(m:J D->bP D)(ds:J D)(s t:Ob):bP (D×Ob×Ob):=match s.dat,t.dat with|some x,some y=>zi (m (ds++ [x,y]))|_,_=>.bad
abbrev fk(H:Hp)(a b:bI):bI->Prop:=λc=>Ow H a c\/Ow H b c
def bD0(K:cG)(F H:Hp)(a b:bI)(r:bP (D×Ob×Ob))(Q:VK):Prop:=match r with| .ok r=>∀v F' T,qI H T a->qI H T b->cP F (ers H (fk H a b)) F' T->gA K F' T a r.2.1->gA K F' T b r.2.2->bM K F' r.1 v->Q v T| .bad=>hI
inductive jf(K:cG)(m:J D->Ob->Ob->bP (D×Ob×Ob))(vs:J V)(H:Hp)(Q:VK)(z3:XK):Prop
 |mk (F:_) (a:_) (b:_) (s:_) (t:_) (ds:_) (pre:_) (_:vs=pre++ [.ref a,.ref b]) (_:pC F H) (_:bX F H) (_:gA K F H a s) (_:gA K F H b t) (_:eP H a b) (_:DatL K F ds pre) (_:bD0 K F H a b (m ds s t) Q)
noncomputable abbrev jg(ds:J D)(s t:Ob):cQ:=ds.map .val++ [.obj 1 s,.obj 2 t]
inductive MZ(n:bD)(r:D×Ob×Ob)(fl:Fl):Prop
 |mk (O:_) (_:(fl= .rr r.1 O\/fl= .nx O/\r.1= .n)) (_:O[n]? =L (.obj 1 r.2.1)) (_:O[n+1]? =L (.obj 2 r.2.2))
def DO{s t:Ob}{p:bD}{u:Ob}(e:(jg ds s t)[i]? =L (.obj p u)):(i= ~~~ds/\p=1/\u=s)\/(i= ~~~ds+1/\p=2/\u=t):=by
 by_cases a:i< ~~~ds
 .rw[aP (by rw[cA];calc a)]at e;exact(m4 e).elim
 rw[tR (by rw[cA];lia),cA]at e;let⟨k,rfl⟩:=AZ (oY a);rw[Hi]at e;rcases k with _|_|k
 .cases e;exact .inl ⟨rfl,rfl,rfl⟩
 .cases e;exact .inr ⟨rfl,rfl,rfl⟩
 cases e
theorem bD1{st:fQ}{f:bI}{m:J D->Ob->Ob->bP (D×Ob×Ob)}(F:jB K x qual st f fd)(S:pT N ps (dU st))(hm:∀ds s t r,m ds s t= .ok r-> ~~~ds+2= ~~~ps/\ ∃fl,g (mH N.length (jg ds s t))= .ok fl/\MZ ds.length r fl)(I:∀(_:Pd) (cdv:bK) (A:gW) (outer:J jK) (s:bT) (H:Hp) (E:XK),fZ k (A.deeper (nZ qual (dU st) s⁻¹ f cdv))->
   nH (nG fS P w K mg base N qual (dU st) f cdv A outer s H E).nox (mG st) g):fC P w K mg base fS (k+1) f fd ps (jf K m):=by
 refine F.ok S (λvs H Q E h=>?_) (λcdv A outer s H vs Q E hr h=>?_)
 .let⟨F,a,b,s,t,ds,pre,rfl,_,_,_,_,_,Z,q⟩:=h;cases e:m ds s t with
  |bad=>rw[e]at q;cases q|ok r=>
   let l1:=Z.length;let l2:=(hm ds s t r e).1;dsimp[cO,dB,mF]
   lia
 let⟨F,a,b,s0,t0,ds,pre,rfl,ti,sb,oa,ob,ap,Z,q⟩:=h;cases e:m ds s0 t0 with
 |bad=>rw[e]at q;cases q|ok r=>
  rw[e]at q;let⟨_,fl,hg,O,a1,a2,a3⟩:=hm ds s0 t0 r e;let⟨u1,W,k1⟩:=oa.o;let⟨u2,X,k2⟩:=ob.o
  letI:Pd:=⟨λn=>if n=0 then a else b,λn=>if n=0 then u1 else u2⟩
  let l1:=Z.length;let B:(pre++ [V.ref a,V.ref b])[ds.length]? =L (.ref a):=by rw[tR bZ,l1,SK];rfl
  let C:(pre++ [V.ref a,V.ref b])[ds.length+1]? =L (.ref b):=by rw[tR bZ,l1,Hi];rfl
  let S0:=yf (N:=N) (K:=K) (Ha:=ers H (fk H a b)) (sl:=jg ds s0 t0) (vs:=pre++ [.ref a,.ref b]) ti (qp sb) (vH (mz (H:=H) Z) (.cons (a:=Slot.obj 1 s0) (b:=V.ref a) ⟨a,rfl,λn z=>by
   cases z;calc⟨rfl,λu M=>by rw[W]at M;cases M;calc wE.refl _⟩,oa⟩ (.cons (a:=Slot.obj 2 t0) (b:=V.ref b) ⟨b,rfl,λn z=>by
   cases z;calc⟨rfl,λu M=>by rw[X]at M;cases M;calc wE.refl _⟩,ob⟩ .nil))) (λi j p s q t c c' n l d e3 e4=>by
   rcases DO l with⟨rfl,_,_⟩|⟨rfl,_,_⟩<;>rcases DO d with⟨rfl,_,_⟩|⟨rfl,_,_⟩
   .exact dD rfl n
   .rw[B]at e3;cases e3;rw[C]at e4;cases e4;exact ap
   .rw[C]at e3;cases e3;rw[B]at e4;cases e4;exact ap.symm
   .calc dD rfl n) λi p s c l d x hx=>by
   rcases DO l with⟨rfl,_,_⟩|⟨rfl,_,_⟩
   .rw[B]at d;cases d;exact eK (.inl hx)
   rw[C]at d;cases d;exact eK (.inr hx)
  refine⟨_,I inferInstance cdv A outer s H E hr F (ers H (fk H a b)),_,F,S0,?_⟩;let dZ:∀{v Y F' T},SR K F (ers H (fk H a b)) F' T O Y->bM K F' r.1 v->Q v T:=λ{v Y F' T} y dv=>by let⟨_,_,c,rfl,hc,r1⟩:=y.env.at_ _ _ a2;let⟨_,_,c',rfl,a0,r2⟩:=y.env.at_ _ _ a3;let⟨ec,a4⟩:=hc 0 rfl;let⟨G,a5⟩:=a0 1 rfl;let ec:c=a:=ec;let G:c'=b:=G;subst ec G;exact q v F' T (λu u' l d=>by rw[W]at l;cases l;calc a4 u' d) (λu u' l d=>by rw[X]at l;cases l;calc a5 u' d) y.gr r1 r2 dv
  rw[hg];rcases a1 with rfl|⟨rfl,z⟩
  .exact λv Y F' T y dv=>dZ y dv
  calc λY F' T y=>dZ y (by rw[z];dsimp)
def t8(n:bD)(d:D)(O:cQ):bP D:=match O[n]?,O[n+1]? with
 |some (.obj 1 s),some (.obj 2 t)=>(match s.dat,t.dat with
  |some x,some y=>.ok (.t [d,x,y])
  |_,_=>.bad)
 |_,_=>.bad
noncomputable def cq(n:bD):Fl->bP D| .rr d O=>t8 n d O| .nx O=>t8 n .n O|_=>.bad
def n7(np n:bD)(g:MS)(l:J D):bP D:=if ~~~l=np then(match l.drop (np-2)with
 | [x,y]=>(match zI x,zI y with
  |some s,some t=>(g (mH n (jg (l.take (np-2)) s t))).bind (cq (np-2))
  |_,_=>.bad)
 |_=>.bad)else .bad
def bD2(ds)(s t)(r)(h:pH (n7 np n g) ds s t= .ok r): ~~~ds+2=np/\ ∃fl,g (mH n (jg ds s t))= .ok fl/\MZ ds.length r fl:=by
 delta pH at h;symm
 .rename_i x y v w;delta n7 at h;symm
  .rename_i b;rw[cO]at b;let b: ~~~ds+2=np:=b;let u:np-2= ~~~ds:=bZ;rw[u,List.drop_left,List.take_left]at h;dsimp only at h;refine⟨b,?_⟩;symm
   .rename_i s' G m o;let M:=zh v (by rw[m];rfl);let k:=zh w (by rw[o];rfl);rw[m]at M;cases M;rw[o]at k;cases k;cases l:g (mH n (jg ds s t))with
    |bad=>rw[l]at h;cases h|ok fl=>
     rw[l]at h;refine⟨fl,rfl,?_⟩;let a:∀d O,zi (t8 ds.length d O)= .ok r->r.1=d/\O[ds.length]? =L (.obj 1 r.2.1)/\O[ds.length+1]? =L (.obj 2 r.2.2):=λd O z=>by
      delta t8 at z;split at z
      .rename_i E H B C;split at z
       .rename_i K N w1 A;delta zi at z;dsimp only at z;split at z
        .rename_i F I p q;cases z;let i:=zh w1 (by rw[p];rfl);let j:=zh A (by rw[q];rfl);rw[p]at i;cases i;rw[q]at j;cases j;exact⟨rfl,B,C⟩
        cases z
       cases z
      cases z
     cases fl with
     |rr d O=>let⟨c,e,f⟩:=a d O h;calc⟨O,.inl (by rw[c]),e,f⟩|nx O=>let⟨c,e,f⟩:=a .n O h;calc⟨O,.inr ⟨rfl,c⟩,e,f⟩|_=>cases h
   cases h
  cases h
 cases h
structure DP(P:fH)(w:cD)(K:cG)(mg:U->bR bK)(base:cH)(k:bD)(x:U)(m:J D->bP D):Prop where
 ex:∃(f:bI) (fd:fO) (ps:J U),fC P w K mg base fS k f fd ps (jf K (pH m))/\mg x=L (.ref f)/\lE K (.ref f)=bF/\jO K fd ps []
inductive tA2(X:Cx)(i1 i2:bD)(fa:MA)(Y:St)(H:Hp)(Q:J V->Hp->Prop):Prop
 |mk (O:_) (F:_) (a:_) (b:_) (_:gP X.K F H O Y) (_:Y[i1]? =some (some (.ref a))) (_:Y[i2]? =some (some (.ref b))) (_:gE (λF ds vs=>∃pre,vs=pre++ [.ref a,.ref b]/\DatL X.K F ds pre) F H (fa O) Q)
def n8(X:Cx)(b c:bD)(M:J bU)(a:MA):Prop:=PA X M (tA2 X b c a)
def n9(j a b:bD)(m:J D->bP D)(c:MA):MS:=λO=>match O[a]?,O[b]? with|some (.obj p s),some (.obj q t)=>if a=b then .bad else(c O).bind λds=>(pH m ds s t).bind λr=>.ok (.nx (((O.set a (.obj p r.2.1)).set b (.obj q r.2.2)).set j (.val r.1)))|_,_=>.bad
def bD4{f:U}(e:jG X.N X.env.scope i1 f)(h2:jG X.N X.env.scope i2 g):n8 X i1 i2 [.Name f p1,.Name g p2] gB:=yT (lB (kU e.n e.v e.d e.c) (lB (kU h2.n h2.v h2.d h2.c) pS (fA bQ)) (fA bQ)) λY H Q ⟨O,F,a,b,E,h,i,q⟩=>
 ⟨.ref a,h,.ref b,i,dY q E.sub ⟨[],rfl,DatL.nil⟩⟩
def bD5(hs:fV e=bJ)(he:IE X e f)(h:n8 X i1 i2 M fa):n8 X i1 i2 (e::M) (aC f fa):=yT (lB he h (fA hs)) λY H Q ⟨O,F,a,b,E,m,n,q⟩=>⟨O,F,E,jV q λd v g o l i q=>⟨O,g,a,b,E.grow l,m,n,jV q λds vs F2 H2 c j q=>by let⟨pre,rfl,k⟩:=j;calc dY q c.sub ⟨v::pre,rfl,DatL.cons (i.mono c.fs) k⟩⟩⟩
def M3{s s' t:Ob}{p q:bD}(E:gP X.K F H O Y)(n:i1≠i2)(g:O[i1]? =L (.obj p s))(h2:O[i2]? =L (.obj q t))(l:Y[i1]? =L (L (.ref a)))(m:Y[i2]? =L (L (.ref b)))(o:qI H T a)(r:qI H T b)(y:gA X.K F' T a s')(A:gA X.K F' T b t'):
 Ch X.K H F' T (fk H a b) Y O ((O.set i1 (.obj p s')).set i2 (.obj q t')):=by
 refine⟨by rw[aV,aV],λj u e=>?_⟩;rcases sU e with⟨rfl,rfl,_⟩|⟨w,e⟩
 .exact .inr ⟨q,t,t',b,rfl,h2,m,r,A⟩
 rcases sU e with⟨rfl,rfl,_⟩|⟨v,e⟩
 .exact .inr ⟨p,s,s',a,rfl,g,l,o,y⟩
 refine .inl ⟨e,λi k c z f x h d=>?_⟩;subst z;rcases d with d|d
 .exact E.apart i1 j p s i k a c v g e l f x d h
 calc E.apart i2 j q t i k b c w h2 e m f x d h
def bD6(C:DP X.prog X.w X.K X.mg X.base k x m)(hr:fZ k X.A)(hg:X<<<x=L .globalImplicit)(hd:(x==("__debug__" :U))=bJ)(l:dC (e::M)=bF)(ha:n8 X i1 i2 (e::M) fa)(hN:X.N.Nodup)(hj:X.N[j]? =L y)(hx:Loc X.env.scope y)(hf:X.fn y=bF\/X<<<y=L .local):
 IS X (.Assign [.Name y py] (.Call (.Name x p) (e::M) [] pc) pos) (n9 j i1 i2 m fa):=λFa Ha=>by
 let⟨fn,fd,ps,Fn,hm,hk,hb⟩:=C.ex;let P:fV e=bJ/\dC M=bF:=by delta dC at l;rw[lA,gD]at l;exact⟨by simpa using l.1,l.2⟩
 refine lM (eB (i:=j) hN hj hx (mf (E:=E0) Fn hr hg hm hk hb .nil rY ha hd (fA P.1) (kX P.2)) (vO rfl) hf) λE Y H qz=>?_
 let⟨O,F,S,q⟩:=qz;delta n9 at q;split at q
 .rename_i p s p' t g h;split at q
  .cases q
  rename_i n;let⟨_,u,a,rfl,_,ra⟩:=S.env.at_ i1 _ g;let⟨_,z,b,rfl,_,rb⟩:=S.env.at_ i2 _ h;refine⟨O,F,a,b,S.env,u,z,bn S q λds vs W Z f B d1 q=>?_⟩;let⟨pre,rfl,dl⟩:=d1;let Q:=ra.grow B;let ob:=rb.grow B;refine⟨W,a,b,s,t,ds,pre,by rw[jF],f.env.tb,B.sub,Q,ob,f.env.apart i1 i2 _ _ _ _ a b n g h u z,dl,?_⟩;cases I:pH m ds s t with
  |bad=>rw[I]at q;cases q|ok r=>
   rw[I]at q;intro v F' T l1 l2 g' r1 r2 dv;refine q _ F' T ((f.stepS (S:=fk Z a b) (λc o d G=>?_) (λc d=>?_) g' (M3 f.env n g h u z l1 l2 r1 r2)).set j dv)
   .rcases d with d|d
    .exact Q.nt c o d G
    exact ob.nt c o d G
   rcases d with d|d
   .exact f.frh i1 _ _ a g u c d
   exact f.frh i2 _ _ b h z c d
 cases q
structure M4(P:fH)(w:cD)(K:cG)(mg:U->bR bK)(base:cH)(k:bD)(x:U)(m:J D->bP D):Prop where
 c:zG K
 ex:∃(f:bI) (fd:fO) (ps:J U),fC P w K mg base fS k f fd ps (jf K (pH m))/\wC K dG.sc x f/\jO K fd ps []
 ne:x∉shfN
def jh(j i a b:bD)(m:J D->bP D)(c:MA):MS:=λO=>match O[a]?,O[b]?,O[i]? with|some (.obj p s),some (.obj q t),some (.val (.shf xs))=>if a=b then .bad else(c O).bind λds=>(pH m (.shf xs::ds) s t).bind λr=>.ok (.nx (((O.set a (.obj p r.2.1)).set b (.obj q r.2.2)).set j (.val r.1)))|_,_,_=>.bad
def bD7(g:M4 X.prog X.w X.K X.mg X.base k x m)(hr:fZ k X.A)(P:jG X.N X.env.scope i z)(h:(ap.endLine==pc.line)=bF)(hl:ah (e::M).length 30=bF)(B:dC (e::M)=bF)(ha:n8 X i1 i2 (e::M) fa)(hN:X.N.Nodup)(hj:X.N[j]? =L y)(hx:Loc X.env.scope y)(hf:X.fn y=bF\/X<<<y=L .local):
 IS X (.Assign [.Name y py] (.Call (.Attribute (.Name z pz) x ap) (e::M) [] pc) pos) (jh j i i1 i2 m fa):=λFa Ha=>by
 let⟨fn,fd,ps,Fn,hm,hb⟩:=g.ex;let h1:fV e=bJ/\dC M=bF:=by delta dC at B;rw[lA,gD]at B;exact⟨by simpa using B.1,B.2⟩
 refine lM (eB (i:=j) hN hj hx (xm (E:=E0) (kU P.n P.v P.d P.c) g.c.c hm Fn hr hb .nil rY ha (fA h1.1) (kX h1.2) (tf B hl h)) (vO rfl) hf) λE Y H qz=>?_
 let⟨O,F,S,q⟩:=qz;delta jh at q;split at q
 .rename_i p s p' t xs C G g3;split at q
  .cases q
  rename_i n;let⟨_,Q,a,rfl,_,ra⟩:=S.env.at_ i1 _ C;let⟨_,W,b,rfl,_,rb⟩:=S.env.at_ i2 _ G;let⟨_,z3,v0,rfl,d0⟩:=S.env.at_ i _ g3;let u:=d0;dsimp at u;let⟨Z,dx,a0,rfl,w1,w2,w3⟩:=u;refine⟨.ref Z,z3,Z,dx,_,rfl,S.env.sub _ _ w1,ze g.ne,O,F,a,b,S.env,Q,W,bn S q λds vs F1 H1 l I d1 q=>?_⟩;let⟨pre,rfl,dl⟩:=d1;let oa:=ra.grow I;let ob:=rb.grow I;refine⟨F1,a,b,s,t,.shf xs::ds,.ref Z::pre,by rw[jF];rfl,l.env.tb,I.sub,oa,ob,l.env.apart i1 i2 _ _ _ _ a b n C G Q W,DatL.cons (d0.mono I.fs) dl,?_⟩;cases er:pH m (.shf xs::ds) s t with
  |bad=>rw[er]at q;cases q|ok r=>
   rw[er]at q;intro v F' T l1 l2 g' r1 r2 dv;refine q _ F' T ((l.stepS (S:=fk H1 a b) (λc o f ec=>?_) (λc f=>?_) g' (M3 l.env n C G Q W l1 l2 r1 r2)).set j dv)
   .rcases f with f|f
    .exact oa.nt c o f ec
    exact ob.nt c o f ec
   rcases f with f|f
   .exact l.frh i1 _ _ a C Q c f
   exact l.frh i2 _ _ b G W c f
 cases q
def t9(X:Cx)(c:bD)(M:J bU)(b:MA):Prop:=PA X M λY H Q=>∃O F a,gP X.K F H O Y/\Y[c]? =L (L (.ref a))/\(match b O with
 | .ok ds=>∀vs F' T,cP F H F' T->(∃pre l,vs=pre++ [.ref a,.ref l]/\DatL X.K F' ds pre/\H l=bL/\F' l=bL/\T l=L (.l []))->Q vs T
 | .bad=>hI)
def bD8{f:U}(b:jG X.N X.env.scope i1 f):t9 X i1 [.Name f p1,.List [] p2] gB:=yT (lB (kU b.n b.v b.d b.c) (lB (xl pS) pS (fA bQ)) (fA bQ)) λY H Q ⟨O,F,a,E,g,q⟩=>
 ⟨.ref a,g,lL _,λl e=>q _ F _ (cP.laidN E.sub e _) ⟨[],l,rfl,DatL.nil,e,bX.free E.sub e,gI⟩⟩
def bD9(hs:fV e=bJ)(he:IE X e f)(h:t9 X i1 M fa):t9 X i1 (e::M) (aC f fa):=yT (lB he h (fA hs)) λY H Q ⟨O,F,a,E,s,q⟩=>⟨O,F,E,by
 delta aC at q;cases i:f O with
 |bad=>rw[i]at q;calc q|ok d=>
  rw[i]at q;intro v j t c k;refine⟨O,j,a,E.grow c,s,?_⟩;cases b:fa O with
  |bad=>rw[b]at q;calc q
  |ok ds=>rw[b]at q;intro vs F2 H2 g n;let⟨pre,l,rfl,m,o,p,r⟩:=n;calc q _ F2 H2 (c.trans g) ⟨v::pre,l,rfl,DatL.cons (k.mono g.fs) m,c.free o,p,r⟩⟩
def oh(j a:bD)(m:J D->bP D)(b:MA):MS:=λO=>match O[a]? with|some (.obj p s)=>(b O).bind λds=>(pH m ds s (.l [])).bind λr=>.ok (.nx ((O.set a (.obj p r.2.1)).set j (.val r.1)))|_=>.bad
def bE0(C:DP X.prog X.w X.K X.mg X.base k x m)(hr:fZ k X.A)(hg:X<<<x=some .globalImplicit)(hd:(x==("__debug__" :U))=bJ)(I:dC (e::M)=bF)(ha:t9 X i1 (e::M) fa)(hN:X.N.Nodup)(hj:X.N[j]? =some y)(h:Loc X.env.scope y)(hf:X.fn y=bF\/X<<<y=some .local):
 IS X (.Assign [.Name y py] (.Call (.Name x p) (e::M) [] pc) pos) (oh j i1 m fa):=λFa Ha=>by
 let⟨fn,fd,ps,Fn,hm,hk,hb⟩:=C.ex;let f:fV e=bJ/\dC M=bF:=by delta dC at I;rw[lA,gD]at I;exact⟨by simpa using I.1,I.2⟩
 refine lM (eB (i:=j) hN hj h (mf (E:=E0) Fn hr hg hm hk hb .nil rY ha hd (fA f.1) (kX f.2)) (vO rfl) hf) λE Y H qz=>?_
 let⟨O,F,S,q⟩:=qz;delta oh at q;split at q
 .rename_i p s G;let⟨_,Q,a,rfl,_,ra⟩:=S.env.at_ i1 _ G;refine⟨O,F,a,S.env,Q,?_⟩;cases g:fa O with
  |bad=>rw[g]at q;calc q|ok ds=>
   rw[g]at q;replace q:kP X Fa Ha ((pH m ds s (.l [])).bind λr=>.ok (.nx ((O.set i1 (.obj p r.2.1)).set j (.val r.1)))) E:=q;intro vs F1 W d Z;let⟨pre,l,rfl,dl,y1,y2,P⟩:=Z;let B:=S.grow d;let oa:=ra.grow d;let ob:gA X.K F1 W l (.l []):=bz y2 P rfl ⟨[],rfl,DatL.nil⟩;let ap:eP W a l:=λc f Z=>by have:=wJ P rfl Z;subst this;rw[ra.ow d]at f;let⟨u,w,_⟩:=ra.own f;rw[y1]at w;cases w
   refine⟨F1,a,l,s,.l [],ds,pre,by rw[jF],B.env.tb,d.sub,oa,ob,ap,dl,?_⟩;cases er:pH m ds s (.l [])with
   |bad=>rw[er]at q;cases q|ok r=>
    rw[er]at q;intro v F' T l1 l2 g' r1 r2 dv;let h0:Ha l=none:=by
     cases w:Ha l with
     |none=>rfl|some u=>exact dD y1 (S.gr.more l (by rw[w];simp))
    refine q _ F' T ((B.stepS (S:=fk W a l) (λc o b ec=>?_) (λc b=>?_) g' ⟨by rw[aV],λjj t e=>?_⟩).set j dv)
    .rcases b with b|b
     .exact oa.nt c o b ec
     exact ob.nt c o b ec
    .rcases b with b|b
     .exact B.frh i1 _ _ a G Q c b
     rw[wJ P rfl b];exact h0
    rcases sU e with⟨rfl,rfl,_⟩|⟨n,e⟩
    .exact .inr ⟨p,s,_,a,rfl,G,Q,l1,r1⟩
    refine .inl ⟨e,λp' u' c w e3 x h z=>?_⟩;subst w;rcases z with z|z
    .exact B.env.apart i1 jj p s p' u' a c n G e Q e3 x z h
    have:=wJ P rfl z;subst this;let rc:=S.env.ob e e3;rw[rc.ow d]at h;let⟨u,w,_⟩:=rc.own h;rw[y1]at w;cases w
 cases q
end
section
open PySem PySem.Spec PyProof.Rows PySem.W L2
variable [dG] [Pd]
noncomputable def oi:J D->bP D| [.l ds]=>(az ds).bind λa=>.ok (.b (a.any id))|_=>.bad
def bE1(bs:J bW):(gK (~~~bs)).any (λi=>bs.getD i bJ)=bs.any id:=by
 induction bs with
 |nil=>rfl|cons b r a=>rw[dB,kf,wU,SM,wU, <-a];rfl
def bE2(P:X.calm=bF):jL X (.builtin "any") (vM X oi):=by
 intro pe s Y H xs us Q I r h;let⟨F,ds,E,Z,q⟩:=h;delta oi at q;split at q
 .rename_i M;let⟨x,rfl,y⟩:=pE Z;dsimp at y;let⟨p,ys,rfl,O,B⟩:=y;let⟨u,rfl,ru⟩:=pR r;cases ru;cases k:az M with
  |ok f=>
   rw[k]at q;let e:=Di k;subst e;let⟨its,C,pl,hz⟩:=I.list (bX.seq E O);let S:X.A.in1.handled=none:=I.ok.hd P;let o:p≠s⁻¹:=by let⟨ob,n,e,_⟩:=pl;exact hJ (gH e)
   refine call_any_walk (v5 pl.isList ?_);let m:(s.heap.push {cls:=.type "list_iterator",data:=.fields #[.ref p,.int 0 0]}).IsList p its.toArray:=by let⟨ob,e,c,d⟩:=pl.isList;exact⟨ob,gF _ e,c,d⟩
   refine⟨s⁻¹,_,_,_,_,_,λi=>f.getD i bJ,rfl,IU S s⁻¹ p o its.toArray,⟨⟨_,lC _ rfl,rfl,rfl⟩,m⟩,?_,λh' tk W=>?_⟩
   .intro i v s' K E' T hq;let l:its[i]? =some v:=by simpa using T
    let⟨x',t,w⟩:=iK C l;let⟨d,g,dx⟩:=iK B.paired t;rw[nX]at g;cases a:f[i]? with
    |none=>rw[a]at g;cases g|some b=>
     rw[a]at g;cases g;dsimp at dx;subst dx;cases w;refine dr ?_;let N:f.getD i bJ=b:=by rw[qY,a];rfl
     let j:K (f.getD i bJ) s':=hq;rw[N]at j;exact j
   let hn:its.toArray.size= ~~~f:=by
    rw[hY, <-C.length, <-B.length,cA]
   rw[hn,bE1]
   let G:bS X pe Y H {s with heap:=h',toks:=tk}:=I.kept λb ob e=>W b ob (λz=>by
    let z':b=s⁻¹:=by simpa using z
    calc dD (gH e) (by rw[z'];calc aX _)) (gF _ e)
   calc⟨.b _,H,G,rfl,dY q E (by dsimp)⟩
  |bad=>rw[k]at q;cases q
 cases q
def bE3{k:gN}{v:bK}(h:(kA P w).is k v=bF):dM (kV k) v:=by
 rcases yQ (show ew k v=bF from h)with⟨i,t,rfl,rfl⟩|⟨x,t,rfl,rfl⟩
 .exact⟨t,rfl⟩
 calc⟨t,rfl⟩
def bE4(A:X.calm=bF):jL X (.type "list") λvs H Q=>∃a kvs,vs= [.ref a]/\Rd H a (.dK kvs)/\ ∀l,H l=bL->Q (.ref l) (upd H l (.l (kvs.map λkv=>kV kv.1))):=by
 intro pe s Y H xs O Q I r h;let⟨a,kvs,rfl,e,q⟩:=h;let⟨u,rfl,G⟩:=pR r;cases G;let⟨z,C,vs,rk,dd⟩:=xI I.hok e;let⟨ep,o⟩:=dd.dictAt;let f:=rk.length;refine kdl_call (kdl_dict C) (I.ok.hd A) o (by rw[<-f];calc z) λh' K g c' kp y c=>?_
 refine⟨.ref s⁻¹,_,I.laid (t':=K) kp (cU _) (show nD X.prog X.w _ h' _ (.l (kvs.map λkv=>kV kv.1))from⟨by rw[cA];calc z,g.toList,c',?_,by simpa using y⟩),rfl,q _ (I.hok.fresh (cU _))⟩;let m:∀(i:J (gN×V)) (d:J (gN×bK)) (b:J bK),KV i d-> ~~~b= ~~~d->(∀(j:bD) v,b[j]? =L v->∃k x,d[j]? =L (k,x)/\(kA X.prog X.w).is k v=bF)->dR (i.map λkv=>kV kv.1) b:=by
  intro i;induction i with
  |nil=>
   intro d b r f _;cases r;cases b with
   |nil=>calc .nil|cons _ _=>cases f
  |cons k i B=>
   intro d b r f n;cases r with
   | @cons _ w0 _ d E F=>
    cases b with
    |nil=>cases f|cons v b=>refine .cons ?_ (B d b F (by simpa using f) λj M e=>n (j+1) M e);let⟨N,P,p,t⟩:=n 0 v rfl;cases p;show dM (kV k.1) v;rw[E.1];exact bE3 t
 calc m kvs vs g.toList rk (by rw[mV];calc c.1) λj v e=>c.2 j v (by rw[<-f9];calc e)
noncomputable def sG:J D->bP D| [.dct a _]=>if(a.all λk=>cE (~~~k<=1000))=bF then .ok (.l (a.map .str))else .bad|l=>C8 l
def bE5(p:X.calm=bF):jL X (.type "list") (vM X sG):=by
 intro pe s Y H xs n Q I r h;let⟨F,ds,f,d,q⟩:=h;delta sG at q;split at q
 .rename_i b vs;split at q
  .rename_i c;let⟨x,rfl,m⟩:=pE d;dsimp at m;let⟨a,kvs,rfl,i,j,o⟩:=m;refine bE4 p pe s Y H _ n Q I r ⟨a,kvs,rfl,.inl (f _ _ i),λl d=>?_⟩;let g:(kvs.map λkv=>kV kv.1)=(b.map V.str):=by
    have:=jZ (Jq kV) j;rw[kM,kM]at this;exact this
   rw[g];refine iL q f ?_ d;revert c;clear g j i o q;intro c;let e:∀b:J U,(b.all λk=>cE (~~~k<=1000))=bF->DatL X.K F (b.map D.str) (b.map V.str):=λb=>by
    intro c;induction b with
    |nil=>calc DatL.nil|cons k b t=>rw[lA,gD,v6]at c;let u:=vA;exact DatL.cons (by dsimp;calc⟨trivial,bZ⟩) (t c.2)
   exact e b c
  cases q
 calc Xm pe s Y H xs n Q I r ⟨F,ds,f,d,q⟩
end
noncomputable def ua(M:bD):bD->bD->J bD|0,_=>[]|t+1,i=>i::ua M t ((i*5+1)%M)
def zJ(M:bD):bW:=(gK M).all λi=>(gK M).all λj=>(ua M M i).contains j
def DQ:zJ 8=bF:=lW
def bE6:zJ 16=bF:=lW
def bE7:zJ 32=bF:=lW
def bE8:zJ 64=bF:=lW
noncomputable abbrev fr(mask:bD):=Hs mask
def bE9{p:bD}:fr mask owner (n+1) i p=(match(gK (gm mask i+1-i)).find? (λk=>(owner.getD (i+k) (some 0)).isNone)with
 |some k=>some (i+k)
 |none=>fr mask owner n (gp mask i p).1 (gp mask i p).2):=by
 show Hs mask owner (n+1) i p=_;rw[Hs];cases S8 (λk=>(owner.getD (i+k) (some 0)).isNone) (gK (gm mask i+1-i))<;>rfl
def M5{p:bD}:(∃j,fr mask owner (n+1) i p=some j/\i<=j/\j<=gm mask i/\(owner.getD j (some 0)).isNone=true)\/(fr mask owner (n+1) i p=fr mask owner n (gp mask i p).1 (gp mask i p).2/\(owner.getD i (some 0)).isNone=false):=by
 let a:i<=gm mask i:=by delta gm;split<;>lia
 rw[bE9];cases h:(gK (gm mask i+1-i)).find? λk=>(owner.getD (i+k) (some 0)).isNone with
 |some k=>
  refine .inl ⟨i+k,rfl,bZ,?_,?_⟩
  .have:=qF.mp (QG h);lia
  calc HR (p:=λk=>(owner.getD (i+k) (some 0)).isNone) h
 |none=>
  refine .inr ⟨rfl,?_⟩;have:=vy.mp h 0 (qF.mpr bZ);cases q:(owner.getD i (some 0)).isNone with
  |false=>rfl|true=>calc dD q this
def M6(h:i<=mask):gm mask i<=mask:=by delta gm;split<;>lia
def bF0{p:bD}:(gp mask i p).1<=mask:=by have:(i*5+1+p/32)%(mask+1)<mask+1:=wj _ bZ;delta gp;dsimp only;lia
theorem M7{mask:bD}{owner:dE (bR bD)}{d:bD}(b:(owner.getD d (L 0)).isNone=bF):∀n i,i<=mask->d∈ua (mask+1) n i->∃j,fr mask owner n i 0=L j/\j<=mask/\(owner.getD j (L 0)).isNone=bF
 |0,_,_,h=>by cases h|n+1,i,k,h=>by
  rcases M5 (mask:=mask) (owner:=owner) (n:=n) (i:=i) (p:=0)with⟨j,a,_,f,g⟩|⟨a,c⟩
  .exact⟨j,a,hE f (M6 k),g⟩
  rw[a];rcases jJ.mp h with rfl|h
  .rw[b]at c;cases c
  let e:gp mask i 0=((i*5+1)%(mask+1),0):=by delta gp;simp
  rw[e];calc M7 b n _ (by have:=wj (i*5+1) (show 0<mask+1 by lia);lia) h
theorem M8{M:bD}{x:bD}:∀{n m i},n<=m->x∈ua M n i->x∈ua M m i
 |0,_,_,_,h=>by cases h|n+1,0,_,l,_=>by lia|n+1,m+1,i,l,h=>by
  rcases jJ.mp h with rfl|h
  .exact fF
  calc fM _ (M8 bZ h)
theorem M9{mask:bD}{owner:dE (bR bD)}{f:bD}(g:(owner.getD f (L 0)).isNone=bF)(o:f<=mask)(h:zJ (mask+1)=bF):∀k n i p,p<32^k->i<=mask->mask+1<=n->∃j,fr mask owner (n+k) i p=L j/\j<=mask/\(owner.getD j (L 0)).isNone=bF
 |0,n,i,p,a,c,d=>by
  have:p=0:=by simpa using a
  subst this;refine M7 g n i c (M8 d ?_);have:=mE.mp (mE.mp h i (qF.mpr bZ)) f (qF.mpr bZ);calc sK.mp this
 |k+1,n,i,p,a,c,d=>by
  rcases M5 (mask:=mask) (owner:=owner) (n:=n+k) (i:=i) (p:=p)with⟨j,b,_,l,m⟩|⟨b,_⟩
  .exact⟨j,b,hE l (M6 c),m⟩
  let e:fr mask owner (n+(k+1)) i p=_:=b;rw[e];refine M9 g o h k n _ _ ?_ bF0 d;show p/32<32^k;rw[Nat.pow_succ]at a;calc Nat.div_lt_of_lt_mul (by rw[SI];calc a)
def bF1(h):zT h<2^64:=by
 delta zT;have:=aS h (show(0:bH)<2^64 by decide);have:=yI h (show(2^64:bH)≠0 by decide)
 lia
def bF2(a:(owner.getD j0 (L 0)).isNone=bF)(c:j0<=mask)(b:zJ (mask+1)=bF)(h):∃j,fr mask owner (HV mask) (zT h%(mask+1)) (zT h)=L j/\j<=mask/\(owner.getD j (L 0)).isNone=bF:=by have:=M9 a c b 13 (mask+2) (zT h%(mask+1)) (zT h) (nO (bF1 h) hG) (by have:=wj (zT h) (show 0<mask+1 by lia);lia) bZ;calc this
theorem Na:∀{l:J (bR bD)} {j k:bD},l[j]? =some none->((l.set j (some k)).filterMap id).Perm (k::l.filterMap id)
 | [],_,_,h=>by cases h|o::l,0,k,h=>by let h:o=none:=kE h;subst h;calc aW _|o::l,j+1,k,h=>by
  let a:=Na (l:=l) (j:=j) (k:=k) h;rw[Rs];cases o with
  |none=>calc a|some x=>show(x::(l.set j (some k)).filterMap id).Perm (k::x::l.filterMap id);calc(a.cons x).trans (Sn k x _)
theorem Nc:∀{l:J (bR bD)},~~~(l.filterMap id)< ~~~l->∃j:bD,l[j]? =some none
 | [],h=>by cases h|none::l,_=>⟨0,rfl⟩|some x::l,h=>by
  let⟨j,a⟩:=Nc (l:=l) (by
   let h: ~~~(l.filterMap id)+1< ~~~l+1:=h
   lia)
  calc⟨j+1,a⟩
abbrev DR(mask:bD)(acc:bR (dE (bR bD)×bD))(h:bH):bR (dE (bR bD)×bD):=do
 let (owner,k) <-acc;let j <-fr mask owner (HV mask) (zT h%(mask+1)) (zT h)
 dX (owner.setIfInBounds j (L k),k+1)
theorem Nd{mask:bD}(i:zJ (mask+1)=bF):∀(l:J bH) (owner:dE (bR bD)) (k:bD),owner.size=mask+1->(owner.toList.filterMap id).Perm (gK k)->k+ ~~~l<=mask->∃a,l.foldl (DR mask) (some (owner,k))=some (a,k+ ~~~l)/\a.size=mask+1/\(a.toList.filterMap id).Perm (gK (k+ ~~~l))
 | [],owner,k,d,f,_=>⟨owner,rfl,d,f⟩|h::l,owner,k,d,f,o=>by
  rw[dB]at o;let⟨j0,b⟩:=Nc (l:=owner.toList) (by rw[f.length_eq,qZ,mV,d];lia);let p:j0<owner.size:=by have:=(pK.mp b).1;simpa using this
  let n:(owner.getD j0 (some 0)).isNone=bF:=by rw[vi, <-f9,b];rfl
  let⟨j,e,t,g⟩:=bF2 (mask:=mask) n bZ i h;let m:owner.toList[j]? =some none:=by
   rw[vi, <-f9,mU (by rw[mV];lia)]at g;rw[mU (by rw[mV];lia)];cases q:owner.toList[j]'(by rw[mV];lia)with
   |none=>rfl|some x=>rw[q]at g;cases g
  let c:DR mask (some (owner,k)) h=some (owner.setIfInBounds j (some k),k+1):=by show(fr mask owner (HV mask) (zT h%(mask+1)) (zT h)).bind _=_;rw[e];rfl
  rw[ef,c];let⟨r,p1,p2,s⟩:=Nd i l (owner.setIfInBounds j (some k)) (k+1) (by simpa using d) (by rw[Array.toList_setIfInBounds];refine(Na m).trans ((f.cons k).trans ?_);rw[List.range_succ];calc List.perm_append_comm (l₁:=[k]) (l₂:=gK k)) bZ;refine⟨r,?_,p2,?_⟩
  .rw[p1,dB];congr 2;lia
  rw[dB,show k+(~~~l+1)=k+1+ ~~~l by lia];calc s
def Nf{l:J (bR bD)}:(gK (~~~l)).filterMap (λj=>l.getD j bL)=l.filterMap id:=by
 induction l with
 |nil=>rfl|cons o l a=>
  rw[dB,kf,dn,Hy,dn];have:(gK (~~~l)).filterMap ((λj=>(o::l).getD j bL) ∘ Jl)=l.filterMap id:=by rw[<-a];rfl
  rw[this];rfl
def Ng{plain:bW}(d:zJ (mask+1)=bF)(h:hs.size<=mask):∃t order,wf mask finger moves led plain hs=L (t,order)/\order.toList.Perm (gK hs.size)/\t.fits hs.size=bF:=by
 let⟨o,e,b,a⟩:=Nd d hs.toList (RY (mask+1) bL) 0 cS cS (by rw[mV];lia);rw[kz,mV]at e a;let c:HE mask hs=L o:=by delta HE;rw[<-Array.foldl_toList];show IY _ (hs.toList.foldl (DR mask) (L (RY (mask+1) bL,0)))=_;rw[e];rfl
 delta wf;rw[c];refine⟨_,_,rfl,?_,?_⟩
 .have:((gK (mask+1)).filterMap λj=>(o.getD j bL).map (j,·)).map (·.2)=o.toList.filterMap id:=by
   rw[Rt, <-Nf,mV,b];congr 1;funext j;rw[HW,qY,vi,f9];cases(o[j]?).getD bL<;>rfl
  show((((gK (mask+1)).filterMap λj=>(o.getD j bL).map (j,·)).map (·.2)).toArray).toList.Perm _;rw[List.toList_toArray,this];exact a
 let g: ~~~(((gK (mask+1)).filterMap λj=>(o.getD j bL).map (j,·)).map (·.1))=hs.size:=by
  have:((gK (mask+1)).filterMap λj=>(o.getD j bL).map (j,·)).map (·.2)=o.toList.filterMap id:=by rw[Rt, <-Nf,mV,b];congr 1;funext j;rw[HW,qY,vi,f9];cases(o[j]?).getD bL<;>rfl
  rw[cA, <-cA (f:=λx:bD×bD=>x.2),this,a.length_eq,qZ]
 delta Ih SD;dsimp[hY,g];simp;calc h
section
variable{w:cD}{K:Type} [sP K]{knd:KeyKind prog w K}
def zj(M:dE (bH×bK))(b:bR (ae×dE bD)):mZ (dE (bH×bK)×ae):=do
 let some (t,order):=b|unsupported "internal:set-table-without-room"
 let a:=order.filterMap (M[·]?)
 if a.size != M.size then gu "internal:set-table-lost-an-element"
 dX (a,t)
def bF3(a)(b):setRelay a b=(do
 let (M,_,t) <-BX a
 if tT b>cR then gu "set:memory"
 let (M,t) <-zj M (t.relaid (M.map (·.1)) b)
 Jr a M t):=rfl
def bF4(M:dE α):(gK M.size).filterMap (λi=>M[i]?)=M.toList:=by
 have:∀l:J α,(gK (~~~l)).filterMap (λi=>l[i]?)=l:=λl=>by
  induction l with
  |nil=>rfl|cons x l a=>rw[dB,kf,dn,Hy];show x::(gK (~~~l)).filterMap ((λi=>(x::l)[i]?) ∘ Jl)=_;congr 1
 let h:=this M.toList;rw[mV]at h;rw[<-h];simp[f9]
def DS{M:dE (bH×bK)}(a:order.toList.Perm (gK M.size)):(order.filterMap (M[·]?)).toList.Perm M.toList:=by
 rw[Array.toList_filterMap];have:=a.filterMap (λi=>M[i]?)
 rwa [bF4]at this
def Nh{M:dE (bH×bK)}{Q:dE (bH×bK)×ae->bT->Prop}(a:order.toList.Perm (gK M.size))(h:Q (order.filterMap (M[·]?),t) s):(A>>>(zj M (L (t,order)))) Q E s:=by
 let e:(order.filterMap (M[·]?)).size=M.size:=by rw[<-mV,(DS a).length_eq,mV]
 delta zj;dsimp only;rw[e];dsimp[bne_self_eq_false,dq,yM];calc cT h
def bF5:∀m,m<=32->zJ (tT m)=bF/\m<tT m/\tT m<=64:=by
 let c:((gK 33).all λm=>(tT m==8||tT m==16||tT m==32||tT m==64)&&cE (m<tT m))=bF:=lW;intro m a;have:=mE.mp c m (qF.mpr bZ);rw[gD,v6]at this;refine⟨?_,this.2,?_⟩
 .let h:=this.1;dsimp[v8,mX]at h;rcases h with((h|h)|h)|h<;>rw[h]
  .exact DQ
  .exact bE6
  .exact bE7
  exact bE8
 let h:=this.1;dsimp[v8,mX]at h
 lia
end
theorem Ni{α:Type}:∀{l:J α} {i:bD} {x:α},l[i]? =L x->(x::l.eraseIdx i).Perm l| [],_,_,h=>by cases h|y::l,0,x,h=>by cases h;calc aW _|y::l,i+1,x,h=>by let a:=Ni (l:=l) (i:=i) (x:=x) h;show(x::y::l.eraseIdx i).Perm (y::l);calc(Sn y x _).trans (a.cons y)
theorem Nj{α:Type}{next:bD->bD}:∀(n k:bD) (l:J α) (lF:dE α),n= ~~~l->(SN next n k l lF).toList.Perm (lF.toList++l)
 |0,k,l,lF,h=>by have:l= []:=f8.mp h.symm;subst this;show lF.toList.Perm _;rw[jF]|n+1,k,l,lF,h=>by
  let a:next k% ~~~l< ~~~l:=wj _ bZ
  let e:l[next k% ~~~l]? =L l[next k% ~~~l]:=mU a;let p:=Ni e;let b:=Nj (next:=next) n (k+1) (l.eraseIdx (next k% ~~~l)) (lF.push l[next k% ~~~l]) (by rw[List.length_eraseIdx_of_lt a];lia);delta SN;rw[e];dsimp only;refine b.trans ?_;rw[Array.toList_push,nQ];calc p.append_left _
def bF6(xs:dE α):(pickOrder next xs).toList.Perm xs.toList:=by have:=Nj (next:=next) xs.size 0 xs.toList #[] (by rw[mV]);calc this
theorem Nk[sP α]:∀{l m:J α},l.Nodup-> ~~~l= ~~~m->(∀x,x∈l->x∈m)->m.Perm l
 | [],m,_,b,_=>by have:m= []:=f8.mp b.symm;subst this;calc aW _|x::l,m,a,b,h=>by
  let a:=tV.mp a;let c:=h x fF;let p:m.Perm (x::m.erase x):=List.perm_cons_erase c;refine p.trans ((Nk a.2 ?_ λy d=>?_).cons x)
  .rw[QM c];rw[dB]at b;lia
  have:y≠x:=λe=>a.1 (e▸d)
  calc(Rb this).mpr (h y (fM _ d))
section
variable{w:cD}{K:Type} [sP K]{knd:KeyKind prog w K}
theorem DT:∀{l},xa knd l->∃ks,jN (λe k=>knd.is k e.2=bF/\e.1=knd.hash k) l ks| [],_=>⟨[],.nil⟩|e::l,h=>by let⟨⟨k,a,b⟩,_⟩:=h.head;let⟨ks,c⟩:=DT h.tail;calc⟨k::ks,.cons ⟨a,b⟩ c⟩
def bF7{l:J (bH×bK)}(h:jN (λe k=>knd.is k e.2=bF/\e.1=knd.hash k) l ks)(k):k∈ks ↔ ∃e∈l,knd.is k e.2=bF:=by
 induction h with
 |nil=>calc⟨λh=>(nomatch h),λd=>by let⟨_,h,_⟩:=d;calc(nomatch h)⟩| @cons e c l ks h t b=>
  constructor
  .intro hk;rcases jJ.mp hk with rfl|hk
   .exact⟨e,fF,h.1⟩
   let⟨x,a,q⟩:=b.mp hk;exact⟨x,fM _ a,q⟩
  rintro⟨x,a,q⟩;rcases jJ.mp a with rfl|a
  .rw[knd.inj _ k c q h.1];exact fF
  calc fM _ (b.mpr ⟨x,a,q⟩)
end
section
variable{w:cD}{K:Type} [sP K]{knd:KeyKind prog w K}
noncomputable def qD(a:J K)(k:K):J K:=if k∈a then a else a++ [k]
abbrev jY(knd:KeyKind prog w K)(h:cH)(a:bI)(b:J K):Prop:=h.SetOf knd a (λk=>cE (k∈b)) (~~~b)
def Nl{k:K}(d:h.SetOf knd a (λb=>cE (b∈c)||decide (b=k)) (if cE (k∈c)=bF then ~~~c else ~~~c+1)):jY knd h a (qD c k):=by
 delta jY qD;by_cases f:k∈c
 .rw[cK f];rw[cK (kF f)]at d;let e:(λb=>cE (b∈c)||decide (b=k))=λb=>cE (b∈c):=by
   funext b;by_cases z:b=k
   .subst z;simp[f]
   simp[z]
  rw[e]at d;exact d
 rw[cX f];rw[cX (by simpa using f)]at d;let e:(λb=>cE (b∈c)||decide (b=k))=λb=>cE (b∈c++ [k]):=by
  funext b;simp[hV,Bool.decide_or]
 rw[e]at d;rw[cO];calc d
abbrev rM(h:cH)(o:bI)(M:dE (bH×bK))(b:bD)(t:ae):Prop:=∃a,h.get? o=L a/\a.data= .set M b t/\t.fits M.size=bF
def rM.keep{o:bI}{M:dE (bH×bK)}(l:rM h o M ep t)(n:o≠a)(k:nY a h h'):rM h' o M ep t:=by let⟨e,b,c,d⟩:=l;calc⟨e,by rw[k.2 o n];calc b,c,d⟩
def DU{o:bI}{M:dE (bH×bK)}{Q:(dE (bH×bK)×bD×ae)->bT->Prop}(l:rM s.heap o M ep t)(h:Q (M,ep,t) s):(A>>>(BX o)) Q E s:=by let⟨d,a,b,c⟩:=l;calc kj a b c h
theorem Nn{a o:bI}{M:dE (bH×bK)}{f:bD}{t:ae}{c:mZ mY}(n:o≠a)(he:∀(s':bT) (Q:mY->bT->Prop),rM s'.heap o M f t->Q () s'->wpAny (bY prog w) A c Q E s'):
 ∀(l:J (bH×bK)) (ks ls:J K) (s:bT) (Q:PUnit->bT->Prop),xa knd l->jN (λe k=>knd.is k e.2=bF/\e.1=knd.hash k) l ks-> ~~~ls+ ~~~l<=1000->jY knd s.heap a ls->rM s.heap o M f t->
 (∀h',nY a s.heap h'->jY knd h' a (ks.foldl qD ls)->Q wX {s with heap:=h'})->
 (A>>>(l6 l wX λ(x:bH×bK) (_:PUnit)=>match x with
  | (h,x)=>do
   let _ <-ag [x] (Iw a x h)
   c
   let __do_lift <-BX o
   if(__do_lift.snd.fst != f)=bF then do
    gu "set.changed-during-merge"
    dX (tY wX)
    else dX (tY wX))) Q E s
 | [],_,ls,s,Q,_,.nil,_,m,_,h=>by rw[o4];calc cT (h s.heap (ki _ _) m)| (B,x)::l,_,ls,s,Q,d,.cons (b:=k) r I,F,m,z,h=>by
  rw[dB]at F;let⟨H,p⟩:=r;let p:B=knd.hash k:=p;subst p;rw[gk];refine bV ?_;dsimp only;refine bV (ei (Hu H d.head.2 m (by have:zX=4096:=rfl;lia) λg q u=>?_));let j:=Nl u;let i:rM g o M f t:=z.keep n q;refine bV (he {s with heap:=g} _ i ?_);refine bV (DU (s:={s with heap:=g}) i ?_);dsimp only;rw[cX cS];refine cT ?_;dsimp only;let C: ~~~(qD ls k)<= ~~~ls+1:=by delta qD;split<;>simp
  refine Nn n he l _ (qD ls k) {s with heap:=g} Q d.tail I bZ j i λy G v=>?_
  calc h y (q.trans G) v
end
section
variable{w:cD}{K:Type} [sP K]{knd:KeyKind prog w K}
noncomputable def No(M:dE (bH×bK))(t:ae):mZ mY:=do
 if !t.led&&M.size>1 then gu "set:maker-not-led"
def bF8(a):setWalk a=(do
 let (M,epoch,t) <-BX a
 if <-IZ then return pickOrder ((<-ask).params.setOrder a epoch) M
 if(!t.plain&&M.size>1)then return (<-drawOrder M.size M.toList).toArray
 No M t
 return M):=rfl
def Np{Q:bW->bT->Prop}(h:Q (w.params.followText "set-order") s):wpAny (bY prog w) A IZ Q E s:=by delta IZ;calc bV (RO (cT h))
def bF9{o:bI}{M:dE (bH×bK)}{Q:dE (bH×bK)->bT->Prop}(c:rM s.heap o M ep t)(a:(w.params.followText "set-order" ||t.led&&t.plain||decide (M.size<=1))=true)(h:∀es':dE (bH×bK),es'.toList.Perm M.toList->Q es' s):(A>>>(setWalk o)) Q E s:=by
 rw[bF8];refine bV (DU c ?_);dsimp only;refine bV (Np ?_);cases d:w.params.followText "set-order" with
 |true=>dsimp[rS];calc bV (RO (cT (h _ (bF6 M))))|false=>
  rw[d]at a;dsimp[dq,yM];let e:(!t.plain&&cE (M.size>1))=false:=by
   cases b:t.plain with
   |true=>rfl|false=>rw[b]at a;simp at a;simp;lia
  let f:(!t.led&&cE (M.size>1))=false:=by
   cases b:t.led with
   |true=>rfl|false=>rw[b]at a;simp at a;simp;lia
  rw[cX (by rw[e];simp)];refine bV ?_;delta No;rw[cX (by rw[f];simp)];calc cT (cT (h M (aW _)))
theorem DV{a:bH×bK->bR bW×mY->mZ (ForInStep (bR bW×mY))}(b:∀e,e.2.scannable=bF->∀r,a e r=dX (tY (bL,()))):∀(l:J (bH×bK)) {Q:bR bW×mY->bT->Prop},(∀e∈l,e.2.scannable=bF)->Q (bL,()) s->(A>>>(l6 l (bL,()) a)) Q E s| [],Q,_,h=>by rw[o4];calc cT h|e::l,Q,c,h=>by rw[gk,b e (c e fF)];calc bV (cT (DV b l (λx d=>c x (fM _ d)) h))
def bG0{o:bI}{M:dE (bH×bK)}{f:bD}{m:ae}{Q:bW->bT->Prop}(i:rM s.heap o M ep t)(g:rM s.heap a d f m)(j:xa knd M.toList)(h2:xa knd d.toList)(h:Q bF s):(A>>>(setsQuiet [o,a])) Q E s:=by
 let b:∀{o:bI} {M:dE (bH×bK)} {ep:bD} {t:ae} {Q:dE (bH×bK)->bT->Prop},rM s.heap o M ep t->Q M s->(A>>>(setEntries o)) Q E s:=λl h=>by let⟨u,n,p,q⟩:=l;exact wpAny_setEntries_of n p q h
 delta setsQuiet;refine bV ?_;rw[gk];refine bV (bV (b i ?_));rw[<-HB];refine bV (DV (λe c r=>?_) M.toList (λe c=>(j e c).2) ?_)
 .let⟨k,x⟩:=e;cases x<;>first|rfl|cases c
 refine cT ?_;dsimp only;rw[gk];refine bV (bV (b g ?_));rw[<-HB];refine bV (DV (λe c r=>?_) d.toList (λe c=>(h2 e c).2) ?_)
 .let⟨k,x⟩:=e;cases x<;>first|rfl|cases c
 refine cT ?_;dsimp only;rw[o4];calc cT (cT h)
def bG1{o:bI}{M:dE (bH×bK)}{m:J K}{Q:dE (bH×bK)->bT->Prop}(n:o≠a)(u:jY knd s.heap a m)(g:rM s.heap o M ep t)(i:xa knd M.toList)(h:∀(es':dE (bH×bK)) h',es'.toList.Perm M.toList->nY a s.heap h'->jY knd h' a m->Q es' {s with heap:=h'}):(A>>>(setWalkUnseen o [a] (L a))) Q E s:=by
 let c:=λes' p=>h es' s.heap p (ki _ _) u
 delta setWalkUnseen;refine bV (DU g ?_);dsimp only;refine bV (Np ?_);split
 .rename_i z;exact bF9 g z c
 let⟨C,x,y,q,f,j,e,b,d,v,l,B⟩:=u;refine bV (bG0 (knd:=knd) g ⟨C,f,e,l⟩ i b ?_);dsimp[Bool.not_true,dq,yM];refine bV (g0 ?_);refine bV (kj f e l ?_);dsimp only;split
 .refine bV (HG f e ?_ (HH v));refine cT (h M _ (aW _) (vv _ a _) ?_);let r:=(IC (knd:=knd) (S':=λk=>cE (k∈m)) f j e (es':=x) (t':={q with led:=q.led&&t.led,plain:=q.plain&&t.plain}) b d v l).2;rw[B]at r;exact r
 calc cT (c M (aW _))
end
section
variable{w:cD}{K:Type} [sP K]{knd:KeyKind prog w K}
abbrev cr(h:cH)(a:bI)(m:bD):Prop:=∃b M ep t,h.get? a=L b/\b.data= .set M ep t/\zJ (t.mask+1)=bF/\m<=t.mask
def bG2{plain:bW}(h:wf mask finger moves led plain hs=some (t,order)):t.mask=mask:=by
 delta wf at h;cases a:HE mask hs with
 |none=>rw[a]at h;cases h|some o=>rw[a]at h;cases h;rfl
def bG3{S:K->bW}{m:bD}{Q:mY->bT->Prop}(H:s.heap.SetOf knd a S n)(C:zJ (tT b)=bF)(h2:n<tT b)(P:tT b<=cR)(T:m<tT b)(h:∀h',nY a s.heap h'->h'.SetOf knd a S n->cr h' a m->Q () {s with heap:=h'}):(A>>>(setRelay a b)) Q E s:=by
 let⟨o,M,ep,t,v,u,l,p,j,I,N,F⟩:=H;let⟨t',order,e,y,i⟩:=Ng (mask:=tT b-1) (finger:=t.finger) (moves:=t.movedTo (tT b-1)) (led:=t.led) (plain:=t.plain) (hs:=M.map (·.1)) (by rw[Ru bZ];calc C) (by rw[Bn,F];lia);let O:=bG2 e;rw[Bn]at y i;rw[bF3];refine bV (kj v l N ?_);dsimp only;rw[cX bZ];let G:t.relaid (M.map (·.1)) b=L (t',order):=e;rw[G];refine bV (Nh y ?_);let c:=DS y;let d:(order.filterMap (M[·]?)).size=M.size:=by rw[<-mV,c.length_eq,mV]
 let f:(order.filterMap (M[·]?)).size<zX:=by rw[d];exact I
 let⟨g,r⟩:=IC (knd:=knd) (S':=S) v u l (es':=order.filterMap (M[·]?)) (t':=t') (p.perm c) (λk=>(j k).trans ⟨λB=>(by let⟨x,z,q⟩:=B;calc⟨x,c.mem_iff.mpr z,q⟩),λB=>by let⟨x,z,q⟩:=B;calc⟨x,c.mem_iff.mp z,q⟩⟩) f (by rw[d];calc i);rw[d,F]at r;calc HG v l (h _ (vv _ a _) r ⟨_,_,_,t',g,rfl,by rw[O,Ru bZ];calc C,bZ⟩) (HH f)
def Nq{S:K->bW}{Q:mY->bT->Prop}(j:s.heap.SetOf knd a S n)(N:n+more<=16)(x:n=0->cr s.heap a 0)(h:∀h',nY a s.heap h'->h'.SetOf knd a S n->(n=0->cr h' a more)->Q () {s with heap:=h'}):(A>>>(I0 a more)) Q E s:=by
 let d:=j;let⟨o,M,ep,t,i,B,f,y,l,I,g,C⟩:=j;delta I0;refine bV (kj i f g ?_);dsimp only;let F:t.place.size=n:=by dsimp[Ih,gD,mX,v6]at g;rw[g.1];exact C
 delta SetTable.roomFor;split
 .rename_i e b;split at b
  .cases b;rw[F];let⟨G,P,T⟩:=bF5 ((n+more)*2) bZ;have:=vA;exact bG3 (m:=more) d G bZ bZ bZ λh' k r z=>h h' k r λ_=>z
  cases b
 rename_i b;refine cT (h s.heap (ki _ _) d λz=>?_);let⟨O,v,u,W,p,q,H,_⟩:=x z;rw[i]at p;cases p;rw[f]at q;cases q;refine⟨o,M,ep,t,i,f,H,?_⟩;split at b
 .exact(b _ bQ).elim
 rename_i c;lia
theorem zk:∀{ks ls:J K},(ls++ks).Nodup->ks.foldl qD ls=ls++ks
 | [],ls,_=>by rw[jF];rfl|k::ks,ls,a=>by
  let b:k∉ls:=λz=>(pM.mp a).2.2 k z k fF bQ
  rw[ef,show qD ls k=ls++ [k]from cX b,zk (by rw[nQ];calc a),nQ];rfl
def Nr{o:bI}{l:J K}{Q:mY->bT->Prop}(n:o≠a)(hz: ~~~B+ ~~~l<=16)(nd:l.Nodup)(Sa:jY knd s.heap a B)(So:jY knd s.heap o l)(hR:B= []->cr s.heap a 0)(he:∀M ep t,rM s.heap o M ep t->∀(s':bT) (Q:mY->bT->Prop),rM s'.heap o M ep t->Q () s'->wpAny (bY prog w) A each Q E s')(h:∀h' (ks:J K),ks.Perm l->nY a s.heap h'->jY knd h' a (ks.foldl qD B)->Q () {s with heap:=h'}):(A>>>(wt a o each)) Q E s:=by
 let⟨oo,M,ep,t,ho,a5,hd,C,v,hb,Z,W⟩:=So;let L0:rM s.heap o M ep t:=⟨oo,ho,hd,Z⟩;delta wt;rw[cX (by simpa using λz:a=o=>n z.symm)];refine bV (kj ho hd Z ?_);dsimp only;let u: ~~~M.toList= ~~~l:=by rw[mV];exact W
 split
 .rename_i H;have:l= []:=f8.mp (by rw[<-W];simpa using H);subst this;exact cT (h s.heap [] (aW _) (ki _ _) Sa)
 refine bV (Nq Sa (by rw[W];calc hz) (λz=>hR (f8.mp z)) λd k1 S1 R1=>?_);let L1:rM d o M ep t:=L0.keep n k1;let Y:jY knd d a B:=S1;let⟨oa,ea,a3,c,i,I,f,a2,a0,a4,N,a1⟩:=S1;refine bV (kj (s:={s with heap:=d}) i f N ?_);dsimp only;let m:∀(es':dE (bH×bK)) (t':ae),es'.toList.Perm M.toList->t'.fits es'.size=bF->B= []->(A>>>(Jr a es' t')) Q E {s with heap:=d}:=λes' t' y g hl=>by
  let j:es'.size=M.size:=by rw[<-mV,y.length_eq,mV]
  let G:es'.size<zX:=by rw[j];exact hb
  refine HG (s:={s with heap:=d}) i f (h _ l (aW _) (k1.trans (vv _ a _)) ?_) (HH G);let r:=(IC (knd:=knd) (S':=λk=>cE (k∈l)) i I f (es':=es') (t':=t') (C.perm y) (λk=>(v k).trans ⟨λqz=>(by let⟨x,S,q⟩:=qz;calc⟨x,y.mem_iff.mpr S,q⟩),λqz=>by let⟨x,S,q⟩:=qz;calc⟨x,y.mem_iff.mp S,q⟩⟩) G g).2;rw[j,W]at r;rw[hl,zk (by simpa using nd),ko];exact r
 by_cases b:(c.fill != 0)=bF
 .let P:c.road t= .oneByOne:=by delta Ii;rw[cK b]
  rw[P];dsimp only;refine bV (bG1 (s:={s with heap:=d}) n Y L1 C λes' T p2 k2 S2=>?_);rw[<-HB];let p:=C.perm p2;let⟨ks,hk⟩:=DT p;let X:rM T o M ep t:=L1.keep n k2;let pk:ks.Perm l:=Nk nd (by rw[<-kx hk,p2.length_eq,u]) λx S=>by refine(bF7 hk x).mpr ?_;let⟨e,d,T⟩:=(v x).mp (kF S);exact⟨e,p2.mem_iff.mpr d,T⟩
  refine bV (Nn n (he M ep t L0) es'.toList ks B {s with heap:=T} _ p hk (by rw[p2.length_eq,u];lia) S2 X λh3 k3 S3=>?_);exact cT (h h3 ks pk ((k1.trans k2).trans k3) S3)
 let h0:c.fill=0:=by simpa using b
 let F:B= []:=by dsimp[Ih,gD,mX,v6]at N;delta SD at h0;exact f8.mp (by rw[<-a1];lia)
 by_cases hm:(c.mask==t.mask&&t.dummies.isEmpty)=bF
 .let P:c.road t= .slotForSlot:=by delta Ii;rw[cX b,cK hm]
  rw[P];exact m M _ (aW _) Z F
 let P:c.road t= .clean:=by delta Ii;rw[cX b,cX hm]
 rw[P];let⟨o2,e2,p2,t2,z1,z2,z3,z4⟩:=R1 (by rw[F];rfl);rw[i]at z1;cases z1;rw[f]at z2;cases z2;let⟨t',order,e,y,g⟩:=Ng (mask:=c.mask) (finger:=c.finger) (moves:=c.moves) (led:=c.led&&t.led) (plain:=c.plain&&t.plain) (hs:=M.map (·.1)) z3 (by rw[Bn];calc z4);rw[Bn]at y g;show (A>>>(zj M (wf c.mask c.finger c.moves (c.led&&t.led) (c.plain&&t.plain) (M.map (·.1)))>>=λx=>Jr a x.1 x.2)) Q E {s with heap:=d};rw[e];let O:=DS y;let j:(order.filterMap (M[·]?)).size=M.size:=by rw[<-mV,O.length_eq,mV]
 calc bV (Nh y (m _ t' O (by rw[j];calc g) F))
end
section
variable{K:Type} [sP K]
theorem fold_len:∀{ks ls:J K},ks.Nodup-> ~~~(ks.foldl qD ls)= ~~~ls+ ~~~(ks.filter λk=>cE (k∉ls))
 | [],ls,_=>rfl|k::ks,ls,a=>by
  let a:=tV.mp a;rw[ef,fold_len a.2];by_cases h:k∈ls
  .let e:qD ls k=ls:=cK h;rw[e,List.filter_cons_of_neg (by simpa using h)]
  let e:qD ls k=ls++ [k]:=cX h;rw[e,List.filter_cons_of_pos (by simpa using h),cO,dB];have:ks.filter (λx=>cE (x∉ls++ [k]))=ks.filter λx=>cE (x∉ls):=RE λx b=>by
   have:x≠k:=λz=>a.1 (z▸b)
   simp[hV,this]
  rw[this];show ~~~ls+1+_= ~~~ls+(_+1)
  lia
def bG4{ks:J K}(p:ks.Perm a)(c:a.Nodup): ~~~(ks.foldl qD b)= ~~~b+ ~~~(a.filter λk=>cE (k∉b)):=by rw[fold_len (p.nodup_iff.mpr c),(p.filter _).length_eq]
end
section
variable{w:cD}{K:Type} [sP K]{knd:KeyKind prog w K}
theorem Nu{a d:bI}{oo:cY}{M:dE rR}{o:bD}{ks:J K}{id:kO}(n:d≠a)(g:oo.data= .dict M o)(q:∀(j:bD) e,M[j]? =some e->∃k,ks[j]? =some k/\knd.is k e.key=bF/\e.hash=knd.hash k/\e.key.scannable=bF):
 ∀(m i:bD) (ls:J K) (s:bT) (Q:PUnit->bT->Prop),i+m=M.size-> ~~~ks=M.size-> ~~~ls+m<=1000->jY knd s.heap a ls->s.heap.get? d=some oo->
 (∀h',nY a s.heap h'->jY knd h' a ((ks.drop i).foldl qD ls)->Q wX {s with heap:=h'})->
 (A>>>(l6 (ID i m 1) wX λ(i:bD) (_:PUnit)=>do
  let __do_lift <-By d
  match __do_lift[i]? with
   |some e=>do
    let _ <-ag [e.key] (Iw a e.key e.hash);let __do_lift <-Jg d
    if(__do_lift != o)=bF then do
     gu (zY id++zY ":changed-during-callback")
     dX (tY wX)
     else dX (tY wX)
   |x=>do
    gu "internal:set-from-dict"
    dX (tY wX))) Q E s
 |0,i,ls,s,Q,B,r,_,f,_,h=>by rw[List.range'_zero,o4];refine cT (h s.heap (ki _ _) ?_);rw[vp bZ];calc f|m+1,i,ls,s,Q,B,r,N,f,p,h=>by
  let b:i<M.size:=bZ;let⟨k,t,F,G,H⟩:=q i M[i] (AW b);rw[List.range'_succ,gk];refine bV (bV (HI p g ?_));rw[AW b];dsimp only;rw[G];refine bV (ei (Hu F H f (by have:zX=4096:=rfl;lia) λc u v=>?_));let l:c.get? d=some oo:=by rw[u.2 d n];exact p
  refine bV (RZ (s:={s with heap:=c}) l g ?_);rw[cX cS];refine cT ?_;dsimp only;let C: ~~~(qD ls k)<= ~~~ls+1:=by delta qD;split<;>simp
  refine Nu n g q m (i+1) (qD ls k) {s with heap:=c} Q bZ r bZ (Nl v) l λz I y=>h z (u.trans I) ?_
  rw[vl bZ,ef];let e:ks[i]'bZ=k:=by rw[mU bZ]at t;exact kE t
  rw[e];calc y
end
def Nv:lg (.type "dict") (.type "set")=dX bJ:=by rw[kq];kernel_rfl
def Nw:lg (.type "dict") (.type "frozenset")=dX bJ:=by rw[kq];kernel_rfl
section
variable{w:cD}{K:Type} [sP K]{knd:KeyKind prog w K}
def bG5{M:dE rR}{Q:bW->bT->Prop}(c:s.heap.get? d=L {cls:=.type "dict",dict:=bL,data:=.dict M ep,slots:=sl})(h:Q bJ s):(A>>>(oQ (.ref d))) Q E s:=by
 let a:=Nv;let b:=Nw;delta oQ
 wp_walk
 calc h
def bG6{M:dE rR}{ks:J K}{id:kO}{Q:mY->bT->Prop}(n:d≠a)(hs:(d==vC)=bJ)(c:s.heap.get? d=some {cls:=.type "dict",dict:=bL,data:=.dict M ep,slots:=sl})(y:∀(j:bD) e,M[j]? =some e->∃k,ks[j]? =some k/\knd.is k e.key=bF/\e.hash=knd.hash k/\e.key.scannable=bF)(z: ~~~ks=M.size)(hz:M.size<=16)(r:jY knd s.heap a [])(u:cr s.heap a 0)(h:∀h',nY a s.heap h'->jY knd h' a (ks.foldl qD [])->Q () {s with heap:=h'}):(A>>>(AS id a (.ref d))) Q E s:=by
 let f:=Nv;let o:=Nw;let v:s.TypeIs (.ref d) "dict" :=⟨_,c,rfl⟩
 let B:(A>>>(do
  let b <-Jg d;let __do_lift <-By d
  I0 a __do_lift.size
  let __do_lift <-By d
  l6 [:__do_lift.size] wX λi __s=>do
   let __do_lift <-By d
   match __do_lift[i]? with
    |some e=>do
     let _ <-ag [e.key] (Iw a e.key e.hash);let __do_lift <-Jg d
     if(__do_lift != b)=bF then do
      gu (zY id++zY ":changed-during-callback")
      dX (tY wX)
      else dX (tY wX)
    |x=>do
     gu "internal:set-from-dict"
     dX (tY wX)
  dX ())) Q E s:=by
  refine bV (RZ c bQ (bV (HI c bQ ?_)));refine bV (Nq r (by simpa using hz) (λ_=>u) λf p q _=>?_);let g:f.get? d=some {cls:=.type "dict",dict:=bL,data:=.dict M ep,slots:=sl}:=by rw[p.2 d n];exact c
  refine bV (HI (s:={s with heap:=f}) g bQ ?_);refine bV ?_;rw[cC9];let t:ID ([:M.size]:HN).start ([:M.size]:HN).size ([:M.size]:HN).step=ID 0 M.size 1:=by simp[cG1]
  rw[t];refine Nu (oo:={cls:=.type "dict",dict:=bL,data:=.dict M ep,slots:=sl}) n bQ y M.size 0 [] {s with heap:=f} _ bZ z (by simp;lia) q g λo C l=>?_
  rw[HU]at l;exact cT (h o (p.trans C) l)
 delta AS;refine bV (bG5 c ?_);dsimp[dq,yM];refine bV (o7 v ?_);rw[cK hG];refine bV (g0 ?_);refine bV (m:=vm (.ref d)) (cT ?_);rw[cX (by rw[hs];simp)];calc B
end
section
variable{w:cD}{K:Type} [sP K]{knd:KeyKind prog w K}
def Nx(b:h.SetOf knd a (λ_=>bJ) 0):jY knd h a []:=by
 delta jY;let e:(λk:K=>cE (k∈([]:J K)))=λ_=>bJ:=by funext k;simp
 rw[e];calc b
theorem bG7{M:dE rR}{ks:J K}(hs:(d==vC)=bJ)(v:s.heap.get? d=L {cls:=.type "dict",dict:=bL,data:=.dict M ep,slots:=sl})(P:∀(j:bD) e,M[j]? =L e->∃k,ks[j]? =L k/\knd.is k e.key=bF/\e.hash=knd.hash k/\e.key.scannable=bF)(S: ~~~ks=M.size)(hz:M.size<=16)(h:∀h':cH,jY knd h' s⁻¹ (ks.foldl qD [])->(∀b o,s.heap.get? b=L o->h'.get? b=L o)->Q (.ref s⁻¹) {s with heap:=h'}):
 (A>>>(call (.type "set") [.ref d])) Q E s:=by
 let⟨c,tl,x⟩:=F.called_set.mro;let t:=F.called_set.made;let y:=F.called_set.sub;refine k8 (RW ?_);show wpAny _ _ (callAny (.type "set") _) _ _ _;refine cT ⟨Hz _ lW,oZ F.entry_type_call ?_⟩;rw[Rq (Q2 "set" [.ref d] []) rfl];let Y:=F.called_set.notType;let Z:=F.called_set.canCreate;let O:=F.typeCall_set_1 (.ref d)
 repeat (any_goals (first|assumption|wp_step))
 refine aY (Si (.ref d) (E:=E) (Q₁:=λg z=>∃a:bW,g= .ref s⁻¹/\z={s with heap:=s.heap.push (lO a)}) λa=>⟨a,rfl,rfl⟩) λr z u=>?_
 cases r with
 |error e=>calc u|ok fl=>
  cases fl with
  |ret g=>
   let⟨a,rfl,rfl⟩:=u;let m:(s.heap.push (lO a)).get? s⁻¹=L (lO a):=lC _ rfl;let H:SA {s with heap:=s.heap.push (lO a)} (.ref s⁻¹) "set" :=⟨_,m,rfl⟩;let T:=F.called_set.init.lookup;let N:=F.called_set.init.bind (.ref s⁻¹)
   repeat (any_goals (first|assumption|wp_step))
   refine aY (Ra (R:=wants (λr B=>r= .none/\ ∃h':cH,B={s with heap:=h'}/\jY knd h' s⁻¹ (ks.foldl qD [])/\(∀b o,s.heap.get? b=L o->h'.get? b=L o)) E) F.called_set.init.plain F.entry_set_init (RN H ?_)) λX B f=>?_
   .let l:(s.heap.push (lO a)).get? d=L {cls:=.type "dict",dict:=bL,data:=.dict M ep,slots:=sl}:=gF _ v;let W:d≠s⁻¹:=hJ (gH v);let G:jY knd (s.heap.push (lO a)) s⁻¹ []:=Nx ((Qy (knd:=knd) a).setOf m (by delta zX;lia));delta et.«set.__init__» noKeywords;generalize I:AS=U
    wp_walk
    subst I;refine bG6 (s:={s with heap:=s.heap.push (lO a)}) W hs l P S hz G ⟨_,_,_,_,m,rfl,DQ,lL _⟩ λh' q C=>?_
    refine cT ⟨rfl,h',rfl,C,λb o e=>?_⟩;rw[q.2 b (hJ (gH e))];exact gF _ e
   cases X with
   |error e=>calc f|ok i=>
    cases i with
    |ret r=>
     let⟨rfl,h',rfl,n,p⟩:=f
     repeat (any_goals (first|assumption|wp_step))
     calc h _ n p
    |_=>calc f.elim
  |_=>calc u.elim
end
def Ny:lg (.type "set") (.type "set")=dX bF:=by rw[kq];kernel_rfl
def bG8:entryFor table "set.__or__" =L et.«frozenset.__or__» :=
 entryFor_alias (id':="frozenset.__or__") nB bQ lW nB
section
variable{w:cD}{K:Type} [sP K]{knd:KeyKind prog w K}
def DW{o:bI}{Q:bW->bT->Prop}(a:jY knd s.heap o b)(h:Q bF s):(A>>>(oQ (.ref o))) Q E s:=by delta oQ;refine bV (Bg a.typeIs Ny ?_);calc cT h
def bG9{o:bI}{Q:mY->bT->Prop}(n:o≠a)(c:jY knd s.heap o [])(h:Q () s):(A>>>(wt a o each)) Q E s:=by let⟨l,M,ep,t,j,f,d,e,b,k,g,i⟩:=c;delta wt;rw[cX (by simpa using λz:a=o=>n z.symm)];refine bV (kj j d g ?_);dsimp only;rw[cK (by simpa using i)];calc cT h
def Nz{o:bI}(n:o≠a)(k:nY a h h')(S:jY knd h o b):jY knd h' o b:=by let⟨d,M,ep,t,c,r⟩:=S;calc⟨d,M,ep,t,by rw[k.2 o n];calc c,r⟩
noncomputable def cnt(a b:J K):bD:=a.length+ ~~~(b.filter λk=>cE (k∉a))
def bH0{d:Type}[sP d]{f:d->K}(e:∀a b,f a=f b->a=b)(c g):cnt (c.map f) (g.map f)=cnt c g:=by delta cnt;rw[List.filter_map,cA,cA];congr 2;refine jZ (λp=>g.filter p) (funext λk=>?_);show cE (f k∉c.map f)=cE (k∉c);refine HP.mpr (not_congr ⟨λh=>?_,λh=>List.mem_map_of_mem h⟩);let⟨a,i,j⟩:=gO.mp h;rw[<-e a k j];calc i
theorem bH1{r:bI}(n:r≠l)(hz: ~~~g+ ~~~I<=16)(nl:g.Nodup)(nd:I.Nodup)(Sl:jY knd s.heap l g)(T:jY knd s.heap r I)(h:∀h' (dZ:J K),~~~dZ=cnt g I->jY knd h' s⁻¹ dZ->(∀b o,s.heap.get? b=L o->h'.get? b=L o)->Q (.ref s⁻¹) {s with heap:=h'}):
 (A>>>(pN .BitOr (.ref l) (.ref r))) Q E s:=by
 refine wpAny_binaryOp_same Sl.typeIs T.typeIs F.fills_set_or F.slot_set_or (km F.slot_set_or Sl.typeIs bG8 ?_ (F.args_set_or_2 _ _));refine bV (m:=cF3 "__or__" _) (cT ?_);refine bV (m:=oQ (.ref l) <&&> oQ (.ref r)) (bV (DW Sl ?_));refine DW T ?_;refine bV (m:=vm (.ref l)) (cT ?_);refine bV (bV (m:=cE8 l) (bV (bV (m:=isInstance (.ref l) (.type "set")) (Bg Sl.typeIs Ny (cT (bV (wpAny_newSet_of (knd:=knd) λc S0=>?_)))))));let N0:(s.heap.push (lO c)).get? s⁻¹=L (lO c):=lC _ bQ;let W:cr (s.heap.push (lO c)) s⁻¹ 0:=⟨_,_,_,_,N0,rfl,DQ,lL _⟩;let N:∀b o,s.heap.get? b=L o->(s.heap.push (lO c)).get? b=L o:=λb o e=>gF _ e
 let C:∀b (g:J K),jY knd s.heap b g->b≠s⁻¹/\jY knd (s.heap.push (lO c)) b g:=λb g S=>by let⟨oo,M,ep,t,H,r⟩:=S;exact⟨hJ (gH H),oo,M,ep,t,N _ _ H,r⟩
 let⟨fl,x⟩:=C l g Sl;let⟨fr,y⟩:=C r I T;let v:=Nx S0;refine bV (m:=vm (.ref s⁻¹)) (cT ?_)
 let j:∀(f:cH) (d:J K),d.Perm g->nY s⁻¹ (s.heap.push (lO c)) f->jY knd f s⁻¹ d->(d= []->cr f s⁻¹ 0)->
  wpAny (bY prog w) A.in1 (QR (zY "frozenset." ++zY "__or__") s⁻¹ r) (λ_ s'=>Q (.ref s⁻¹) s') E {s with heap:=f}:=λf d p1 i p P=>by
  let B:=Nz fr i y;delta QR;let⟨oo,M,ep,t,H,a6,Y,a5,Z,hb,hf,hn⟩:=id B;refine bV (RF (s:={s with heap:=f}) H Y hf ?_);refine Nr (s:={s with heap:=f}) fr (by rw[p1.length_eq];calc hz) nd p B P (λa4 a0 t' a s' Q' L' q=>?_) λh2 ks u k2 S2=>?_
  .let⟨o1,O,X,a3⟩:=a;let O:f.get? r=L o1:=O;rw[H]at O;cases O;rw[Y]at X;cases X;let⟨o2,b1,b2,b3⟩:=L';delta cD3;refine bV (RF b1 b2 b3 ?_);rw[cX cS];exact cT q
  refine h h2 _ ?_ S2 λb o e=>?_
  .delta cnt;rw[bG4 u nd,p1.length_eq];let e:(λk=>cE (k∉d))=λk=>cE (k∉g):=by funext k;dsimp[p1.mem_iff]
   rw[e]
  let nb:=hJ (gH e);rw[k2.2 b nb,i.2 b nb];exact N b o e
 let dZ:∃f:cH->J K->Prop,(∀h d,f h d->d.Perm g/\nY s⁻¹ (s.heap.push (lO c)) h/\jY knd h s⁻¹ d/\(d= []->cr h s⁻¹ 0))/\ ∀Q:mY->bT->Prop,(∀h d,f h d->Q () {s with heap:=h})->wpAny (bY prog w) A.in1 (wt s⁻¹ l) Q E {s with heap:=s.heap.push (lO c)}:=by
  refine⟨λh d=>d.Perm g/\nY s⁻¹ (s.heap.push (lO c)) h/\jY knd h s⁻¹ d/\(d= []->cr h s⁻¹ 0),λ_ _ z=>z,λQ q=>?_⟩;by_cases e:g= []
  .subst e;exact bG9 (s:={s with heap:=s.heap.push (lO c)}) fl x (q _ [] ⟨aW _,ki _ _,v,λ_=>W⟩)
  refine Nr (s:={s with heap:=s.heap.push (lO c)}) fl (by dsimp[mF];lia) nl v x (λ_=>W) (λ_ _ _ _ s' Q' _ q=>cT q) λf ks u i p=>q f ks ⟨u,i,?_,λz=>?_⟩
  .rw[zk (by simpa using u.nodup_iff.mpr nl),ko]at p;exact p
  rw[z]at u;exact dD u.nil_eq.symm e
 let⟨G,g1,g2⟩:=dZ;refine bV (g2 _ λf d z=>cT ?_);let⟨p1,i,p,P⟩:=g1 f d z;dsimp only;rw[cK (by simpa using n)];refine bV (m:=vm (.ref s⁻¹)) (cT ?_);refine bV (ei ?_);refine bV (DW (s:={s with heap:=f}) (Nz fr i y) ?_);refine bV (m:=vm (.ref r)) (cT ?_);calc lU (j f d p1 i p P) (λ_ s' q=>cT (cT ⟨_,rfl,(λz=>nomatch z),q⟩)) λ_ _ e=>e
end
section
open PySem PySem.Spec PyProof.Rows PySem.W L2
variable [dG] [Pd]
noncomputable def oj:D->D->bP D| .dct a _,.dct ls _=>if ~~~a+ ~~~ls<=16 then .ok (.int ((cnt a ls:bD):bH))else .bad|_,_=>.bad
abbrev zK(X:Cx)(a:bI)(b:J gN):HO:=.ext λh=>jY (kA X.prog X.w) h a b
def bH2{vs:J (gN×bK)}(r:KV kvs vs):kvs.map (·.1)=vs.map (·.1):=by
 induction r with
 |nil=>rfl|cons h t a=>rw[fY,fY,h.1,a]
theorem NA{P:fH}{w:cD}{k:gN×bK}:∀{M:J rR} {vs:J (gN×bK)} {j:bD} {e:rR},Pairs (kA P w) M vs->M[j]? =L e->∃kv,vs[j]? =L kv/\(kA P w).is kv.1 e.key=bF|_,_,_,_,.nil,h=>by cases h|_,_,0,_,.cons a _ _,h=>by cases h;calc⟨_,rfl,a⟩|_,_,j+1,_,.cons _ _ t,h=>by let⟨kv,b,c⟩:=NA (k:=k) (j:=j) t (by simpa using h);calc⟨kv,by simpa using b,c⟩
def bH3(S:jY (kA P w) h c ls)(k:∀o,h.get? c=L o->h'.get? c=L o):jY (kA P w) h' c ls:=by let⟨b,M,ep,t,a,r⟩:=S;calc⟨b,M,ep,t,k _ a,r⟩
def NB(S:jY (kA X.prog X.w) h c ls):nD X.prog X.w H h c (zK X c ls):=by let⟨o,M,ep,t,a,r⟩:=id S;calc show _/\_ from⟨S,⟨o,a⟩,λb d z k=>bH3 z k⟩
def NC:jL X (.type "set") λvs H Q=>∃p kvs,vs= [.ref p]/\Rd H p (.dK kvs)/\~~~kvs<=16/\((kvs.map (·.1)).Nodup->∀c,H c=bL->Q (.ref c) (upd H c (zK X c (kvs.map (·.1))))):=by
 intro pe s Y H xs W Q I r h;let⟨p,kvs,rfl,e,K,q⟩:=h;let⟨u,rfl,P⟩:=pR r;cases P;let⟨_,sm,vs,rk,o,M,ep,G,d,y,f,B,C⟩:=xI I.hok e;let a:=bH2 rk;let⟨oc,l,g,O⟩:=o;let⟨E,F,Z⟩:=d;dsimp only at y E F;subst y E F;let A: ~~~(kvs.map (·.1))=M.size:=by rw[a,cA, <-B.length,mV]
 refine bG7 (knd:=kA X.prog X.w) (ks:=kvs.map (·.1)) sm G (λj e z=>?_) A (by rw[<-A,cA];calc K) λh' n b=>?_
 .let⟨kv,T,m⟩:=NA (k:=(.inl 0,.none)) (j:=j) B (by rw[f9];calc z);let⟨b,w1,S⟩:=f e (Array.mem_of_getElem? z);let N:b=kv.1:=by have:=Q9 m b;rw[w1]at this;exact kR this.symm
  subst N;refine⟨kv.1,by rw[a,nX,T];rfl,m,S,?_⟩;rcases yQ (show ew kv.1 e.key=bF from m)with⟨i,t,_,v⟩|⟨x,t,_,v⟩<;>rw[v]<;>rfl
 rw[zk (by rw[a];simpa using C),ko]at n;calc⟨.ref s⁻¹,_,I.laid (o:=zK X s⁻¹ (kvs.map (·.1))) (h':=h') (t':=s.toks) b (cU _) (NB n),rfl,q (by rw[a];calc C) _ (I.hok.fresh (cU _))⟩
def bH4:fU X (pN .BitOr) λx y H Q=>∃a b ls d,x= .ref a/\y= .ref b/\b≠a/\H a=L (zK X a ls)/\H b=L (zK X b d)/\ls.Nodup/\d.Nodup/\~~~ls+ ~~~d<=16/\
 ∀c dZ,~~~dZ=cnt ls d->H c=bL->Q (.ref c) (upd H c (zK X c dZ)):=by
 intro pe s Y H x y v u Q I p r h;let⟨a,b,ls,d,rfl,rfl,n,f,g,l,m,j,q⟩:=h;cases p;cases r;calc bH1 n j l m (I.hok a _ f).1 (I.hok b _ g).1 λh' dZ i e k=>⟨.ref s⁻¹,_,I.laid (o:=zK X s⁻¹ dZ) (h':=h') (t':=s.toks) k (cU _) (NB e),rfl,q _ dZ i (I.hok.fresh (cU _))⟩
def bH5:jL X (.builtin "len") λvs H Q=>∃a ls,vs= [.ref a]/\H a=L (zK X a ls)/\Q (.int ((~~~ls:bD):bH)) H:=by intro pe s Y H xs n Q I r h;let⟨a,ls,rfl,j,q⟩:=h;let⟨u,rfl,k⟩:=pR r;cases k;let⟨⟨o,M,ep,t,b,c,d,l,m,e,g,i⟩,_⟩:=I.hok a _ j;let f:M.size<4096:=e;calc call_len_set b c d g bZ ⟨.int ((~~~ls:bD):bH),H,I.tok _,⟨_,by rw[i]⟩,q⟩
def bH6(hs:fV a=bJ)(n:fV b=bJ)(u:X<<<("len" :U)=L .globalImplicit)(w:X.mg "len" =bL)(l:X<<<("set" :U)=L .globalImplicit)(m:X.mg "set" =bL)(S:IE X a f)(T:IE X b g):
 IE X (.Call (.Name "len" p1) [.BinOp (.Call (.Name "set" p2) [a] [] c2) .BitOr (.Call (.Name "set" p3) [b] [] c3) p4] [] c1) (m2 oj f g):=by
 refine gU (xo bH5 u w wc (lB (Cm bH4 (mh NC l m Jo (lB S pS (fA hs)) hG hG (fA hs) (kX rfl)) (mh NC l m Jo (lB T pS (fA n)) hG hG (fA n) (kX rfl))) pS (fA rfl)) hG hG (fA rfl) (kX rfl)) λY H Q q=>?_
 let⟨O,F,E,q⟩:=q;refine⟨O,F,E,jV q λd v x P s r q=>?_⟩;cases d with
 |dct G vs=>
  let d0:=r;dsimp at r;let⟨p,kvs,rfl,z1,N,z3⟩:=r;cases k:g O with
  |bad=>rw[k]at q;cases q|ok e=>
   rw[k]at q;replace q:gE (bM X.K) x P (oj (.dct G vs) e) Q:=q;cases e with
   |dct ls us=>
    delta oj at q;dsimp only at q;split at q
    .rename_i hz;let l1: ~~~kvs= ~~~G:=by have:=jZ Iz N;simpa using this
     refine⟨p,kvs,rfl,.inl (s.sub _ _ z1),bZ,λn1 c W=>?_⟩;let B:=cP.laidN s.sub W (zK X c (kvs.map (·.1)));refine⟨O,x,(E.grow s).grow B,?_⟩;rw[k];intro v2 F2 H2 o y;dsimp at y;let⟨p2,j,rfl,y1,M,y3⟩:=y;let l2: ~~~j= ~~~ls:=by have:=jZ Iz M;simpa using this
     refine⟨p2,j,rfl,.inl (o.sub _ _ y1),bZ,λn2 c2 i=>?_⟩;let A:H2 c=L (zK X c (kvs.map (·.1))):=o.same _ _ rfl gI;let I:c2≠c:=λz=>by rw[z,A]at i;cases i
     refine⟨c,c2,_,_,rfl,rfl,I,by rw[fK I.symm];calc A,gI,n1,n2,by rw[cA,cA];lia,λc3 dZ Z t=>?_⟩;let C:=cP.laidN o.sub i (zK X c2 (j.map (·.1)));refine⟨c3,dZ,rfl,gI,q _ F2 _ (B.trans (o.trans (C.trans (cP.laidN C.sub t _)))) ?_⟩;rw[Z,N,M,bH0 λa b h=>SW h];dsimp
    cases q
   |_=>calc q.elim
 |_=>cases k:g O<;>rw[k]at q<;>calc q.elim
end
section
variable [dG]
structure fm where
 fs:J (U×(J D->bP D))
 cs:J (U×D)
 ts:J (U×J (U×D))
 bs:J U
 rs:J (U×bD×(J D->bP D))
 ms:J (U×(J D->bP D))
 ns:J (U×(J D->bP D))
 mc:J U
 sm:J (U×(J D->bP D))
 sx:J (U×(J D->bP D))
 st:J (U×(J D->bP D))
 t2:J (U×(J D->bP D))
 sc:J U
 ro:J (U×(J D->bP D)):=[]
inductive bH7(P:fH)(w:cD)(K:cG)(mg:U->bR bK)(base:cH)(k:bD)(x:U)(m:J D->bP D):Prop
 |mk (fR:_) (fN:_) (fdR:_) (ps:_) (_:fC P w K mg base fS k fR fdR ps (aA K (.ref fN) [] m)) (_:mg "is_row_of" =L (.ref fR)) (_:lE K (.ref fR)=bF) (_:jO K fdR ps []) (_:mg x=L (.ref fN))
structure ub(P:fH)(w:cD)(K:cG)(mg:U->bR bK)(base:cH)(k:bD)(A:fm):Prop where
 fs:∀x m,A.fs.lookup x=L m->yX P w K mg base k x m
 cs:∀x d,A.cs.lookup x=L d->m5 K mg x d
 ts:∀x t,A.ts.lookup x=L t->iU w K mg x t
 bs:∀x,A.bs.contains x=bF->mg x=bL
 rs:∀x q,A.rs.lookup x=L q->Mi P w K mg base k x q.1 q.2
 ms:∀x m,A.ms.lookup x=L m->jd P w K mg base k x m
 ns:∀x m,A.ns.lookup x=L m->My P w K mg base k x m
 mc:∀x,A.mc.contains x=bF->nn K/\ ∃j,k=j+1/\Mt P w K mg base j x
 sm:∀x m,A.sm.lookup x=L m->MI P w K mg base k x m
 sx:∀x m,A.sx.lookup x=L m->MQ P w K mg base k x m
 st:∀x m,A.st.lookup x=L m->M4 P w K mg base k x m
 t2:∀x m,A.t2.lookup x=L m->DP P w K mg base k x m
 sc:∀x,A.sc.contains x=bF->zG K/\ ∃j,k=j+1/\MY P w K mg base j x
 ro:∀x m,A.ro.lookup x=L m->bH7 P w K mg base k x m
structure Ga extends tBs:fm where
 N:J U
 nm:J (U×pO)
 cp:J ((bD×bD)×J U)
 ri:bR bD
 rr:bW
 nw:bW
 vw:J U
 ow:J U
 fz:J (bD×bD)
 vo:J (bD×bD)
structure nU(k:bD)(Z:Ga)(X:Cx):Prop extends tOk:ub X.prog X.w X.K X.mg X.base k Z.tBs where
 hN:X.N=Z.N
 hS:X.env.scope.names=Z.nm
 hk:X.env.scope.kind= .function
 nd:X.N.Nodup
 cm:X.calm=bF
 rm:fZ k X.A
noncomputable def ob{α β:Type}(o:bR α)(f:α->bR β):bR β:=match o with|some a=>f a|none=>none
noncomputable def og{α:Type}:(c:bW)->(c=true->bR α)->bR α|true,f=>f bQ|false,_=>bL
noncomputable def DX{α:Type}{p:bR α}:(o:bR α)->p=o->bR {m:α // p=some m}|some m,h=>some ⟨m,h⟩|none,_=>none
abbrev tG{α:Type}(l:J (U×α))(x):bR {m:α // l.lookup x=L m}:=DX (l.lookup x) bQ
noncomputable def qO{α:Type}(x y:U)(t:x=y->bR α)(e:bR α):bR α:=match h:x==y with|true=>t (kI h)|false=>e
def sH{α:Type}{Q:U->α->Prop}(x y)(a)(q:Q y a)(b:bR {a // Q x a}):bR {a // Q x a}:=qO x y (λh=>L ⟨a,by rw[h];calc q⟩) b
abbrev Ev(k:bD)(Z:Ga){α:Type}(P:Pd->Cx->α->Prop):Type:=bR {a:α // ∀(i:Pd) {X:Cx},nU k Z X->P i X a}
def DY{P:α->Prop}{o:bR {a // P a}}(h:o.map (·.1)=some a):P a:=by
 cases o with
 |none=>cases h|some x=>cases h;calc x.2
def aL(h:(a&&b)=bF):a=bF:=by cases a;cases h;rfl
def aR(h:(a&&b)=bF):b=bF:=by cases a;cases h;calc h
def nt(h:(!b)=bF):b=bJ:=by cases b;rfl;cases h
noncomputable def zm(x):(l:J U)->bR {i:bD // l[i]? =L x}| []=>bL|y::r=>qO y x (λh=>L ⟨0,by rw[h];rfl⟩) (ob (zm x r) λi=>L ⟨i.1+1,i.2⟩)
noncomputable def vk:bR pO->bW|some .local=>bF|some .cell=>bF|some .free=>bF|_=>bJ
def bH8{o:bR pO}(h:vk o=bF):o=some .local\/o=some .cell\/o=some .free:=by
 cases o with
 |none=>cases h|some q=>cases q<;>first|calc .inl bQ|calc .inr (.inl bQ)|calc .inr (.inr bQ)|cases h
def tH(Z)(x):bR {i:bD // ∀{k X},nU k Z X->jG X.N X.env.scope i x}:=og (vk (Z.nm.lookup x)&&(!(x==("__debug__" :U))&& !(x==("__classdict__" :U)))) λh=>ob (zm x Z.N) λi=>L ⟨i.1,λG=>⟨by rw[G.hN];calc i.2,by rw[G.hS];calc bH8 (aL h),nt (aL (aR h)),nt (aR (aR h))⟩⟩
noncomputable def ND:bR pO->bW|some .globalImplicit=>bF|_=>bJ
def bH9{o:bR pO}(h:ND o=bF):o=some .globalImplicit:=by
 cases o with
 |none=>cases h|some q=>cases q<;>first|rfl|cases h
def gl(Z:Ga)(x:U):bW:=ND (Z.nm.lookup x)&& !(x==("__debug__" :U))
def nM(G:nU k Z X)(h:gl Z x=bF):X<<<x=L .globalImplicit/\(x==("__debug__" :U))=bJ:=⟨by rw[G.hS];calc bH9 (aL h),nt (aR h)⟩
structure Rc(k:bD)where
 E:(Z:Ga)->(e:bU)->Ev k Z λ_ X f=>IE X e f
 T:(Z:Ga)->(e:bU)->Ev k Z λ_ X f=>IT X e f
noncomputable def bI0:(op:g9)->bR {m:D->D->bP D // ∀{X},fU X (pN op) (rD X m)}| .Add=>L ⟨cL,W3⟩| .Sub=>L ⟨rH,W5⟩| .Mult=>L ⟨mI,W9⟩| .FloorDiv=>L ⟨jW,W6⟩| .Mod=>L ⟨fW,W7⟩|_=>bL
noncomputable def zn:(op:am)->bR {m:D->D->bP D // ∀{k X},fZ k X.A->fU X (jH op) (rD X m)}| .Eq=>L ⟨dW,λr=>Xg (yn r)⟩| .NotEq=>L ⟨jR,λr=>Yh (yn r)⟩| .Lt=>L ⟨yW,λ_=>Xc⟩| .LtE=>L ⟨nI,λ_=>Xd⟩| .Gt=>L ⟨pU,λ_=>KO⟩| .In=>L ⟨dT bJ,λr=>X5 (Ll r)⟩| .NotIn=>L ⟨dT bF,λr=>X6 (Ll r)⟩| .Is=>L ⟨jX bJ,λ_=>Yl⟩| .IsNot=>L ⟨jX bF,λ_=>Ym⟩|_=>bL
abbrev NE(x:U)(m:J D->bP D):Prop:=∀{X:Cx},X.calm=bF->(∃id,jL X (.builtin id) (vM X m)/\sO x=L (.builtin id))\/ ∃id,jL X (.type id) (vM X m)/\sO x=L (.type id)
def bI1(x):bR {m:J D->bP D // NE x m}:=
 sH (Q:=NE) x "len" gJ (λ_=>.inl ⟨_,C7,wc⟩)<|sH x "all" eV (λc=>.inl ⟨_,XZ c,cG2⟩)<|sH x "min" ca (λc=>.inl ⟨_,Zj c,cG3⟩)<|
 sH x "max" cb (λc=>.inl ⟨_,Zk c,cG4⟩)<|sH x "any" oi (λc=>.inl ⟨_,bE2 c,cG5⟩)<|sH x "int" aF (λ_=>.inr ⟨_,bA1,Q3⟩)<|
 sH x "list" sG (λc=>.inr ⟨_,bE5 c,QV⟩)<|sH x "tuple" lG (λ_=>.inr ⟨_,K0,vn⟩)<|sH x "str" xT (λ_=>.inr ⟨_,Yg,Q4⟩) bL
abbrev NF(x:U)(T:kO):Prop:=∀{X:Cx},vN X.K T/\sO x=L (.type T)/\(x==("__name__" :U))=bJ
def tyM(x):bR {T:kO // NF x T}:=
 sH (Q:=NF) x "int" "int" ⟨XO _,Q3,lW⟩<|sH x "bool" "bool" ⟨XR _,cF9,lW⟩<|sH x "str" "str" ⟨XT _,Q4,lW⟩<|
 sH x "tuple" "tuple" ⟨Dh _,vn,lW⟩<|sH x "list" "list" ⟨XU _,QV,lW⟩ bL
abbrev NG(x:U)(m:U->J D->bP D):Prop:=∀{X:Cx},∃id,IV "str" x id/\B8 (.builtin id)=dX (.type "method_descriptor")/\iI X id (m6 X m)
def bI3(x):bR {m:U->J D->bP D // NG x m}:=
 sH (Q:=NG) x "startswith" xV (⟨_,PySem.F.slot_str_startswith,PySem.F.type_str_startswith,X2⟩)<|sH x "join" iZ (⟨_,PySem.F.slot_str_join,PySem.F.type_str_join,ZH⟩) bL
end
variable{Z:Ga}
section
variable [dG]
noncomputable def rA(r:Rc k)(Z):(M:J bU)->Ev k Z λ_ X f=>IA X M f| []=>L ⟨gB,λ_ _ _=>yU⟩|e::M=>og (!fV e) λh=>ob (r.E Z e) λf=>ob (rA r Z M) λg=>L ⟨aC f.1 g.1,λ_ _ G=>xW (nt h) (f.2 _ G) (g.2 _ G)⟩
noncomputable def rV(r:Rc k)(Z):(M:J bU)->Ev k Z λ_ X f=>∀p,IE X (.BoolOp .And M p) f| []=>bL| [a]=>ob (r.E Z a) λf=>L ⟨f.1,λ_ _ G _=>WK (f.2 _ G)⟩|a::b::rest=>ob (r.E Z a) λf=>ob (rV r Z (b::rest)) λg=>L ⟨nT f.1 g.1,λ_ _ G _=>WL (f.2 _ G) (g.2 _ G _)⟩
noncomputable def rW(r:Rc k)(Z):(op:BoolOp)->(M:J bU)->Ev k Z λ_ X f=>∀p,IW X (.BoolOp op M p) f|_,[]=>bL| .And,[a]=>ob (r.T Z a) λf=>L ⟨f.1,λ_ _ G _=>WI (f.2 _ G)⟩| .Or,[a]=>ob (r.T Z a) λf=>L ⟨f.1,λ_ _ G _=>KB (f.2 _ G)⟩| .And,a::b::rest=>ob (r.T Z a) λf=>ob (rW r Z .And (b::rest)) λg=>L ⟨pD f.1 g.1,λ_ _ G _=>WJ (f.2 _ G) (g.2 _ G _)⟩| .Or,a::b::rest=>ob (r.T Z a) λf=>ob (rW r Z .Or (b::rest)) λg=>L ⟨mO f.1 g.1,λ_ _ G _=>KC (f.2 _ G) (g.2 _ G _)⟩
noncomputable def rO(r:Rc k)(Z):(o:bR bU)->Ev k Z λ_ X f=>qy X o f|none=>some ⟨bt,λ_ _ _=>XJ⟩|some e=>ob (r.E Z e) λf=>some ⟨ax f.1,λ_ _ G=>XM (f.2 _ G)⟩
abbrev TbX(X:Cx)(e:bU)(t:J (U×D)):Prop:=∃x p,e= .Name x p/\iU X.w X.K X.mg x t/\X<<<x=L .globalImplicit/\(x==("__debug__" :U))=bJ
noncomputable def NH(Z):(e:bU)->bR {t:J (U×D) // ∀{k X},nU k Z X->TbX X e t}| .Name x _=>og (gl Z x) λh=>ob (tG Z.ts x) λt=>L ⟨t.1,λG=>⟨_,_,rfl,G.ts _ _ t.2,nM G h⟩⟩|_=>bL
noncomputable def inB:(op:am)->bR {b:bW // op= .In/\b=bJ\/op= .NotIn/\b=bF}| .In=>L ⟨bJ,.inl ⟨rfl,rfl⟩⟩| .NotIn=>L ⟨bF,.inr ⟨rfl,rfl⟩⟩|_=>bL
def cM(r:Rc k)(Z)(a):(ops:J am)->(bs:J bU)->Ev k Z λ_ X f=>∀p,IE X (.Compare a ops bs p) f/\IT X (.Compare a ops bs p) (mB f)
 | [op],[b]=>og (!wT op b) λh=>match NH Z b with
  |some t=>ob (inB op) λq=>ob (r.E Z a) λf=>some ⟨m1 (bx t.1 q.1) f.1,λ_ _ G _=>by let⟨_,_,rfl,C,c,d⟩:=t.2 G;calc⟨YE q.2 C c d (nt h) (f.2 _ G),YF q.2 C c d (nt h) (f.2 _ G)⟩⟩|none=>ob (zn op) λm=>ob (r.E Z a) λf=>ob (r.E Z b) λg=>some ⟨m2 m.1 f.1 g.1,λ_ _ G _=>⟨W1 (m.2 G.rm) (f.2 _ G) (g.2 _ G) (nt h),KL (m.2 G.rm) (f.2 _ G) (g.2 _ G) (nt h)⟩⟩
 | [op,e],[b,c]=>og (!wl [op,e] [b,c]) λh=>ob (zn op) λm=>ob (zn e) λm'=>ob (r.E Z a) λf=>ob (r.E Z b) λg=>ob (r.E Z c) λd=>some ⟨rZ m.1 m'.1 f.1 g.1 d.1,λ_ _ G _=>⟨Xe (m.2 G.rm) (m'.2 G.rm) (f.2 _ G) (g.2 _ G) (d.2 _ G) (nt h),Xf (m.2 G.rm) (m'.2 G.rm) (f.2 _ G) (g.2 _ G) (d.2 _ G) (nt h)⟩⟩|_,_=>none
def sE(r:Rc k)(Z)(a):(b:bU)->Ev k Z λ_ X f=>∀p,IE X (.Subscript a b p) f
 | .Slice i e none _=>ob (r.E Z a) λf=>ob (rO r Z i) λl=>ob (rO r Z e) λu=>some ⟨ay f.1 l.1 u.1,λ_ _ G _=>XN (f.2 _ G) (l.2 _ G) (u.2 _ G)⟩|b=>og (yq b) λh=>match NH Z a with|some t=>ob (r.E Z b) λf=>some ⟨m1 (aD t.1) f.1,λ_ _ G _=>by let⟨_,_,rfl,C,c,d⟩:=t.2 G;calc YG C c d h (f.2 _ G)⟩|none=>ob (r.E Z a) λf=>ob (r.E Z b) λg=>some ⟨m2 dN f.1 g.1,λ_ _ G _=>Ye (by have:=yn G.rm;lia) h (f.2 _ G) (g.2 _ G)⟩
def blt(Z:Ga)(x:U):bW:=gl Z x&&(Z.bs.contains x&& !(x==("__name__" :U)))
def nN(G:nU k Z X)(h:blt Z x=bF):X<<<x=L .globalImplicit/\X.mg x=bL/\(x==("__debug__" :U))=bJ/\(x==("__name__" :U))=bJ:=
 ⟨(nM G (aL h)).1,G.bs _ (aL (aR h)),(nM G (aL h)).2,nt (aR (aR h))⟩
noncomputable def DZ:bU->bW| .Tuple _ _ _=>bF|_=>bJ
def NI{t:bU}(h:DZ t=bF):∃M j p,t= .Tuple M j p:=by cases t<;>first|calc⟨_,_,_,rfl⟩|cases h
def rI(r:Rc k)(Z)(b a):Ev k Z λ_ X f=>II X b a f:=ob (r.E Z a) λf=>L ⟨fE f.1,λ_ _ G=>K2 (f.2 _ G)⟩
def rL(r:Rc k)(Z)(c):(iter:bU)->Ev k Z λ_ X f=>II X c iter f
 | .Call (.Name x p) [a] [] q=>qO x "range" (λe=>og (blt Z "range" && !fV a) λh=>ob (r.E Z a) λf=>L ⟨lH f.1,λ_ _ G=>by cases e;calc Yc (nN G (aL h)).1 (nN G (aL h)).2.1 (nt (aR h)) (f.2 _ G)⟩)
   (qO x "enumerate" (λe=>og (DZ c&&(blt Z "enumerate" && !fV a)) λh=>ob (r.E Z a) λf=>L ⟨ry f.1,λ_ _ G=>by cases e;let⟨_,_,_,rfl⟩:=NI (aL h);calc Zi (nN G (aL (aR h))).1 (nN G (aL (aR h))).2.1 (nt (aR (aR h))) (f.2 _ G)⟩)
   (rI r Z c _))
 | .Call (.Name x p) [a,b] [] q=>qO x "zip" (λe=>og (DZ c&&(blt Z "zip" &&dC [a,b])) λh=>ob (r.E Z a) λf=>ob (r.E Z b) λg=>L ⟨iW f.1 g.1,λ_ _ G=>by cases e;let⟨_,_,_,rfl⟩:=NI (aL h);calc YZ (nN G (aL (aR h))).1 (nN G (aL (aR h))).2.1 (aR (aR h)) (f.2 _ G) (g.2 _ G)⟩)
   (rI r Z c _)
 |iter=>rI r Z c iter
noncomputable def uc:bU->bW| .Call _ _ _ _=>bJ|_=>bF
def base_of{o:bU}(h:uc o=bF):zS o nm env w=w:=by
 cases o<;>first
  | (calc aT h)
  |rfl
noncomputable def sV:(e:bU)->bR {a:bU // ∃p r,e= .Call (.Name "set" p) [a] [] r}| .Call (.Name y _) [a] [] _=>qO y "set" (λh=>L ⟨a,by rw[h];calc⟨_,_,rfl⟩⟩) bL|_=>bL
abbrev ud(k:bD)(Z:Ga)(x:U)(M:J bU):Type:=Ev k Z λ_ X f=>∀p q,IE X (.Call (.Name x p) M [] q) f
def bI6(r:Rc k)(Z)(x:U):(M:J bU)->x="len" ->ud k Z x M
 | [.BinOp a .BitOr b _],h=>og (blt Z "len" &&blt Z "set") λg=>ob (sV a) λa=>ob (sV b) λb=>og (!fV a.1&& !fV b.1) λs=>ob (r.E Z a.1) λf=>ob (r.E Z b.1) λu=>some ⟨m2 oj f.1 u.1,λ_ _ G _ _=>by let⟨a,_,_,rfl⟩:=a;let⟨b,_,_,rfl⟩:=b;cases h;calc bH6 (nt (aL s)) (nt (aR s)) (nN G (aL g)).1 (nN G (aL g)).2.1 (nN G (aR g)).1 (nN G (aR g)).2.1 (f.2 _ G) (u.2 _ G)⟩| [e],h=>match sV e with
  |some a=>og (blt Z "len" &&(blt Z "set" && !fV a.1)) λg=>ob (r.E Z a.1) λf=>some ⟨m1 ni f.1,λ_ _ G _ _=>by let⟨a,_,_,rfl⟩:=a;cases h;calc Zu G.cm (nt (aR (aR g))) (nN G (aL g)).1 (nN G (aL g)).2.1 (nN G (aL (aR g))).1 (nN G (aL (aR g))).2.1 (f.2 _ G)⟩|none=>none
 |_,_=>none
def bI7(r:Rc k)(Z)(x)(e)(M):ud k Z x (e::M):=ob (bI1 x) λm=>og (blt Z x&&dC (e::M)) λg=>ob (rA r Z (e::M)) λfa=>L ⟨mA m.1 fa.1,λ_ _ G _ _=>by
 let⟨c,d,f,h⟩:=nN G (aL g);rcases m.2 G.cm with⟨_,a,b⟩|⟨_,a,b⟩
 .exact Dj a yh c d b (aR g) f h (fa.2 _ G)
 calc Yb a yh c d b (aR g) f h (fa.2 _ G)⟩
noncomputable def bI8(r:Rc k)(Z)(x:U)(h:x="isinstance"):(M:J bU)->ud k Z x M| [e,.Name t _]=>ob (tyM t) λT=>og (blt Z "isinstance" &&(blt Z t&& !fV e)) λg=>ob (r.E Z e) λf=>L ⟨m1 (pY T.1) f.1,λ_ X G _ _=>by cases h;let⟨a,b,c⟩:=T.2 (X:=X);calc Dk a (nt (aR (aR g))) (nN G (aL g)).1 (nN G (aL g)).2.1 (nN G (aL (aR g))).1 (nN G (aL (aR g))).2.1 b (nN G (aL (aR g))).2.2.1 c (f.2 _ G)⟩|_=>bL
noncomputable def bI9(r:Rc k)(Z)(x:U)(h:x="is_row_of"):(M:J bU)->ud k Z x M| [e,b,.Name n _]=>og (gl Z x&&(gl Z n&&dC [e,b])) λg=>ob (tG Z.ro n) λm=>ob (r.E Z e) λf=>ob (r.E Z b) λu=>L ⟨mA m.1 (aC f.1 (aC u.1 gB)),λ_ _ G _ _=>by cases h;let⟨_,_,_,_,a,c,d,i,j⟩:=G.ro _ _ m.2;calc YJ a G.rm c d i j (nM G (aL g)).1 (nM G (aL (aR g))).1 (aR (aR g)) (nM G (aL g)).2 (nM G (aL (aR g))).2 (f.2 _ G) (u.2 _ G)⟩|_=>bL
noncomputable def NJ{α:Type}(a b:bR α):bR α:=match a with|some x=>some x|none=>b
def bJ0(r:Rc k)(Z)(x)(e)(M):ud k Z x (e::M):=match tG Z.fs x with|some m=>og (gl Z x&&dC (e::M)) λg=>ob (rA r Z (e::M)) λfa=>some ⟨mA m.1 fa.1,λ_ _ G _ _=>yp (G.fs _ _ m.2) G.rm (nM G (aL g)).1 (aR g) (nM G (aL g)).2 (fa.2 _ G)⟩|none=>qO x "isinstance" (λh=>bI8 r Z x h _) (qO x "is_row_of" (λh=>bI9 r Z x h _) (NJ (qO x "len" (λh=>bI6 r Z x _ h) none) (bI7 r Z x e M)))
abbrev D0(k:bD)(Z:Ga)(o:bU)(nm:U)(a:cW)(M:J bU)(q:cW):Type:=Ev k Z λ_ X f=>IE X (.Call (.Attribute o nm a) M [] q) f
def hu_of(G:nU k Z X):X.A.units+1<jU:=by have:=yn G.rm;lia
def bJ1(r:Rc k)(Z)(o)(nm:U)(b q)(h:nm="get")(c:uc o=bF)(l:(b.endLine==q.line)=bF):(M:J bU)->dC M=bF->D0 k Z o nm b M q
 | [e],n=>ob (r.E Z o) λf=>ob (r.E Z e) λg=>L ⟨m3 qC f.1 g.1 (kc .n),λ_ _ G=>by
  cases h;let a:fV e=bJ:=by simpa[dC]using n
  calc bC2 (hu_of G) (f.2 _ G) (g.2 _ G) ⟨base_of c,by rw[bu n];rfl,l,by rw[fA a];rfl⟩⟩
 | [e,d],n=>ob (r.E Z o) λf=>ob (r.E Z e) λg=>ob (r.E Z d) λu=>L ⟨m3 qC f.1 g.1 u.1,λ_ _ G=>by
  cases h;let a:fV e=bJ/\fV d=bJ:=by simpa[dC]using n
  calc bC1 (hu_of G) (f.2 _ G) (g.2 _ G) (u.2 _ G) ⟨base_of c,by rw[bu n];rfl,l,by rw[fA a.1,fA a.2];rfl⟩⟩
 |_,_=>bL
noncomputable def bJ2(r:Rc k)(Z)(nm)(a q)(m)(c:Z.sm.lookup nm=L m)(l:(a.endLine==q.line)=bF)(e)(M)(n:dC (e::M)=bF)(b:ah (e::M).length 30=bF):(o:bU)->D0 k Z o nm a (e::M) q| .Name y _=>ob (tH Z y) λi=>ob (rA r Z (e::M)) λfa=>L ⟨jM m (gv i.1) fa.1,λ_ _ G=>bC4 (G.sm _ _ c) G.rm (i.2 G) l b n (fa.2 _ G)⟩|_=>bL
def bJ3(r:Rc k)(Z)(o)(nm)(a q)(e)(M)(c:uc o=bF)(l:(a.endLine==q.line)=bF)(n:dC (e::M)=bF)(b:ah (e::M).length 30=bF):D0 k Z o nm a (e::M) q:=
 qO nm "get" (λh=>bJ1 r Z o nm a q h c l _ n) (match tG Z.sm nm with
  |some m=>bJ2 r Z nm a q m.1 m.2 l e M n b o
  |none=>ob (bI3 nm) λm=>ob (r.E Z o) λf=>ob (rA r Z (e::M)) λfa=>some ⟨xU m.1 f.1 fa.1,λ_ X G=>by let⟨_,m1,m2,m3⟩:=m.2 (X:=X);calc Lu m1 m2 m3 n b l (base_of c) (f.2 _ G) (fa.2 _ G)⟩)
noncomputable def bJ4(r:Rc k)(Z)(q):(fn:bU)->(M:J bU)->(kw:J yO)->Ev k Z λ_ X f=>IE X (.Call fn M kw q) f| .Name x _,e::M,[]=>ob (bJ0 r Z x e M) λf=>L ⟨f.1,λ_ _ G=>f.2 _ G _ _⟩| .Attribute (.Name y _) nm ap,[],[]=>og ((ap.endLine==q.line)&& !(nm== "taken")) λh=>ob (tG Z.ms nm) λm=>ob (tH Z y) λi=>L ⟨pG i.1 m.1,λ_ _ G=>ZZ (G.ms _ _ m.2) G.rm (i.2 G) (aL h)⟩| .Attribute o nm ap,e::M,[]=>og (uc o&&((ap.endLine==q.line)&&(dC (e::M)&&ah (e::M).length 30))) λh=>bJ3 r Z o nm ap q e M (aL h) (aL (aR h)) (aL (aR (aR h))) (aR (aR (aR h)))|_,_,_=>bL
noncomputable def D1(a outer:J (U×pO)):J (U×pO):=a.map λ(n,k)=>if(k==sM&&outer.lookup n==L .cell)then(n,Bs)else(n,k)
def om(Z:Ga)(scope:kS)(b a:J U):Ga:={Z with N:=b++a,nm:=D1 scope.names Z.nm}
noncomputable def isFn(scope:kS):bW:=match scope.kind with| .function=>bF|_=>bJ
def ue(Z:Ga)(scope:kS)(b a:J U)(js:J bD):bW:=
 isFn scope&&((scope.names.all λy=>cE (y.2≠ .cell))&&((scope.names.all λy=>cE (y.2= .local->scope.names.lookup y.1=L .local))&&((b.all λx=>cE (scope.names.lookup x=L .local))&&
 ((scope.names.all λy=>cE (y.2= .free->Z.nm.lookup y.1=L .cell\/Z.nm.lookup y.1=L .free))&&(cE ((b++a).Nodup)&&(cE (~~~a= ~~~js)&&((a.zip js).all λq=>cE (Z.N[q.2]? =L q.1)&&cE (scope.names.lookup q.1=L .free))))))))
def fo(N:J U):J U->J bD
 | []=>[]
 |x::r=>(match zm x N with
  |some i=>i.1
  |none=>0)::fo N r
structure CQ where
 js:J bD
 fl:ML
 P:MT
 G:ME
inductive uf:bU->Type where
 |one (x:U) (p:cW):uf (.Name x p)
 |two (x y:U) (p q:cW) (k:bD) (r:cW):uf (.Tuple [.Name x p,.Name y q] k r)
noncomputable def NK:(t:bU)->bR (uf t)| .Name x p=>L (.one x p)| .Tuple [.Name x p,.Name y q] k r=>L (.two x y p q k r)|_=>bL
def D2(G:nU k Z X)(h:ue Z scope os caps js=bF):sX X scope os caps js:=by
 delta ue at h;dsimp[gD]at h;let⟨a,b,c,d,f,g,i,j⟩:=h;let l:scope.kind= .function:=by
  delta isFn at a;split at a
  .rename_i e;exact e
  cases a
 refine X7 (N:=Z.N) (sc:=X.env.scope) G.hN bQ l b c d ?_ (kR g) (kR i) j;rw[G.hS];calc f
def ug(G:nU k Z X)(S:sX X scope os caps js)(C)(a)(s)(H)(E):nU k (om Z scope os caps) (pW X (os++caps) scope C a s H E):=by refine⟨G.tOk,rfl,?_,S.kind,S.nd,G.cm,G.rm⟩;show(w6 scope X.env).names=D1 scope.names Z.nm;delta w6 D1 S9;rw[G.hk,G.hS];simp
noncomputable def NL(r:Rc k)(Z):(ifs:J bU)->Ev k Z λ_ X f=>br X ifs f| []=>L ⟨λ_=>.ok bF,λ_ _ _=>Lm⟩| [c]=>ob (r.T Z c) λf=>L ⟨f.1,λ_ _ G=>X8 (f.2 _ G)⟩|_=>bL
inductive NM [Pd](X:Cx)(elt:bU)(tg iter:bU)(ifs:J bU)(scope:kS)(q:CQ):Prop
 |mk (os:_) (caps:_) (sp:_) (gg:_) (p:_) (g:_) (_:sX X scope os caps q.js) (_:iP X scope tg os caps sp gg q.P q.G p g) (_:II X tg iter q.fl) (_:(∀C fp s H E,br (pW X (os++caps) scope C fp s H E) ifs p)) (_:(∀C fp s H E,IE (pW X (os++caps) scope C fp s H E) elt g)) (_:iQ iter=bF)
def bJ5(r:Rc k)(Z)(c b)(d)(scope)(a:J U)(t):uf t->Ev k Z λ_ X q=>NM X c t b d scope q| .one x p=>og (ue Z scope [x] a (fo Z.N a)&&iQ b) λh=>ob (rL r Z _ b) λfl=>ob (NL r (om Z scope [x] a) d) λp=>ob (r.E (om Z scope [x] a) c) λg=>L ⟨⟨fo Z.N a,fl.1,p.1,g.1⟩,λ_ _ G=>let S:=D2 G (aL h);⟨_,a,_,_,_,_,S,Ld S,fl.2 _ G,λ_ _ _ _ _=>p.2 _ (ug G S ..),λ_ _ _ _ _=>g.2 _ (ug G S ..),aR h⟩⟩| .two x y _ _ _ _=>og (ue Z scope [x,y] a (fo Z.N a)&&iQ b) λh=>ob (rL r Z _ b) λfl=>ob (NL r (om Z scope [x,y] a) d) λp=>ob (r.E (om Z scope [x,y] a) c) λg=>L ⟨⟨fo Z.N a,fl.1,jS p.1,jS g.1⟩,λ_ _ G=>let S:=D2 G (aL h);⟨_,a,_,_,_,_,S,Y3 S G.cm,fl.2 _ G,λ_ _ _ _ _=>p.2 _ (ug G S ..),λ_ _ _ _ _=>g.2 _ (ug G S ..),aR h⟩⟩
abbrev bJ6[Pd](X:Cx)(b:bU)(a:J Ic)(scope:kS)(q:CQ):Prop:=∃tg iter ifs,a= [⟨tg,iter,ifs,0⟩]/\NM X b tg iter ifs scope q
noncomputable def NN(r:Rc k)(Z)(a)(scope)(pos:cW):(gens:J Ic)->Ev k Z λ_ X q=>bJ6 X a gens scope q| [⟨t,iter,ifs,0⟩]=>ob (Z.cp.lookup (pos.line,pos.col)) λcaps=>ob (NK t) λv=>ob (bJ5 r Z a iter ifs scope caps t v) λq=>L ⟨q.1,λ_ _ G=>⟨_,_,_,rfl,q.2 _ G⟩⟩|_=>bL
def eA(r:Rc k)(Z)(o)(nm)(p):Ev k Z λ_ X f=>IE X (.Attribute o nm p) f:=match DX (cj nm) bQ with
 |some n=>og (Z.sc.contains "Shelf" &&uc o) λh=>ob (r.E Z o) λf=>some ⟨m1 (nK n.1) f.1,λ_ _ G=>bC0 (G.sc _ (aL h)).1 n.2 (base_of (aR h)) (f.2 _ G)⟩|none=>og (Z.mc.contains "WordRow") λh=>match o with| .Name y _=>ob (tH Z y) λi=>qO nm "words" (λe=>some ⟨eZ i.1,λ_ _ G=>by cases e;calc ZW (G.mc _ h).1 (i.2 G)⟩) (qO nm "place" (λe=>some ⟨e9 i.1,λ_ _ G=>by cases e;calc ZX (G.mc _ h).1 (i.2 G)⟩) none)|_=>none
def eE(r:Rc k)(Z):(e:bU)->Ev k Z λ_ X f=>IE X e f
 | .Constant .none _ _=>some ⟨kc .n,λ_ _ _=>Ws⟩| .Constant (.bool b) _ _=>some ⟨kc (.b b),λ_ _ _=>qr⟩| .Constant (.int i) _ _=>some ⟨kc (.int i),λ_ _ _=>Wr⟩| .Constant (.str x) _ _=>og (Nat.ble x.length cR) λh=>some ⟨kc (.str x),λ_ _ _=>Lq h⟩| .Name x _=>match tH Z x with
  |some i=>some ⟨gv i.1,λ_ _ G=>rJ (i.2 G)⟩|none=>og (gl Z x) λh=>ob (tG Z.cs x) λd=>some ⟨kc d.1,λ_ _ G=>Lr (nM G h).1 (G.cs _ _ d.2) (nM G h).2⟩
 | .BinOp a op b _=>ob (bI0 op) λm=>ob (r.E Z a) λf=>ob (r.E Z b) λg=>some ⟨m2 m.1 f.1 g.1,λ_ _ G=>W0 m.2 (f.2 _ G) (g.2 _ G)⟩| .UnaryOp .USub a _=>ob (r.E Z a) λf=>some ⟨m1 qv f.1,λ_ _ G=>Xb (f.2 _ G)⟩| .UnaryOp .Not a _=>ob (r.E Z a) λf=>some ⟨qu f.1,λ_ _ G=>WM (f.2 _ G)⟩| .BoolOp .And vs _=>ob (rV r Z vs) λf=>some ⟨f.1,λ_ _ G=>f.2 _ G _⟩| .IfExp c a b _=>ob (r.T Z c) λt=>ob (r.E Z a) λf=>ob (r.E Z b) λg=>some ⟨xS t.1 f.1 g.1,λ_ _ G=>WN (t.2 _ G) (f.2 _ G) (g.2 _ G)⟩| .Compare a j l _=>ob (cM r Z a j l) λf=>some ⟨f.1,λ_ _ G=>(f.2 _ G _).1⟩| .List M _=>ob (rA r Z M) λfa=>some ⟨mA hZ fa.1,λ_ _ G=>WB (fa.2 _ G)⟩| .Tuple M _ _=>ob (rA r Z M) λfa=>some ⟨mA cV fa.1,λ_ _ G=>WA (fa.2 _ G)⟩| .Subscript a s _=>ob (sE r Z a s) λf=>some ⟨f.1,λ_ _ G=>f.2 _ G _⟩| .ListComp elt gens scope pos=>ob (NN r Z elt scope pos gens) λq=>some ⟨gY q.1.js q.1.fl q.1.P q.1.G,λ_ _ G=>by let⟨_,_,_,rfl,_,_,_,_,_,_,S,T,w,z,v,y⟩:=q.2 _ G;calc Lc S T G.cm w z v (iR y)⟩| .Call u M kw q=>bJ4 r Z q u M kw| .Attribute o nm p=>eA r Z o nm p|_=>none
noncomputable def eT(r:Rc k)(Z):(e:bU)->Ev k Z λ_ X f=>IT X e f| .BoolOp op vs _=>ob (rW r Z op vs) λf=>L ⟨f.1,λ_ _ G=>(f.2 _ G _).it⟩| .UnaryOp .Not a _=>ob (r.T Z a) λf=>L ⟨jC f.1,λ_ _ G=>ya (f.2 _ G)⟩| .Compare a b c _=>ob (cM r Z a b c) λf=>L ⟨mB f.1,λ_ _ G=>(f.2 _ G _).2⟩|e=>og (Dl e) λh=>ob (r.E Z e) λf=>L ⟨mT f.1,λ_ _ G=>yr h (f.2 _ G)⟩
noncomputable def rc:bD->Rc k|0=>⟨λ_ _=>bL,λ_ _=>bL⟩|n+1=>⟨eE (rc n),eT (rc n)⟩
end
section
variable [dG] [Pd]
noncomputable def NO:J D->bR Ob| [.dct a d,.dct b e,.dct kc f,.dct c g,.int k]=>L (.shf [a.zip d,b.zip e,kc.zip f,c.zip g] k)|_=>bL
def bJ7{k:bH}{s:Ob}(h:NO (Ts.map cJ++ [.int k])=L s):s= .shf Ts k:=by
 rcases Ts with _|⟨a,_|⟨b,_|⟨c,_|⟨d,_|⟨e,_|⟨_,_⟩⟩⟩⟩⟩⟩
 case cons.cons.cons.cons.nil=>
  let h:L (Ob.shf [(a.map (·.1)).zip (a.map (·.2)),(b.map (·.1)).zip (b.map (·.2)),(c.map (·.1)).zip (c.map (·.2)),(d.map (·.1)).zip (d.map (·.2))] k)=L s:=h;rw[lR,lR,lR,lR]at h;cases h;rfl
 all_goals cases h
def bJ8{f:J Tab}{k j:bH}{r:D×Ob}(h:Ob.dec (.shf Ts k) (.ok (.t [d,DE f j]))= .ok r):r.1=d/\r.2= .shf f j:=by
 rcases f with _|⟨a,_|⟨b,_|⟨c,_|⟨e,_|⟨_,_|⟨_,_⟩⟩⟩⟩⟩⟩
 case cons.cons.cons.cons.nil=>
  let h:bP.ok (d,Ob.shf [(a.map (·.1)).zip (a.map (·.2)),(b.map (·.1)).zip (b.map (·.2)),(c.map (·.1)).zip (c.map (·.2)),(e.map (·.1)).zip (e.map (·.2))] j)=bP.ok r:=h;rw[lR,lR,lR,lR]at h;cases h;exact⟨rfl,rfl⟩
 all_goals cases h
def uh(d:D)(O:cQ):bP D:=match(O[0]? :bR Slot)with|some (.obj 1 (.shf Ts k))=>.ok (.t [d,DE Ts k])|_=>.bad
noncomputable def fq:Fl->bP D| .rr d O=>uh d O| .nx O=>uh .n O|_=>.bad
def ft(np n:bD)(g:MS):J D->bP D
 | .shf xs::ds=>(match NO xs with
  |some s=>if ~~~ds+1=np then(g (mH n (vR 0 ds s))).bind fq else .bad
  |none=>.bad)
 |_=>.bad
def bJ9(ds)(s)(r)(h:qB (ft np n g) ds s= .ok r): ~~~ds+1=np/\ ∃fl,g (mH n (vR 0 ds s))= .ok fl/\y8 0 s r fl:=by
 delta qB at h;cases s with
 |shf Ts k=>
  let h:Ob.dec (.shf Ts k) (ft np n g (.shf (Ts.map cJ++ [.int k])::ds))= .ok r:=h;delta ft at h;dsimp only at h;symm
  .rename_i s hs;cases bJ7 hs;symm
   .rename_i o;refine⟨o,?_⟩;cases i:g (mH n (vR 0 ds (.shf Ts k)))with
    |bad=>rw[i]at h;cases h|ok fl=>
     rw[i]at h;refine⟨fl,rfl,?_⟩;let e:∀d O,Ob.dec (.shf Ts k) (uh d O)= .ok r->r.1=d/\ ∃a j,O[0]? =L (.obj 1 (.shf a j))/\r.2= .shf a j:=λd O z=>by
      delta uh at z;split at z
      .rename_i a j m;let⟨b,c⟩:=bJ8 z;exact⟨b,a,j,m,c⟩
      cases z
     cases fl with
     |rr d O=>let⟨b,a,j,c,f⟩:=e d O h;calc⟨O,_,.inl (by rw[b]),c,.inl f.symm⟩|nx O=>let⟨b,a,j,c,f⟩:=e .n O h;calc⟨O,_,.inr ⟨rfl,b⟩,c,.inl f.symm⟩|_=>cases h
   cases h
  cases h
 |row p k=>cases h|tab T=>cases h|l xs=>cases h
end
section
variable [dG]
structure Sok(X:Cx):Prop where
 fn:∀x,X.fn x=bF
 po:pf (bY X.prog X.w) X.A X.env X.xe
abbrev wK(k:bD)(Z:Ga)(P:Pd->Cx->MS->Prop):Type:=bR {u:MS // ∀(i:Pd) {X:Cx},nU k Z X->Sok X->P i X u}
noncomputable def um{α:Type}:(b:bW)->(b=true->bR α)->(b=false->bR α)->bR α|true,f,_=>f bQ|false,_,g=>g bQ
noncomputable def lk:bR pO->bW|some .local=>bF|some .cell=>bF|_=>bJ
def NP{o:bR pO}(h:lk o=bF):o=some .local\/o=some .cell:=by
 cases o with
 |none=>cases h|some q=>cases q<;>first|calc .inl bQ|calc .inr bQ|cases h
abbrev LQ(Z:Ga)(x:U)(i:bD):Prop:=∀{k:bD} {X:Cx},nU k Z X->X.N[i]? =L x/\Loc X.env.scope x
def jo(Z)(x):bR {i:bD // LQ Z x i}:=og (lk (Z.nm.lookup x)) λh=>ob (zm x Z.N) λi=>L ⟨i.1,λG=>⟨by rw[G.hN];calc i.2,by delta L2.Loc;rw[G.hS];calc NP h⟩⟩
noncomputable def bK1:bU->bW| .Subscript _ _ _=>bF| .Call _ _ _ _=>bF|_=>bJ
noncomputable def D3(Z:Ga)(x:U)(p:cW)(scope:kS)(a:cW):bW:=(Z.nm.lookup x==L .local)&&(p.line==a.line)&& !(scope.names.any λ(n,k)=>n==x&&(k== .local||k== .cell))
def NQ(G:nU k Z X):em (.ListComp elt gens scope cp) (L (.Name x p)) l X.env=dX (D3 Z x p scope cp):=by show dX (X.env.blockKind== .function&&X.env.kindOf x==L .local&&p.line==cp.line&& !(scope.names.any λ(n,k)=>n==x&&(k== .local||k== .cell)))=_;delta D3 Env.blockKind S9;rw[G.hk,G.hS];rfl
def nC(r:Rc k)(Z)(x)(e)(M):Ev k Z λ_ X f=>∀p q,IN X (.Call (.Name x p) (e::M) [] q) f:=match tG Z.ns x with
 |some m=>og (gl Z x&&dC (e::M)) λh=>ob (rA r Z (e::M)) λfa=>some ⟨n5 m.1 fa.1,λ_ _ G _ _=>bB3 (G.ns _ _ m.2) G.rm (nM G (aL h)).1 (nM G (aL h)).2 (aR h) (fa.2 _ G)⟩|none=>match M with
  | []=>um (Z.mc.contains x) (λc=>og (gl Z x&& !fV e) λh=>ob (r.E Z e) λf=>some ⟨tu f.1,λ_ _ G _ _=>by let⟨_,j,rfl,C⟩:=G.mc _ c;calc bA0 C G.rm (nM G (aL h)).1 (nM G (aL h)).2 (nt (aR h)) (f.2 _ G)⟩)
    λ_=>qO x "dict" (λc=>og (blt Z "dict" && !fV e) λh=>ob (r.E Z e) λf=>some ⟨fg f.1,λ_ _ G _ _=>by cases c;calc bA9 G.cm (nN G (aL h)).1 (nN G (aL h)).2.1 (nt (aR h)) (f.2 _ G)⟩) none
  |_=>none
noncomputable def nE(r:Rc k)(Z):bD->(e:bU)->Ev k Z λ_ X f=>IN X e f|0,_=>bL|_+1,.List M _=>ob (rA r Z M) λfa=>L ⟨eY fa.1,λ_ _ G=>Zx (fa.2 _ G)⟩|_+1,.BinOp a .Add b _=>ob (r.E Z a) λf=>ob (r.E Z b) λg=>L ⟨si f.1 g.1,λ_ _ G=>Zz (f.2 _ G) (g.2 _ G)⟩|_+1,.Dict [] [] _=>L ⟨aE,λ_ _ _=>ZA⟩|n+1,.IfExp c a b _=>ob (r.T Z c) λt=>ob (nE r Z n a) λf=>ob (nE r Z n b) λg=>L ⟨iY t.1 f.1 g.1,λ_ _ G=>ZB (t.2 _ G) (f.2 _ G) (g.2 _ G)⟩|_+1,.Call (.Name x _) (a::M) [] _=>ob (nC r Z x a M) λf=>L ⟨f.1,λ_ _ G=>f.2 _ G _ _⟩|_+1,.Call (.Name x _) [] [] _=>og (Z.sc.contains x&&gl Z x) λh=>L ⟨zg,λ_ _ G=>by let⟨_,j,rfl,C⟩:=G.sc _ (aL h);calc bC9 C G.rm (nM G (aR h)).1 (nM G (aR h)).2⟩|_,_=>bL
abbrev D4[Pd](X:Cx)(M:J bU)(q:MA×bD×bR bD):Prop:=match q with| (a,i,some j)=>n8 X i j M a| (a,i,none)=>t9 X i M a
def D5(r:Rc k)(Z):bD->(M:J bU)->Ev k Z λ_ X q=>D4 X M q
 |0,[.Name y _,.Name z _]=>ob (tH Z y) λi=>ob (tH Z z) λj=>some ⟨(gB,i.1,some j.1),λ_ _ G=>bD4 (i.2 G) (j.2 G)⟩|0,[.Name y _,.List [] _]=>ob (tH Z y) λi=>some ⟨(gB,i.1,none),λ_ _ G=>bD8 (i.2 G)⟩|n+1,e::M=>og (!fV e) λh=>ob (r.E Z e) λf=>ob (D5 r Z n M) λq=>match q with
  |⟨(a,i,some j),b⟩=>some ⟨(aC f.1 a,i,some j),λ_ _ G=>bD5 (nt h) (f.2 _ G) (b _ G)⟩|⟨(a,i,none),b⟩=>some ⟨(aC f.1 a,i,none),λ_ _ G=>bD9 (nt h) (f.2 _ G) (b _ G)⟩
 |_,_=>none
abbrev TQ(k:bD)(Z:Ga)(x:U)(p:cW)(e:bU):Type:=wK k Z λ_ X u=>∀q,IS X (.Assign [.Name x p] e q) u
noncomputable def tNm(r:Rc k)(Z)(j)(x)(p)(l:LQ Z x j)(y)(py d)(a)(M)(n:dC (a::M)=bF):{q:MA×bD×bR bD // ∀(i:Pd) {X:Cx},nU k Z X->D4 X (a::M) q}->TQ k Z x p (.Call (.Name y py) (a::M) [] d)|⟨(fa,i,some c),h⟩=>ob (tG Z.t2 y) λm=>og (gl Z y) λg=>some ⟨n9 j i c m.1 fa,λ_ _ G b _=>bD6 (G.t2 _ _ m.2) G.rm (nM G g).1 (nM G g).2 n (h _ G) G.nd (l G).1 (l G).2 (.inl (b.fn x))⟩|⟨(fa,i,none),h⟩=>ob (tG Z.t2 y) λm=>og (gl Z y) λg=>some ⟨oh j i m.1 fa,λ_ _ G b _=>bE0 (G.t2 _ _ m.2) G.rm (nM G g).1 (nM G g).2 n (h _ G) G.nd (l G).1 (l G).2 (.inl (b.fn x))⟩
noncomputable def tM(r:Rc k)(Z)(j)(x)(p)(l:LQ Z x j)(z)(f)(nm)(b c)(a)(M)(n:dC (a::M)=bF):{q:MA×bD×bR bD // ∀(i:Pd) {X:Cx},nU k Z X->D4 X (a::M) q}->TQ k Z x p (.Call (.Attribute (.Name z f) nm b) (a::M) [] c)|⟨(fa,i,some e),h⟩=>ob (tG Z.st nm) λm=>ob (tH Z z) λv=>og ((b.endLine==c.line)&&ah (a::M).length 30) λg=>some ⟨jh j v.1 i e m.1 fa,λ_ _ G d _=>bD7 (G.st _ _ m.2) G.rm (v.2 G) (aL g) (aR g) n (h _ G) G.nd (l G).1 (l G).2 (.inl (d.fn x))⟩|_=>bL
noncomputable def tE(r:Rc k)(Z)(j)(x)(p)(l:LQ Z x j):(e:bU)->TQ k Z x p e| .Call (.Name y py) (a::M) [] b=>og (dC (a::M)) λn=>ob (D5 r Z (~~~M-1) (a::M)) λq=>tNm r Z j x p l y py b a M n q| .Call (.Attribute (.Name z c) nm ap) (a::M) [] b=>og (dC (a::M)) λn=>ob (D5 r Z (~~~M-1) (a::M)) λq=>tM r Z j x p l z c nm ap b a M n q|_=>bL
abbrev XQ(k:bD)(Z:Ga)(i:bD)(e:bU):Type:=Ev k Z λ_ X g=>IX X i e g
def xA(r:Rc k)(Z)(i)(rec:(e:bU)->XQ k Z i e):(M:J bU)->Ev k Z λ_ X g=>fb X i M g
 | []=>none| [e]=>og (!fV e) λh=>ob (rec e) λg=>some ⟨vU g.1,λ_ _ G=>Mo (nt h) (g.2 _ G)⟩|e::b::M=>og (!fV e) λh=>ob (xA r Z i rec (b::M)) λa=>match r.E Z e with|some f=>some ⟨vV f.1 a.1,λ_ _ G=>Z2 (nt h) (f.2 _ G) (a.2 _ G)⟩|none=>ob (rec e) λg=>some ⟨nr i g.1 a.1,λ_ _ G=>Z3 (nt h) (g.2 _ G) (a.2 _ G)⟩
def D6(Z)(y)(i):bR {_u:mY // ∀{k X},nU k Z X->jG X.N X.env.scope i y}:=ob (tH Z y) λj=>og (j.1==i) λh=>L ⟨(),λG=>kI h▸j.2 G⟩
noncomputable def NR(r:Rc k)(Z)(i):(n:bD)->(M:J bU)->Ev k Z λ_ X f=>sy X i n M f|0,.Name y _::M=>ob (D6 Z y i) λv=>ob (rA r Z M) λf=>L ⟨f.1,λ_ _ G=>ZS (v.2 G) (f.2 _ G)⟩|n+1,a::M=>og (!fV a) λh=>ob (r.E Z a) λf=>ob (NR r Z i n M) λfa=>L ⟨aC f.1 fa.1,λ_ _ G=>ZT (nt h) (f.2 _ G) (fa.2 _ G)⟩|_,_=>bL
def xN(r:Rc k)(Z)(i)(rec:(e:bU)->XQ k Z i e)(x)(p q)(a)(M):XQ k Z i (.Call (.Name x p) (a::M) [] q):=match tG Z.rs x with
 |some m=>og (gl Z x&&dC (a::M)) λh=>ob (NR r Z i m.1.1 (a::M)) λfa=>some ⟨gM i m.1.2 fa.1,λ_ _ G=>ZU (G.rs _ _ m.2) G.rm (nM G (aL h)).1 (nM G (aL h)).2 (aR h) (fa.2 _ G)⟩
 |none=>qO x "tuple" (λe=>og (blt Z "tuple" && !fV a) λh=>match M with
  | []=>ob (rec a) λg=>some ⟨vW lG (vU g.1),λ_ _ G=>by cases e;let⟨b,c,d,f⟩:=nN G (aL h);let hs:=nt (aR h);calc Z4 K0 b c vn (by simp[dC,hs]) d f (Mo hs (g.2 _ G))⟩
  |_=>none) none
def bK3(hs:fV a=bJ)(b:(ap.endLine==pos.line)=bF):M1 X (.Name x p) "pop" ap a pos:=
 ⟨rfl,by rw[bu (show dC [a]=bF by simp[dC,hs])];rfl,b,by rw[fA hs];rfl⟩
noncomputable def xP1(r:Rc k)(Z)(i)(y)(p)(nm:U)(a q)(v:∀{k:bD} {X:Cx},nU k Z X->jG X.N X.env.scope i y)(l:(a.endLine==q.line)=bF)(c:nm="pop"):(M:J bU)->XQ k Z i (.Call (.Attribute (.Name y p) nm a) M [] q)| [e]=>og (!fV e) λh=>ob (r.E Z e) λf=>L ⟨nz i f.1,λ_ _ G=>by cases c;calc bB1 (v G) (f.2 _ G) (bK3 (nt h) l)⟩|_=>bL
def xC(r:Rc k)(Z)(i)(rec:(e:bU)->XQ k Z i e)(q):(fn:bU)->(M:J bU)->XQ k Z i (.Call fn M [] q)
 | .Name x p,a::M=>xN r Z i rec x p q a M| .Attribute (.Name y p) nm ap,[]=>og (ap.endLine==q.line) λl=>ob (D6 Z y i) λv=>ob (tG Z.ms nm) λm=>some ⟨kY i m.1 gB,λ_ _ G=>Ml (G.ms _ _ m.2) G.rm (v.2 G) l⟩| .Attribute (.Name y p) nm ap,e::M=>og (ap.endLine==q.line) λl=>ob (D6 Z y i) λv=>qO nm "pop" (λc=>xP1 r Z i y p nm ap q v.2 l c _)
  (og (dC (e::M)&&ah (e::M).length 30) λh=>ob (rA r Z (e::M)) λfa=>match tG Z.sx nm with
    |some m=>some ⟨zH i m.1 fa.1,λ_ _ G=>MR (G.sx _ _ m.2) G.rm (v.2 G) l (aR h) (aL h) (fa.2 _ G)⟩
    |none=>ob (tG Z.ms nm) λm=>some ⟨kY i m.1 fa.1,λ_ _ G=>ZV (G.ms _ _ m.2) G.rm (v.2 G) l (aR h) (aL h) (fa.2 _ G)⟩)
 |_,_=>none
noncomputable def NS(i):(l:J bD)->bR {n:bD // l[n]? =L i}| []=>bL|j::a=>um (j==i) (λh=>L ⟨0,by rw[kI h];rfl⟩) λ_=>ob (NS i a) λm=>L ⟨m.1+1,m.2⟩
noncomputable def xM(r:Rc k)(rec:(Z:Ga)->(i:bD)->(e:bU)->XQ k Z i e)(Z)(i):(e:bU)->XQ k Z i e| .IfExp c a b _=>ob (r.T Z c) λt=>ob (rec Z i a) λg=>ob (rec Z i b) λh=>L ⟨i9 t.1 g.1 h.1,λ_ _ G=>ZN (t.2 _ G) (g.2 _ G) (h.2 _ G)⟩| .Tuple M _ _=>ob (xA r Z i (rec Z i) M) λd=>L ⟨vW cV d.1,λ_ _ G=>ix_tup (d.2 _ G)⟩| .Call j M [] q=>xC r Z i (rec Z i) q j M| .ListComp elt [⟨.Name x _,iter,[],0⟩] scope pos=>ob (Z.cp.lookup (pos.line,pos.col)) λcaps=>ob (NS i (fo Z.N caps)) λf=>og (ue Z scope [x] caps (fo Z.N caps)&&iQ iter) λh=>ob (rL r Z _ iter) λfl=>ob (rec (om Z scope [x] caps) (f.1+1) elt) λg=>L ⟨nv i (fo Z.N caps) fl.1 g.1,λ_ _ G=>let S:=D2 G (aL h);Z8 S G.cm (fl.2 _ G) f.2 (λC fp s H E=>g.2 _ (ug G S C fp s H E)) (iR (aR h))⟩|_=>bL
def xE(r:Rc k):bD->(Z:Ga)->(i:bD)->(e:bU)->XQ k Z i e
 |0,_,_,_=>none|n+1,Z,i,e=>match r.E Z e with|some f=>some ⟨xP i f.1,λ_ _ G=>ZM (f.2 _ G)⟩|none=>xM r (xE r n) Z i e
def xR(r:Rc k)(Z)(e):Ev k Z λ_ X (q:bD×MX)=>IX X q.1 e q.2:=ob Z.ri λi=>ob (xE r 20 Z i e) λg=>L ⟨(i,g.1),g.2⟩
noncomputable def bK5(r:Rc k)(Z)(i)(x)(p)(l:LQ Z x i):(e:bU)->(!wH e)=bF->TQ k Z x p e| .List [] _,_=>L ⟨qM i,λ_ _ G a _=>Zc G.nd (l G).1 (l G).2 (.inl (a.fn x))⟩|e,h=>ob (nE r Z 3 e) λf=>L ⟨mQ i f.1,λ_ _ G a _=>ZC G.nd (l G).1 (l G).2 (nt h) (.inl (a.fn x)) (f.2 _ G)⟩
def bK6(r:Rc k)(Z)(i)(x)(p)(l:LQ Z x i):(e:bU)->TQ k Z x p e
 | .ListComp elt gens scope pos=>ob (NN r Z elt scope pos gens) λq=>um (D3 Z x p scope pos)
   (λh=>some ⟨sB i q.1.js q.1.fl q.1.P q.1.G,λ_ _ G a _=>by let⟨_,_,_,rfl,_,_,_,_,_,_,S,T,c,g,b,d⟩:=q.2 _ G;calc XA S T G.cm c g b G.nd (l G).1 (l G).2 (by rw[NQ G,h]) (iR d) (.inl (a.fn x))⟩)
   λh=>some ⟨dQ i (gY q.1.js q.1.fl q.1.P q.1.G),λ_ _ G a _=>by let⟨_,_,_,rfl,_,_,_,_,_,_,S,T,c,g,b,d⟩:=q.2 _ G;calc Zw G.nd (l G).1 (l G).2 (by rw[NQ G,h]) (.inl (a.fn x)) (Lc S T G.cm c g b (iR d))⟩
 |e=>og (!wH e) λh=>um (Z.ow.contains x) (λ_=>bK5 r Z i x p l e h) λ_=>match r.E Z e with|some f=>some ⟨dQ i f.1,λ_ _ G a _=>Lv G.nd (l G).1 (l G).2 (nt h) (.inl (a.fn x)) (f.2 _ G)⟩|none=>NJ (tE r Z i x p l e) (ob (xR r Z e) λq=>some ⟨lQ q.1.1 i q.1.2,λ_ _ G a _=>ZJ G.nd (l G).1 (l G).2 (nt h) (.inl (a.fn x)) (q.2 _ G)⟩)
noncomputable def NU(Z)(e)(t:{t:MT // ∀(i:Pd) {X:Cx},nU k Z X->IT X e t}):J U->Ev k Z λ_ X u=>IT X e u| []=>L t|x::xs=>ob (tH Z x) λi=>ob (NU Z e t xs) λu=>L ⟨kK i.1 u.1,λ_ _ G=>Y6 (u.2 _ G)⟩
noncomputable def wL:MS:=λ_=>.bad
abbrev XS(k:bD)(Z:Ga)(x:U)(q:cW)(nm:U)(b:cW)(a:bU)(c:cW):Type:=wK k Z λ_ X u=>∀pos,IS X (.Expr (.Call (.Attribute (.Name x q) nm b) [a] [] c) pos) u
def exS(r:Rc k)(Z)(x)(q)(nm)(b)(a)(d)(l:(b.endLine==d.line)=bF)(s:fV a=bJ)(i:{i:bD // ∀{k:bD} {X:Cx},nU k Z X->jG X.N X.env.scope i x}):XS k Z x q nm b a d:=
 qO nm "append" (λc=>match r.E Z a with
  |some f=>some ⟨tB i.1 f.1,λ_ _ G _ _=>by cases c;calc Zd (i.2 G) s l bQ (f.2 _ G)⟩
  |none=>ob (xR r Z a) λg=>some ⟨qS g.1.1 i.1 g.1.2,λ_ _ G _ _=>by cases c;calc ZL (i.2 G) s l bQ (g.2 _ G)⟩)
 (ob (r.E Z a) λf=>qO nm "extend" (λc=>some ⟨lP i.1 f.1,λ_ _ G _ _=>by cases c;calc ZF (i.2 G) s l (f.2 _ G)⟩)
   (ob (tG Z.sx nm) λm=>some ⟨lZ i.1 (zH i.1 m.1 (aC f.1 gB)),λ_ _ G _ _=>Mg bQ (MR (G.sx _ _ m.2) G.rm (i.2 G) l bQ (by simp[dC,s]) (xW s (f.2 _ G) yU))⟩))
noncomputable def bK8(Z):(e:bU)->wK k Z λ_ X u=>∀p,IS X (.Return (L e) p) u| .Name x _=>ob (tH Z x) λi=>L ⟨n3 i.1,λ_ _ G _ _=>bB2 (i.2 G)⟩|_=>bL
def bK9(r:Rc k)(Z)(e):wK k Z λ_ X u=>∀p,IS X (.Return (L e) p) u:=match Z.nw,Z.rr with|true,_=>bK8 Z e|false,true=>ob (xR r Z e) λq=>L ⟨gQ q.1.1 q.1.2,λ_ _ G _ _=>ZI (q.2 _ G)⟩|false,false=>ob (r.E Z e) λf=>L ⟨cF f.1,λ_ _ G _ _=>eR (f.2 _ G)⟩
abbrev BQ(k:bD)(Z:Ga):Type:=(l:J fQ)->wK k Z λ_ X u=>nH X l u
noncomputable def ifX(r:Rc k)(Z)(i:BQ k Z)(a):(c:bU)->(b:J fQ)->wK k Z λ_ X u=>∀p,IS X (.If c a b p) u| .Compare e [op] [d] _,[]=>og (!wT op d) λh=>ob (xR r Z e) λg=>ob (zn op) λm=>ob (r.E Z d) λf=>ob (i a) λu=>L ⟨sv g.1.1 g.1.2 m.1 f.1 u.1,λ_ _ G j _=>ZK (m.2 G.rm) (g.2 _ G) (f.2 _ G) (nt h) (u.2 _ G j)⟩|_,_=>bL
noncomputable def bL1(r:Rc k)(Z)(d e)(p)(h:(!wH e)=bF)(f:{f:ME // ∀(i:Pd) {X:Cx},nU k Z X->IE X d f})(g:{f:ME // ∀(i:Pd) {X:Cx},nU k Z X->IE X e f}):(a:bU)->wK k Z λ_ X u=>∀q,IS X (.Assign [.Subscript a d p] e q) u| .Name x _=>ob (tH Z x) λi=>L ⟨mJ i.1 f.1 g.1,λ_ _ G _ _=>bB0 (hu_of G) (i.2 G) (f.2 _ G) (g.2 _ G) (nt h)⟩| .Attribute (.Name y _) nm _=>ob (DX (cj nm) bQ) λn=>og (Z.sc.contains "Shelf") λc=>ob (tH Z y) λi=>L ⟨yD i.1 n.1 f.1 g.1,λ_ _ G _ _=>bC7 (G.sc _ c).1 n.2 (hu_of G) (i.2 G) (f.2 _ G) (g.2 _ G) (nt h)⟩|_=>bL
noncomputable def bL2(r:Rc k)(Z)(e):(t:bU)->wK k Z λ_ X u=>∀q,IS X (.Assign [t] e q) u| .Name x p=>ob (jo Z x) λi=>bK6 r Z i.1 x p i.2 e| .Tuple [.Name x _,.Name y _] _ _=>ob (jo Z x) λi=>ob (jo Z y) λj=>og (bK1 e) λh=>ob (r.E Z e) λf=>L ⟨bv i.1 j.1 f.1,λ_ _ G b _=>Yk G.cm G.nd (i.2 G).1 (i.2 G).2 (j.2 G).1 (j.2 G).2 (.inl (b.fn _)) (.inl (b.fn _)) (by cases e<;>first| (calc aT h)|rfl) (by cases e<;>first| (calc aT h)|rfl) (f.2 _ G)⟩| .Subscript a d p=>og (!wH e) λh=>ob (r.E Z d) λf=>ob (r.E Z e) λg=>bL1 r Z d e p h f g a|_=>bL
noncomputable def bL3(r:Rc k)(Z)(d:BQ k Z)(a)(b)(t):uf t->wK k Z λ_ X u=>∀p,IS X (.For t a b [] p) u| .one x _=>ob (jo Z x) λi=>og (iQ a) λh=>ob (rL r Z _ a) λfl=>ob (d b) λu=>L ⟨jQ i.1 fl.1 u.1,λ_ _ G c _=>K3 G.cm c.po (fl.2 _ G) (iD G.nd (i.2 G).1 (i.2 G).2 (.inl (c.fn _))) (u.2 _ G c) (iR h)⟩| .two x y _ _ _ _=>ob (jo Z x) λi=>ob (jo Z y) λj=>og (iQ a) λh=>ob (rL r Z _ a) λfl=>ob (d b) λu=>L ⟨wI i.1 j.1 fl.1 u.1,λ_ _ G c _=>Y2 G.cm c.po (fl.2 _ G) (LW G.cm G.nd (i.2 G).1 (i.2 G).2 (j.2 G).1 (j.2 G).2 (.inl (c.fn _)) (.inl (c.fn _))) (u.2 _ G c) (iR h)⟩
def NV(r:Rc k)(Z)(e):wK k Z λ_ X u=>∀p,IS X (.Expr e p) u:=og (!wH e) λh=>match r.E Z e with|some f=>some ⟨iN f.1,λ_ _ G _ _=>Yd (nt h) (f.2 _ G)⟩|none=>ob (xR r Z e) λq=>some ⟨lZ q.1.1 q.1.2,λ_ _ G _ _=>Mg (nt h) (q.2 _ G)⟩
noncomputable def exP(r:Rc k)(Z):(e:bU)->wK k Z λ_ X u=>∀p,IS X (.Expr e p) u| .Call (.Attribute (.Name x q) nm ap) [a] [] cp=>um (Z.ow.contains x) (λ_=>og ((ap.endLine==cp.line)&& !fV a) λh=>ob (tH Z x) λi=>exS r Z x q nm ap a cp (aL h) (nt (aR h)) i) λ_=>NV r Z _|e=>NV r Z e
def bL5(r:Rc k)(Z):(t e:bU)->wK k Z λ_ X u=>∀p,IS X (.AugAssign t .Add e p) u
 | .Name x _,e=>ob (jo Z x) λi=>ob (r.E Z e) λf=>L ⟨nj i.1 f.1,λ_ _ G a _=>ZG G.nd (i.2 G).1 (i.2 G).2 (.inl (a.fn _)) (f.2 _ G)⟩| .Attribute (.Name y _) nm _,.Constant (.int n) _ _=>ob (tH Z y) λi=>qO nm "last_key" (λe=>og (Z.sc.contains "Shelf") λh=>L ⟨n6 i.1 n,λ_ _ G _ _=>by cases e;calc bC6 (G.sc _ h).1 (i.2 G)⟩)
   (qO nm "place" (λe=>og (Z.mc.contains "WordRow") λh=>L ⟨nq i.1 n,λ_ _ G _ _=>by cases e;calc Z0 (G.mc _ h).1 (i.2 G)⟩) bL)
 |_,_=>bL
def sS(r:Rc k)(Z)(f:BQ k Z):(st:fQ)->wK k Z λ_ X u=>IS X st u
 | .Return (some e) _=>ob (bK9 r Z e) λu=>some ⟨u.1,λ_ _ G d=>u.2 _ G d _⟩
 | .If c a b _=>(match r.T Z c with
  |some t=>ob (NU Z c t Z.vw) λt=>ob (f a) λu=>ob (f b) λv=>some ⟨cI t.1 u.1 v.1,λ_ _ G d=>ye (t.2 _ G) (u.2 _ G d) (v.2 _ G d)⟩
  |none=>ob (ifX r Z f a c b) λu=>some ⟨u.1,λ_ _ G d=>u.2 _ G d _⟩)
 | .Assign [t] e _=>ob (bL2 r Z e t) λu=>some ⟨u.1,λ_ _ G d=>u.2 _ G d _⟩| .For t iter body [] _=>ob (NK t) λv=>ob (bL3 r Z f iter body t v) λu=>some ⟨u.1,λ_ _ G d=>u.2 _ G d _⟩| .Expr e _=>ob (exP r Z e) λu=>some ⟨u.1,λ_ _ G d=>u.2 _ G d _⟩| .AugAssign t .Add e _=>ob (bL5 r Z t e) λu=>some ⟨u.1,λ_ _ G d=>u.2 _ G d _⟩| .While c body [] _=>ob (r.T Z c) λt=>ob (f body) λu=>some ⟨ci t.1 u.1,λ_ _ G d=>Z1 d.po (t.2 _ G) (u.2 _ G d)⟩| .Raise _ _ _=>some ⟨wL,λ_ _ _ _ Fa Ha pe s Y H E I g=>by let⟨O,F,S,q⟩:=g;calc q.elim⟩| .Pass _=>some ⟨cN,λ_ _ _ _=>WO⟩|_=>none
def uo(l:bD)(b:MS):J (bD×bD)->MS
 | []=>b|q::a=>match q.1==l with|true=>bO (kD q.2) (uo l b a)|false=>uo l b a
theorem D7[Pd]{l:bD}{b:MS}(h:nH X rest b):∀a,nH X rest (uo l b a)
 | []=>h|q::a=>by
  delta uo;cases q.1==l with
  |true=>calc Y5 (D7 h a)|false=>calc D7 h a
def vr(r:Rc k)(Z:Ga)(l:bD):Rc k:=match Z.vo.lookup l with|some i=>⟨λZ e=>ob (r.E Z e) λf=>some ⟨yZ i f.1,λ_ _ G=>Y8 (f.2 _ G)⟩,r.T⟩|none=>r
noncomputable def uq(r:Rc k)(Z):bD->BQ k Z|0,_=>bL|_+1,[]=>L ⟨cN,λ_ _ _ _=>yb⟩|n+1,[s]=>ob (sS (vr r Z s.pos.line) Z (uq r Z n) s) λu=>L ⟨u.1,λ_ _ G c=>bo (u.2 _ G c)⟩|n+1,s::t::rest=>ob (sS (vr r Z s.pos.line) Z (uq r Z n) s) λa=>ob (uq r Z n (t::rest)) λb=>L ⟨bO a.1 (uo t.pos.line b.1 Z.fz),λ_ _ G c=>yc (a.2 _ G c) (D7 (b.2 _ G c) _)⟩
structure yE where
 cp:J ((bD×bD)×J U):=[]
 ow:J U:=[]
 fz:J (bD×bD):=[]
 vw:J U:=[]
 ri:bR bD:=bL
 vo:J (bD×bD):=[]
def yE.ga(a:yE)(N:J U)(nm:J (U×pO))(A:fm)(rr b:bW):Ga:=⟨A,N,nm,a.cp,a.ri,rr,b,a.vw,a.ow,a.fz,a.vo⟩
def bL6{st:fQ}{f:bI}{A:fm}{E:XK}(S:pT N ps (dU st))(T:ub P w K mg base k A)(b:fZ k (Ar.deeper (nZ qual (dU st) s⁻¹ f cdv)))(a:yE)(rr c):
 nU k (a.ga N (dU st).names A rr c) (nG fS P w K mg base N qual (dU st) f cdv Ar outer s H E).nox:=
 ⟨T,rfl,rfl,S.kind,S.nd,rfl,b⟩
def jp{st:fQ}{f:bI}{A:fm}(S:pT N ps (dU st))(T:ub P w K mg base k A)(a:yE)(h:(uq (k:=k) (rc 40) (a.ga N (dU st).names A rr b) 60 (mG st)).map (·.1)=L u):∀(_:Pd) (cdv:bK) (Ar:gW) (outer:J jK) (s:bT) (H:Hp) (E:XK),fZ k (Ar.deeper (nZ qual (dU st) s⁻¹ f cdv))->
 nH (nG fS P w K mg base N qual (dU st) f cdv Ar outer s H E).nox (mG st) u:=
 λd cdv Ar outer s H E c=>DY h d (bL6 S T c a rr b) ⟨λ_=>rfl,R3⟩
noncomputable abbrev kv{α:Type}(x:U)(a:α):U×α:=(x,a)
def bL7{P:U->α->Prop}:∀x m,([]:J (U×α)).lookup x=L m->P x m:=λ_ _ h=>by cases h
def bL8{P:U->α->Prop}{l:J (U×α)}(h:P y a)(t:∀x m,l.lookup x=L m->P x m):∀x m,((y,a)::l).lookup x=L m->P x m:=λx m e=>by
 rw[lJ]at e;split at e
 .rename_i q;cases e;rw[kI q];exact h
 calc t x m e
end
section
variable [dG] [Pd]
def bL9(x:nD P w H h a o):∃ob,h.get? a=L ob:=by
 cases o with
 |l xs=>let⟨_,_,_,_,e⟩:=x;calc⟨_,e⟩|t xs=>let⟨_,_,_,o,e,_⟩:=x;calc⟨o,e⟩|dK kvs=>let⟨_,_,_,_,o,_,_,e,_⟩:=x;calc⟨o,e⟩|ins C dx b=>let⟨_,_,_,e,_⟩:=x;calc⟨_,e⟩|own y=>calc x|rng d c=>let⟨_,_,_,e⟩:=x;calc⟨_,e⟩|frz ob u=>calc⟨_,x.1⟩|tbl ps=>calc⟨_,x⟩|ext φ=>calc x.2.1
def bM0(x:kB P w H h)(k:∀b u,H b≠bL->h.get? b=L u->h'.get? b=L u):kB P w H h':=λa o e=>
 (x a o e).stay (λb u hb q=>k b u (by rcases hb with rfl|hb;· rw[e];simp
                                      .rw[hb];simp) q) (λ_ q=>q) λ_ _ q=>q
def ur(outer:J jK)(T:Hp)(h B:cH):Prop:=∀b,b∉kC outer->(T b≠bL\/ ∃o,h.get? b=L o)->∃o,B.get? b=L o
def bM1(un:Un (kC outer) [] H T s.heap g)(r:B.StaysIn g)(m:g.FunFrames B outer)(l:ur outer T s.heap B)(d:B.StaysIn h')(p:g.UpToSlots h'):Un (kC outer) [] H T s.heap h' where
 keep:=λb o q n c f=>by let e:=un.keep b o q n c f;let⟨h,a⟩:=l b c (.inr ⟨o,q⟩);have:=r b h a;rw[e]at this;cases this;exact d b o a
 slot:=λb o q n c f=>by let⟨sl,e⟩:=un.slot b o q n c f;let⟨_,h,a,k⟩:=m.mem c;rw[e]at a;cases a;let⟨i,j⟩:=p b _ e k;exact⟨i,j⟩
 free:=un.free
 there:=λb o q f=>by
  let⟨u,t⟩:=un.there b o q f;by_cases c:b∈kC outer
  .let⟨_,h,a,k⟩:=m.mem c;let⟨i,j⟩:=p b _ a k;exact⟨_,j⟩
  let⟨h,a⟩:=l b c (.inr ⟨o,q⟩);exact⟨_,d b h a⟩
 tups:=un.tups
 frzs:=un.frzs
 tbls:=un.tbls
def bM2(c:kB P w T g)(h:B.StaysIn g)(fr:∀b∈kC outer,T b=bL)(f:ur outer T s.heap B)(a:B.StaysIn h'):kB P w T h':=
 bM0 c λb u e q=>by let⟨i,d⟩:=f b (λz=>e (fr b z)) (.inl e);have:=h b i d;rw[q]at this;cases this;calc a b u d
theorem D8:∀{l},(∀b∈kC l,B.get? b=bL)->h.FunFrames g l->h.FunFrames B l
 | [],_,_=>trivial
 |env::l,k,⟨f,⟨a,o,c,m,i,e⟩,j⟩=>⟨f,⟨a,o,c,k a (by delta kC;rw[dn,c];calc fF),i,e⟩,
  D8 (λb d=>k b (by delta kC;rw[dn,c];calc fM _ d)) j⟩
def cv(P:fH)(w:cD)(C:bK):vG:=λouter H s E e s'=>∃ea a B T g,e= .ref ea/\s'.os=s.os/\af s'.gens/\Un (kC outer) [] H T s.heap g/\kB P w T g/\B.StaysIn g/\g.FunFrames B outer/\
 Bv B outer ea C a s'.heap/\g.UpToSlots s'.heap/\ur outer T s.heap B/\(∀b∈kC outer,T b=bL)/\E C bL T
abbrev MU:=cQ->bP bD
noncomputable def uC(t:U):MU:=λ_=>.ok (~~~t)
noncomputable def uR(i:bD):MU:=λO=>match O[i]? with|some (.val (.str z))=>if(z.cps.toList.all λc=>cE (c<16^8))&&cE (10* ~~~z+2<=cR)then .ok (10* ~~~z+2)else .bad|_=>.bad
def uA(u v:MU):MU:=λO=>(u O).bind λm=>(v O).bind λn=>.ok (m+n)
inductive tU(X:Cx)(u:MU)(Y:St)(H:Hp)(Q:VK):Prop
 |mk (O:_) (F:_) (n:_) (_:gP X.K F H O Y) (_:u O= .ok n) (_:n<=cR) (_:∀z,Q (.str z) H)
def IP(X:Cx)(e:bU)(u:MU):Prop:=∀(pe:J (bI×cY)) (s:bT) (Y:St) (H F:Hp) (O:cQ) (n:bD) (Q:bK->bT->Prop),bS X pe Y H s->gP X.K F H O Y->u O= .ok n->(∀z t a,~~~z<=n->bS X pe Y H a->Q (.str z t) a)->(X>>>(fP e X.env)) Q X.xe s
def zo(X:Cx)(M:J bU)(u:MU):Prop:=∀(pe:J (bI×cY)) (s:bT) (Y:St) (H F:Hp) (O:cQ) (n:bD) (a:U) (Q:U->bT->Prop),bS X pe Y H s->gP X.K F H O Y->u O= .ok n-> ~~~a+n<=cR->(∀lF b,~~~lF<= ~~~a+n->bS X pe Y H b->Q lF b)->Joins (bY X.prog X.w) X.A X.xe (evalEach M X.env) a Q s
def ut(I:bS X pe Y H s)(t):bS X pe Y H {s with toks:=t}:=I.kept (t':=t) λ_ _ e=>e
def NW{t:U}:IP X (.Constant (.str t) j pos) (uC t):=λpe s Y H F O n Q I E h k=>by cases h;calc Rm (k _ _ _ (cU _) (I.tok _))
def bM3(a:jG X.N X.env.scope i x):IP X (.FormattedValue (.Name x p) 114 bL pos) (uR i):=λpe s Y H F O n Q I E h k=>by
 delta uR at h;symm
 .rename_i z w;symm
  .rename_i e;cases h;rw[gD,mE]at e;let g:=kR e.2;let b:=Hw z λc u=>kR (e.1 c u)
   let⟨o,q,v,rfl,f⟩:=E.at_ i _ w;dsimp at f;refine QH (dA (kU a.n a.v a.d a.c pe s Y H (λy T=>y= .str z/\T=H) I ⟨v,q,f.1,rfl⟩) λM C A=>?_);let⟨y,B,j,r,l,m⟩:=A;subst l m;let⟨t,rfl⟩:=r;exact wpAny_pyReprObj_str (R4 (λG K=>k _ _ _ b (ut (ut j _) _)) (hE b g)) (hE b g)
  cases h
 cases h
def bM4:zo X [] (λ_=>.ok 0):=λpe s Y H F O n a Q I E h _ k=>Joins_nil (k _ _ (wR _ _) I)
def zp{u v:MU}(g:IP X e u)(h2:zo X M v):zo X (e::M) (uA u v):=λpe s Y H F O n c Q I E h q k=>by
 delta uA at h;cases a:u O with
 |ok m=>
  cases b:v O with
  |ok m2=>
   rw[a,b]at h;cases h;refine Joins_cons (g pe s Y H F O m _ I E a λz t i o d=>⟨z,t,rfl,?_,h2 pe i Y H F O m2 _ Q d E b ?_ λlF j p f=>k lF j ?_ f⟩);all_goals let l: ~~~(c++z)= ~~~c+ ~~~z:=Str.length_append _ _
   all_goals lia
  |_=>rw[a,b]at h;cases h
 |_=>rw[a]at h;cases h
def bM5{u:MU}(h:zo X (e::e'::M) u):PE X (.JoinedStr (e::e'::M) pos) (tU X u):=λpe s Y H Q I ⟨O,F,n,E,b,d,q⟩=>
 wpAny_JoinedStr (h pe s Y H F O n wn _ I E b (by show 0+n<=_;lia) λlF f c a=>⟨by have: ~~~wn=0:=rfl;lia,.str lF,H,ut a _,⟨_,rfl⟩,q lF⟩)
noncomputable def uT(i:bD):MU:=λO=>match O[i]? with|some (.val (.t [.str y,.str z]))=>if((y.cps.toList++z.cps.toList).all λc=>cE (c<16^8))&&cE (10*(~~~y+ ~~~z)+20<=cR)then .ok (10*(~~~y+ ~~~z)+20)else .bad|_=>.bad
def bM6{o:cY}{Q:Fin->bT->Prop}(e:s.heap.get? a=L o)(f:o.data= .seq items n)(d:ReprAll P w items.toList ts)(hz: ~~~(wo ts)<=cR)(h:∀z u tk,~~~z<= ~~~(wo ts)+5->Q (.done (.ret (.str z u))) {s with toks:=tk}):wpOwn (bY P w) A c (Builtin.tupleReprAt 0 ⟨[.ref a],[]⟩) Q E s:=by
 rw[tuple_repr_tree,tupleReprUnderWay_eq];refine wpOwn_bind (wpOwn_bind (wpOwn_stack λp b _ _ _=>Sr (cT ?_)));refine Sr ?_;split
 .refine bV (g0 (bV (wpAny_mkStr (cT (h _ _ _ ?_)) hG)));exact Nat.le_add_left 5 _
 calc wpAny_tupleReprRest e f d (λu tk=>h _ u tk (wR _ _)) bZ
theorem bM7{o:cY}(c:s.TypeIs (.ref a) "tuple")(i:A.units<jU)(e:s.heap.get? a=L o)(f:o.data= .seq items n)(d:ReprAll P w items.toList ts)(hz: ~~~(wo ts)<=cR)(h:∀z u tk,~~~z<= ~~~(wo ts)+5->Q (.str z u) {s with toks:=tk}):wpAny (bY P w) A (pyReprObj (.ref a)) Q E s:=by
 delta pyReprObj;refine bV (wpAny_cRoomFor i ?_);refine bV (RU (name:=wV "__repr__") c F.slot_tuple_repr.lookup ?_)
 refine bV (m:=callSpecialIfBound? (.ref a) (wV "__repr__")) (wpAny_callSpecialIfBound?_slotG (name:=wV "__repr__") c F.slot_tuple_repr
  (k8 (codeAny_call_builtin_own (Hz _ lW) F.entry_tuple_repr (F.slot_tuple_repr.check _ _ _ _ _ _ _ _ c (F.args_tuple_repr_1 _) (bM6 e f d hz λz u tk g=>?_)))))
 calc bV (Bg (T:="str") (b:=bF) bQ isSubtype_str_str (cT (h z u tk g)))
def bM8(hu:X.A.units<jU)(b:jG X.N X.env.scope i x):IP X (.FormattedValue (.Name x p) 114 bL pos) (uT i):=λpe s Y H F O n Q I E h k=>by
 delta uT at h;symm
 .rename_i y z W;symm
  .rename_i e;cases h;rw[gD,mE]at e;let hl:=kR e.2;let P:=Hw y λc f=>kR (e.1 c (mL _ f))
   let S:=Hw z λc f=>kR (e.1 c (mK _ f))
   let⟨o,K,v,rfl,l⟩:=E.at_ i _ W;dsimp at l;let⟨a,xs,rfl,sq,j⟩:=l;refine QH (dA (kU b.n b.v b.d b.c pe s Y H (λy T=>y= .ref a/\T=H) I ⟨_,K,rfl,rfl⟩) λu1 s1 qz=>?_);let⟨y',H1,g,r,u,B⟩:=qz;subst u B;cases r;dsimp[DatL]at j;let⟨x1,r1,rfl,⟨rfl,_⟩,x2,r2,rfl,⟨rfl,_⟩,rfl⟩:=j;let⟨its,rv,⟨o,m,C,g3,G⟩,_⟩:=g.tuple (bX.seqT E.sub sq);let⟨w1,w2,rfl,⟨q,rfl⟩,⟨t,rfl⟩⟩:=xj rv;let M:ReprAll X.prog X.w [g5 y q,g5 z t] [ba y,ba z]:=.cons (Ta y q bZ) (.cons (Ta z t bZ) .nil);let a0: ~~~(wo [ba y,ba z])= ~~~(ba y)+ ~~~(ba z)+4:=by
    show((("(" :U)++(ba y++ ", " ++ba z))++((")" :kO):U)).length=_;rw[Bu,Bu,Bu,Bu];show 1+(~~~(ba y)+2+ ~~~(ba z))+1=_
    lia
   refine bM7 ⟨o,m,C⟩ hu m G (by simpa using M) bZ λz' u' tk Z=>?_
   exact R4 (λt' tk=>k _ _ _ bZ (ut (ut g _) _)) bZ
  cases h
 cases h
theorem bM9(X:K.In a)(E:mg x=L (.ref C))(q:l0 K C bmB newId=bF):Cb x C bmB newId mg a:=by
 refine⟨E,?_⟩;delta l0 at q;split at q
 case h_2=>cases q
 rename_i y w sl B;split at q
 case h_2=>cases q
 rename_i I bm f g h i b j e z;dsimp[gD,mX,Bb]at q;let⟨⟨⟨⟨⟨F,G⟩,k⟩,H⟩,c⟩,m⟩:=q;subst F G;let⟨n,o,M,d,p,r,s,t,u,v,N⟩:=w;dsimp only at e k c m;subst e k;let⟨l⟩:=sl;let A:l= [f,g,h,i,L (.builtin b),j]:=z;subst A;refine⟨bm,d,n,p,o,r,s,t,u,v,y,f,g,h,i,j,a.nsMap d,X _ _ B,?_,?_,?_⟩
 .exact .of_isNs (W.isNs_of_in X c)
 .exact W.nsMap_none_of_in X c m
 calc W.tail_of_in X H
noncomputable abbrev Cx.marked(X:Cx)(e:bI):Cx:={X with A:=X.A.mark (L (.ref e)),calm:=bJ}
def bN0(ok:X.Ok)(a):(Cx.marked X a).Ok:=
 ⟨ok.mod,ok.kind,ok.glob,ok.blt,ok.above,ok.inj,ok.has,ok.cab,(λz=>by cases z),ok.frames,ok.stk,ok.exf,ok.bs,ok.bsz,ok.noex,ok.exfs,ok.funs,ok.frf⟩
def NX(I:bS X pe Y H s)(a):bS (Cx.marked X a) pe Y H s:=⟨bN0 I.ok a,I.os,I.bare,I.base,I.loc,I.cell,I.free,I.freeC,I.pin,I.hok,I.len⟩
def zq(ok:X.Ok)(I:bS (Cx.marked X ea) pe Y H s):bS X pe Y H s:=⟨ok,I.os,I.bare,I.base,I.loc,I.cell,I.free,I.freeC,I.pin,I.hok,I.len⟩
def bN1(ok:X.Ok){D:rE}{f:Flow}(h:SP (Cx.marked X ea) pe D f s'):SP X pe D f s':=by
 cases f with
 |next=>let⟨a,T,I,q⟩:=h;calc⟨a,T,zq ok I,q⟩|brk=>let⟨a,T,I,q⟩:=h;calc⟨a,T,zq ok I,q⟩|cont=>let⟨a,T,I,q⟩:=h;calc⟨a,T,zq ok I,q⟩|ret u=>let⟨v,a,T,I,r,q⟩:=h;calc⟨v,a,T,zq ok I,r,q⟩
def NY{i:bK}{h:bK}(I:bS X pe Y H s)(k:s'.os=s.os)(a:af s'.gens)(un:Un (kC X.stack) [] H T s.heap d)(e:kB X.prog X.w T d)(g:B.StaysIn d)(j:d.FunFrames B X.stack)(c:Bv B X.stack ea h i h')(l:d.UpToSlots h')(f:ur X.stack T s.heap B)(fr:∀b∈kC X.stack,T b=bL):bS X pe Y T {s' with heap:=h'}:=
 I.call' (s':={s' with heap:=h'}) (ch:=[]) k (bM1 un g j f c.1 l) (bM2 e g fr f c.1) a (λb z=>dD z cS)
def zr{D:rE}{f:Flow}(h:SP X pe D f s'):SP (X.wish E) pe D f s':=by
 cases f with
 |next=>let⟨a,T,I,q⟩:=h;calc⟨a,T,I.wish _,q⟩|brk=>let⟨a,T,I,q⟩:=h;calc⟨a,T,I.wish _,q⟩|cont=>let⟨a,T,I,q⟩:=h;calc⟨a,T,I.wish _,q⟩|ret u=>let⟨v,a,T,I,r,q⟩:=h;calc⟨v,a,T,I.wish _,r,q⟩
def bN2{x:cH}{l:bK}(g:X.stack=X.env::X.outer)(f:X.env.frame=some X.env.locals)(I:bS X pe Y H s)(a:Bv B X.stack ea (.ref C) l s.heap)(n:ur X.stack H x B)(fr:∀b∈kC X.stack,H b=none):
 ∃d,d.cls= .ref C/\bS X ((ea,d)::pe) Y H s:=by
 let⟨d,vs,j,t,i,_⟩:=a.first
 let h:ea∉kC X.stack:=λm=>by let⟨_,o,k,w⟩:=a.2.2.1.mem m;rw[j]at k;cases k;exact w _ i
 let c:∀b∈X.env.locals::X.fs,b∈kC X.stack:=λb r=>by rw[g];delta kC;rw[dn,f];exact r
 refine⟨d,t,I.pins_of λp hp=>?_⟩;rcases jJ.mp hp with rfl|hp
 .refine⟨j,?_,λz=>h (c _ (by rw[<-z];calc fF)),λz=>h (c _ (fM _ z)),λv z=>by rw[i]at z;cases z⟩;cases q:H ea with|none=>rfl|some u=>let⟨o,e⟩:=n ea h (.inl (by rw[q];simp));rw[a.2.1]at e;cases e
 calc I.pin p (mK _ hp)
inductive bN3(X:Cx)(u:MU)(C:bK)(E:XK)(z0:rE)(Y:St)(H:Hp):Prop
 |mk (O:_) (F:_) (n:_) (_:gP X.K F H O Y) (_:u O= .ok n) (_:n<=cR) (_:E C bL H)
theorem bN4{f:bI}{E:XK}{u:MU}(F:ExcBaseFacts B newId d bmB)(v:Cb x C bmB newId mg base)(hs:fV e=bJ)(hg:Gl (nG (cv P w (.ref C)) P w K mg base N qual scope f g A outer s H E) x)(l:(x==("__debug__" :U))=bJ)(he:PE (nG (cv P w (.ref C)) P w K mg base N qual scope f g A outer s H E) e (tU (nG (cv P w (.ref C)) P w K mg base N qual scope f g A outer s H E) u)):
 PS (nG (cv P w (.ref C)) P w K mg base N qual scope f g A outer s H E) (.Raise (some (.Call (.Name x np) [e] [] cpos)) none pos) (bN3 (nG (cv P w (.ref C)) P w K mg base N qual scope f g A outer s H E) u (.ref C) E):=by
 rintro pe s1 Y t D I ⟨O,M,n,E0,hu,hz,Z⟩;let⟨bm,Q,nm,q,bs,hdct,sn,sub,ab,col,dd,k0,k1,k2,k3,k5,mN,X,hN,hq,T⟩:=v.obj;refine wpAny_Raise_call_subT (C:=C) (nm:=nm) (q:=q) (N:=Q) (bs:=bs) (bm:=bm) (hdct:=hdct) (sn:=sn) (sub:=sub) (ab:=ab) (col:=col) (dd:=dd) (k0:=k0) (k1:=k1) (k2:=k2) (k3:=k3) (k5:=k5) (newId:=newId) (mN:=mN) F (T.hasType F.hasBase) (I.ok.hd bQ) (kX (by simp[dC,hs])) hq (ey I hg v.bound ⟨rfl,?_⟩ l);let y:=(lB he pS (fA hs)) cpos pe s1 Y t (λvs H2=> ~~~vs=1/\H2=t) I ⟨O,M,n,E0,hu,hz,λz=>⟨rfl,rfl⟩⟩;rw[fA hs]at y|-;refine vu (dA y λus j ⟨vs,H2,a,r,S,W⟩=>⟨rfl,?_,a.bk _ _ X,hN.keeps a.bk,T.keeps a.bk,λh' e G=>?_⟩)
 .rw[<-r.length,S];decide
 subst W;let p:(A.deeper (nZ qual scope s⁻¹ f g)).frames=some (nZ qual scope s⁻¹ f g::outer):=a.ok.frames;let st:=a.stack;let' i:J bI:=kC (nZ qual scope s⁻¹ f g::outer);let sub:∀b,b∈kC outer->b∈i:=λb c=>fM _ c
 refine wpAny_leaves_madeW (base:=TI.gone j.heap i) (h:=j.heap) p bQ (λb o z=>(SO z).2) (D8 (λb c=>SQ c) st) G λh2 t2 k a0 hn up=>?_
 refine⟨e,_,TI.gone j.heap i,H2,j.heap,rfl,a.os,a.bare,a.base,a.hok,λb o z=>(SO z).2,?_,k,?_,λb c z=>?_,λb c=>?_,Z⟩
 .exact D8 (λb c=>SQ (sub b c)) a.funs
 .exact(cF4 G.keeps).trans up
 .let nf:b∉i:=λm=>by
   rcases jJ.mp m with e|m
   .rcases z with z|⟨o,z⟩
    .exact z (by rw[e];calc a.free)
    have:=gH z;rw[e]at this;exact aX _ this
   exact c m
  rw[TI.gone_get nf];rcases z with z|⟨o,z⟩
  .cases q:H2 b with|none=>calc dD q z|some u=>exact bL9 (a.hok b u q)
  exact a.base.there b o z (by simp[nG])
 calc a.stkFree b (sub b c)
inductive D9(K:cG)(C:bK)(g:J D->bW)(vs:J V)(H:Hp)(z2:VK)(E:XK):Prop
 |mk (F:_) (ds:_) (_:pC F H) (_:bX F H) (_:DatL K F ds vs) (_:g ds=bF) (_:∀F' H',cP F H F' H'->E C bL H')
structure NZ(P:fH)(w:cD)(K:cG)(mg:U->bR bK)(base:cH)(k:bD)(x:U)(C:bI)(g:J D->bW):Prop where
 ex:∃(f:bI) (fd:fO) (ps:J U),fC P w K mg base (cv P w (.ref C)) k f fd ps (D9 K (.ref C) g)/\mg x=L (.ref f)/\lE K (.ref f)=bF/\jO K fd ps []
def jq(m:J D->bP D)(g:J D->bW)(a:MA):MS:=λO=>(a O).bind λds=>if g ds=bF then .ok (.rt .n)else(m ds).bind λd=>.ok (.rt d)
def bN5(h:X.stack=X.env::X.outer)(a2:X.env.frame=L X.env.locals)(CD:yX X.prog X.w X.K X.mg X.base k x m)(CC:NZ X.prog X.w X.K X.mg X.base k x C g)(FB:ExcBaseFacts B newId initId bmB)(Oa:Cb y C bmB newId X.mg X.base)(hr:fZ k X.A)(hg:Gl X x)(b0:Gl X y)(hn:dC (e::M)=bF)(ha:∀E,IA (X.wish E) (e::M) fa)(Z:(x==("__debug__" :U))=bJ)(a9:(y==("__debug__" :U))=bJ):
 IS X.nox (.Try [.Return (L (.Call (.Name x p) (e::M) [] cpos)) epos] [.ExceptHandler (L (.Name y np)) bL [.Return (L (.Constant .none j cp)) rp] hpos] [] [] pos) (jq m g fa):=by
 rintro Fa Ha pe s Y H D I ⟨O,F,S,q⟩;let I:=I.unwish;let h1:fV e=bJ/\dC M=bF:=by delta dC at hn;rw[lA,gD]at hn;exact⟨by simpa using hn.1,hn.2⟩
 refine wpAny_Try_except ?_;let' o:bK->bT->Prop:=λe s₁=>(X>>>(noteFrame e X.env)) (λ_ s₂=>(X>>>(setFlight e bL)) (λ_ s₃=>(X>>>(handleBy e X.env [.ExceptHandler (L (.Name y np)) bL [.Return (L (.Constant .none j cp)) rp] hpos])) (SP X.nox pe D) (λ_ _=>hI) s₃) (λ_ _=>hI) s₂) (λ_ _=>hI) s₁
 delta jq at q;revert q;cases a1:fa O with
 |bad=>calc λq=>q.elim|ok ds=>
 intro q;replace q:kP X Fa Ha (if g ds=bF then .ok (.rt .n)else(m ds).bind λd=>.ok (.rt d)) D:=q;split at q
 case isFalse=>
  let R:pA (X.wish o) [.Return (L (.Call (.Name x p) (e::M) [] cpos)) epos] _:=l8 ((eR (yp (X:=X.wish o) CD hr hg hn Z (ha o))) Fa Ha);refine lU (R pe s Y H D (I.wish _) ⟨O,F,S,?_⟩) (λf G z=>?_) λ_ _ z=>z
  .show kP X Fa Ha ((mA m fa O).bind λd=>.ok (.rt d)) D;delta mA;rw[a1];exact q
  cases f with|next=>let⟨σ',T,I',q'⟩:=z;calc v7 ⟨σ',T,I'.unwish.wish _,q'⟩|brk=>calc(show SP X.nox pe D .brk G from zr z.unwish)|cont=>calc(show SP X.nox pe D .cont G from zr z.unwish)|ret u=>exact(show SP X.nox pe D (.ret u) G from zr z.unwish)
 rename_i a8;let⟨f,fd,ps,FO,b1,hk,hb⟩:=CC.ex;refine HJ (Rw (E:=o) (gf (ey (X:=X.wish o) (I.wish _) hg b1 ?_ Z)));refine o6 (h₀:=X.base) I.ok.mod.kin hk (dA (ha o cpos pe s Y H (λvs H1=>∃F1,cP F H F1 H1/\DatL X.K F1 ds vs) (I.wish _) ⟨O,F,S.env,?_⟩) λus G ⟨vs,H1,I1,r,F1,g1,d1⟩=>⟨I1.kIn,?_⟩) (fA h1.1) (kX h1.2)
 .rw[a1];exact λv F' T g' r'=>⟨F',g',r'⟩
 let sp:D9 X.K (.ref C) g vs H1 (λ_ _=>hI) (λ_ _ T=>∃F',SR X.K Fa Ha F' T O Y):=⟨F1,ds,g1.tk S.env.1,g1.sub,d1,a8,λF' T g2=>⟨F',S.grow (g1.trans g2)⟩⟩;let hl: ~~~us= ~~~ps:=by rw[<-r.length];exact FO.len _ _ _ _ sp
 let W:=hb G us I1.kIn (by rw[jF];calc hl);rw[jF]at W;let a:=I1.unwish;refine k8 (aY (FO.run X.A X.stack G H1 ⟨us,[]⟩ us vs _ _ hr a.env0 W r sp) λr s' t=>?_);cases r with
 |ok fl=>
  cases fl with
  |ret u=>let⟨_,_,_,_,_,_,_,q⟩:=t;cases q|next=>calc qP t|brk=>calc qP t|cont=>calc qP t
 |error e'=>
 let⟨ea,a0,B0,T,gh,rfl,os,i,un,a3,hB,hf,a6,up,al,fr,F',S'⟩:=t;let a7:X.A.frames=L (X.env::X.outer):=by rw[<-h];exact a.ok.frames
 refine wpAny_looks_onW a7 a2 (h▸a6) λh₄ l a4=>?_
 refine wpAny_landsW l λh₅ N a5=>?_
 let b:Bv B0 X.stack ea (.ref C) a0 h₅:=by rw[h];exact N
 let I₅:=NY (X:=X) a os i un a3 hB hf b ((up.trans a4).trans a5) al fr;let⟨oe,b2,P₅⟩:=bN2 (s:={s' with heap:=h₅}) h a2 I₅ b al fr;let hp:=P₅.pin (ea,oe) (mK _ fF);refine dA (wpAny_handleBy_cons (codeAny_handlers_test (lU (ey (X:=Cx.marked X ea) (Q:=λc s₁=>c= .ref C/\s₁={s' with heap:=h₅}) (NX P₅ ea) b0 Oa.bound ⟨rfl,rfl⟩ a9) (λc s₁ h₁=>?_) λ_ _ y=>y)) (by intro q;cases q)) λf s2 z=>zr z
 let⟨rfl,rfl⟩:=h₁;let⟨bm,N',nm,qn,bs,b4,sn,b7,ab,b5,dd,k0,k1,k2,k3,k5,mN,hC,b6,t,TT⟩:=(Oa.keeps P₅.bk).obj;refine wpAny_excMatches_sub_self hC hp.1 b2 (TT.hasType FB.hasBase) (codeAny_handlers_suite ?_);refine lands_againW (s:={s' with heap:=h₅}) b λh₆ P b3=>?_
 let I₆:=NY (X:=X) a os i un a3 hB hf P (((up.trans a4).trans a5).trans b3) al fr;let Q:pA (Cx.marked X ea).nox [.Return (L (.Constant .none j cp)) rp] (JG (tC .n)):=l8 (xd JD);calc wpAny_passesOwnAt cH0 (dA (Q pe _ Y _ D ((NX I₆ ea).wish _) (q .n F' T S'.gr (by dsimp))) λf s2 z=>bN1 I.ok z.unwish)
end
end R
section
open PySem PySem.Spec PyProof.Rows L2 R
open R.D renaming str->bE,int->bG
local macro_rules| `($i:num ^^^ $k:num)=> `(m2 dN (gv $i) (kc (.int $k)))
local macro_rules| `(.($k:num))=> `(kc (.int $k))
local macro_rules| `(.($k:str))=> `(kc (.str $k))
local macro_rules| `(@$k:num)=> `(gv $k)
local macro_rules (kind:= «term{_}»)| `({$x:term,*})=>do
 let r:Lean.Term <-x.getElems.foldrM (λx (r:Lean.Term)=> `(aC $x $r)) (<- `(gB))
 return r
local macro_rules| `(#[$xs,*])=>do
 if xs.getElems.isEmpty then Lean.Macro.throwUnsupported
 let ys <-xs.getElems.mapM λ(x:Lean.Term)=>match x with
  | `(())=> `(.no)
  | `(.row $_ $_ $_)=>pure x
  |_=> `(.val $x)
 `([$ys,*])
namespace Jm
section
variable [dG] [Pd]
noncomputable def dO(i:bD):fQ:=AQ.main.body.getD i (.Pass ⟨0,0,0,0⟩)
noncomputable def bN6(s:fQ):J fQ:=match s with| .ClassDef _ _ _ b _ _ _ _ _ _ _=>b|_=>[]
def rN(i j:bD):fQ:=(bN6 (dO i)).getD j (.Pass ⟨0,0,0,0⟩)
abbrev s5:fQ:=dO 28
noncomputable abbrev N5:J U:=["thing","most","holds","item"]
abbrev s10:fQ:=dO 33
noncomputable abbrev N1:J U:=["thing","around"]
abbrev zL:fQ:=dO 35
noncomputable abbrev N2:J U:=["thing","around"]
abbrev uu:fQ:=rN 60 0
abbrev uv:fQ:=rN 79 0
noncomputable def oq:D:=.int 999999
def fu:J U:=["face","unit","take","from","word","deed","with","own","do","done","let","be","if","then","else","while","give","tell","get","new","hand","to","await","call","and","end"]
def Ea:D:=.t (fu.map .str)
noncomputable def jr:D:=.int 12
noncomputable def uw:D:=.int 6
noncomputable def Eb:D:=.int 8
noncomputable def Ec:D:=.int 8
noncomputable def Ed:D:=.int 6
noncomputable def ux:D:=.int 4
noncomputable def uy:D:=.int 4
noncomputable def Ef:D:=.int 8
noncomputable def uz:D:=.int 6
noncomputable def ot:J U:=["WORD","DEED"]
def cy:D:=.t (ot.map .str)
noncomputable def zt:J U:=["WORD","DEED","EXPRESSION","PARTS","BLOCK"]
def zM:D:=.t (zt.map .str)
noncomputable def ou:J U:=["+","-","*","<","="]
def uD:D:=.t (ou.map .str)
noncomputable def qT:J (U×D):=[("let",.t [.str "WORD",.str "be",.str "EXPRESSION"]),("if",.t [.str "EXPRESSION",.str "then",.str "BLOCK",.str "else",.str "BLOCK"]),("while",.t [.str "EXPRESSION",.str "do",.str "BLOCK"]),("do",.t [.str "DEED",.str "PARTS"]),("give",.t [.str "EXPRESSION"]),("tell",.t [.str "EXPRESSION"]),("get",.t [.str "WORD"]),("new",.t [.str "WORD",.str "deed",.str "DEED"]),("hand",.t [.str "WORD",.str "to",.str "EXPRESSION"]),("await",.t [.str "WORD",.str "and",.str "WORD"])]
noncomputable def aG:D:=.t [.str "WORD",.int 0]
noncomputable def nV(m:J D->bP D):J D->bP D| [.t c,.int a]=>if a<(~~~c:bH)then .ok (.b bJ)else iT m c|_=>.bad
inductive Fn where
 |q0|q1|q2|q3|q4|q5|q6|q7|q8|q9|q10|q11|q12|q13|q14|q15|q16|q17|q18|q19|q20|q21|q22|q23|q24|q25|q26|q27|q28|q29|q30|q31|q32|q33|read|q35|q36|q37|q38|q39|q40|q41|q42|q43|q44|q45|q46|q47|q48|q49|q50|q51|q52|q53|q54|q55|q56|q57|q58|q59|q60|q61|q62|q63|q64|q65|q66|q67|q68|q69|q70|q71|q72|q73|q74|q75|q76|q77|q78|q79|law|q81|q82|skip|q84|put|q86|q87|q88|q89|q90|q91|q92|q93|q94|q95
noncomputable abbrev CT:=Fn->J D->bP D
noncomputable def gX(C:CT):J D->bW
 | [.shf a,.str h]=>(match C .q93 [.shf a,.str h]with
  | .ok (.t [.str x,.str y])=>x != "order" &&((((x.cps.toList++y.cps.toList)++h.cps.toList).all λc=>cE (c<16^8))&&cE (~~~x+ ~~~y+ ~~~h<=1000))
  |_=>bJ)
 |_=>bJ
local macro_rules|`($x<|>$y)=>`(bO $x $y)
local macro_rules|`($x>>=$y)=>`(mB (m2 dW $x $y))
local macro_rules|`($n:num % $s)=>`(mA ($(Lean.mkIdent `C) .$(Lean.mkIdent (.mkSimple ("q"++toString n.getNat))):ident) $s)
abbrev Eg(C:CT):MS:=cI (jC (mT (15%{@4,@5,(m2 cL @1 .(1))}))) (cF (kc (.b bJ))) cN
abbrev wB(C:CT):MS:=cI (mB (m2 (dT bJ) @3 (kc zM))) (lP 1 (58%{@3,(m2 dN @0 @2)})<|>nj 2 .(1)) (tB 1 @3)
abbrev rB(C:CT):MS:=cI (mB (m2 (dT bJ) @4 (kc zM))) (qS 0 3 (gM 0 (C .q43) {@4,(m2 cL @1 .(1))})) (lZ 0 (kY 0 (C .skip) {@4}))
abbrev uB(C:CT):MS:=lP 1 (31%{@2,@3})
abbrev fB(C:CT):MS:=dQ 3 (28%{@2,@1})<|>cI (mB (m2 (jX bF) @3 (kc .n))) (cF @3) cN
abbrev N3(C:CT):MS:=cI (kK 2 (mO (@3>>=(0^^^0)) (mB (m2 (dT bF) @3 @1)))) (gQ 2 (xP 2 (mA cV {.("noface"),@3}))) cN<|>mQ 5 (n5 (C .q22) {(m2 dN @1 @3)})<|>kD 5<|>cI (kK 2 (mB (m2 (dT bF) @4 @5))) (gQ 2 (xP 2 (mA cV {.("nottold"),@4}))) cN<|>cI (kK 2 (mB (m2 (dT bJ) @4 @2))) (gQ 2 (xP 2 (mA cV {.("twice"),@4}))) cN<|>mJ 2 @4 (m2 dN @5 @4)
abbrev ov(C:CT):MS:=dQ 5 (4^^^0)<|>dQ 6 (mA gJ {4^^^1})<|>cI (kK 3 (kK 2 (mB (m2 (dT bJ) @5 @3)))) (sv 3 (nz 3 @5) jR @6 (gQ 3 (xP 3 (mA cV {.("count"),@5})))) (cI (kK 3 (kK 2 (mB (m2 (dT bJ) @5 @2)))) (gQ 3 (xP 3 (mA cV {.("twice"),@5}))) cN)<|>mJ 2 @5 (mA cV {.("DEED"),@6})
abbrev Eh(C:CT):ME:=mA (C .q68) {(mA (C .q63) {@5,@0}),@1,@2,@3,@4}
abbrev Ei:MS:=dQ 2 (m2 cL @2 (m2 dN @1 (m2 fW (m2 jW @0 (m2 cL .(7) (m2 mI .(26) @3))) .(26))))
abbrev uE(C:CT):MS:=dQ 5 (m2 dN @0 (m2 fW (63%{@2,@4}) (mA gJ {@0})))<|>cI (kK 3 (pD (mB (m2 (jX bF) @5 (kc .n))) (mB (m2 jR (5^^^0) @1)))) (dQ 6 (m2 cL (mA sG {5^^^1}) (gY [] (fE (5^^^2)) (jS (λ_=>.ok bF)) (jS @0)))<|>cI (kK 3 (mB (m2 pU (mA gJ {@6}) .(0)))) (dQ 7 (mA cV {5^^^0,(m2 dN @6 (m2 fW (m2 jW (63%{@2,@4}) .(7)) (mA gJ {@6})))})<|>cI (kK 3 (mB (m2 (dT bF) @7 @3))) (tB 3 @7) cN) cN) cN
abbrev fv:MS:=cI (pD (mB (m2 (jX bF) @6 (kc .n))) (mB (m2 dW (6^^^0) @4))) (bO (dQ 2 (m2 cL @2 (gY [5] (fE (6^^^1)) (mB (m2 dW @0 @1)) @0))) (dQ 3 (m2 cL @3 (gY [5] (fE (6^^^2)) (mB (m2 dW (0^^^0) @1)) @0)))) (cN)
abbrev ox(C:CT):MS:=sB 15 [4,2] (lH (14^^^1)) (λ_=>.ok bF) (70%{@1,@2,(m2 cL .(16) @0)})<|>dQ 16 (gY [] (fE @9) (jS (@1>>=.(0))) (jS @0))<|>dQ 17 (69%{(63%{@5,(m2 cL .(20) @13)}),(m2 cL .(1) (m2 fW @5 .(4))),(m2 cL @8 @15),@9,@16,.(2)})<|>tB 12 (mA cV {14^^^0,(mA lG {@15}),(mA cV gB),@17})
abbrev uF:MS:=cI (kK 5 (mB (m2 jR (m3 qC @3 @6 .(0)) @7))) (gQ 4 (xP 4 (mA cV {.("old"),@0}))) (cN)
abbrev N4(C:CT):MS:=cI (kK 2 (mB (m2 (dT bF) @4 @2))) (jh 5 0 2 3 (C .q94) {@4}<|>cI (kK 2 (mB (m2 (jX bF) @5 (kc .n)))) (gQ 2 (xP 2 @5)) cN) cN
abbrev N6(C:CT):MS:=cI (kK 5 (mB (m2 (dT bF) @8 @5))) (n9 10 4 5 (C .q76) {@8,@1,@2,@3}<|>cI (kK 5 (mB (m2 (jX bF) @10 (kc .n)))) (gQ 4 (xP 4 @10)) cN) cN
abbrev Ej(C:CT):MS:=cI (mB (m2 pU (jM (C .q89) @0 {@5}) .(0))) (mJ 4 @5 (jM (C .q89) @0 {@5})) cN<|>cI (mB (m2 (jX bF) (jM (C .q91) @0 {@5}) (kc .n))) (mJ 2 @5 (jM (C .q91) @0 {@5})<|>mJ 3 @5 (jM (C .q92) @0 {@5})) cN
abbrev N7(C:CT):MS:=dQ 6 (77%{@5,@2,@3,@4})<|>cI (mB (m2 jR (jM (C .q93) @0 {@5}) @6)) (cF (kc (.b bJ))) cN<|>dQ 7 (78%{@0,@5})<|>cI ((6^^^0)>>=.("order")) (cI (mB (m2 jR @7 (mA lG {(gY [2,0] (fE (6^^^1)) (λ_=>.ok bF) (mA cV {(jM (C .q90) @2 {@0}),(m2 dN @1 @0)}))}))) (cF (kc (.b bJ))) cN) (cI (mB (m2 (jX bF) @7 (kc .n))) (cF (kc (.b bJ))) cN)
abbrev zu(C:CT):MS:=cI (kK 2 (mB (m2 (jX bF) @4 (kc .n)))) (lZ 2 (zH 2 (C .put) {(51%{@4})})) cN
abbrev N8(C:CT):MS:=dQ 7 (62%{@0,(m2 cL .(9) @6)})<|>bv 4 5 (m2 dN @1 (m2 fW (m2 jW @7 .(4)) (mA gJ {@1})))<|>cI (kK 2 (pD ((m2 fW @7 .(4))>>=.(0)) (mB (m2 (jX bF) @4 (kc .n))))) (lZ 2 (zH 2 (C .put) {(51%{@4})})) (lZ 2 (zH 2 (C .put) {(51%{@5})}))<|>cI (kK 2 (jC (mT (79%{@2,@3})))) (cF (kc (.b bJ))) cN
def Ek(C a:CT):MS:=dQ 2 (jM (C .q93) @0 {@1})<|>cI (mB (m2 jR (2^^^0) .("order"))) wL cN<|>cF (mA lG {(gY [0] (fE (2^^^1)) (λ_=>.ok bF) (mA cV {(jM (C .q90) @1 {@0}),(jM (C .q91) @1 {@0})}))})
def El(C a:CT):MS:=cF (nT (m1 (pY "int") @0) (qu (m1 (pY "bool") @0)))
def Em(C a:CT):MS:=cF (nT (1%{@0}) (rZ nI nI (m1 qv (kc oq)) @0 (kc oq)))
def Eo(C a:CT):MS:=cI (mO (jC (mT (m1 (pY "str") @0))) (jC (mB (rZ nI nI .(1) (mA gJ {@0}) (kc Eb))))) (cF (kc (.b bJ))) cN<|>cF (nT (mA eV {(gY [] (fE @0) (λ_=>.ok bF) (rZ nI nI .("a") @0 .("z")))}) (m2 (dT bF) @0 (kc Ea)))
def Ep(C a:CT):MS:=cF (nT (m1 (pY "tuple") @0) (m2 dW (mA gJ {@0}) @1))
def uG(C:CT)(v:V)(a:J (bI×HO))(m:J D->bP D):MS:=bO (cI (mO (jC (mT (m1 (pY "tuple") @0))) (mB (m2 pU (mA gJ {@0}) @1))) (cF (kc (.b bJ))) (cN)) (bO (jQ 3 (fE @0) (cI (jC (mT (eW 2 v a m {@3}))) (cF (kc (.b bJ))) (cN))) (cF (kc (.b bF))))
def Er(C a:CT):MS:=cF (mA (nV (a .q3)) {@0,@1})
def Es(C a:CT):MS:=cF (m2 dW (m1 ni @0) (mA gJ {@0}))
def Eu(C a:CT):MS:=cI (pD (mT (m1 (pY "tuple") @0)) (pD (mB (m2 pU (mA gJ {@0}) .(0))) (mT (m1 (pY "str") (0^^^0))))) (cF (0^^^0)) cN<|>cF .("")
def Ew(C a:CT):MS:=dQ 2 (8%{@0})<|>cI (mB (m2 pU @1 (kc jr))) (cF (kc (.b bJ))) cN<|>cI (@2>>=.("number")) (cF (nT (4%{@0,.(2)}) (2%{0^^^1}))) cN<|>cI (@2>>=.("name")) (cF (nT (4%{@0,.(2)}) (3%{0^^^1}))) cN<|>cI (@2>>=.("call")) (cF (nT (4%{@0,.(3)}) (nT (3%{0^^^1}) (10%{0^^^2,(m2 cL @1 .(1))})))) cN<|>cI (mO (mB (m2 (dT bF) @2 (kc uD))) (jC (mT (4%{@0,.(3)})))) (cF (kc (.b bJ))) cN<|>cF (nT (9%{0^^^1,(m2 cL @1 .(1))}) (9%{0^^^2,(m2 cL @1 .(1))}))
def zw(C a:CT):MS:=cF (m9 @0 (kc uy) 1 λi=>nV (vP i (mA (a .q9) {@0,@1})))
def Ey(C a:CT):MS:=cF (12%{@0,.(0)})
def zx(C a:CT):MS:=cI (jC (mT (m1 (pY "tuple") @0))) (cF (kc (.b bJ))) cN<|>cF (m9 @0 (mA gJ {@0}) 1 λi=>nV (vP i (mA (a .q13) {@0,@1})))
def Ez(C a:CT):MS:=dQ 2 (8%{@0})<|>cI (mO (mB (m2 pU @1 (kc jr))) (mB (m1 (bx qT bF) @2))) (cF (kc (.b bJ))) cN<|>dQ 3 (14%{@2})<|>cI (mB (m2 jR (mA gJ {@0}) (m2 cL (mA gJ {@3}) .(1)))) (cF (kc (.b bJ))) cN<|>wI 4 5 (iW @3 (ay @0 (ax .(1)) bt)) (Eg C)<|>cF (kc (.b bF))
def EA(C a:CT):MS:=cF (gY [] (fE (m1 (aD qT) @0)) (mB (m2 (dT bJ) @0 (kc zM))) @0)
def EB(C a:CT):MS:=cI (mB (m2 (dT bJ) @0 (kc cy))) (cF (3%{@1})) cN<|>cI (@0>>=.("EXPRESSION")) (cF (9%{@1,@2})) cN<|>cI (@0>>=.("PARTS")) (cF (10%{@1,@2})) cN<|>cF (12%{@1,@2})
def EC(C a:CT):MS:=cI (mO (jC (mT (4%{@0,.(4)}))) (jC (mT (3%{0^^^0})))) (cF (kc (.b bJ))) cN<|>cI (mO (jC (mT (6%{0^^^1,(kc ux)}))) (jC (mT (6%{0^^^2,(kc Ed)})))) (cF (kc (.b bJ))) cN<|>cF (nT (7%{(m2 cL (0^^^1) (0^^^2))}) (11%{0^^^3}))
def uH(C a:CT):MS:=cI (mO (jC (mT (4%{@0,.(3)}))) (jC (mT (3%{0^^^0})))) (cF (kc (.b bJ))) cN<|>cI (mO (jC (mT (6%{0^^^1,(kc uz)}))) (jC (mT (mA (nV (a .q18)) {0^^^2,(kc uw)})))) (cF (kc (.b bJ))) cN<|>cF (7%{(m2 cL (mA sG {0^^^1}) (gY [] (fE (0^^^2)) (λ_=>.ok bF) (0^^^0)))})
def ED(C a:CT):MS:=cF (nT (4%{@0,.(2)}) (nT (3%{0^^^0}) (nT (1%{0^^^1}) (rZ nI nI .(0) (0^^^1) (kc ux)))))
def EE(C a:CT):MS:=cI (mO (jC (mT (4%{@0,.(5)}))) (jC (mT (3%{0^^^0})))) (cF (kc (.b bJ))) cN<|>cI (mO (jC (mT (mA (nV (a .q20)) {0^^^1,(kc Ef)}))) (jC (mT (6%{0^^^2,(kc uz)})))) (cF (kc (.b bJ))) cN<|>cF (nT (mA (nV (a .q16)) {0^^^3,(kc uw)}) (11%{0^^^4}))
def EF(C a:CT):MS:=cF (nT (4%{@0,.(2)}) (nT (3%{0^^^0}) (3%{0^^^1})))
def EG(C a:CT):MS:=mQ 3 (n5 (C .q22) {@2})<|>lQ 3 4 (gM 3 (C .q23) {@0,@1})<|>cI (mB (m2 (jX bJ) @4 (kc .n))) (lQ 3 4 (gM 3 (C .q24) {@0})) cN<|>cI (mB (m2 (jX bJ) @4 (kc .n))) (lQ 3 4 (gM 3 (C .q25) {@0,@2})) cN<|>kD 3<|>cI (mB (m2 (jX bJ) @4 (kc .n))) (dQ 4 (26%{@0,@3})) cN<|>cF @4
def uI(C a:CT):MS:=mQ 1 aE<|>cI (mB (m2 (jX bF) @0 (kc .n))) (jQ 2 (fE (0^^^1)) (mJ 1 @2 (kc aG))<|>jQ 3 (fE (0^^^2)) (mJ 1 (3^^^0) (mA cV {.("DEED"),3^^^1}))) cN<|>n3 1
def zy(C a:CT):MS:=wI 3 4 (fE (0^^^1)) (N3 C)<|>gQ 2 (xP 2 (kc .n))
def zz(C a:CT):MS:=jQ 2 (fE (0^^^2)) (cI (kK 1 (mB (m2 (dT bJ) @2 @1))) (gQ 1 (xP 1 (mA cV {.("twice"),@2}))) cN<|>mJ 1 @2 (kc aG))<|>gQ 1 (xP 1 (kc .n))
def z8(C a:CT):MS:=mQ 3 (iY (mB (m2 (jX bJ) @1 (kc .n))) aE (fg (1^^^2)))<|>jQ 4 (fE (0^^^3)) (ov C)<|>cI (kK 3 (kK 2 (mB (m2 pU (mA gJ {@3}) .(0))))) (gQ 3 (xP 3 (mA cV {.("lacks"),(m2 dN (mA sG {@3}) .(0))}))) cN<|>gQ 3 (xP 3 (kc .n))
def EH(C a:CT):MS:=jQ 2 (fE (0^^^3)) (mQ 3 (fg @1)<|>jQ 4 (fE (m2 cL (2^^^1) (2^^^2))) (mJ 3 @4 (kc aG))<|>kD 3<|>dQ 5 (27%{2^^^3,@3})<|>cI (mB (m2 (jX bF) @5 (kc .n))) (cF @5) cN)<|>cF (27%{0^^^4,@1})
def EI(C a:CT):MS:=jQ 2 (fE (29%{@0})) (fB C)<|>cF (kc .n)
def jt(C a:CT):MS:=dQ 2 (0^^^1)<|>cI (mB (m2 (dT bF) @2 @1)) (cF (mA cV {.("unknown"),@2})) cN<|>dQ 3 (m2 dN @1 @2)<|>cI ((0^^^0)>>=.("COUNT")) (cF (xS (mB (m2 jR (3^^^1) (0^^^2))) (mA cV {.("count"),@2}) (kc .n))) cN<|>cF (xS (mB (m2 jR (3^^^0) (0^^^0))) (mA cV {.("sort"),@2}) (kc .n))
def EJ(C a:CT):MS:=qM 1<|>jQ 2 (fE @0) (lP 1 (30%{@2}))<|>kD 1<|>cF @1
def EK(C a:CT):MS:=qM 1<|>wI 2 3 (iW (14%{0^^^0}) (ay @0 (ax .(1)) bt)) (uB C)<|>cI ((0^^^0)>>=.("do")) (tB 1 (mA cV {.("COUNT"),0^^^1,(mA gJ {0^^^2})})) cN<|>cI ((0^^^0)>>=.("new")) (tB 1 (mA cV {.("COUNT"),0^^^2,.(0)})) cN<|>kD 1<|>cF @1
def EL(C a:CT):MS:=cI (mB (m2 (dT bJ) @0 (kc cy))) (cF (mA hZ {(mA cV {@0,@1,.(0)})})) cN<|>cI (@0>>=.("EXPRESSION")) (cF (32%{@1})) cN<|>cI (@0>>=.("PARTS")) (cF (33%{@1})) cN<|>cF (29%{@1})
def EM(C a:CT):MS:=dQ 1 (0^^^0)<|>cI (@1>>=.("number")) (cF (mA hZ gB)) cN<|>cI (@1>>=.("name")) (cF (mA hZ {(mA cV {.("WORD"),0^^^1,.(0)})})) cN<|>cI (@1>>=.("call")) (dQ 2 (0^^^1)<|>dQ 3 (0^^^2)<|>cF (m2 cL (m2 cL (mA hZ {(mA cV {.("DEED"),@2,.(0)})}) (33%{@3})) (mA hZ {(mA cV {.("COUNT"),@2,(mA gJ {@3})})}))) cN<|>cF (33%{(ay @0 (ax .(1)) bt)})
def EO(C a:CT):MS:=qM 1<|>jQ 2 (fE @0) (lP 1 (32%{@2}))<|>kD 1<|>cF @1
def uJ(C a:CT):MS:=mQ 1 (tu @0)<|>lQ 1 2 (i9 ((pG 1 (C .q81))>>=.("face")) (gM 1 (C .q35) gB) (gM 1 (C .q36) gB))<|>cI (jC (mT (pG 1 (C .q84)))) wL cN<|>cI (pD (jC (mT (17%{@2}))) (jC (mT (19%{@2})))) wL cN<|>cF @2
def EQ(C a:CT):MS:=lZ 0 (kY 0 (C .skip) {.("face")})<|>lQ 0 1 (gM 0 (C .q47) gB)<|>lQ 0 2 (gM 0 (C .q38) gB)<|>qM 3<|>ci ((pG 0 (C .q81))>>=.("deed")) (lZ 0 (kY 0 (C .skip) {.("deed")})<|>lQ 0 4 (gM 0 (C .q47) gB)<|>qS 0 3 (vW cV (vV @4 (vU (gM 0 (C .q48) gB)))))<|>kD 3<|>lZ 0 (kY 0 (C .skip) {.("done")})<|>gQ 0 (xP 0 (mA cV {@1,@2,(mA lG {@3})}))
def ER(C a:CT):MS:=lZ 0 (kY 0 (C .skip) {.("unit")})<|>lQ 0 1 (gM 0 (C .q47) gB)<|>qM 2<|>ci ((pG 0 (C .q81))>>=.("take")) (qS 0 2 (gM 0 (C .q37) gB))<|>kD 2<|>lQ 0 3 (gM 0 (C .q38) gB)<|>qM 4<|>ci ((pG 0 (C .q81))>>=.("deed")) (qS 0 4 (gM 0 (C .q39) gB))<|>kD 4<|>lZ 0 (kY 0 (C .skip) {.("do")})<|>lQ 0 5 (gM 0 (C .q41) {.(0)})<|>lZ 0 (kY 0 (C .skip) {.("done")})<|>gQ 0 (xP 0 (mA cV {@1,(mA lG {@2}),@3,(mA lG {@4}),@5}))
def ES(C a:CT):MS:=lZ 0 (kY 0 (C .skip) {.("take")})<|>lQ 0 1 (gM 0 (C .q47) gB)<|>lZ 0 (kY 0 (C .skip) {.("from")})<|>gQ 0 (vW cV (nr 0 (gM 0 (C .q47) gB) (vU (xP 0 @1))))
def ET(C a:CT):MS:=qM 1<|>ci ((pG 0 (C .q81))>>=.("word")) (lZ 0 (kY 0 (C .skip) {.("word")})<|>qS 0 1 (gM 0 (C .q47) gB))<|>kD 1<|>gQ 0 (xP 0 (mA lG {@1}))
def EU(C a:CT):MS:=lZ 0 (kY 0 (C .skip) {.("deed")})<|>lQ 0 1 (gM 0 (C .q47) gB)<|>lZ 0 (kY 0 (C .skip) {.("with")})<|>lQ 0 2 (gM 0 (C .q40) {.("own")})<|>lQ 0 3 (gM 0 (C .q40) {.("do")})<|>gQ 0 (vW cV (vV @1 (vV @2 (vV @3 (vU (gM 0 (C .q41) {.(0)}))))))
def EV(C a:CT):MS:=qM 2<|>ci (mB (m2 jR (pG 0 (C .q81)) @1)) (qS 0 2 (gM 0 (C .q47) gB))<|>kD 2<|>lZ 0 (kY 0 (C .skip) {@1})<|>gQ 0 (xP 0 (mA lG {@2}))
def EW(C a:CT):MS:=qM 2<|>ci (mB (m2 jR (pG 0 (C .q81)) .("end"))) (qS 0 2 (gM 0 (C .q42) {@1}))<|>kD 2<|>lZ 0 (kY 0 (C .skip) {.("end")})<|>gQ 0 (xP 0 (mA lG {@2}))
def EX(C a:CT):MS:=iN (45%{@1})<|>lQ 0 2 (kY 0 (C .q82) gB)<|>cI (mB (m1 (bx qT bF) @2)) wL cN<|>mQ 3 (eY {@2})<|>jQ 4 (fE (m1 (aD qT) @2)) (rB C)<|>kD 3<|>gQ 0 (xP 0 (mA lG {@3}))
def EY(C a:CT):MS:=cI (mB (m2 (dT bJ) @1 (kc cy))) (gQ 0 (gM 0 (C .q47) gB)) cN<|>cI (@1>>=.("EXPRESSION")) (gQ 0 (gM 0 (C .q44) {@2})) cN<|>cI (@1>>=.("PARTS")) (gQ 0 (gM 0 (C .q46) {@2})) cN<|>gQ 0 (gM 0 (C .q41) {@2})
def EZ(C a:CT):MS:=iN (45%{@1})<|>dQ 2 (pG 0 (C .q81))<|>cI (mT (3%{@2})) (gQ 0 (vW cV (vV .("name") (vU (gM 0 (C .q47) gB))))) cN<|>cI (@2>>=.("call")) (lZ 0 (kY 0 (C .skip) {.("call")})<|>lQ 0 3 (gM 0 (C .q47) gB)<|>gQ 0 (vW cV (vV .("call") (vV @3 (vU (gM 0 (C .q46) {(m2 cL @1 .(1))})))))) cN<|>cI (mB (m2 (dT bJ) @2 (kc uD))) (lZ 0 (kY 0 (C .skip) {@2})<|>lQ 0 4 (gM 0 (C .q44) {(m2 cL @1 .(1))})<|>lQ 0 5 (gM 0 (C .q44) {(m2 cL @1 .(1))})<|>gQ 0 (xP 0 (mA cV {@2,@4,@5}))) cN<|>gQ 0 (vW cV (vV .("number") (vU (gM 0 (C .q48) gB))))
def E1(C a:CT):MS:=cI (mB (m2 pU @0 (kc jr))) wL cN
def E3(C a:CT):MS:=lQ 0 2 (gM 0 (C .q48) gB)<|>cI (jC (mB (rZ nI nI .(0) @2 (kc uy)))) wL cN<|>gQ 0 (vW lG (vU (nv 0 [0,1] (lH @2) (gM 1 (C .q44) {@2}))))
def E4(C a:CT):MS:=lQ 0 1 (kY 0 (C .q82) gB)<|>cI (jC (mT (3%{@1}))) wL cN<|>gQ 0 (xP 0 @1)
def E5(C a:CT):MS:=lQ 0 1 (kY 0 (C .q82) gB)<|>dQ 2 (xS (mT (xU xV @1 {.("-")})) (ay @1 (ax .(1)) bt) @1)<|>cI (mO (jC (mT (49%{@2}))) (pD (mT (xU xV @2 {.("0")})) (mB (m2 jR @1 .("0"))))) wL cN<|>gQ 0 (xP 0 (mA aF {@1}))
def E6(C a:CT):MS:=cI (jC (mB (rZ nI nI .(1) (mA gJ {@0}) (mA gJ {(mA xT {(kc oq)})})))) (cF (kc (.b bJ))) cN<|>cF (mA eV {(gY [] (fE @0) (λ_=>.ok bF) (rZ nI nI .("0") @0 .("9")))})
def E8(C a:CT):MS:=mQ 1 aE<|>jQ 2 (fE (0^^^1)) (mJ 1 (2^^^0) (kc (.b bF)))<|>kD 1<|>cF (mA sG {@1})
def uK(C a:CT):MS:=cI (mT (17%{@0})) (cF (xU iZ .(" ") {(52%{@0})})) cN<|>cI (mT (19%{@0})) (cF (xU iZ .(" ") {(53%{@0})})) cN<|>wL
def E9(C a:CT):MS:=mQ 1 (si (mA hZ {.("face"),0^^^0}) (54%{0^^^1}))<|>jQ 2 (fE (0^^^2)) (lP 1 (mA hZ {.("deed"),2^^^0,(mA xT {2^^^1})}))<|>kD 1<|>cF (m2 cL @1 (mA hZ {.("done")}))
def Fb(C a:CT):MS:=mQ 1 (eY {.("unit"),0^^^0})<|>jQ 2 (fE (0^^^1)) (lP 1 (mA hZ {.("take"),2^^^1,.("from"),2^^^0}))<|>lP 1 (54%{0^^^2})<|>jQ 3 (fE (0^^^3)) (lP 1 (55%{@3}))<|>kD 1<|>cF (m2 cL (m2 cL (m2 cL @1 (mA hZ {.("do")})) (56%{0^^^4})) (mA hZ {.("done")}))
def Fe(C a:CT):MS:=qM 1<|>jQ 2 (fE @0) (lP 1 (mA hZ {.("word"),@2}))<|>kD 1<|>cF @1
def Ff(C a:CT):MS:=cF (m2 cL (m2 cL (m2 cL (m2 cL (m2 cL (mA hZ {.("deed"),0^^^0,.("with")}) (mA sG {0^^^1})) (mA hZ {.("own")})) (mA sG {0^^^2})) (mA hZ {.("do")})) (56%{0^^^3}))
def Fg(C a:CT):MS:=qM 1<|>jQ 2 (fE @0) (lP 1 (57%{@2}))<|>kD 1<|>cF (m2 cL @1 (mA hZ {.("end")}))
def Fh(C a:CT):MS:=mQ 1 (eY {0^^^0})<|>dQ 2 .(1)<|>jQ 3 (fE (m1 (aD qT) (0^^^0))) (wB C)<|>kD 1<|>cF @1
def Fi(C a:CT):MS:=cI (mB (m2 (dT bJ) @0 (kc cy))) (cF (mA hZ {@1})) cN<|>cI (@0>>=.("EXPRESSION")) (cF (59%{@1})) cN<|>cI (@0>>=.("PARTS")) (cF (60%{@1})) cN<|>cF (56%{@1})
def Fj(C a:CT):MS:=dQ 1 (0^^^0)<|>cI (@1>>=.("number")) (cF (mA hZ {(mA xT {0^^^1})})) cN<|>cI (@1>>=.("name")) (cF (mA hZ {0^^^1})) cN<|>cI (@1>>=.("call")) (cF (m2 cL (mA hZ {.("call"),0^^^1}) (60%{0^^^2}))) cN<|>cF (m2 cL (m2 cL (mA hZ {@1}) (59%{0^^^1})) (59%{0^^^2}))
def Fk(C a:CT):MS:=mQ 1 (eY {(mA xT {(mA gJ {@0})})})<|>jQ 2 (fE @0) (lP 1 (59%{@2}))<|>kD 1<|>cF @1
def Fm(C a:CT):MS:=cI (mB (m2 yW @1 (mA gJ {@0}))) (cF (m2 dN @0 @1)) cN<|>cF .(0)
def Fo(C a:CT):MS:=dQ 2 (m2 fW (m2 mI (m2 cL (m2 cL (61%{@0,@1}) (m2 mI .(7919) @1)) .(1)) .(48271)) .(2147483647))<|>cF (m2 fW (m2 cL (m2 cL (m2 mI @2 @2) (m2 mI .(7) @2)) @1) .(2147483629))
def Fp(C a:CT):MS:=dQ 2 (m2 fW (m2 mI (m2 cL (m2 cL @0 (m2 mI .(104729) @1)) .(17)) .(69621)) .(2147483647))<|>cF (m2 fW (m2 cL (m2 cL (m2 mI @2 @2) (m2 mI .(3) @2)) @1) .(2147483629))
def Fq(C a:CT):MS:=dQ 1 .("abcdefghijklmnopqrstuvwxyz")<|>dQ 2 .("")<|>jQ 3 (lH (m2 fW @0 .(7))) Ei<|>cF @2
def Fv(C a:CT):MS:=cI ((m2 fW @0 .(9))>>=.(4)) (cF (m2 rH (m2 fW (m2 jW @0 .(9)) .(1999999)) .(999999))) cN<|>cF (m2 rH (m2 fW (m2 jW @0 .(9)) .(14)) .(4))
def Fw(C a:CT):MS:=dQ 4 (m2 fW @0 .(9))<|>cI (mO (@3>>=.(0)) (mB (m2 yW @4 .(2)))) (cF (mA cV {.("number"),(65%{(m2 jW @0 .(9))})})) cN<|>cI (mB (m2 yW @4 .(5))) (cF (mA cV {.("name"),(m2 dN @1 (m2 fW (m2 jW @0 .(9)) (mA gJ {@1})))})) cN<|>cI (pD (@4>>=.(5)) (mB (m2 pU (mA gJ {@2}) .(0)))) (bv 5 6 (m2 dN @2 (m2 fW (m2 jW @0 .(9)) (mA gJ {@2})))<|>sB 7 [1,2,0,3] (lH @6) (λ_=>.ok bF) (66%{(63%{@3,@0}),@1,@2,(m2 rH @4 .(1))})<|>cF (mA cV {.("call"),@5,(mA lG {@7})})) cN<|>dQ 8 (66%{(63%{@0,.(5)}),@1,@2,(m2 rH @3 .(1))})<|>dQ 9 (66%{(63%{@0,.(6)}),@1,@2,(m2 rH @3 .(1))})<|>cF (mA cV {(m2 dN .("+-*<=") (m2 fW (m2 jW @0 .(9)) .(5))),@8,@9})
def Fx(C a:CT):MS:=dQ 4 (m2 dN @1 (m2 fW (m2 jW @0 .(16)) (mA gJ {@1})))<|>dQ 5 (66%{(63%{@0,.(1)}),@1,@2,.(2)})<|>dQ 6 (m2 fW @0 .(16))<|>cI (mB (m2 yW @6 .(4))) (cF (mA cV {.("let"),@4,@5})) cN<|>cI (mB (m2 yW @6 .(6))) (cF (mA cV {.("tell"),@5})) cN<|>cI (@6>>=.(6)) (cF (mA cV {.("get"),@4})) cN<|>cI (@6>>=.(7)) (cF (mA cV {.("give"),@5})) cN<|>cI (pD (@6>>=.(8)) (mB (m2 pU (mA gJ {@3}) .(0)))) (cF (mA cV {.("new"),@4,(m2 dN @3 (m2 fW (m2 jW @0 .(256)) (mA gJ {@3})))})) cN<|>cI (@6>>=.(9)) (cF (mA cV {.("hand"),@4,@5})) cN<|>cI (@6>>=.(10)) (cF (mA cV {.("hand"),@4,(mA cV {.("number"),(m2 cL .(1) (m2 fW (m2 jW @0 .(256)) .(4)))})})) cN<|>cI (@6>>=.(11)) (cF (mA cV {.("await"),@4,(m2 dN @1 (m2 fW (m2 jW @0 .(256)) (mA gJ {@1})))})) cN<|>cI (mB (m2 pU (mA gJ {@2}) .(0))) (bv 7 8 (m2 dN @2 (m2 fW (m2 jW @0 .(256)) (mA gJ {@2})))<|>sB 9 [1,2,0] (lH @8) (λ_=>.ok bF) (66%{(63%{@3,(m2 cL @0 .(2))}),@1,@2,.(1)})<|>cF (mA cV {.("do"),@7,(mA lG {@9})})) cN<|>cF (mA cV {.("tell"),@5})
def Fy(C a:CT):MS:=dQ 5 (m2 fW @0 .(12))<|>cI (mO (@4>>=.(0)) (mB (m2 yW @5 .(9)))) (cF (67%{(m2 jW @0 .(12)),@1,@2,@3})) cN<|>dQ 6 (66%{(63%{@0,.(1)}),@1,@2,.(2)})<|>dQ 7 (69%{(63%{@0,.(2)}),(m2 fW (m2 jW @0 .(12)) .(4)),@1,@2,@3,(m2 rH @4 .(1))})<|>cI (@5>>=.(9)) (cF (mA cV {.("while"),@6,@7})) cN<|>cI (@5>>=.(10)) (dQ 8 (m2 dN @1 (m2 fW (m2 jW @0 .(48)) (mA gJ {@1})))<|>dQ 6 (mA cV {.("<"),(mA cV {.("name"),@8}),(mA cV {.("number"),(m2 fW (m2 jW @0 .(960)) .(9))})})<|>cF (mA cV {.("while"),@6,(m2 cL @7 (mA cV {(mA cV {.("let"),@8,(mA cV {.("+"),(mA cV {.("name"),@8}),(mA cV {.("number"),.(1)})})})}))})) cN<|>cF (mA cV {.("if"),@6,@7,(69%{(63%{@0,.(3)}),(m2 fW (m2 jW @0 .(48)) .(3)),@1,@2,@3,(m2 rH @4 .(1))})})
def z9(C a:CT):MS:=sB 6 [2,3,4,5,0] (lH @1) (λ_=>.ok bF) (Eh C)<|>cF (mA lG {@6})
def Fz(C a:CT):MS:=dQ 3 .("abcdefghijklmnopqrstuvwxyz")<|>cF (m2 cL (m2 cL (m2 cL (ay (64%{@0}) bt (ax .(5))) (m2 dN @3 @1)) (m2 dN @3 @2)) .("z"))
def FA(C a:CT):MS:=dQ 2 (62%{@0,.(0)})<|>dQ 3 (62%{@0,(m2 cL .(1) @1)})<|>cI ((m2 fW @3 .(6))>>=.(5)) (cF (kc .n)) cN<|>sB 4 [2,1] (lH (m2 fW @3 .(4))) (λ_=>.ok bF) (70%{@1,@2,@0})<|>sB 5 [2,1,3] (lH (m2 fW (m2 jW @3 .(6)) .(3))) (λ_=>.ok bF) (mA cV {(70%{@1,@2,(m2 cL .(10) @0)}),(m2 fW (63%{@3,@0}) .(4))})<|>cF (mA cV {(70%{@2,@1,.(25)}),(mA lG {@4}),(mA lG {@5})})
def FC(C a:CT):MS:=qM 3<|>jQ 4 (lH (m2 fW @2 .(7))) (uE C)<|>kD 3<|>cF @3
def FG(C a:CT):MS:=dQ 2 (mA hZ gB)<|>dQ 3 (mA hZ gB)<|>wI 4 5 (fE @1) (jQ 6 (fE @0) fv)<|>cF (mA cV {@2,@3})
def FH(C a:CT):MS:=dQ 4 (62%{@0,.(0)})<|>dQ 5 (62%{@0,(m2 cL .(5) @2)})<|>dQ 6 (70%{@4,@2,.(25)})<|>dQ 7 (72%{@1,@6,(m2 jW @5 .(3))})<|>bv 8 9 (73%{@1,@7})<|>sB 10 [4,2] (lH (m2 cL .(1) (m2 fW @5 .(3)))) (λ_=>.ok bF) (70%{@1,@2,(m2 cL .(5) @0)})<|>sB 11 [4,2,5] (lH (m2 fW (m2 jW @5 .(21)) .(3))) (λ_=>.ok bF) (mA cV {(70%{@1,@2,(m2 cL .(13) @0)}),(m2 fW (63%{@3,@0}) .(4))})<|>cI (mB (m2 (jX bF) (m2 dN @1 @2) (kc .n))) (dQ 8 (m2 cL @8 (mA sG {(m2 dN (m2 dN @1 @2) .(1))}))<|>dQ 11 (m2 cL (mA sG {(m2 dN (m2 dN @1 @2) .(2))}) @11)) cN<|>dQ 8 (m2 cL @8 @10)<|>dQ 9 (m2 cL @9 @11)<|>qM 12<|>wI 13 14 (ry @11) (ox C)<|>kD 12<|>dQ 16 (gY [] (fE @9) (jS (@1>>=.(0))) (jS @0))<|>sB 17 [8,9,16,0,2] (lH @3) (λ_=>.ok bF) (68%{(62%{@4,(m2 cL (m2 cL .(9) @5) (m2 mI .(4) @0))}),@1,@2,@3,.(2)})<|>cF (mA cV {@6,(mA lG {@7}),(mA lG {@10}),(mA lG {@12}),(mA lG {@17})})
def FK(C a:CT):MS:=dQ 1 (m2 jW (62%{@0,.(0)}) .(7))<|>dQ 2 (m2 cL (m2 cL .(1) (m2 fW @1 .(4))) (m2 mI .(4) (mA aF {(m2 dW (m2 fW (m2 jW @1 .(4)) .(6)) .(1))})))<|>dQ 3 (gY [0] (lH @2) (λ_=>.ok bF) (71%{@1,@0}))<|>dQ 4 (mA ca {.(9),(mA cb {.(1),(m2 jW (m2 rH (mA gJ {@0}) .(9)) .(4))})})<|>cF (gY [3,0,4] (lH @2) (λ_=>.ok bF) (mA cV {(m2 dN @1 @0),(74%{@2,@1,@0,@3})}))
def FL(C a:CT):MS:=tB 5 @0<|>cI (kK 5 (mB (m2 (dT bF) @0 @1))) (gQ 4 (xP 4 (mA cV {.("nounit"),@0}))) cN<|>wI 6 7 (fE (m2 dN @2 @0)) uF<|>wI 8 9 (fE (m2 dN (m2 dN @1 @0) .(1))) (N6 C)<|>tB 4 @0<|>gQ 4 (xP 4 (kc .n))
def FM(C a:CT):MS:=qM 4<|>oh 5 4 (C .q76) {@0,@1,@2,@3}<|>cI (mB (m2 (jX bF) @5 (kc .n))) (cF @5) cN<|>kD 4<|>cF (mA cV {.("order"),(mA lG {@4})})
def Aa(C a:CT):MS:=jq (C .q0) (gX a) {@0,@1}
def FQ(C a:CT):MS:=mQ 2 aE<|>mQ 3 aE<|>mQ 4 aE<|>jQ 5 (fE @1) (Ej C)<|>kD 2<|>kD 3<|>kD 4<|>jQ 5 (fE (m2 cL @1 (mA hZ {.("zz")}))) (N7 C)<|>cF (kc (.b bF))
def FR(C a:CT):MS:=dQ 1 (75%{@0})<|>mQ 2 zg<|>sB 3 [] (fE @1) (jS (λ_=>.ok bF)) (jS (1^^^0))<|>wI 4 5 (fE @1) (zu C)<|>cI (kK 2 (jC (mT (79%{@2,@3})))) (cF (kc (.b bJ))) cN<|>jQ 6 (lH (mA ca {.(30),(mA cb {.(3),(m2 rH (mA gJ {@0}) .(9))})})) (N8 C)<|>cF (kc (.b bF))
def FT(C a:CT):MS:=gQ 0 (xP 0 (xS (mB (m2 yW (e9 0) (mA gJ {(eZ 0)}))) (m2 dN (eZ 0) (e9 0)) .("")))
def FV(C a:CT):MS:=dQ 1 (pG 0 (C .q81))<|>nq 0 1<|>gQ 0 (xP 0 @1)
def FW(C a:CT):MS:=lQ 0 2 (kY 0 (C .q82) gB)<|>cI (mB (m2 jR @2 @1)) wL cN
def FX(C a:CT):MS:=gQ 0 (xP 0 (m2 dW (e9 0) (mA gJ {(eZ 0)})))
def Ab(C a:CT):MS:=dQ 2 (mA (C .read) {@1})<|>dQ 3 (2^^^0)<|>cI (kK 0 (jC (mT (jM (C .q86) @0 {@3})))) wL cN<|>cI (kK 0 (mT (17%{@2}))) (gQ 0 (zH 0 (C .q87) {@2})) cN<|>gQ 0 (zH 0 (C .q88) {@2})
def FY(C a:CT):MS:=cI (mO (mB (m2 (dT bJ) @1 (m1 (nK 0) @0))) (mB (m2 (dT bJ) @1 (m1 (nK 2) @0)))) (cF (kc (.b bF))) cN<|>cF (m2 yW (m2 oj (m1 (nK 0) @0) (m1 (nK 2) @0)) (kc Ec))
def Ac(C a:CT):MS:=n6 0 1<|>yD 0 0 (1^^^0) @1<|>yD 0 1 (yZ 0 (1^^^0)) (yZ 0 (m1 (nK 4) @0))<|>gQ 0 (xP 0 (yZ 0 (m1 (nK 4) @0)))
def Ad(C a:CT):MS:=dQ 2 (1^^^0)<|>dQ 3 (yZ 0 (21%{@1,(m1 (nK 0) @0),(jM (C .q90) @0 {@2})}))<|>cI (mB (m2 (jX bF) @3 (kc .n))) wL cN<|>yD 0 2 @2 @1<|>yD 0 3 (yZ 0 @2) (yZ 0 (mA lG {(gY [0] (fE (m2 cL (mA hZ {@2}) (50%{@1}))) (λ_=>.ok bF) (mA cV {@0,(jM (C .q89) @1 {@0})}))}))<|>gQ 0 (xP 0 .(0))
def FZ(C a:CT):MS:=cF (m3 qC (m1 (nK 1) @0) @1 .(0))
def F3(C a:CT):MS:=cF (m3 qC (m1 (nK 0) @0) @1 (kc .n))
def F5(C a:CT):MS:=cF (m3 qC (m1 (nK 2) @0) @1 (kc .n))
def F7(C a:CT):MS:=cF (m3 qC (m1 (nK 3) @0) @1 (mA cV gB))
def Gb(C a:CT):MS:=mQ 2 aE<|>qM 3<|>jh 4 0 2 3 (C .q94) {@1}<|>kD 3<|>cF (xS (mB (m2 (jX bJ) @4 (kc .n))) (mA cV {.("order"),(mA lG {@3})}) @4)
def Ae(C a:CT):MS:=mJ 2 @1 (kc (.b bF))<|>cI (kK 2 (mB (m2 (dT bF) @1 (m1 (nK 2) @0)))) (gQ 2 (xP 2 (mA cV {.("nounit"),@1}))) cN<|>cI (kK 2 (mT (jM (C .q95) @0 {@1}))) (gQ 2 (xP 2 (mA cV {.("old"),@1}))) cN<|>jQ 4 (fE (50%{(m2 dN (m1 (nK 2) @0) @1)})) (N4 C)<|>tB 3 @1<|>gQ 2 (xP 2 (kc .n))
def Gc(C a:CT):MS:=cF (mA oi {(gY [0] (fE (m2 dN (m1 (nK 3) @0) @1)) (jS (λ_=>.ok bF)) (jS (m2 jR (jM (C .q89) @2 {@0}) @1)))})
noncomputable def Bd(C a:CT):CT| .q0=>dS 2 3 (Ek C a)| .q1=>dS 1 1 (El C a)| .q2=>dS 1 1 (Em C a)| .q3=>dS 1 1 (Eo C a)| .q4=>dS 2 2 (Ep C a)| .q6=>dS 2 2 (Er C a)| .q7=>dS 1 1 (Es C a)| .q8=>dS 1 1 (Eu C a)| .q9=>dS 2 3 (Ew C a)| .q10=>dS 2 2 (zw C a)| .q11=>dS 1 1 (Ey C a)| .q12=>dS 2 2 (zx C a)| .q13=>dS 2 6 (Ez C a)| .q14=>dS 1 1 (EA C a)| .q15=>dS 3 3 (EB C a)| .q16=>dS 1 1 (EC C a)| .q17=>dS 1 1 (uH C a)| .q18=>dS 1 1 (ED C a)| .q19=>dS 1 1 (EE C a)| .q20=>dS 1 1 (EF C a)| .q21=>dS 3 5 (EG C a)| .q22=>tz 1 4 (uI C a)| .q23=>je 2 3 6 (zy C a)| .q24=>je 1 2 3 (zz C a)| .q25=>je 2 3 7 (z8 C a)| .q26=>dS 2 6 (EH C a)| .q27=>dS 2 4 (EI C a)| .q28=>dS 2 4 (jt C a)| .q29=>dS 1 3 (EJ C a)| .q30=>dS 1 4 (EK C a)| .q31=>dS 2 2 (EL C a)| .q32=>dS 1 4 (EM C a)| .q33=>dS 1 3 (EO C a)| .read=>dS 1 3 (uJ C a)| .q35=>qN 1 5 (EQ C a)| .q36=>qN 1 6 (ER C a)| .q37=>qN 1 2 (ES C a)| .q38=>qN 1 2 (ET C a)| .q39=>qN 1 4 (EU C a)| .q40=>qN 2 3 (EV C a)| .q41=>qN 2 3 (EW C a)| .q42=>qN 2 5 (EX C a)| .q43=>qN 3 3 (EY C a)| .q44=>qN 2 6 (EZ C a)| .q45=>dS 1 1 (E1 C a)| .q46=>qN 2 3 (E3 C a)| .q47=>qN 1 2 (E4 C a)| .q48=>qN 1 3 (E5 C a)| .q49=>dS 1 1 (E6 C a)| .q50=>dS 1 3 (E8 C a)| .q51=>dS 1 1 (uK C a)| .q52=>dS 1 3 (E9 C a)| .q53=>dS 1 4 (Fb C a)| .q54=>dS 1 3 (Fe C a)| .q55=>dS 1 1 (Ff C a)| .q56=>dS 1 3 (Fg C a)| .q57=>dS 1 4 (Fh C a)| .q58=>dS 2 2 (Fi C a)| .q59=>dS 1 2 (Fj C a)| .q60=>dS 1 3 (Fk C a)| .q61=>dS 2 2 (Fm C a)| .q62=>dS 2 3 (Fo C a)| .q63=>dS 2 3 (Fp C a)| .q64=>dS 1 4 (Fq C a)| .q65=>dS 1 1 (Fv C a)| .q66=>dS 4 10 (Fw C a)| .q67=>dS 4 10 (Fx C a)| .q68=>dS 5 9 (Fy C a)| .q69=>dS 6 7 (z9 C a)| .q70=>dS 3 4 (Fz C a)| .q71=>dS 2 6 (FA C a)| .q72=>dS 3 8 (FC C a)| .q73=>dS 2 7 (FG C a)| .q74=>dS 4 18 (FH C a)| .q75=>dS 1 5 (FK C a)| .q76=>n7 6 11 (FL C a)| .q77=>dS 4 6 (FM C a)| .q78=>dS 2 2 (Aa C a)| .q79=>dS 2 8 (FQ C a)| .law=>dS 1 8 (FR C a)| .q81=>qN 1 1 (FT C a)| .q82=>qN 1 2 (FV C a)| .skip=>qN 2 3 (FW C a)| .q84=>qN 1 1 (FX C a)| .put=>ft 2 4 (Ab C a)| .q86=>dS 2 2 (FY C a)| .q87=>ft 2 2 (Ac C a)| .q88=>ft 2 4 (Ad C a)| .q89=>dS 2 2 (FZ C a)| .q90=>dS 2 2 (F3 C a)| .q91=>dS 2 2 (F5 C a)| .q92=>dS 2 2 (F7 C a)| .q93=>dS 2 5 (Gb C a)| .q94=>n7 4 6 (Ae C a)| .q95=>dS 2 2 (Gc C a)|_=>λ_=>.bad
noncomputable def Ph:bD->CT|n+3=>Bd (Ph (n+2)) (Ph n)|_=>λ_ _=>.bad
noncomputable def tb:Fn->U×fQ| .q0=>("things_of",dO 8)| .q1=>("is_whole",dO 24)| .q2=>("is_number",dO 25)| .q3=>("is_name",dO 26)| .q4=>("is_row",dO 27)| .q5=>("is_row_of",dO 28)| .q6=>("is_row_of_names",dO 29)| .q7=>("all_unlike",dO 30)| .q8=>("first_word",dO 31)| .q9=>("is_expression_within",dO 32)| .q10=>("are_parts_within",dO 33)| .q11=>("is_block",dO 34)| .q12=>("is_block_within",dO 35)| .q13=>("is_statement_within",dO 36)| .q14=>("part_sorts_of",dO 37)| .q15=>("is_part_within",dO 38)| .q16=>("is_deed",dO 39)| .q17=>("is_face",dO 40)| .q18=>("is_told_deed",dO 41)| .q19=>("is_unit",dO 42)| .q20=>("is_take",dO 43)| .q21=>("fault_of",dO 46)| .q22=>("meanings_told",dO 47)| .q23=>("fault_of_takes",dO 48)| .q24=>("fault_of_words",dO 49)| .q25=>("fault_of_deeds",dO 50)| .q26=>("fault_of_blocks",dO 51)| .q27=>("fault_of_block",dO 52)| .q28=>("fault_of_use",dO 53)| .q29=>("uses_of_block",dO 54)| .q30=>("uses_of_statement",dO 55)| .q31=>("uses_of_part",dO 56)| .q32=>("uses_of_expression",dO 57)| .q33=>("uses_of_parts",dO 58)| .read=>("read",dO 61)| .q35=>("read_face",dO 62)| .q36=>("read_unit",dO 63)| .q37=>("read_take",dO 64)| .q38=>("read_declared",dO 65)| .q39=>("read_deed",dO 66)| .q40=>("read_names_until",dO 67)| .q41=>("read_block",dO 68)| .q42=>("read_statement",dO 69)| .q43=>("read_part",dO 70)| .q44=>("read_expression",dO 71)| .q45=>("refuse_too_deep",dO 72)| .q46=>("read_parts",dO 73)| .q47=>("read_name",dO 74)| .q48=>("read_number",dO 75)| .q49=>("are_figures",dO 76)| .q50=>("sources_of",dO 80)| .q51=>("written",dO 82)| .q52=>("face_words",dO 83)| .q53=>("unit_words",dO 84)| .q54=>("declared_words",dO 85)| .q55=>("deed_words",dO 86)| .q56=>("block_words",dO 87)| .q57=>("statement_words",dO 88)| .q58=>("part_words",dO 89)| .q59=>("expression_words",dO 90)| .q60=>("counted_words",dO 91)| .q61=>("_law_cell_at",dO 93)| .q62=>("_law_mixed",dO 94)| .q63=>("_law_drawn",dO 95)| .q64=>("_law_stem",dO 96)| .q65=>("_law_value",dO 97)| .q66=>("_law_expression",dO 98)| .q67=>("_law_short",dO 99)| .q68=>("_law_statement",dO 100)| .q69=>("_law_block",dO 101)| .q70=>("_law_said",dO 102)| .q71=>("_law_told",dO 103)| .q72=>("_law_takes",dO 104)| .q73=>("_law_sorts",dO 105)| .q74=>("_law_member",dO 106)| .q75=>("_law_set",dO 107)| .q76=>("_law_come",dO 108)| .q77=>("_law_joined",dO 109)| .q78=>("_law_things",dO 110)| .q79=>("_law_good",dO 111)| .law=>("law",dO 112)| .q81=>("ahead",rN 60 1)| .q82=>("taken",rN 60 2)| .skip=>("skip",rN 60 3)| .q84=>("is_over",rN 60 4)| .put=>("put",rN 79 1)| .q86=>("has_room_for",rN 79 2)| .q87=>("put_face",rN 79 3)| .q88=>("put_unit",rN 79 4)| .q89=>("key_of",rN 79 5)| .q90=>("face_of",rN 79 6)| .q91=>("unit_of",rN 79 7)| .q92=>("keys_of",rN 79 8)| .q93=>("joined",rN 79 9)| .q94=>("go_through",rN 79 10)| .q95=>("is_old",rN 79 11)
abbrev nm(f:Fn):U:=(tb f).1
abbrev st(f:Fn):fQ:=(tb f).2
abbrev nl(f:Fn):J U:=match f with| .q74=>["_law_script","_law_faces","_law_unit","_law_size","_law_stem_here","_law_number","_law_name","_law_takes_here","_law_words","_law_deeds","_law_own","_law_heads","_law_made","_law_k","_law_head","_law_params","_law_plain","_law_block_here"]| .law=>["_law_script","_law_made","_law_shelf","_law_heads","_law_face","_law_unit","_law_k","_law_number"]|_=>((dU (st f)).names.filter λy=>vk (L y.2)).map (·.1)
abbrev pl(f:Fn):J U:=(iJ (st f)).args.map (·.arg)
noncomputable def uL:J Fn:=[.q0,.q1,.q2,.q3,.q4,.q6,.q7,.q8,.q9,.q10,.q11,.q12,.q13,.q14,.q15,.q16,.q17,.q18,.q19,.q20,.q21,.q26,.q27,.q28,.q29,.q30,.q31,.q32,.q33,.read,.q45,.q49,.q50,.q51,.q52,.q53,.q54,.q55,.q56,.q57,.q58,.q59,.q60,.q61,.q62,.q63,.q64,.q65,.q66,.q67,.q68,.q69,.q70,.q71,.q72,.q73,.q74,.q75,.q77,.q78,.q79,.law]
noncomputable def N9:J (Fn×bD):=[(.q35,0),(.q36,0),(.q37,0),(.q38,0),(.q39,0),(.q40,0),(.q41,0),(.q42,0),(.q43,0),(.q44,0),(.q46,0),(.q47,0),(.q48,0),(.q23,2),(.q24,1),(.q25,2)]
noncomputable def Af:J Fn:=[.q81,.q82,.skip,.q84]
noncomputable def Oe:J Fn:=[.q22]
noncomputable def Ge:J Fn:=[.q86,.q89,.q90,.q91,.q92,.q93,.q95]
noncomputable def Gf:J Fn:=[.put,.q87,.q88]
noncomputable def Gg:J Fn:=[.q94]
noncomputable def Of:J Fn:=[.q76]
abbrev tL(C:CT)(l:J Fn):J (U×(J D->bP D)):=l.map λf=>(nm f,C f)
def Ag:J (U×D):=[kv "GREATEST_NUMBER" oq,kv "KEPT_WORDS" Ea,kv "MOST_AROUND" jr,kv "MOST_DEEDS" uw,kv "MOST_LETTERS" Eb,kv "MOST_NAMES" Ec,kv "MOST_OWNS" Ed,kv "MOST_PARAMS" ux,kv "MOST_PARTS" uy,kv "MOST_TAKES" Ef,kv "MOST_WORDS" uz,kv "NAME_SORTS" cy,kv "PART_SORTS" zM,kv "SIGNS" uD,kv "WORD" aG]
def Og:J (U×J (U×D)):=[kv "STATEMENT_FORMS" qT]
noncomputable def Ah:J U:=["all","any","bool","dict","enumerate","int","isinstance","len","list","max","min","range","set","str","tuple","zip"]
def Oh:J ((bD×bD)×J U):=[((19,17),["shelf"]),((42,15),[]),((93,11),[]),((113,39),[]),((363,17),["row","around"]),((378,15),[]),((551,21),["_law_names","_law_deeds","_law_number","_law_deep"]),((578,21),["_law_names","_law_deeds","_law_number"]),((595,17),["_law_names","_law_deeds","_law_plain","_law_deep","_law_number"]),((605,17),["_law_stem_here","_law_unit"]),((606,17),["_law_stem_here","_law_unit","_law_number"]),((613,45),[]),((625,42),["_law_name"]),((626,42),["_law_name"]),((634,15),["_law_stem_here","_law_unit"]),((635,17),["_law_stem_here","_law_unit","_law_number"]),((643,22),["_law_stem_here","_law_unit"]),((644,21),[]),((647,17),[]),((648,22),["_law_words","_law_deeds","_law_plain","_law_script","_law_unit"]),((653,17),["_law_script"]),((655,11),["_law_faces","_law_script","_law_size"]),((697,35),["_law_units","_law_shelf"]),((705,17),[]),((416,37),["self"]),((452,19),["self"])]
def tA(C:CT):fm:=⟨tL C uL,Ag,Og,Ah,N9.map λq=>(nm q.1,q.2,C q.1),tL C Af,tL C Oe,["WordRow"],tL C Ge,tL C Gf,tL C Gg,tL C Of,["Shelf"],[]⟩
theorem aH{α β:Type}{n:α->U}{v:α->β}:∀{l:J α} {x:U} {m:β},(l.map λa=>(n a,v a)).lookup x=L m->∃a,a∈l/\n a=x/\v a=m
 | [],_,_,h=>by cases h|a::l,x,m,h=>by
  rw[fY,lJ]at h;symm
  .rename_i q;exact⟨a,fF,(kI q).symm,kE h⟩
  let⟨b,c,d⟩:=aH h;calc⟨b,fM _ c,d⟩
structure Tab(P:fH)(w:cD)(K:cG)(mg:U->bR bK)(base:cH)(n:bD)(C:CT):Prop where
 k:ub P w K mg base n (tA C)
 h5:∃f fd,jB K "is_row_of" "is_row_of" s5 f fd/\mg "is_row_of" =L (.ref f)/\jO K fd ["thing","most","holds"] []
variable{P:fH}{w:cD}{K:cG}{mg:U->bR bK}{base:cH}{n:bD}{C:CT}
theorem Tab.c(T:Tab P w K mg base n C)(f)(h:(tL C uL).lookup (nm f)=L (C f):=by kernel_rfl):yX P w K mg base n (nm f) (C f):=T.k.fs _ _ h
structure ju(P:fH)(w:cD)(K:cG)(mg:U->bR bK)(base:cH)(n:bD)(C:CT):Prop where
 k:∀x m,(tL C uL).lookup x=L m->yX P w K mg base n x m
theorem ju.c(T:ju P w K mg base n C)(f)(h:(tL C uL).lookup (nm f)=L (C f):=by kernel_rfl):yX P w K mg base n (nm f) (C f):=T.k _ _ h
theorem Tab.b(T:Tab P w K mg base n C)(x)(h:Ah.contains x=bF:=by kernel_rfl):mg x=bL:=T.k.bs x h
theorem Tab.g(T:Tab P w K mg base n C)(x)(h:Ag.lookup x=L d:=by kernel_rfl):m5 K mg x d:=T.k.cs x d h
abbrev Sc(f:Fn):Prop:=pT (nl f) (pl f) (dU (st f))
def scB(N P:J U)(s:kS):bW:=(isFn s&&(!s.isCoroutine&& !s.isGenerator))&&((decide N.Nodup&&(N.take (~~~P)==P))&&((P.all λx=>lk (s.names.lookup x))&&(s.names.all λy=> !(y.2== .free))))
theorem bN8{P:J U}(h:scB N P s=bF):pT N P s:=by
 let k:=aL (aL h);let n:=aR (aR (aR h));refine⟨?_,nt (aL (aR (aL h))),nt (aR (aR (aL h))),kR (aL (aL (aR h))),kI (aR (aL (aR h))),λx a=>NP (mE.mp (aL (aR (aR h))) x a),λy b z=>?_⟩
 .delta isFn at k;split at k
  .rename_i e;exact e
  cases k
 have:=mE.mp n y b;rw[z]at this;cases this
theorem sI(f):Sc f:=bN8 (by cases f<;>kernel_rfl)
abbrev jv(k:bD)(f:Fn)(a:yE)(A:fm)(rr b:bW)(u:MS):Prop:=(uq (k:=k) (rc 40) ({a with cp:=Oh}.ga (nl f) (dU (st f)).names A rr b) 60 (mG (st f))).map (·.1)=L u
theorem rk(f)(b:yE:={})(F:jB K (nm f) q (st f) a fd)(T:Tab P w K mg base n C)(h:jv n f b (tA C) bJ bJ u:=by kernel_rfl):fC P w K mg base fS (n+1) a fd (pl f) (qK K (dS (pl f).length (nl f).length u)):=C1 F (sI f) (jp (sI f) T.k _ h)
theorem rkN(f)(b:yE:={})(F:jB K (nm f) q (st f) a fd)(T:Tab P w K mg base n C)(h:jv n f b (tA C) bJ bF u:=by kernel_rfl):fC P w K mg base fS (n+1) a fd (pl f) (n4 K (tz (pl f).length (nl f).length u)):=bB5 F (sI f) (jp (sI f) T.k _ h)
theorem jw(f)(b:yE:={})(F:jB K (nm f) q (st f) a fd)(T:Tab P w K mg base n C)(h:jv n f b (tA C) bF bJ u:=by kernel_rfl):fC P w K mg base fS (n+1) a fd (pl f) (zF K 0 (qB (qN (pl f).length (nl f).length u))):=DF F (sI f) Z5 (jp (sI f) T.k _ h)
theorem Gh(f)(b:yE:={})(F:jB K (nm f) q (st f) a fd)(T:Tab P w K mg base n C)(h:jv n f b (tA C) bF bJ u:=by kernel_rfl):fC P w K mg base fS (n+1) a fd (pl f) (zF K 0 (qB (ft (pl f).length (nl f).length u))):=DF F (sI f) bJ9 (jp (sI f) T.k _ h)
theorem Oi(f)(b:yE:={})(F:jB K (nm f) q (st f) a fd)(T:Tab P w K mg base n C)(h:jv n f b (tA C) bF bJ u:=by kernel_rfl):fC P w K mg base fS (n+1) a fd (pl f) (jf K (pH (n7 (pl f).length (nl f).length u))):=bD1 F (sI f) bD2 (jp (sI f) T.k _ h)
theorem Gi(f)(b:yE:={})(F:jB K (nm f) q (st f) a fd)(T:Tab P w K mg base n C)(h:jv n f b (tA C) bF bJ u:=by kernel_rfl):fC P w K mg base fS (n+1) a fd (pl f) (zF K m (qB (je m (pl f).length (nl f).length u))):=DF F (sI f) bB4 (jp (sI f) T.k _ h)
end
section
variable [dG] [Pd]
theorem bO0(v)(a)(m)(t o x):cI (jC (mT (eW 2 v a m {@3}))) (cF (kc (.b bJ))) (cN) [.val t,.val o,.is v a,.val x]=
 ((m [x]).bind yV).bind λb=>if b=bF then .ok (.nx [.val t,.val o,.is v a,.val x])else .ok (.rt (.b bJ)):=by
 let e:eW 2 v a m {@3} [.val t,.val o,.is v a,.val x]=m [x]:=by let d:([.val t,.val o,.is v a,.val x]:cQ)[2]? =L (.is v a):=rfl;delta eW;rw[cK d];rfl
 let c:mT (eW 2 v a m {@3}) [.val t,.val o,.is v a,.val x]=(m [x]).bind yV:=by delta mT;rw[e]
 delta cI jC;rw[c];cases(m [x]).bind yV with
 |ok b=>cases b<;>rfl|bad=>rfl
theorem Oj(v)(a)(m)(t o):∀xs sl,
 ((turns 3 (cI (jC (mT (eW 2 v a m {@3}))) (cF (kc (.b false))) (cN)) xs [.val t,.val o,.is v a,sl]).bind (CY (cF (kc (.b true))))).bind lF=iT m xs
 | [],sl=>rfl|x::r,sl=>by
  rw[turns];show(bP.bind (bP.bind (bP.bind (cI _ _ _ [.val t,.val o,.is v a,.val x]) _) _) _)=_;rw[bO0,iT];cases m [x]with
  |bad=>rfl|ok d=>
   show(bP.bind (bP.bind (bP.bind (bP.bind (yV d) _) _) _) _)=bP.bind (yV d) _;cases yV d with
   |bad=>rfl|ok b=>
    cases b with
    |false=>rfl|true=>calc Oj v a m t o r (.val x)
theorem bO1(C)(v)(c)(m)(ds):nV m ds= .bad\/m8 3 4 v c (uG C v c m) ds=nV m ds:=by
 delta nV;split
 .rename_i d a;right;show((uG C v c m) [.val (.t d),.val (.int a),.is v c,.no]).bind lF=_;delta uG;by_cases h:a<(~~~d:bH)
  .rw[cK h];simp[bO,cI,mO,jC,mT,mB,m1,m2,gv,kc,pY,rd,bP.bind,yV,mA,aC,gB,gJ,pU,xQ,h,cF,CY,lF]
  rw[cX h];let e:cI (mO (jC (mT (m1 (pY "tuple") @0))) (mB (m2 pU (mA gJ {@0}) @1))) (cF (kc (.b bJ))) (cN) [.val (.t d),.val (.int a),.is v c,.no]= .ok (.nx [.val (.t d),.val (.int a),.is v c,.no]):=by
   simp[cI,mO,jC,mT,mB,m1,m2,gv,kc,pY,rd,bP.bind,yV,mA,aC,gB,gJ,pU,xQ,h,cN]
  show bP.bind (bP.bind (cI _ _ _ [.val (.t d),.val (.int a),.is v c,.no]) _) _=_;rw[e];exact Oj v c m (.t d) (.int a) d .no
 calc .inl bQ
theorem Gj{K:cG}(h:aA K v a (nV m) vs H Q E):aA K v a (m8 3 4 v a (uG C v a m)) vs H Q E:=by
 let⟨F,d,c,e,f,g,i,j,b⟩:=h;refine⟨F,d,c,e,f,g,i,j,?_⟩;rcases bO1 C v a m d with z|z
 .rw[z]at b;cases b
 rw[z];calc b
theorem Ol:pT N5 ["thing","most","holds"] (dU s5):=⟨rfl,rfl,rfl,bB,rfl,bB,bB⟩
theorem Gk:jG N5 (dU s5) 0 "thing" :=⟨rfl,yP nB,nB,nB⟩
theorem bO2:jG N5 (dU s5) 1 "most" :=⟨rfl,yP nB,nB,nB⟩
theorem bO3:jG N5 (dU s5) 2 "holds" :=⟨rfl,yP nB,nB,nB⟩
theorem bO4:jG N5 (dU s5) 3 "item" :=⟨rfl,yP nB,nB,nB⟩
theorem Gm{K:cG}{n0:bD}(F:jB K "is_row_of" "is_row_of" s5 f fd)(TT:Tab P w K mg base n0 d)(e:bw P w K mg base n v a m):fC P w K mg base fS (n+1) f fd ["thing","most","holds"] (aA K v a (m8 3 4 v a (uG C v a m))):=by
 refine Yr F Ol hG ?_;intro _ g A c s H E h;refine yc ?_ ?_
 .refine ye ?_ ?_ ?_
  .refine IW.it ?_;refine KC ?_ ?_
   .refine ya ?_;refine yr ?_ ?_
    .rfl
    refine Dk (Dh _) ?_ nB (TT.b "isinstance") nB (TT.b "tuple") vn ?_ ?_ ?_
    .rfl
    .kernel_rfl
    .kernel_rfl
    exact rJ Gk
   refine KB ?_;refine KL KO ?_ ?_ (UY _)
   .refine Dj C7 yh nB (TT.b "len") wc ?_ ?_ ?_ ?_
    .rfl
    .kernel_rfl
    .kernel_rfl
    refine xW ?_ ?_ ?_
    .rfl
    .exact rJ Gk
    exact yU
   exact rJ bO2
  .refine bo ?_;refine eR ?_;exact qr
  exact yb
 refine yc ?_ ?_
 .refine K3 bQ R3 ?_ (iD (i:=3) Ol.nd ?_ (yP ?_) (.inl bQ)) ?_ (iR ?_)
  .refine K2 ?_;exact rJ Gk
  .rfl
  .kernel_rfl
  .refine bo ?_;refine ye ?_ ?_ ?_
   .refine ya ?_;refine yr ?_ ?_
    .rfl
    refine Yp e h bO3 ?_ ?_
    .rfl
    refine xW ?_ ?_ ?_
    .rfl
    .exact rJ bO4
    exact yU
   .refine bo ?_;refine eR ?_;exact qr
   exact yb
  rfl
 refine bo ?_;refine eR ?_;calc qr
end
section
variable [dG] [Pd]
noncomputable def Om:J Fn:=[.q3,.q18,.q16,.q20]
def tW(C a:CT):fm:={tA C with ro:=Om.map λf=>(nm f,nV (a f))}
theorem rkW{K:cG}(f)(F:jB K (nm f) q (st f) a fd)(d:∀b:cH,Tab P w K mg b (n+2) C)(T0:∀b:cH,ju P w K mg b n C')(h:jv (n+2) f {} (tW C C') bJ bJ u:=by kernel_rfl):fC P w K mg base fS (n+3) a fd (pl f) (qK K (dS (pl f).length (nl f).length u)):=
 C1 F (sI f) (jp (sI f) (A:=tW C C') {(d base).k with ro:=λx m h=>(by
  let⟨f,o,rfl,rfl⟩:=aH h;let⟨s,e,l,j,g⟩:=(d base).h5;let t:yX P w K mg base n (nm f) (C' f):=by dsimp[Om,jJ,aU,aZ]at o;rcases o with rfl|rfl|rfl|rfl<;>exact(T0 base).c _
  let⟨r,i,p⟩:=YI t;calc⟨s,r,e,_,(Gm (C:=C) l (d base) (Zv p (k6 n))).imp λv H Q E h=>Gj h,j,l.kp,g,i⟩)} _ h)
end
section
variable [dG] [Pd]
theorem bO6:pT N1 ["thing","around"] (dU s10):=⟨rfl,rfl,rfl,bB,rfl,bB,bB⟩
theorem bO7:jG N1 (dU s10) 0 "thing" :=⟨rfl,yP nB,nB,nB⟩
theorem bO8:(dU s10).names.lookup ("MOST_PARTS" :U)=L .globalImplicit:=by kernel_rfl
theorem bO9:(dU s10).names.lookup ("is_row_of" :U)=L .globalImplicit:=by kernel_rfl
abbrev Ai:cW:=Ma (mG s10)
abbrev bP0:kS:=Mc (dU s10) (mG s10)
theorem bP1:rh "part" "around" bP0:=Md bQ bQ bQ bB nB nB bB
theorem bP2{K:cG}(F:jB K "are_parts_within" "are_parts_within" s10 f fd)(O:∀b:cH,Tab P w K mg b (n+2) C)(T0:∀b:cH,ju P w K mg b n C')(W:yv K mg fd Ai "are_parts_within.<locals>.<lambda>"):fC P w K mg base fS (n+3) f fd ["thing","around"] (qK K (dS 2 2 (zw C C'))):=by
 let TT:=O base;let⟨S,e,N,B,x⟩:=TT.h5;let o:∀(a:cH) (v:V) (t:J (bI×HO)) (m:J D->bP D),bw P w K mg a (n+1) v t m->fC P w K mg a fS (n+2) S e ["thing","most","holds"] (aA K v t (nV m)):=λa v t m T=>(Gm (C:=C) N (O a) T).imp λvs H Q E h=>Gj h
 let⟨c,Pt,k,u,i⟩:=W.ex;refine C0 F bO6 ?_;intro _ Y A I s H E l hr;refine bo ?_;refine eR ?_;refine LC (n:=n) (kr:=n+2) (M:=nV) (px:="part") (y:="around") (j:=1) (lq:="are_parts_within.<locals>.<lambda>") (c:=c) (Pt:=Pt) (f:=S) (fd:=e) (ps:=["thing","most","holds"]) o hr bO9 B N.kp x ?_ ?_ ?_ ?_ ?_ ?_ ?_ u ?_ (λz=>(i _ z).1) ?_ (λz=>(i _ z).2) ?_ ?_ ?_ bP1 ?_ ?_
 .kernel_rfl
 .rfl
 .exact rJ bO7
 .refine Lr bO8 (TT.g "MOST_PARTS") ?_;kernel_rfl
 .rfl
 .kernel_rfl
 .rfl
 .exact l.symm.trans k
 .kernel_rfl
 .rfl
 .intro r;rfl
 .decide+kernel
 .intro d pm cd ct us Z;match us,Z with| [_],_=>rfl
 intro _ q aa X d A2 p s2 H2 G;refine yp ((T0 q).c .q9) G ?_ ?_ ?_ ?_
 .kernel_rfl
 .rfl
 .kernel_rfl
 refine xW ?_ ?_ ?_
 .rfl
 .refine rJ ⟨rfl,yP ?_,?_,?_⟩
  .kernel_rfl
  .kernel_rfl
  kernel_rfl
 refine xW ?_ ?_ ?_
 .rfl
 .refine rJ ⟨rfl,Cc (Cc ?_),?_,?_⟩
  .kernel_rfl
  .kernel_rfl
  kernel_rfl
 calc yU
theorem bP3:pT N2 ["thing","around"] (dU zL):=⟨rfl,rfl,rfl,bB,rfl,bB,bB⟩
theorem Gn:jG N2 (dU zL) 0 "thing" :=⟨rfl,yP nB,nB,nB⟩
theorem bP4:(dU zL).names.lookup ("is_row_of" :U)=L .globalImplicit:=by kernel_rfl
theorem bP5:(dU zL).names.lookup ("isinstance" :U)=L .globalImplicit:=by kernel_rfl
theorem bP6:(dU zL).names.lookup ("len" :U)=L .globalImplicit:=by kernel_rfl
theorem bP7:(dU zL).names.lookup ("tuple" :U)=L .globalImplicit:=by kernel_rfl
abbrev Aj:cW:=Ma (mG zL)
abbrev bP8:kS:=Mc (dU zL) (mG zL)
theorem bP9:rh "statement" "around" bP8:=Md bQ bQ bQ bB nB nB bB
theorem bQ0{K:cG}(F:jB K "is_block_within" "is_block_within" zL f fd)(N:∀b:cH,Tab P w K mg b (n+2) C)(T0:∀b:cH,ju P w K mg b n C')(T:yv K mg fd Aj "is_block_within.<locals>.<lambda>"):fC P w K mg base fS (n+3) f fd ["thing","around"] (qK K (dS 2 2 (zx C C'))):=by
 let TT:=N base;let⟨O,e,I,z,u⟩:=TT.h5;let l:∀(a:cH) (v:V) (r:J (bI×HO)) (m:J D->bP D),bw P w K mg a (n+1) v r m->fC P w K mg a fS (n+2) O e ["thing","most","holds"] (aA K v r (nV m)):=λa v r m S=>(Gm (C:=C) I (N a) S).imp λvs H Q E h=>Gj h
 let⟨c,Pt,i,t,g⟩:=T.ex;refine C0 F bP3 ?_;intro _ X A G s H E k Z;refine yc ?_ ?_
 .refine ye ?_ ?_ ?_
  .refine ya ?_;refine yr ?_ ?_
   .rfl
   refine Dk (Dh _) ?_ bP5 (TT.b "isinstance") bP7 (TT.b "tuple") vn ?_ ?_ ?_
   .rfl
   .kernel_rfl
   .kernel_rfl
   exact rJ Gn
  .refine bo ?_;refine eR ?_;exact qr
  exact yb
 refine bo ?_;refine eR ?_;refine LC (n:=n) (kr:=n+2) (M:=nV) (px:="statement") (y:="around") (j:=1) (lq:="is_block_within.<locals>.<lambda>") (c:=c) (Pt:=Pt) (f:=O) (fd:=e) (ps:=["thing","most","holds"]) l Z bP4 z I.kp u ?_ ?_ ?_ ?_ ?_ ?_ ?_ t ?_ (λx=>(g _ x).1) ?_ (λx=>(g _ x).2) ?_ ?_ ?_ bP9 ?_ ?_
 .kernel_rfl
 .rfl
 .exact rJ Gn
 .refine Dj C7 yh bP6 (TT.b "len") wc ?_ ?_ ?_ ?_
  .rfl
  .kernel_rfl
  .kernel_rfl
  refine xW ?_ ?_ ?_
  .rfl
  .exact rJ Gn
  exact yU
 .rfl
 .kernel_rfl
 .rfl
 .exact k.symm.trans i
 .kernel_rfl
 .rfl
 .intro q;rfl
 .decide+kernel
 .intro d pm cd ct us Y;match us,Y with| [_],_=>rfl
 intro _ p aa W d A2 o s2 H2 B;refine yp ((T0 p).c .q13) B ?_ ?_ ?_ ?_
 .kernel_rfl
 .rfl
 .kernel_rfl
 refine xW ?_ ?_ ?_
 .rfl
 .refine rJ ⟨rfl,yP ?_,?_,?_⟩
  .kernel_rfl
  .kernel_rfl
  kernel_rfl
 refine xW ?_ ?_ ?_
 .rfl
 .refine rJ ⟨rfl,Cc (Cc ?_),?_,?_⟩
  .kernel_rfl
  .kernel_rfl
  kernel_rfl
 calc yU
noncomputable abbrev Go:J bK:=[.type "ValueError",.type "Exception",.type "BaseException",.type "object"]
abbrev On(mg:U->bR bK)(base:cH)(a:bI):Prop:=Cb "NoJoin" a Go "ValueError.__new__" mg base
theorem Ak(h:gX C ds=bF):∃xs z x y,ds= [.shf xs,.str z]/\C .q93 [.shf xs,.str z]= .ok (.t [.str x,.str y])/\(x==("order" :U))=bJ/\(((x.cps.toList++y.cps.toList)++z.cps.toList).all λc=>cE (c<16^8))=bF/\~~~x+ ~~~y+ ~~~z<=1000:=by
 delta gX at h;symm
 .rename_i xs z;symm
  .rename_i x y a;rw[gD,gD]at h;exact⟨xs,z,x,y,rfl,a,by simpa using h.1,h.2.1,kR h.2.2⟩
  cases h
 cases h
theorem bQ1{K:cG}{st:fQ}(S:pT N ps (dU st))(T:ub P w K mg base n A)(b:fZ n (Ar.deeper (nZ qual (dU st) s⁻¹ f cdv)))(a:yE):
 nU n (a.ga N (dU st).names A bJ bJ) (nG CX P w K mg base N qual (dU st) f cdv Ar outer s H E):=
 ⟨T,rfl,rfl,S.kind,S.nd,rfl,b⟩
theorem Gp:Sc .q0:=sI _
theorem vT(i)(x)(h:(nl .q0)[i]? =L x)(l:(dU (st .q0)).names.lookup x=L .local\/(dU (st .q0)).names.lookup x=L .cell)(a:(x==("__debug__" :U))=bJ)(h2:(x==("__classdict__" :U))=bJ):jG (nl .q0) (dU (st .q0)) i x:=⟨h,l.elim .inl λz=>.inr (.inl z),a,h2⟩
theorem gT:(dU (st .q0)).names.lookup ("NoJoin" :U)=L .globalImplicit:=by kernel_rfl
theorem okX{K:cG}(F:jB K "things_of" "things_of" (st .q0) f fd)(T:(∃ds,gX C ds=bF)->Tab P w K mg base n C)(W:On mg base An):fC P w K mg base (cv P w (.ref An)) (n+1) f fd (pl .q0) (D9 K (.ref An) (gX C)):=by
 let⟨oc,od,kV,X,pm,an,cdv,ct,a0,rfl,lk,m⟩:=F.ex;refine Cz lk m Gp (λvs H Q E h=>?_) λA outer s H vs Q E B p=>?_
 .let⟨g,ds,M,I,r,e,v⟩:=h;let⟨_,_,_,_,rfl,_⟩:=Ak e;rw[<-r.length];rfl
 let⟨g,ds,M,I,r,e,v⟩:=p;replace T:=T ⟨ds,e⟩;let⟨d,z,x,y,rfl,Y,Z,l,e4⟩:=Ak e;let G:=bQ1 (CX:=cv P w (.ref An)) (E:=E) (H:=H) (outer:=outer) (s:=s) (Ar:=A) (f:=f) (cdv:=cdv) (qual:="things_of") Gp T.k B {cp:=Oh};let i1:IS (nG (cv P w (.ref An)) P w K mg base (nl .q0) "things_of" (dU (st .q0)) f cdv A outer s H E) ((mG (st .q0)).getD 0 (.Pass ⟨0,0,0,0⟩)) (dQ 2 (jM (C .q93) @0 {@1})):=
  Lv (i:=2) Gp.nd (by rfl) (.inl nB) (by rfl) (.inl rfl) (DY (o:=(rc 40).E _ _) nB _ G)
 let t2:=DY (o:=(rc 40).T _ (match(mG (st .q0)).getD 1 (.Pass ⟨0,0,0,0⟩)with| .If c _ _ _=>c|_=>.Constant .none 0 ⟨0,0,0,0⟩)) (a:=mB (m2 jR (2^^^0) .("order"))) nB ‹Pd› G;refine⟨_,ez (i1 g H) (ez (Ci t2 (l8 (bN4 QE W (by rfl) gT nB (bM5 (zp NW (zp (bM3 (i:=1) (vT 1 _ (by rfl) (.inl nB) nB nB)) (zp NW (zp (bM8 (i:=2) (by have:=B.un;calc oT (hE (wR _ _) (wR _ _)) this) (vT 2 _ (by rfl) (.inl nB) nB nB)) bM4))))))) JH) JH),?_⟩;let l5:=vA;let ee:jM (C .q93) @0 {@1} (wG 3 [.shf d,.str z])= .ok (.t [.str x,.str y]):=Y;let q1:dQ 2 (jM (C .q93) @0 {@1}) (wG 3 [.shf d,.str z])= .ok (.nx #[.shf d,.str z,.t [.str x,.str y]]):=by show((jM (C .q93) @0 {@1} (wG 3 [.shf d,.str z])).bind _)=_;rw[ee];rfl
 refine⟨wG 3 [.shf d,.str z],g,CZ (N:=nl .q0) M I r,?_⟩;rw[q1];intro σ1 O H1 j;refine⟨_,O,j.env,?_⟩;let q2:mB (m2 jR (2^^^0) .("order")) #[.shf d,.str z,.t [.str x,.str y]]= .ok bF:=by show bP.ok (!(x== "order"))=_;rw[Z];rfl
 rw[q2];intro b q S u eb;cases(show bF=b from eb);rw[wb,gD]at l;let q3:uR 1 #[.shf d,.str z,.t [.str x,.str y]]= .ok (10* ~~~z+2):=cK (by rw[l.2,tZ];calc kF bZ);let q4:uT 2 #[.shf d,.str z,.t [.str x,.str y]]= .ok (10*(~~~x+ ~~~y)+20):=cK (by rw[l.1,tZ];calc kF bZ);refine xG ⟨_,q,5+(10* ~~~z+2+(20+(10*(~~~x+ ~~~y)+20+0))),j.env.grow u,?_,bZ,v q S (j.gr.trans u)⟩;delta uA;rw[q3,q4];rfl
theorem scL:Sc .q78:=sI _
theorem gL(x)(h:(dU (st .q78)).names.lookup x=L .globalImplicit):(dU (st .q78)).names.lookup x=L .globalImplicit:=h
theorem okT{K:cG}(h:jB K "things_of" "things_of" (st .q0) b a)(e:mg "things_of" =L (.ref b))(d:jO K a (pl .q0) [])(F:jB K "_law_things" "_law_things" (st .q78) f fd)(T:Tab P w K mg base (n+2) C)(T0:(∃ds,gX C' ds=bF)->Tab P w K mg base n C')(i:On mg base An):
 fC P w K mg base fS (n+3) f fd (pl .q78) (qK K (dS 2 2 (Aa C C'))):=by
 refine C1 F scL ?_;intro _ k A g s H E l;let j:NZ P w K mg base (n+2) "things_of" An (gX C'):=⟨⟨b,a,_,(okX h T0 i).mono bZ,e,h.kp,d⟩⟩;calc bo (bN5 bQ bQ (T.c .q0) j QE i l (gL "things_of" nB) (gL "NoJoin" nB) (by rfl) (λE=>xW (by rfl) (rJ ⟨rfl,.inl nB,nB,nB⟩) (xW (by rfl) (rJ ⟨rfl,.inl nB,nB,nB⟩) yU)) nB nB)
class Ok{α:Type}(r:bP α)(a:vE α):Prop where
 e:r= .ok a
class gC(O:cQ)(i:bD)(s:vE Slot):Prop where
 e:O[i]? =L s
class gS(O:cQ)(i:bD)(s:Slot)(ρ':vE cQ):Prop where
 e:O.set i s=ρ'
class Bq(a b:U)(v:vE bW):Prop where
 e:(a==b)=v
class jT(a b:bH)(v:vE bW):Prop where
 e:cE (a<b)=v
class Iq(a b:bH)(v:vE bW):Prop where
 e:(a==b)=v
class Sz(n:bD):Prop where
 e:n<=cR
section
variable{O ρ':cQ}{s t:Slot}{i j n:bD}{f g h:ME}{x y z d:D}{b c v:bW}{fa:MA}{ds es xs:J D}{m:J D->bP D}{p q:MT}{A B:MS}{fl:Fl}{w u:U}{k l:bH}{R:Ob}
instance:gC (s::O) 0 s:=⟨rfl⟩
instance [q:gC O i s]:gC (t::O) (i+1) s:=⟨q.e⟩
instance:gS (t::O) 0 s (s::O):=⟨rfl⟩
instance [q:gS O i s ρ']:gS (t::O) (i+1) s (t::ρ'):=⟨by rw[Rs,q.e]⟩
instance bindI {α β:Type} {r:bP α} {a:α} {k:α->bP β} {e:β} [q:Ok r a] [o:Ok (k a) e]:Ok (r.bind k) e:=⟨by rw[q.e];calc o.e⟩
instance:Ok (kc d O) d:=⟨rfl⟩
instance [q:gC O i (.val d)]:Ok (gv i O) d:=⟨by delta gv;rw[q.e]⟩
instance m1I {m:D->bP D} [q:Ok (f O) x] [o:Ok (m x) z]:Ok (m1 m f O) z:=⟨by delta m1;rw[q.e];calc o.e⟩
instance m2I {m:D->D->bP D} [q:Ok (f O) x] [r:Ok (g O) y] [o:Ok (m x y) z]:Ok (m2 m f g O) z:=⟨by delta m2;rw[q.e,r.e];calc o.e⟩
instance:Ok (gB O) []:=⟨rfl⟩
instance [q:Ok (f O) x] [r:Ok (fa O) xs]:Ok (aC f fa O) (x::xs):=⟨by delta aC;rw[q.e,r.e];rfl⟩
instance mAI [q:Ok (fa O) xs] [o:Ok (m xs) z]:Ok (mA m fa O) z:=⟨by delta mA;rw[q.e];calc o.e⟩
instance [q:Ok (f O) (.b b)]:Ok (mB f O) b:=⟨by delta mB;rw[q.e];rfl⟩
instance [q:Ok (f O) (.b b)]:Ok (mT f O) b:=⟨by delta mT;rw[q.e];rfl⟩
instance [q:Ok (p O) bF]:Ok (jC p O) bJ:=⟨by delta jC;rw[q.e];rfl⟩
instance [q:Ok (p O) bJ]:Ok (jC p O) bF:=⟨by delta jC;rw[q.e];rfl⟩
instance [o:Ok (p O) bF]:Ok (mO p q O) bF:=⟨by delta mO;rw[o.e];rfl⟩
instance [o:Ok (p O) bJ] [r:Ok (q O) b]:Ok (mO p q O) b:=⟨by delta mO;rw[o.e];calc r.e⟩
instance [o:Ok (p O) bJ]:Ok (pD p q O) bJ:=⟨by delta pD;rw[o.e];rfl⟩
instance [o:Ok (p O) bF] [r:Ok (q O) b]:Ok (pD p q O) b:=⟨by delta pD;rw[o.e];calc r.e⟩
instance [o:Ok (f O) (.b bF)] [r:Ok (g O) x]:Ok (nT f g O) x:=⟨by delta nT;rw[o.e];calc r.e⟩
instance [o:Ok (f O) (.b bJ)]:Ok (nT f g O) (.b bJ):=⟨by delta nT;rw[o.e];rfl⟩
instance [o:Ok (p O) bF] [r:Ok (f O) x]:Ok (xS p f g O) x:=⟨by delta xS;rw[o.e];calc r.e⟩
instance [o:Ok (p O) bJ] [r:Ok (g O) x]:Ok (xS p f g O) x:=⟨by delta xS;rw[o.e];calc r.e⟩
theorem oy(i:bD)(x)(h:xs[i]? =L x):dN (.t xs) (bG (i:bH))= .ok x:=by let e:pB xs (i:bH)=L x:=eI h;dsimp[dN,e]
instance [q:Bq w u v]:Ok (dW (bE w) (bE u)) (.b v):=⟨by rw[<-q.e];rfl⟩
instance [q:Iq k l v]:Ok (dW (bG k) (bG l)) (.b v):=⟨by rw[<-q.e];rfl⟩
instance [q:Bq w u bF]:Ok (jR (bE w) (bE u)) (.b bJ):=⟨jZ (λv=>bP.ok (D.b !v)) q.e⟩
instance [q:Bq w u bJ]:Ok (jR (bE w) (bE u)) (.b bF):=⟨jZ (λv=>bP.ok (D.b !v)) q.e⟩
instance [q:Iq k l bF]:Ok (jR (bG k) (bG l)) (.b bJ):=⟨jZ (λv=>bP.ok (D.b !v)) q.e⟩
instance [q:jT l k v]:Ok (pU (bG k) (bG l)) (.b v):=⟨jZ (λv=>bP.ok (D.b v)) q.e⟩
instance [q:jT k l v]:Ok (yW (bG k) (bG l)) (.b v):=⟨jZ (λv=>bP.ok (D.b v)) q.e⟩
instance [q:jT l k bJ]:Ok (nI (bG k) (bG l)) (.b bF):=⟨jZ (λv=>bP.ok (D.b v)) (kF (Int.not_lt.mp (of_decide_eq_false q.e)))⟩
instance:Ok (cL (bG k) (bG l)) (bG (k+l)):=⟨rfl⟩
instance:Ok (rH (bG k) (bG l)) (bG (k-l)):=⟨rfl⟩
instance [q:Sz (~~~ds+ ~~~es)]:Ok (cL (.l ds) (.l es)) (.l (ds++es)):=⟨cK q.e⟩
instance [q:Sz (~~~ds+ ~~~es)]:Ok (cL (.t ds) (.t es)) (.t (ds++es)):=⟨cK q.e⟩
instance:Ok (gJ [.t ds]) (bG (~~~ds)):=⟨rfl⟩
instance:Ok (gJ [.l ds]) (bG (~~~ds)):=⟨rfl⟩
instance:Ok (sG [.t ds]) (.l ds):=⟨rfl⟩
instance:Ok (lG [.l ds]) (.t ds):=⟨rfl⟩
instance:Ok (iO (.t ds)) ds:=⟨rfl⟩
instance:Ok (iO (.l ds)) ds:=⟨rfl⟩
instance:Ok (dN (.t (d::ds)) (bG 0)) d:=⟨oy 0 d bQ⟩
instance:Ok (dN (.t (x::d::ds)) (bG 1)) d:=⟨oy 1 d bQ⟩
instance:Ok (dN (.t (x::y::d::ds)) (bG 2)) d:=⟨oy 2 d bQ⟩
instance:Ok (dN (.t (x::y::z::d::ds)) (bG 3)) d:=⟨oy 3 d bQ⟩
instance {a:D}:Ok (dN (.t (a::x::y::z::d::ds)) (bG 4)) d:=⟨oy 4 d bQ⟩
theorem sJ(h:n<=1000000):n<=cR:=by have:=vA;lia
theorem oz(h: ~~~ds=n)(l:n<=9):cV ds= .ok (.t ds):=cK (sJ bZ)
theorem uM(h: ~~~ds=n)(l:n<=9):hZ ds= .ok (.l ds):=cK (sJ bZ)
instance:Ok (cV [x]) (.t [x]):=⟨oz (n:=1) bQ hG⟩
instance:Ok (cV [x,y]) (.t [x,y]):=⟨oz (n:=2) bQ hG⟩
instance:Ok (cV [x,y,z]) (.t [x,y,z]):=⟨oz (n:=3) bQ hG⟩
instance {a:D}:Ok (cV [x,y,z,a]) (.t [x,y,z,a]):=⟨oz (n:=4) bQ hG⟩
instance {a e:D}:Ok (cV [x,y,z,a,e]) (.t [x,y,z,a,e]):=⟨oz (n:=5) bQ hG⟩
instance:Ok (cV []) (.t []):=⟨oz (n:=0) bQ hG⟩
instance:Ok (hZ []) (.l []):=⟨uM (n:=0) bQ hG⟩
instance:Ok (hZ [x]) (.l [x]):=⟨uM (n:=1) bQ hG⟩
instance:Ok (hZ [x,y]) (.l [x,y]):=⟨uM (n:=2) bQ hG⟩
instance:Ok (hZ [x,y,z]) (.l [x,y,z]):=⟨uM (n:=3) bQ hG⟩
instance {a:D}:Ok (hZ [x,y,z,a]) (.l [x,y,z,a]):=⟨uM (n:=4) bQ hG⟩
instance:Ok (jX bF .n .n) (.b bJ):=⟨rfl⟩
instance:Ok (jX bJ .n .n) (.b bF):=⟨rfl⟩
instance:Ok (jX bF (.t ds) .n) (.b bF):=⟨rfl⟩
instance:Ok (jX bJ (.t ds) .n) (.b bJ):=⟨rfl⟩
instance:Ok (pY "tuple" (.t ds)) (.b bF):=⟨rfl⟩
instance [q:Ok (f O) d] [o:Ok (iO d) ds]:Ok (fE f O) ds:=⟨by delta fE;rw[q.e];calc o.e⟩
instance:Ok (cN O) (.nx O):=⟨rfl⟩
instance [q:Ok (A O) (.nx ρ')] [o:Ok (B ρ') fl]:Ok (bO A B O) fl:=⟨by delta bO;rw[q.e];calc o.e⟩
instance [q:Ok (A O) (.rt d)]:Ok (bO A B O) (.rt d):=⟨by delta bO;rw[q.e];rfl⟩
instance [q:Ok (f O) d]:Ok (cF f O) (.rt d):=⟨by delta cF;rw[q.e];rfl⟩
instance [q:Ok (f O) d]:Ok (iN f O) (.nx O):=⟨by delta iN;rw[q.e];rfl⟩
instance [q:Ok (f O) d] [o:gS O i (.val d) ρ']:Ok (dQ i f O) (.nx ρ'):=⟨by delta dQ;rw[q.e, <-o.e];rfl⟩
instance [o:Ok (p O) bF] [r:Ok (A O) fl]:Ok (cI p A B O) fl:=⟨by delta cI;rw[o.e];calc r.e⟩
instance [o:Ok (p O) bJ] [r:Ok (B O) fl]:Ok (cI p A B O) fl:=⟨by delta cI;rw[o.e];calc r.e⟩
instance:Ok (lF (.rt d)) d:=⟨rfl⟩
end
instance {w:U}:Bq w w bF:=⟨sL w⟩
class Fu(P:bD->CT):Prop where
 e:∀n,P (n+3)=Bd (P (n+2)) (P n)
theorem fG[F:Fu P]{g:MS}(h:Bd (P (n+2)) (P n) f ds=(g O).bind lF)[q:Ok (g O) (.rt d)]:Ok (P (n+3) f ds) d:=⟨by rw[F.e,h,q.e];rfl⟩
end
section
variable [dG] [Pd]{P:bD->CT} [Fu P]
section
variable{O ρ':cQ}{s t:Slot}{i j n:bD}{f g h:ME}{x y z d:D}{b c v:bW}{fa:MA}{ds es xs:J D}{m m':D->D->bP D}{p q:MT}{A B:MS}{fl:Fl}{w u:U}{k l:bH}
instance [o:Ok (f O) x] [r:Ok (g O) y] [e:Ok (m x y) (.b bF)] [a:Ok (h O) z] [c:Ok (m' y z) d]:Ok (rZ m m' f g h O) d:=⟨by delta rZ;rw[o.e,r.e];dsimp[bP.bind,e.e,xQ,a.e,c.e,rS]⟩
instance [o:Ok (f O) (.b bJ)]:Ok (qu f O) (.b bF):=⟨by delta qu;rw[o.e];rfl⟩
instance:Ok (gJ [bE w]) (bG (~~~w)):=⟨rfl⟩
instance:Ok (pY "str" (bE w)) (.b bF):=⟨rfl⟩
instance:Ok (pY "int" (bG k)) (.b bF):=⟨rfl⟩
instance:Ok (pY "bool" (bG k)) (.b bJ):=⟨rfl⟩
instance:Ok (qv (bG k)) (bG (-k)):=⟨rfl⟩
end
theorem Oo(a b:bD):([a]< [b]) ↔ a<b:=by rw[List.cons_lt_cons_iff];simp
noncomputable def qU(a b c:bD):bW:=cE (a<=c)&&cE (c<=b)
abbrev oA(s t:U):ME:=rZ nI nI (kc (bE s)) @0 (kc (bE t))
theorem bQ5(hs:s.cps.toList= [a])(f:t.cps.toList= [b])(c):oA s t #[bE ⟨[c].toArray⟩]= .ok (.b (qU a b c)):=by
 let d:nI (bE s) (bE ⟨[c].toArray⟩)= .ok (.b (cE (a<=c))):=by
  delta nI;dsimp[hs];rw[show cE (([c]:J bD)< [a])=cE (c<a)from HP.mpr (Oo c a)];by_cases q:c<a
  .rw[kF q,jI bZ];rfl
  rw[jI q,kF bZ];rfl
 let e:nI (bE ⟨[c].toArray⟩) (bE t)= .ok (.b (cE (c<=b))):=by
  delta nI;dsimp[f];rw[show cE (([b]:J bD)< [c])=cE (b<c)from HP.mpr (Oo b c)];by_cases q:b<c
  .rw[kF q,jI bZ];rfl
  rw[jI q,kF bZ];rfl
 delta qU;by_cases h:a<=c<;>simp[rZ,kc,gv,bP.bind,d,e,xQ,h]
theorem Op(hs:s.cps.toList= [a])(e:t.cps.toList= [b]):∀d:J bD,hX (λ_=>.ok bF) (oA s t) [] (d.map λc=>bE ⟨[c].toArray⟩)= .ok ((d.map (qU a b)).map .b)| []=>rfl|c::d=>by rw[fY,hX];show(bP.bind (oA s t #[bE ⟨[c].toArray⟩]) _)=_;rw[bQ5 hs e];show(bP.bind (hX _ _ [] (d.map λc=>bE ⟨[c].toArray⟩)) _)=_;rw[Op hs e d];rfl
theorem Gq:∀a,az (a.map .b)= .ok a| []=>rfl|c::a=>by rw[fY,az,Gq a];rfl
theorem Oq(hs:s.cps.toList= [a])(e:t.cps.toList= [b])(hz: ~~~z<=1000):Ok (mA eV {(gY [] (fE @0) (λ_=>.ok bF) (oA s t))} #[bE z]) (.b (z.cps.toList.all (qU a b))):=by
 let d:gY [] (fE @0) (λ_=>.ok bF) (oA s t) #[bE z]= .ok (.l ((z.cps.toList.map (qU a b)).map .b)):=by show(if(eS z).length<=cR then(hX _ _ _ (eS z)).bind _ else .bad)=_;rw[cK (sJ (by delta eS;rw[cA];calc hE hz hG))];show((hX _ _ [] (z.cps.toList.map λc=>bE ⟨[c].toArray⟩)).bind _)=_;rw[Op hs e];rfl
 let f:Ok (eV [.l ((z.cps.toList.map (qU a b)).map .b)]) (.b (z.cps.toList.all (qU a b))):=⟨by dsimp[eV];rw[Gq];show bP.ok (D.b ((z.cps.toList.map (qU a b)).all id))=_;rw[Iv];rfl⟩;let d:Ok (gY [] (fE @0) (λ_=>.ok bF) (oA s t) #[bE z]) _:=⟨d⟩
 calc bA
theorem jx:∀ts:J U,depL (ts.map bE)=0| []=>rfl|t::ts=>by rw[fY,depL,jx ts];rfl
theorem Gr(z):∀ts:J U,bp (bE z) (ts.map bE)=ts.any (· ==z)| []=>rfl|t::ts=>by show(qL (bE t) (bE z)||bp (bE z) (ts.map bE))=_;rw[Gr z ts,wU];rfl
theorem Al(neg)(z)(ts:J U):dT neg (bE z) (.t (ts.map bE))= .ok (.b (if neg then !ts.any (· ==z)else ts.any (· ==z))):=by dsimp[dT];rw[cK ⟨by rw[jx];decide,by simp[fX]⟩,Gr]
theorem zN{ts:J U}(h:ts.any (· ==z)=b):Ok (dT bJ (bE z) (.t (ts.map bE))) (.b b):=⟨by rw[Al,h];rfl⟩
def tJ(z:U):bW:=z.cps.toList.all (qU 97 122)
def zO(z:U):bW:=tJ z&& !fu.any (· ==z)
class Nm(z:U):Prop where
 l:1<= ~~~z/\~~~z<=8
 e:zO z=bF
class Wl(z:U):Prop where
 l:1<= ~~~z/\~~~z<=8
theorem Os[W:Wl z]:Ok (P (n+3) .q3 [bE z]) (.b (zO z)):=by
 have:=W.l;let f:jT z.length 1 false:=⟨jI bZ⟩;let h:jT 8 z.length false:=⟨jI bZ⟩;let c:=Oq (s:="a") (t:="z") (a:=97) (b:=122) bB bB (z:=z) bZ;let e:Ok (dT true (bE z) (.t (fu.map bE))) _:=⟨Al true z fu⟩;refine fG (g:=Eo (P (n+2)) (P n)) (O:=[_]) bQ (q:=?_);delta Eo Eb Ea zO tJ;cases d:z.cps.toList.all (qU 97 122)with
 |true=>rw[d]at c;calc bA|false=>rw[d]at c;calc bA
instance {z:U} [N:Nm z]:Wl z:=⟨N.l⟩
instance {n:bD} {z:U} [N:Nm z]:Ok (P (n+3) .q3 [bE z]) (.b bF):=⟨by have:=(Os (P:=P) (n:=n) (z:=z)).e;rwa [N.e]at this⟩
class Am(z:U):Prop where
 l:1<= ~~~z/\~~~z<=8
 e:zO z=bJ
instance {n:bD} {z:U} [N:Am z]:Ok (P (n+3) .q3 [bE z]) (.b bJ):=⟨by have:Wl z:=⟨N.l⟩;have:=(Os (P:=P) (n:=n) (z:=z)).e;rwa [N.e]at this⟩
class uN(v:bH):Prop where
 e: -999999<=v/\v<=999999
instance {n:bD} {k:bH}:Ok (P (n+3) .q1 [bG k]) (.b bF):=by
 refine fG (g:=El (P (n+2)) (P n)) (O:= #[bG k]) bQ (q:=?_);delta El
 calc bA
instance {n:bD} {v:bH} [N:uN v]:Ok (P (n+4) .q2 [bG v]) (.b bF):=by
 have:=N.e;let a:jT v (-999999) bJ:=⟨jI bZ⟩;let c:jT 999999 v bJ:=⟨jI bZ⟩;refine fG (g:=Em (P (n+3)) (P (n+1))) (O:=[_]) bQ (q:=?_);delta Em oq
 calc bA
class Ln(ds:J D)(k:bH)(b:vE bW):Prop where
 e:((~~~ds:bH)==k)=b
instance isrow {n:bD} {k:bH} {ds:J D} {b:bW} [ln:Ln ds k b]:Ok (P (n+3) .q4 [.t ds,bG k]) (.b b):=by
 have:Iq (~~~ds:bH) k b:=⟨ln.e⟩;refine fG (g:=Ep (P (n+2)) (P n)) (O:= #[.t ds,bG k]) bQ (q:=?_);delta Ep
 calc bA
instance {a b:D}:Ln [a,b] 2 bF:=⟨rfl⟩
instance {a b c:D}:Ln [a,b,c] 3 bF:=⟨rfl⟩
instance {a b c d:D}:Ln [a,b,c,d] 4 bF:=⟨rfl⟩
instance {a b c d e:D}:Ln [a,b,c,d,e] 5 bF:=⟨rfl⟩
instance {a b c d e:D}:Ln [a,b,c,d,e] 3 bJ:=⟨rfl⟩
instance {n:bD} {w:U} {ds:J D}:Ok (P (n+3) .q8 [.t (bE w::ds)]) (bE w):=by
 have:jT 0 (~~~(bE w::ds):bH) bF:=⟨kF (by rw[dB];lia)⟩;refine fG (g:=Eu (P (n+2)) (P n)) (O:=[_]) bQ (q:=?_);delta Eu
 calc bA
noncomputable abbrev iS(i:bH):U:=wV (zY i)
noncomputable abbrev u3(s x:U)(n:bH):D:=.t [bE s,bE x,bG n]
structure Cn where
 ws:J U
 ds:J (U×bD)
 ks:J U
structure Cn.ok(c:Cn):Prop where
 w:∀z∈c.ws,Nm z
 d:∀p∈c.ds,Nm p.1/\p.2<=4
noncomputable abbrev Rl:=D->J U->J D->Prop
inductive FP(R:Rl):J D->J U->J D->Prop
 |nil:FP R [] [] []
 |cons {x l u xs l' u':_}:R x l u->FP R xs l' u'->FP R (x::xs) (l++l') (u++u')
def jy(w:U):bW:=ou.any (· ==w)
inductive uO(c:Cn)(R:Rl):Rl
 |num {v:bH}:uN v->uO c R (.t [bE "number",bG v]) [iS v] []
 |nam {z:U}:z∈c.ws->uO c R (.t [bE "name",bE z]) [z] [u3 "WORD" z 0]
 |call {z:U} {xs l u:_}:(z,~~~xs)∈c.ds->FP R xs l u->uO c R (.t [bE "call",bE z,.t xs]) ("call" ::z::iS (~~~xs)::l) (u3 "DEED" z 0::(u++ [u3 "COUNT" z (~~~xs)]))
 |bin {s:U} {a b l u l' u':_}:jy s=bF->R a l u->R b l' u'->uO c R (.t [bE s,a,b]) (s::(l++l')) (u++u')
noncomputable def FE(c:Cn):bD->Rl|0=>λ_ _ _=>hI|m+1=>uO c (FE c m)
def qV(s:U):bW:=zt.any (· ==s)
inductive rP(c:Cn)(R:Rl):U->Rl
 |word {z:U}:z∈c.ws->rP c R "WORD" (bE z) [z] [u3 "WORD" z 0]
 |deed {z:U} {k:_}:(z,k)∈c.ds->rP c R "DEED" (bE z) [z] [u3 "DEED" z 0]
 |expr {e l u:_}:FE c 3 e l u->rP c R "EXPRESSION" e l u
 |parts {xs l u:_}: ~~~xs<=4->FP (FE c 3) xs l u->rP c R "PARTS" (.t xs) (iS (~~~xs)::l) u
 |block {xs l u:_}: ~~~xs<=4->FP R xs l u->rP c R "BLOCK" (.t xs) (l++ [wV "end"]) u
inductive FF(c:Cn)(R:Rl):J U->J D->J U->J D->Prop
 |nil:FF c R [] [] [] []
 |part {s x l u f xs l' u':_}:rP c R s x l u->FF c R f xs l' u'->FF c R (s::f) (x::xs) (l++l') (u++u')
 |kept {s f xs l u:_}:qV s=bJ->FF c R f xs l u->FF c R (s::f) xs (s::l) u
inductive Tl(c:Cn):U->J D->J D->Prop
 |dos {z:U} {ys:_}:(z,~~~ys)∈c.ds->Tl c "do" [bE z,.t ys] [u3 "COUNT" z (~~~ys)]
 |new {y:_} {z:U}:(z,0)∈c.ds->Tl c "new" [y,bE z] [u3 "COUNT" z 0]
 |other {w:U} {xs:_}:(w== "do")=bJ->(w== "new")=bJ->Tl c w xs []
inductive Ot(c:Cn)(R:Rl):Rl
 |mk {w:U} {f xs l u v:_}:qT.lookup w=L (.t (f.map bE))->FF c R f xs l u->Tl c w xs v->Ot c R (.t (bE w::xs)) (w::l) (u++v)
noncomputable def FS(c:Cn):bD->Rl|0=>λ_ _ _=>hI|m+1=>Ot c (FS c m)
theorem FP.all(h:FP R xs l u):∀x∈xs,∃l u,R x l u:=by
 induction h with
 |nil=>exact λx a=>by cases a|cons h _ b=>
  intro x a;rcases jJ.mp a with rfl|a
  .exact⟨_,_,h⟩
  calc b x a
theorem uP(h:rP c R s x l u):qV s=bF:=by cases h<;>decide+kernel
theorem Ov(h:FF c R f xs l u): ~~~(f.filter qV)= ~~~xs:=by
 induction h with
 |nil=>rfl|part h _ a=>rw[rC,cK (uP h),dB,dB,a]|kept h _ a=>rw[rC,h];calc a
section
variable{O ρ' ρ1 ρ2 ρ3:cQ}{i j:bD}{f g:ME}{x y z d:D}{ds xs:J D}{A B:MS}{fl:Fl}{k:bH}{m:J D->bP D}
theorem Ox:∀{xs},(∀x∈xs,Ok (m [x]) (.b bF))->Ok (iT m xs) (.b bF)| [],_=>⟨rfl⟩|x::r,h=>⟨by delta iT;rw[(h x fF).e];calc(Ox λy a=>h y (fM _ a)).e⟩
theorem oB(h:∀x∈xs,Ok (m [x]) (.b bF))(a:(~~~xs:bH)<=k):Ok (nV m [.t xs,bG k]) (.b bF):=⟨by show(if k<(~~~xs:bH)then bP.ok (D.b bJ)else iT m xs)=_;rw[cX bZ];calc(Ox h).e⟩
instance [q:Ok (f O) x] [r:Ok (g O) y] [o:gC O j (.val (bG k))] {M:bH->J D->bP D} {b:bW} [e:Ok (M k [x,y]) (.b b)]:Ok (m9 f g j M O) (.b b):=⟨by delta m9 yu;rw[q.e,r.e,o.e];show(bP.bind (M k [x,y]) Do)=_;rw[e.e];rfl⟩
instance {d e:D} {a b:bR bH} {l u:MO} [q:Ok (f O) d] [r:Ok (l O) a] [o:Ok (u O) b] [p:Ok (eU d a b) e]:Ok (ay f l u O) e:=⟨by delta ay;rw[q.e,r.e,o.e];calc p.e⟩
instance:Ok (bt O) bL:=⟨rfl⟩
instance [q:Ok (f O) (bG k)]:Ok (ax f O) (L k):=⟨by delta ax;rw[q.e];rfl⟩
instance cut1:Ok (eU (.t (d::ds)) (L 1) bL) (.t ds):=⟨by show bP.ok (D.t (sD (d::ds) (L 1) bL))=_;delta sD HT.sIx;simp⟩
instance [q:Ok (f O) (.l ds)] [r:Ok (g O) (.t xs)]:Ok (iW f g O) (pairD ds xs):=⟨by delta iW;rw[q.e,r.e];rfl⟩
instance {a:ML} [q:Ok (a O) ds] [r:Ok (turns i A ds O) fl]:Ok (jQ i a A O) fl:=⟨by delta jQ;rw[q.e];calc r.e⟩
instance {a:ML} [q:Ok (a O) ds] [r:Ok (hO i j A ds O) fl]:Ok (wI i j a A O) fl:=⟨by delta wI;rw[q.e];calc r.e⟩
instance:Ok (turns i A [] O) (.nx O):=⟨by delta turns;rfl⟩
instance:Ok (hO i j A [] O) (.nx O):=⟨by delta hO;rfl⟩
instance [q:gS O i (.val x) ρ1] [r:Ok (A ρ1) (.nx ρ2)] [o:Ok (turns i A ds ρ2) fl]:Ok (turns i A (x::ds) O) fl:=⟨by delta turns;rw[q.e,r.e];calc o.e⟩
instance [q:gS O i (.val x) ρ1] [p:gS ρ1 j (.val y) ρ2] [r:Ok (A ρ2) (.nx ρ3)] [o:Ok (hO i j A ds ρ3) fl]:Ok (hO i j A (.t [x,y]::ds) O) fl:=⟨by delta hO;dsimp only;rw[q.e,p.e,r.e];calc o.e⟩
end
section
variable{c:Cn}{R:Rl}{n m:bD}{a:bH}{d x:D}{xs ds:J D}{s w:U}{l f:J U}{u:J D}
instance:Bq "name" "number" bJ:=⟨bB⟩
instance:Bq "call" "number" bJ:=⟨bB⟩
instance:Bq "call" "name" bJ:=⟨bB⟩
theorem Oy(h:∀x∈xs,Ok (P n .q9 [x,bG a]) (.b bF))(d: ~~~xs<=4):Ok (P (n+3) .q10 [.t xs,bG a]) (.b bF):=by
 have:Ok (nV (vP a (mA (P n .q9) {@0,@1})) [.t xs,bG 4]) (.b bF):=oB (λx c=>by have:=h x c;calc(bA:Ok (mA (P n .q9) {@0,@1} #[x,bG a]) _)) bZ;refine fG (g:=zw (P (n+2)) (P n)) (O:= #[.t xs,bG a]) bQ (q:=?_);delta zw uy
 calc bA
class Sg(s:U):Prop where
 e:jy s=bF
theorem jz(h:jy s=bF):s="+" \/s="-" \/s="*" \/s="<" \/s="=" :=by let⟨t,a,e⟩:=wS.mp h;cases kI e;simpa[ou]using a
instance [h:Sg s]:Bq s "number" bJ:=⟨by rcases jz h.e with rfl|rfl|rfl|rfl|rfl<;>decide+kernel⟩
instance [h:Sg s]:Bq s "name" bJ:=⟨by rcases jz h.e with rfl|rfl|rfl|rfl|rfl<;>decide+kernel⟩
instance [h:Sg s]:Bq s "call" bJ:=⟨by rcases jz h.e with rfl|rfl|rfl|rfl|rfl<;>decide+kernel⟩
instance [h:Sg s]:Ok (dT bF (bE s) (.t (ou.map bE))) (.b bJ):=⟨by rw[Al];have:=h.e;delta jy at this;rw[this];rfl⟩
theorem uQ(e:c.ok):∀(m n:bD) (a:bH) {d l u:_},FE c m d l u->a+m<=13->Ok (P (n+4*m+1) .q9 [d,bG a]) (.b bF)
 |0,_,_,_,_,_,h,_=>h.elim|m+1,n,a,d,l,u,h,s=>by
  rw[show n+4*(m+1)+1=(n+4*m+2)+3 from by lia];let t:jT 12 a bJ:=⟨jI bZ⟩;let f:∀d,Ok (Ew (P (n+4*m+4)) (P (n+4*m+2)) #[d,bG a,()]) (.rt (.b bF))->Ok (P (n+4*m+2+3) .q9 [d,bG a]) (.b bF):=λd q=>fG (q:=q) bQ
  apply f;delta Ew jr uD;cases h with
  |num h=>calc bA|nam h=>have:=e.w _ h;calc bA|call h k=>
   let⟨_,j⟩:=e.d _ h;have:=Oy (n:=n+4*m+1) (a:=a+1) (λx o=>by let⟨_,_,h⟩:=k.all x o;calc uQ e m n (a+1) h bZ) j
   calc bA
  |bin h g i=>
   have:Sg _:=⟨h⟩;let p:=uQ e m (n+3) (a+1) g bZ;let r:=uQ e m (n+3) (a+1) i bZ;rw[show n+3+4*m+1=n+4*m+4 from by lia]at p r
   calc bA
end
section
variable{c:Cn}{R:Rl}{n m:bD}{a:bH}{d x:D}{xs ds:J D}{s w:U}{l f:J U}{u:J D}{O:cQ}
instance [h:Ok (gY js fl p g O) d] {i:bD} {a:cQ} [o:gS O i (.val d) a]:Ok (sB i js fl p g O) (.nx a):=by delta sB;calc bA
theorem yF[h:Ok (fl O) xs](a: ~~~xs<=1000000)(q:Ok (hX p g (lN js O) xs) ys):Ok (gY js fl p g O) (.l ys):=⟨by delta gY;rw[h.e];show(if ~~~xs<=cR then _ else _)=_;rw[cK (sJ a),q.e];rfl⟩
class Sf(w:U)(f:vE (J U)):Prop where
 e:qT.lookup w=L (.t (f.map bE))
instance [h:Sf w f]:Ok (aD qT (bE w)) (.t (f.map bE)):=⟨by delta aD;dsimp only;rw[h.e]⟩
instance [h:Sf w f]:Ok (bx qT bF (bE w)) (.b bJ):=⟨by delta bx;dsimp only;rw[h.e];rfl⟩
instance:Ok (dT bJ (bE s) (.t (zt.map bE))) (.b (qV s)):=⟨Al bJ s zt⟩
theorem Oz:∀f:J U,Ok (hX (mB (m2 (dT false) @0 (kc zM))) @0 [] (f.map bE)) ((f.filter qV).map bE)
 | []=>⟨rfl⟩
 |s::f=>⟨by
  let h:=(Oz f).e;let q:Ok (mB (m2 (dT false) @0 (kc zM)) #[bE s]) (qV s):=by delta zM;exact bA
  rw[fY,hX,q.e,rC];cases qV s with
  |true=>show(bP.bind (hX _ _ _ _) _)=_;rw[h];rfl
  |false=>calc h⟩
theorem OA(h:qT.lookup w=L (.t (f.map bE))): ~~~f<=5:=by
 let k:(qT.all λp=>match p.2 with| .t l=>cE (~~~l<=5)|_=>bJ)=bF:=bB
 have:∀l:J (U×D),l.lookup w=L (.t (f.map bE))->(l.all λp=>match p.2 with| .t l=>cE (~~~l<=5)|_=>bJ)=bF-> ~~~f<=5:=by
  intro l;induction l with
  |nil=>exact λh=>by cases h|cons p l a=>
   intro h k;rw[lA,gD]at k;rw[lJ]at h;symm
   .let e:=kE h;let k:=k.1;rw[e]at k;have:=kR k
    rwa [cA]at this
   exact a h k.2
 calc this _ h k
instance sorts_is [h:Sf w f]:Ok (P (n+3) .q14 [bE w]) (.l ((f.filter qV).map bE)):=by
 let k:=OA h.e;have:=yF (O:= #[bE w]) (js:=[]) (fl:=fE (m1 (aD qT) @0)) (xs:=f.map bE) (by rw[cA];lia) (Oz f);refine fG (g:=EA (P (n+2)) (P n)) (O:= #[bE w]) bQ (q:=?_);delta EA
 calc bA
instance:Ok (dT bJ (bE "WORD") (.t (ot.map bE))) (.b bF):=zN bB
instance:Ok (dT bJ (bE "DEED") (.t (ot.map bE))) (.b bF):=zN bB
instance:Ok (dT bJ (bE "EXPRESSION") (.t (ot.map bE))) (.b bJ):=zN bB
instance:Ok (dT bJ (bE "PARTS") (.t (ot.map bE))) (.b bJ):=zN bB
instance:Ok (dT bJ (bE "BLOCK") (.t (ot.map bE))) (.b bJ):=zN bB
instance:Bq "PARTS" "EXPRESSION" bJ:=⟨bB⟩
instance:Bq "BLOCK" "EXPRESSION" bJ:=⟨bB⟩
instance:Bq "BLOCK" "PARTS" bJ:=⟨bB⟩
theorem OB(h:∀x∈xs,Ok (P n .q13 [x,bG a]) (.b bF)):Ok (P (n+3) .q12 [.t xs,bG a]) (.b bF):=by
 have:Ok (nV (vP a (mA (P n .q13) {@0,@1})) [.t xs,bG (~~~xs)]) (.b bF):=oB (λx c=>by have:=h x c;calc(bA:Ok (mA (P n .q13) {@0,@1} #[x,bG a]) _)) (Int.le_refl _);refine fG (g:=zx (P (n+2)) (P n)) (O:= #[.t xs,bG a]) bQ (q:=?_);delta zx
 calc bA
theorem bQ6(e:c.ok)(k:a<=10)(j:∀x l u,R x l u->Ok (P (n+13) .q13 [x,bG a]) (.b bF))(h:rP c R s x l u):Ok (P (n+17) .q15 [bE s,x,bG a]) (.b bF):=by
 refine fG (g:=EB (P (n+16)) (P (n+14))) (O:= #[bE s,x,bG a]) bQ (q:=?_);delta EB cy;cases h with
 |word h=>have:=e.w _ h;calc bA|deed h=>have:=(e.d _ h).1;calc bA|expr h=>have:=uQ (P:=P) e 3 (n+3) a h bZ;calc bA|parts i h=>have:=Oy (P:=P) (n:=n+13) (a:=a) (λx f=>by let⟨_,_,h⟩:=h.all x f;calc uQ e 3 n a h bZ) i;calc bA|block _ h=>have:=OB (P:=P) (n:=n+13) (a:=a) (λx f=>by let⟨_,_,h⟩:=h.all x f;calc j _ _ _ h);calc bA
theorem bQ7(j:∀s x l u,rP c R s x l u->Ok (C .q15 [bE s,x,bG (a+1)]) (.b bF))(h:FF c R f xs l u):∀p q,∃e g,Ok (hO 4 5 (Eg C) (pairD ((f.filter qV).map bE) xs) [X,.val (bG a),Ya,Za,p,q]) (.nx [X,.val (bG a),Ya,Za,e,g]):=by
 induction h with
 |nil=>calc λp q=>⟨p,q,⟨rfl⟩⟩|kept h _ d=>rw[rC,h];calc d| @part s x _ _ f xs _ _ h _ d=>intro p q;rw[rC,cK (uP h)];let⟨e,g,i⟩:=d (.val (bE s)) (.val x);have:=j _ _ _ _ h;calc⟨e,g,(bA:Ok (hO 4 5 (Eg C) (.t [bE s,x]::pairD ((f.filter qV).map bE) xs) _) _)⟩
theorem OC(e:c.ok):∀(m n:bD) (a:bH) {d l u:_},FS c m d l u->a+m<=10->Ok (P (n+5*m+13) .q13 [d,bG a]) (.b bF)
 |0,_,_,_,_,_,h,_=>h.elim|m+1,n,a,_,_,_,.mk (w:=w) (f:=f) (xs:=xs) k j _,o=>by
  let p:jT 12 a bJ:=⟨jI bZ⟩;let r:Sf w f:=⟨k⟩;let v:Iq (~~~(bE w::xs):bH) ((~~~((f.filter qV).map bE):bH)+1) bF:=⟨by rw[cA,Ov j,dB];calc sL _⟩;let⟨y,z,i⟩:=bQ7 (C:=P (n+5*m+17)) (a:=a) (X:=.val (.t (bE w::xs))) (Ya:=.val (bE w)) (Za:=.val (.l ((f.filter qV).map bE))) (λs x l u h=>bQ6 (n:=n+5*m) e bZ (λx l u h=>OC e m n (a+1) h bZ) h) j .no .no;refine fG (n:=n+5*m+15) (g:=Ez (P (n+5*m+17)) (P (n+5*m+15))) (O:= #[.t (bE w::xs),bG a,(),(),(),()]) bQ (q:=?_);delta Ez jr
  calc bA
theorem OD(d:c.ok)(h:FP (FS c m) xs l u)(f:m<=10):Ok (P (n+5*m+17) .q11 [.t xs]) (.b bF):=by
 have:=OB (P:=P) (n:=n+5*m+13) (a:=0) (λx e=>by let⟨_,_,h⟩:=h.all x e;calc OC d m n 0 h bZ);refine fG (n:=n+5*m+14) (g:=Ey (P (n+5*m+16)) (P (n+5*m+14))) (O:= #[.t xs]) bQ (q:=?_);delta Ey
 calc bA
end
noncomputable abbrev dP(p:U×bD):D:=.t [bE p.1,bG p.2]
noncomputable abbrev p2(p:U×U):D:=.t [bE p.1,bE p.2]
noncomputable abbrev kw(s:kO):U:=wV s
def gZ(ws:J U):J U:=ws.flatMap λz=>[kw "word",z]
def wM(ds:J (U×bD)):J U:=ds.flatMap λp=>[kw "deed",p.1,iS p.2]
def mC(tk:J (U×U)):J U:=tk.flatMap λt=>[kw "take",t.2,kw "from",t.1]
inductive FD(c:Cn):Rl
 |mk {z:U} {ps xs l u:_}:Nm z->(∀p∈ps,Nm p)->ps.Nodup-> ~~~ps<=4->FP (FS ⟨c.ws++ps,c.ds,c.ks⟩ 3) xs l u-> ~~~xs<=4->(∀p∈ps,p∉c.ks)->FD c (.t [bE z,.t (ps.map bE),.t [],.t xs]) (kw "deed" ::z::kw "with" ::(ps++(kw "own" ::kw "do" ::(l++ [kw "end"])))) [dP (z,~~~ps)]
structure Fc where
 nm:U
 ws:J U
 ds:J (U×bD)
def Fc.d(f:Fc):D:=.t [bE f.nm,.t (f.ws.map bE),.t (f.ds.map dP)]
def Fc.w(f:Fc):J U:=kw "face" ::f.nm::(gZ f.ws++(wM f.ds++ [kw "done"]))
structure Fc.ok(f:Fc):Prop where
 n:Nm f.nm
 w:∀z∈f.ws,Nm z
 d:∀p∈f.ds,Nm p.1/\p.2<=4
 u:(f.ws++f.ds.map (·.1)).Nodup
 lw: ~~~f.ws<=6
 ld: ~~~f.ds<=6
inductive FU(c:Cn):D->J U->Prop
 |mk {z:U} {tk ow dds l ks xs l' u:_}:Nm z->(∀t∈tk,Nm t.1/\Nm t.2)-> ~~~tk<=8->(∀z∈ow,Nm z)-> ~~~ow<=6->FP (FD c) dds l ks-> ~~~dds<=6->FP (FS c 3) xs l' u-> ~~~xs<=9->FU c (.t [bE z,.t (tk.map p2),.t (ow.map bE),.t dds,.t xs]) (kw "unit" ::z::(mC tk++(gZ ow++(l++(kw "do" ::(l'++ [kw "end",kw "done"]))))))
theorem Ao{zs:J U}(h:∀z∈zs,Nm z)(d: ~~~zs<=k):Ok (P (n+6) .q6 [.t (zs.map bE),bG k]) (.b bF):=by
 have:Ok (nV (P (n+3) .q3) [.t (zs.map bE),bG k]) (.b bF):=oB (λx a=>by let⟨z,c,rfl⟩:=gO.mp a;have:=h z c;calc bA) (by rw[cA];lia);refine fG (g:=Er (P (n+5)) (P (n+3))) (O:= #[.t (zs.map bE),bG k]) rfl (q:=?_);delta Er
 calc bA
theorem OE:∀(zs acc:J U),zs.Nodup->(∀z∈zs,z∉acc)->zs.foldl yA acc=acc++zs
 | [],acc,_,_=>by simp|z::zs,acc,h,k=>by
  let h:=tV.mp h;let e:yA acc z=acc++ [z]:=by delta yA;rw[cX];intro q;let⟨y,a,e⟩:=wS.mp q;exact k z fF (kI e▸a)
  rw[ef,e,OE zs _ h.2 λy a q=>by
   rcases hV.mp q with q|q
   .exact k y (fM _ a) q
   calc h.1 (mM.mp q▸a)]
  simp
theorem OF(zs):ce (zs.map bE)=L zs:=by
 induction zs with
 |nil=>rfl|cons z zs a=>rw[fY,ce,a];rfl
theorem OG{zs:J U}{q:J D->D}(a:q= .t\/q= .l)(h:zs.Nodup)(d: ~~~zs<=900):Ok (P (n+3) .q7 [q (zs.map bE)]) (.b bF):=by
 let e:Ok (ni (q (zs.map bE))) (bG (~~~zs)):=⟨by rcases a with rfl|rfl<;>(dsimp[ni,se,OF,r8];rw[OE zs [] h (λ_ _ q=>by cases q)];simp;lia)⟩;let c:Ok (gJ [q (zs.map bE)]) (bG (~~~zs)):=⟨by rcases a with rfl|rfl<;>simp[gJ]⟩;have:Iq (~~~zs:bH) zs.length bF:=⟨sL _⟩;refine fG (g:=Es (P (n+2)) (P n)) (O:= #[q (zs.map bE)]) rfl (q:=?_);delta Es
 calc bA
theorem Cn.ok.put{c:Cn}(a:c.ok)(h:∀p∈zs,Nm p):Cn.ok ⟨c.ws++zs,c.ds,c.ks⟩:=⟨λz b=>(hV.mp b).elim (a.w z) (h z),a.d⟩
theorem bQ8(j:c.ok)(h:FD c x l u):Ok (P (n+33) .q16 [x]) (.b bF):=by
 cases h with
 | @mk z a xs l u m d e f i o _=>
  let p:=Ao (P:=P) (n:=n+26) (k:=4) d f;let r:Ok (P (n+32) .q6 [.t [],bG 6]) (.b bF):=Ao (n:=n+26) (zs:=[]) (k:=6) (λ_ h=>by cases h) hG;let s:=OG (P:=P) (n:=n+29) (.inl bQ) e bZ;let v:=OD (P:=P) (n:=n) (j.put d) i hG;let w:Ok (cL (.t (a.map bE)) (.t [])) (.t (a.map bE)):=⟨by show(if _ then _ else _)=_;rw[cK (sJ (by rw[cA,mF];lia)),jF]⟩;refine fG (n:=n+30) (g:=EC (P (n+32)) (P (n+30))) (O:= #[.t [bE z,.t (a.map bE),.t [],.t xs]]) bQ (q:=?_);delta EC ux Ed
  calc bA
theorem bQ9(h:Nm p.1/\p.2<=4):Ok (P (n+4) .q18 [dP p]) (.b bF):=by
 have:=h.1;let a:jT p.2 0 bJ:=⟨jI bZ⟩;let c:jT 4 p.2 bJ:=⟨jI bZ⟩;refine fG (n:=n+1) (g:=ED (P (n+3)) (P (n+1))) (O:= #[dP p]) bQ (q:=?_);delta ED ux
 calc bA
theorem bR0(h:Nm t.1/\Nm t.2):Ok (P (n+4) .q20 [p2 t]) (.b bF):=by
 have:=h.1;have:=h.2;refine fG (n:=n+1) (g:=EF (P (n+3)) (P (n+1))) (O:= #[p2 t]) bQ (q:=?_);delta EF
 calc bA
theorem Ap{g:ME}{rest:cQ}{h:D->D}:∀{xs},(∀x∈xs,Ok (g (.val x::rest)) (h x))->Ok (hX (λ_=>.ok bF) g rest xs) (xs.map h)| [],_=>⟨rfl⟩|x::xs,k=>⟨by rw[hX];show(bP.bind (g (.val x::rest)) _)=_;rw[(k x fF).e];show(bP.bind (hX _ _ _ xs) _)=_;rw[(Ap λy a=>k y (fM _ a)).e];rfl⟩
noncomputable def hdD:D->D| .t (x::_)=>x|_=>.n
theorem OH{f:Fc}(h:f.ok):Ok (P (n+9) .q17 [f.d]) (.b bF):=by
 have:=h.n;let i:=Ao (P:=P) (n:=n+2) (k:=6) h.w h.lw;let j:Ok (nV (P (n+6) .q18) [.t (f.ds.map dP),bG 6]) (.b bF):=oB (λx a=>by let⟨p,c,rfl⟩:=gO.mp a;calc bQ9 (n:=n+2) (h.d p c)) (by rw[cA];have:=h.ld;lia);let e:Ok (gY [] (fE (0^^^2)) (λ_=>.ok bF) (0^^^0) #[f.d]) (.l ((f.ds.map (·.1)).map bE)):=by
  let k:Ok (fE (0^^^2) #[f.d]) (f.ds.map dP):=by delta Fc.d;exact bA
  have:=Ap (g:=m2 dN @0 .(0)) (rest:=[]) (h:=hdD) (xs:=f.ds.map dP) (λx a=>by let⟨p,c,rfl⟩:=gO.mp a;calc(bA:Ok (m2 dN @0 .(0) #[dP p]) (bE p.1)));rw[show(f.ds.map (·.1)).map bE=(f.ds.map dP).map hdD from by rw[kM,kM];rfl];exact yF (by rw[cA];have:=h.ld;lia) this
 let m:Ok (cL (.l (f.ws.map bE)) (.l ((f.ds.map (·.1)).map bE))) (.l ((f.ws++f.ds.map (·.1)).map bE)):=⟨by show(if _ then _ else _)=_;rw[cK (sJ (by have:=h.lw;have:=h.ld;dsimp[cA];lia)),lK]⟩;let o:=OG (P:=P) (n:=n+5) (.inr rfl) h.u (by have:=h.lw;have:=h.ld;dsimp[cO,cA];lia);refine fG (n:=n+6) (g:=uH (P (n+8)) (P (n+6))) (O:= #[f.d]) rfl (q:=?_);delta uH uz uw;delta Fc.d at e|-
 calc bA
theorem OI(f:c.ok)(h:FU c d l):Ok (P (n+36) .q19 [d]) (.b bF)/\Ok (P (n+36) .q17 [d]) (.b bJ):=by
 cases h with
 | @mk z v K a l H xs I u w i y j m o A r B=>
  let C:Ok (nV (P (n+33) .q20) [.t (v.map p2),bG 8]) (.b bF):=oB (λx e=>by let⟨p,s,rfl⟩:=gO.mp e;calc bR0 (n:=n+29) (i p s)) (by rw[cA];lia);let E:=Ao (P:=P) (n:=n+29) (k:=6) j m;let F:Ok (nV (P (n+33) .q16) [.t a,bG 6]) (.b bF):=oB (λx e=>by let⟨_,_,h⟩:=o.all x e;calc bQ8 f h) bZ;let G:=OD (P:=P) (n:=n+3) f r hG;constructor
  .refine fG (n:=n+33) (g:=EE (P (n+35)) (P (n+33))) (O:= #[_]) rfl (q:=?_);delta EE Ef uz uw
   exact bA
  refine fG (n:=n+33) (g:=uH (P (n+35)) (P (n+33))) (O:= #[_]) rfl (q:=?_);delta uH
  calc bA
class Od(s:Ob)(d:vE D):Prop where
 e:s.dat=L d
section
variable{O ρ':cQ}{i j:bD}{f g:ME}{x y d:D}{ds es xs:J D}{fl:Fl}{k l:bH}{fa:MA}{s:Ob}{h:MN}
instance:Od (.l ds) (.l ds):=⟨rfl⟩
instance {T:R.Tab}:Od (.tab T) (cJ T):=⟨rfl⟩
instance [o:gS O i (.own []) ρ']:Ok (qM i O) (.nx ρ'):=⟨by delta qM;rw[o.e]⟩
instance [q:Ok (f O) (.l es)] [r:gC O i (.own ds)] [z:Sz (~~~ds+ ~~~es)] [o:gS O i (.own (ds++es)) ρ']:Ok (lP i f O) (.nx ρ'):=⟨by delta lP;rw[q.e];show sj i O (.l es)=_;delta sj;rw[r.e];dsimp only;rw[cK z.e,o.e]⟩
instance [q:Ok (f O) d] [r:gC O i (.own ds)] [z:Sz (~~~ds+1)] [o:gS O i (.own (ds++ [d])) ρ']:Ok (tB i f O) (.nx ρ'):=⟨by delta tB;rw[r.e];dsimp only;rw[q.e];show(if _ then _ else _)=_;rw[cK (show ~~~ds<cR from z.e),o.e]⟩
instance [r:gC O i (.obj 0 s)] [q:Od s d] [o:gS O i (.val d) ρ']:Ok (kD i O) (.nx ρ'):=⟨by let e:=q.e;delta kD;rw[r.e];dsimp[e];rw[o.e]⟩
instance [q:Ok (h O) s] [o:gS O i (.obj 0 s) ρ']:Ok (mQ i h O) (.nx ρ'):=⟨by delta mQ;rw[q.e, <-o.e];rfl⟩
instance [q:Ok (fa O) ds] [z:Sz (~~~ds)]:Ok (eY fa O) (.l ds):=⟨by delta eY;rw[q.e];calc cK z.e⟩
instance [q:Ok (f O) (.l ds)] [r:Ok (g O) (.l es)] [z:Sz (~~~ds+ ~~~es)]:Ok (si f g O) (.l (ds++es)):=⟨by delta si;rw[q.e,r.e];calc cK z.e⟩
instance [q:Ok (f O) (bG l)] [r:gC O i (.val (bG k))] [o:gS O i (.val (bG (k+l))) ρ']:Ok (nj i f O) (.nx ρ'):=⟨by delta nj;rw[q.e];show sr i O (bG l)=_;delta sr;rw[r.e];dsimp only;rw[o.e]⟩
instance:Sz (~~~([x]:J D)):=⟨sJ (by show 1<=_;decide)⟩
instance:Sz (~~~([x,y]:J D)):=⟨sJ (by show 2<=_;decide)⟩
theorem Gs(h:k.natAbs<10000000):Ok (xT [bG k]) (bE (iS k)):=⟨by delta xT;dsimp only;rw[cK bZ]⟩
end
noncomputable abbrev oW:J U->J D->J D:=λl _=>l.map bE
noncomputable abbrev oU:J U->J D->J D:=λ_ u=>u
class Ou(o:J U->J D->J D):Prop where
 a:∀l l' u u',o (l++l') (u++u')=o l u++o l' u'
 z:o [] []= []
instance:Ou oW:=⟨λ_ _ _ _=>lK,rfl⟩
instance:Ou oU:=⟨λ_ _ _ _=>rfl,rfl⟩
theorem fw[Oa:Ou o]{r:J D->Slot->cQ}(c:∀acc s x,(r acc s).set i (.val x)=r acc (.val x))(b:∀x l u acc,R x l u-> ~~~acc+ ~~~(o l u)<=1000000->Ok (A (r acc (.val x))) (.nx (r (acc++o l u) (.val x))))(h:FP R xs l u):∀acc s,~~~acc+ ~~~(o l u)<=1000000->∃s',Ok (turns i A xs (r acc s)) (.nx (r (acc++o l u) s')):=by
 induction h with
 |nil=>calc λacc s _=>⟨s,by rw[Oa.z,jF];calc bA⟩| @cons x l u xs e f h _ d=>intro acc s k;rw[Oa.a,cO]at k;have:=b _ _ _ acc h bZ;let⟨s',q⟩:=d (acc++o l u) (.val x) (by rw[cO];lia);rw[Oa.a, <-nQ];have:gS (r acc s) i (.val x) (r acc (.val x)):=⟨c _ _ _⟩;calc⟨s',bA⟩
theorem jD(h:a+b<=1000000):Sz (a+b):=⟨sJ h⟩
theorem lm{l:J U}: ~~~(l.map bE)= ~~~l:=cA ..
theorem OJ(h:FP R xs l u)(b:∀x l u,R x l u-> ~~~l<=1000000->Ok (P (n+2) .q59 [x]) (.l (l.map bE)))(c: ~~~l+1<=1000000)(d: ~~~xs<=4):Ok (P (n+3) .q60 [.t xs]) (.l ((iS (~~~xs)::l).map bE)):=by
 have:=Gs (k:=xs.length) bZ
 let⟨e,q⟩:=fw (o:=oW) (r:=λa s=>[.val (.t xs),.own a,s]) (i:=2) (A:=lP 1 (mA (P (n+2) .q59) {@2})) (λ_ _ _=>rfl) (λx l u a h k=>by
  have:=b _ _ _ h (by rw[lm]at k;lia);have:=jD k
  calc bA) h [bE (iS (~~~xs))] .no (by rw[lm];show 1+_<=_;lia)
 refine fG (g:=Fk (P (n+2)) (P n)) (O:= #[.t xs,(),()]) bQ (q:=?_);delta Fk
 calc bA
theorem qW{l':J U}(c:a=l.map bE)(d:b=l'.map bE)(h: ~~~(l++l')<=1000000):Ok (cL (.l a) (.l b)) (.l ((l++l').map bE)):=⟨by subst c d;show(if _ then _ else _)=_;rw[cK (sJ (by rw[lm,lm, <-cO];calc h)),lK]⟩
theorem uS(g:c.ok):∀m n {d l u},FE c m d l u-> ~~~l<=1000000->Ok (P (n+2*m+2) .q59 [d]) (.l (l.map bE))
 |0,_,_,_,_,h,_=>h.elim|m+1,n,d,l,u,h,f=>by
  let i:∀d l,Ok (Fj (P (n+2*m+3)) (P (n+2*m+1)) #[d,()]) (.rt (.l l))->Ok (P (n+2*m+1+3) .q59 [d]) (.l l):=λd l q=>fG (q:=q) bQ
  apply i;delta Fj;cases h with
  | @num v h=>have:=Gs (k:=v) (by have:=h.e;lia);calc bA|nam h=>calc bA| @call z xs l u h r=>
   let⟨_,p⟩:=g.d _ h;let f: ~~~l+3<=1000000:=f;have:=OJ (P:=P) (n:=n+2*m) r (λx l u h k=>uS g m n h k) bZ p;have:Ok (cL (.l [bE "call",bE z]) (.l ((iS (~~~xs)::l).map bE))) (.l ((kw "call" ::z::iS (~~~xs)::l).map bE)):=qW (l:=[kw "call",z]) bQ bQ f
   calc bA
  | @bin s a b l u l' B h j o=>
   let f: ~~~(l++l')+1<=1000000:=f;rw[cO]at f;have:Sg _:=⟨h⟩;let t:=uS g m (n+1) j bZ;let w:=uS g m (n+1) o bZ;rw[show n+1+2*m+2=n+2*m+3 from by lia]at t w;let y:Ok (cL (.l [bE s]) (.l (l.map bE))) (.l ((s::l).map bE)):=qW (l:=[s]) bQ bQ (by show ~~~l+1<=_;lia);let A:Ok (cL (.l ((s::l).map bE)) (.l (l'.map bE))) (.l ((s::(l++l')).map bE)):=qW (l:=s::l) bQ bQ (by show(l++l').length+1<=_;rw[cO];lia)
   calc bA
theorem Gu(h:FP R xs l u)(b:∀x l u,R x l u-> ~~~l<=1000000->Ok (P (n+2) .q57 [x]) (.l (l.map bE)))(c: ~~~l+1<=1000000):Ok (P (n+3) .q56 [.t xs]) (.l ((l++ [kw "end"]).map bE)):=by
 let⟨d,q⟩:=fw (o:=oW) (r:=λa s=>[.val (.t xs),.own a,s]) (i:=2) (A:=lP 1 (mA (P (n+2) .q57) {@2})) (λ_ _ _=>rfl) (λx l u a h k=>by
  have:=b _ _ _ h (by rw[lm]at k;lia);have:=jD k
  calc bA) h [] .no (by rw[lm];show 0+_<=_;lia)
 replace q:Ok (turns 2 _ xs [.val (.t xs),.own [],.no]) (.nx [.val (.t xs),.own (l.map bE),d]):=q;let e:Ok (cL (.l (l.map bE)) (.l [bE "end"])) (.l ((l++ [kw "end"]).map bE)):=qW (l':=[kw "end"]) bQ bQ (by rw[cO];calc c);refine fG (g:=Fg (P (n+2)) (P n)) (O:= #[.t xs,(),()]) bQ (q:=?_);delta Fg
 calc bA
theorem bR1(b:c.ok)(e:∀x l u,R x l u-> ~~~l<=1000000->Ok (P (n+9) .q57 [x]) (.l (l.map bE)))(h:rP c R s x l u)(a: ~~~l<=1000000):Ok (P (n+11) .q58 [bE s,x]) (.l (l.map bE)):=by
 refine fG (n:=n+8) (g:=Fi (P (n+10)) (P (n+8))) (O:= #[bE s,x]) bQ (q:=?_);delta Fi cy;cases h with
 |word h=>calc bA|deed h=>calc bA|expr h=>have:=uS (P:=P) b 3 (n+2) h a;calc bA|parts d h=>have:=OJ (P:=P) (n:=n+7) h (λx l u h k=>uS b 3 (n+1) h k) a d;calc bA|block _ h=>have:=Gu (P:=P) (n:=n+7) h e (by rw[cO]at a;calc a);calc bA
theorem bR2(m:∀s x l u,rP c R s x l u-> ~~~l<=1000000->Ok (C .q58 [bE s,x]) (.l (l.map bE)))(h:FF c R f xs l u):∀(p:bD) acc s,ts.drop p=xs-> ~~~acc+ ~~~l<=1000000->∃k s',Ok (turns 3 (wB C) (f.map bE) [.val (.t ts),.own acc,.val (bG p),s]) (.nx [.val (.t ts),.own (acc++l.map bE),k,s']):=by
 induction h with
 |nil=>calc λp acc s _ _=>⟨_,s,by rw[zU,jF];calc⟨rfl⟩⟩| @kept s f xs l u h _ e=>
  intro p acc o d k;rw[dB]at k;let⟨g,s',q⟩:=e p (acc++ [bE s]) (.val (bE s)) d (by rw[cO];show ~~~acc+1+_<=_;lia);have:=jD (a:=acc.length) (b:=1) bZ;let n:Ok (dT bJ (bE s) zM) (.b bJ):=zN h;refine⟨g,s',?_⟩;rw[fY,fY,show acc++(bE s::l.map bE)=acc++ [bE s]++l.map bE from by simp]
  calc bA
 | @part s x l u f xs l' v h _ e=>
  intro p acc o d k;rw[cO]at k;have:=m _ _ _ _ h bZ;let⟨g,s',q⟩:=e (p+1) (acc++l.map bE) (.val (bE s)) (by rw[<-HX,d];rfl) (by rw[cO,lm];lia);rw[show((p+1:bD):bH)=(p:bH)+1 from bQ]at q;have:=jD (a:=acc.length) (b:=(l.map bE).length) (by rw[lm];lia);let n:Ok (dT bJ (bE s) zM) (.b bF):=zN (uP h);let r:Ok (dN (.t ts) (bG p)) x:=⟨oy p x (by have:=Rv (xs:=ts) (i:=p) (j:=0);rw[d]at this;simpa using this.symm)⟩;refine⟨g,s',?_⟩;rw[fY,lK, <-nQ]
  calc bA
theorem Gv(a:c.ok):∀m n {d l u},FS c m d l u-> ~~~l<=1000000->Ok (P (n+3*m+9) .q57 [d]) (.l (l.map bE))
 |0,_,_,_,_,h,_=>h.elim|m+1,n,_,_,_,.mk (w:=w) (f:=f) (xs:=xs) (l:=l) j e _,b=>by
  let b: ~~~l+1<=1000000:=b;let o:Sf w f:=⟨j⟩;let⟨p,r,i⟩:=bR2 (C:=P (n+3*m+11)) (ts:=bE w::xs) (λs x l u h k=>bR1 (n:=n+3*m) a (λx l u h k=>Gv a m n h k) h k) e 1 [bE w] .no bQ (by show 1+_<=_;lia);refine fG (n:=n+3*m+9) (g:=Fh (P (n+3*m+11)) (P (n+3*m+9))) (O:= #[.t (bE w::xs),(),(),()]) bQ (q:=?_);delta Fh
  calc bA
noncomputable def Mp{α:Type}(Q:α->Prop)(f:α->D)(g:α->J U):Rl:=λx l u=>∃a,Q a/\x=f a/\l=g a/\u= []
theorem fy{α:Type}{Q:α->Prop}{f:α->D}{g:α->J U}:∀{l:J α},(∀a∈l,Q a)->FP (Mp Q f g) (l.map f) (l.flatMap g) []| [],_=>.nil|a::l,h=>by rw[Bc];calc FP.cons (u:=[]) ⟨a,h a fF,rfl,rfl,rfl⟩ (fy λb c=>h b (fM _ c))
theorem OK(c: ~~~(gZ zs)<=1000000):Ok (P (n+3) .q54 [.t (zs.map bE)]) (.l ((gZ zs).map bE)):=by
 let⟨b,q⟩:=fw (o:=oW) (r:=λa s=>[.val (.t (zs.map bE)),.own a,s]) (i:=2) (A:=lP 1 (mA hZ {.("word"),@2})) (λ_ _ _=>rfl) (λx l u a h k=>by let⟨z,_,rfl,rfl,rfl⟩:=h;have:Sz (~~~a+ [bE (kw "word"),bE z].length):=jD k;calc(bA:Ok (lP 1 (mA hZ {.("word"),@2}) [.val (.t (zs.map bE)),.own a,.val (bE z)]) (.nx [.val (.t (zs.map bE)),.own (a++ [bE "word",bE z]),.val (bE z)]))) (fy (Q:=λ_=>bf) (f:=bE) (g:=λz=>[kw "word",z]) (l:=zs) λ_ _=>trivial) [] .no (by rw[lm];show 0+ ~~~(gZ zs)<=_;lia);replace q:Ok (turns 2 _ (zs.map bE) [.val (.t (zs.map bE)),.own [],.no]) (.nx [.val (.t (zs.map bE)),.own ((gZ zs).map bE),b]):=q;refine fG (g:=Fe (P (n+2)) (P n)) (O:= #[.t (zs.map bE),(),()]) rfl (q:=?_);delta Fe
 calc bA
theorem bR3(f:c.ok)(h:FD c x l u)(b: ~~~l<=1000000):Ok (P (n+22) .q55 [x]) (.l (l.map bE)):=by
 cases h with
 | @mk z a xs l u i d j m e o _=>
  let b:(a++(kw "own" ::kw "do" ::(l++ [kw "end"]))).length+3<=1000000:=b;dsimp[cO,dB,mF]at b;let p:=Gu (P:=P) (n:=n+18) e (λx l u h k=>Gv (f.put d) 3 (n+2) h k) bZ;let r:Ok (cL (.l [bE "deed",bE z,bE "with"]) (.l (a.map bE))) _:=qW (l:=[kw "deed",z,kw "with"]) bQ bQ (by dsimp[cO,dB,mF];lia);let s:Ok (cL (.l (([kw "deed",z,kw "with"]++a).map bE)) (.l [bE "own"])) _:=qW (l':=[kw "own"]) bQ bQ (by dsimp[cO,dB,mF];lia);let t:Ok (cL (.l (([kw "deed",z,kw "with"]++a++ [kw "own"]).map bE)) (.l [])) _:=qW (l':=[]) bQ bQ (by dsimp[cO,dB,mF];lia);let v:Ok (cL (.l (([kw "deed",z,kw "with"]++a++ [kw "own"]++ []).map bE)) (.l [bE "do"])) _:=qW (l':=[kw "do"]) bQ bQ (by dsimp[cO,dB,mF];lia);let w:Ok (cL (.l (([kw "deed",z,kw "with"]++a++ [kw "own"]++ []++ [kw "do"]).map bE)) (.l ((l++ [kw "end"]).map bE))) _:=qW bQ bQ (by dsimp[cO,dB,mF];lia);rw[show kw "deed" ::z::kw "with" ::(a++(kw "own" ::kw "do" ::(l++ [kw "end"])))= [kw "deed",z,kw "with"]++a++ [kw "own"]++ []++ [kw "do"]++(l++ [kw "end"])from by simp];refine fG (n:=n+19) (g:=Ff (P (n+21)) (P (n+19))) (O:= #[_]) bQ (q:=?_);delta Ff
  calc bA
theorem bR4{f:Fc}(h:f.ok)(b: ~~~f.w<=1000000):Ok (P (n+4) .q52 [f.d]) (.l (f.w.map bE)):=by
 let b:(gZ f.ws++(wM f.ds++ [kw "done"])).length+2<=1000000:=b;rw[cO,cO,vq]at b;let j:=OK (P:=P) (n:=n) (zs:=f.ws) bZ;let m:Sz ([bE (kw "face"),bE f.nm].length+ ~~~((gZ f.ws).map bE)):=jD (by rw[lm];show 2+_<=_;lia);let⟨e,q⟩:=fw (o:=oW) (r:=λa s=>[.val f.d,.own a,s]) (i:=2) (A:=lP 1 (mA hZ {.("deed"),2^^^0,(mA xT {2^^^1})})) (λ_ _ _=>rfl) (λx l u a h k=>by let⟨p,c,rfl,rfl,rfl⟩:=h;have:Sz (~~~a+ [bE (kw "deed"),bE p.1,bE (iS p.2)].length):=jD k;have:=Gs (k:=p.2) bZ;calc(bA:Ok (lP 1 (mA hZ {.("deed"),2^^^0,(mA xT {2^^^1})}) [.val f.d,.own a,.val (dP p)]) (.nx [.val f.d,.own (a++ [bE "deed",bE p.1,bE (iS p.2)]),.val (dP p)]))) (fy (Q:=λp=>p.2<=4) (f:=dP) (g:=λp=>[kw "deed",p.1,iS p.2]) (l:=f.ds) λp c=>(h.d p c).2) ([bE (kw "face"),bE f.nm]++(gZ f.ws).map bE) .no (by rw[lm,cO,lm];show 2+ ~~~(gZ f.ws)+ ~~~(wM f.ds)<=_;lia);let t:Ok (cL (.l ([bE (kw "face"),bE f.nm]++(gZ f.ws).map bE++(wM f.ds).map bE)) (.l [bE "done"])) _:=qW (l:=[kw "face",f.nm]++gZ f.ws++wM f.ds) (l':=[kw "done"]) (by simp) rfl (by dsimp[cO,dB,mF];lia);rw[show f.w= [kw "face",f.nm]++gZ f.ws++wM f.ds++ [kw "done"]from by delta Fc.w;simp];refine fG (n:=n+1) (g:=E9 (P (n+3)) (P (n+1))) (O:= #[f.d,(),()]) rfl (q:=?_);replace q:Ok (turns 2 _ (f.ds.map dP) [.val f.d,.own ([bE (kw "face"),bE f.nm]++(gZ f.ws).map bE),.no]) (.nx [.val f.d,.own ([bE (kw "face"),bE f.nm]++(gZ f.ws).map bE++(wM f.ds).map bE),e]):=q;delta E9;delta Fc.d at q|-
 calc bA
theorem bR5(w:c.ok)(h:FU c d l)(v: ~~~l<=1000000):Ok (P (n+23) .q53 [d]) (.l (l.map bE)):=by
 cases h with
 | @mk z b e j l ks xs l' u I K M N S C T E W=>
  let v:(mC b++(gZ e++(l++(kw "do" ::(l'++ [kw "end",kw "done"]))))).length+2<=1000000:=v;dsimp[cO,dB,mF]at v;let X:=OK (P:=P) (n:=n+19) (zs:=e) bZ;generalize F:D.t [bE z,.t (b.map p2),.t (e.map bE),.t j,.t xs]=d;let⟨m,y⟩:=fw (o:=oW) (r:=λa s=>[.val d,.own a,s,.no]) (i:=2) (A:=lP 1 (mA hZ {.("take"),2^^^1,.("from"),2^^^0})) (λ_ _ _=>rfl) (λx l u a h k=>by let⟨p,G,rfl,rfl,rfl⟩:=h;have:Sz (~~~a+ [bE (kw "take"),bE p.2,bE (kw "from"),bE p.1].length):=jD k;calc(bA:Ok (lP 1 (mA hZ {.("take"),2^^^1,.("from"),2^^^0}) [.val d,.own a,.val (p2 p),.no]) (.nx [.val d,.own (a++ [bE "take",bE p.2,bE "from",bE p.1]),.val (p2 p),.no]))) (fy (Q:=λ_=>bf) (f:=p2) (g:=λt=>[kw "take",t.2,kw "from",t.1]) (l:=b) λp G=>trivial) [bE "unit",bE z] .no (by rw[lm];show 2+ ~~~(mC b)<=_;lia);replace y:Ok (turns 2 _ (b.map p2) [.val d,.own [bE "unit",bE z],.no,.no]) (.nx [.val d,.own ([bE "unit",bE z]++(mC b).map bE),m,.no]):=y
  let⟨H,B⟩:=fw (o:=oW) (r:=λa s=>[.val d,.own a,m,s]) (i:=3) (A:=lP 1 (mA (P (n+22) .q55) {@3})) (λ_ _ _=>rfl) (λx l u a h k=>by
   have:=bR3 (P:=P) (n:=n) w h (by rw[lm]at k;lia);have:=jD k
   calc bA) C ([bE "unit",bE z]++(mC b).map bE++(gZ e).map bE) .no (by rw[lm,cO,cO,lm,lm];show 2+_+_+_<=_;lia)
  replace B:Ok (turns 3 _ j [.val d,.own ([bE "unit",bE z]++(mC b).map bE++(gZ e).map bE),m,.no]) (.nx [.val d,.own ([bE "unit",bE z]++(mC b).map bE++(gZ e).map bE++l.map bE),m,H]):=B;let Y:Sz (([bE "unit",bE z]++(mC b).map bE).length+ ~~~((gZ e).map bE)):=jD (by rw[lm,cO,lm];show 2+_+_<=_;lia);let Z:=Gu (P:=P) (n:=n+19) E (λx l u h k=>Gv w 3 (n+3) h k) bZ;let j1:Ok (cL (.l ([bE "unit",bE z]++(mC b).map bE++(gZ e).map bE++l.map bE)) (.l [bE "do"])) _:=qW (l:=[kw "unit",z]++mC b++gZ e++l) (l':=[kw "do"]) (by simp) rfl (by dsimp[cO,dB,mF];lia);let j2:Ok (cL (.l (([kw "unit",z]++mC b++gZ e++l++ [kw "do"]).map bE)) (.l ((l'++ [kw "end"]).map bE))) _:=qW rfl rfl (by dsimp[cO,dB,mF];lia);let j3:Ok (cL (.l (([kw "unit",z]++mC b++gZ e++l++ [kw "do"]++(l'++ [kw "end"])).map bE)) (.l [bE "done"])) _:=qW (l':=[kw "done"]) rfl rfl (by dsimp[cO,dB,mF];lia);rw[show kw "unit" ::z::(mC b++(gZ e++(l++(kw "do" ::(l'++ [kw "end",kw "done"])))))= [kw "unit",z]++mC b++gZ e++l++ [kw "do"]++(l'++ [kw "end"])++ [kw "done"]from by simp];refine fG (n:=n+20) (g:=Fb (P (n+22)) (P (n+20))) (O:= #[d,(),(),()]) rfl (q:=?_);delta Fb;subst F
  calc bA
noncomputable abbrev Ls(z:U):J bD:=z.cps.toList
theorem j5(a b):Ls (a++b)=Ls a++Ls b:=by show(a.cps++b.cps).toList=_;rw[Hx]
theorem OL(h:Ls a=Ls b):a=b:=by let⟨⟨x⟩⟩:=a;let⟨⟨y⟩⟩:=b;cases(show x=y from h);rfl
theorem tK(z): ~~~(Ls z)= ~~~z:=rfl
noncomputable def qX:J U->J bD| []=>[]|h::t=>32::(Ls h++qX t)
noncomputable def tl:J U->J bD| []=>[]|h::t=>Ls h++qX t
theorem OM(h:a≠ []):32::tl a=qX a:=by
 cases a with
 |nil=>calc dD bQ h|cons x r=>rfl
theorem Gw:∀ws,Ls (pu " " ws)=tl ws:=λws=>by delta pu;rw[Qz];exact go ws
where
 go:∀ws:List Str,Ls (Str.join " " ws)=tl ws
  | []=>rfl| [x]=>by simp[Str.join,tl,qX]|x::y::r=>by let ih:=go (y::r);show Ls (x++(" " :Str)++Str.join " " (y::r))=_;rw[j5,j5,ih];show(Ls x++ [32])++_=Ls x++(32::_);simp[tl,qX]
theorem fold_len(b:U):∀(ws:J U) (k:bD),ws.foldl (λa w=>a+ ~~~w+ ~~~b) k=k+(ws.map λw=> ~~~w+ ~~~b).sum| [],k=>by simp|w::r,k=>by rw[ef,fold_len b r];dsimp[fY,we];lia
theorem bR6(a)(ws)(h:(ws.map λw=> ~~~w+ ~~~a).sum<=cR):JoinOk a ws=bF:=by delta JoinOk;rw[List.foldl_toArray,fold_len];show(!cE (_>cR))=bF;rw[jI bZ];rfl
theorem ON:∀ws,~~~(qX ws)=(ws.map λw=> ~~~w+1).sum| []=>rfl|w::r=>by dsimp[qX,dB,cO,fY,we,ON r,tK];lia
theorem bR7(ws): ~~~(tl ws)<= ~~~(qX ws):=by
 cases ws with
 |nil=>calc cU _|cons w r=>dsimp[tl,qX,dB,cO];lia
def Nb(ws:J U):Prop:=∀w∈ws,32∉Ls w
theorem OO:∀a b s t,32∉a->32∉b->(s= []\/ ∃s',s=32::s')->(t= []\/ ∃t',t=32::t')->a++s=b++t->a=b/\s=t
 | [],[],s,t,_,_,_,_,e=>⟨rfl,e⟩| [],y::b,s,t,_,d,f,_,e=>by
  rcases f with rfl|⟨s',rfl⟩
  .cases e
  cases e;calc dD fF d
 |x::a,[],s,t,c,_,_,g,e=>by
  rcases g with rfl|⟨t',rfl⟩
  .cases e
  cases e;calc dD fF c
 |x::a,y::b,s,t,c,d,f,g,e=>by rw[Bh,Bh,wa]at e;let⟨h,i⟩:=OO a b s t (λz=>c (fM _ z)) (λz=>d (fM _ z)) f g e.2;calc⟨by rw[e.1,h],i⟩
theorem OP(A):qX A= []\/ ∃s',qX A=32::s':=by cases A<;>first|calc .inl bQ|calc .inr ⟨_,rfl⟩
theorem OQ:∀A B,Nb A->Nb B->qX A=qX B->A=B| [],[],_,_,_=>rfl| [],_::_,_,_,e=>by cases e|_::_,[],_,_,e=>by cases e|a::A,b::B,d,f,e=>by let g:Ls a++qX A=Ls b++qX B:=(Ij e).2;let⟨h,i⟩:=OO _ _ _ _ (d a fF) (f b fF) (OP A) (OP B) g;rw[OL h,OQ A B (λw c=>d w (fM _ c)) (λw c=>f w (fM _ c)) i]
theorem bR8(a:A≠ [])(b:B≠ [])(c:Nb A)(d:Nb B)(e:tl A=tl B):A=B:=OQ A B c d (by rw[<-OM a, <-OM b,e])
theorem bR9(c:B≠ [])(d:Nb B)(e:Ls t=tl B):yL t " " =B:=by
 let a:(" " :U)=⟨[32].toArray⟩:=bB
 refine bR8 (λz=>?_) c (λw b=>?_) d ?_
 .have:=cG0 t " ";rw[z]at this;simp at this
 .rw[a]at b;exact cE9 t 32 w b
 rw[<-e, <-Gw];delta pu;rw[Qz,cF0]
class At(ws:J D)(k:bD)(l:vE (J U)):Prop where
 e:∃r,ws.drop k=l.map bE++r
class Hd(ws:J D)(k:bD)(w:vE U):Prop where
 e:ws[k]? =L (bE w)
section
variable{ws ds es:J D}{k k':bD}{i j n:bD}{w z:U}{l l':J U}{O ρ' ρ1 ρ2:cQ}{d x:D}{f:ME}{fa:MA}{g h:MX}{m:J D->bP D}{a a':bH}{p:bD}{s s':Ob}{A B:MS}{fl:Fl}{T T':R.Tab}{ga:vS}{t:MT}
instance [q:At ws k (w::l)]:Hd ws k w:=⟨by let⟨r,e⟩:=q.e;have:=Rv (xs:=ws) (i:=k) (j:=0);rw[e]at this;simpa using this.symm⟩
instance [q:At ws k (w::l)]:At ws (k+1) l:=⟨by let⟨r,e⟩:=q.e;calc⟨r,by rw[<-HX,e];rfl⟩⟩
instance at_right [q:At ws k (l++l')]:At ws (k+ ~~~l) l':=⟨by let⟨r,e⟩:=q.e;calc⟨r,by rw[<-HX,e,lK,nQ];calc RX (cA ..)⟩⟩
theorem At.left(q:At ws k (l++l')):At ws k l:=⟨by let⟨r,e⟩:=q.e;calc⟨l'.map bE++r,by rw[e,lK,nQ]⟩⟩
instance [o:gC O i (.row p ws a)] [q:Ok (fa O) ds] [r:Ok (m (.l ws::bG a::ds)) (.t [d,bG a'])]:Ok (gM i m fa O) (d,.row ws a'):=⟨by delta gM;rw[o.e];dsimp only;rw[q.e];show Ob.dec (.row ws a) (m (.l ws::bG a::ds))=_;rw[r.e];rfl⟩
instance [o:gC O i (.row p ws a)] [q:Ok (fa O) ds] [r:Ok (m (.l ws::bG a::ds)) (.t [d,bG a'])]:Ok (kY i m fa O) (d,.row ws a'):=⟨by delta kY;rw[o.e];dsimp only;rw[q.e];show Ob.dec (.row ws a) (m (.l ws::bG a::ds))=_;rw[r.e];rfl⟩
instance [o:gC O i (.row p ws a)] [r:Ok (m [.l ws,bG a]) (.t [d,bG a])]:Ok (pG i m O) d:=⟨by delta pG;rw[o.e];dsimp only;rw[r.e];calc cK bQ⟩
instance [o:gC O i (.row p ws a)]:Ok (eZ i O) (.l ws):=⟨by delta eZ;rw[o.e]⟩
instance [o:gC O i (.row p ws a)]:Ok (e9 i O) (bG a):=⟨by delta e9;rw[o.e]⟩
instance [o:gC O i (.row p ws a)] [r:gS O i (.row p ws (a+a')) ρ']:Ok (nq i a' O) (.nx ρ'):=⟨by delta nq;rw[o.e];dsimp only;rw[r.e]⟩
instance [q:Ok (f O) d] [o:gC O i (.obj p s)]:Ok (xP i f O) (d,s):=⟨by delta xP;rw[q.e];show(match O[i]? with|some (.obj _ s)=>bP.ok (d,s)|_=>.bad)=_;rw[o.e]⟩
instance [q:Ok (t O) bF] [r:Ok (g O) (d,s)]:Ok (i9 t g h O) (d,s):=⟨by delta i9;rw[q.e];calc r.e⟩
instance [q:Ok (t O) bJ] [r:Ok (h O) (d,s)]:Ok (i9 t g h O) (d,s):=⟨by delta i9;rw[q.e];calc r.e⟩
theorem uU(o:gC O i (.obj p s))(q:Ok (g O) (d,s'))(r:gS O i (.obj p s') ρ1):cf i g kk O=kk d ρ1:=by delta cf;rw[o.e];dsimp only;rw[q.e, <-r.e];rfl
instance [o:gC O i (.obj p s)] [q:Ok (g O) (d,s')] [r:gS O i (.obj p s') ρ1]:Ok (lZ i g O) (.nx ρ1):=⟨by delta lZ;rw[uU o q r]⟩
instance [o:gC O i (.obj p s)] [q:Ok (g O) (d,s')] [r:gS O i (.obj p s') ρ1] [u:gS ρ1 j (.val d) ρ2]:Ok (lQ i j g O) (.nx ρ2):=⟨by delta lQ;rw[uU o q r,u.e]⟩
instance [o:gC O i (.obj p s)] [q:Ok (g O) (d,s')] [r:gS O i (.obj p s') ρ1]:Ok (gQ i g O) (.rr d ρ1):=⟨by delta gQ;rw[uU o q r]⟩
instance [v:gC O j (.own es)] [o:gC O i (.obj p s)] [q:Ok (g O) (d,s')] [r:gS O i (.obj p s') ρ1] [b:gC ρ1 j (.own ds)] [z:Sz (~~~ds+1)] [u:gS ρ1 j (.own (ds++ [d])) ρ2]:Ok (qS i j g O) (.nx ρ2):=⟨by delta qS;rw[v.e];dsimp[];rw[uU o q r,b.e];dsimp[];rw[cK (show ~~~ds<cR from z.e),u.e]⟩
instance [q:Ok (g O) (d,s)]:Ok (vU g O) ([d],s):=⟨by delta vU;rw[q.e];rfl⟩
instance [q:Ok (f O) d] [r:Ok (ga O) (ds,s)]:Ok (vV f ga O) (d::ds,s):=⟨by delta vV;rw[q.e,r.e];rfl⟩
instance [o:gC O i (.obj p s)] [q:Ok (g O) (d,s')] [u:gS O i (.obj p s') ρ1] {a:Ob} [r:Ok (ga ρ1) (ds,a)]:Ok (nr i g ga O) (d::ds,a):=⟨by delta nr;rw[o.e];dsimp only;rw[q.e];show bP.bind (ga (O.set i (.obj p s'))) _=_;rw[u.e,r.e];rfl⟩
instance [q:Ok (ga O) (ds,s)] [r:Ok (m ds) d]:Ok (vW m ga O) (d,s):=⟨by delta vW;rw[q.e];show bP.bind (m ds) _=_;rw[r.e];rfl⟩
instance [q:Ok (A O) (.rr d ρ')]:Ok (bO A B O) (.rr d ρ'):=⟨by delta bO;rw[q.e];rfl⟩
instance [r:gC O 0 (.row 1 ws a)]:Ok (nJ (.rr d O)) (.t [d,bG a]):=⟨by delta nJ nu;dsimp only;rw[r.e];rfl⟩
instance [r:gC O 0 (.row 1 ws a)]:Ok (nJ (.nx O)) (.t [.n,bG a]):=⟨by delta nJ nu;dsimp only;rw[r.e];rfl⟩
theorem kQ(e:Bd (P (n+2)) (P n) c ds=X)(q:Ok X d):Ok (P (n+3) c ds) d:=⟨by rw[Fu.e (P:=P),e,q.e]⟩
instance {d:D} {z:U} {m:U->J D->bP D} [q:Ok (f O) (bE z)] [r:Ok (fa O) ds] [o:Ok (m z ds) d]:Ok (xU m f fa O) d:=⟨by delta xU;rw[q.e];show bP.bind (fa O) _=_;rw[r.e];calc o.e⟩
instance [h:Hd ws k w]:Ok (P (n+3) .q81 [.l ws,bG k]) (.t [bE w,bG k]):=by
 let a:jT k ws.length bF:=⟨kF (by have:=(pK.mp h.e).1;lia)⟩;let b:Ok (dN (.l ws) (bG k)) (bE w):=⟨by let e:pB ws (k:bH)=L (bE w):=eI h.e;dsimp[dN,e]⟩;refine kQ (n:=n) (X:=(FT (P (n+2)) (P n) [.row 1 ws k]).bind nJ) bQ ?_;delta FT
 calc bA
instance [h:Hd ws k w]:Ok (P (n+4) .q82 [.l ws,bG k]) (.t [bE w,bG ((k+1:bD):bH)]):=by
 refine kQ (n:=n+1) (X:=(FV (P (n+3)) (P (n+1)) [.row 1 ws k,.no]).bind nJ) bQ ?_;show Ok _ (D.t [_,bG ((k:bH)+1)]);delta FV
 calc bA
instance [h:Hd ws k w]:Ok (P (n+5) .skip [.l ws,bG k,bE w]) (.t [.n,bG ((k+1:bD):bH)]):=by
 refine kQ (n:=n+2) (X:=(FW (P (n+4)) (P (n+2)) #[.row 1 ws k,bE w,()]).bind nJ) bQ ?_;delta FW
 calc bA
theorem OR(h: ~~~ws=k):Ok (P (n+3) .q84 [.l ws,bG k]) (.t [.b bF,bG k]):=by
 have:Iq (k:bH) (~~~ws:bH) bF:=⟨by rw[h];calc sL _⟩;refine kQ (n:=n) (X:=(FX (P (n+2)) (P n) [.row 1 ws k]).bind nJ) bQ ?_;delta FX
 calc bA
instance [h:Hd ws k w] [N:Nm w]:Ok (P (n+5) .q47 [.l ws,bG k]) (.t [bE w,bG ((k+1:bD):bH)]):=by
 refine kQ (n:=n+2) (X:=(E4 (P (n+4)) (P (n+2)) [.row 1 ws k,.no]).bind nJ) bQ ?_;delta E4
 calc bA
end
noncomputable abbrev dg(m:bD):J bD:=(k4 10 m).map Tb
theorem uV(m):cF5 (dg m):=λc b=>by let⟨d,a,e⟩:=gO.mp b;let r:=cF1 (Nat.isDigit_of_mem_toDigits hG hG a);rw[<-e];calc r
theorem OS(h:m<1000000): ~~~(dg m)<=6/\1<= ~~~(dg m):=by rw[cA];calc⟨PySem.toDigits_len_pow hG hG h,PySem.toDigits_len_ge 10 m⟩
theorem dc:∀d,d<10->0<d->49<=(SE d).toNat:=by decide
theorem OT(m)(h:0<m):∃c r,dg m=c::r/\49<=c:=by
 induction m using Nat.strongRecOn with
 |_ m f=>
  by_cases a:m<10
  .refine⟨(SE m).toNat,[],?_,dc m a h⟩;show(k4 10 m).map _=_;rw[Nat.toDigits_of_lt_base a];rfl
  let d:m%10<10:=wj m hG;let t:k4 10 (m/10)++k4 10 (m%10)=k4 10 (10*(m/10)+m%10):=Nat.toDigits_append_toDigits hG bZ d;rw[Nat.div_add_mod]at t;let⟨c,r,e,b⟩:=f (m/10) bZ bZ;refine⟨c,r++(k4 10 (m%10)).map Tb,?_,b⟩;show(k4 10 m).map _=_;rw[<-t,lK];calc jZ (· ++_) e
theorem bS0(m):Ls (iS (-((m+1:bD):bH)))=45::dg (m+1):=by show(wV (zY (-((m+1:bD):bH)))).cps.toList=_;rw[signs_ofString];let e:zY (-((m+1:bD):bH))="-" ++Nat.repr (m+1):=rfl;rw[e,String.toList_append,lK,Nat.toList_repr];rfl
theorem bS1(m):Ls (iS ((m:bD):bH))=dg m:=W.KIN.signs_num m
theorem bS2(h:Ls z=c::r)(b):Bm z ⟨[b].toArray⟩=(c==b):=by let⟨⟨x⟩⟩:=z;cases(show x=c::r from h);delta Bm cF6;show(cE (0+1<= ~~~(c::r))&&((c::r).toArray.extract 0 (0+1)== [b].toArray))=_;rw[kF (by simp),tZ];simp
theorem bS3(h:Ls z=c::r):pX z (L 1) bL=⟨r.toArray⟩:=by
 delta pX;rw[show z.cps.toList=c::r from h];delta sD;rw[HT.sIx_none,show(1:bH)=((1:bD):bH)from bQ,HT.sIx_nat,show vF 1 (~~~(c::r))=1 by simp];let e:((c::r).drop 1).take (~~~(c::r)-1)=r:=by simp
 rw[e]
section
variable{n k:bD}{i v:bH}{F:U}{ws:J D}
theorem bS4(d:1<= ~~~F)(e: ~~~F<=6)(h:(Ls F).all (qU 48 57)=bF):Ok (P (n+3) .q49 [bE F]) (.b bF):=by
 let f:jT F.length 1 bJ:=⟨jI bZ⟩;let i:jT 6 F.length bJ:=⟨jI bZ⟩;let j:Ok (mA gJ {(mA xT {(kc oq)})} #[bE F]) (bG 6):=⟨nB⟩;let c:=Oq (s:="0") (t:="9") (a:=48) (b:=57) bB bB (z:=F) bZ;rw[h]at c;refine fG (g:=E6 (P (n+2)) (P n)) (O:= #[bE F]) bQ (q:=?_);delta E6
 calc bA
theorem OU(m):(dg m).all (qU 48 57)=bF:=mE.mpr λc a=>by have:=uV m c a;delta qU;rw[kF this.1,kF this.2];rfl
structure Nt(i:bH):Prop where
 l:1<= ~~~(iS i)/\~~~(iS i)<=7
 b:32∉Ls (iS i)
 n:zO (iS i)=bJ
 c:(iS i==kw "call")=bJ
 s:jy (iS i)=bJ
 r:∀{P:bD->CT} [Fu P] (n k:bD) (ws:J D),Hd ws k (iS i)->Ok (P (n+5) .q48 [.l ws,bG k]) (.t [bG i,bG ((k+1:bD):bH)])
theorem OV{X:Slot}[h:Hd ws k (iS i)](e:Ok (xS (mT (xU xV @1 {.("-")})) (ay @1 (ax .(1)) (bt)) @1 #[.row 1 ws ((k+1:bD):bH),bE (iS i),()]) (bE F))(c:1<= ~~~F)(d: ~~~F<=6)(b:(Ls F).all (qU 48 57)=bF)(f:Ok (pD (mT (xU xV @2 {.("0")})) (mB (m2 jR @1 .("0"))) #[.row 1 ws ((k+1:bD):bH),bE (iS i),bE F]) bJ)(a:Sm (iS i)=L i)(g: ~~~(iS i)<=7):Ok (P (n+5) .q48 [.l ws,bG k]) (.t [bG i,bG ((k+1:bD):bH)]):=by
 have:=bS4 (P:=P) (n:=n+1) c d b;have:Ok (aF [bE (iS i)]) (bG i):=⟨by delta aF;dsimp only;rw[a];calc cK bZ⟩;refine kQ (n:=n+2) (X:=(E5 (P (n+4)) (P (n+2)) [.row 1 ws k,.no,.no]).bind nJ) bQ ?_;delta E5
 calc bA
theorem Aq(h:Ls z=c::r)(a:p=⟨[b].toArray⟩):Ok (xV z [bE p]) (.b (c==b)):=⟨by subst a;show bP.ok (D.b (Bm z _))=_;rw[bS2 h]⟩
theorem bS5(h:Ls z=c::r)(a:c<97):zO z=bJ:=by delta zO tJ;rw[show z.cps.toList=c::r from h,lA];delta qU;rw[jI bZ];rfl
theorem OW(e:Ls (iS i)=c::r)(b:(48<=c/\c<=57)\/(c=45/\r≠ []))(d: ~~~(Ls (iS i))<=7)(a:∀x∈Ls (iS i),x≠32)(f:∀{P:bD->CT} [Fu P] (n k:bD) (ws:J D),Hd ws k (iS i)->Ok (P (n+5) .q48 [.l ws,bG k]) (.t [bG i,bG ((k+1:bD):bH)])):Nt i:=by
 refine⟨⟨by rw[<-tK,e];simp,d⟩,λh=>a 32 h bQ,bS5 e bZ,?_,?_,f⟩
 .refine lT.mpr λz=>?_
  rw[z]at e;have:Ls (kw "call")= [99,97,108,108]:=bB
  rw[this]at e;cases e;lia
 cases q:jy (iS i)with
 |false=>rfl|true=>
  exfalso;let l:Ls "+" = [43]/\Ls "-" = [45]/\Ls "*" = [42]/\Ls "<" = [60]/\Ls "=" = [61]:=bB
  let⟨g,j,m,o,p⟩:=l;rcases jz q with z|z|z|z|z
  .rw[z,g]at e;cases e;lia
  .rw[z,j]at e;cases e;rcases b with h|⟨_,h⟩;lia;exact h bQ
  .rw[z,m]at e;cases e;lia
  .rw[z,o]at e;cases e;lia
  rw[z,p]at e;cases e;lia
theorem As(N:uN i):Nt i:=by
 let E:=N.e;let g:("-" :U)=⟨[45].toArray⟩:=bB
 let j:("0" :U)=⟨[48].toArray⟩:=bB
 rcases Int.lt_or_le i 0 with t|f
 .let⟨m,rfl⟩:∃m:bD,i= -((m+1:bD):bH):=⟨(-i).toNat-1,bZ⟩;let a:=bS0 m;let⟨v,d⟩:=OS (m:=m+1) bZ;let⟨c,r,e,s⟩:=OT (m+1) bZ;refine OW a (.inr ⟨rfl,by rw[e];simp⟩) (by rw[a,dB];lia) (λx h=>?_) λn k ws h=>?_
  .rw[a]at h;rcases jJ.mp h with rfl|h
   .decide
   have:=uV _ _ h;lia
  let l: ~~~(iS (-((m+1:bD):bH)))= ~~~(dg (m+1))+1:=by rw[<-tK,a,dB]
  let B:Ok (xV (iS (-((m+1:bD):bH))) [bE "-"]) (.b true):=Aq a g;let o:Ok (eU (bE (iS (-((m+1:bD):bH)))) (L 1) bL) (bE ⟨(dg (m+1)).toArray⟩):=⟨by show bP.ok (bE (pX _ _ _))=_;rw[bS3 a]⟩;let u:Ok (xV ⟨(dg (m+1)).toArray⟩ [bE "0"]) (.b false):=by have:=Aq (z:=⟨(dg (m+1)).toArray⟩) (c:=c) (r:=r) e j;rwa [show(c==48)=false from lT.mpr bZ]at this
  exact OV (X:=.no) (F:=⟨(dg (m+1)).toArray⟩) bA (by show 1<=(dg (m+1)).toArray.size;rw[hY];calc d) (by show(dg (m+1)).toArray.size<=6;rw[hY];calc v) (OU _) bA (by rw[PySem.intText_neg a (uV _) (by intro z;rw[z]at d;simp at d) bZ,W.KIN.val_back]) (by rw[<-tK,a,dB];lia)
 let⟨m,rfl⟩:=j9 f;let a:=bS1 m;let⟨v,d⟩:=OS (m:=m) bZ;let y:∃c r,dg m=c::r/\48<=c/\c<=57:=by
  cases q:dg m with
  |nil=>rw[q]at d;simp at d|cons c r=>exact⟨c,r,rfl,uV m c (by rw[q];calc fF)⟩
 let⟨c,r,e,s⟩:=y;refine OW (a.trans e) (.inl s) (by rw[a];lia) (λx h=>?_) λn k ws h=>?_
 .rw[a]at h;have:=uV _ _ h;lia
 let B:Ok (xV (iS m) [bE "-"]) (.b false):=by have:=Aq (a.trans e) g;rwa [show(c==45)=false from lT.mpr bZ]at this
 let o:=Aq (a.trans e) j;let u:Ok (pD (mT (xU xV @2 {.("0")})) (mB (m2 jR @1 .("0"))) #[.row 1 ws ((k+1:bD):bH),bE (iS m),bE (iS m)]) false:=by
  by_cases A:m=0
  .subst A;have:Bq (iS ((0:bD):bH)) "0" true:=⟨bB⟩;cases q:(c==48)with|true=>rw[q]at o;calc bA|false=>rw[q]at o;exact bA
  let⟨C,G,p,w⟩:=OT m bZ;rw[e]at p;cases p;rw[show(c==48)=false from lT.mpr bZ]at o
  exact bA
 let l: ~~~(iS (m:bH))= ~~~(dg m):=by rw[<-tK,a]
 calc OV (X:=.no) (F:=iS m) bA bZ bZ (by rw[a];calc OU m) u (W.KIN.num_reads bZ bZ) bZ
end
section
variable{c:Cn}{R:Rl}{n m k:bD}{a:bH}{d x:D}{xs ds ws:J D}{s w:U}{l l' f zs:J U}{u:J D}{O ρ':cQ}{i:bD}
instance [h:Sg s]:Am s:=⟨by rcases jz h.e with rfl|rfl|rfl|rfl|rfl<;>decide+kernel,by rcases jz h.e with rfl|rfl|rfl|rfl|rfl<;>decide+kernel⟩
instance:Am "call" :=⟨bB,bB⟩
instance [h:Sg s]:Ok (dT bJ (bE s) (.t (ou.map bE))) (.b bF):=zN h.e
theorem aI{r:bP D}{a:bD}(h:Ok r (.t [d,bG k]))(e:k=a):Ok r (.t [d,bG a]):=e▸h
instance [h:jT 12 a bJ]:Ok (P (n+3) .q45 [bG a]) .n:=by
 refine kQ (X:=(E1 (P (n+2)) (P n) #[bG a]).bind lF) bQ ?_;delta E1 jr;have:Ok (lF (.nx #[bG a])) .n:=⟨rfl⟩
 calc bA
theorem bS6{g:MX}(a:∀x l u it (k:bD),R x l u->At ws k l->Ok (g [.val it,.row 1 ws k,X]) (x,.row ws ((k+ ~~~l:bD):bH)))(h:FP R xs l u):∀its k,~~~its= ~~~xs->At ws k l->sY (λ_=>.ok bF) (λY _=>g Y) (λs=>[.obj 1 s,X]) its (.row ws k)= .ok (xs,.row ws ((k+ ~~~l:bD):bH)):=by
 induction h with
 |nil=>
  intro its k e _;cases its with
  |nil=>rfl|cons _ _=>cases e
 | @cons x l u xs l' c h _ b=>
  intro its k e q;cases its with
  |nil=>cases e|cons it its=>have:=a _ _ _ it k h q.left;rw[sY];show bP.bind (g [.val it,.row 1 ws k,X]) _=_;rw[this.e];show bP.bind (sY _ _ _ its (Ob.row ws ((k+ ~~~l:bD):bH))) _=_;rw[b its (k+ ~~~l) (SS e) bA,cO,Ik];rfl
theorem bS7[o:gC O i (.row p ws a)][q:Ok (fl O) ds](b: ~~~ds<=1000000)(e:tr i p js g O ds (.row ws a)= .ok r):Ok (nv i js fl g O) (.l r.1,r.2):=⟨by delta nv;rw[o.e];dsimp only;rw[q.e];show(if ~~~ds<=cR then _ else _)=_;rw[cK (sJ b),e];rfl⟩
theorem oC{f:ME}[q:Ok (f O) (bG n)](h:n<=1000000):Ok (lH f O) (_root_.R.upTo 0 n):=⟨by
 let e:bq (bG n)= .ok (_root_.R.upTo 0 n):=by delta bq;dsimp only;rw[cK bZ,A9]
 delta lH;rw[q.e, <-e,bP.bind]⟩
theorem f0: ~~~(_root_.R.upTo a m)=m:=by delta _root_.R.upTo;rw[cA,qZ]
theorem OX(b:∀x l u (k:bD),R x l u->At ws k l->Ok (P (n+5) .q44 [.l ws,bG k,bG a]) (.t [x,bG ((k+ ~~~l:bD):bH)]))(h:FP R xs l u)(c: ~~~xs<=4)(q:At ws k (iS (~~~xs)::l)):Ok (P (n+6) .q46 [.l ws,bG k,bG a]) (.t [.t xs,bG ((k+1+ ~~~l:bD):bH)]):=by
 let d:=(As (i:=xs.length) ⟨bZ,bZ⟩).r (P:=P) n k ws bA;let j:jT xs.length 0 bJ:=⟨jI bZ⟩;let m:jT 4 xs.length bJ:=⟨jI bZ⟩;let e:=bS6 (g:=gM 1 (P (n+5) .q44) {@2}) (X:=.val (bG a)) (λx l u s k h q=>by have:=b _ _ _ k h q;calc bA) h (_root_.R.upTo 0 (~~~xs)) (k+1) f0 bA;have:=oC (f:=gv 2) (O:= #[.row 1 ws ((k+1:bD):bH),bG a,bG (~~~xs)]) (n:=xs.length) bZ;let o:=bS7 (i:=0) (p:=1) (js:=[0,1]) (fl:=lH @2) (O:= #[.row 1 ws ((k+1:bD):bH),bG a,bG (~~~xs)]) (by rw[f0];lia) e;refine kQ (n:=n+3) (X:=(E3 (P (n+5)) (P (n+3)) #[.row 1 ws k,bG a,()]).bind nJ) bQ ?_;delta E3 uy
 calc bA
theorem uW(g:c.ok):∀(m n:bD) (a:bH) {ws d l u:_} (k:bD),FE c m d l u->a+m<=13->At ws k l->Ok (P (n+2*m+5) .q44 [.l ws,bG k,bG a]) (.t [d,bG ((k+ ~~~l:bD):bH)])
 |0,_,_,_,_,_,_,_,h,_,_=>h.elim|m+1,n,a,ws,d,l,u,k,h,C,q=>by
  let E:jT 12 a bJ:=⟨jI bZ⟩;let f:∀d r,Ok ((EZ (P (n+2*m+6)) (P (n+2*m+4)) #[.row 1 ws k,bG a,(),(),(),()]).bind nJ) (.t [d,bG ((r:bD):bH)])->r=k+ ~~~l->Ok (P (n+2*m+4+3) .q44 [.l ws,bG k,bG a]) (.t [d,bG ((k+ ~~~l:bD):bH)]):=λd r q e=>aI (kQ (P:=P) (n:=n+2*m+4) bQ q) e
  delta EZ uD at f;cases h with
  | @num v h=>let t:=As h;have:=t.r (P:=P) (n+2*m+1) k ws bA;have:Am (iS v):=⟨⟨t.l.1,by have:=t.l.2;lia⟩,t.n⟩;have:Bq (iS v) "call" bJ:=⟨t.c⟩;have:Ok (dT bJ (bE (iS v)) (.t (ou.map bE))) (.b bJ):=zN t.s;calc f _ _ bA bQ|nam h=>have:=g.w _ h;calc f _ _ bA bQ| @call z xs l u h p=>let⟨_,o⟩:=g.d _ h;have:=OX (P:=P) (n:=n+2*m) (a:=a+1) (k:=k+1+1) (ws:=ws) (λx l u k h q=>uW g m n (a+1) k h bZ q) p o bA;calc f _ _ bA (by dsimp[dB];lia)| @bin s x y l u l' F h i j=>have:Sg _:=⟨h⟩;have:At ws (k+1) (l++l'):=bA;let A:=uW g m (n+1) (a+1) (k+1) i bZ this.left;let B:=uW g m (n+1) (a+1) (ws:=ws) (k+1+ ~~~l) j bZ bA;rw[show n+1+2*m+5=n+2*m+6 from by lia]at A B;calc f _ _ bA (by dsimp[dB,cO];lia)
end
section
variable{c:Cn}{R:Rl}{n m k:bD}{a:bH}{d x:D}{xs ds ws:J D}{s w z:U}{l l' f zs:J U}{u:J D}{O ρ':cQ}{i:bD}
theorem oD{r:bD->J D->Slot->cQ}(a:∀k acc s,Hd ws k e->Ok (t (r k acc s)) bJ)(d:∀x l u k acc s,R x l u->At ws k l->Sz (~~~acc+1)->Ok (t (r k acc s)) bF/\ ∃s',Ok (A (r k acc s)) (.nx (r (k+ ~~~l) (acc++ [x]) s')))(h:FP R xs l u):∀n k acc s,~~~xs<n-> ~~~acc+ ~~~xs<=1000000->At ws k (l++ [e])->∃s',Ok (rK t A n (r k acc s)) (.nx (r (k+ ~~~l) (acc++xs) s')):=by
 induction h with
 |nil=>intro n k acc s b _ q;let q:At ws k [e]:=q;let⟨n,rfl⟩:∃j,n=j+1:=⟨n-1,bZ⟩;calc⟨s,⟨by delta rK;rw[(a k acc s bA).e,jF];rfl⟩⟩
 | @cons x l u xs l' p h _ o=>intro n k acc s b m q;let⟨n,rfl⟩:∃j,n=j+1:=⟨n-1,bZ⟩;rw[dB]at b m;rw[nQ]at q;let⟨f,c,g⟩:=d x l u k acc s h q.left (jD bZ);let⟨s',i⟩:=o n (k+ ~~~l) (acc++ [x]) c bZ (by rw[cO];show _+1+_<=_;lia) bA;refine⟨s',⟨?_⟩⟩;delta rK;rw[f.e];show bP.bind (A (r k acc s)) _=_;rw[g.e];show rK t A n (r (k+ ~~~l) (acc++ [x]) c)=_;rw[i.e,cO,Ik,nQ];rfl
instance {t:MT} {A:MS} {fl:Fl} [q:Ok (rK t A 33554432 O) fl]:Ok (ci t A O) fl:=⟨q.e⟩
theorem bS8(a:∀x l u,R x l u->l≠ [])(h:FP R xs l u): ~~~xs<= ~~~l:=by
 induction h with
 |nil=>calc cU _|cons h _ b=>have:=List.length_pos_iff.mpr (a _ _ _ h);rw[dB,cO];lia
theorem bS9[N:Nm z](h:fu.any (· ==w)=bF):(z==w)=bJ:=by
 refine lT.mpr λe=>?_
 have:=N.e;delta zO at this;rw[e,h]at this;simp at this
theorem bT0(h:qT.lookup w=L d):(w==kw "end")=bJ:=by
 refine lT.mpr λe=>?_
 have:(qT.lookup (kw "end")).isNone=bF:=bB
 rw[<-e,h]at this;cases this
theorem OY(h:FP R xs l u): ~~~l<=N->FP (λx l u=>R x l u/\~~~l<=N) xs l u:=by
 induction h with
 |nil=>calc λ_=>.nil|cons h _ a=>calc λk=>by rw[cO]at k;calc .cons ⟨h,bZ⟩ (a bZ)
theorem Gx(d:∀x l u (k:bD),R x l u-> ~~~l<=1000000->At ws k l->Ok (P (n+2+3) .q42 [.l ws,bG k,bG a]) (.t [x,bG ((k+ ~~~l:bD):bH)]))(c:∀x l u,R x l u->∃w r,l=w::r/\(w==kw "end")=bJ)(h:FP R xs l u)(f: ~~~l<=1000000)(q:At ws k (l++ [kw "end"])):Ok (P (n+6) .q41 [.l ws,bG k,bG a]) (.t [.t xs,bG ((k+(l++ [kw "end"]).length:bD):bH)]):=by
 let g: ~~~xs<= ~~~l:=bS8 (λx l u h=>by let⟨_,_,rfl,_⟩:=c _ _ _ h;simp) h;let⟨m,i⟩:=oD (ws:=ws) (t:=mB (m2 jR (pG 0 (P (n+5) .q81)) .("end"))) (A:=qS 0 2 (gM 0 (P (n+5) .q42) {@1})) (r:=λk b s=>[.row 1 ws k,.val (bG a),.own b]) (e:=kw "end") (λk b s h=>bA) (λx l u k b s h q z=>by let⟨w,r,e,c⟩:=c _ _ _ h.1;let j:=d _ _ _ k h.1 h.2 q;rw[e]at q;have:Bq w "end" bJ:=⟨c⟩;calc⟨bA,s,bA⟩) (OY h f) 33554432 k [] .no bZ (by show 0+_<=_;lia) q;replace i:Ok (rK _ _ 33554432 [.row 1 ws k,.val (bG a),.own []]) (.nx [.row 1 ws ((k+ ~~~l:bD):bH),.val (bG a),.own xs]):=i;refine aI (k:=k+ ~~~l+1) (kQ (n:=n+3) (X:=(EW (P (n+5)) (P (n+3)) #[.row 1 ws k,bG a,()]).bind nJ) rfl ?_) (by rw[cO];rfl);delta EW
 calc bA
theorem bT1(b:c.ok)(j:a<=10)(f:∀x l u (k:bD),R x l u-> ~~~l<=1000000->At ws k l->Ok (P (n+11) .q42 [.l ws,bG k,bG a]) (.t [x,bG ((k+ ~~~l:bD):bH)]))(i:∀x l u,R x l u->∃w r,l=w::r/\(w==kw "end")=bJ)(h:rP c R s x l u)(g: ~~~l<=1000000)(q:At ws k l):Ok (P (n+13) .q43 [.l ws,bG k,bE s,bG a]) (.t [x,bG ((k+ ~~~l:bD):bH)]):=by
 refine kQ (n:=n+10) (X:=(EY (P (n+12)) (P (n+10)) #[.row 1 ws k,bE s,bG a]).bind nJ) bQ ?_;delta EY cy;cases h with
 |word h=>have:=b.w _ h;calc aI (k:=k+1) bA bQ|deed h=>have:=(b.d _ h).1;calc aI (k:=k+1) bA bQ|expr h=>have:=uW (P:=P) b 3 (n+1) a k h bZ q;calc bA| @parts xs l u e h=>have:=OX (P:=P) (n:=n+6) (k:=k) (a:=a) (λx l u k h q=>uW b 3 n a k h bZ q) h e q;calc aI (k:=k+1+ ~~~l) bA (by rw[dB];lia)|block _ h=>have:=Gx (P:=P) (n:=n+6) (k:=k) (a:=a) f i h (by rw[cO]at g;lia) q;calc bA
theorem bT2(j:∀s x l u (k:bD),rP c R s x l u-> ~~~l<=1000000->At ws k l->Ok (P (n+5) .q43 [.l ws,bG k,bE s,bG (a+1)]) (.t [x,bG ((k+ ~~~l:bD):bH)]))(h:FF c R f xs l u):∀(k:bD) acc s,~~~l<=1000000-> ~~~acc+ ~~~xs<=1000->At ws k l->∃s',Ok (turns 4 (rB (P (n+5))) (f.map bE) [.row 1 ws k,.val (bG a),W,.own acc,s]) (.nx [.row 1 ws ((k+ ~~~l:bD):bH),.val (bG a),W,.own (acc++xs),s']):=by
 induction h with
 |nil=>calc λk acc s _ _ _=>⟨s,by rw[jF];calc⟨rfl⟩⟩| @kept s f xs l u h _ g=>intro k acc o d e q;rw[dB]at d;let⟨s',i⟩:=g (k+1) acc (.val (bE s)) bZ e bA;let m:Ok (dT bJ (bE s) zM) (.b bJ):=zN h;rw[show k+1+ ~~~l=k+ ~~~(s::l) from by rw[dB];lia]at i;calc⟨s',(bA:Ok (turns 4 (rB (P (n+5))) (bE s::f.map bE) _) _)⟩
 | @part s x l u f xs l' p h _ g=>intro k acc o d e q;rw[cO]at d;rw[dB]at e;have:=j _ _ _ _ k h bZ q.left;let⟨s',i⟩:=g (k+ ~~~l) (acc++ [x]) (.val (bE s)) bZ (by rw[cO];show _+1+_<=_;lia) bA;let m:Ok (dT bJ (bE s) zM) (.b bF):=zN (uP h);have:=jD (a:=acc.length) (b:=1) bZ;rw[Ik, <-cO,nQ]at i;calc⟨s',(bA:Ok (turns 4 (rB (P (n+5))) (bE s::f.map bE) _) _)⟩
theorem Gy(h:FS c m x l u):∃w r,l=w::r/\(w==kw "end")=bJ:=by
 cases m with
 |zero=>calc h.elim|succ m=>cases h with|mk a _ _=>calc⟨_,_,rfl,bT0 a⟩
theorem Gz(b:c.ok):∀(m n:bD) (a:bH) {ws d l u:_} (k:bD),FS c m d l u->a+m<=10-> ~~~l<=1000000->At ws k l->Ok (P (n+3*m+11) .q42 [.l ws,bG k,bG a]) (.t [d,bG ((k+ ~~~l:bD):bH)])
 |0,_,_,_,_,_,_,_,h,_,_,_=>h.elim|m+1,n,a,ws,_,_,_,k,.mk (w:=w) (f:=f) (xs:=xs) (l:=l) j e _,o,g,q=>by
  let g: ~~~l+1<=1000000:=g;let p:jT 12 a bJ:=⟨jI bZ⟩;let r:Sf w f:=⟨j⟩;have:=OA j;have:=Ov e;have:=vt qV f;let⟨v,i⟩:=bT2 (P:=P) (n:=n+3*m+8) (ws:=ws) (a:=a) (W:=.val (bE w)) (λs x l u k h z q=>bT1 (n:=n+3*m) b bZ (λx l u k h z q=>Gz b m n (a+1) k h bZ z q) (λx l u h=>Gy h) h z q) e (k+1) [bE w] .no bZ (by show 1+_<=_;lia) bA;refine aI (k:=k+1+ ~~~l) (kQ (n:=n+3*m+11) (X:=(EX (P (n+3*m+13)) (P (n+3*m+11)) #[.row 1 ws k,bG a,(),(),()]).bind nJ) bQ ?_) (by rw[dB];lia);delta EX
  calc bA
end
theorem At.first{e:U}(q:At ws k (l++(e::r))):At ws k (l++ [e]):=At.left (l':=r) (by rwa [nQ])
theorem GA:∀zs:J U,zs.flatMap (λz=>[z])=zs| []=>rfl|z::zs=>by rw[Bc,GA zs];rfl
theorem OZ(hz:∀z∈zs,Nm z)(b:fu.any (· ==w)=bF)(c: ~~~zs<=1000)(q:At ws k (zs++(w::r))):Ok (P (n+6) .q40 [.l ws,bG k,bE w]) (.t [.t (zs.map bE),bG ((k+ ~~~zs+1:bD):bH)]):=by
 let⟨d,i⟩:=oD (ws:=ws) (t:=mB (m2 jR (pG 0 (P (n+5) .q81)) @1)) (A:=qS 0 2 (gM 0 (P (n+5) .q47) (gB))) (r:=λk a s=>[.row 1 ws k,.val (bE w),.own a]) (e:=w) (λk a s h=>bA) (λx l u k a s h q y=>by let⟨z,N,rfl,rfl,rfl⟩:=h;have:Bq z w bJ:=⟨bS9 b⟩;calc⟨bA,s,bA⟩) (fy (f:=bE) (g:=λz=>[z]) hz) 33554432 k [] .no (by rw[cA];lia) (by rw[cA];show 0+_<=_;lia) (by rw[GA];calc q.first);rw[GA]at i;replace i:Ok (rK _ _ 33554432 [.row 1 ws k,.val (bE w),.own []]) (.nx [.row 1 ws ((k+ ~~~zs:bD):bH),.val (bE w),.own (zs.map bE)]):=i;refine kQ (n:=n+3) (X:=(EV (P (n+5)) (P (n+3)) #[.row 1 ws k,bE w,()]).bind nJ) rfl ?_;delta EV
 calc bA
theorem O0(hz:∀z∈zs,Nm z)(he:(e==kw "word")=bJ)(b: ~~~zs<=1000)(q:At ws k (gZ zs++(e::r))):Ok (P (n+6) .q38 [.l ws,bG k]) (.t [.t (zs.map bE),bG ((k+ ~~~(gZ zs):bD):bH)]):=by
 have:Bq e "word" bJ:=⟨he⟩;let⟨c,i⟩:=oD (ws:=ws) (t:=mB (m2 dW (pG 0 (P (n+5) .q81)) .("word"))) (A:=bO (lZ 0 (kY 0 (P (n+5) .skip) {.("word")})) (qS 0 1 (gM 0 (P (n+5) .q47) (gB)))) (r:=λk a s=>[.row 1 ws k,.own a]) (e:=e) (λk a s h=>bA) (λx l u k a s h q y=>by let⟨z,N,rfl,rfl,rfl⟩:=h;calc⟨bA,s,(bA:Ok _ (Fl.nx [.row 1 ws ((k+1+1:bD):bH),.own (a++ [bE z])]))⟩) (fy (f:=bE) (g:=λz=>[kw "word",z]) hz) 33554432 k [] .no (by rw[cA];lia) (by rw[cA];show 0+_<=_;lia) q.first
 replace i:Ok (rK _ _ 33554432 [.row 1 ws k,.own []]) (.nx [.row 1 ws ((k+ ~~~(gZ zs):bD):bH),.own (zs.map bE)]):=i;refine kQ (n:=n+3) (X:=(ET (P (n+5)) (P (n+3)) [.row 1 ws k,.no]).bind nJ) rfl ?_;delta ET
 calc bA
theorem bT3(h:Nm p.1/\Nm p.2)(q:At ws k [kw "take",p.2,kw "from",p.1]):Ok (P (n+6) .q37 [.l ws,bG k]) (.t [p2 p,bG ((k+4:bD):bH)]):=by
 have:=h.1;have:=h.2;refine aI (k:=k+1+1+1+1) (kQ (n:=n+3) (X:=(ES (P (n+5)) (P (n+3)) [.row 1 ws k,.no]).bind nJ) bQ ?_) bQ;delta ES
 calc bA
theorem bT4(i:c.ok)(h:FD c x l u)(d: ~~~l<=1000000)(q:At ws k l):Ok (P (n+22) .q39 [.l ws,bG k]) (.t [x,bG ((k+ ~~~l:bD):bH)]):=by
 cases h with
 | @mk z b xs l u j e m o g p _=>let s:=OZ (P:=P) (n:=n+15) (k:=k+1+1+1) (ws:=ws) e (w:=kw "own") bB bZ bA;let f:=OZ (P:=P) (n:=n+15) (k:=k+1+1+1+ ~~~b+1) (ws:=ws) (zs:=[]) (w:=kw "do") (r:=l++ [kw "end"]) (λ_ h=>by cases h) bB hG (by show At ws _ (kw "do" ::(l++ [kw "end"]));calc bA);replace f:Ok (P (n+21) .q40 [.l ws,bG ((k+1+1+1+ ~~~b+1:bD):bH),bE "do"]) (.t [.t [],bG ((k+1+1+1+ ~~~b+1+1:bD):bH)]):=f;let d:(b++(kw "own" ::kw "do" ::(l++ [kw "end"]))).length+3<=1000000:=d;dsimp[cO,dB,mF]at d;let v:=Gx (P:=P) (n:=n+15) (a:=0) (k:=k+1+1+1+ ~~~b+1+1) (ws:=ws) (λx l u k h z q=>Gz (i.put e) 3 n 0 k h bZ z q) (λx l u h=>Gy h) g bZ bA;refine aI (kQ (n:=n+19) (X:=(EU (P (n+21)) (P (n+19)) [.row 1 ws k,.no,.no,.no]).bind nJ) bQ (by delta EU;calc bA)) (by dsimp[dB,cO];lia)
theorem O1{α:Type}{g:α->J U}(a:∀x,∃r,g x=b::r)(ys:J α):∃e r,ys.flatMap g++(w::l)=e::r/\(e=b\/e=w):=by
 cases ys with
 |nil=>calc⟨w,l,rfl,.inr bQ⟩|cons y ys=>let⟨r,h⟩:=a y;calc⟨b,_,by rw[Bc,h];rfl,.inl bQ⟩
theorem bT5{f:Fc}(h:f.ok)(q:At ws k f.w):Ok (P (n+7) .q35 [.l ws,bG k]) (.t [f.d,bG ((k+ ~~~f.w:bD):bH)]):=by delta Fc.w at q;have:=h.n;let m:At ws (k+1+1) (gZ f.ws++(wM f.ds++ [kw "done"])):=bA;let⟨e,r,c,j⟩:=O1 (w:=kw "done") (l:=[]) (g:=λp:U×bD=>[kw "deed",p.1,iS p.2]) (b:=kw "deed") (λ_=>⟨_,rfl⟩) f.ds;let z:=O0 (P:=P) (n:=n) (ws:=ws) (k:=k+1+1) (e:=e) (r:=r) h.w (by rcases j with rfl|rfl<;>decide+kernel) (by have:=h.lw;lia) (by rw[<-c];calc m);let v:Bq "done" "deed" bJ:=⟨bB⟩;let⟨o,i⟩:=oD (ws:=ws) (t:=mB (m2 dW (pG 0 (P (n+6) .q81)) .("deed"))) (A:=bO (lZ 0 (kY 0 (P (n+6) .skip) {.("deed")})) (bO (lQ 0 4 (gM 0 (P (n+6) .q47) (gB))) (qS 0 3 (vW cV (vV @4 (vU (gM 0 (P (n+6) .q48) (gB)))))))) (r:=λk a s=>[.row 1 ws k,.val (bE f.nm),.val (.t (f.ws.map bE)),.own a,s]) (e:=kw "done") (λk a s h=>bA) (λx l u k a s h q y=>by let⟨p,N,rfl,rfl,rfl⟩:=h;have:=N.1;have:=(As (i:=p.2) ⟨bZ,bZ⟩).r (P:=P) (n+1) (k+1+1) ws bA;calc⟨bA,.val (bE p.1),(bA:Ok _ (Fl.nx [.row 1 ws ((k+1+1+1:bD):bH),.val (bE f.nm),.val (.t (f.ws.map bE)),.own (a++ [dP p]),.val (bE p.1)]))⟩) (fy (f:=dP) (g:=λp=>[kw "deed",p.1,iS p.2]) h.d) 33554432 (k+1+1+ ~~~(gZ f.ws)) [] .no (by rw[cA];have:=h.ld;lia) (by rw[cA];have:=h.ld;show 0+_<=_;lia) (bA:At ws (k+1+1+ ~~~(gZ f.ws)) (wM f.ds++ [kw "done"]));replace i:Ok (rK _ _ 33554432 [.row 1 ws ((k+1+1+ ~~~(gZ f.ws):bD):bH),.val (bE f.nm),.val (.t (f.ws.map bE)),.own [],.no]) (.nx [.row 1 ws ((k+1+1+ ~~~(gZ f.ws)+ ~~~(wM f.ds):bD):bH),.val (bE f.nm),.val (.t (f.ws.map bE)),.own (f.ds.map dP),o]):=i;refine aI (kQ (n:=n+4) (X:=(EQ (P (n+6)) (P (n+4)) [.row 1 ws k,.no,.no,.no,.no]).bind nJ) rfl (by delta EQ Fc.d;calc bA)) (by delta Fc.w;dsimp[dB,cO,mF];lia)
theorem bT6(F:c.ok)(h:FU c d l)(v: ~~~l<=1000000)(q:At ws k l):Ok (P (n+23) .q36 [.l ws,bG k]) (.t [d,bG ((k+ ~~~l:bD):bH)]):=by
 cases h with
 | @mk z j m o l ks xs l' u h1 S h3 T h5 E h7 W h9=>
  let v:(mC j++(gZ m++(l++(kw "do" ::(l'++ [kw "end",kw "done"]))))).length+2<=1000000:=v;dsimp[cO,dB,mF]at v;let Y:At ws (k+1+1) (mC j++(gZ m++(l++(kw "do" ::(l'++ [kw "end",kw "done"]))))):=bA;let K:∃e r,l++(kw "do" ::(l'++ [kw "end",kw "done"]))=e::r/\(e=kw "deed" \/e=kw "do"):=by
   cases E with
   |nil=>calc⟨_,_,rfl,.inr rfl⟩|cons h _=>cases h;exact⟨_,_,rfl,.inl rfl⟩
  let⟨e,r,B,C⟩:=K;let⟨g,r',O,Q⟩:=O1 (w:=e) (l:=r) (g:=λz:U=>[kw "word",z]) (b:=kw "word") (λ_=>⟨_,rfl⟩) m;let I:(g==kw "take")=bJ:=by rcases Q with rfl|rfl;decide+kernel;rcases C with rfl|rfl<;>decide+kernel
  let b1:Bq g "take" bJ:=⟨I⟩;let⟨s1,G⟩:=oD (ws:=ws) (t:=mB (m2 dW (pG 0 (P (n+22) .q81)) .("take"))) (A:=qS 0 2 (gM 0 (P (n+22) .q37) (gB))) (r:=λk i s=>[.row 1 ws k,.val (bE z),.own i,.no,.no,.no]) (e:=g) (λk i s h=>bA) (λx l u k i s h q y=>by let⟨p,N,rfl,rfl,rfl⟩:=h;have:=bT3 (P:=P) (n:=n+16) N q;calc⟨bA,s,(bA:Ok _ (Fl.nx [.row 1 ws ((k+4:bD):bH),.val (bE z),.own (i++ [p2 p]),.no,.no,.no]))⟩) (fy (f:=p2) (g:=λt=>[kw "take",t.2,kw "from",t.1]) S) 33554432 (k+1+1) [] .no (by rw[cA];lia) (by rw[cA];show 0+_<=_;lia) (At.first (r:=r') (by rw[<-O, <-B];calc Y));replace G:Ok (rK _ _ 33554432 [.row 1 ws ((k+1+1:bD):bH),.val (bE z),.own [],.no,.no,.no]) (.nx [.row 1 ws ((k+1+1+ ~~~(mC j):bD):bH),.val (bE z),.own (j.map p2),.no,.no,.no]):=G;let i2:=O0 (P:=P) (n:=n+16) (ws:=ws) (k:=k+1+1+ ~~~(mC j)) (e:=e) (r:=r) T (by rcases C with rfl|rfl<;>decide+kernel) bZ (by rw[<-B];calc bA);let b2:Bq "do" "deed" bJ:=⟨bB⟩;let Z:At ws (k+1+1+ ~~~(mC j)+ ~~~(gZ m)) (l++(kw "do" ::(l'++ [kw "end",kw "done"]))):=bA
  let⟨s2,H⟩:=oD (ws:=ws) (t:=mB (m2 dW (pG 0 (P (n+22) .q81)) .("deed"))) (A:=qS 0 4 (gM 0 (P (n+22) .q39) (gB))) (r:=λk i s=>[.row 1 ws k,.val (bE z),.val (.l (j.map p2)),.val (.t (m.map bE)),.own i,.no]) (e:=kw "do") (λk i s h=>bA) (λx l u k i s h q y=>by
   have:=bT4 (P:=P) (n:=n) F h.1 h.2 q;have:Hd ws k (kw "deed"):=by cases h.1;exact bA
   calc⟨bA,s,bA⟩) (OY E (N:=1000000) bZ) 33554432 (k+1+1+ ~~~(mC j)+ ~~~(gZ m)) [] .no bZ (by show 0+_<=_;lia) Z.first
  replace H:Ok (rK _ _ 33554432 [.row 1 ws ((k+1+1+ ~~~(mC j)+ ~~~(gZ m):bD):bH),.val (bE z),.val (.l (j.map p2)),.val (.t (m.map bE)),.own [],.no]) (.nx [.row 1 ws ((k+1+1+ ~~~(mC j)+ ~~~(gZ m)+ ~~~l:bD):bH),.val (bE z),.val (.l (j.map p2)),.val (.t (m.map bE)),.own o,.no]):=H;let M:l'++ [kw "end",kw "done"]=(l'++ [kw "end"])++ [kw "done"]:=by simp
  let q4:At ws (k+1+1+ ~~~(mC j)+ ~~~(gZ m)+ ~~~l+1) ((l'++ [kw "end"])++ [kw "done"]):=M▸bA;let i4:=Gx (P:=P) (n:=n+16) (a:=0) (k:=k+1+1+ ~~~(mC j)+ ~~~(gZ m)+ ~~~l+1) (ws:=ws) (λx l u k h z q=>Gz F 3 (n+1) 0 k h bZ z q) (λx l u h=>Gy h) W bZ q4.left;refine aI (kQ (n:=n+20) (X:=(ER (P (n+22)) (P (n+20)) [.row 1 ws k,.no,.no,.no,.no,.no]).bind nJ) rfl (by delta ER;calc bA)) (by dsimp[dB,cO,mF];lia)
inductive j6(c:Cn):D->Prop
 |word {z:U}:z∈c.ws->j6 c (u3 "WORD" z 0)
 |deed {z:U} {k:_}:(z,k)∈c.ds->j6 c (u3 "DEED" z 0)
 |count {z:U} {k:_}:(z,k)∈c.ds->j6 c (u3 "COUNT" z k)
def qE(w:U):bW:=cE (~~~w<=8)&& !(Ls w).contains 32
structure Gd(c:Cn)(N:bD)(a:J U)(b:J D):Prop where
 l: ~~~a<=N
 u: ~~~b<=N
 w:∀w∈a,qE w=bF
 y:∀y∈b,j6 c y
theorem Gd.app{l:J U}{u:J D}(h:Gd c N l u)(k:Gd c M l' u'):Gd c (N+M) (l++l') (u++u'):=
 ⟨by rw[cO];calc Ss h.l k.l,by rw[cO];calc Ss h.u k.u,λw a=>(hV.mp a).elim (h.w w) (k.w w),λy b=>(hV.mp b).elim (h.y y) (k.y y)⟩
theorem Gd.nil:Gd c 0 [] []:=⟨cU _,cU _,λ_ h=>(nomatch h),λ_ h=>(nomatch h)⟩
theorem Gd.wd{w:U}(h:qE w=bF):Gd c 1 [w] []:=⟨cU _,lL _,λx a=>by rw[mM.mp a];calc h,λ_ h=>(nomatch h)⟩
theorem Gd.use(h:j6 c x):Gd c 1 [] [x]:=⟨lL _,cU _,λ_ h=>(nomatch h),λy a=>by rw[mM.mp a];calc h⟩
theorem Gd.le{l:J U}{u:J D}(h:Gd c N l u)(k:N<=M):Gd c M l u:=⟨hE h.l k,hE h.u k,h.w,h.y⟩
theorem Gd.wu{w:U}(h:qE w=bF)(k:j6 c x):Gd c 1 [w] [x]:=⟨cU _,cU _,(Gd.wd (c:=c) h).w,(Gd.use k).y⟩
theorem wN(N:Nm z):qE z=true:=by
 delta qE;rw[kF N.l.2,tZ];cases q:(Ls z).contains 32 with
 |false=>rfl|true=>have:=N.e;delta zO tJ at this;rw[gD]at this;have:=mE.mp this.1 32 (sK.mp q);cases this
theorem Au(h:uN i):qE (iS i)=true:=by
 let t:=As h;delta qE;rw[kF (by have:=t.l.2;lia),tZ];cases q:(Ls (iS i)).contains 32 with
 |false=>rfl|true=>calc dD (sK.mp q) t.b
theorem oE(a:∀x l u,R x l u->Gd c N l u)(h:FP R xs l u):Gd c (~~~xs*N) l u:=by
 induction h with
 |nil=>calc Gd.nil.le (lL _)|cons h _ b=>rw[dB,SH,SL];calc(a _ _ _ h).app b
noncomputable def eN:bD->bD|0=>0|m+1=>3+4*eN m
theorem uX(a:c.ok):∀m {d l u},FE c m d l u->Gd c (eN m) l u
 |0,_,_,_,h=>h.elim|m+1,_,_,_,.num h=>(Gd.wd (Au h)).le (by delta eN;lia)|m+1,_,_,_,.nam h=>(Gd.wu (wN (a.w _ h)) (.word h)).le (by delta eN;lia)|m+1,_,_,_,.call (xs:=xs) h j=>by
  let f: ~~~xs<=4:=(a.d _ h).2;let b:=oE (λx l u h=>uX a m h) j;let e:=(((Gd.wu (c:=c) (w:=kw "call") bB (.deed h)).app ((Gd.wd (c:=c) (wN (a.d _ h).1)).app (Gd.wd (Au (i:=xs.length) ⟨bZ,bZ⟩)))).app b).app (Gd.use (.count h));refine⟨?_,?_,λw k=>e.w w ?_,λy n=>e.y y ?_⟩
  .have:=b.l;have:=kg (eN m) f;dsimp[dB];delta eN;lia
  .have:=b.u;have:=kg (eN m) f;dsimp[dB,cO,mF];delta eN;lia
  .simpa using k
  simpa using n
 |m+1,_,_,_,.bin (s:=s) h b e=>by let g:=(Gd.wd (c:=c) (show qE s=bF by rcases jz h with rfl|rfl|rfl|rfl|rfl<;>decide+kernel)).app ((uX a m b).app (uX a m e));calc g.le (by show _<=3+4*eN m;lia)
noncomputable def sN(s:U):bD:=if s== "EXPRESSION" then 63 else if s== "PARTS" then 253 else 1
noncomputable def bN(s:U):bD:=if s== "BLOCK" then 1 else 0
theorem bT7(a:c.ok)(f:∀x l u,R x l u->Gd c N l u)(h:rP c R s x l u):Gd c (sN s+bN s*(4*N)) l u:=by
 cases h with
 |word h=>calc(Gd.wu (wN (a.w _ h)) (.word h)).le (by rw[show sN _=1 from by decide+kernel];lia)|deed h=>calc(Gd.wu (wN (a.d _ h).1) (.deed h)).le (by rw[show sN _=1 from by decide+kernel];lia)|expr h=>calc(uX a 3 h).le (by rw[show sN _=63 from by decide+kernel,show eN 3=63 from bQ];lia)|parts e h=>calc((Gd.wd (c:=c) (Au ⟨bZ,bZ⟩)).app (oE (λx l u h=>uX a 3 h) h)).le (by rw[show sN _=253 from by decide+kernel,show eN 3=63 from bQ];lia)| @block xs l u e h=>let b:=(oE f h).app (Gd.wd (c:=c) (w:=kw "end") bB);rw[jF]at b;have:=kg N e;calc b.le (by rw[show sN _=1 from by decide+kernel,show bN _=1 from by decide+kernel];lia)
theorem bT8(e:c.ok)(d:∀x l u,R x l u->Gd c N l u)(h:FF c R f xs l u):(∀s∈f,qV s=bJ->qE s=bF)->Gd c ((f.map sN).sum+(f.map bN).sum*(4*N)) l u:=by
 induction h with
 |nil=>calc λ_=>Gd.nil.le (lL _)| @kept s f xs l u h _ b=>
  intro k;refine((Gd.wd (k s fF h)).app (b λt a=>k t (fM _ a))).le ?_;have:1<=sN s:=by delta sN;split;lia;split<;>lia
  dsimp[fY,we,S5];lia
 | @part s x l u f xs l' u' h _ b=>intro k;refine((bT7 e d h).app (b λt a=>k t (fM _ a))).le ?_;dsimp[fY,we,S5];lia
def O2(p:U×D):bW:=match p.2 with
 | .t l=>qE p.1&&l.all λx=>match x with
  |bE s=>qV s||qE s|_=>bJ
 |_=>bJ
def O3(p:U×D):bW:=match p.2 with| .t l=>cE ((l.map λx=>match x with|bE s=>sN s|_=>0).sum<=254)&&cE ((l.map λx=>match x with|bE s=>bN s|_=>0).sum<=2)|_=>bJ
theorem GB{p:U×D->bW}:∀{t:J (U×D)},t.all p=bF->t.lookup w=L d->p (w,d)=bF
 | [],_,h=>by cases h|q::t,k,h=>by
  rw[lA,gD]at k;rw[lJ]at h;symm
  .rename_i e;rw[kI e, <-kE h];exact k.1
  calc GB k.2 h
noncomputable def kN:bD->bD|0=>0|m+1=>256+8*kN m
theorem Av(j:c.ok):∀m {d l u},FS c m d l u->Gd c (kN m) l u
 |0,_,_,_,h=>h.elim|m+1,_,_,_,.mk (w:=w) (f:=f) (v:=v) k q y=>by
  let b:=GB (p:=O2) bB k;let a:=GB (p:=O3) bB k;delta O2 at b;delta O3 at a;dsimp only at b a;rw[gD]at b a;let e:∀g:U->bD,((f.map bE).map λx=>match x with|bE s=>g s|_=>0).sum=(f.map g).sum:=λg=>by rw[kM];rfl
  rw[e,e]at a;let n:=bT8 j (λx l u h=>Av j m h) q λs t r=>by have:=mE.mp b.2 (bE s) (gO.mpr ⟨s,t,rfl⟩);dsimp only at this;rw[r]at this;exact this
  let o:Gd c 1 [] v:=by
   cases y with
   |dos h=>calc Gd.use (.count h)|new h=>calc Gd.use (.count h)|other _ _=>exact Gd.nil.le hG
  let i:=((Gd.wd (c:=c) b.1).app n).app o;rw[jF]at i;let z:=kR a.1;let A:=kg (4*kN m) (kR a.2);calc i.le (by show _<=256+8*kN m;lia)
section
variable{c:Cn}{n k:bD}{l:J U}{d:D}{f:Fc}{t:U}{O:cQ}{g:ME}{ws:J D}
theorem GC:∀{l},(∀w∈l,qE w=bF)-> ~~~(qX l)<=9* ~~~l
 | [],_=>cU _|w::l,h=>by
  let a:=h w fF;delta qE at a;rw[gD]at a;have:=kR a.1;have:=GC λx b=>h x (fM _ b)
  have:=tK w;dsimp[qX,dB,cO];lia
noncomputable abbrev jn(l:J U):U:=pu " " l
theorem O4: ~~~(jn l)<= ~~~(qX l):=by rw[show(jn l).length= ~~~(tl l) from by rw[<-Gw l];rfl];calc bR7 l
theorem O5(a:∀w∈l,qE w=bF)(c: ~~~l<=1000000):Ok (iZ " " [.l (l.map bE)]) (bE (jn l)):=⟨by let b:=GC a;let d:=vA;dsimp[iZ,OF];calc cK ⟨bR6 _ _ (by show(l.map λw=> ~~~w+1).sum<=_;rw[<-ON];lia),hE O4 bZ⟩⟩
theorem O6(a:∀w∈l,qE w=bF)(f: ~~~l<=1000000)(b:l≠ []):Ok (fc (bE (jn l))) (l.map bE):=⟨by
 let c:=GC a;let g:=vA;let d:=O4 (l:=l);let e:yL (jn l) " " =l:=bR9 b (λw h k=>by have:=a w h;delta qE at this;rw[gD,sK.mpr k]at this;cases this.2) (Gw l);have:m7 (jn l) [bE " "]= .ok (.l (l.map bE)):=by delta m7;dsimp only;rw[cK ⟨bB,bZ⟩,e]
 delta fc;dsimp only;rw[this]⟩
instance [q:Ok (g O) d] [r:Ok (fc d) ws]:Ok (tu g O) (.row ws ((0:bD):bH)):=⟨by delta tu;rw[q.e];show bP.bind (fc d) _=_;rw[r.e];rfl⟩
theorem GD:At (l.map bE) 0 l:=⟨[],by simp⟩
theorem uY{α:Type}{g:α->J U}{k:bD}(a:∀x,~~~(g x)=k):∀l:J α,~~~(l.flatMap g)=k* ~~~l| []=>rfl|x::l=>by rw[Bc,cO,uY a l,a,dB,SJ];lia
theorem bT9(h:f.ok):(∀w∈f.w,qE w=bF)/\~~~f.w<=100:=by
 constructor
 .intro w a;delta Fc.w gZ wM at a;dsimp[jJ,hV,RP,aU,aZ]at a;rcases a with rfl|rfl|⟨z,c,rfl|rfl⟩|⟨p,b,rfl|rfl|rfl⟩|rfl
  .decide+kernel
  .exact wN h.n
  .decide+kernel
  .exact wN (h.w _ c)
  .decide+kernel
  .exact wN (h.d _ b).1
  .exact Au ⟨bZ,by have:=(h.d _ b).2;lia⟩
  decide+kernel
 have:=h.lw;have:=h.ld;delta Fc.w gZ wM;dsimp[dB,cO,uY (g:=λz:U=>[kw "word",z]) (k:=2) λ_=>rfl,uY (g:=λp:U×bD=>[kw "deed",p.1,iS p.2]) (k:=3) λ_=>rfl,mF];lia
theorem bU0(j:c.ok)(h:FD c x l u):(∀w∈l,qE w=bF)/\~~~l<=74765:=by
 cases h with
 | @mk z n o l u d b k m f i _=>
  let g:=oE (λx l u h=>Av (j.put b) 3 h) f;have:=kg (kN 3) i;let e:kN 3=18688:=rfl;constructor
  .intro w a;dsimp[jJ,hV,aU,aZ]at a;rcases a with rfl|rfl|rfl|a|rfl|rfl|a|rfl
   .decide+kernel
   .exact wN d
   .decide+kernel
   .exact wN (b _ a)
   .decide+kernel
   .decide+kernel
   .exact g.w _ a
   decide+kernel
  have:=g.l;dsimp[dB,cO,mF];lia
theorem bU1(e:c.ok)(h:FP (FD c) xs l u):(∀w∈l,qE w=bF)/\~~~l<= ~~~xs*74765:=by
 induction h with
 |nil=>calc⟨λ_ h=>(nomatch h),lL _⟩|cons h _ d=>let⟨a,b⟩:=bU0 e h;calc⟨λw f=>(hV.mp f).elim (a w) (d.1 w),by rw[cO,dB];have:=d.2;lia⟩
theorem bU2(j:c.ok)(h:FU c d l):(∀w∈l,qE w=bF)/\~~~l<=1000000:=by
 cases h with
 | @mk z I H n l F K G u o i B q C r E s v=>
  let⟨a,b⟩:=bU1 j r;let g:=oE (λx l u h=>Av j 3 h) s;have:=kg (kN 3) v;let e:kN 3=18688:=rfl;constructor
  .intro w f;delta mC gZ at f;dsimp[jJ,hV,RP,aU,aZ]at f;rcases f with rfl|rfl|⟨p,m,rfl|rfl|rfl|rfl⟩|⟨y,A,rfl|rfl⟩|f|rfl|f|rfl|rfl
   .decide+kernel
   .exact wN o
   .decide+kernel
   .exact wN (i _ m).2
   .decide+kernel
   .exact wN (i _ m).1
   .decide+kernel
   .exact wN (q _ A)
   .exact a _ f
   .decide+kernel
   .exact g.w _ f
   .decide+kernel
   decide+kernel
  have:=g.l;delta mC gZ;dsimp[dB,cO,mF,uY (g:=λt:U×U=>[kw "take",t.2,kw "from",t.1]) (k:=4) λ_=>rfl,uY (g:=λz:U=>[kw "word",z]) (k:=2) λ_=>rfl];lia
theorem O7(h:f.ok):Ok (P (n+10) .q51 [f.d]) (bE (jn f.w))/\Ok (P (n+10) .read [bE (jn f.w)]) f.d:=by
 let⟨a,b⟩:=bT9 h;let c:=OH (P:=P) (n:=n) h;let e:=bR4 (P:=P) (n:=n+5) h bZ;let g:=O5 a bZ;let i:=O6 a bZ (by delta Fc.w;simp);let q:At (f.w.map bE) 0 (kw "face" ::f.nm::(gZ f.ws++(wM f.ds++ [kw "done"]))):=GD;let j:=bT5 (P:=P) (n:=n+2) (k:=0) h GD;let l:=OR (P:=P) (n:=n+6) (ws:=f.w.map bE) (k:=0+ ~~~f.w) (by simp);constructor
 .refine kQ (n:=n+7) (X:=(uK (P (n+9)) (P (n+7)) #[f.d]).bind lF) bQ ?_;delta uK
  exact bA
 refine kQ (n:=n+7) (X:=(uJ (P (n+9)) (P (n+7)) #[bE (jn f.w),(),()]).bind lF) bQ ?_;delta uJ
 calc bA
theorem bU3(e:c.ok)(h:FU c d l):Ok (P (n+37) .q51 [d]) (bE (jn l))/\Ok (P (n+37) .read [bE (jn l)]) d:=by
 let a:=bU2 e h;let⟨f,g⟩:=OI (P:=P) (n:=n) e h;let i:=bR5 (P:=P) (n:=n+13) e h a.2;let j:=O5 a.1 a.2;let m:=O6 a.1 a.2 (by cases h;simp);let o:=bT6 (P:=P) (n:=n+13) (k:=0) e h a.2 GD;let p:=OR (P:=P) (n:=n+33) (ws:=l.map bE) (k:=0+ ~~~l) (by simp);let b:Bq "unit" "face" bJ:=⟨bB⟩;let q:Hd (l.map bE) 0 (kw "unit"):=by cases h;exact⟨rfl⟩
 constructor
 .refine kQ (n:=n+34) (X:=(uK (P (n+36)) (P (n+34)) #[d]).bind lF) bQ ?_;delta uK
  exact bA
 refine kQ (n:=n+34) (X:=(uJ (P (n+36)) (P (n+34)) #[bE (jn l),(),()]).bind lF) bQ ?_;delta uJ
 calc bA
end
theorem O8(h: ~~~(a++b)<=1000000):Ok (cL (.l a) (.l b)) (.l (a++b)):=⟨cK (sJ (by rw[<-cO];calc h))⟩
theorem GE(h:FP R xs l u)(b:∀x l u,R x l u-> ~~~u<=1000000->Ok (P (n+2) .q32 [x]) (.l u))(d: ~~~u<=1000000):Ok (P (n+3) .q33 [.t xs]) (.l u):=by
 let⟨c,q⟩:=fw (o:=oU) (r:=λa s=>[.val (.t xs),.own a,s]) (i:=2) (A:=lP 1 (mA (P (n+2) .q32) {@2})) (λ_ _ _=>rfl) (λx l u a h k=>by
  let k: ~~~a+ ~~~u<=1000000:=k;have:=b _ _ _ h bZ;have:=jD k
  calc bA) h [] .no (by show 0+ ~~~u<=_;lia)
 replace q:Ok (turns 2 _ xs [.val (.t xs),.own [],.no]) (.nx [.val (.t xs),.own u,c]):=q;refine fG (g:=EO (P (n+2)) (P n)) (O:= #[.t xs,(),()]) bQ (q:=?_);delta EO
 calc bA
theorem Aw:∀m n {d l u},FE c m d l u-> ~~~u<=1000000->Ok (P (n+2*m+2) .q32 [d]) (.l u)
 |0,_,_,_,_,h,_=>h.elim|m+1,n,d,l,u,h,e=>by
  let g:∀d l,Ok (EM (P (n+2*m+3)) (P (n+2*m+1)) #[d,(),(),()]) (.rt (.l l))->Ok (P (n+2*m+1+3) .q32 [d]) (.l l):=λd l q=>fG (q:=q) bQ
  apply g;delta EM;cases h with
  |num h=>calc bA|nam h=>calc bA| @call z xs l u h o=>
   let e:(u++ [u3 "COUNT" z (~~~xs)]).length+1<=1000000:=e;rw[cO,vq]at e;have:=GE (P:=P) (n:=n+2*m) o (λx l u h k=>Aw m n h k) bZ;let f:Ok (cL (.l [u3 "DEED" z 0]) (.l u)) (.l ([u3 "DEED" z 0]++u)):=O8 (by rw[cO,vq];lia);let p:Ok (cL (.l ([u3 "DEED" z 0]++u)) (.l [u3 "COUNT" z (~~~xs)])) (.l (u3 "DEED" z 0::(u++ [u3 "COUNT" z (~~~xs)]))):=O8 (a:=[u3 "DEED" z 0]++u) (by dsimp[cO,vq];lia)
   calc bA
  | @bin s a b l u l' r h i j=>
   have:Sg _:=⟨h⟩;let f:=GE (P:=P) (n:=n+2*m) (FP.cons i (FP.cons j .nil)) (λx l u h k=>Aw m n h k) (by rw[jF];calc e);rw[jF]at f
   calc bA
theorem O9(h:FP R xs l u)(b:∀x l u,R x l u-> ~~~u<=1000000->Ok (P (n+2) .q30 [x]) (.l u))(d: ~~~u<=1000000):Ok (P (n+3) .q29 [.t xs]) (.l u):=by
 let⟨c,q⟩:=fw (o:=oU) (r:=λa s=>[.val (.t xs),.own a,s]) (i:=2) (A:=lP 1 (mA (P (n+2) .q30) {@2})) (λ_ _ _=>rfl) (λx l u a h k=>by
  let k: ~~~a+ ~~~u<=1000000:=k;have:=b _ _ _ h bZ;have:=jD k
  calc bA) h [] .no (by show 0+ ~~~u<=_;lia)
 replace q:Ok (turns 2 _ xs [.val (.t xs),.own [],.no]) (.nx [.val (.t xs),.own u,c]):=q;refine fG (g:=EJ (P (n+2)) (P n)) (O:= #[.t xs,(),()]) bQ (q:=?_);delta EJ
 calc bA
theorem bU4(b:∀x l u,R x l u-> ~~~u<=1000000->Ok (P (n+9) .q30 [x]) (.l u))(h:rP c R s x l u)(a: ~~~u<=1000000):Ok (P (n+11) .q31 [bE s,x]) (.l u):=by
 refine fG (n:=n+8) (g:=EL (P (n+10)) (P (n+8))) (O:= #[bE s,x]) bQ (q:=?_);delta EL cy;cases h with
 |word h=>calc bA|deed h=>calc bA|expr h=>have:=Aw (P:=P) 3 (n+2) h a;calc bA|parts d h=>have:=GE (P:=P) (n:=n+7) h (λx l u h k=>Aw 3 (n+1) h k) a;calc bA|block _ h=>have:=O9 (P:=P) (n:=n+7) h b a;calc bA
theorem bU5(j:∀s x l u,rP c R s x l u-> ~~~u<=1000000->Ok (C .q31 [bE s,x]) (.l u))(h:FF c R f xs l u):∀acc p q,~~~acc+ ~~~u<=1000000->∃e g,Ok (hO 2 3 (uB C) (pairD ((f.filter qV).map bE) xs) [X,.own acc,p,q]) (.nx [X,.own (acc++u),e,g]):=by
 induction h with
 |nil=>calc λacc p q _=>⟨p,q,by rw[jF];calc⟨rfl⟩⟩|kept h _ d=>rw[rC,h];calc d| @part s x l u f xs l' m h _ d=>intro acc p q k;rw[cO]at k;rw[rC,cK (uP h)];have:=j _ _ _ _ h bZ;let⟨e,g,i⟩:=d (acc++u) (.val (bE s)) (.val x) (by rw[cO];lia);have:=jD (a:=acc.length) (b:=u.length) bZ;rw[nQ]at i;calc⟨e,g,(bA:Ok (hO 2 3 (uB C) (.t [bE s,x]::pairD ((f.filter qV).map bE) xs) _) _)⟩
theorem Pb:∀m n {d l u},FS c m d l u-> ~~~u<=1000000->Ok (P (n+3*m+9) .q30 [d]) (.l u)
 |0,_,_,_,_,h,_=>h.elim|m+1,n,_,_,_,.mk (w:=w) (f:=f) (xs:=xs) (u:=u) (v:=v) y p r,e=>by
  rw[cO]at e;let F:Sf w f:=⟨y⟩;let⟨z,A,i⟩:=bU5 (C:=P (n+3*m+11)) (X:=.val (.t (bE w::xs))) (λs x l u h k=>bU4 (n:=n+3*m) (λx l u h k=>Pb m n h k) h k) p [] .no .no (by show 0+_<=_;lia);replace i:Ok (hO 2 3 _ (pairD ((f.filter qV).map bE) xs) [.val (.t (bE w::xs)),.own [],.no,.no]) (.nx [.val (.t (bE w::xs)),.own u,z,A]):=i;refine fG (n:=n+3*m+9) (g:=EK (P (n+3*m+11)) (P (n+3*m+9))) (O:= #[.t (bE w::xs),(),(),()]) bQ (q:=?_);delta EK;let B:Bq "do" "new" bJ:=⟨bB⟩;let E:Bq "new" "do" bJ:=⟨bB⟩;cases r with
  |dos h=>have:=jD (a:=u.length) (b:=1) e;calc bA|new h=>have:=jD (a:=u.length) (b:=1) e;calc bA|other j o=>have:Bq w "do" bJ:=⟨j⟩;have:Bq w "new" bJ:=⟨o⟩;rw[jF];calc bA
class Tg(T:R.Tab)(k:U)(d:vE D):Prop where
 e:cZ T k=L d
class Tn(T:R.Tab)(k:U):Prop where
 e:k∉T.map (·.1)
class Pt(T:R.Tab)(k:U)(v:D)(T':vE R.Tab):Prop where
 e:hU T k v=T'
section
variable{O ρ' ρ1 ρ2:cQ}{i j n:bD}{f g:ME}{x y d e:D}{ds es xs:J D}{k z:U}{T T':R.Tab}{p:bD}{b:bW}{s s':Ob}{t:MT}{fa:MA}{m:J D->bP D}{h:MX}{A:MS}{a:bH}{gn hn:MN}
theorem cz:∀{T},(T.map (·.1)).Nodup->(k,d)∈T->cZ T k=L d
 | [],_,h=>by cases h|q::T,n,h=>by
  rw[fY,tV]at n;delta cZ;rw[zR];rcases jJ.mp h with rfl|h
  .simp
  have: ¬ q.1=k:=λe=>n.1 (gO.mpr ⟨_,h,e.symm⟩)
  rw[jI this];calc cz n.2 h
theorem Ax(h:cZ T k=some d):k∈T.map (·.1):=by
 delta cZ at h;cases q:T.find? (λp=>cE (p.1=k))with
 |none=>rw[q]at h;cases h|some r=>
  have:r.1=k:=by simpa using HR q
  calc gO.mpr ⟨r,QG q,this⟩
instance [q:Tg T k d]:Ok (dN (cJ T) (bE k)) d:=⟨by delta cJ dN;dsimp only;rw[lR,q.e]⟩
instance [q:Tg T k d]:Ok (dT bF (bE k) (cJ T)) (.b bJ):=⟨by delta cJ dT;dsimp only;rw[sK.mpr (Ax q.e)];rfl⟩
instance [q:Tg T k d]:Ok (dT bJ (bE k) (cJ T)) (.b bF):=⟨by delta cJ dT;dsimp only;rw[sK.mpr (Ax q.e)];rfl⟩
instance [q:Tn T k]:Ok (dT false (bE k) (cJ T)) (.b false):=⟨by
 delta cJ dT;dsimp only
 rw[show(T.map (·.1)).contains k=false from by
  cases h:(T.map (·.1)).contains k with
  |false=>rfl
  |true=>calc dD (sK.mp h) q.e];rfl⟩
theorem Ay(h:k∉T.map (·.1)):hU T k d=T++ [(k,d)]:=by delta hU;rw[cX];intro q;let⟨r,a,b⟩:=wS.mp q;calc h (gO.mpr ⟨r,a,kR b⟩)
instance [q:Tn T k]:Pt T k d (T++ [(k,d)]):=⟨Ay q.e⟩
theorem Pc(n:(T.map (·.1)).Nodup)(h:(k,d)∈T):hU T k d=T:=by
 delta hU;rw[cK (wS.mpr ⟨_,h,kF bQ⟩)];refine(kh λr c=>?_).trans (IG _);by_cases e:r.1=k
 .rw[cK e];let b:=cz n h;let a:=cz n (show(k,r.2)∈T by rw[<-e];calc c);rw[b]at a;rw[kE a];rfl
 rw[cX e];rfl
instance [q:Ok (g O) e] [r:Ok (f O) (bE k)] [o:gC O i (.dic p T)] [z:Sz (~~~T+1)] [u:Pt T k e T'] [v:gS O i (.dic p T') ρ']:Ok (mJ i f g O) (.nx ρ'):=⟨by delta mJ;rw[q.e];show bP.bind (f O) _=_;rw[r.e];show tw i e (bE k) O=_;delta tw;rw[o.e];dsimp only;rw[cK (show ~~~T<cR from z.e),u.e,v.e]⟩
instance [o:gC O i (.obj p s)] [q:Od s d] [u:gS O i (.val d) ρ'] [r:Ok (t ρ') b]:Ok (kK i t O) b:=⟨by delta kK;rw[o.e];dsimp only;rw[q.e];dsimp only;rw[u.e];calc r.e⟩
instance [o:gC O i (.dic p T)] [q:Ok (fa O) ds] [r:Ok (m (cJ T::ds)) (.t [d,cJ T'])]:Ok (gM i m fa O) (d,.tab T'):=⟨by delta gM;rw[o.e];dsimp only;rw[q.e];show Ob.dec (.tab T) (m (cJ T::ds))=_;rw[r.e];show bP.ok (d,Ob.tab ((T'.map (·.1)).zip (T'.map (·.2))))=_;rw[lR]⟩
instance [o:gC O n (.dic 1 T)]:Ok (fh n (.rr d O)) (.t [d,cJ T]):=⟨by delta fh t5;dsimp only;rw[o.e];rfl⟩
instance [q:Ok (f O) (bE k)] [o:gC O i (.dic p T)] [r:Tg T k d]:Ok (nz i f O) (d,.tab (tDrop T k)):=⟨by delta nz;rw[q.e];show zb (bE k) O[i]? =_;rw[o.e];delta zb;dsimp only;rw[r.e]⟩
instance {m:D->D->bP D} [o:gC O i (.obj p s)] [q:Ok (h O) (d,s')] [u:gS O i (.obj p s') ρ1] [r:Ok (f ρ1) e] [v:Ok (m d e) (.b bJ)]:Ok (sv i h m f A O) (.nx ρ1):=⟨by delta sv;rw[uU o q u,r.e];dsimp[bP.bind,v.e,xQ];rfl⟩
instance:Ok (aE O) (.tab []):=⟨rfl⟩
instance [q:Ok (t O) bF] [r:Ok (gn O) s]:Ok (iY t gn hn O) s:=⟨by delta iY;rw[q.e];calc r.e⟩
instance [q:Ok (t O) bJ] [r:Ok (hn O) s]:Ok (iY t gn hn O) s:=⟨by delta iY;rw[q.e];calc r.e⟩
instance [q:Ok (f O) d] [r:Ok (fe d) s]:Ok (fg f O) s:=⟨by delta fg;rw[q.e];calc r.e⟩
instance:Ok (fe (cJ T)) (.tab T):=⟨by delta cJ fe;dsimp only;rw[lR]⟩
instance [q:Ok (fa O) ds] [r:Ok (m ds) (cJ T)]:Ok (n5 m fa O) (.tab T):=⟨by delta n5;rw[q.e];show zc (m ds)=_;rw[r.e];delta cJ zc;dsimp only;rw[lR]⟩
instance [o:gC O i (.obj 0 s)]:Ok (n3 i O) (.rn s):=⟨by delta n3;rw[o.e];rfl⟩
instance:Ok (zd (.rn (.tab T))) (cJ T):=⟨rfl⟩
instance:Ok (gJ [cJ T]) (bG (~~~T)):=⟨by delta cJ gJ;dsimp only;rw[cA]⟩
end
abbrev mW:D:=aG
noncomputable abbrev mD(k:bD):D:=.t [bE "DEED",bG k]
structure Tq(T:R.Tab)(c:Cn):Prop where
 n:(T.map (·.1)).Nodup
 w:∀z∈c.ws,(z,mW)∈T
 d:∀p∈c.ds,(p.1,mD p.2)∈T
theorem bU6(q:Tq T c)(h:j6 c y):Ok (P (n+3) .q28 [y,cJ T]) .n:=by
 let a:Bq "WORD" "COUNT" bJ:=⟨bB⟩;let b:Bq "DEED" "COUNT" bJ:=⟨bB⟩;cases h with
 | @word z h=>
  have:Tg T z (.t [bE "WORD",bG 0]):=⟨cz q.n (q.w _ h)⟩;refine fG (g:=jt (P (n+2)) (P n)) (O:= #[u3 "WORD" z 0,cJ T,(),()]) bQ (q:=?_);delta jt
  calc bA
 | @deed z k h=>
  have:Tg T z (mD k):=⟨cz q.n (q.d _ h)⟩;refine fG (g:=jt (P (n+2)) (P n)) (O:= #[u3 "DEED" z 0,cJ T,(),()]) bQ (q:=?_);delta jt
  calc bA
 | @count z k h=>
  have:Tg T z (mD k):=⟨cz q.n (q.d _ h)⟩;have:Iq (k:bH) k bF:=⟨sL _⟩;refine fG (g:=jt (P (n+2)) (P n)) (O:= #[u3 "COUNT" z k,cJ T,(),()]) bQ (q:=?_);delta jt
  calc bA
theorem Pe{C:CT}{X:Slot}:∀{u},(∀y∈u,Ok (C .q28 [y,cJ T]) .n)->∀p q,∃a b,Ok (turns 2 (fB C) u [X,.val (cJ T),p,q]) (.nx [X,.val (cJ T),a,b])| [],_,p,q=>⟨p,q,bA⟩|y::u,h,p,q=>by have:=h y fF;let⟨a,b,i⟩:=Pe (X:=X) (λx c=>h x (fM _ c)) (.val y) (.val .n);calc⟨a,b,bA⟩
theorem Pf(a:c.ok)(q:Tq T c)(h:FP (FS c 3) xs l u)(b: ~~~xs<=9):Ok (P (n+22) .q27 [.t xs,cJ T]) .n:=by
 let g:=oE (λx l u h=>Av a 3 h) h;have:=kg (kN 3) b;let e:kN 3=18688:=rfl;let f:=O9 (P:=P) (n:=n+18) h (λx l u h k=>Pb 3 (n+2) h k) (by have:=g.u;lia);let⟨j,m,i⟩:=Pe (C:=P (n+21)) (T:=T) (X:=.val (.t xs)) (λy d=>bU6 (n:=n+18) q (g.y y d)) .no .no;refine fG (n:=n+19) (g:=EI (P (n+21)) (P (n+19))) (O:= #[.t xs,cJ T,(),()]) bQ (q:=?_);delta EI
 calc bA
theorem uZ{α:Type}{A:MS}{k:α->U}{v d:α->D}{i:bD}{r:R.Tab->Slot->cQ}(c:∀T s x,(r T s).set i (.val x)=r T (.val x))(b:∀a T,Tn T (k a)->Sz (~~~T+1)->Ok (A (r T (.val (d a)))) (.nx (r (T++ [(k a,v a)]) (.val (d a))))):∀(l:J α) (T:R.Tab) (s:Slot),(T.map (·.1)++l.map k).Nodup-> ~~~T+ ~~~l<=1000->∃s',Ok (turns i A (l.map d) (r T s)) (.nx (r (T++l.map λa=>(k a,v a)) s'))
 | [],T,s,_,_=>⟨s,by rw[zU,zU,jF];calc bA⟩|a::l,T,s,h,f=>by
  rw[fY]at h;rw[dB]at f;let e:k a∉T.map (·.1):=λq=>(pM.mp h).2.2 _ q _ fF bQ
  let g:=b a T ⟨e⟩ (jD bZ);let⟨s',j⟩:=uZ c b l (T++ [(k a,v a)]) (.val (d a)) (by rw[lK,nQ];calc h) (by rw[cO];show _+1+_<=_;lia);have:gS (r T s) i (.val (d a)) (r T (.val (d a))):=⟨c _ _ _⟩;refine⟨s',?_⟩;rw[fY,fY,show T++((k a,v a)::l.map λa=>(k a,v a))=T++ [(k a,v a)]++l.map λa=>(k a,v a)from by simp]
  calc bA
section
variable{c:Cn}{n:bD}{T W F:R.Tab}{x y:D}{xs u dds ys:J D}{l ow:J U}{f:Fc}{i:bD}{A:MS}{O ρ1:cQ}{fl:Fl}{un:U}
theorem bU7(N:c.ok)(q:Tq T c)(O:∀z∈T.map (·.1),z∈c.ks)(Z: ~~~T<=900)(h:FD c x l u):∀s3 j s5,∃m o y,Ok ((bO (mQ 3 (fg @1)) (bO (jQ 4 (fE (m2 cL (2^^^1) (2^^^2))) (mJ 3 @4 (kc aG))) (bO (kD 3) (bO (dQ 5 (mA (P (n+22) .q27) {2^^^3,@3})) (cI (mB (m2 (jX bF) @5 (kc .n))) (cF @5) (cN)))))) [X,.val (cJ T),.val x,s3,j,s5]) (.nx [X,.val (cJ T),.val x,m,o,y]):=by
 intro s3 j s5;cases h with
 | @mk z f xs l u F B G W H Y I=>
  let C:(T.map (·.1)++f.map λz=>z).Nodup:=by rw[o8];exact pM.mpr ⟨q.n,G,λa K b M e=>I b M (e▸O a K)⟩
  let⟨S,i⟩:=uZ (A:=mJ 3 @4 (kc aG)) (k:=λz:U=>z) (v:=λ_=>mW) (d:=bE) (i:=4) (r:=λE s=>[X,.val (cJ T),.val (.t [bE z,.t (f.map bE),.t [],.t xs]),.dic 0 E,s,s5]) (λ_ _ _=>rfl) (λa T F B=>bA) f T j C bZ;replace i:Ok (turns 4 _ (f.map bE) [X,.val (cJ T),.val (.t [bE z,.t (f.map bE),.t [],.t xs]),.dic 0 T,j,s5]) (.nx [X,.val (cJ T),.val (.t [bE z,.t (f.map bE),.t [],.t xs]),.dic 0 (T++f.map λa=>(a,mW)),S,s5]):=i;let i5:Ok (cL (.t (f.map bE)) (.t [])) (.t (f.map bE)):=⟨by show(if _ then _ else _)=_;rw[cK (sJ (by rw[cA,mF];lia)),jF]⟩
  let i6:=Pf (P:=P) (n:=n) (T:=T++f.map λa=>(a,mW)) (N.put B) ⟨by rw[lK,kM];exact C,λz g=>by
   rcases hV.mp g with g|g
   .exact mL _ (q.w z g)
   calc mK _ (gO.mpr ⟨z,g,rfl⟩),λp Q=>mL _ (q.d p Q)⟩ H bZ
  calc⟨_,_,_,bA⟩
theorem bU8(s:c.ok)(q:Tq T c)(t:∀z∈T.map (·.1),z∈c.ks)(v: ~~~T<=900)(h:FP (FD c) dds l u):∀b s3 a s5,∃d e f g,Ok (turns 2 (bO (mQ 3 (fg @1)) (bO (jQ 4 (fE (m2 cL (2^^^1) (2^^^2))) (mJ 3 @4 (kc aG))) (bO (kD 3) (bO (dQ 5 (mA (P (n+22) .q27) {2^^^3,@3})) (cI (mB (m2 (jX bF) @5 (kc .n))) (cF @5) (cN)))))) dds [X,.val (cJ T),b,s3,a,s5]) (.nx [X,.val (cJ T),d,e,f,g]):=by
 induction h with
 |nil=>calc λb s3 a s5=>⟨b,s3,a,s5,bA⟩| @cons x l u xs B C h _ w=>intro b s3 a s5;let⟨i,j,k,y⟩:=bU7 (P:=P) (n:=n) (X:=X) s q t v h s3 a s5;let⟨m,o,p,r,A⟩:=w (.val x) i j k;calc⟨m,o,p,r,bA⟩
theorem bU9(a:c.ok)(q:Tq T c)(d:∀z∈T.map (·.1),z∈c.ks)(e: ~~~T<=900){i:J D}(h:FP (FD c) dds l u)(b:FP (FS c 3) xs l' i)(f: ~~~xs<=9):Ok (P (n+23) .q26 [.t [z,tk,wd,.t dds,.t xs],cJ T]) .n:=by
 let⟨j,k,m,o,p⟩:=bU8 (P:=P) (n:=n) (X:=.val (.t [z,tk,wd,.t dds,.t xs])) a q d e h .no .no .no .no;have:=Pf (P:=P) (n:=n) a q b f;refine fG (n:=n+20) (g:=EH (P (n+22)) (P (n+20))) (O:= #[.t [z,tk,wd,.t dds,.t xs],cJ T,(),(),(),()]) bQ (q:=?_);delta EH
 calc bA
def wO(f:Fc):R.Tab:=f.ws.map (λz=>(z,mW))++f.ds.map λp=>(p.1,mD p.2)
theorem Pg:(wO f).map (·.1)=f.ws++f.ds.map (·.1):=by delta wO;rw[lK,kM,kM];show f.ws.map id++_=_;rw[IG];rfl
theorem Pi(h:f.ok):Ok (P (n+3) .q22 [f.d]) (cJ (wO f)):=by
 let t:=h.lw;let q:=h.ld;let j:=h.u;let⟨b,e⟩:=uZ (A:=mJ 1 @2 (kc aG)) (k:=λz:U=>z) (v:=λ_=>mW) (d:=bE) (i:=2) (r:=λc s=>[.val f.d,.dic 0 c,s,.no]) (λ_ _ _=>rfl) (λa T l m=>bA) f.ws [] .no (by rw[o8];calc(pM.mp j).1) (by show 0+_<=_;lia);replace e:Ok (turns 2 _ (f.ws.map bE) [.val f.d,.dic 0 [],.no,.no]) (.nx [.val f.d,.dic 0 (f.ws.map λz=>(z,mW)),b,.no]):=e;let⟨o,g⟩:=uZ (A:=mJ 1 (3^^^0) (mA cV {.("DEED"),3^^^1})) (k:=λp:U×bD=>p.1) (v:=λp=>mD p.2) (d:=dP) (i:=3) (r:=λc s=>[.val f.d,.dic 0 c,b,s]) (λ_ _ _=>rfl) (λa T l m=>bA) f.ds (f.ws.map λz=>(z,mW)) .no (by rw[kM];show(f.ws.map id++_).Nodup;rw[IG];calc j) (by rw[cA];lia);replace g:Ok (turns 3 _ (f.ds.map dP) [.val f.d,.dic 0 (f.ws.map λz=>(z,mW)),b,.no]) (.nx [.val f.d,.dic 0 (wO f),b,o]):=g;refine kQ (X:=(uI (P (n+2)) (P n) #[f.d,(),(),()]).bind zd) bQ ?_;delta uI;delta Fc.d at e g|-
 calc bA
theorem bV0:Ok (P (n+3) .q22 [.n]) (cJ []):=by
 refine kQ (X:=(uI (P (n+2)) (P n) #[.n,(),(),()]).bind zd) bQ ?_;delta uI
 calc bA
structure Az(un:U)(F:R.Tab)(t:U×U)(v:D):Prop where
 n:(t.1==un)=bJ
 g:∃g:Fc,g.ok/\cZ F t.1=L g.d/\cZ (wO g) t.2=L v
theorem Pj{r:J D}:∀(tk:J ((U×U)×D)) (T:R.Tab) (a b e:Slot),(∀t∈tk,Az un F t.1 t.2)->(T.map (·.1)++tk.map (·.1.2)).Nodup-> ~~~T+ ~~~tk<=900->∃c f j,Ok (hO 3 4 (N3 (P (n+3))) (tk.map λt=>p2 t.1) [.val (.t (bE un::r)),.val (cJ F),.dic 1 T,a,b,e]) (.nx [.val (.t (bE un::r)),.val (cJ F),.dic 1 (T++tk.map λt=>(t.1.2,t.2)),c,f,j])
 | [],T,a,b,e,_,_,_=>⟨a,b,e,by rw[zU,zU,jF];calc bA⟩|t::tk,T,a,b,e,h,k,p=>by
  rw[fY]at k;rw[dB]at p;let⟨u,g,l,m,o⟩:=h t fF;have:Bq t.1.1 un bJ:=⟨u⟩;have:Tg F t.1.1 g.d:=⟨m⟩;have:Tg (wO g) t.1.2 t.2:=⟨o⟩;have:Tn T t.1.2:=⟨λq=>(pM.mp k).2.2 _ q _ fF bQ⟩;have:=Pi (P:=P) (n:=n) l;have:=jD (a:=T.length) (b:=1) bZ;let⟨c,f,j,i⟩:=Pj (r:=r) tk (T++ [(t.1.2,t.2)]) (.val (bE t.1.1)) (.val (bE t.1.2)) (.val (cJ (wO g))) (λx s=>h x (fM _ s)) (by rw[lK,nQ];calc k) (by rw[cO];show _+1+_<=_;lia);refine⟨c,f,j,?_⟩;rw[fY,fY,show T++((t.1.2,t.2)::tk.map λt=>(t.1.2,t.2))=T++ [(t.1.2,t.2)]++tk.map λt=>(t.1.2,t.2)from by simp]
  calc bA
end
section
variable{c:Cn}{n:bD}{T W F:R.Tab}{x y d:D}{xs u dds ys d1 d2:J D}{l ow:J U}{f:Fc}{i:bD}{A:MS}{O ρ1:cQ}{fl:Fl}{un:U}{qs:J (U×bD)}{p:U×bD}
theorem GF(h: ~~~ds+1=k):je j k m g (cJ T::ds)=(g (mH m (vR j ds (.tab T)))).bind (fh j):=by delta cJ je;dsimp only;rw[lR,cK h]
theorem bV1(tk:J ((U×U)×D))(h:∀t∈tk,Az un F t.1 t.2)(d:(T.map (·.1)++tk.map (·.1.2)).Nodup)(c: ~~~T+ ~~~tk<=900):Ok (P (n+4) .q23 [cJ T,.t (bE un:: .t (tk.map λt=>p2 t.1)::r),cJ F]) (.t [.n,cJ (T++tk.map λt=>(t.1.2,t.2))]):=by
 let⟨a,b,e,i⟩:=Pj (P:=P) (n:=n) (un:=un) (F:=F) (r:=.t (tk.map λt=>p2 t.1)::r) tk T .no .no .no h d c;refine kQ (n:=n+1) (X:=(zy (P (n+3)) (P (n+1)) [.val (.t (bE un:: .t (tk.map λt=>p2 t.1)::r)),.val (cJ F),.dic 1 T,.no,.no,.no]).bind (fh 2)) (GF (j:=2) (k:=3) (m:=6) (g:=zy (P (n+3)) (P (n+1))) (ds:=[_,_]) bQ) ?_;delta zy
 calc bA
theorem bV2(e:(T.map (·.1)++ow).Nodup)(l: ~~~T+ ~~~ow<=900):Ok (P (n+3) .q24 [cJ T,.t (a::b:: .t (ow.map bE)::r)]) (.t [.n,cJ (T++ow.map λz=>(z,mW))]):=by
 let⟨o,i⟩:=uZ (A:=bO (cI (kK 1 (mB (m2 (dT bJ) @2 @1))) (gQ 1 (xP 1 (mA cV {.("twice"),@2}))) (cN)) (mJ 1 @2 (kc aG))) (k:=λz:U=>z) (v:=λ_=>mW) (d:=bE) (i:=2) (r:=λc s=>[.val (.t (a::b:: .t (ow.map bE)::r)),.dic 1 c,s]) (λ_ _ _=>rfl) (λa T f h=>bA) ow T .no (by rw[o8];calc e) bZ;refine kQ (n:=n) (X:=(zz (P (n+2)) (P n) [.val (.t (a::b:: .t (ow.map bE)::r)),.dic 1 T,.no]).bind (fh 1)) (GF (j:=1) (k:=2) (m:=3) (g:=zz (P (n+2)) (P n)) (ds:=[_]) bQ) ?_;delta zz
 calc bA
inductive aJ:J D->J (U×bD)->Prop
 |nil:aJ [] []
 |cons {z:U} {ps r xs qs:_}:aJ xs qs->aJ (.t (bE z:: .t ps::r)::xs) ((z,~~~ps)::qs)
theorem bV3(h:FP (FD c) dds l u):∀qs,u=qs.map dP->aJ dds qs:=by
 induction h with
 |nil=>intro qs e;cases qs with
  |nil=>calc .nil|cons _ _=>cases e
 |cons h _ i=>
  intro qs e;cases h with
  | @mk z b xs l u j k m n o p r=>
   cases qs with
   |nil=>cases e|cons q qs=>
    let a:=(Ij e).1;let g:=(Ij e).2;let d:z=q.1:=by injection a with a;injection a with a _;injection a
    let f: ~~~b=q.2:=by injection a with a;injection a with _ a;injection a with a _;injection a with a;exact Il a
    have:q=(z,~~~(b.map bE)):=by rw[cA,d,f]
    rw[this];calc .cons (i qs g)
theorem bV4{c d:J (U×bD)}:∀{dds},aJ dds (c++d)->∃d1 d2,dds=d1++d2/\aJ d1 c/\aJ d2 d:=by
 induction c with
 |nil=>calc λ{dds} h=>⟨[],dds,rfl,.nil,h⟩|cons q c g=>
  intro dds h;rw[Bh]at h;cases h with
  |cons h=>let⟨a,b,rfl,e,f⟩:=g h;calc⟨_::a,b,rfl,.cons e,f⟩
noncomputable def wA(a:J (U×bD)):R.Tab:=a.map λp=>(p.1,bG p.2)
theorem bV5(m:(T.map (·.1)).Nodup)(u: ~~~T<=900)(h:aJ dds qs):(qs.map (·.1)).Nodup->(∀p∈qs,(p.1,mD p.2)∈T)->∀a b e,∃d f g,∀fl,Ok (turns 4 (ov C) ys [X,Ya,.dic 1 T,.dic 0 [],d,f,g]) fl->Ok (turns 4 (ov C) (dds++ys) [X,Ya,.dic 1 T,.dic 0 (wA qs),a,b,e]) fl:=by
 induction h with
 |nil=>calc λ_ _ a b e=>⟨a,b,e,λ_ h=>h⟩| @cons z c r xs qs h s=>
  intro j l a b e;rw[fY,tV]at j;let v:Tg (wA ((z,~~~c)::qs)) z (bG (~~~c)):=⟨by delta wA cZ;simp⟩;let w:Pt T z (mD (~~~c)) T:=⟨Pc m (l _ fF)⟩;let x:Iq (~~~c:bH) c.length bF:=⟨sL _⟩;let o:_root_.R.tDrop (wA ((z,~~~c)::qs)) z=wA qs:=by
   delta _root_.R.tDrop wA;rw[fY,rC,cX (by simp)];refine List.filter_eq_self.mpr λp k=>?_
   let⟨q,n,rfl⟩:=gO.mp k;exact kF λe=>j.1 (gO.mpr ⟨q,n,e⟩)
  have:=jD (a:=T.length) (b:=1) bZ;let⟨d,f,g,i⟩:=s j.2 (λp k=>l p (fM _ k)) (.val (.t (bE z:: .t c::r))) (.val (bE z)) (.val (bG (~~~c)));rw[<-o]at i;refine⟨d,f,g,λfl h=>?_⟩;have:=i fl h;rw[Bh]
  calc bA
theorem bV6(h:aJ dds qs):∀(T:R.Tab) a b e,(T.map (·.1)++qs.map (·.1)).Nodup-> ~~~T+ ~~~qs<=900->∃d f g,Ok (turns 4 (ov C) dds [X,Ya,.dic 1 T,.dic 0 [],a,b,e]) (.nx [X,Ya,.dic 1 (T++qs.map λp=>(p.1,mD p.2)),.dic 0 [],d,f,g]):=by
 induction h with
 |nil=>calc λT a b e _ _=>⟨a,b,e,by rw[zU,jF];calc bA⟩| @cons z c r xs qs h l=>
  intro T a b e j k;rw[fY]at j;rw[dB]at k;let m:Tn ([]:R.Tab) z:=⟨λh=>by cases h⟩;let n:Tn T z:=⟨λq=>(pM.mp j).2.2 _ q _ fF bQ⟩;have:=jD (a:=T.length) (b:=1) bZ;let⟨d,f,g,i⟩:=l (T++ [(z,mD (~~~c))]) (.val (.t (bE z:: .t c::r))) (.val (bE z)) (.val (bG (~~~c))) (by rw[lK,nQ];calc j) (by rw[cO];show _+1+_<=_;lia);refine⟨d,f,g,?_⟩;rw[fY,show T++((z,mD (~~~c))::qs.map λp=>(p.1,mD p.2))=T++ [(z,mD (~~~c))]++qs.map λp=>(p.1,mD p.2)from by simp]
  calc bA
noncomputable def oF:bR Fc->D|some f=>f.d|none=>.n
noncomputable def dF:bR Fc->J (U×bD)|some f=>f.ds|none=>[]
noncomputable def tF:bR Fc->R.Tab|some f=>wO f|none=>[]
theorem Pk:∀qs T,(T.map (·.1)++qs.map (·.1)).Nodup->(wA qs).foldl (λT p=>hU T p.1 p.2) T=T++wA qs| [],T,_=>by delta wA;simp|p::qs,T,h=>by rw[fY]at h;have:=Pk qs (T++ [(p.1,bG p.2)]) (by rw[lK,nQ];calc h);delta wA at this|-;rw[fY,ef,Ay λq=>(pM.mp h).2.2 _ q _ fF bQ,this];simp
theorem Pl:∀qs:J (U×bD),pairsOf (qs.map dP)=L (wA qs)| []=>rfl|p::qs=>by rw[fY,_root_.R.pairsOf,Pl qs];rfl
theorem bV7{f:bR Fc}(h:aJ dds (dF f++hs))(i:(T.map (·.1)++hs.map (·.1)).Nodup)(y: ~~~T+ ~~~hs<=900)(l:((dF f).map (·.1)).Nodup)(w: ~~~(dF f)<=6)(x:∀p∈dF f,(p.1,mD p.2)∈T):Ok (P (n+3) .q25 [cJ T,.t (a::b::e:: .t dds::r),oF f]) (.t [.n,cJ (T++hs.map λp=>(p.1,mD p.2))]):=by
 let⟨d1,d2,rfl,u,v⟩:=bV4 h;let G:jT 0 (~~~([]:R.Tab):bH) bJ:=⟨rfl⟩;let⟨o,q,s,z⟩:=bV5 (C:=P (n+2)) (ys:=d2) (X:=.val (.t (a::b::e:: .t (d1++d2)::r))) (Ya:=.val (oF f)) (pM.mp i).1 bZ u l x .no .no .no;let⟨B,E,F,A⟩:=bV6 (C:=P (n+2)) (X:=.val (.t (a::b::e:: .t (d1++d2)::r))) (Ya:=.val (oF f)) v T o q s i y;let c:=z _ A;refine kQ (n:=n) (X:=(z8 (P (n+2)) (P n) [.val (.t (a::b::e:: .t (d1++d2)::r)),.val (oF f),.dic 1 T,.no,.no,.no,.no]).bind (fh 2)) (GF (j:=2) (k:=3) (m:=7) (g:=z8 (P (n+2)) (P n)) (ds:=[_,_]) rfl) ?_;delta z8;cases f with
 |none=>replace c:Ok (turns 4 (ov (P (n+2))) (d1++d2) [_,.val .n,.dic 1 T,.dic 0 [],.no,.no,.no]) _:=c;dsimp[oF];calc bA|some f=>let H:Ok (fe (.t (f.ds.map dP))) (.tab (wA f.ds)):=⟨by delta fe;dsimp only;rw[Pl];dsimp only;rw[cK (by delta wA;rw[cA];have: ~~~f.ds<=6:=w;lia)];delta DJ;rw[Pk f.ds [] l];rfl⟩;replace c:Ok (turns 4 (ov (P (n+2))) (d1++d2) [_,.val f.d,.dic 1 T,.dic 0 (wA f.ds),.no,.no,.no]) _:=c;dsimp[oF];delta Fc.d at c|-;calc bA
end
abbrev j7(f:bR Fc)(tk:J ((U×U)×D))(ow:J U)(hs:J (U×bD)):R.Tab:=tF f++(tk.map λt=>(t.1.2,t.2))++(ow.map λz=>(z,mW))++hs.map λp=>(p.1,mD p.2)
theorem bV8(i:∀g,f=some g->g.ok)(y:c.ok)(C:∀t∈tk,Az un F t.1 t.2)(k:Tq (j7 f tk ow hs) c)(A:∀z∈(j7 f tk ow hs).map (·.1),z∈c.ks)(B: ~~~(j7 f tk ow hs)<=900)(m:FP (FD c) dds l ((dF f++hs).map dP))(x:FP (FS c 3) xs l' u)(E: ~~~xs<=9):
 Ok (P (n+24) .q21 [.t [bE un,.t (tk.map λt=>p2 t.1),.t (ow.map bE),.t dds,.t xs],cJ F,oF f]) .n:=by
 let j:=k.n;let w:(hs.map λp=>(p.1,mD p.2)).map (·.1)=hs.map (·.1):=by rw[kM];rfl
 let v:(ow.map λz=>(z,mW)).map (·.1)=ow:=by rw[kM];exact o8 ow
 let s:(tk.map λt=>(t.1.2,t.2)).map (·.1)=tk.map (·.1.2):=by rw[kM];rfl
 rw[lK,w]at j;let d:=(pM.mp j).1;rw[lK,v]at d;let h:=(pM.mp d).1;rw[lK,s]at h;dsimp[cO,cA]at B;let G:Ok (P (n+23) .q22 [oF f]) (cJ (tF f)):=by
  cases f with
  |none=>calc bV0 (n:=n+20)|some g=>exact Pi (n:=n+20) (i g bQ)
 let H:=bV1 (P:=P) (n:=n+19) (r:=[.t (ow.map bE),.t dds,.t xs]) tk C h bZ;let I:=bV2 (P:=P) (n:=n+20) (a:=bE un) (b:=.t (tk.map λt=>p2 t.1)) (r:=[.t dds,.t xs]) (T:=tF f++tk.map λt=>(t.1.2,t.2)) (ow:=ow) d (by dsimp[cO,cA];lia)
 let K:=bV7 (P:=P) (n:=n+20) (f:=f) (a:=bE un) (b:=.t (tk.map λt=>p2 t.1)) (e:=.t (ow.map bE)) (r:=[.t xs]) (T:=tF f++(tk.map λt=>(t.1.2,t.2))++ow.map λz=>(z,mW)) (bV3 m _ bQ) j (by dsimp[cO,cA];lia) (by
  cases f with
  |none=>calc ku
  |some g=>calc(pM.mp (i g bQ).u).2.1) (by
  cases f with
  |none=>calc lL _
  |some g=>calc(i g bQ).ld) (λp o=>by
  cases f with
  |none=>cases o
  |some g=>calc mL _ (mL _ (mK _ (gO.mpr ⟨p,o,rfl⟩))))
 let M:=bU9 (P:=P) (n:=n) (z:=bE un) (tk:=.t (tk.map λt=>p2 t.1)) (wd:=.t (ow.map bE)) y k A (by dsimp[cO,cA];lia) m x E;refine fG (n:=n+21) (g:=EG (P (n+23)) (P (n+21))) (O:= #[.t [bE un,.t (tk.map λt=>p2 t.1),.t (ow.map bE),.t dds,.t xs],cJ F,oF f,(),()]) bQ (q:=?_);delta EG
 calc bA
class Ps(l:bH):Prop where
 e:0<l/\l<1073741824
class Pm(l:bH):Prop where
 e:0<l
class Sl(l:bH):Prop where
 e:C4 l=bF
section
variable{a b k l:bH}{n i j:bD}{O ρ1 ρ2:cQ}{f:ME}{x y d:D}{ns:J bH}{z w:U}{ds xs ys:J D}
instance [h:Ps l]:Pm l:=⟨h.e.1⟩
instance [h:Pm l]:Ok (fW (bG k) (bG l)) (bG (k%l)):=⟨by have:=h.e;simp[fW,dI,this]⟩
instance [h:Ps l]:Ok (jW (bG k) (bG l)) (bG (k/l)):=⟨by have:=h.e;simp[jW,dI,this]⟩
instance [h:Sl k]:Ok (mI (bG k) (bG l)) (bG (k*l)):=⟨by delta mI;dsimp only;rw[h.e];rfl⟩
theorem Pn[h:Sl l]:Ok (mI (bG k) (bG l)) (bG (k*l)):=⟨by delta mI;dsimp only;rw[h.e,Bool.or_true];rfl⟩
theorem aK(h: -1000000000000<l)(h2:l<1000000000000):Sl l:=⟨kF bZ⟩
instance:Ps 9:=⟨hG⟩
instance:Ps 7:=⟨hG⟩
instance:Ps 26:=⟨hG⟩
instance:Ps 6:=⟨hG⟩
instance:Ps 4:=⟨hG⟩
instance:Ps 3:=⟨hG⟩
instance:Ps 5:=⟨hG⟩
instance:Ps 12:=⟨hG⟩
instance:Ps 16:=⟨hG⟩
instance:Ps 14:=⟨hG⟩
instance:Ps 21:=⟨hG⟩
instance:Ps 48:=⟨hG⟩
instance:Ps 256:=⟨hG⟩
instance:Ps 960:=⟨hG⟩
instance:Ps 1999999:=⟨hG⟩
instance:Pm 2147483647:=⟨hG⟩
instance:Pm 2147483629:=⟨hG⟩
instance:Sl 7919:=aK hG hG
instance:Sl 104729:=aK hG hG
instance:Sl 26:=aK hG hG
instance:Sl 7:=aK hG hG
instance:Sl 3:=aK hG hG
instance:Sl 4:=aK hG hG
instance:Ok (mI (bG k) (bG 48271)) (bG (k*48271)):=by have:Sl 48271:=aK hG hG;calc Pn
instance:Ok (mI (bG k) (bG 69621)) (bG (k*69621)):=by have:Sl 69621:=aK hG hG;calc Pn
instance [q:Ok (f O) (.t [x,y])] [r:gS O i (.val x) ρ1] [o:gS ρ1 j (.val y) ρ2]:Ok (bv i j f O) (.nx ρ2):=⟨by delta bv;rw[q.e, <-o.e, <-r.e];rfl⟩
noncomputable def aM(ns:J bH)(k:bD):bH:=ns.getD k 0
theorem bV9:Ok (P (n+3) .q61 [.l (ns.map bG),bG j]) (bG (aM ns j)):=by
 refine fG (g:=Fm (P (n+2)) (P n)) (O:= #[.l (ns.map bG),bG j]) bQ (q:=?_);delta Fm;by_cases h:j< ~~~ns
 .let a:jT j (ns.map bG).length bF:=⟨kF (by rw[cA];lia)⟩;let b:Ok (dN (.l (ns.map bG)) (bG j)) (bG (aM ns j)):=⟨by let e:pB (ns.map bG) (j:bH)=L (bG (aM ns j)):=eI (by delta aM;simp[qY,h]);dsimp[dN,e]⟩
  exact bA
 let a:jT j (ns.map bG).length bJ:=⟨jI (by rw[cA];lia)⟩;have:aM ns j=0:=by delta aM;simp[qY,oY h]
 rw[this]
 calc bA
noncomputable def AA(a b:bH)(k:bD):bH:=(a*a+b*a+k)%2147483629
def lI(ns:J bH)(k:bD):bH:=AA ((aM ns k+7919*k+1)*48271%2147483647) 7 k
def jE(nb:bH)(k:bD):bH:=AA ((nb+104729*k+17)*69621%2147483647) 3 k
instance mix_is:Ok (P (n+4) .q62 [.l (ns.map bG),bG j]) (bG (lI ns j)):=by
 have:=bV9 (P:=P) (n:=n) (ns:=ns) (j:=j);have:Sl ((aM ns j+7919*j+1)*48271%2147483647):=aK (by have:=yI ((aM ns j+7919*j+1)*48271) (by decide:(2147483647:bH)≠0);lia) (by have:=aS ((aM ns j+7919*j+1)*48271) (by decide:(0:bH)<2147483647);lia);refine fG (n:=n+1) (g:=Fo (P (n+3)) (P (n+1))) (O:= #[.l (ns.map bG),bG j,()]) bQ (q:=?_);delta Fo lI AA
 calc bA
instance drw_is:Ok (P (n+3) .q63 [bG a,bG j]) (bG (jE a j)):=by
 have:Sl ((a+104729*j+17)*69621%2147483647):=aK (by have:=yI ((a+104729*j+17)*69621) (by decide:(2147483647:bH)≠0);lia) (by have:=aS ((a+104729*j+17)*69621) (by decide:(0:bH)<2147483647);lia);refine fG (g:=Fp (P (n+2)) (P n)) (O:= #[bG a,bG j,()]) bQ (q:=?_);delta Fp jE AA
 calc bA
theorem bW0:∃v,uN v/\Ok (P (n+3) .q65 [bG a]) (bG v):=by
 let b:∀d,Ok (Fv (P (n+2)) (P n) #[bG a]) (.rt d)->Ok (P (n+3) .q65 [bG a]) d:=λd q=>fG (q:=q) bQ
 delta Fv at b;by_cases h:a%9=4
 .have:Iq (a%9) 4 bF:=⟨mX.mpr h⟩;exact⟨a/9%1999999-999999,⟨bZ,bZ⟩,b _ bA⟩
 have:Iq (a%9) 4 bJ:=⟨lT.mpr h⟩;calc⟨a/9%14-4,⟨bZ,bZ⟩,b _ bA⟩
theorem da{α:Type}{g:α->D}{l:J α}(h:0< ~~~l)(v):∃x∈l,Ok (dN (.l (l.map g)) (bG (v%(~~~(l.map g):bH)))) (g x):=by
 let c:0<=v%(~~~(l.map g):bH):=yI _ (by rw[cA];lia);let a:v%(~~~(l.map g):bH)<(~~~(l.map g):bH):=aS _ (by rw[cA];lia);let⟨j,e⟩:=j9 c;rw[e]at a|-;rw[cA]at a;let b:j< ~~~l:=by lia
 refine⟨l[j],List.getElem_mem b,⟨?_⟩⟩;let e:pB (l.map g) (j:bH)=L (g l[j]):=eI (by simp[b]);dsimp[dN,e]
theorem Po{g:ME}{rest:cQ}{Q:D->D->Prop}:∀{xs},(∀x∈xs,∃d,Ok (g (.val x::rest)) d/\Q x d)->∃ys,Ok (hX (λ_=>.ok bF) g rest xs) ys/\jN Q xs ys
 | [],_=>⟨[],⟨rfl⟩,.nil⟩|x::xs,h=>by
  let⟨d,a,b⟩:=h x fF;let⟨ys,c,f⟩:=Po λy i=>h y (fM _ i)
  calc⟨d::ys,⟨by rw[hX];show bP.bind (g (.val x::rest)) _=_;rw[a.e];show bP.bind (hX _ _ _ xs) _=_;rw[c.e];rfl⟩,.cons b f⟩
theorem bW1(h:x∈R.upTo 0 m):∃k:bD,x=bG k/\k<m:=by delta R.upTo at h;let⟨k,a,e⟩:=gO.mp h;calc⟨k,by rw[<-e,Ix],qF.mp a⟩
end
theorem u4:∀{ys},(∀y∈ys,∃l u,R y l u)->∃l u,FP R ys l u
 | [],_=>⟨_,_,.nil⟩|y::ys,h=>by
  let⟨l,u,a⟩:=h y fF;let⟨l',u',b⟩:=u4 λz c=>h z (fM _ c)
  calc⟨_,_,.cons a b⟩
theorem AB{Q:D->D->Prop}(h:jN Q xs ys): ~~~ys= ~~~xs/\ ∀y∈ys,∃x∈xs,Q x y:=by
 induction h with
 |nil=>calc⟨rfl,λy a=>by cases a⟩|cons h _ b=>
  refine⟨by rw[dB,dB,b.1],λy a=>?_⟩;rcases jJ.mp a with rfl|a
  .exact⟨_,fF,h⟩
  let⟨x,c,q⟩:=b.2 y a;calc⟨x,fM _ c,q⟩
theorem oG{k:bD}{Q:D->D->Prop}[q:Ok (f O) (bG k)](a:k<=1000000)(h:∀j:bD,j<k->∃d,Ok (g (.val (bG j)::lN js O)) d/\Q (bG j) d):∃ys,Ok (gY js (lH f) (λ_=>.ok bF) g O) (.l ys)/\jN Q (_root_.R.upTo 0 k) ys:=by
 let⟨ys,b,c⟩:=Po (g:=g) (rest:=lN js O) (Q:=Q) (xs:=_root_.R.upTo 0 k) λx i=>by let⟨j,rfl,e⟩:=bW1 i;exact h j e
 have:=oC (f:=f) (O:=O) (n:=k) a;calc⟨ys,yF (by rw[f0];calc a) b,c⟩
theorem rQ(h:a=b):Iq a b bF:=⟨mX.mpr h⟩
theorem vX(h:a≠b):Iq a b bJ:=⟨lT.mpr h⟩
theorem db(h:a<b):jT a b bF:=⟨kF h⟩
theorem de(h: ¬ a<b):jT a b bJ:=⟨jI h⟩
theorem bW2(v):∃s,jy s=bF/\Ok (dN (bE "+-*<=") (bG (v%5))) (bE s):=by
 let a:=yI v (by decide:(5:bH)≠0);let b:=aS v (by decide:(0:bH)<5);rcases(by lia:v%5=0\/v%5=1\/v%5=2\/v%5=3\/v%5=4)with e|e|e|e|e<;>rw[e]
 .exact⟨"+",bB,⟨nB⟩⟩
 .exact⟨"-",bB,⟨nB⟩⟩
 .exact⟨"*",bB,⟨nB⟩⟩
 .exact⟨"<",bB,⟨nB⟩⟩
 calc⟨"=",bB,⟨nB⟩⟩
noncomputable abbrev nL(c:Cn):D:=.l (c.ws.map bE)
abbrev dL(c:Cn):D:=.l (c.ds.map dP)
theorem oH(h:c.ok)(i:0< ~~~c.ws):∀m n nb,∃d,Ok (P (n+m+4) .q66 [bG nb,nL c,dL c,bG m]) d/\ ∃l u,FE c (m+1) d l u
 |m,n,nb=>by
  let b:∀d,Ok (Fw (P (n+m+3)) (P (n+m+1)) #[bG nb,nL c,dL c,bG m,(),(),(),(),(),()]) (.rt d)->Ok (P (n+m+1+3) .q66 [bG nb,nL c,dL c,bG m]) d:=λd q=>fG (q:=q) rfl
  delta Fw at b;let⟨v,B,v2⟩:=bW0 (P:=P) (n:=n+m) (a:=nb/9);let p1:Pm (~~~(c.ws.map bE):bH):=⟨by rw[cA];lia⟩;by_cases h0:m=0
  .have:Iq (m:bH) 0 bF:=rQ bZ;exact⟨_,b _ bA,_,_,.num B⟩
  let i0:Iq (m:bH) 0 bJ:=vX bZ;by_cases t:nb%9<2
  .have:=db t;exact⟨_,b _ bA,_,_,.num B⟩
  let i1:=de t;by_cases w:nb%9<5
  .have:=db w;let⟨z,K,q⟩:=da (g:=bE) i (nb/9);exact⟨_,b _ bA,_,_,.nam K⟩
  let i2:=de w;let⟨m,rfl⟩:∃j,m=j+1:=⟨m-1,bZ⟩;let r:((m+1:bD):bH)-1=m:=by lia
  by_cases e:nb%9=5/\0< ~~~c.ds
  .let M:=rQ e.1;let i4:jT 0 (~~~(c.ds.map dP):bH) bF:=db (by rw[cA];have:=e.2;lia);let p2:Pm (~~~(c.ds.map dP):bH):=⟨by rw[cA];have:=e.2;lia⟩;let⟨p,x,q⟩:=da (g:=dP) e.2 (nb/9);let o:=(h.d _ x).2;let⟨ys,j1,N⟩:=oG (js:=[1,2,0,3]) (f:=gv 6) (g:=mA (P (n+m+4) .q66) {(mA (P (n+m+4) .q63) {@3,@0}),@1,@2,(m2 rH @4 .(1))}) (O:= #[bG nb,nL c,dL c,bG ((m+1:bD):bH),bG (nb%9),bE p.1,bG p.2,(),(),()]) (k:=p.2) (Q:=λ_ d=>∃l u,FE c (m+1) d l u) bZ λj hj=>by
    let⟨d,T,W⟩:=oH h i m n (jE nb j);rw[<-r]at T;exact⟨d,(bA:Ok (mA (P (n+m+4) .q66) {(mA (P (n+m+4) .q63) {@3,@0}),@1,@2,(m2 rH @4 .(1))} #[bG j,nL c,dL c,bG nb,bG ((m+1:bD):bH)]) d),W⟩
   let⟨A,S⟩:=AB N;let⟨l,u,H⟩:=u4 (R:=FE c (m+1)) λy I=>by let⟨_,_,q⟩:=S y I;exact q
   rw[f0]at A;exact⟨_,b _ bA,_,_,.call (by rw[A];calc x) H⟩
  let M:Ok (pD (mB (m2 dW @4 .(5))) (mB (m2 pU (mA gJ {@2}) .(0))) #[bG nb,nL c,dL c,bG ((m+1:bD):bH),bG (nb%9),(),(),(),(),()]) bJ:=by
   by_cases o:nb%9=5
   .have:=rQ o;have:jT 0 (~~~(c.ds.map dP):bH) bJ:=de (by rw[cA];lia)
    exact bA
   have:=vX o
   exact bA
  let⟨d1,C,_,_,E⟩:=oH h i m n (jE nb 5);let⟨d2,F,_,_,G⟩:=oH h i m n (jE nb 6);let⟨s,X,s2⟩:=bW2 (nb/9);rw[<-r]at C F;let Y:Ok (P (n+(m+1)+3) .q63 [bG nb,bG 5]) (bG (jE nb 5)):=drw_is (j:=5);let Z:Ok (P (n+(m+1)+3) .q63 [bG nb,bG 6]) (bG (jE nb 6)):=drw_is (j:=6);exact⟨_,b _ bA,_,_,.bin X E G⟩
termination_by m=>m
theorem bW3(h:∀x l u,R x l u->b x l u)(k:FP R xs l u):FP b xs l u:=by
 induction k with
 |nil=>calc .nil|cons a _ c=>calc .cons (h _ _ _ a) c
theorem bW4(h:FP R xs l u)(k:R d l' u'):FP R (xs++ [d]) (l++l') (u++u'):=by
 induction h with
 |nil=>have:=FP.cons k .nil;rwa [jF,jF]at this|cons a _ b=>rw[nQ,nQ];calc .cons a b
theorem AC:∀m {d l u},FE c m d l u->FE c (m+1) d l u|0,_,_,_,h=>h.elim|m+1,_,_,_,.num h=>.num h|m+1,_,_,_,.nam h=>.nam h|m+1,_,_,_,.call h k=>.call h (bW3 (λ_ _ _ h=>AC m h) k)|m+1,_,_,_,.bin h a b=>.bin h (AC m a) (AC m b)
abbrev Fs(c:Cn)(m:bD)(d:D):Prop:=∃l u,FS c (m+1) d l u
theorem f4(b:qT.lookup w=L (.t (f.map bE)))(h:FF c (FS c m) f xs l u)(a:(w== "do")=bJ)(h2:(w== "new")=bJ):Fs c m (.t (bE w::xs)):=⟨_,_,.mk b h (.other a h2)⟩
theorem Pp(h:z∈c.ws)(k:FE c 3 e l u):Fs c m (.t [bE "let",bE z,e]):=f4 (f:=["WORD","be","EXPRESSION"]) nB (.part (.word h) (.kept bB (.part (.expr k) .nil))) bB bB
theorem Pq(h:z∈c.ws)(k:FE c 3 e l u):Fs c m (.t [bE "hand",bE z,e]):=f4 (f:=["WORD","to","EXPRESSION"]) nB (.part (.word h) (.kept bB (.part (.expr k) .nil))) bB bB
theorem Pu(k:FE c 3 e l u):Fs c m (.t [bE "tell",e]):=f4 (f:=["EXPRESSION"]) nB (.part (.expr k) .nil) bB bB
theorem bW5(k:FE c 3 e l u):Fs c m (.t [bE "give",e]):=f4 (f:=["EXPRESSION"]) nB (.part (.expr k) .nil) bB bB
theorem bW6(h:z∈c.ws):Fs c m (.t [bE "get",bE z]):=f4 (f:=["WORD"]) nB (.part (.word h) .nil) bB bB
theorem bW7(h:z∈c.ws)(k:y∈c.ws):Fs c m (.t [bE "await",bE z,bE y]):=f4 (f:=["WORD","and","WORD"]) nB (.part (.word h) (.kept bB (.part (.word k) .nil))) bB bB
theorem bW8(h:z∈c.ws)(k:(y,0)∈c.ds):Fs c m (.t [bE "new",bE z,bE y]):=⟨_,_,.mk (f:=["WORD","deed","DEED"]) nB (.part (.word h) (.kept bB (.part (.deed k) .nil))) (.new k)⟩
theorem bW9(h:(z,~~~xs)∈c.ds)(a: ~~~xs<=4)(k:FP (FE c 3) xs l u):Fs c m (.t [bE "do",bE z,.t xs]):=⟨_,_,.mk (f:=["DEED","PARTS"]) nB (.part (.deed h) (.part (.parts a k) .nil)) (.dos h)⟩
theorem Pv(k:FE c 3 e l u)(a: ~~~xs<=4)(h:FP (FS c m) xs l' u'):Fs c m (.t [bE "while",e,.t xs]):=f4 (f:=["EXPRESSION","do","BLOCK"]) nB (.part (.expr k) (.kept bB (.part (.block a h) .nil))) bB bB
theorem bX0(k:FE c 3 e l u)(a: ~~~xs<=4)(h:FP (FS c m) xs l' u')(b: ~~~ys<=4)(h':FP (FS c m) ys d g):Fs c m (.t [bE "if",e,.t xs,.t ys]):=f4 (f:=["EXPRESSION","then","BLOCK","else","BLOCK"]) nB (.part (.expr k) (.kept bB (.part (.block a h) (.kept bB (.part (.block b h') .nil))))) bB bB
abbrev pL(pl:J U):D:=.l (pl.map bE)
theorem bX1{pl:J U}(w:c.ok)(t:0< ~~~c.ws)(s:∀z∈pl,(z,0)∈c.ds)(n)(nb):∃d,Ok (P (n+7) .q67 [bG nb,nL c,dL c,pL pl]) d/\ ∀m,Fs c m d:=by
 let a:∀d,Ok (Fx (P (n+6)) (P (n+4)) #[bG nb,nL c,dL c,pL pl,(),(),(),(),(),()]) (.rt d)->Ok (P (n+4+3) .q67 [bG nb,nL c,dL c,pL pl]) d:=λd q=>fG (q:=q) bQ
 delta Fx at a;let p1:Pm (~~~(c.ws.map bE):bH):=⟨by rw[cA];lia⟩;let⟨z,b,x⟩:=da (g:=bE) t (nb/16);let⟨e,B,_,_,h⟩:=oH (P:=P) w t 2 n (jE nb 1);replace B:Ok (P (n+6) .q66 [bG (jE nb 1),nL c,dL c,bG 2]) e:=B;let W:Ok (P (n+6) .q63 [bG nb,bG 1]) (bG (jE nb 1)):=drw_is (j:=1);by_cases C:nb%16<4
 .have:=db C;exact⟨_,a _ bA,λm=>Pp b h⟩
 have:=de C;by_cases E:nb%16<6
 .have:=db E;exact⟨_,a _ bA,λm=>Pu h⟩
 have:=de E;by_cases F:nb%16=6
 .have:=rQ F;exact⟨_,a _ bA,λm=>bW6 b⟩
 have:=vX F;by_cases v:nb%16=7
 .have:=rQ v;exact⟨_,a _ bA,λm=>bW5 h⟩
 have:=vX v;by_cases r:nb%16=8/\0< ~~~pl
 .have:=rQ r.1;have:jT 0 (~~~(pl.map bE):bH) bF:=db (by rw[cA];have:=r.2;lia);have:Pm (~~~(pl.map bE):bH):=⟨by rw[cA];have:=r.2;lia⟩;let⟨y,o,A⟩:=da (g:=bE) r.2 (nb/256);exact⟨_,a _ bA,λm=>bW8 b (s y o)⟩
 let Y:Ok (pD (mB (m2 dW @6 .(8))) (mB (m2 pU (mA gJ {@3}) .(0))) #[bG nb,nL c,dL c,pL pl,bE z,e,bG (nb%16),(),(),()]) bJ:=by
  by_cases i:nb%16=8
  .have:=rQ i;have:jT 0 (~~~(pl.map bE):bH) bJ:=de (by rw[cA];lia)
   exact bA
  have:=vX i
  exact bA
 by_cases i:nb%16=9
 .have:=rQ i;exact⟨_,a _ bA,λm=>Pq b h⟩
 have:=vX i;by_cases G:nb%16=10
 .have:=rQ G;exact⟨_,a _ bA,λm=>Pq b (.num ⟨bZ,bZ⟩)⟩
 have:=vX G;by_cases H:nb%16=11
 .have:=rQ H;let⟨y,o,A⟩:=da (g:=bE) t (nb/256);exact⟨_,a _ bA,λm=>bW7 b o⟩
 have:=vX H;by_cases K:0< ~~~c.ds
 .let N:jT 0 (~~~(c.ds.map dP):bH) bF:=db (by rw[cA];lia);let p2:Pm (~~~(c.ds.map dP):bH):=⟨by rw[cA];lia⟩;let⟨p,s,q⟩:=da (g:=dP) K (nb/256);let v:=(w.d _ s).2;let⟨ys,Z,S⟩:=oG (js:=[1,2,0]) (f:=gv 8) (g:=mA (P (n+6) .q66) {(mA (P (n+6) .q63) {@3,(m2 cL @0 .(2))}),@1,@2,.(1)}) (O:= #[bG nb,nL c,dL c,pL pl,bE z,e,bG (nb%16),bE p.1,bG p.2,()]) (k:=p.2) (Q:=λ_ d=>∃l u,FE c 3 d l u) bZ λj X=>by
   let⟨d,x,_,_,A⟩:=oH (P:=P) w t 1 (n+1) (jE nb (j+2));replace x:Ok (P (n+6) .q66 [bG (jE nb (j+2)),nL c,dL c,bG 1]) d:=x;let q0:Ok (P (n+6) .q63 [bG nb,bG ((j:bH)+2)]) (bG (jE nb (j+2))):=drw_is (j:=j+2);exact⟨d,(bA:Ok (mA (P (n+6) .q66) {(mA (P (n+6) .q63) {@3,(m2 cL @0 .(2))}),@1,@2,.(1)} #[bG j,nL c,dL c,bG nb]) d),_,_,AC 2 A⟩
  let⟨I,T⟩:=AB S;let⟨l,u,M⟩:=u4 (R:=FE c 3) λy o=>by let⟨_,_,q⟩:=T y o;exact q
  rw[f0]at I;exact⟨_,a _ bA,λm=>bW9 (by rw[I];calc s) bZ M⟩
 let N:jT 0 (~~~(c.ds.map dP):bH) bJ:=de (by rw[cA];lia);calc⟨_,a _ bA,λm=>Pu h⟩
theorem Pw{m:bD}{pl:J U}{k:bD}(b:∀nb,∃d,Ok (P (n+8) .q68 [bG nb,nL c,dL c,pL pl,bG m]) d/\ ∃l u,R d l u)(r:k<=4)(nb):∃xs,Ok (P (n+9) .q69 [bG nb,bG k,nL c,dL c,pL pl,bG m]) (.t xs)/\~~~xs=k/\ ∃l u,FP R xs l u:=by
 let⟨ys,s,h⟩:=oG (js:=[2,3,4,5,0]) (f:=gv 1) (g:=Eh (P (n+8))) (O:= #[bG nb,bG k,nL c,dL c,pL pl,bG m,()]) (k:=k) (Q:=λ_ d=>∃l u,R d l u) bZ λj p=>by let⟨d,v,o⟩:=b (jE nb j);exact⟨d,(bA:Ok (Eh (P (n+8)) #[bG j,nL c,dL c,pL pl,bG m,bG nb]) d),o⟩
 let⟨a,i⟩:=AB h;rw[f0]at a;refine⟨ys,?_,a,u4 λy e=>by let⟨_,_,q⟩:=i y e;calc q⟩;refine fG (n:=n+6) (g:=z9 (P (n+8)) (P (n+6))) (O:= #[bG nb,bG k,nL c,dL c,pL pl,bG m,()]) (by show dS 6 7 (z9 (P (n+8)) (P (n+6))) [_,_,_,_,_,_]=_;calc(cK bQ).trans bQ) (q:=?_);delta z9
 calc bA
theorem GH{pl:J U}(f:c.ok)(b:0< ~~~c.ws)(C:∀z∈pl,(z,0)∈c.ds):∀m n nb,∃d,Ok (P (n+2*m+8) .q68 [bG nb,nL c,dL c,pL pl,bG m]) d/\Fs c m d
 |m,n,nb=>by
  let a:∀d,Ok (Fy (P (n+2*m+7)) (P (n+2*m+5)) #[bG nb,nL c,dL c,pL pl,bG m,(),(),(),()]) (.rt d)->Ok (P (n+2*m+5+3) .q68 [bG nb,nL c,dL c,pL pl,bG m]) d:=λd q=>fG (q:=q) rfl
  delta Fy at a;let⟨s,s1,F⟩:=bX1 (P:=P) f b C (n+2*m) (nb/12);by_cases X:m=0
  .have:Iq (m:bH) 0 bF:=rQ bZ;exact⟨_,a _ bA,F m⟩
  let Y:Iq (m:bH) 0 bJ:=vX bZ;by_cases y:nb%12<9
  .have:=db y;exact⟨_,a _ bA,F m⟩
  let Z:=de y;let⟨m,rfl⟩:∃j,m=j+1:=⟨m-1,bZ⟩;let I:((m+1:bD):bH)-1=m:=by lia
  let p1:Pm (~~~(c.ws.map bE):bH):=⟨by rw[cA];lia⟩;let⟨e,w,_,_,x⟩:=oH (P:=P) f b 2 (n+2*m+3) (jE nb 1);replace w:Ok (P (n+2*(m+1)+7) .q66 [bG (jE nb 1),nL c,dL c,bG 2]) e:=w;let S:Ok (P (n+2*(m+1)+7) .q63 [bG nb,bG 1]) (bG (jE nb 1)):=drw_is (j:=1);let T:Ok (P (n+2*(m+1)+7) .q63 [bG nb,bG 2]) (bG (jE nb 2)):=drw_is (j:=2);let W:Ok (P (n+2*(m+1)+7) .q63 [bG nb,bG 3]) (bG (jE nb 3)):=drw_is (j:=3);let r:∀(k:bD) (nb:bH),k<=4->∃xs,Ok (P (n+2*(m+1)+7) .q69 [bG nb,bG k,nL c,dL c,pL pl,bG (((m+1:bD):bH)-1)]) (.t xs)/\~~~xs=k/\ ∃l u,FP (FS c (m+1)) xs l u:=λk nb h=>by rw[I];exact Pw (n:=n+2*m) (λnb=>GH f b C m n nb) h nb
  let⟨k,h⟩:=j9 (yI (nb/12) (by decide:(4:bH)≠0));let N:k<4:=by have:=aS (nb/12) (by decide:(0:bH)<4);lia
  let⟨xs,G,x2,_,_,p⟩:=r k (jE nb 2) bZ;replace G:Ok (P (n+2*(m+1)+7) .q69 [bG (jE nb 2),bG (nb/12%4),nL c,dL c,pL pl,bG (((m+1:bD):bH)-1)]) (.t xs):=by rw[h];exact G
  by_cases A:nb%12=9
  .have:=rQ A;exact⟨_,a _ bA,Pv x bZ p⟩
  have:=vX A;by_cases B:nb%12=10
  .have:=rQ B;let⟨z,o,q⟩:=da (g:=bE) b (nb/48);let⟨l1,u1,O⟩:=Pp (m:=m) (c:=c) o (.bin (s:="+") bB (.nam o) (.num (v:=1) ⟨hG,hG⟩));let sz:Sz (~~~xs+ [D.t [bE "let",bE z,.t [bE "+",.t [bE "name",bE z],.t [bE "number",bG 1]]]].length):=jD (by show _+1<=_;lia);let K:FP (FS c (m+1)) (xs++ [D.t [bE "let",bE z,.t [bE "+",.t [bE "name",bE z],.t [bE "number",bG 1]]]]) _ _:=bW4 p O;exact⟨_,a _ bA,Pv (.bin (s:="<") bB (.nam o) (.num ⟨bZ,bZ⟩)) (by rw[cO];show _+1<=4;lia) K⟩
  have:=vX B;let⟨E,i⟩:=j9 (yI (nb/48) (by decide:(3:bH)≠0));let M:E<3:=by have:=aS (nb/48) (by decide:(0:bH)<3);lia
  let⟨ys,H,y2,_,_,Q⟩:=r E (jE nb 3) bZ;replace H:Ok (P (n+2*(m+1)+7) .q69 [bG (jE nb 3),bG (nb/48%3),nL c,dL c,pL pl,bG (((m+1:bD):bH)-1)]) (.t ys):=by rw[i];exact H
  exact⟨_,a _ bA,bX0 x bZ p bZ Q⟩
termination_by m=>m
noncomputable abbrev aN:U:="abcdefghijklmnopqrstuvwxyz"
noncomputable def sd(z:U)(i k:bD):U:=⟨z.cps++ [97+i,97+k,122].toArray⟩
section
variable{z w:U}{i j k l n:bD}{nb:bH}{O:cQ}{d:D}
theorem GI(h:k<26):Ok (dN (bE aN) (bG k)) (bE ⟨[97+k].toArray⟩):=⟨by
 let e:∀k,k<26->aN.cps.toList[k]? =L (97+k):=bB
 let e:pB aN.cps.toList (k:bH)=L (97+k):=eI (e k h);dsimp[dN,e]⟩
theorem AD:Ls (sd z i k)=Ls z++ [97+i,97+k,122]:=by delta sd Ls;simp
theorem pI(e:sd z i k=sd z a b):i=a/\k=b:=by
 let h:Ls (sd z i k)=Ls (sd z a b):=by rw[e]
 rw[AD,AD]at h;have:=List.append_cancel_left h;dsimp[wa]at this
 lia
theorem bX2(hz:tJ z=true)(g: ~~~z<=5)(d:i<26)(f:k<26):Nm (sd z i k):=by
 let e:=AD (z:=z) (i:=i) (k:=k);let l: ~~~(sd z i k)= ~~~z+3:=by rw[<-tK,e,cO,tK];rfl
 refine⟨bZ,?_⟩;delta zO;let a:tJ (sd z i k)=true:=by delta tJ at hz|-;show(Ls (sd z i k)).all _=true;rw[e,wb,show(Ls z).all _=true from hz];dsimp[lA,SU,qU,tZ,Br];simp;lia
 rw[a,tZ,Bb];cases q:fu.any (· ==sd z i k)with
 |false=>rfl|true=>
  exfalso;let⟨w,b,q⟩:=wS.mp q;let c:(fu.all λw=>(Ls w).getLast? != L 122)=true:=bB
  have:=mE.mp c w b;rw[kI q,e]at this;simp at this
instance [q:Sz (~~~w+ ~~~z)]:Ok (cL (bE w) (bE z)) (bE (w++z)):=⟨cK q.e⟩
theorem Px:∀(ks:J bD) (z:U) (s:Slot),(∀k∈ks,k<=6)->tJ z=bF-> ~~~z+ ~~~ks<=100->∃a s',Ok (turns 3 Ei (ks.map λk:bD=>bG (0+(k:bH))) [.val (bG nb),.val (bE aN),.val (bE z),s]) (.nx [.val (bG nb),.val (bE aN),.val (bE a),s'])/\tJ a=bF/\~~~a= ~~~z+ ~~~ks
 | [],z,s,_,h,_=>⟨z,s,by rw[zU];calc bA,h,rfl⟩|k::ks,z,s,d,h,g=>by
  rw[dB]at g;let o:=d k fF;let⟨c,f⟩:=j9 (yI (nb/(7+26*(0+(k:bH)))) (by decide:(26:bH)≠0));let b:c<26:=by have:=aS (nb/(7+26*(0+(k:bH)))) (by decide:(0:bH)<26);lia
  let i:=GI b;rw[<-f]at i;have:Ps (7+26*(0+(k:bH))):=⟨bZ⟩;let j: ~~~(⟨[97+c].toArray⟩:U)=1:=rfl;have:Sz (~~~z+ ~~~(⟨[97+c].toArray⟩:U)):=jD (by rw[j];lia);let e:Ls (z++⟨[97+c].toArray⟩)=Ls z++ [97+c]:=j5 _ _;let l: ~~~(z++(⟨[97+c].toArray⟩:U))= ~~~z+1:=by rw[<-tK,e,cO,tK];rfl
  let⟨a,s',p,m,n⟩:=Px ks (z++⟨[97+c].toArray⟩) (.val (bG (0+(k:bH)))) (λk h=>d k (fM _ h)) (by delta tJ at h|-;show(Ls (z++⟨[97+c].toArray⟩)).all _=bF;rw[e,wb,show(Ls z).all _=bF from h];dsimp[lA,SU,qU,tZ,Br];simp;lia) bZ;calc⟨a,s',by rw[fY];calc bA,m,by rw[n,l,dB];lia⟩
theorem bX3(nb):∃z,tJ z=bF/\~~~z<=6/\ ∀{P:bD->CT} [Fu P] (n:bD),Ok (P (n+3) .q64 [bG nb]) (bE z):=by
 let⟨k,d⟩:=j9 (yI nb (by decide:(7:bH)≠0));let e:k<7:=by have:=aS nb (by decide:(0:bH)<7);lia
 let⟨z,h,b,f,a⟩:=Px (nb:=nb) (gK k) "" .no (λj c=>by have:=qF.mp c;lia) bB (by rw[qZ];show 0+_<=_;lia);rw[qZ]at a;let a: ~~~z=0+k:=a;refine⟨z,f,bZ,λ{P} _ n=>?_⟩;let i:Ok (gv 0 #[bG nb,bE aN,bE "",()]) (bG nb):=bA;let l:Ok (lH (m2 fW @0 .(7)) #[bG nb,bE aN,bE "",()]) (_root_.R.upTo 0 k):=by
  have:Ok (m2 fW @0 .(7) #[bG nb,bE aN,bE "",()]) (bG k):=by rw[<-d];exact bA
  exact oC bZ
 replace b:Ok (turns 3 Ei (_root_.R.upTo 0 k) #[bG nb,bE aN,bE "",()]) (.nx [.val (bG nb),.val (bE aN),.val (bE z),h]):=b;refine fG (g:=Fq (P (n+2)) (P n)) (O:= #[bG nb,(),(),()]) bQ (q:=?_);delta Fq
 calc bA
instance:Ok (eU (bE w) bL (L 5)) (bE (pX w bL (L 5))):=⟨rfl⟩
class Sd(P:bD->CT)(st:bH)(z:vE U):Prop where
 e:∀(n i k:bD),i<26->k<26->Ok (P (n+4) .q70 [bG st,bG i,bG k]) (bE (sd z i k))
theorem bX4(nb):∃z,tJ z=bF/\~~~z<=5/\ ∀{P:bD->CT} [Fu P],Sd P nb z:=by
 let⟨z,h,t,j⟩:=bX3 nb;let e:Ls (pX z bL (L 5))=(Ls z).take 5:=by delta pX sD;show((Ls z).drop (HT.sIx _ 0 bL)).take _=_;rw[HT.sIx_none,show(5:bH)=((5:bD):bH)from bQ,HT.sIx_nat];simp[List.take_eq_take_iff]
 refine⟨pX z bL (L 5),?_,by rw[<-tK,e,kl];lia,λ{P} _=>⟨λn i k l m=>?_⟩⟩
 .delta tJ at h|-;show(Ls _).all _=bF;rw[e];exact mE.mpr λx o=>mE.mp h x (List.mem_of_mem_take o)
 let u: ~~~(pX z bL (L 5))<=5:=by rw[<-tK,e,kl];lia
 let p:=GI l;let r:=GI m;let s:=j (P:=P) (n+0);let d:∀c:bD,~~~(⟨[c].toArray⟩:U)=1:=λ_=>rfl
 let f:∀a b:U,~~~(a++b)= ~~~a+ ~~~b:=λa b=>by rw[<-tK,j5,cO,tK,tK]
 let v:Sz (~~~(pX z bL (L 5))+ ~~~(⟨[97+i].toArray⟩:U)):=jD (by rw[d];lia);let w:Sz (~~~(pX z bL (L 5)++⟨[97+i].toArray⟩)+ ~~~(⟨[97+k].toArray⟩:U)):=jD (by rw[f,d,d];lia);let y:Sz (~~~(pX z bL (L 5)++⟨[97+i].toArray⟩++⟨[97+k].toArray⟩)+("z" :U).length):=jD (by rw[f,f,d,d,show("z" :U).length=1 from by decide+kernel];lia);rw[show sd (pX z bL (L 5)) i k=pX z bL (L 5)++⟨[97+i].toArray⟩++⟨[97+k].toArray⟩++ "z" from OL (by rw[AD,j5,j5,j5,show Ls "z" = [122]from by decide+kernel,show Ls ⟨[97+i].toArray⟩= [97+i]from bQ,show Ls ⟨[97+k].toArray⟩= [97+k]from bQ];simp)];refine fG (n:=n+1) (g:=Fz (P (n+3)) (P (n+1))) (O:= #[bG nb,bG i,bG k,()]) bQ (q:=?_);delta Fz
 calc bA
end
section
variable{z:U}{i j k n:bD}{nb:bH}{ns:J bH}{O:cQ}{d:D}{f:ME}{fs:J (bR Fc)}
theorem Py{α:Type}{g:ME}{rest:cQ}{dat val:α->D}:∀{xs:J α},(∀x∈xs,Ok (g (.val (dat x)::rest)) (val x))->Ok (hX (λ_=>.ok bF) g rest (xs.map dat)) (xs.map val)| [],_=>⟨rfl⟩|x::xs,h=>⟨by rw[fY,hX];show bP.bind (g (.val (dat x)::rest)) _=_;rw[(h x fF).e];show bP.bind (hX _ _ _ (xs.map dat)) _=_;rw[(Py λy a=>h y (fM _ a)).e];rfl⟩
theorem u5[q:Ok (f O) (bG k)](a:k<=1000000)(h:∀j:bD,j<k->Ok (g (.val (bG j)::lN js O)) (v j)):Ok (gY js (lH f) (λ_=>.ok bF) g O) (.l ((gK k).map v)):=by
 have:=oC (f:=f) (O:=O) (n:=k) a;refine yF (xs:=_root_.R.upTo 0 k) (by rw[f0];calc a) ?_;exact Py (dat:=λj:bD=>bG (0+(j:bH))) λj b=>by
  have:=h j (qF.mp b)
  rwa [<-Ix (j:bH)]at this
theorem f5(m:bD)(b:0<m):∃k:bD,v%(m:bH)=k/\k<m:=by let⟨k,a⟩:=j9 (yI v (by lia:(m:bH)≠0));calc⟨k,a,by have:=aS v (by lia:(0:bH)<m);lia⟩
theorem u6{g:bD->U}(h:∀x y,x<a->y<a->g x=g y->x=y):((gK a).map g).Nodup:=by rw[AU,RG];have:=List.nodup_range (n:=a);rw[AU]at this;calc QN (λ{x y} c d b e=>b (h x y (qF.mp c) (qF.mp d) e)) this
abbrev vY(z:U)(i a b:bD)(x:U):Prop:=∃k,a<=k/\k<b/\x=sd z i k
structure aO(z:U)(i:bD)(g:Fc):Prop where
 ok:g.ok
 n:g.nm=sd z i 25
 w:∀x∈g.ws,vY z i 0 4 x
 d:∀p∈g.ds,vY z i 10 13 p.1/\p.2<=3
 lw: ~~~g.ws<=3
 ld: ~~~g.ds<=2
structure yG(z:U):Prop where
 l:tJ z=bF
 n: ~~~z<=5
theorem yG.nm(h:yG z)(a:i<26)(b:k<26):Nm (sd z i k):=bX2 h.l h.n a b
theorem bX5(Za:yG z)(S:Sd P (lI ns 0) z)(T:i<8):∃f,Ok (P (n+5) .q71 [.l (ns.map bG),bG i]) (oF f)/\ ∀g,f=L g->aO z i g:=by
 let u:∀d,Ok (FA (P (n+4)) (P (n+2)) #[.l (ns.map bG),bG i,(),(),(),()]) (.rt d)->Ok (P (n+2+3) .q71 [.l (ns.map bG),bG i]) d:=λd q=>fG (q:=q) rfl
 delta FA at u;let W:Ok (P (n+4) .q62 [.l (ns.map bG),bG 0]) (bG (lI ns 0)):=mix_is (j:=0);let I:Ok (P (n+4) .q62 [.l (ns.map bG),bG (1+(i:bH))]) (bG (lI ns (1+i))):=mix_is (j:=1+i);generalize lI ns (1+i)=m at I;by_cases w:m%6=5
 .have:=rQ w;exact⟨bL,u _ bA,λg h=>by cases h⟩
 have:=vX w;let⟨a,C,E⟩:=f5 (v:=m) 4 hG;let⟨b,F,G⟩:=f5 (v:=m/6) 3 hG;let q1:Ok (m2 fW @3 .(4) #[.l (ns.map bG),bG i,bG (lI ns 0),bG m,(),()]) (bG a):=by rw[<-C];exact bA
 let X:=u5 (js:=[2,1]) (f:=m2 fW @3 .(4)) (g:=mA (P (n+4) .q70) {@1,@2,@0}) (O:= #[.l (ns.map bG),bG i,bG (lI ns 0),bG m,(),()]) (k:=a) (v:=λj=>bE (sd z i j)) bZ λj c=>by have:=S.e n i j bZ bZ;exact(bA:Ok (mA (P (n+4) .q70) {@1,@2,@0} #[bG j,bG (lI ns 0),bG i]) _)
 let q2:Ok (m2 fW (m2 jW @3 .(6)) .(3) #[.l (ns.map bG),bG i,bG (lI ns 0),bG m,.l ((gK a).map λj=>bE (sd z i j)),()]) (bG b):=by rw[<-F];exact bA
 let Y:=u5 (js:=[2,1,3]) (f:=m2 fW (m2 jW @3 .(6)) .(3)) (g:=mA cV {(mA (P (n+4) .q70) {@1,@2,(m2 cL .(10) @0)}),(m2 fW (mA (P (n+4) .q63) {@3,@0}) .(4))}) (O:= #[.l (ns.map bG),bG i,bG (lI ns 0),bG m,.l ((gK a).map λj=>bE (sd z i j)),()]) (k:=b) (v:=λj=>dP (sd z i (10+j),(jE m j%4).toNat)) bZ λj c=>by let t1:Ok (P (n+4) .q70 [bG (lI ns 0),bG i,bG (10+(j:bH))]) (bE (sd z i (10+j))):=S.e n i (10+j) bZ bZ;show Ok _ (D.t [bE (sd z i (10+j)),bG ((jE m j%4).toNat:bH)]);rw[A6 (yI _ hG)];exact(bA:Ok (mA cV {(mA (P (n+4) .q70) {@1,@2,(m2 cL .(10) @0)}),(m2 fW (mA (P (n+4) .q63) {@3,@0}) .(4))} #[bG j,bG (lI ns 0),bG i,bG m]) _)
 let N:Ok (P (n+4) .q70 [bG (lI ns 0),bG i,bG 25]) (bE (sd z i 25)):=S.e n i 25 bZ bZ;let' g:Fc:=⟨sd z i 25,(gK a).map (sd z i),(gK b).map λj=>(sd z i (10+j),(jE m j%4).toNat)⟩;refine⟨L g,?_,λQ h=>?_⟩
 .let e:oF (L g)= .t [bE (sd z i 25),.t ((gK a).map λj=>bE (sd z i j)),.t ((gK b).map λj=>dP (sd z i (10+j),(jE m j%4).toNat))]:=by
   show D.t [_,.t (((gK a).map (sd z i)).map bE),.t (((gK b).map _).map dP)]=_;rw[kM,kM];rfl
  rw[e];exact u _ bA
 cases h;let w1:∀x∈g.ws,vY z i 0 4 x:=λx r=>by let⟨j,c,rfl⟩:=gO.mp r;exact⟨j,bZ,by have:=qF.mp c;lia,rfl⟩
 let s:∀p∈g.ds,vY z i 10 13 p.1/\p.2<=3:=λp o=>by let⟨j,c,rfl⟩:=gO.mp o;have:=qF.mp c;exact⟨⟨10+j,bZ,bZ,rfl⟩,by show(jE m j%4).toNat<=3;lia⟩
 let M: ~~~g.ws<=3:=by show((gK a).map _).length<=3;rw[cA,qZ];lia
 let K: ~~~g.ds<=2:=by show((gK b).map _).length<=2;rw[cA,qZ];lia
 refine⟨⟨Za.nm bZ hG,λx r=>?_,λp o=>?_,?_,bZ,bZ⟩,rfl,w1,s,M,K⟩
 .let⟨k,_,_,rfl⟩:=w1 x r;exact Za.nm bZ bZ
 .let⟨⟨k,_,_,e⟩,l⟩:=s p o;rw[e];exact⟨Za.nm bZ bZ,bZ⟩
 refine pM.mpr ⟨u6 λx y _ _ e=>(pI e).2,?_,λx r y H e=>?_⟩
 .rw[show g.ds.map (·.1)=(gK b).map λj=>sd z i (10+j)from by show((gK b).map _).map _=_;rw[kM];rfl];exact u6 λx y _ _ e=>by have:=(pI e).2;lia
 let⟨k,_,k1,A⟩:=w1 x r;let⟨p,o,rfl⟩:=gO.mp H;let⟨⟨Z,k2,_,B⟩,_⟩:=s p o;rw[A,B]at e;have:=(pI e).2
 lia
end
theorem Pz:∀ds:J (U×bD),Ok (hX (jS (λ_=>.ok bF)) (jS @0) [] (ds.map dP)) ((ds.map (·.1)).map bE)| []=>⟨rfl⟩|p::ds=>⟨by rw[fY,hX];show bP.bind (hX _ _ _ (ds.map dP)) _=_;rw[(Pz ds).e];rfl⟩
theorem bX6:qL (p2 a) (p2 b)=(a==b):=by have:(a==b)=(a.1==b.1&&a.2==b.2):=rfl;rw[this];show(a.1==b.1&&(a.2==b.2&&bF))=_;rw[Br]
theorem PB:∀tk:J (U×U),bp (p2 t) (tk.map p2)=tk.any (· ==t)| []=>rfl|a::tk=>by show(qL (p2 a) (p2 t)||bp (p2 t) (tk.map p2))=_;rw[PB tk,bX6,wU]
theorem GJ:∀tk:J (U×U),depL (tk.map p2)<=1
 | []=>by simp[depL]|a::tk=>by
  have:=GJ tk;rw[fY,depL];have:fX (p2 a)=1:=by simp[fX,depL]
  lia
theorem PC{tk:J (U×U)}(h:tk.any (· ==t)= !b):Ok (dT bF (p2 t) (.l (tk.map p2))) (.b b):=⟨by delta dT;dsimp only;rw[cK ⟨by have:=GJ tk;lia,by simp[fX,depL]⟩,PB,h];simp⟩
def Tk(fs:J (bR Fc))(nm:U)(t:U×U):Prop:=∃g,L g∈fs/\g.nm=t.1/\g.nm≠nm/\t.2∈g.ws++g.ds.map (·.1)
abbrev fL(fs:J (bR Fc)):D:=.l (fs.map oF)
theorem bX7{nm:U}{k:bD}{tk:J (U×U)}(A:0< ~~~fs)(B:∀g,some g∈fs->g.ok)(N: ~~~tk<=100)(d:tk.Nodup)(i:∀t∈tk,Tk fs nm t)(s5 s6 s7):∃(c:J (U×U)) (p q r:Slot),Ok (uE (P (n+3)) [.val (fL fs),.val (bE nm),.val (bG nb),.own (tk.map p2),.val (bG k),s5,s6,s7]) (.nx [.val (fL fs),.val (bE nm),.val (bG nb),.own (c.map p2),.val (bG k),p,q,r])/\c.Nodup/\(∀t∈c,Tk fs nm t)/\~~~c<= ~~~tk+1:=by
 let T:Pm (~~~(fs.map oF):bH):=⟨by rw[cA];lia⟩;let⟨f,s,j⟩:=da (g:=oF) A (jE nb k);cases f with
 |none=>replace j:Ok (dN (fL fs) (bG (jE nb k%(~~~(fs.map oF):bH)))) .n:=j;calc⟨tk,_,_,_,bA,d,i,bZ⟩|some g=>
  let G:=B g s;let S:=G.lw;let Q:=G.ld;replace j:Ok (dN (fL fs) (bG (jE nb k%(~~~(fs.map oF):bH)))) (.t [bE g.nm,.t (g.ws.map bE),.t (g.ds.map dP)]):=j;by_cases m:g.nm=nm
  .have:Bq g.nm nm true:=⟨mX.mpr m⟩;exact⟨tk,_,_,_,bA,d,i,bZ⟩
  let I:Bq g.nm nm false:=⟨lT.mpr m⟩;let K:∀(O:cQ) [gC O 5 (.val (.t [bE g.nm,.t (g.ws.map bE),.t (g.ds.map dP)]))],Ok (gY [] (fE (5^^^2)) (jS (λ_=>.ok true)) (jS @0) O) (.l ((g.ds.map (·.1)).map bE)):=λO _=>yF (xs:=g.ds.map dP) (by rw[cA];lia) (Pz g.ds)
  let M:Ok (cL (.l (g.ws.map bE)) (.l ((g.ds.map (·.1)).map bE))) (.l ((g.ws++g.ds.map (·.1)).map bE)):=qW bQ bQ (by rw[cO,cA];lia);by_cases v:0< ~~~(g.ws++g.ds.map (·.1))
  .let u:jT 0 (~~~((g.ws++g.ds.map (·.1)).map bE):bH) true:=db (by rw[cA];lia);let H:Pm (~~~((g.ws++g.ds.map (·.1)).map bE):bH):=⟨by rw[cA];lia⟩;let⟨x,C,W⟩:=da (g:=bE) v (jE nb k/7);let w:Tk fs nm (g.nm,x):=⟨g,s,rfl,m,C⟩;cases o:tk.any (· ==(g.nm,x))with
   |true=>let E:Ok (dT true (.t [bE g.nm,bE x]) (.l (tk.map p2))) (.b false):=PC (t:=(g.nm,x)) o;calc⟨tk,_,_,_,bA,d,i,bZ⟩|false=>
    let E:Ok (dT true (.t [bE g.nm,bE x]) (.l (tk.map p2))) (.b true):=PC (t:=(g.nm,x)) o;let X:Sz (~~~(tk.map p2)+1):=jD (by rw[cA];lia);let F:=(bA:Ok (uE (P (n+3)) [.val (fL fs),.val (bE nm),.val (bG nb),.own (tk.map p2),.val (bG k),s5,s6,s7]) _);refine⟨tk++ [(g.nm,x)],_,_,_,by rw[lK];calc F,?_,?_,by rw[cO];calc cU _⟩
    .refine pM.mpr ⟨d,by simp,λa y b z e=>?_⟩;rw[mM.mp z]at e;have:=Ry.mp o a y;rw[e]at this;simp at this
    intro t h;rcases hV.mp h with h|h
    .exact i t h
    rw[mM.mp h];exact w
  let u:jT 0 (~~~((g.ws++g.ds.map (·.1)).map bE):bH) false:=de (by rw[cA];lia);calc⟨tk,_,_,_,bA,d,i,bZ⟩
theorem bX8{nm:U}(K:0< ~~~fs)(M:∀g,L g∈fs->g.ok):∃tk:J (U×U),Ok (P (n+4) .q72 [fL fs,bE nm,bG nb]) (.l (tk.map p2))/\tk.Nodup/\(∀t∈tk,Tk fs nm t)/\~~~tk<=6:=by
 let⟨m,N,Q⟩:=f5 (v:=nb) 7 hG;let e:∀(d:J bD) (tk:J (U×U)) (f s5 b c:Slot),~~~tk+ ~~~d<=6->tk.Nodup->(∀t∈tk,Tk fs nm t)->∃(a:J (U×U)) (p r s u:Slot),Ok (turns 4 (uE (P (n+3))) (d.map λk:bD=>bG (0+(k:bH))) [.val (fL fs),.val (bE nm),.val (bG nb),.own (tk.map p2),f,s5,b,c]) (.nx [.val (fL fs),.val (bE nm),.val (bG nb),.own (a.map p2),p,r,s,u])/\a.Nodup/\(∀t∈a,Tk fs nm t)/\~~~a<=6:=by
  intro d;induction d with
  |nil=>calc λtk f s5 b c i j o=>⟨tk,f,s5,b,c,by rw[zU];calc bA,j,o,by simpa using i⟩|cons k d S=>intro tk f s5 b c i j o;rw[dB]at i;let⟨w,y,z,A,q1,W,Y,l1⟩:=bX7 (P:=P) (n:=n) (nb:=nb) (k:=k) K M bZ j o s5 b c;let⟨x,B,C,E,F,q2,X,Z,T⟩:=S w (.val (bG k)) y z A bZ W Y;exact⟨x,B,C,E,F,by rw[fY,Ix];calc bA,X,Z,T⟩
 let⟨tk,f,s5,b,c,q,G,H,I⟩:=e (gK m) [] .no .no .no .no (by rw[qZ];show 0+_<=_;lia) ku (λt h=>by cases h);refine⟨tk,?_,G,H,I⟩;replace q:Ok (turns 4 (uE (P (n+3))) (_root_.R.upTo 0 m) [.val (fL fs),.val (bE nm),.val (bG nb),.own [],.no,.no,.no,.no]) _:=q;let i2:Ok (lH (m2 fW @2 .(7)) [.val (fL fs),.val (bE nm),.val (bG nb),.own [],.no,.no,.no,.no]) (_root_.R.upTo 0 m):=by
  have:Ok (m2 fW @2 .(7) [.val (fL fs),.val (bE nm),.val (bG nb),.own [],.no,.no,.no,.no]) (bG m):=by rw[<-N];exact bA
  exact oC bZ
 refine fG (n:=n+1) (g:=FC (P (n+3)) (P (n+1))) (O:= #[fL fs,bE nm,bG nb,(),(),(),(),()]) bQ (q:=?_);delta FC
 calc bA
section
variable{z nm:U}{n:bD}{O:cQ}{fs:J (bR Fc)}{g:Fc}{tk:J (U×U)}{t:U×U}{W:J U}{E:J (U×bD)}
theorem GK{α:Type}{dat:α->D}{p:MT}{rest:cQ}{b:α->bW}:∀{xs:J α},(∀x∈xs,Ok (p (.val (dat x)::rest)) (b x))->Ok (hX p @0 rest (xs.map dat)) ((xs.filter b).map dat)
 | [],_=>⟨rfl⟩
 |x::xs,h=>⟨by
  let a:=(GK λy c=>h y (fM _ c)).e;rw[fY,hX,(h x fF).e,rC];cases b x with
  |true=>show bP.bind (hX _ _ _ (xs.map dat)) _=_;rw[a];rfl
  |false=>calc a⟩
abbrev eL(E:J (U×bD)):D:=.l (E.map dP)
def Wt(fs:J (bR Fc))(t:U×U)(x:U):Prop:=x=t.2/\ ∃g,L g∈fs/\g.nm=t.1/\x∈g.ws
def Et(fs:J (bR Fc))(t:U×U)(p:U×bD):Prop:=p.1=t.2/\ ∃g,L g∈fs/\g.nm=t.1/\p∈g.ds
theorem AE{F T:Slot}(o:∀g,some g∈fs->g.ok):∀(gs:J (bR Fc)) (W:J U) (E:J (U×bD)) (s6:Slot),(∀f∈gs,f∈fs)-> ~~~W+6* ~~~gs<=1000-> ~~~E+6* ~~~gs<=1000->
 ∃(c:J U) (a:J (U×bD)) (u:Slot),Ok (turns 6 fv (gs.map oF) [F,T,.val (pL W),.val (eL E),.val (bE t.1),.val (bE t.2),s6]) (.nx [F,T,.val (pL c),.val (eL a),.val (bE t.1),.val (bE t.2),u])/\(∀x∈c,x∈W\/Wt fs t x)/\(∀p∈a,p∈E\/Et fs t p)/\~~~c<= ~~~W+6* ~~~gs/\~~~a<= ~~~E+6* ~~~gs
 | [],W,E,s6,_,_,_=>⟨W,E,s6,by rw[zU];calc bA,λx h=>.inl h,λp h=>.inl h,bZ,bZ⟩|f::gs,W,E,s6,v,y,z=>by
  rw[dB]at y z|-;let e:∀f∈gs,f∈fs:=λf h=>v f (fM _ h)
  cases f with
  |none=>let⟨c,a,k,q,i,j,r,s⟩:=AE (F:=F) (T:=T) o gs W E (.val .n) e bZ bZ;calc⟨c,a,k,(bA:Ok (turns 6 fv (.n::gs.map oF) _) _),i,j,bZ,bZ⟩|some g=>
   let d:some g∈fs:=v _ fF;let G:=o g d;let N:=G.lw;let M:=G.ld;by_cases m:g.nm=t.1
   .let w:Bq g.nm t.1 bF:=⟨mX.mpr m⟩;let I:=vt (λx=>x==t.2) g.ws;let K:=vt (λp:U×bD=>p.1==t.2) g.ds;let⟨c,a,k,q,i,j,r,s⟩:=AE (F:=F) (T:=T) o gs (W++g.ws.filter λx=>x==t.2) (E++g.ds.filter λp=>p.1==t.2) (.val (.t [bE g.nm,.t (g.ws.map bE),.t (g.ds.map dP)])) e (by rw[cO];lia) (by rw[cO];lia);rw[cO]at r s;let A:Ok (gY [5] (fE (6^^^1)) (mB (m2 dW @0 @1)) @0 [F,T,.val (pL W),.val (eL E),.val (bE t.1),.val (bE t.2),.val (.t [bE g.nm,.t (g.ws.map bE),.t (g.ds.map dP)])]) (.l ((g.ws.filter λx=>x==t.2).map bE)):=yF (xs:=g.ws.map bE) (by rw[cA];lia) (GK (dat:=bE) (b:=λx=>x==t.2) λx _=>by have:Bq x t.2 (x==t.2):=⟨rfl⟩;calc(bA:Ok (mB (m2 dW @0 @1) #[bE x,bE t.2]) _));let B:Ok (gY [5] (fE (6^^^2)) (mB (m2 dW (0^^^0) @1)) @0 [F,T,.val (pL (W++g.ws.filter λx=>x==t.2)),.val (eL E),.val (bE t.1),.val (bE t.2),.val (.t [bE g.nm,.t (g.ws.map bE),.t (g.ds.map dP)])]) (.l ((g.ds.filter λp=>p.1==t.2).map dP)):=yF (xs:=g.ds.map dP) (by rw[cA];lia) (GK (dat:=dP) (b:=λp=>p.1==t.2) λx _=>by have:Bq x.1 t.2 (x.1==t.2):=⟨rfl⟩;calc(bA:Ok (mB (m2 dW (0^^^0) @1) #[dP x,bE t.2]) _));let C:Ok (cL (pL W) (.l ((g.ws.filter λx=>x==t.2).map bE))) (pL (W++g.ws.filter λx=>x==t.2)):=qW bQ bQ (by rw[cO];lia);let H:Ok (cL (eL E) (.l ((g.ds.filter λp=>p.1==t.2).map dP))) (eL (E++g.ds.filter λp=>p.1==t.2)):=⟨by show(if _ then _ else _)=_;rw[cK (sJ (by rw[cA,cA];lia)), <-lK]⟩;refine⟨c,a,k,(bA:Ok (turns 6 fv (.t [bE g.nm,.t (g.ws.map bE),.t (g.ds.map dP)]::gs.map oF) _) _),λx h=>?_,λp h=>?_,bZ,bZ⟩
    .rcases i x h with h|h
     .rcases hV.mp h with h|h
      .exact .inl h
      have:=dy.mp h;exact .inr ⟨kI this.2,g,d,m,this.1⟩
     exact .inr h
    rcases j p h with h|h
    .rcases hV.mp h with h|h
     .exact .inl h
     have:=dy.mp h;exact .inr ⟨kI this.2,g,d,m,this.1⟩
    exact .inr h
   let w:Bq g.nm t.1 bJ:=⟨lT.mpr m⟩;let⟨c,a,k,q,i,j,r,s⟩:=AE (F:=F) (T:=T) o gs W E (.val (.t [bE g.nm,.t (g.ws.map bE),.t (g.ds.map dP)])) e bZ bZ;calc⟨c,a,k,(bA:Ok (turns 6 fv (.t [bE g.nm,.t (g.ws.map bE),.t (g.ds.map dP)]::gs.map oF) _) _),i,j,bZ,bZ⟩
theorem PD{T:Slot}(l:∀g,L g∈fs->g.ok)(v: ~~~fs<=8):∀(tk:J (U×U)) (W:J U) (E:J (U×bD)) (a b e:Slot),~~~W+48* ~~~tk<=900-> ~~~E+48* ~~~tk<=900->
 ∃(d:J U) (c:J (U×bD)) (f i j:Slot),Ok (hO 4 5 (jQ 6 (fE @0) fv) (tk.map p2) [.val (fL fs),T,.val (pL W),.val (eL E),a,b,e]) (.nx [.val (fL fs),T,.val (pL d),.val (eL c),f,i,j])/\(∀x∈d,x∈W\/ ∃t∈tk,Wt fs t x)/\(∀p∈c,p∈E\/ ∃t∈tk,Et fs t p)/\~~~d<= ~~~W+48* ~~~tk/\~~~c<= ~~~E+48* ~~~tk
 | [],W,E,a,b,e,_,_=>⟨W,E,a,b,e,by rw[zU];calc bA,λx h=>.inl h,λp h=>.inl h,bZ,bZ⟩|t::tk,W,E,a,b,e,z,A=>by
  rw[dB]at z A|-;let⟨o,m,B,K,r,u,C,G⟩:=AE (t:=t) (F:=.val (fL fs)) (T:=T) l fs W E e (λ_ h=>h) bZ bZ;let⟨q,n,f,i,j,M,w,y,H,I⟩:=PD (T:=T) l v tk o m (.val (bE t.1)) (.val (bE t.2)) B bZ bZ;refine⟨q,n,f,i,j,(bA:Ok (hO 4 5 (jQ 6 (fE @0) fv) (.t [bE t.1,bE t.2]::tk.map p2) _) _),λx h=>?_,λp h=>?_,bZ,bZ⟩
  .rcases w x h with h|⟨s,k,h⟩
   .rcases r x h with h|h
    .exact .inl h
    exact .inr ⟨t,fF,h⟩
   exact .inr ⟨s,fM _ k,h⟩
  rcases y p h with h|⟨s,k,h⟩
  .rcases u p h with h|h
   .exact .inl h
   exact .inr ⟨t,fF,h⟩
  calc .inr ⟨s,fM _ k,h⟩
theorem bX9(k:∀g,L g∈fs->g.ok)(j: ~~~fs<=8)(m: ~~~tk<=6):∃(W:J U) (E:J (U×bD)),Ok (P (n+3) .q73 [fL fs,.l (tk.map p2)]) (.t [pL W,eL E])/\(∀x∈W,∃t∈tk,Wt fs t x)/\(∀p∈E,∃t∈tk,Et fs t p)/\~~~W<=300/\~~~E<=300:=by
 let⟨W,E,a,b,e,q,f,i,c,d⟩:=PD (T:=.val (.l (tk.map p2))) k j tk [] [] .no .no .no (by show 0+_<=_;lia) (by show 0+_<=_;lia);replace q:Ok (hO 4 5 (jQ 6 (fE @0) fv) (tk.map p2) #[fL fs,.l (tk.map p2),.l [],.l [],(),(),()]) _:=q;replace c: ~~~W<=0+48* ~~~tk:=c;replace d: ~~~E<=0+48* ~~~tk:=d;refine⟨W,E,?_,λx h=>(f x h).elim (λh=>by cases h) id,λp h=>(i p h).elim (λh=>by cases h) id,bZ,bZ⟩;refine fG (g:=FG (P (n+2)) (P n)) (O:= #[fL fs,.l (tk.map p2),(),(),(),(),()]) bQ (q:=?_);delta FG
 calc bA
end
section
variable{z:U}{i k n:bD}{m st:bH}{ns:J bH}{fs:J (bR Fc)}{c:Cn}{p:U×bD}{x:D}{l:J U}{u:J D}{hs:J (U×bD)}
theorem PF:∀ds:J (U×bD),Ok (hX (jS (mB (m2 dW @1 .(0)))) (jS @0) [] (ds.map dP)) (((ds.filter λp=>p.2==0).map (·.1)).map bE)
 | []=>⟨rfl⟩
 |p::ds=>⟨by
  let a:=(PF ds).e;rw[fY,hX];let e:jS (mB (m2 dW @1 .(0))) #[dP p]= .ok (p.2==0):=by have:Iq (p.2:bH) 0 (p.2==0):=⟨by cases h:p.2 with|zero=>rfl|succ k=>rw[show((k+1==0)=false)from bQ];calc lT.mpr bZ⟩;exact(bA:Ok (mB (m2 dW @1 .(0)) #[bE p.1,bG p.2]) _).e
  rw[e,rC];cases p.2==0 with
  |true=>show bP.bind (hX _ _ _ (ds.map dP)) _=_;rw[a];rfl
  |false=>calc a⟩
noncomputable def df(c:Cn):J U:=(c.ds.filter λp=>p.2==0).map (·.1)
theorem PH:∀y∈df c,(y,0)∈c.ds:=λy h=>by let⟨p,a,rfl⟩:=gO.mp h;have:=dy.mp a;rw[<-kI this.2];calc this.1
theorem PJ[g:gC O 9 (.val (dL c))](a: ~~~c.ds<=1000):Ok (gY [] (fE @9) (jS (mB (m2 dW @1 .(0)))) (jS @0) O) (pL (df c)):=yF (xs:=c.ds.map dP) (by rw[cA];lia) (PF c.ds)
abbrev mR(s0 s1:Slot)(i:bD)(s3:Slot)(st m:bH)(s6 s7:Slot)(c:Cn)(s10 s11:Slot)(acc:J D)(a b d e f:Slot):cQ:=[s0,s1,.val (bG i),s3,.val (bG st),.val (bG m),s6,s7,.val (nL c),.val (dL c),s10,s11,.own acc,a,b,d,e,f]
theorem bY0(Za:yG z)(S:Sd P st z)(T:c.ok)(hw:0< ~~~c.ws)(lw: ~~~c.ws<=500)(ld: ~~~c.ds<=500)(hi:i<8)(W:∀k,16<=k->k<19->sd z i k∉c.ks)(X:Nm p.1/\p.2<=3)(ha: ~~~acc<=100)(s0 s1 s3 s6 s7 s10 s11 q s A):
 ∃x r w B,Ok (ox (P (n+13)) (mR s0 s1 i s3 st m s6 s7 c s10 s11 acc (.val (bG k)) (.val (dP p)) q s A)) (.nx (mR s0 s1 i s3 st m s6 s7 c s10 s11 (acc++ [x]) (.val (bG k)) (.val (dP p)) r w B))/\ ∃l,FD c x l [dP p]:=by
 let Y:=u5 (js:=[4,2]) (f:=m2 dN @14 .(1)) (g:=mA (P (n+13) .q70) {@1,@2,(m2 cL .(16) @0)}) (O:=mR s0 s1 i s3 st m s6 s7 c s10 s11 acc (.val (bG k)) (.val (dP p)) q s A) (k:=p.2) (v:=λj=>bE (sd z i (16+j))) bZ λj G=>by have:Ok (P (n+13) .q70 [bG st,bG i,bG (16+(j:bH))]) (bE (sd z i (16+j))):=S.e (n+9) i (16+j) bZ bZ;exact(bA:Ok (mA (P (n+13) .q70) {@1,@2,(m2 cL .(16) @0)} #[bG j,bG st,bG i]) _)
 let⟨d,h⟩:∃d:J U,d=(gK p.2).map λj=>sd z i (16+j):=⟨_,rfl⟩
 let Z: ~~~d=p.2:=by rw[h,cA,qZ]
 let K:∀y∈d,vY z i 16 19 y:=λy o=>by rw[h]at o;let⟨j,G,rfl⟩:=gO.mp o;have:=qF.mp G;exact⟨16+j,bZ,bZ,rfl⟩
 rw[show((gK p.2).map λj=>bE (sd z i (16+j)))=d.map bE from by rw[h,kM];rfl]at Y;let F:∀y∈d,Nm y:=λy o=>by let⟨k,H,I,rfl⟩:=K y o;exact Za.nm bZ bZ
 let⟨a,C,Q⟩:=f5 (v:=m) 4 hG;let i2:∀(O:cQ) [gC O 9 (.val (dL c))],Ok (gY [] (fE @9) (jS (mB (m2 dW @1 .(0)))) (jS @0) O) (pL (df c)):=λO _=>PJ bZ
 let i3:Ok (cL (nL c) (.l (d.map bE))) (nL ⟨c.ws++d,c.ds,c.ks⟩):=qW (l:=c.ws) rfl rfl (by rw[cO];lia);let⟨N,M,q2,l,u,q3⟩:=Pw (P:=P) (n:=n+4) (c:=⟨c.ws++d,c.ds,c.ks⟩) (pl:=df c) (m:=2) (k:=1+a) (R:=FS ⟨c.ws++d,c.ds,c.ks⟩ 3) (λnb=>GH (T.put F) (by rw[cO];lia) PH 2 n nb) bZ (jE m (20+k));let i4:Ok (P (n+13) .q63 [bG m,bG (20+(k:bH))]) (bG (jE m (20+k))):=drw_is (n:=n+10) (j:=20+k);replace M:Ok (P (n+13) .q69 [bG (jE m (20+k)),bG (1+m%4),nL ⟨c.ws++d,c.ds,c.ks⟩,dL c,pL (df c),bG 2]) (.t N):=by rw[show 1+m%4=((1+a:bD):bH)from by rw[show m%4=(a:bH)from C];rfl];exact M
 let sz:=jD (a:=acc.length) (b:=1) bZ;let E:=FD.mk (c:=c) X.1 F (by rw[h];calc u6 λx y _ _ e=>by have:=(pI e).2;lia) bZ q3 bZ (λy o=>by let⟨k,H,I,rfl⟩:=K y o;calc W k H I);rw[Z]at E;calc⟨.t [bE p.1,.t (d.map bE),.t [],.t N],_,_,_,(bA:Ok (ox (P (n+13)) _) _),_,E⟩
theorem GL(s m:bD):_root_.R.upTo (s:bH) (m+1)=bG s::_root_.R.upTo ((s+1:bD):bH) m:=by delta _root_.R.upTo;rw[kf,fY,kM];show bG ((s:bH)+((0:bD):bH))::_=_;rw[show(s:bH)+((0:bD):bH)=s from by lia];refine jZ (bG s:: ·) (kh λk _=>?_);show bG ((s:bH)+((k+1:bD):bH))=bG (((s+1:bD):bH)+k);rw[show(s:bH)+((k+1:bD):bH)=((s+1:bD):bH)+k from by lia]
theorem PK(Za:yG z)(S:Sd P st z)(v:c.ok)(A:0< ~~~c.ws)(C: ~~~c.ws<=500)(B: ~~~c.ds<=500)(w:i<8)(y:∀k,16<=k->k<19->sd z i k∉c.ks){s0 s1 s3 s6 s7 s10 s11:Slot}:∀(e:J (U×bD)) (acc:J D) (k:bD) (f g a b d:Slot),(∀p∈e,Nm p.1/\p.2<=3)-> ~~~acc+ ~~~e<=100->
 ∃ys j o r s u,Ok (hO 13 14 (ox (P (n+13))) (_root_.R.pairD (_root_.R.upTo (k:bH) (~~~e)) (e.map dP)) (mR s0 s1 i s3 st m s6 s7 c s10 s11 acc f g a b d)) (.nx (mR s0 s1 i s3 st m s6 s7 c s10 s11 (acc++ys) j o r s u))/\~~~ys= ~~~e/\ ∃l,FP (FD c) ys l (e.map dP)
 | [],acc,k,f,g,a,b,d,_,_=>⟨[],f,g,a,b,d,by rw[jF];calc⟨rfl⟩,rfl,_,.nil⟩|p::e,acc,k,f,g,a,b,d,h,W=>by
  rw[dB]at W;let⟨x,E,F,G,q1,Y,Q⟩:=bY0 (n:=n) (m:=m) (k:=k) (P:=P) Za S v A C B w y (h p fF) (acc:=acc) bZ s0 s1 s3 s6 s7 s10 s11 a b d;let⟨ys,H,I,K,M,N,q2,O,Z,T⟩:=PK (s0:=s0) (s1:=s1) (s3:=s3) (s6:=s6) (s7:=s7) (s10:=s10) (s11:=s11) Za S v A C B w y e (acc++ [x]) (k+1) (.val (bG k)) (.val (dP p)) E F G (λq X=>h q (fM _ X)) (by rw[cO];show _+1+_<=_;lia);refine⟨x::ys,H,I,K,M,N,?_,by rw[dB,O,dB],_,.cons Q T⟩;rw[dB,GL,fY,show acc++x::ys=acc++ [x]++ys from by simp];show Ok (hO 13 14 (ox (P (n+13))) (.t [bG k,dP p]::_root_.R.pairD (_root_.R.upTo ((k+1:bD):bH) (~~~e)) (e.map dP)) _) _
  calc bA
end
section
variable{z:U}{i k n size:bD}{ns:J bH}{fs:J (bR Fc)}{f:bR Fc}{d:D}
noncomputable def wF:bR Fc->J U|some f=>f.ws|none=>[]
structure Mb(z:U)(fs:J (bR Fc))(i:bD)(f:bR Fc)(c:Cn)(tk:J (U×U))(own:J U)(hs:J (U×bD))(W:J U)(E:J (U×bD)):Prop where
 tn:tk.Nodup
 tt:∀t∈tk,Tk fs (sd z i 25) t
 tl: ~~~tk<=6
 ow:∀x∈own,vY z i 5 8 x
 on:own.Nodup
 ol:0< ~~~own/\~~~own<=3
 hh:∀p∈hs,vY z i 13 16 p.1/\p.2<=3
 hn:(hs.map (·.1)).Nodup
 hl: ~~~hs<=2
 ww:∀x∈W,∃t∈tk,Wt fs t x
 ee:∀p∈E,∃t∈tk,Et fs t p
 cw:c.ws=W++wF f++own
 cd:c.ds=E++(dF f++hs)
 ck:c.ks=wF f++(dF f).map (·.1)++tk.map (·.2)++own++hs.map (·.1)
abbrev tO(z:U)(i:bD)(tk:J (U×U))(b:J U)(a xs:J D):D:=.t [bE (sd z i 25),.t (tk.map p2),.t (b.map bE),.t a,.t xs]
structure pJ(z:U)(fs:J (bR Fc)):Prop where
 f:∀j g,fs[j]? =L (L g)->aO z j g
 l: ~~~fs<=8
theorem pJ.mem(F:pJ z fs)(h:L g∈fs):∃j,j<8/\aO z j g:=by let⟨j,a,e⟩:=Re.mp h;calc⟨j,by have:=F.l;lia,F.f j g (by rw[mU a,e])⟩
theorem aO.lies(h:aO z k g)(f:x∈g.ws++g.ds.map (·.1)):vY z k 0 13 x:=by
 rcases hV.mp f with f|f
 .let⟨a,b,c,e⟩:=h.w x f;exact⟨a,b,bZ,e⟩
 let⟨p,i,rfl⟩:=gO.mp f;let⟨⟨a,b,c,e⟩,_⟩:=h.d p i;calc⟨a,bZ,c,e⟩
theorem u7(F:pJ z fs)(h:Tk fs (sd z i 25) t):∃j g,j<8/\j≠i/\L g∈fs/\aO z j g/\g.nm=t.1/\t.2∈g.ws++g.ds.map (·.1)/\vY z j 0 13 t.2:=by let⟨g,a,c,d,b⟩:=h;let⟨j,f,A⟩:=F.mem a;calc⟨j,g,f,λe=>d (by rw[A.n,e]),a,A,c,b,A.lies b⟩
theorem u8(F:pJ z fs)(a:fs[i]? =some f):(∀x∈wF f,vY z i 0 4 x)/\(∀p∈dF f,vY z i 10 13 p.1/\p.2<=3)/\~~~(wF f)<=3/\~~~(dF f)<=2:=by
 cases f with
 |none=>calc⟨λx (h:x∈([]:J U))=>(nomatch h),λx (h:x∈([]:J (U×bD)))=>(nomatch h),lL _,lL _⟩|some g=>let A:=F.f i g a;calc⟨A.w,A.d,A.lw,A.ld⟩
theorem PM(Za:yG z)(F:pJ z fs)(q:fs[i]? =L f)(s:i<8)(M:Mb z fs i f c tk own hs W E):c.ok:=by
 let⟨n,o,_,_⟩:=u8 F q;constructor
 .intro x a;rw[M.cw]at a;rcases hV.mp a with a|a
  .rcases hV.mp a with a|a
   .let⟨t,_,_,g,h,_,m⟩:=M.ww x a;let⟨j,r,A⟩:=F.mem h;let⟨k,_,b,rfl⟩:=A.w x m;exact Za.nm bZ bZ
   let⟨k,_,b,rfl⟩:=n x a;exact Za.nm bZ bZ
  let⟨k,_,b,rfl⟩:=M.ow x a;exact Za.nm bZ bZ
 intro p hp;rw[M.cd]at hp;rcases hV.mp hp with hp|hp
 .let⟨t,_,_,g,h,_,m⟩:=M.ee p hp;let⟨j,r,A⟩:=F.mem h;let⟨⟨k,_,b,e⟩,l⟩:=A.d p m;rw[e];exact⟨Za.nm bZ bZ,bZ⟩
 rcases hV.mp hp with hp|hp
 .let⟨⟨k,_,b,e⟩,l⟩:=o p hp;rw[e];exact⟨Za.nm bZ bZ,bZ⟩
 let⟨⟨k,_,b,e⟩,l⟩:=M.hh p hp;rw[e];calc⟨Za.nm bZ bZ,bZ⟩
theorem bY1(F:pJ z fs)(m:fs[i]? =L f)(M:Mb z fs i f c tk own hs W E)(l:16<=k):sd z i k∉c.ks:=by
 let⟨b,d,_,_⟩:=u8 F m;rw[M.ck];intro h;dsimp[hV,gO]at h;rcases h with(((h|⟨p,h,e⟩)|⟨t,h,e⟩)|h)|⟨p,h,e⟩
 .let⟨j,_,_,e⟩:=b _ h;have:=(pI e).2;lia
 .let⟨⟨j,_,_,a⟩,_⟩:=d p h;rw[a]at e;have:=(pI e).2;lia
 .let⟨j,g,_,n,_,_,_,_,o,_,_,a⟩:=u7 F (M.tt t h);rw[a]at e;exact n (pI e).1
 .let⟨j,_,_,e⟩:=M.ow _ h;have:=(pI e).2;lia
 let⟨⟨j,_,_,a⟩,_⟩:=M.hh p h;rw[a]at e;have:=(pI e).2;lia
theorem bY2(Za:yG z)(S:Sd P (lI ns 0) z)(F:pJ z fs)(H:fs[i]? =some f)(hz:size<=9):∃c tk o hs W E s xs l l' u,Ok (P (n+14) .q74 [.l (ns.map bG),fL fs,bG i,bG size]) (tO z i tk o s xs)/\Mb z fs i f c tk o hs W E/\FP (FD c) s l ((dF f++hs).map dP)/\~~~s<=4/\FP (FS c 3) xs l' u/\~~~xs<=9:=by
 let hi:i< ~~~fs:=(pK.mp H).1;let h8:=F.l;let hg:∀g,some g∈fs->g.ok:=λg h=>by let⟨_,_,A⟩:=F.mem h;exact A.ok
 let⟨a1,a2,X,Y⟩:=u8 F H;let i0:Ok (P (n+13) .q62 [.l (ns.map bG),bG 0]) (bG (lI ns 0)):=mix_is (n:=n+9) (j:=0);let i1:Ok (P (n+13) .q62 [.l (ns.map bG),bG (5+(i:bH))]) (bG (lI ns (5+i))):=mix_is (n:=n+9) (j:=5+i);generalize lI ns (5+i)=m at i1;let i2:Ok (P (n+13) .q70 [bG (lI ns 0),bG i,bG 25]) (bE (sd z i 25)):=S.e (n+9) i 25 bZ bZ;let⟨tk,t1,t2,t3,t4⟩:=bX8 (P:=P) (n:=n+9) (nm:=sd z i 25) (nb:=m/3) bZ hg;let⟨W,E,s1,s2,s3,s4,s5⟩:=bX9 (P:=P) (n:=n+10) (tk:=tk) hg h8 t4;generalize lI ns 0=st at S i0 i2;let⟨a,ha,a0⟩:=f5 (v:=m) 3 hG;let⟨b,hb,a5⟩:=f5 (v:=m/21) 3 hG;let⟨o,K⟩:∃o:J U,o=(gK (1+a)).map λj=>sd z i (5+j):=⟨_,rfl⟩
 let j1:∀(r:cQ),Ok (gY [4,2] (lH (m2 cL .(1) (m2 fW @5 .(3)))) (λ_=>.ok bF) (mA (P (n+13) .q70) {@1,@2,(m2 cL .(5) @0)}) (.val (.l (ns.map bG)):: .val (fL fs):: .val (bG i):: .val (bG size):: .val (bG st):: .val (bG m)::r)) (.l (o.map bE)):=λr=>by
  let q:Ok (m2 cL .(1) (m2 fW @5 .(3)) (.val (.l (ns.map bG)):: .val (fL fs):: .val (bG i):: .val (bG size):: .val (bG st):: .val (bG m)::r)) (bG ((1+a:bD):bH)):=by rw[show((1+a:bD):bH)=1+m%3 from by rw[show m%3=(a:bH)from ha];rfl];exact bA
  rw[K,kM];exact u5 (k:=1+a) (v:=λj=>bE (sd z i (5+j))) bZ λj G=>by have:Ok (P (n+13) .q70 [bG st,bG i,bG (5+(j:bH))]) (bE (sd z i (5+j))):=S.e (n+9) i (5+j) bZ bZ;exact(bA:Ok (mA (P (n+13) .q70) {@1,@2,(m2 cL .(5) @0)} #[bG j,bG st,bG i]) _)
 let⟨hs,I⟩:∃hs:J (U×bD),hs=(gK b).map λj=>(sd z i (13+j),(jE m j%4).toNat):=⟨_,rfl⟩
 let j2:∀(r:cQ),Ok (gY [4,2,5] (lH (m2 fW (m2 jW @5 .(21)) .(3))) (λ_=>.ok bF) (mA cV {(mA (P (n+13) .q70) {@1,@2,(m2 cL .(13) @0)}),(m2 fW (mA (P (n+13) .q63) {@3,@0}) .(4))}) (.val (.l (ns.map bG)):: .val (fL fs):: .val (bG i):: .val (bG size):: .val (bG st):: .val (bG m)::r)) (eL hs):=λr=>by
  let q:Ok (m2 fW (m2 jW @5 .(21)) .(3) (.val (.l (ns.map bG)):: .val (fL fs):: .val (bG i):: .val (bG size):: .val (bG st):: .val (bG m)::r)) (bG b):=by rw[<-hb];exact bA
  rw[show eL hs= .l ((gK b).map λj=>dP (sd z i (13+j),(jE m j%4).toNat))from by rw[I];show D.l (Jq _ (Jq _ _))=_;rw[kM];rfl];exact u5 (k:=b) (v:=λj=>dP (sd z i (13+j),(jE m j%4).toNat)) bZ λj G=>by let t1:Ok (P (n+13) .q70 [bG st,bG i,bG (13+(j:bH))]) (bE (sd z i (13+j))):=S.e (n+9) i (13+j) bZ bZ;show Ok _ (D.t [bE (sd z i (13+j)),bG ((jE m j%4).toNat:bH)]);rw[A6 (yI _ hG)];exact(bA:Ok (mA cV {(mA (P (n+13) .q70) {@1,@2,(m2 cL .(13) @0)}),(m2 fW (mA (P (n+13) .q63) {@3,@0}) .(4))} #[bG j,bG st,bG i,bG m]) _)
 let ow:∀x∈o,vY z i 5 8 x:=λx hx=>by rw[K]at hx;let⟨j,G,rfl⟩:=gO.mp hx;have:=qF.mp G;exact⟨5+j,bZ,bZ,rfl⟩
 let lo: ~~~o=1+a:=by rw[K,cA,qZ]
 let lh: ~~~hs=b:=by rw[I,cA,qZ]
 let hp:∀p∈hs,vY z i 13 16 p.1/\p.2<=3:=λp h=>by rw[I]at h;let⟨j,G,rfl⟩:=gO.mp h;have:=qF.mp G;exact⟨⟨13+j,bZ,bZ,rfl⟩,by show(jE m j%4).toNat<=3;lia⟩
 let⟨c,w,B,T⟩:∃c:Cn,c.ws=W++wF f++o/\c.ds=E++(dF f++hs)/\c.ks=wF f++(dF f).map (·.1)++tk.map (·.2)++o++hs.map (·.1):=⟨⟨_,_,_⟩,rfl,rfl,rfl⟩;let M:Mb z fs i f c tk o hs W E:=⟨t2,t3,t4,ow,by rw[K];calc u6 λx y _ _ e=>by have:=(pI e).2;lia,bZ,hp,by rw[I,kM];calc u6 λx y _ _ e=>by have:=(pI e).2;lia,bZ,s2,s3,w,B,T⟩;let C:=PM Za F H bZ M;let lw: ~~~c.ws<=500:=by rw[w,cO,cO];lia
 let ld: ~~~c.ds<=500:=by rw[B,cO,cO];lia
 let hw:0< ~~~c.ws:=by rw[w,cO];lia
 let N:Ok (dN (fL fs) (bG i)) (oF f):=⟨by let e:pB (fs.map oF) (i:bH)=some (oF f):=eI (by rw[nX,H];rfl);dsimp[dN,e]⟩;let IF:Ok (cI (mB (m2 (jX bF) (m2 dN @1 @2) (kc .n))) (bO (dQ 8 (m2 cL @8 (mA sG {(m2 dN (m2 dN @1 @2) .(1))}))) (dQ 11 (m2 cL (mA sG {(m2 dN (m2 dN @1 @2) .(2))}) @11))) (cN) #[.l (ns.map bG),fL fs,bG i,bG size,bG st,bG m,bE (sd z i 25),.l (tk.map p2),pL W,eL E,.l (o.map bE),eL hs,(),(),(),(),(),()]) (.nx #[.l (ns.map bG),fL fs,bG i,bG size,bG st,bG m,bE (sd z i 25),.l (tk.map p2),pL (W++wF f),eL E,.l (o.map bE),eL (dF f++hs),(),(),(),(),(),()]):=by
  cases f with
  |none=>
   replace N:Ok (dN (fL fs) (bG i)) .n:=N;rw[show W++wF none=W from jF W,show dF none++hs=hs from rfl]
   calc bA
  |some g=>
   replace N:Ok (dN (fL fs) (bG i)) (.t [bE g.nm,.t (g.ws.map bE),.t (g.ds.map dP)]):=N;let X: ~~~g.ws<=3:=X;let Y: ~~~g.ds<=2:=Y;let c1:Ok (cL (pL W) (.l (g.ws.map bE))) (pL (W++wF (some g))):=qW (l':=g.ws) rfl rfl (by rw[cO];lia);let c2:Ok (cL (.l (g.ds.map dP)) (eL hs)) (eL (dF (some g)++hs)):=⟨by show(if _ then _ else _)=_;rw[cK (sJ (by rw[cA,cA];lia)), <-lK];rfl⟩
   exact bA
 let k1:Ok (cL (pL (W++wF f)) (.l (o.map bE))) (nL c):=by delta nL;rw[w];exact qW (l:=W++wF f) rfl rfl (by rw[<-w];lia)
 let k2:Ok (cL (eL E) (eL (dF f++hs))) (dL c):=by delta dL;rw[B];exact⟨by show(if _ then _ else _)=_;rw[cK (sJ (by rw[cA,cA,cO];lia)), <-lK]⟩
 let⟨s,Z,b4,b5,b6,b7,q1,q2,l,q3⟩:=PK (P:=P) (n:=n) (m:=m) (s0:=.val (.l (ns.map bG))) (s1:=.val (fL fs)) (s3:=.val (bG size)) (s6:=.val (bE (sd z i 25))) (s7:=.val (.l (tk.map p2))) (s10:=.val (.l (o.map bE))) (s11:=.val (eL (dF f++hs))) Za S C hw lw ld bZ (λk h _=>bY1 F H M h) (dF f++hs) [] 0 .no .no .no .no .no (λp h=>by
  rcases hV.mp h with h|h
  .let⟨⟨k,_,k2,e⟩,l⟩:=a2 p h;rw[e];exact⟨Za.nm bZ bZ,l⟩
  let⟨⟨k,_,k2,e⟩,l⟩:=hp p h;rw[e];calc⟨Za.nm bZ bZ,l⟩) (by rw[cO];show 0+_<=_;lia)
 let EN:Ok (ry @11 [.val (.l (ns.map bG)),.val (fL fs),.val (bG i),.val (bG size),.val (bG st),.val (bG m),.val (bE (sd z i 25)),.val (.l (tk.map p2)),.val (nL c),.val (dL c),.val (.l (o.map bE)),.val (eL (dF f++hs)),.own [],.no,.no,.no,.no,.no]) (_root_.R.pairD (_root_.R.upTo ((0:bD):bH) (~~~(dF f++hs))) ((dF f++hs).map dP)):=⟨by show bP.ok (_root_.R.pairD (_root_.R.upTo 0 (~~~((dF f++hs).map dP))) ((dF f++hs).map dP))=_;rw[cA];rfl⟩;let PL:∀(O:cQ) [gC O 9 (.val (dL c))],Ok (gY [] (fE @9) (jS (mB (m2 dW @1 .(0)))) (jS @0) O) (pL (df c)):=λO _=>PJ bZ
 let⟨xs,x1,x2⟩:=oG (js:=[8,9,16,0,2]) (f:=gv 3) (g:=mA (P (n+13) .q68) {(mA (P (n+13) .q62) {@4,(m2 cL (m2 cL .(9) @5) (m2 mI .(4) @0))}),@1,@2,@3,.(2)}) (O:=[.val (.l (ns.map bG)),.val (fL fs),.val (bG i),.val (bG size),.val (bG st),.val (bG m),.val (bE (sd z i 25)),.val (.l (tk.map p2)),.val (nL c),.val (dL c),.val (.l (o.map bE)),.val (eL (dF f++hs)),.val (.l s),Z,b4,b5,.val (pL (df c)),b7]) (k:=size) (Q:=λ_ d=>∃l u,FS c 3 d l u) bZ λj G=>by let⟨d,r1,r2⟩:=GH (P:=P) C hw (PH (c:=c)) 2 (n+1) (lI ns (9+i+4*j));replace r1:Ok (P (n+13) .q68 [bG (lI ns (9+i+4*j)),nL c,dL c,pL (df c),bG 2]) d:=r1;let r0:Ok (P (n+13) .q62 [.l (ns.map bG),bG (9+(i:bH)+4*(j:bH))]) (bG (lI ns (9+i+4*j))):=mix_is (n:=n+9) (j:=9+i+4*j);exact⟨d,(bA:Ok (mA (P (n+13) .q68) {(mA (P (n+13) .q62) {@4,(m2 cL (m2 cL .(9) @5) (m2 mI .(4) @0))}),@1,@2,@3,.(2)} #[bG j,nL c,dL c,pL (df c),.l (ns.map bG),bG i]) d),r2⟩
 let⟨y1,y2⟩:=AB x2;rw[f0]at y1;let⟨l',u,y3⟩:=u4 (R:=FS c 3) λy hy=>by let⟨_,_,q⟩:=y2 y hy;exact q
 refine⟨c,tk,o,hs,W,E,s,xs,l,l',u,?_,M,q3,by rw[q2,cO];lia,y3,bZ⟩;refine fG (n:=n+11) (g:=FH (P (n+13)) (P (n+11))) (O:= #[.l (ns.map bG),fL fs,bG i,bG size,(),(),(),(),(),(),(),(),(),(),(),(),(),()]) rfl (q:=?_);delta FH;replace q1:Ok (hO 13 14 (ox (P (n+13))) _ [.val (.l (ns.map bG)),.val (fL fs),.val (bG i),.val (bG size),.val (bG st),.val (bG m),.val (bE (sd z i 25)),.val (.l (tk.map p2)),.val (nL c),.val (dL c),.val (.l (o.map bE)),.val (eL (dF f++hs)),.own [],.no,.no,.no,.no,.no]) (.nx [.val (.l (ns.map bG)),.val (fL fs),.val (bG i),.val (bG size),.val (bG st),.val (bG m),.val (bE (sd z i 25)),.val (.l (tk.map p2)),.val (nL c),.val (dL c),.val (.l (o.map bE)),.val (eL (dF f++hs)),.own s,Z,b4,b5,b6,b7]):=q1
 calc bA
end
section
variable{z:U}{i k n size:bD}{ns:J bH}{fs:J (bR Fc)}{f:bR Fc}{d:D}{a b:bH}
instance:Ok (cb [bG a,bG b]) (bG (if b>a then b else a)):=⟨rfl⟩
instance:Ok (ca [bG a,bG b]) (bG (if b<a then b else a)):=⟨rfl⟩
instance:Ok (aF [.b bF]) (bG 1):=⟨rfl⟩
instance:Ok (aF [.b bJ]) (bG 0):=⟨rfl⟩
def Pr(z:U)(fs:J (bR Fc))(i:bD)(d:D):Prop:=∃f c h b g W E a e l j u,fs[i]? =L f/\d= .t [oF f,tO z i h b a e]/\Mb z fs i f c h b g W E/\FP (FD c) a l ((dF f++g).map dP)/\~~~a<=4/\FP (FS c 3) e j u/\~~~e<=9
theorem GM{Q:D->D->Prop}:∀{k s:bD} {ys:J D},jN Q (_root_.R.upTo (s:bH) k) ys-> ~~~ys=k/\ ∀i y,ys[i]? =L y->Q (bG ((s+i:bD):bH)) y
 |0,s,ys,h=>by cases h;calc⟨rfl,λi y h=>by cases h⟩|k+1,s,ys,h=>by
  rw[GL]at h;cases h with
  |cons h t=>
   let⟨e,q⟩:=GM t;refine⟨by rw[dB,e],λi y a=>?_⟩;cases i with
   |zero=>cases a;calc h|succ i=>
    have:=q i y a
    rwa [show s+1+i=s+(i+1)from by lia]at this
theorem PN:∀{ys} s,(∀i y,ys[i]? =L y->∃f,y=oF f/\ ∀g,f=L g->aO z (s+i) g)->∃fs:J (bR Fc),ys=fs.map oF/\ ∀(i:bD) g,fs[i]? =L (L g)->aO z (s+i) g
 | [],_,_=>⟨[],rfl,λi g h=>by cases h⟩|y::ys,s,h=>by
  let⟨f,rfl,b⟩:=h 0 y rfl;let⟨fs,rfl,c⟩:=PN (s+1) λi y d=>by
   have:=h (i+1) y d
   rwa [show s+(i+1)=s+1+i from by lia]at this
  refine⟨f::fs,rfl,λi g a=>?_⟩;cases i with
  |zero=>calc b g (by cases a;rfl)|succ i=>
   have:=c i g a
   rwa [show s+1+i=s+(i+1)from by lia]at this
theorem bY3(Za:yG z)(S:Sd P (lI ns 0) z):∃fs ys,pJ z fs/\0< ~~~fs/\Ok (P (n+15) .q75 [.l (ns.map bG)]) (.l ys)/\~~~ys= ~~~fs/\ ∀i y,ys[i]? =L y->Pr z fs i y:=by
 let i0:Ok (P (n+14) .q62 [.l (ns.map bG),bG 0]) (bG (lI ns 0)):=mix_is (n:=n+10) (j:=0);let⟨b,hm⟩:∃v,v=lI ns 0/7:=⟨_,rfl⟩;let⟨a,C,Y⟩:=f5 (v:=b) 4 hG;let⟨cnt,c1,c8,c2⟩:∃cnt:bD,1<=cnt/\cnt<=8/\Ok (m2 cL (m2 cL .(1) (m2 fW @1 .(4))) (m2 mI .(4) (mA aF {(m2 dW (m2 fW (m2 jW @1 .(4)) .(6)) .(1))})) #[.l (ns.map bG),bG b,(),(),()]) (bG cnt):=by
  by_cases h:b/4%6=1
  .have:=rQ h;refine⟨5+a,bZ,bZ,?_⟩;rw[show((5+a:bD):bH)=1+b%4+4*1 from by rw[show b%4=(a:bH)from C];lia]
   exact bA
  have:=vX h;refine⟨1+a,bZ,bZ,?_⟩;rw[show((1+a:bD):bH)=1+b%4+4*0 from by rw[show b%4=(a:bH)from C];lia]
  exact bA
 let⟨N,f1,M⟩:=oG (js:=[0]) (f:=gv 2) (g:=mA (P (n+14) .q71) {@1,@0}) (O:= #[.l (ns.map bG),bG b,bG cnt,(),()]) (k:=cnt) (Q:=λx d=>∃j:bD,x=bG j/\ ∃f,d=oF f/\ ∀g,f=L g->aO z j g) bZ λj Z=>by let⟨f,q1,B⟩:=bX5 (P:=P) (n:=n+9) (i:=j) Za S bZ;exact⟨oF f,(bA:Ok (mA (P (n+14) .q71) {@1,@0} #[bG j,.l (ns.map bG)]) _),j,rfl,f,rfl,B⟩
 let⟨H,I⟩:=GM (s:=0) M;let⟨fs,rfl,X⟩:=PN (z:=z) (ys:=N) 0 λi y t=>by
  let⟨j,m,f,K,q⟩:=I i y t;have:(0+i:bD)=j:=by injection m with m;exact Il m
  rw[this];exact⟨f,K,q⟩
 rw[cA]at H;let F:pJ z fs:=⟨λj g h=>by have:=X j g h;rwa [kz]at this,bZ⟩;let⟨size,s9,s1⟩:∃size:bD,size<=9/\ ∀r:cQ,Ok (mA ca {.(9),(mA cb {.(1),(m2 jW (m2 rH (mA gJ {@0}) .(9)) .(4))})} (.val (.l (ns.map bG))::r)) (bG size):=by
  let⟨v,hv⟩:∃v:bH,v=((~~~(ns.map bG):bH)-9)/4:=⟨_,rfl⟩;let⟨w,G⟩:∃w:bH,w=if(if v>1 then v else 1)<9 then(if v>1 then v else 1)else 9:=⟨_,rfl⟩
  let w1:0<=w/\w<=9:=by rw[G];split<;>split<;>lia
  refine⟨w.toNat,bZ,λr=>?_⟩;rw[A6 w1.1,G,hv]
  exact bA
 let⟨ys,y1,y2⟩:=oG (js:=[3,0,4]) (f:=gv 2) (g:=mA cV {(m2 dN @1 @0),(mA (P (n+14) .q74) {@2,@1,@0,@3})}) (O:= #[.l (ns.map bG),bG b,bG cnt,fL fs,bG size]) (k:=cnt) (Q:=λx d=>∃j:bD,x=bG j/\Pr z fs j d) bZ λj Z=>by let p:fs[j]? =L fs[j]:=mU bZ;let⟨c,tk,A,hs,W,E,o,xs,l,l',u,q1,B⟩:=bY2 (P:=P) (n:=n) (size:=size) Za S F p s9;let ix:Ok (dN (fL fs) (bG j)) (oF fs[j]):=⟨by let e:pB (fs.map oF) (j:bH)=L (oF fs[j]):=eI (by rw[nX,p];rfl);dsimp[dN,e]⟩;exact⟨_,(bA:Ok (mA cV {(m2 dN @1 @0),(mA (P (n+14) .q74) {@2,@1,@0,@3})} #[bG j,fL fs,.l (ns.map bG),bG size]) _),j,rfl,fs[j],c,tk,A,hs,W,E,o,xs,l,l',u,p,rfl,B⟩
 let⟨g1,T⟩:=GM (s:=0) y2;refine⟨fs,ys,F,bZ,?_,bZ,λi y t=>?_⟩
 .refine fG (n:=n+12) (g:=FK (P (n+14)) (P (n+12))) (O:= #[.l (ns.map bG),(),(),(),()]) rfl (q:=?_);delta FK;subst hm
  exact bA
 let⟨j,m,q⟩:=T i y t;have:(0+i:bD)=j:=by injection m with m;exact Il m
 rw[kz]at this;rw[this];calc q
end
theorem kL(h:fX d<=k)(t:depL ds<=k):depL (d::ds)<=k:=by rw[depL];lia
theorem tP:depL []<=k:=by rw[depL];calc lL _
theorem vZ:fX (bE s)<=k:=by simp[fX]
theorem mS(h:depL ds<=k):fX (.t ds)<=k+1:=by rw[fX];lia
theorem oI(h:∀x l u,R x l u->fX x<=k)(f:FP R xs l u):depL xs<=k:=by
 induction f with
 |nil=>calc tP|cons a _ b=>calc kL (h _ _ _ a) b
theorem ve:∀m {d l u},FE c m d l u->fX d<=2*m|0,_,_,_,h=>h.elim|m+1,_,_,_,.num _=>mS (k:=2*m+1) (kL vZ (kL (by simp[fX]) tP))|m+1,_,_,_,.nam _=>mS (k:=2*m+1) (kL vZ (kL vZ tP))|m+1,_,_,_,.call _ h=>mS (k:=2*m+1) (kL vZ (kL vZ (kL (mS (oI (λ_ _ _ h=>ve m h) h)) tP)))|m+1,_,_,_,.bin _ a b=>mS (k:=2*m+1) (kL vZ (kL (Be (ve m a)) (kL (Be (ve m b)) tP)))
theorem bY4(a:6<=k)(h:∀x l u,R x l u->fX x<=k)(p:rP c R s x l u):fX x<=k+1:=by
 cases p with
 |word _=>calc vZ|deed _=>calc vZ|expr h=>have:=ve 3 h;lia|parts _ h=>calc mS (oI (λ_ _ _ h=>hE (ve 3 h) a) h)|block _ p=>calc mS (oI h p)
theorem bY5(d:6<=k)(h:∀x l u,R x l u->fX x<=k)(p:FF c R f xs l u):depL xs<=k+1:=by
 induction p with
 |nil=>calc tP|part a _ b=>calc kL (bY4 d h a) b|kept _ _ b=>calc b
theorem GN:∀m {d l u},FS c m d l u->fX d<=2*m+6
 |0,_,_,_,h=>h.elim|m+1,_,_,_,.mk (w:=w) _ a _=>by
  have:=mS (kL (vZ (s:=w) (k:=2*m+6+1)) (bY5 (k:=2*m+6) bZ (λ_ _ _ h=>GN m h) a))
  lia
theorem bY6(h:FD c x l u):fX x<=15:=by
 cases h with
 | @mk z b xs l u d f g i a j m=>
  let e:depL (b.map bE)<=12:=by rw[jx];exact lL _
  calc mS (k:=14) (kL vZ (kL (hE (mS e) hG) (kL (hE (mS (k:=0) tP) hG) (kL (hE (mS (oI (k:=12) (λ_ _ _ h=>GN 3 h) a)) hG) tP))))
theorem GO(h:depL ds<=90):Ok (jR (.t ds) (.t ds)) (.b bJ):=⟨by delta jR;dsimp only;rw[cK ⟨h,h⟩,eqL_refl];rfl⟩
section
variable{z:U}{i k n:bD}{fs gs:J (bR Fc)}{f:bR Fc}{c:Cn}{tk:J (U×U)}{own W:J U}{hs E:J (U×bD)}{t:U×U}{v:D}{g:Fc}
noncomputable def fT:J (bR Fc)->R.Tab| []=>[]|none::fs=>fT fs|some g::fs=>(g.nm,g.d)::fT fs
theorem vf:∀{fs},some g∈fs->(g.nm,g.d)∈fT fs
 |none::fs,h=>vf (fs:=fs) (by cases h;assumption)|some a::fs,h=>by
  rcases jJ.mp h with h|h
  .cases h;exact fF
  calc fM _ (vf h)
theorem PP:∀{gs} s,(∀j g,gs[j]? =some (some g)->g.nm=sd z (s+j) 25)->((fT gs).map (·.1)).Nodup/\(∀x∈(fT gs).map (·.1),∃j,s<=j/\x=sd z j 25)/\~~~(fT gs)<= ~~~gs
 | [],s,_=>⟨ku,λ_ h=>(nomatch h),cU _⟩|f::gs,s,h=>by
  let⟨a,b,e⟩:=PP (gs:=gs) (s+1) λj g m=>by
   have:=h (j+1) g m
   rwa [show s+(j+1)=s+1+j from by lia]at this
  let i:∀x∈(fT gs).map (·.1),∃j,s<=j/\x=sd z j 25:=λx c=>by let⟨j,l,d⟩:=b x c;exact⟨j,bZ,d⟩
  cases f with
  |none=>calc⟨a,i,by rw[dB];calc Be e⟩|some g=>
   let k:=h 0 g rfl;refine⟨tV.mpr ⟨λq=>?_,a⟩,λx c=>?_,RQ e⟩
   .let⟨j,l,d⟩:=b _ q;have:=(pI (k.symm.trans d)).1
    lia
   rcases jJ.mp c with rfl|c
   .exact⟨s,cU _,k⟩
   calc i x c
theorem pJ.ix(F:pJ z fs)(h:L g∈fs):∃j,fs[j]? =L (L g)/\aO z j g:=by
 let⟨j,a,e⟩:=Re.mp h;have:fs[j]? =L (L g):=by rw[mU a,e]
 calc⟨j,this,F.f j g this⟩
theorem pJ.nd(F:pJ z fs):((fT fs).map (·.1)).Nodup:=(PP (z:=z) 0 λj g h=>by rw[kz];calc(F.f j g h).n).1
theorem pJ.one(F:pJ z fs)(h:L g∈fs)(h':L g'∈fs)(e:g.nm=g'.nm):g=g':=by let⟨j,a,A⟩:=F.ix h;let⟨c,b,B⟩:=F.ix h';rw[A.n,B.n]at e;rw[(pI e).1,b]at a;cases a;rfl
theorem PQ(G:g.ok)(h:(x,d)∈wO g):cZ (wO g) x=L d:=cz (by rw[Pg];calc G.u) h
theorem PR(G:g.ok)(h:x∈g.ws):cZ (wO g) x=L mW:=PQ G (mL _ (gO.mpr ⟨x,h,rfl⟩))
theorem PU(G:g.ok)(h:p∈g.ds):cZ (wO g) p.1=L (mD p.2):=PQ G (mK _ (gO.mpr ⟨p,h,rfl⟩))
structure Tv(fs:J (bR Fc))(un:U)(t:U×U)(v:D):Prop where
 o:Az un (fT fs) t v
 w:∀x,Wt fs t x->v=mW
 d:∀p,Et fs t p->v=mD p.2
theorem bY7(F:pJ z fs)(h:Tk fs un t):∃v,Tv fs un t v:=by
 let⟨g,f,i,n,o⟩:=h;let G:g.ok:=by let⟨_,_,A⟩:=F.ix f;exact A.ok
 let m:cZ (fT fs) t.1=L g.d:=by rw[<-i];exact cz F.nd (vf f)
 let k:(t.1==un)=bJ:=lT.mpr (i▸n);let⟨v,j⟩:∃v,cZ (wO g) t.2=L v:=by
  rcases hV.mp o with h|h
  .exact⟨_,PR G h⟩
  let⟨p,q,e⟩:=gO.mp h;exact⟨_,e▸PU G q⟩
 refine⟨v,⟨k,g,G,m,j⟩,λx ⟨e,l,a,b,c⟩=>?_,λp ⟨e,l,a,b,c⟩=>?_⟩
 .rw[<-F.one f a (i.trans b.symm),e]at c;exact kE (j.symm.trans (PR G c))
 rw[<-F.one f a (i.trans b.symm)]at c;rw[<-e]at j;calc kE (j.symm.trans (PU G c))
theorem PV{α β:Type}{Q:α->β->Prop}:∀{l},(∀x∈l,∃v,Q x v)->∃l':J (α×β),l=l'.map (·.1)/\ ∀p∈l',Q p.1 p.2
 | [],_=>⟨[],rfl,λ_ h=>(nomatch h)⟩|x::l,h=>by
  let⟨v,b⟩:=h x fF;let⟨l',rfl,a⟩:=PV λy c=>h y (fM _ c)
  refine⟨(x,v)::l',rfl,λp hp=>?_⟩;rcases jJ.mp hp with rfl|hp
  .exact b
  calc a p hp
theorem bY8:(tF f).map (·.1)=wF f++(dF f).map (·.1):=by
 cases f with
 |none=>rfl|some g=>calc Pg
theorem bY9{tk:J ((U×U)×D)}:(j7 f tk own hs).map (·.1)=wF f++(dF f).map (·.1)++(tk.map (·.1)).map (·.2)++own++hs.map (·.1):=by dsimp[lK,kM,bY8];rw[show own.map ((λp:U×D=>p.1) ∘ λz=>(z,mW))=own from o8 own];rfl
theorem bZ0(F:pJ z fs)(H:fs[i]? =some f)(M:Mb z fs i f c tk own hs W E):c.ks.Nodup:=by
 let⟨N,O,_,_⟩:=u8 F H;let w:∀x∈wF f++(dF f).map (·.1),∃k,k<13/\(k<4\/10<=k)/\x=sd z i k:=λx a=>by
  rcases hV.mp a with a|a
  .let⟨k,_,h,e⟩:=N x a;exact⟨k,bZ,.inl h,e⟩
  let⟨p,r,rfl⟩:=gO.mp a;let⟨⟨k,h,P,e⟩,_⟩:=O p r;exact⟨k,P,.inr h,e⟩
 let B:∀x∈tk.map (·.2),∃j k,j≠i/\x=sd z j k:=λx a=>by let⟨t,T,rfl⟩:=gO.mp a;let⟨j,g,_,l,_,_,_,_,k,_,_,e⟩:=u7 F (M.tt t T);exact⟨j,k,l,e⟩
 let I:=M.ow;let Z:∀x∈hs.map (·.1),vY z i 13 16 x:=λx a=>by let⟨p,r,rfl⟩:=gO.mp a;exact(M.hh p r).1
 let X:(wF f++(dF f).map (·.1)).Nodup:=by
  cases f with
  |none=>calc ku|some g=>exact(F.f i g H).ok.u
 let Y:(tk.map (·.2)).Nodup:=by have:=M.tn;rw[AU]at this|-;rw[RG];refine QN (λ{x y} a m s e=>s ?_) this;let⟨j,g,_,_,_,A,b,_,k,_,_,d⟩:=u7 F (M.tt x a);let⟨j',g',_,_,_,K,q,_,v,_,_,o⟩:=u7 F (M.tt y m);rw[d,o]at e;refine li ?_ (by rw[d,o,e]);rw[<-b, <-q,A.n,K.n,(pI e).1]
 rw[M.ck];refine pM.mpr ⟨pM.mpr ⟨pM.mpr ⟨X,Y,λx a y m e=>?_⟩,M.on,λx a y m e=>?_⟩,M.hn,λx a y m e=>?_⟩
 .let⟨k,_,_,b⟩:=w x a;let⟨j,v,l,d⟩:=B y m;rw[b,d]at e;exact l (pI e).1.symm
 .let⟨v,Q,S,d⟩:=I y m;rcases hV.mp a with a|a
  .let⟨k,C,G,b⟩:=w x a;rw[b,d]at e;have:=(pI e).2;lia
  let⟨j,k,l,b⟩:=B x a;rw[b,d]at e;exact l (pI e).1
 let⟨v,Q,S,d⟩:=Z y m;rcases hV.mp a with a|a
 .rcases hV.mp a with a|a
  .let⟨k,C,G,b⟩:=w x a;rw[b,d]at e;have:=(pI e).2;lia
  let⟨j,k,l,b⟩:=B x a;rw[b,d]at e;exact l (pI e).1
 let⟨k,C,G,b⟩:=I x a;rw[b,d]at e;have:=(pI e).2;lia
theorem PX(Za:yG z)(F:pJ z fs)(G:fs[i]? =some f)(M:Mb z fs i f c tk own hs W E)(N:FP (FD c) q l ((dF f++hs).map dP))(h4: ~~~q<=4)(m:FP (FS c 3) xs l' u)(O: ~~~xs<=9):
 Ok (P (n+39) .q21 [tO z i tk own q xs,cJ (fT fs),oF f]) .n/\(∃w,∀n,Ok (P (n+39) .q51 [tO z i tk own q xs]) (bE w)/\Ok (P (n+39) .read [bE w]) (tO z i tk own q xs))/\Ok (P (n+39) .q17 [tO z i tk own q xs]) (.b bJ)/\fX (tO z i tk own q xs)<=80:=by
 let Y:i<8:=by have:=(pK.mp G).1;have:=F.l;lia
 let C:=PM Za F G Y M;let K:=bZ0 F G M;let⟨a1,a2,a3,a4⟩:=u8 F G;let⟨I,s,B⟩:=PV λt r=>bY7 F (M.tt t r)
 let y:(j7 f I own hs).map (·.1)=c.ks:=by rw[bY9,M.ck,s]
 let H:∀{t:U×U},t∈tk->∃v,(t,v)∈I/\Tv fs (sd z i 25) t v:=λ{t} r=>by rw[s]at r;let⟨p,hp,rfl⟩:=gO.mp r;exact⟨p.2,hp,B p hp⟩
 let T:Tq (j7 f I own hs) c:=⟨y▸K,λx m=>by
  rw[M.cw]at m;rcases hV.mp m with m|m
  .rcases hV.mp m with m|m
   .let⟨t,r,w⟩:=M.ww x m;let⟨v,B,V⟩:=H r;rw[w.1, <-V.w x w];exact mL _ (mL _ (mK _ (gO.mpr ⟨_,B,rfl⟩)))
   refine mL _ (mL _ (mL _ ?_));cases f with|none=>cases m|some g=>exact mL _ (gO.mpr ⟨x,m,rfl⟩)
  .exact mL _ (mK _ (gO.mpr ⟨x,m,rfl⟩)),λp hp=>by
  rw[M.cd]at hp;rcases hV.mp hp with hp|hp
  .let⟨t,r,w⟩:=M.ee p hp;let⟨v,B,V⟩:=H r;rw[w.1, <-V.d p w];exact mL _ (mL _ (mK _ (gO.mpr ⟨_,B,rfl⟩)))
  rcases hV.mp hp with hp|hp
  .refine mL _ (mL _ (mL _ ?_));cases f with|none=>cases hp|some g=>exact mK _ (gO.mpr ⟨p,hp,rfl⟩)
  calc mK _ (gO.mpr ⟨p,hp,rfl⟩)⟩
 let Z: ~~~(j7 f I own hs)<=900:=by rw[<-cA (f:=λp:U×D=>p.1),y,M.ck];have:=M.tl;have:=M.ol;have:=M.hl;dsimp[cO,cA];lia
 let Q:=bV8 (P:=P) (n:=n+15) (un:=sd z i 25) (F:=fT fs) (λg e=>(F.f i g (e▸G)).ok) C (λp hp=>(B p hp).o) T (λx m=>y▸m) Z N m O;rw[show(I.map λt=>p2 t.1)=tk.map p2 from by rw[s,kM];rfl]at Q;let a:FU c (tO z i tk own q xs) _:=.mk (Za.nm bZ hG) (λt r=>by let⟨j,g,hj,_,_,A,S,_,k,_,hk,X⟩:=u7 F (M.tt t r);rw[<-S,A.n,X];calc⟨Za.nm bZ hG,Za.nm bZ bZ⟩) (by have:=M.tl;lia) (λx m=>by let⟨k,_,h,rfl⟩:=M.ow x m;calc Za.nm bZ bZ) (by have:=M.ol;lia) N bZ m O;refine⟨Q,⟨_,λn=>bU3 (P:=P) (n:=n+2) C a⟩,(OI (P:=P) (n:=n+3) C a).2,mS (k:=79) ?_⟩;calc kL vZ (kL (hE (mS (GJ tk)) hG) (kL (hE (mS (k:=0) (by rw[jx];calc cU _)) hG) (kL (hE (mS (oI (k:=15) (λ_ _ _ h=>bY6 h) N)) hG) (kL (hE (mS (oI (k:=12) (λ_ _ _ h=>GN 3 h) m)) hG) tP))))
theorem GP:∀ds:J (U×bD),depL (ds.map dP)<=1| []=>tP|p::ds=>kL (mS (k:=0) (kL vZ (kL (by simp[fX]) tP))) (GP ds)
end
abbrev dH(a b c d:R.Tab)(k:bH):D:=.shf [cJ a,cJ b,cJ c,cJ d,bG k]
class Dp(d:D):Prop where
 e:fX d<1000
section
variable{O ρ' ρ1 ρ2 ρ3:cQ}{i j n p q':bD}{f g:ME}{x y v e w u:D}{ds es xs:J D}{z:U}{T a b c d a' b' c' d':R.Tab}{k k' m':bH}{s s' t':Ob}{fa:MA}{m:J D->bP D}{A:MS}{gX':J D->bW}
instance:Ok (nK 0 (.shf (x::xs))) x:=⟨rfl⟩
instance:Ok (nK 1 (.shf (y::x::xs))) x:=⟨rfl⟩
instance:Ok (nK 2 (.shf (v::y::x::xs))) x:=⟨rfl⟩
instance:Ok (nK 3 (.shf (w::v::y::x::xs))) x:=⟨rfl⟩
instance:Ok (nK 4 (.shf (u::w::v::y::x::xs))) x:=⟨rfl⟩
instance:Ok (qC (cJ T) (bE z) e) ((cZ T z).getD e):=⟨by delta cJ qC;dsimp only;rw[lR]⟩
instance [r:Ok (f O) x] [o:Ok (g O) y] {h:ME} [q:Ok (h O) v] {m:D->D->D->bP D} [t:Ok (m x y v) e]:Ok (m3 m f g h O) e:=⟨by delta m3;rw[r.e,o.e,q.e];calc t.e⟩
instance [r:Ok (f O) (.shf xs)] [o:Ok (fa O) ds] [q:Ok (m (.shf xs::ds)) e]:Ok (jM m f fa O) e:=⟨by delta jM;rw[r.e,o.e];calc q.e⟩
instance:Od (.shf [a,b,c,d] k) (dH a b c d k):=⟨rfl⟩
instance:Dp (bE z):=⟨by simp[fX]⟩
instance:Dp (bG k):=⟨by simp[fX]⟩
instance:Dp .n:=⟨by simp[fX]⟩
instance [o:gC O i (.obj p (.shf [a,b,c,d] k))] [r:gS O i (.val (dH a b c d k)) ρ'] [q:Ok (f ρ') e] [t:Dp e]:Ok (yZ i f O) e:=⟨by delta yZ;rw[o.e];show(f (O.set i (.val (dH a b c d k)))).bind y4=_;rw[r.e,q.e];calc cK t.e⟩
instance [o:gC O i (.obj p (.shf [a,b,c,d] k))] [r:gS O i (.obj p (.shf [a,b,c,d] (k+k'))) ρ']:Ok (n6 i k' O) (.nx ρ'):=⟨by delta n6;rw[o.e];dsimp only;rw[r.e]⟩
theorem AF{a:J R.Tab}(q:Ok (g O) v)(r:Ok (f O) (bE z))(o:gC O i (.obj p (.shf a k)))(h:a[n]? =L T)(t:Sz (~~~T+1))(u:Pt T z v b)(w:gS O i (.obj p (.shf (a.set n b) k)) ρ'):Ok (yD i n f g O) (.nx ρ'):=⟨by delta yD;rw[q.e];show bP.bind (f O) _=_;rw[r.e];show t7 i n v (bE z) O=_;delta t7;rw[o.e];dsimp only;rw[h];dsimp only;rw[cK (show ~~~T<cR from t.e),u.e,w.e]⟩
instance [q:Ok (g O) v] [r:Ok (f O) (bE z)] [o:gC O i (.obj p (.shf [a,b,c,d] k))] [t:Sz (~~~a+1)] [u:Pt a z v a'] [w:gS O i (.obj p (.shf [a',b,c,d] k)) ρ']:Ok (yD i 0 f g O) (.nx ρ'):=AF q r o bQ t u w
instance [q:Ok (g O) v] [r:Ok (f O) (bE z)] [o:gC O i (.obj p (.shf [a,b,c,d] k))] [t:Sz (~~~b+1)] [u:Pt b z v b'] [w:gS O i (.obj p (.shf [a,b',c,d] k)) ρ']:Ok (yD i 1 f g O) (.nx ρ'):=AF q r o bQ t u w
instance [q:Ok (g O) v] [r:Ok (f O) (bE z)] [o:gC O i (.obj p (.shf [a,b,c,d] k))] [t:Sz (~~~c+1)] [u:Pt c z v c'] [w:gS O i (.obj p (.shf [a,b,c',d] k)) ρ']:Ok (yD i 2 f g O) (.nx ρ'):=AF q r o bQ t u w
instance [q:Ok (g O) v] [r:Ok (f O) (bE z)] [o:gC O i (.obj p (.shf [a,b,c,d] k))] [t:Sz (~~~d+1)] [u:Pt d z v d'] [w:gS O i (.obj p (.shf [a,b,c,d'] k)) ρ']:Ok (yD i 3 f g O) (.nx ρ'):=AF q r o bQ t u w
instance [o:gC O i (.obj p (.shf [a,b,c,d] k))] [q:Ok (fa O) ds] [r:Ok (m (dH a b c d k::ds)) (.t [e,dH a' b' c' d' k'])]:Ok (zH i m fa O) (e,.shf [a',b',c',d'] k'):=⟨by delta zH;rw[o.e];dsimp only;rw[q.e];show Ob.dec (.shf [a,b,c,d] k) (m (dH a b c d k::ds))=_;rw[r.e];show bP.ok (e,Ob.shf [(a'.map (·.1)).zip (a'.map (·.2)),(b'.map (·.1)).zip (b'.map (·.2)),(c'.map (·.1)).zip (c'.map (·.2)),(d'.map (·.1)).zip (d'.map (·.2))] k')=_;rw[lR,lR,lR,lR]⟩
instance [o:gC O 0 (.obj 1 (.shf [a,b,c,d] k))]:Ok (fq (.rr e O)) (.t [e,dH a b c d k]):=⟨by delta fq uh;dsimp only;rw[o.e];rfl⟩
theorem GQ(h: ~~~ds+1=np):ft np n A (dH a b c d k::ds)=(A (mH n (vR 0 ds (.shf [a,b,c,d] k)))).bind fq:=by show(if ~~~ds+1=np then(A (mH n (vR 0 ds (.shf [(a.map (·.1)).zip (a.map (·.2)),(b.map (·.1)).zip (b.map (·.2)),(c.map (·.1)).zip (c.map (·.2)),(d.map (·.1)).zip (d.map (·.2))] k)))).bind fq else .bad)=_;rw[lR,lR,lR,lR,cK h]
instance:Ok (zg O) (.shf [[],[],[],[]] 0):=⟨rfl⟩
class Oc(d:D)(s:vE Ob):Prop where
 e:zI d=L s
instance:Oc (.l xs) (.l xs):=⟨rfl⟩
instance:Oc (cJ T) (.tab T):=⟨by delta cJ zI;dsimp only;rw[lR]⟩
theorem GR{b c:D}{a:Ob}(d:Od s x)(h2:Od t y)(h:Ok (m (ds++ [x,y])) (.t [e,b,c]))(f:Oc b a)(g:Oc c t2):pH m ds s t= .ok (e,a,t2):=by delta pH;rw[d.e,h2.e];dsimp only;rw[h.e];delta zi;dsimp only;rw[f.e,g.e]
instance [o:gC O 2 (.obj p s)] {t t2 a:Ob} {b c:D} [o2:gC O 3 (.obj q' t)] [o3:gC O 0 (.val (.shf xs))] [q:Ok (fa O) [v]] [h1:Od s x] [h2:Od t y] [h:Ok (m [.shf xs,v,x,y]) (.t [e,b,c])] [h3:Oc b a] [h4:Oc c t2] [u1:gS O 2 (.obj p a) ρ1] [u2:gS ρ1 3 (.obj q' t2) ρ2] [u3:gS ρ2 j (.val e) ρ3]:Ok (jh j 0 2 3 m fa O) (.nx ρ3):=⟨by delta jh;rw[o.e,o2.e,o3.e];dsimp only;rw[cX hG,q.e];show bP.bind (pH m [.shf xs,v] s t) _=_;rw[GR h1 h2 (show Ok (m ([.shf xs,v]++ [x,y])) _ from h) h3 h4];show bP.ok (Fl.nx (((O.set 2 (.obj p a)).set 3 (.obj q' t2)).set j (.val e)))=_;rw[u1.e,u2.e,u3.e]⟩
instance [o:gC O 4 (.obj p s)] {t t2 b:Ob} {a:D} [o2:gC O 5 (.obj q' t)] [q:Ok (fa O) [v,w,u,a]] {c d:D} [h1:Od s x] [h2:Od t y] [h:Ok (m [v,w,u,a,x,y]) (.t [e,c,d])] [h3:Oc c b] [h4:Oc d t2] [u1:gS O 4 (.obj p b) ρ1] [u2:gS ρ1 5 (.obj q' t2) ρ2] [u3:gS ρ2 j (.val e) ρ3]:Ok (n9 j 4 5 m fa O) (.nx ρ3):=⟨by delta n9;rw[o.e,o2.e];dsimp only;rw[cX hG,q.e];show bP.bind (pH m [v,w,u,a] s t) _=_;rw[GR h1 h2 (show Ok (m ([v,w,u,a]++ [x,y])) _ from h) h3 h4];show bP.ok (Fl.nx (((O.set 4 (.obj p b)).set 5 (.obj q' t2)).set j (.val e)))=_;rw[u1.e,u2.e,u3.e]⟩
instance [o:gC O i (.obj p s)] {t2 b:Ob} {a c d:D} [q:Ok (fa O) [v,w,u,a]] [h1:Od s x] [h:Ok (m [v,w,u,a,x,.l []]) (.t [e,c,d])] [h3:Oc c b] [h4:Oc d t2] [u1:gS O i (.obj p b) ρ1] [u3:gS ρ1 j (.val e) ρ3]:Ok (oh j i m fa O) (.nx ρ3):=⟨by delta oh;rw[o.e];dsimp only;rw[q.e];show bP.bind (pH m [v,w,u,a] s (.l [])) _=_;rw[GR h1 (bA:Od (.l []) (.l [])) (show Ok (m ([v,w,u,a]++ [x,.l []])) _ from h) h3 h4];show bP.ok (Fl.nx ((O.set i (.obj p b)).set j (.val e)))=_;rw[u1.e,u3.e]⟩
theorem PY(o:gC O n (.obj 1 s))(b:gC O (n+1) (.obj 2 t))(a:Od s x)(h2:Od t y):Ok (cq n (.rr e O)) (.t [e,x,y]):=⟨by delta cq t8;dsimp only;rw[o.e,b.e];dsimp[a.e,h2.e]⟩
instance {t:Ob} [o:gC O 2 (.obj 1 s)] [o2:gC O 3 (.obj 2 t)] [h1:Od s x] [h2:Od t y]:Ok (cq 2 (.rr e O)) (.t [e,x,y]):=PY o o2 h1 h2
instance {t:Ob} [o:gC O 4 (.obj 1 s)] [o2:gC O 5 (.obj 2 t)] [h1:Od s x] [h2:Od t y]:Ok (cq 4 (.rr e O)) (.t [e,x,y]):=PY o o2 h1 h2
theorem bZ1:n7 4 6 A [x,y,cJ T,.l xs]=(A [.val x,.val y,.obj 1 (.tab T),.obj 2 (.l xs),.no,.no]).bind (cq 2):=by show(match zI (cJ T),zI (.l xs)with|some s,some t=>(A (mH 6 (jg [x,y] s t))).bind (cq 2)|_,_=>.bad)=_;rw[(bA:Oc (cJ T) (.tab T)).e];rfl
instance [r:gC O i (.obj p (.l ds))] [q:Ok (f O) x] [t:Sz (~~~ds+1)] [o:gS O i (.obj p (.l (ds++ [x]))) ρ']:Ok (tB i f O) (.nx ρ'):=⟨by delta tB;rw[r.e];dsimp only;rw[q.e];show(if _ then _ else _)=_;rw[cK (show ~~~ds<cR from t.e),o.e]⟩
instance [q:gS O i (.val x) ρ1] [r:Ok (A ρ1) (.rr e ρ2)]:Ok (turns i A (x::ds) O) (.rr e ρ2):=⟨by delta turns;rw[q.e,r.e];rfl⟩
instance [q:gS O i (.val x) ρ1] [o:gS ρ1 j (.val y) ρ2] [r:Ok (A ρ2) (.rr e ρ3)]:Ok (hO i j A (.t [x,y]::ds) O) (.rr e ρ3):=⟨by delta hO;dsimp only;rw[q.e,o.e,r.e];rfl⟩
theorem bZ2[q:Ok (fa O) ds](h:gX' ds=bF):Ok (jq m gX' fa O) (.rt .n):=⟨by delta jq;rw[q.e];calc cK h⟩
theorem bZ3[q:Ok (fa O) ds](h:gX' ds=bJ)[r:Ok (m ds) e]:Ok (jq m gX' fa O) (.rt e):=⟨by delta jq;rw[q.e];show(if gX' ds=bF then bP.ok (Fl.rt .n)else(m ds).bind λd=>.ok (.rt d))=_;rw[cX (by rw[h];simp),r.e];rfl⟩
theorem bZ4(bs:J bW):Ok (oi [.l (bs.map .b)]) (.b (bs.any id)):=⟨by delta oi;dsimp only;rw[Gq];rfl⟩
theorem bZ5(h:∀z∈zs,~~~z<=1000):Ok (sG [.dct zs vs]) (.l (zs.map bE)):=⟨cK (mE.mpr λz a=>kF (h z a))⟩
instance [q:Iq k m' bJ]:Ok (jR (bG k) (bG m')) (.b bF):=⟨jZ (λv=>bP.ok (D.b !v)) q.e⟩
end
section
variable{a b c d:R.Tab}{k:bH}{x z:U}{n:bD}{O:cQ}{u v e:D}{tk:J (U×U)}{xs r:J D}
instance:Ok (P (n+3) .q89 [dH a b c d k,bE x]) ((cZ b x).getD (bG 0)):=by
 refine fG (n:=n) (g:=FZ (P (n+2)) (P n)) (O:= #[dH a b c d k,bE x]) bQ (q:=?_);delta FZ
 calc bA
instance:Ok (P (n+3) .q90 [dH a b c d k,bE x]) ((cZ a x).getD .n):=by
 refine fG (n:=n) (g:=F3 (P (n+2)) (P n)) (O:= #[dH a b c d k,bE x]) bQ (q:=?_);delta F3
 calc bA
instance:Ok (P (n+3) .q91 [dH a b c d k,bE x]) ((cZ c x).getD .n):=by
 refine fG (n:=n) (g:=F5 (P (n+2)) (P n)) (O:= #[dH a b c d k,bE x]) bQ (q:=?_);delta F5
 calc bA
instance:Ok (P (n+3) .q92 [dH a b c d k,bE x]) ((cZ d x).getD (.t [])):=by
 refine fG (n:=n) (g:=F7 (P (n+2)) (P n)) (O:= #[dH a b c d k,bE x]) bQ (q:=?_);delta F7
 calc bA
noncomputable def dd:J U->J U->J U|_,[]=>[]|a,s::l=>if s∈a then dd a l else s::dd (a++ [s]) l
noncomputable abbrev lS(l:J U):R.Tab:=l.map λx=>(x,.b bF)
theorem vg(l):(lS l).map (·.1)=l:=by rw[kM];calc o8 l
theorem bZ6(h:x∈l):hU (lS l) x (.b bF)=lS l:=by
 delta hU;rw[cK (wS.mpr ⟨(x,.b bF),gO.mpr ⟨x,h,rfl⟩,kF bQ⟩),kM];refine kh λy _=>?_
 show(if y=x then(y,D.b bF)else(y,.b bF))=_;split<;>rfl
theorem PZ(h:x∉l):hU (lS l) x (.b bF)=lS (l++ [x]):=by rw[Ay (by rw[vg];calc h)];show _=(l++ [x]).map _;rw[lK];rfl
theorem AG:∀{l seen},x∈dd seen l->x∈l
 | [],_,h=>by cases h|s::l,seen,h=>by
  delta dd at h;symm
  .exact fM _ (AG h)
  rcases jJ.mp h with rfl|h
  .exact fF
  calc fM _ (AG h)
theorem AH:∀{l seen},~~~(dd seen l)<= ~~~l
 | [],_=>cU _|s::l,seen=>by
  delta dd;split
  .exact Be AH
  calc RQ AH
theorem GS{X:Slot}:∀(tk:J (U×U)) (acc:J U) (s:Slot),~~~acc+ ~~~tk<=900->∃s',Ok (turns 2 (mJ 1 (2^^^0) (kc (.b bF))) (tk.map p2) [X,.dic 0 (lS acc),s]) (.nx [X,.dic 0 (lS (acc++dd acc (tk.map (·.1)))),s'])
 | [],acc,s,_=>⟨s,by show Ok (turns 2 _ [] _) (.nx [X,.dic 0 (lS (acc++ [])),s]);rw[jF];calc bA⟩|t::tk,acc,s,h=>by
  rw[dB]at h;let e:=jD (a:=(lS acc).length) (b:=1) (by rw[cA];lia);by_cases c:t.1∈acc
  .let⟨s',q⟩:=GS (X:=X) tk acc (.val (p2 t)) bZ;let d:Pt (lS acc) t.1 (.b bF) (lS acc):=⟨bZ6 c⟩;refine⟨s',?_⟩;rw[show dd acc ((t::tk).map (·.1))=dd acc (tk.map (·.1))from cK c];show Ok (turns 2 _ (p2 t::tk.map p2) _) _
   exact bA
  let⟨s',q⟩:=GS (X:=X) tk (acc++ [t.1]) (.val (p2 t)) (by rw[cO];show _+1+_<=_;lia);let d:Pt (lS acc) t.1 (.b bF) (lS (acc++ [t.1])):=⟨PZ c⟩;refine⟨s',?_⟩;rw[show dd acc ((t::tk).map (·.1))=t.1::dd (acc++ [t.1]) (tk.map (·.1))from cX c];rw[nQ,List.singleton_append]at q;show Ok (turns 2 _ (p2 t::tk.map p2) _) _
  calc bA
theorem P0(h:∀t∈tk,~~~t.1<=1000)(c: ~~~tk<=900):Ok (P (n+3) .q50 [.t (u:: .t (tk.map p2)::r)]) (.l ((dd [] (tk.map (·.1))).map bE)):=by
 let⟨s,q⟩:=GS (X:=.val (.t (u:: .t (tk.map p2)::r))) tk [] .no (by show 0+_<=_;lia);rw[ko]at q;replace q:Ok (turns 2 _ (tk.map p2) [_,.dic 0 [],.no]) _:=q;let d:Ok (sG [cJ (lS (dd [] (tk.map (·.1))))]) (.l ((dd [] (tk.map (·.1))).map bE)):=by have:=bZ5 (zs:=(lS (dd [] (tk.map (·.1)))).map (·.1)) (vs:=(lS (dd [] (tk.map (·.1)))).map (·.2)) (λz a=>by rw[vg]at a;let⟨t,b,rfl⟩:=gO.mp (AG a);calc h t b);rw[vg]at this;delta cJ;rw[vg];exact this
 refine fG (n:=n) (g:=E8 (P (n+2)) (P n)) (O:= #[.t (u:: .t (tk.map p2)::r),(),()]) rfl (q:=?_);delta E8
 calc bA
end
noncomputable abbrev kT(bk:J (U×bD)):R.Tab:=bk.map λp=>(p.1,bG p.2)
noncomputable def kG(bk:J (U×bD))(x:U):bD:=((bk.find? λp=>cE (p.1=x)).map (·.2)).getD 0
theorem GT:(cZ (kT bk) x).getD (bG 0)=bG (kG bk x):=by delta cZ kG kT;rw[Su];show(IY _ (IY _ (bk.find? λp=>cE (p.1=x)))).getD _=_;cases bk.find? λp=>cE (p.1=x)<;>rfl
theorem bZ7{m:bD}:∃a,hU (kT bk) z (bG m)=kT a/\~~~a<= ~~~bk+1/\ ∀p∈a,p.1=z\/ ∃c∈bk,c.1=p.1:=by
 delta hU;split
 .refine⟨bk.map λp=>if p.1=z then(p.1,m)else p,?_,by rw[cA];lia,λp b=>?_⟩
  rotate_left
  .let⟨c,d,rfl⟩:=gO.mp b;exact .inr ⟨c,d,by split<;>rfl⟩
  rw[kM];show _=(bk.map _).map _;rw[kM];refine kh λp _=>?_
  show(if p.1=z then(p.1,bG m)else(p.1,bG p.2))=((if p.1=z then(p.1,m)else p).1,bG (if p.1=z then(p.1,m)else p).2);split<;>rfl
 calc⟨bk++ [(z,m)],by show _=(bk++ [(z,m)]).map _;rw[lK];rfl,by rw[cO];calc cU _,λp b=>(hV.mp b).elim (λh=>.inr ⟨p,h,rfl⟩) λh=>.inl (by rw[mM.mp h])⟩
theorem GU:((hU T z w).map (·.1))=if z∈T.map (·.1)then T.map (·.1)else T.map (·.1)++ [z]:=by
 delta hU;let e:(T.any λp=>cE (p.1=z))=bF ↔ z∈T.map (·.1):=by simp[wS]
 by_cases h:z∈T.map (·.1)
 .rw[cK (e.mpr h),cK h,kM];refine kh λp _=>?_
  show(if p.1=z then(p.1,w)else p).1=p.1;split<;>rfl
 rw[cX (λq=>h (e.mp q)),cX h,lK];rfl
theorem P1(h:(T.map (·.1)).Nodup):((hU T z w).map (·.1)).Nodup:=by
 rw[GU];split
 .exact h
 rename_i q;calc pM.mpr ⟨h,by simp,λx a y b e=>by rw[mM.mp b]at e;calc q (e▸a)⟩
theorem oJ: ~~~(hU T z w)<= ~~~T+1:=by
 rw[<-cA (f:=λp:U×D=>p.1),GU, <-cA (as:=T) (f:=λp:U×D=>p.1)];split
 .lia
 rw[cO];calc cU _
theorem dh:cZ (hU T z w) x=if x=z then some w else cZ T x:=by
 delta hU;split
 .rename_i h;delta cZ;rw[Su];let e:((λp:U×D=>cE (p.1=x)) ∘ λp=>if p.1=z then(p.1,w)else p)=λp=>cE (p.1=x):=by
   funext p;show cE ((if p.1=z then(p.1,w)else p).1=x)=_;split<;>rfl
  rw[e,HW];cases q:T.find? λp=>cE (p.1=x)with
  |none=>
   by_cases a:x=z
   .let⟨p,b,c⟩:=wS.mp h;have:=vy.mp q p b;rw[a]at this;exact dD c this
   rw[cX a];rfl
  |some p=>
   let b:p.1=x:=by simpa using HR q
   show some (if p.1=z then(p.1,w)else p).2=_;rw[b];split<;>rfl
 rename_i h;delta cZ;rw[List.find?_append];by_cases a:x=z
 .rw[cK a,vy.mpr λp b q=>h (wS.mpr ⟨p,b,by rw[<-a];calc q⟩)];rw[Option.none_or,zR,show cE ((z,w).1=x)=bF from kF a.symm];rfl
 rw[cX a,show S8 (λp:U×D=>cE (p.1=x)) [(z,w)]=none from by rw[zR,show cE ((z,w).1=x)=bJ from jI λq=>a q.symm];rfl,Option.or_none]
theorem AI:∀{l m:J U},l.Nodup->(∀x∈l,x∈m)-> ~~~l<= ~~~m
 | [],_,_,_=>lL _|x::l,m,a,h=>by
  let a:=tV.mp a;let b:=h x fF;have:=AI (m:=m.erase x) a.2 λy c=>(Rb (show y≠x from λe=>a.1 (by rw[<-e];calc c))).mpr (h y (fM _ c))
  rw[QM b]at this;have:=List.length_pos_of_mem b;rw[dB];lia
theorem AJ(h:(T.map (·.1)).contains x=b):Ok (dT bJ (bE x) (cJ T)) (.b b):=⟨by delta cJ dT;dsimp only;rw[h];cases b<;>rfl⟩
theorem P2{nms:J U}(u:x∈nms)(p:∀y∈a.map (·.1),y∈nms)(r:∀y∈c.map (·.1),y∈nms)(s:(a.map (·.1)).Nodup)(t:(c.map (·.1)).Nodup)(v: ~~~nms<=8):Ok (P (n+3) .q86 [dH a b c d k,bE x]) (.b true):=by
 refine fG (n:=n) (g:=FY (P (n+2)) (P n)) (O:= #[dH a b c d k,bE x]) rfl (q:=?_);delta FY Ec;cases i:(a.map (·.1)).contains x with
 |true=>have:=AJ i;calc bA|false=>
  let w:=AJ i;cases j:(c.map (·.1)).contains x with
  |true=>have:=AJ j;calc bA|false=>
   let z:=AJ j;let C:=AI s p;let E:=AI t r;let A:Ok (oj (cJ a) (cJ c)) (bG ((R.cnt (a.map (·.1)) (c.map (·.1)):bD):bH)):=⟨cK bZ⟩
   let B:jT ((R.cnt (a.map (·.1)) (c.map (·.1)):bD):bH) 8 true:=⟨kF (by
    let e:R.cnt (a.map (·.1)) (c.map (·.1))= ~~~(a.map (·.1)++(c.map (·.1)).filter λk=>cE (k∉a.map (·.1))):=by delta R.cnt;rw[cO]
    have:=AI (l:=x::(a.map (·.1)++(c.map (·.1)).filter λk=>cE (k∉a.map (·.1)))) (m:=nms) (tV.mpr ⟨λh=>?_,pM.mpr ⟨s,t.filter _,λy f F o q=>?_⟩⟩) λy f=>?_
    .rw[dB, <-e]at this;lia
    .rcases hV.mp h with h|h
     .rw[sK.mpr h]at i;cases i
     rw[sK.mpr (dy.mp h).1]at j;cases j
    .have:=(dy.mp o).2;rw[v6]at this;exact this (q▸f)
    rcases jJ.mp f with rfl|f
    .exact u
    rcases hV.mp f with f|f
    .exact p y f
    calc r y (dy.mp f).1)⟩
   calc bA
section
variable{a b c d:R.Tab}{k:bD}{x z w:U}{n:bD}{O:cQ}{u v e w1 w2 w3:D}{tk:J (U×U)}{xs r:J D}{bk:J (U×bD)}{nms:J U}{f:Fc}
theorem bZ8(o: ~~~a<=900)(q: ~~~bk<=900):∃e,~~~e<= ~~~bk+1/\(∀p∈e,p.1=f.nm\/ ∃l∈bk,l.1=p.1)/\Ok (P (n+3) .q87 [dH a (kT bk) c d k,f.d]) (.t [bG (k+1:bD),dH (hU a f.nm f.d) (kT e) c d (k+1:bD)]):=by
 let⟨e,g,h,i⟩:=bZ7 (bk:=bk) (z:=f.nm) (m:=k+1);refine⟨e,h,i,?_⟩;let j:Pt a f.nm f.d (hU a f.nm f.d):=⟨rfl⟩;let r:Pt (kT bk) f.nm (bG ((k:bH)+1)) (kT e):=⟨g⟩;let s:=jD (a:=a.length) (b:=1) bZ;let u:=jD (a:=(kT bk).length) (b:=1) (by rw[cA];lia);refine kQ (n:=n) (X:=(Ac (P (n+2)) (P n) [.obj 1 (.shf [a,kT bk,c,d] k),.val f.d]).bind fq) (GQ (np:=2) (n:=2) (A:=Ac (P (n+2)) (P n)) (ds:=[f.d]) bQ) ?_;delta Ac;show Ok _ (D.t [bG ((k:bH)+1),dH (hU a f.nm f.d) (kT e) c d ((k:bH)+1)]);delta Fc.d at j|-
 calc bA
def kp(bk:J (U×bD))(l:J U):J (U×bD):=l.map λo=>(o,kG bk o)
noncomputable def GV(bk:J (U×bD)):D->D|bE o=>dP (o,kG bk o)|_=>.n
instance {q:J (U×bD)}:Dp (.t (q.map dP)):=⟨by have:=mS (GP q);lia⟩
theorem bZ9(m:∀t∈tk,~~~t.1<=1000)(f: ~~~tk<=900)(s: ~~~c<=900)(v: ~~~d<=900)(w:Ok (P (n+5) .q21 [.t [bE x,.t (tk.map p2),w1,w2,w3],cJ a,(cZ a x).getD .n]) .n):
 Ok (P (n+6) .q88 [dH a (kT bk) c d k,.t [bE x,.t (tk.map p2),w1,w2,w3]]) (.t [bG 0,dH a (kT bk) (hU c x (.t [bE x,.t (tk.map p2),w1,w2,w3])) (hU d x (.t ((kp bk (x::dd [] (tk.map (·.1)))).map dP))) k]):=by
 let z:=P0 (P:=P) (n:=n+2) (u:=bE x) (r:=[w1,w2,w3]) m f;let I: ~~~(dd [] (tk.map (·.1)))<=900:=hE AH (by rw[cA];calc f);let B:Sz ([bE x].length+ ~~~((dd [] (tk.map (·.1))).map bE)):=jD (by rw[cA];show 1+_<=_;lia)
 let i:∀O:cQ,Ok (fE (m2 cL (mA hZ {@2}) (mA (P (n+5) .q50) {@1})) O) ([bE x]++(dd [] (tk.map (·.1))).map bE)->O[0]? =L (.val (dH a (kT bk) (hU c x (.t [bE x,.t (tk.map p2),w1,w2,w3])) d k))->
  Ok (gY [0] (fE (m2 cL (mA hZ {@2}) (mA (P (n+5) .q50) {@1}))) (λ_=>.ok bF) (mA cV {@0,(jM (P (n+5) .q89) @1 {@0})}) O) (.l ((kp bk (x::dd [] (tk.map (·.1)))).map dP)):=λO p j=>by
  refine yF (by rw[cO,cA];show 1+_<=_;lia) ?_;rw[show lN [0] O= #[dH a (kT bk) (hU c x (.t [bE x,.t (tk.map p2),w1,w2,w3])) d k]from by delta lN;simp[j];rfl];have:=Ap (h:=GV bk) (rest:= #[dH a (kT bk) (hU c x (.t [bE x,.t (tk.map p2),w1,w2,w3])) d k]) (g:=mA cV {@0,(jM (P (n+5) .q89) @1 {@0})}) (xs:=[bE x]++(dd [] (tk.map (·.1))).map bE) λy e=>by
   let e:y∈(x::dd [] (tk.map (·.1))).map bE:=e;let⟨o,_,rfl⟩:=gO.mp e;let q:Ok (P (n+5) .q89 [dH a (kT bk) (hU c x (.t [bE x,.t (tk.map p2),w1,w2,w3])) d k,bE o]) (bG (kG bk o)):=by have:=(bA:Ok (P (n+2+3) .q89 [dH a (kT bk) (hU c x (.t [bE x,.t (tk.map p2),w1,w2,w3])) d k,bE o]) _);rw[GT]at this;exact this
   show Ok _ (D.t [bE o,bG (kG bk o)])
   exact bA
  rw[show([bE x]++(dd [] (tk.map (·.1))).map bE).map (GV bk)=(kp bk (x::dd [] (tk.map (·.1)))).map dP from by delta kp;show((x::dd [] (tk.map (·.1))).map bE).map (GV bk)=_;rw[kM,kM];rfl]at this;exact this
 let C:=i #[dH a (kT bk) (hU c x (.t [bE x,.t (tk.map p2),w1,w2,w3])) d k,.t [bE x,.t (tk.map p2),w1,w2,w3],bE x,.n] bA rfl;let E:Pt c x (.t [bE x,.t (tk.map p2),w1,w2,w3]) (hU c x (.t [bE x,.t (tk.map p2),w1,w2,w3])):=⟨rfl⟩;let F:Pt d x (.t ((kp bk (x::dd [] (tk.map (·.1)))).map dP)) (hU d x (.t ((kp bk (x::dd [] (tk.map (·.1)))).map dP))):=⟨rfl⟩;let G:=jD (a:=c.length) (b:=1) bZ;let H:=jD (a:=d.length) (b:=1) bZ;refine kQ (n:=n+3) (X:=(Ad (P (n+5)) (P (n+3)) [.obj 1 (.shf [a,kT bk,c,d] k),.val (.t [bE x,.t (tk.map p2),w1,w2,w3]),.no,.no]).bind fq) (GQ (np:=2) (n:=4) (A:=Ad (P (n+5)) (P (n+3))) (ds:=[.t [bE x,.t (tk.map p2),w1,w2,w3]]) rfl) ?_;delta Ad
 calc bA
theorem P3{v:D}{S':R.Tab×R.Tab×R.Tab×R.Tab}(j:Ok (P (n+2) .read [bE w]) (.t (bE x::xs)))(i:Ok (P (n+2) .q86 [dH a b c d k,bE x]) (.b true))(h:Ok (P (n+2) .q17 [.t (bE x::xs)]) (.b t))(f:Ok (P (n+2) (if t=true then .q87 else .q88) [dH a b c d k,.t (bE x::xs)]) (.t [e,dH S'.1 S'.2.1 S'.2.2.1 S'.2.2.2 g])):Ok (P (n+3) .put [dH a b c d k,bE w]) (.t [e,dH S'.1 S'.2.1 S'.2.2.1 S'.2.2.2 g]):=by
 refine kQ (n:=n) (X:=(Ab (P (n+2)) (P n) [.obj 1 (.shf [a,b,c,d] k),.val (bE w),.no,.no]).bind fq) (GQ (np:=2) (n:=4) (A:=Ab (P (n+2)) (P n)) (ds:=[bE w]) bQ) ?_;delta Ab;cases t with
 |true=>replace f:Ok (P (n+2) .q87 _) _:=f;calc bA|false=>replace f:Ok (P (n+2) .q88 _) _:=f;calc bA
end
section
variable{a c d V Kp M:R.Tab}{k:bH}{x z w:U}{n m:bD}{bk q:J (U×bD)}{nms met ord:J U}{v fd:D}{tk:J (U×U)}{b:bW}
structure Un(nms:J U)(bk:J (U×bD))(c d V Kp M:R.Tab):Prop where
 u:∀x v,cZ c x=L v->∃(tk:J (U×U)) (r:J D),v= .t (bE x:: .t (tk.map p2)::r)/\~~~tk<=900/\ ∀t∈tk,t.1∈nms
 k:∀x v,cZ c x=L v->∃q:J (U×bD),cZ d x=L (.t (q.map dP))/\~~~q<=900/\ ∀p∈q,p.1∈nms
 l:∀x∈nms,~~~x<=100/\(x.cps.toList.all λc=>cE (c<16^8))=bF
 cu:∀x,cZ V x=cZ c x
 ck:∀x,cZ Kp x=cZ d x
 cm:∀x∈nms,(cZ M x).getD (bG 0)=bG (kG bk x)
def zP(bk q:J (U×bD)):bW:=q.any λp=> !((kG bk p.1:bH)==p.2)
theorem oK(h:(T.map (·.1)).contains x= !b):Ok (dT bF (bE x) (cJ T)) (.b b):=⟨by delta cJ dT;dsimp only;rw[h];cases b<;>rfl⟩
theorem P4{l:J U}(h:l.contains x= !b):Ok (dT bF (bE x) (.l (l.map bE))) (.b b):=⟨by
 dsimp[dT];rw[cK ⟨by rw[jx];decide,by simp[fX]⟩,Gr];have:(l.any λy=>y==x)=l.contains x:=by rw[List.contains_eq_any_beq];congr 1;funext y;exact Bool.beq_comm
 rw[this,h];cases b<;>rfl⟩
theorem AK:(T.map (·.1)).contains x=(cZ T x).isSome:=by
 cases h:cZ T x with
 |some v=>calc sK.mpr (Ax h)|none=>
  cases q:(T.map (·.1)).contains x with
  |false=>rfl|true=>let⟨p,a,e⟩:=gO.mp (sK.mp q);delta cZ at h;rw[Option.map_eq_none_iff,vy]at h;calc dD (kF e) (h p a)
theorem cA0{i j:bD}:Ok (jR (bG i) (bG j)) (.b !((i:bH)==j)):=⟨rfl⟩
theorem cA1{C:CT}(h:∀p∈q,Ok (jM (C .q89) @2 {@0} [.val (bE p.1),.val (bG p.2),S]) (bG (kG bk p.1))):Ok (hX (jS (λ_=>.ok bF)) (jS (m2 jR (jM (C .q89) @2 {@0}) @1)) [S] (q.map dP)) ((q.map λp=> !((kG bk p.1:bH)==p.2)).map .b):=by
 induction q with
 |nil=>calc⟨rfl⟩|cons p q d=>let f:=h p fF;let g:=cA0 (i:=kG bk p.1) (j:=p.2);let c:Ok (m2 jR (jM (C .q89) @2 {@0}) @1 [.val (bE p.1),.val (bG p.2),S]) (.b !((kG bk p.1:bH)==p.2)):=bA;refine⟨?_⟩;rw[fY,hX];show bP.bind (m2 jR _ _ [.val (bE p.1),.val (bG p.2),S]) _=_;rw[c.e];show bP.bind (hX _ _ _ _) _=_;rw[(d λp a=>h p (fM _ a)).e];rfl
theorem cA2(f:cZ d x=L (.t (q.map dP)))(j: ~~~q<=900):Ok (P (n+6) .q95 [dH a (kT bk) c d k,bE x]) (.b (zP bk q)):=by
 let m:Tg d x (.t (q.map dP)):=⟨f⟩;let h:∀O:cQ,O= #[dH a (kT bk) c d k,bE x]->Ok (gY [0] (fE (m2 dN (m1 (nK 3) @0) @1)) (jS (λ_=>.ok bF)) (jS (m2 jR (jM (P (n+5) .q89) @2 {@0}) @1)) O) (.l ((q.map λp=> !((kG bk p.1:bH)==p.2)).map .b)):=λO e=>by
  subst e;refine yF (xs:=q.map dP) (by rw[cA];lia) ?_;exact cA1 (C:=P (n+5)) (S:=.val (dH a (kT bk) c d k)) λp _=>by
   have:Ok (P (n+2+3) .q89 [dH a (kT bk) c d k,bE p.1]) ((cZ (kT bk) p.1).getD (bG 0)):=bA;rw[GT]at this;replace this:Ok (P (n+5) .q89 [dH a (kT bk) c d k,bE p.1]) _:=this
   exact bA
 let o:=h _ bQ;let i:=bZ4 (q.map λp=> !((kG bk p.1:bH)==p.2));rw[show(q.map λp=> !((kG bk p.1:bH)==p.2)).any id=zP bk q from by delta zP;rw[SM];rfl]at i;refine fG (n:=n+3) (g:=Gc (P (n+5)) (P (n+3))) (O:= #[dH a (kT bk) c d k,bE x]) bQ (q:=?_);delta Gc
 calc bA
noncomputable abbrev GW(b:bW)(fd:D)(O:cQ):Fl:=if b=bF then .rr fd O else .nx O
theorem P5{A B:Slot}{o e:J D}{s8 s9 s10:Slot}(d:∀x∈nms,(cZ M x).getD (bG 0)=bG (kG bk x)):∀q s6 s7,(∀p∈q,p.1∈nms)->∃a b,Ok (hO 6 7 uF (q.map dP) [.val (bE x),A,B,.val (cJ M),.obj 1 (.l o),.obj 2 (.l e),s6,s7,s8,s9,s10]) (GW (zP bk q) (.t [bE "old",bE x]) [.val (bE x),A,B,.val (cJ M),.obj 1 (.l o),.obj 2 (.l e),a,b,s8,s9,s10])
 | [],s6,s7,_=>⟨s6,s7,(bA:Ok (hO 6 7 uF [] _) (Fl.nx _))⟩|p::q,s6,s7,h=>by
  let i:Ok (qC (cJ M) (bE p.1) (bG 0)) (bG (kG bk p.1)):=by have:Ok (qC (cJ M) (bE p.1) (bG 0)) ((cZ M p.1).getD (bG 0)):=bA;rw[d _ (h p fF)]at this;exact this
  cases c:((kG bk p.1:bH)==p.2)with
  |true=>
   let g:Iq (kG bk p.1) p.2 true:=⟨c⟩;let⟨a,b,j⟩:=P5 (A:=A) (B:=B) (o:=o) (e:=e) (s8:=s8) (s9:=s9) (s10:=s10) d q (.val (bE p.1)) (.val (bG p.2)) λy f=>h y (fM _ f)
   refine⟨a,b,?_⟩;rw[show zP bk (p::q)=zP bk q from by delta zP;rw[wU,c];rfl];show Ok (hO 6 7 uF (.t [bE p.1,bG p.2]::q.map dP) _) _
   calc bA
  |false=>
   let g:Iq (kG bk p.1) p.2 false:=⟨c⟩;refine⟨.val (bE p.1),.val (bG p.2),?_⟩;rw[show zP bk (p::q)=true from by delta zP;rw[wU,c];rfl];show Ok (hO 6 7 uF (.t [bE p.1,bG p.2]::q.map dP) _) (Fl.rr _ _)
   calc bA
noncomputable def yH(nms a:J U):bD:=(nms.filter λy=>cE (y∉a)).length
theorem P6(h:x∈nms)(a:x∉met):yH nms (met++ [x])+1<=yH nms met:=by
 delta yH;let e:(nms.filter λy=>cE (y∉met++ [x]))=(nms.filter λy=>cE (y∉met)).filter λy=>cE (y≠x):=by
  rw[List.filter_filter];refine RE λy _=>?_
  dsimp[hV,mM,not_or,Bool.decide_and,Bool.and_comm]
 rw[e];let b:x∈nms.filter λy=>cE (y∉met):=dy.mpr ⟨h,kF a⟩
 have:=List.length_filter_lt_length_iff_exists (p:=λy=>cE (y≠x)) (l:=nms.filter λy=>cE (y∉met))|>.mpr ⟨x,b,by simp⟩
 lia
def Ft(nms:J U)(fd:D):Prop:=∃w y:U,fd= .t [bE w,bE y]/\(w="nounit" \/w="old")/\y∈nms
structure f6(nms:J U)(c:R.Tab)(met ord met' ord':J U):Prop where
 s:∀y∈met,y∈met'
 l: ~~~met'+yH nms met'<= ~~~met+yH nms met
 r:yH nms met'<=yH nms met
 o: ~~~ord'+ ~~~met<= ~~~ord+ ~~~met'
 u:∀y∈ord',y∈nms/\ ∃v,cZ c y=L v
theorem f6.trans{m1 a m2 b:J U}(h:f6 nms c met ord m1 a)(g:f6 nms c m1 a m2 b):f6 nms c met ord m2 b:=⟨λy d=>g.s y (h.s y d),hE g.l h.l,hE g.r h.r,by have:=g.o;have:=h.o;lia,g.u⟩
abbrev P7(P:bD->CT)(S:D)(n:bD)(x:U)(c d:J U)(fd:D)(a b:J U):Prop:=Ok (P n .q94 [S,bE x,cJ (lS c),.l (d.map bE)]) (.t [fd,cJ (lS a),.l (b.map bE)])
abbrev P8(P:bD->CT)(V e M:R.Tab)(n:bD)(x:U)(c d:J U)(fd:D)(a b:J U):Prop:=Ok (P n .q76 [bE x,cJ V,cJ e,cJ M,.l (d.map bE),.l (c.map bE)]) (.t [fd,.l (b.map bE),.l (a.map bE)])
inductive BoQ(P:bD->CT)(nms:J U)(S:D)(c V Kp M:R.Tab)(m:bD)(x:U)(met ord:J U):Prop
 |mk (fd:D) (met' ord':J U) (_:∀n,P7 P S (n+m+10) x met ord fd met' ord'/\P8 P V Kp M (n+m+10) x met ord fd met' ord') (_:fd= .n\/Ft nms fd) (_:x∈met') (_:f6 nms c met ord met' ord')
abbrev P9(P:bD->CT)(nms:J U)(S:D)(c V a M:R.Tab)(m:bD):Prop:=∀(x:U) (met ord:J U),x∈nms->x∉met->yH nms met<=m-> ~~~met+yH nms met<=900-> ~~~ord<= ~~~met->(∀y∈ord,y∈nms/\ ∃v,cZ c y=L v)->BoQ P nms S c V a M m x met ord
abbrev GX(S:D)(x:U)(a b:J U)(c s5:Slot):cQ:=[.val S,.val (bE x),.obj 1 (.tab (lS a)),.obj 2 (.l (b.map bE)),c,s5]
abbrev vh(x:U)(V c M:R.Tab)(a b:J U)(s6 s7 s8 s9 s10:Slot):cQ:=[.val (bE x),.val (cJ V),.val (cJ c),.val (cJ M),.obj 1 (.l (b.map bE)),.obj 2 (.l (a.map bE)),s6,s7,s8,s9,s10]
theorem cA4(h: ~~~ord<= ~~~met)(a:∀y∈ord,y∈nms/\ ∃v,cZ c y=L v):f6 nms c met ord met ord:=⟨λ_ h=>h,cU _,cU _,cU _,a⟩
theorem Qa:((lS met).map (·.1)).contains x=met.contains x:=by rw[vg]
inductive GoQ(P:bD->CT)(nms:J U)(xs:J D)(c V Kp M:R.Tab)(m:bD)(x:U)(s6 s7:Slot)(tk:J (U×U))(l met ord:J U):Prop
 |mk (b:bW) (fd:D) (met' ord':J U) (_:(∀n s4 s5 s8 s9 s10,(∃s4' s5',Ok (turns 4 (N4 (P (n+m+10))) (l.map bE) (GX (.shf xs) x met ord s4 s5)) (GW b fd (GX (.shf xs) x met' ord' s4' s5')))/\
  ∃s8' s9' s10',Ok (hO 8 9 (N6 (P (n+m+10))) (tk.map p2) (vh x V Kp M met ord s6 s7 s8 s9 s10)) (GW b fd (vh x V Kp M met' ord' s6 s7 s8' s9' s10')))) (_:(b=bF->Ft nms fd)/\f6 nms c met ord met' ord')
theorem AL{xs:J D}{s6 s7:Slot}(O:P9 P nms (.shf xs) c V Kp M m):∀tk seen met ord,(∀t∈tk,t.1∈nms)->(∀y∈seen,y∈met)->yH nms met<=m-> ~~~met+yH nms met<=900-> ~~~ord<= ~~~met->(∀y∈ord,y∈nms/\ ∃v,cZ c y=L v)->
 GoQ P nms xs c V Kp M m x s6 s7 tk (dd seen (tk.map (·.1))) met ord
 | [],seen,met,ord,_,_,_,_,K,N=>⟨bJ,.n,met,ord,λn B s5 H I s10=>⟨⟨B,s5,(bA:Ok (turns 4 _ [] _) (Fl.nx _))⟩,H,I,s10,(bA:Ok (hO 8 9 _ [] _) (Fl.nx _))⟩,(λh=>by cases h),cA4 K N⟩|t::tk,seen,met,ord,Z,T,S,Q,K,N=>by
  let A:∀u∈tk,u.1∈nms:=λu hu=>Z u (fM _ hu)
  by_cases z:t.1∈met
  ·-- already met
   let i1:Ok (dT bF (bE t.1) (cJ (lS met))) (.b bJ):=oK (by rw[Qa,sK.mpr z];rfl);let i2:Ok (dT bF (bE t.1) (.l (met.map bE))) (.b bJ):=P4 (by rw[sK.mpr z];rfl);by_cases W:t.1∈seen
   .let⟨b,fd,a,d,q,h⟩:=AL (s6:=s6) (s7:=s7) O tk seen met ord A T S Q K N;refine⟨b,fd,a,d,λn B s5 H I s10=>?_,h⟩;rw[show dd seen ((t::tk).map (·.1))=dd seen (tk.map (·.1))from cK W];let⟨Y,_⟩:=q n B s5 H I s10;let⟨_,g,i,e,q2⟩:=q n B s5 (.val (bE t.1)) (.val (bE t.2)) s10;refine⟨Y,g,i,e,?_⟩;show Ok (hO 8 9 _ (.t [bE t.1,bE t.2]::tk.map p2) _) _
    exact bA
   let⟨b,fd,a,d,q,h⟩:=AL (s6:=s6) (s7:=s7) O tk (seen++ [t.1]) met ord A (λy f=>by
    rcases hV.mp f with f|f
    .exact T y f
    rw[mM.mp f];calc z) S Q K N
   refine⟨b,fd,a,d,λn B s5 H I s10=>?_,h⟩;rw[show dd seen ((t::tk).map (·.1))=t.1::dd (seen++ [t.1]) (tk.map (·.1))from cX W];let⟨⟨C,E,Y⟩,g,i,e,q2⟩:=q n (.val (bE t.1)) s5 (.val (bE t.1)) (.val (bE t.2)) s10;refine⟨⟨C,E,?_⟩,g,i,e,?_⟩
   .show Ok (turns 4 _ (bE t.1::(dd (seen++ [t.1]) (tk.map (·.1))).map bE) _) _
    exact bA
   show Ok (hO 8 9 _ (.t [bE t.1,bE t.2]::tk.map p2) _) _
   exact bA
  .let W:t.1∉seen:=λh=>z (T _ h)
   let i1:Ok (dT bF (bE t.1) (cJ (lS met))) (.b bF):=oK (by rw[Qa];simpa using z);let i2:Ok (dT bF (bE t.1) (.l (met.map bE))) (.b bF):=P4 (by simpa using z);let⟨fd,k,p,q,j,X,F⟩:=O t.1 met ord (Z t fF) z S Q K N;rw[show dd seen ((t::tk).map (·.1))=t.1::dd (seen++ [t.1]) (tk.map (·.1))from cX W];rcases j with rfl|j
   .let⟨b,fd,a,d,q',hb,G⟩:=AL (s6:=s6) (s7:=s7) O tk (seen++ [t.1]) k p A (λy f=>by
     rcases hV.mp f with f|f
     .exact F.s y (T y f)
     rw[mM.mp f];calc X) (hE F.r S) (hE F.l Q) (by have:=F.o;lia) F.u
    refine⟨b,fd,a,d,λn B s5 H I s10=>?_,hb,F.trans G⟩;let⟨g1,g2⟩:=q n;let⟨⟨C,E,Y⟩,g,i,e,q2⟩:=q' n (.val (bE t.1)) (.val .n) (.val (bE t.1)) (.val (bE t.2)) (.val .n);refine⟨⟨C,E,?_⟩,g,i,e,?_⟩
    .show Ok (turns 4 _ (bE t.1::(dd (seen++ [t.1]) (tk.map (·.1))).map bE) _) _
     exact bA
    show Ok (hO 8 9 _ (.t [bE t.1,bE t.2]::tk.map p2) _) _
    exact bA
   refine⟨bF,fd,k,p,λn B s5 H I s10=>?_,λ_=>j,F⟩;let⟨w,y,rfl,_⟩:=j;let⟨g1,g2⟩:=q n;refine⟨⟨.val (bE t.1),.val (.t [bE w,bE y]),?_⟩,.val (bE t.1),.val (bE t.2),.val (.t [bE w,bE y]),?_⟩
   .show Ok (turns 4 _ (bE t.1::(dd (seen++ [t.1]) (tk.map (·.1))).map bE) _) (Fl.rr _ _)
    exact bA
   show Ok (hO 8 9 _ (.t [bE t.1,bE t.2]::tk.map p2) _) (Fl.rr _ _)
   calc bA
theorem oM(l):(l++ [x]).map bE=l.map bE++ [bE x]:=by rw[lK];rfl
theorem Qb(l:J U)(h: ~~~l<=900):Sz (~~~(l.map bE)+1):=jD (by rw[cA];lia)
theorem Qc(H:Un nms bk c d V Kp M):∀m,P9 P nms (dH a (kT bk) c d k) c V Kp M m
 |0,x,met,ord,E,Q,hr,_,_,_=>by have:=P6 E Q;lia|m+1,x,met,ord,E,Q,hr,hl,h1,h2=>by
  let r1:=P6 E Q;let e1: ~~~(met++ [x])= ~~~met+1:=by rw[cO];rfl
  let S:f6 nms c met ord (met++ [x]) ord:=⟨λy C=>mL _ C,bZ,bZ,bZ,h2⟩;let p1:Pt (lS met) x (.b true) (lS (met++ [x])):=⟨PZ Q⟩;let z1:=jD (a:=(lS met).length) (b:=1) (by rw[cA];lia);let z2:=Qb met bZ;let Z:x∈met++ [x]:=mK _ (mM.mpr rfl);let I:∀n fd i f,Ok ((Ae (P (n+m+10)) (P (n+m+8)) (GX (dH a (kT bk) c d k) x met ord .no .no)).bind (cq 2)) (.t [fd,cJ (lS i),.l (f.map bE)])->P7 P (dH a (kT bk) c d k) (n+(m+1)+10) x met ord fd i f:=λn fd i f q=>kQ (n:=n+m+8) (bZ1 (A:=Ae (P (n+m+10)) (P (n+m+8)))) q
  let N:∀n fd i f,Ok ((FL (P (n+m+10)) (P (n+m+8)) (vh x V Kp M met ord .no .no .no .no .no)).bind (cq 4)) (.t [fd,.l (f.map bE),.l (i.map bE)])->P8 P V Kp M (n+(m+1)+10) x met ord fd i f:=λn fd i f q=>kQ (n:=n+m+8) rfl q
  delta Ae at I;delta FL at N;cases p:cZ c x with
  |none=>
   let i1:Ok (dT true (bE x) (cJ c)) (.b true):=oK (by rw[AK,p];rfl);let i2:Ok (dT true (bE x) (cJ V)) (.b true):=oK (by rw[AK,H.cu,p];rfl);refine⟨.t [bE "nounit",bE x],met++ [x],ord,λn=>⟨I n _ _ _ ?_,N n _ _ _ ?_⟩,.inr ⟨_,_,rfl,.inl rfl,E⟩,Z,S⟩
   .exact bA
   rw[oM];calc bA
  |some v=>
   let⟨tk,r,rfl,tl,tn⟩:=H.u x v p;let⟨q,hq,ql,qn⟩:=H.k x _ p;let i1:Ok (dT true (bE x) (cJ c)) (.b false):=oK (by rw[AK,p];rfl);let i2:Ok (dT true (bE x) (cJ V)) (.b false):=oK (by rw[AK,H.cu,p];rfl);let i3:Tg Kp x (.t (q.map dP)):=⟨by rw[H.ck,hq]⟩;let i4:Tg c x (.t (bE x:: .t (tk.map p2)::r)):=⟨p⟩;let i5:Tg V x (.t (bE x:: .t (tk.map p2)::r)):=⟨by rw[H.cu,p]⟩;let K:∀n,Ok (P (n+m+10) .q95 [dH a (kT bk) c d k,bE x]) (.b (zP bk q)):=λn=>cA2 (n:=n+m+4) hq ql
   let i7:∀n,Ok (P (n+m+10) .q50 [.t (bE x:: .t (tk.map p2)::r)]) (.l ((dd [] (tk.map (·.1))).map bE)):=λn=>P0 (n:=n+m+7) (λt ht=>by have:=(H.l _ (tn t ht)).1;lia) tl
   let⟨s6,s7,w⟩:=P5 (nms:=nms) (bk:=bk) (x:=x) (A:=.val (cJ V)) (B:=.val (cJ Kp)) (o:=ord.map bE) (e:=(met++ [x]).map bE) (s8:=.no) (s9:=.no) (s10:=.no) H.cm q .no .no qn;cases ho:zP bk q with
   |true=>
    rw[ho]at K w;replace w:Ok _ (Fl.rr _ _):=w;rw[oM]at w;refine⟨.t [bE "old",bE x],met++ [x],ord,λn=>⟨I n _ _ _ ?_,N n _ _ _ ?_⟩,.inr ⟨_,_,rfl,.inr rfl,E⟩,Z,S⟩
    .have:=K n;exact bA
    rw[oM];calc bA
   |false=>
    rw[ho]at K w;replace w:Ok _ (Fl.nx _):=w;let⟨b,fd,i,f,g,hb,G⟩:=AL (x:=x) (s6:=s6) (s7:=s7) (Qc H m) tk [] (met++ [x]) ord tn (λ_ h=>(nomatch h)) bZ bZ bZ h2;let z:=S.trans G;let xx:x∈i:=G.s _ Z;cases b with
    |true=>
     refine⟨fd,i,f,λn=>⟨I n _ _ _ ?_,N n _ _ _ ?_⟩,.inr (hb rfl),xx,z⟩
     .let⟨⟨T,W,F⟩,_⟩:=g n .no .no .no .no .no;replace F:Ok _ (Fl.rr _ _):=F;have:=K n;have:=i7 n
      exact bA
     let⟨_,X,Y,O,j⟩:=g n .no .no .no .no .no;replace j:Ok _ (Fl.rr _ _):=j;delta vh at j;rw[oM]at j w
     calc bA
    |false=>
     let o1:=z.l;let o2:=z.o;let z3:=Qb f bZ;refine⟨.n,i,f++ [x],λn=>⟨I n _ _ _ ?_,N n _ _ _ ?_⟩,.inl rfl,xx,⟨z.s,z.l,z.r,?_,λy C=>?_⟩⟩
     .let⟨⟨T,W,F⟩,_⟩:=g n .no .no .no .no .no;replace F:Ok _ (Fl.nx _):=F;have:=K n;have:=i7 n;rw[oM]
      exact bA
     .let⟨_,X,Y,O,j⟩:=g n .no .no .no .no .no;replace j:Ok _ (Fl.nx _):=j;delta vh at j;rw[oM]at j w|-
      exact bA
     .rw[cO];show ~~~f+1+_<=_;have:=G.o;lia
     rcases hV.mp C with C|C
     .exact z.u y C
     rw[mM.mp C];calc⟨E,_,p⟩
end
noncomputable abbrev zQ(a:J U):D:=.t [bE "order",.t (a.map bE)]
theorem cA6{V:R.Tab}(H:Un nms bk c d V Kp M)(A:x∈nms)(s: ~~~nms<=9):∃j,(∀n,Ok (P (n+20) .q93 [dH a (kT bk) c d k,bE x]) j/\Ok (P (n+20) .q77 [bE x,cJ V,cJ Kp,cJ M]) j)/\(Ft nms j\/ ∃ord,j=zQ ord/\~~~ord<=900/\ ∀y∈ord,y∈nms/\ ∃v,cZ c y=L v):=by
 let z:yH nms []<=9:=hE (vt _ _) s;let⟨fd,f,b,q,g,_,F⟩:=Qc (P:=P) (a:=a) (k:=k) H 9 x [] [] A (λh=>nomatch h) z (by show 0+_<=_;lia) (cU _) (λ_ h=>nomatch h);let B: ~~~b<=900:=by
  let C:=F.o;let E:=F.l;let e: ~~~([]:J U)=0:=rfl
  lia
 let i:∀n j,Ok (Gb (P (n+19)) (P (n+17)) #[dH a (kT bk) c d k,bE x,(),(),()]) (.rt j)->Ok (P (n+20) .q93 [dH a (kT bk) c d k,bE x]) j:=λn j q=>fG (n:=n+17) (q:=q) rfl
 let m:∀n j,Ok (FM (P (n+19)) (P (n+17)) #[bE x,cJ V,cJ Kp,cJ M,(),()]) (.rt j)->Ok (P (n+20) .q77 [bE x,cJ V,cJ Kp,cJ M]) j:=λn j q=>fG (n:=n+17) (q:=q) rfl
 delta Gb at i;delta FM at m;let p:∀n,Ok (P (n+19) .q94 [dH a (kT bk) c d k,bE x,cJ [],.l []]) (.t [fd,cJ (lS f),.l (b.map bE)]):=λn=>(q n).1
 let r:∀n,Ok (P (n+19) .q76 [bE x,cJ V,cJ Kp,cJ M,.l [],.l []]) (.t [fd,.l (b.map bE),.l (f.map bE)]):=λn=>(q n).2
 rcases g with rfl|g
 .refine⟨zQ b,λn=>⟨i n _ ?_,m n _ ?_⟩,.inr ⟨b,rfl,B,F.u⟩⟩
  .have:=p n;exact bA
  have:=r n;exact bA
 refine⟨fd,λn=>⟨i n _ ?_,m n _ ?_⟩,.inl g⟩
 .let⟨w,y,rfl,_⟩:=g;have:=p n;exact bA
 let⟨w,y,rfl,_⟩:=g;have:=r n;calc bA
def wP(a c:R.Tab)(y:U):D:=.t [(cZ a y).getD .n,(cZ c y).getD .n]
noncomputable def AM(a c:R.Tab):D->D|bE y=>wP a c y|_=>.n
theorem GY{ord:J U}:(ord.map bE).map (AM a c)=ord.map (wP a c):=by rw[kM];rfl
theorem Qd{ord:J U}[h:Ok (fl O) (ord.map bE)](i: ~~~ord<=900)(d:∀y∈ord,Ok (g (.val (bE y)::lN js O)) (wP a c y)):Ok (gY js fl (λ_=>.ok bF) g O) (.l (ord.map (wP a c))):=by rw[<-GY];refine yF (xs:=ord.map bE) (by rw[cA];lia) (Ap λe b=>?_);let⟨y,f,rfl⟩:=gO.mp b;calc d y f
theorem cA7(f:Ok (P (n+20) .q93 [dH a (kT bk) c d k,bE x]) (zQ ord))(b: ~~~ord<=900):Ok (P (n+21) .q0 [dH a (kT bk) c d k,bE x]) (.t (ord.map (wP a c))):=by
 let e:Ok (gY [0] (fE (2^^^1)) (λ_=>.ok bF) (mA cV {(jM (P (n+20) .q90) @1 {@0}),(jM (P (n+20) .q91) @1 {@0})}) #[dH a (kT bk) c d k,bE x,zQ ord]) (.l (ord.map (wP a c))):=Qd b λy _=>by
  let h:Ok (P (n+20) .q90 [dH a (kT bk) c d k,bE y]) ((cZ a y).getD .n):=(bA:Ok (P (n+17+3) .q90 [dH a (kT bk) c d k,bE y]) _);let i:Ok (P (n+20) .q91 [dH a (kT bk) c d k,bE y]) ((cZ c y).getD .n):=(bA:Ok (P (n+17+3) .q91 [dH a (kT bk) c d k,bE y]) _);show Ok (mA cV _ #[bE y,dH a (kT bk) c d k]) (D.t [_,_])
  exact bA
 refine fG (n:=n+18) (g:=Ek (P (n+20)) (P (n+18))) (O:= #[dH a (kT bk) c d k,bE x,()]) bQ (q:=?_);delta Ek
 calc bA
theorem cA8(h:C .q93 [.shf xs,bE x]= .ok (zQ ord)):gX C [.shf xs,bE x]=bJ:=by delta gX;dsimp only;rw[h]
theorem cA9{V:R.Tab}(H:Un nms bk c d V Kp M)(i:x∈nms)(f:Ft nms j)(h:C .q93 [.shf xs,bE x]= .ok j):gX C [.shf xs,bE x]=bF:=by
 let⟨w,y,rfl,g,k⟩:=f;let⟨m,b⟩:=H.l y k;let⟨n,e⟩:=H.l x i;let a:(w != ("order" :U))=bF/\(w.cps.toList.all λc=>cE (c<16^8))=bF/\~~~w<=100:=by rcases g with rfl|rfl<;>decide+kernel
 delta gX;dsimp only;rw[h];show(w != "order" &&_)=bF;rw[a.1,wb,wb,a.2.1,b,e,tZ,tZ,tZ,tZ];calc kF bZ
noncomputable def GZ(a c:R.Tab):D->D| .t [_,.t l]=>.t (l.map (AM a c))|_=>.n
theorem cB0{V:R.Tab}(H:Un nms bk c d V Kp M)(l:x∈nms)(f:∀n,Ok (P (n+20) .q93 [dH a (kT bk) c d k,bE x]) j)(h:Ft nms j\/ ∃ord,j=zQ ord/\~~~ord<=900/\ ∀y∈ord,y∈nms/\ ∃v,cZ c y=L v):Ok (P (n+23) .q78 [dH a (kT bk) c d k,bE x]) (GZ a c j):=by
 let b:∀e,Ok (Aa (P (n+22)) (P (n+20)) #[dH a (kT bk) c d k,bE x]) (.rt e)->Ok (P (n+23) .q78 [dH a (kT bk) c d k,bE x]) e:=λe q=>fG (n:=n+20) (q:=q) rfl
 delta Aa at b;rcases h with g|⟨ord,rfl,i,_⟩
 .let e:GZ a c j= .n:=by let⟨w,y,rfl,_⟩:=g;rfl
  rw[e];exact b _ (bZ2 (ds:=[dH a (kT bk) c d k,bE x]) (cA9 H l g (f n).e))
 let m:=cA7 (n:=n+1) (f (n+1)) i;refine b _ ?_;show Ok _ (Fl.rt (.t ((ord.map bE).map (AM a c))));rw[GY];calc bZ3 (ds:=[dH a (kT bk) c d k,bE x]) (cA8 (f n).e)
section
variable{a c d V Kp M:R.Tab}{k:bH}{x z w:U}{n m:bD}{bk q:J (U×bD)}{nms met ord pre:J U}{v fd j:D}{tk:J (U×U)}{b:bW}{O:cQ}{X:Slot}
structure Gt(bk:J (U×bD))(c d:R.Tab)(pre:J U)(V Kp M:R.Tab):Prop where
 u:∀y,cZ V y=if y∈pre then cZ c y else bL
 k:∀y,cZ Kp y=if y∈pre then cZ d y else bL
 m:∀y,(cZ M y).getD (bG 0)=if y∈pre then bG (kG bk y)else bG 0
 l: ~~~V<= ~~~pre/\~~~Kp<= ~~~pre/\~~~M<= ~~~pre
theorem G0:y∈pre++ [x] ↔ y=x\/y∈pre:=by rw[hV,mM,or_comm]
theorem oN{α:Type}{A B:α}{C:α}(a:y=x->C=A)(h2:y≠x->C=if y∈pre then A else B):C=if y∈pre++ [x]then A else B:=by
 by_cases e:y=x
 .rw[cK (G0.mpr (.inl e)),a e]
 rw[h2 e];by_cases q:y∈pre
 .rw[cK q,cK (G0.mpr (.inr q))]
 rw[cX q,cX λz=>(G0.mp z).elim e q]
inductive G1Q(P:bD->CT)(n:bD)(a c d:R.Tab)(bk:J (U×bD))(k:bH)(X:Slot)(hs pre:J U)(V Kp M:R.Tab)(s5:Slot):Prop
 |mk (V' Kp' M':R.Tab) (s5':Slot) (_:Ok (turns 5 (Ej (P (n+3))) (hs.map bE) [.val (dH a (kT bk) c d k),X,.dic 0 V,.dic 0 Kp,.dic 0 M,s5,.no,.no]) (.nx [.val (dH a (kT bk) c d k),X,.dic 0 V',.dic 0 Kp',.dic 0 M',s5',.no,.no])) (_:Gt bk c d (pre++hs) V' Kp' M')
theorem Qe(z:∀y v,cZ c y=some v->(∃l,v= .t l)/\ ∃w,cZ d y=some w)(s:∀y,cZ c y=none->cZ d y=none):∀hs pre V Kp M s5,Gt bk c d pre V Kp M-> ~~~pre+ ~~~hs<=900->G1Q P n a c d bk k X hs pre V Kp M s5
 | [],pre,V,Kp,M,s5,G,_=>⟨V,Kp,M,s5,(bA:Ok (turns 5 _ [] _) (Fl.nx _)),by rw[jF];calc G⟩|x::hs,pre,V,Kp,M,s5,G,E=>by
  rw[dB]at E;let N: ~~~(pre++ [x])= ~~~pre+1:=by rw[cO];rfl
  let⟨W,Y,Z⟩:=G.l;let z1:=jD (a:=V.length) (b:=1) bZ;let z2:=jD (a:=Kp.length) (b:=1) bZ;let z3:=jD (a:=M.length) (b:=1) bZ;let Q:Ok (P (n+3) .q89 [dH a (kT bk) c d k,bE x]) (bG (kG bk x)):=by have:Ok (P (n+3) .q89 [dH a (kT bk) c d k,bE x]) ((cZ (kT bk) x).getD (bG 0)):=bA;rw[GT]at this;exact this
  let⟨M1,mi,I,ml⟩:∃M1,Ok (cI (mB (m2 pU (jM (P (n+3) .q89) @0 {@5}) .(0))) (mJ 4 @5 (jM (P (n+3) .q89) @0 {@5})) (cN) [.val (dH a (kT bk) c d k),X,.dic 0 V,.dic 0 Kp,.dic 0 M,.val (bE x),.no,.no]) (.nx [.val (dH a (kT bk) c d k),X,.dic 0 V,.dic 0 Kp,.dic 0 M1,.val (bE x),.no,.no])/\(∀y,(cZ M1 y).getD (bG 0)=if y∈pre++ [x]then bG (kG bk y)else bG 0)/\~~~M1<= ~~~M+1:=by
   by_cases O:0<kG bk x
   .let F:jT 0 (kG bk x) bF:=⟨kF bZ⟩;let S:Pt M x (bG (kG bk x)) (hU M x (bG (kG bk x))):=⟨rfl⟩;refine⟨_,bA,λy=>oN (λe=>?_) λe=>?_,oJ⟩
    .rw[dh,cK e,e];rfl
    rw[dh,cX e];exact G.m y
   let F:jT 0 (kG bk x) bJ:=⟨jI bZ⟩;refine⟨M,bA,λy=>oN (λe=>?_) λe=>G.m y,k6 _⟩;rw[G.m,e];have:kG bk x=0:=by lia
   rw[this];split<;>rfl
  let⟨i,h,ui,K,H,ul,T⟩:∃i h,Ok (cI (mB (m2 (jX bF) (jM (P (n+3) .q91) @0 {@5}) (kc .n))) (bO (mJ 2 @5 (jM (P (n+3) .q91) @0 {@5})) (mJ 3 @5 (jM (P (n+3) .q92) @0 {@5}))) (cN) [.val (dH a (kT bk) c d k),X,.dic 0 V,.dic 0 Kp,.dic 0 M1,.val (bE x),.no,.no]) (.nx [.val (dH a (kT bk) c d k),X,.dic 0 i,.dic 0 h,.dic 0 M1,.val (bE x),.no,.no])/\(∀y,cZ i y=if y∈pre++ [x]then cZ c y else none)/\(∀y,cZ h y=if y∈pre++ [x]then cZ d y else none)/\~~~i<= ~~~V+1/\~~~h<= ~~~Kp+1:=by
   let g:Ok (P (n+3) .q91 [dH a (kT bk) c d k,bE x]) ((cZ c x).getD .n):=bA;let o:Ok (P (n+3) .q92 [dH a (kT bk) c d k,bE x]) ((cZ d x).getD (.t [])):=bA;cases f:cZ c x with
   |none=>
    rw[f]at g;replace g:Ok _ D.n:=g;refine⟨V,Kp,bA,λy=>oN (λe=>?_) λe=>G.u y,λy=>oN (λe=>?_) λe=>G.k y,k6 _,k6 _⟩
    .rw[G.u,e,f];split<;>rfl
    rw[G.k,e,s x f];split<;>rfl
   |some v=>
    let⟨⟨l,rfl⟩,w,A⟩:=z x v f;rw[f]at g;rw[A]at o;replace g:Ok _ (D.t l):=g;replace o:Ok _ w:=o;let p1:Pt V x (.t l) (hU V x (.t l)):=⟨rfl⟩;let p2:Pt Kp x w (hU Kp x w):=⟨rfl⟩;refine⟨_,_,bA,λy=>oN (λe=>?_) λe=>?_,λy=>oN (λe=>?_) λe=>?_,oJ,oJ⟩
    .rw[dh,cK e,e,f]
    .rw[dh,cX e];exact G.u y
    .rw[dh,cK e,e,A]
    rw[dh,cX e];exact G.k y
  let⟨C,j,B,p,q,r⟩:=Qe z s hs (pre++ [x]) i h M1 (.val (bE x)) ⟨K,H,I,bZ,bZ,bZ⟩ bZ;refine⟨C,j,B,p,?_,by rw[nQ]at r;calc r⟩;show Ok (turns 5 _ (bE x::hs.map bE) _) _
  calc bA
theorem Qf(b:∀y v,cZ a y=some v->fX v<=80)(d:∀y v,cZ c y=some v->fX v<=80):∀ord:J U,depL (ord.map (wP a c))<=81
 | []=>tP
 |y::ord=>kL (mS (kL (by
  cases h:cZ a y with
  |none=>calc lL _
  |some v=>calc b y v h) (kL (by
  cases h:cZ c y with
  |none=>calc lL _
  |some v=>calc d y v h) tP))) (Qf b d ord)
inductive G2Q(P:bD->CT)(n:bD)(a c d:R.Tab)(bk:J (U×bD))(k:bH)(X:Slot)(hs:J U)(V Kp M:R.Tab)(s5 s6 s7:Slot):Prop
 |mk (s5' s6' s7':Slot) (_:Ok (turns 5 (N7 (P (n+23))) (hs.map bE) [.val (dH a (kT bk) c d k),X,.val (cJ V),.val (cJ Kp),.val (cJ M),s5,s6,s7]) (.nx [.val (dH a (kT bk) c d k),X,.val (cJ V),.val (cJ Kp),.val (cJ M),s5',s6',s7']))
theorem G1(H:Un nms bk c d V Kp M)(p: ~~~nms<=9)(m:∀y v,cZ a y=L v->fX v<=80)(o:∀y v,cZ c y=L v->fX v<=80):∀hs s5 s6 s7,(∀x∈hs,x∈nms)->G2Q P n a c d bk k X hs V Kp M s5 s6 s7
 | [],s5,s6,s7,_=>⟨s5,s6,s7,(bA:Ok (turns 5 _ [] _) (Fl.nx _))⟩|x::hs,s5,s6,s7,h=>by
  let A:=h x fF;let⟨j,s,u⟩:=cA6 (P:=P) (a:=a) (k:=k) H A p;let r:=cB0 (n:=n) H A (λn=>(s n).1) u;let⟨B,C⟩:=s (n+3);replace B:Ok (P (n+23) _ _) _:=B;replace C:Ok (P (n+23) _ _) _:=C;rcases u with⟨w,y,rfl,G,i⟩|⟨ord,rfl,O,F⟩
  .let I:Ok (jR (.t [bE w,bE y]) (.t [bE w,bE y])) (.b bJ):=GO (by simp[depL,fX]);let K:Bq w "order" bJ:=⟨by rcases G with rfl|rfl<;>decide+kernel⟩;replace r:Ok (P (n+23) .q78 _) .n:=r;let⟨e,f,g,q⟩:=G1 H p m o hs (.val (bE x)) (.val (.t [bE w,bE y])) (.val .n) λy i=>h y (fM _ i)
   refine⟨e,f,g,?_⟩;show Ok (turns 5 _ (bE x::hs.map bE) _) _
   exact bA
  let I:Ok (jR (zQ ord) (zQ ord)) (.b bJ):=GO (kL vZ (kL (hE (mS (k:=0) (by rw[jx];calc cU _)) hG) tP));let E:GZ a c (zQ ord)= .t (ord.map (wP a c)):=by
   show D.t ((ord.map bE).map (AM a c))=_;rw[GY]
  rw[E]at r;let K:Ok (jR (.t (ord.map (wP a c))) (.t (ord.map (wP a c)))) (.b bJ):=GO (hE (Qf m o ord) hG);let N:∀s5,Ok (gY [2,0] (fE (6^^^1)) (λ_=>.ok bF) (mA cV {(jM (P (n+23) .q90) @2 {@0}),(m2 dN @1 @0)}) [.val (dH a (kT bk) c d k),X,.val (cJ V),.val (cJ Kp),.val (cJ M),s5,.val (zQ ord),.val (.t (ord.map (wP a c)))]) (.l (ord.map (wP a c))):=λs5=>Qd O λy i=>by
   let⟨_,v,z⟩:=F y i;let S:Ok (P (n+23) .q90 [dH a (kT bk) c d k,bE y]) ((cZ a y).getD .n):=(bA:Ok (P (n+20+3) .q90 [dH a (kT bk) c d k,bE y]) _);let T:Tg V y v:=⟨by rw[H.cu,z]⟩;show Ok (mA cV _ #[bE y,cJ V,dH a (kT bk) c d k]) (D.t [(cZ a y).getD .n,(cZ c y).getD .n]);rw[z];show Ok _ (D.t [(cZ a y).getD .n,v])
   exact bA
  let Q:=N (.val (bE x));let⟨e,f,g,q⟩:=G1 H p m o hs (.val (bE x)) (.val (zQ ord)) (.val (.t (ord.map (wP a c)))) λy i=>h y (fM _ i)
  refine⟨e,f,g,?_⟩;show Ok (turns 5 _ (bE x::hs.map bE) _) _
  calc bA
end
section
variable{a c d V Kp M:R.Tab}{k:bH}{x z w:U}{n m:bD}{bk q:J (U×bD)}{hs:J U}{v fd j:D}{tk:J (U×U)}{b:bW}{O:cQ}{X:Slot}
structure Sv(hs:J U)(m:bD)(a:R.Tab)(bk:J (U×bD))(c d:R.Tab):Prop where
 ka:∀y∈a.map (·.1),y∈hs
 na:(a.map (·.1)).Nodup
 va:∀y v,cZ a y=L v->fX v<=80
 kb:∀p∈bk,p.1∈hs
 kc:∀y∈c.map (·.1),y∈hs
 nc:(c.map (·.1)).Nodup
 vc:∀y v,cZ c y=L v->fX v<=80/\(∃(tk:J (U×U)) (r:J D),v= .t (bE y:: .t (tk.map p2)::r)/\~~~tk<=900/\ ∀t∈tk,t.1∈hs)/\ ∃q:J (U×bD),cZ d y=L (.t (q.map dP))/\~~~q<=900/\ ∀p∈q,p.1∈hs
 vd:∀y,cZ c y=bL->cZ d y=bL
 l: ~~~a<=m/\~~~bk<=m/\~~~c<=m/\~~~d<=m
theorem cB3(h:∀p∈bk,p.1≠x):kG bk x=0:=by delta kG;rw[vy.mpr λp a e=>h p a (kR e)];rfl
theorem G2(h:x∉T.map (·.1)):cZ T x=none:=by
 cases q:cZ T x with
 |none=>rfl|some v=>calc dD (Ax q) h
theorem cB4(h:Nm x): ~~~x<=100/\(x.cps.toList.all λc=>cE (c<16^8))=bF:=by
 refine⟨by have:=h.l;lia,mE.mpr λc a=>kF ?_⟩;have:=h.e;delta zO tJ at this;rw[gD]at this;have:=mE.mp this.1 c a;delta qU at this;rw[gD]at this;have:=kR this.2
 lia
theorem G3(S:Sv hs m a bk c d)(I: ~~~hs<=8)(A:∀x∈hs,Nm x):Ok (P (n+24) .q79 [dH a (kT bk) c d k,.l (hs.map bE)]) (.b bF):=by
 let⟨V,Kp,M,s5,w,G⟩:=Qe (P:=P) (n:=n+20) (a:=a) (bk:=bk) (k:=k) (X:=.val (.l (hs.map bE))) (λy v h=>by let⟨_,⟨tk,r,e,_⟩,q,o,_⟩:=S.vc y v h;calc⟨⟨_,e⟩,_,o⟩) S.vd hs [] [] [] [] .no ⟨λy=>rfl,λy=>rfl,λy=>rfl,cU _,cU _,cU _⟩ (by show 0+_<=_;lia);rw[ko]at G
 let H:Un (hs++ [kw "zz"]) bk c d V Kp M:=⟨λy v h=>by
  let⟨_,⟨tk,r,e,i,j⟩,_⟩:=S.vc y v h;exact⟨tk,r,e,i,λt s=>mL _ (j t s)⟩,λy v h=>by
  let⟨_,_,q,o,i,j⟩:=S.vc y v h;exact⟨q,o,i,λt s=>mL _ (j t s)⟩,λy f=>by
  rcases hV.mp f with f|f
  .exact cB4 (A y f)
  .rw[mM.mp f];decide+kernel,λy=>by
  rw[G.u];split
  .rfl
  .rename_i h;exact(G2 λq=>h (S.kc y q)).symm,λy=>by
  rw[G.k];split
  .rfl
  .rename_i h;exact(S.vd y (G2 λq=>h (S.kc y q))).symm,λy _=>by
  rw[G.m];split
  .rfl
  rename_i h;rw[cB3 (x:=y) λp B e=>h (e▸S.kb p B)];rfl⟩
 let⟨C,E,F,z⟩:=G1 (P:=P) (n:=n) (a:=a) (k:=k) (X:=.val (.l (hs.map bE))) H (by rw[cO];show _+1<=_;lia) S.va (λy v h=>(S.vc y v h).1) (hs++ [kw "zz"]) s5 .no .no λ_ h=>h
 rw[show(hs++ [kw "zz"]).map bE=hs.map bE++ [bE (kw "zz")]from by rw[lK];rfl]at z;let K:Sz (~~~(hs.map bE)+ [bE (kw "zz")].length):=jD (by rw[cA];show _+1<=_;lia);replace w:Ok (turns 5 (Ej (P (n+23))) _ _) _:=w;refine fG (n:=n+21) (g:=FQ (P (n+23)) (P (n+21))) (O:= #[dH a (kT bk) c d k,.l (hs.map bE),(),(),(),(),(),()]) bQ (q:=?_);delta FQ
 calc bA
end
abbrev nW(z:U)(N:bD):J U:=(gK N).map λj=>sd z j 25
theorem AN(h:i<N):sd z i 25∈nW z N:=gO.mpr ⟨i,qF.mpr h,rfl⟩
theorem Qg{hs:J U}(h:∀y∈T.map (·.1),y∈hs)(b:x∈hs):∀y∈(hU T x e).map (·.1),y∈hs:=λy a=>by
 rw[GU]at a;split at a
 .exact h y a
 rcases hV.mp a with a|a
 .exact h y a
 rw[mM.mp a];calc b
theorem Qh{k:bD}{g:Fc}(S:Sv hs m a bk c d)(q: ~~~hs<=8)(G:g.ok)(i:g.nm∈hs)(x:m<=800):∃w b,Ok (P (n+41) .q51 [g.d]) (bE w)/\Ok (P (n+41) .put [dH a (kT bk) c d k,bE w]) (.t [bG (k+1:bD),dH (hU a g.nm g.d) (kT b) c d (k+1:bD)])/\Sv hs (m+1) (hU a g.nm g.d) b c d:=by
 let⟨A,B,C,E⟩:=S.l;let⟨b,u,j,p⟩:=bZ8 (P:=P) (n:=n+37) (a:=a) (bk:=bk) (c:=c) (d:=d) (k:=k) (f:=g) bZ bZ;refine⟨jn g.w,b,(O7 (P:=P) (n:=n+31) G).1,?_,⟨Qg S.ka i,P1 S.na,λy v h=>?_,λp r=>?_,S.kc,S.nc,S.vc,S.vd,?_⟩⟩
 .exact P3 (n:=n+38) (v:=.n) (S':=(hU a g.nm g.d,kT b,c,d)) (t:=bF) (O7 (P:=P) (n:=n+30) G).2 (P2 (n:=n+37) i S.ka S.kc S.na S.nc q) (OH (n:=n+31) G) p
 .rw[dh]at h;symm
  .cases h;exact mS (k:=79) (kL vZ (kL (hE (mS (k:=0) (by rw[jx];calc cU _)) hG) (kL (hE (mS (GP g.ds)) hG) tP)))
  exact S.va y v h
 .rcases j p r with e|⟨s,o,e⟩
  .rw[e];exact i
  rw[<-e];exact S.kb s o
 have:=oJ (T:=a) (z:=g.nm) (w:=g.d);calc⟨bZ,bZ,bZ,bZ⟩
theorem cB5(F:pJ z fs)(b:fs[i]? =some f):(cZ (fT fs) (sd z i 25)).getD .n=oF f:=by
 cases f with
 |some g=>let A:=F.f i g b;rw[<-A.n,cz F.nd (vf (dm b))];rfl|none=>
  rw[G2 λh=>?_];rfl;let d:∀{a:J (bR Fc)},(∀f∈a,f∈fs)->sd z i 25∈(fT a).map (·.1)->∃g,some g∈fs/\g.nm=sd z i 25:=λ{a}=>by
   induction a with
   |nil=>calc λ_ h=>nomatch h|cons f a l=>
    intro hs h;let c:=λf b=>hs f (fM _ b)
    cases f with
    |none=>calc l c h|some g=>
     rcases jJ.mp h with h|h
     .exact⟨g,hs _ fF,h.symm⟩
     exact l c h
  let⟨g,m,e⟩:=d (λ_ h=>h) h;let⟨j,k,A⟩:=F.ix m;rw[A.n]at e;rw[(pI e).1,b]at k;cases k
theorem cB6{k:bD}(Za:yG z)(F:pJ z fs)(G:Pr z fs i (.t [oF f,u]))(s:fs[i]? =L f)(S:Sv (nW z (~~~fs)) m (fT fs) bk c d)(hm:m<=800):∃w Q d',Ok (P (n+41) .q51 [u]) (bE w)/\Ok (P (n+41) .put [dH (fT fs) (kT bk) c d k,bE w]) (.t [bG 0,dH (fT fs) (kT bk) Q d' k])/\Sv (nW z (~~~fs)) (m+1) (fT fs) bk Q d':=by
 let⟨f',cn,r,K,hs,W,E,H,xs,l,l',u',T,b,M,X,Y,Z,h6⟩:=G;rw[s]at T;cases T;injection b with b;injection b with _ b;injection b with b;subst b;let hi:i< ~~~fs:=(pK.mp s).1;let hl:(nW z (~~~fs)).length<=8:=by rw[cA,qZ];exact F.l
 let⟨r1,⟨w,C⟩,r3,r4⟩:=PX (P:=P) (n:=n) Za F s M X Y Z h6;let⟨l1,l2,l3,l4⟩:=S.l;let I:=AN (z:=z) hi;let O:∀t∈r,t.1∈nW z (~~~fs):=λt B=>by let⟨g,g1,g2,_⟩:=M.tt t B;let⟨j,g3,A⟩:=F.ix g1;rw[<-g2,A.n];exact AN (pK.mp g3).1
 let tl:∀t∈r,~~~t.1<=1000:=λt B=>by let⟨j,hj,e⟩:=gO.mp (O t B);have:=(Za.nm (i:=j) (k:=25) (by have:=qF.mp hj;have:=F.l;lia) hG).l;rw[<-e];lia
 let t6:=M.tl;rw[<-cB5 F s]at r1;let q:=bZ9 (P:=P) (n:=n+34) (a:=fT fs) (bk:=bk) (k:=k) (c:=c) (d:=d) (x:=sd z i 25) tl bZ bZ bZ r1;let N:=(PX (P:=P) (n:=n+1) Za F s M X Y Z h6).2.2.1;refine⟨w,_,_,(C (n+2)).1,P3 (n:=n+38) (v:=.n) (S':=(fT fs,kT bk,hU c (sd z i 25) (tO z i r K H xs),hU d (sd z i 25) (.t ((kp bk (sd z i 25::dd [] (r.map (·.1)))).map dP)))) (t:=bJ) (C (n+1)).2 (P2 (n:=n+37) I S.ka S.kc S.na S.nc hl) N q,⟨S.ka,S.na,S.va,S.kb,Qg S.kc I,P1 S.nc,λy v h=>?_,λy h=>?_,?_⟩⟩
 .rw[dh]at h|-;symm
  .rename_i e;cases h;subst e;rw[cK rfl];refine⟨r4,⟨r,_,rfl,bZ,O⟩,_,rfl,?_,λp G=>?_⟩
   .have:=AH (l:=r.map (·.1)) (seen:=[]);rw[cA]at this;delta kp;rw[cA,dB];lia
   delta kp at G;let⟨o,ho,rfl⟩:=gO.mp G;rcases jJ.mp ho with rfl|ho
   .exact I
   let⟨t,B,e⟩:=gO.mp (AG ho);rw[<-e];exact O t B
  rename_i e;rw[cX e];exact S.vc y v h
 .rw[dh]at h|-;symm
  .cases h
  rename_i e;rw[cX e];exact S.vd y h
 calc⟨bZ,bZ,hE oJ bZ,hE oJ bZ⟩
section
variable{a c d:R.Tab}{x z w:U}{n i:bD}{bk q:J (U×bD)}{v:D}{O:cQ}{X Ya H:Slot}{g:Fc}{fs:J (bR Fc)}{f:bR Fc}{ns:J bH}
inductive LwA(P:bD->CT)(n:bD)(X Ya H:Slot)(hn:J U)(gs:J (bR Fc))(ys:J D)(T:R.Tab)(bk:J (U×bD))(k m:bD)(s4 s5:Slot):Prop
 |mk (bk':J (U×bD)) (k' m':bD) (s4' s5':Slot) (_:Ok (hO 4 5 (zu (P (n+41))) ys [X,Ya,.obj 0 (.shf [T,kT bk,[],[]] k),H,s4,s5,.no,.no]) (.nx [X,Ya,.obj 0 (.shf [T++fT gs,kT bk',[],[]] k'),H,s4',s5',.no,.no])) (_:m'<=m+ ~~~gs) (_:Sv hn m' (T++fT gs) bk' [] [])
theorem G4{N:bD}(C:N<=8):∀{gs:J (bR Fc)} {ys:J D} (T:R.Tab) (bk:J (U×bD)) (k m:bD) (v s5:Slot),~~~ys= ~~~gs->(∀(j:bD) (y:D),ys[j]? =some y->∃f u,gs[j]? =some f/\y=D.t [oF f,u])->(∀g,some g∈gs->g.ok/\g.nm∈nW z N)->(T.map (·.1)++(fT gs).map (·.1)).Nodup->m+ ~~~gs<=700->Sv (nW z N) m T bk [] []->
 LwA P n X Ya H (nW z N) gs ys T bk k m v s5
 | [],ys,T,bk,k,m,v,s5,o,_,_,_,_,S=>by
  cases ys with
  |nil=>calc⟨bk,k,m,v,s5,by rw[fT,jF];calc bA,cU _,by rw[fT,jF];calc S⟩|cons _ _=>cases o
 |f::gs,[],T,bk,k,m,v,s5,o,_,_,_,_,_=>by cases o|f::gs,y::ys,T,bk,k,m,v,s5,o,O,K,M,Z,S=>by
  let⟨f',u,Q,rfl⟩:=O 0 y rfl;cases Q;rw[dB]at Z;let p: ~~~ys= ~~~gs:=by simpa using o
  let s:∀(j:bD) (y:D),ys[j]? =some y->∃f u,gs[j]? =some f/\y=D.t [oF f,u]:=λj y h=>O (j+1) y h
  let l:∀g,some g∈gs->g.ok/\g.nm∈nW z N:=λg h=>K g (fM _ h)
  let Y: ~~~(nW z N)<=8:=by rw[cA,qZ];exact C
  cases f with
  |none=>
   let⟨a,x,E,c,i,q,e,A⟩:=G4 C (gs:=gs) T bk k m (.val .n) (.val u) p s l M bZ S;refine⟨a,x,E,c,i,?_,by rw[dB];lia,A⟩;show Ok (hO 4 5 (zu (P (n+41))) (.t [.n,u]::ys) _) (Fl.nx [X,Ya,.obj 0 (.shf [T++fT gs,kT a,[],[]] x),H,c,i,.no,.no])
   calc bA
  |some g=>
   let⟨G,W⟩:=K g fF;let r:(T.map (·.1)++(g.nm::(fT gs).map (·.1))).Nodup:=M;let nt:g.nm∉T.map (·.1):=λq=>(pM.mp r).2.2 _ q _ fF rfl
   let⟨w,B,i1,i2,F⟩:=Qh (P:=P) (n:=n) (k:=k) S Y G W bZ;rw[Ay nt]at i2 F;let⟨a,x,E,c,i,q,e,A⟩:=G4 C (gs:=gs) (T++ [(g.nm,g.d)]) B (k+1) (m+1) (.val g.d) (.val u) p s l (by rw[lK,nQ];calc r) bZ F;let I:T++fT (some g::gs)=T++ [(g.nm,g.d)]++fT gs:=by rw[fT];simp
   refine⟨a,x,E,c,i,?_,by rw[dB];lia,by rw[I];calc A⟩;rw[I];show Ok (hO 4 5 (zu (P (n+41))) (.t [g.d,u]::ys) _) _;let i3:Ok (jX bF g.d .n) (.b bF):=⟨rfl⟩
   calc bA
inductive LwB(P:bD->CT)(n:bD)(ns:J bH)(ys:J D)(fs:J (bR Fc))(hn:J U)(us:J D)(bk:J (U×bD))(c d:R.Tab)(k:bD)(s4 s5 s6 s7:Slot):Prop
 |mk (bk':J (U×bD)) (c' d':R.Tab) (k':bD) (s4' s5' s6' s7':Slot) (_:Ok (turns 6 (N8 (P (n+41))) us [.val (.l (ns.map bG)),.val (.l ys),.obj 0 (.shf [fT fs,kT bk,c,d] k),.val (.l (hn.map bE)),s4,s5,s6,s7]) (.nx [.val (.l (ns.map bG)),.val (.l ys),.obj 0 (.shf [fT fs,kT bk',c',d'] k'),.val (.l (hn.map bE)),s4',s5',s6',s7']))
theorem G5{ys:J D}(Za:yG z)(F:pJ z fs)(h0:0< ~~~fs)(hl: ~~~ys= ~~~fs)(hp:∀i y,ys[i]? =some y->Pr z fs i y):∀(K t:bD) (bk:J (U×bD)) (c d:R.Tab) (k m:bD) (O s5 s6 s7:Slot),m+K<=700->Sv (nW z (~~~fs)) m (fT fs) bk c d->
 LwB P n ns ys fs (nW z (~~~fs)) (_root_.R.upTo (t:bH) K) bk c d k O s5 s6 s7
 |0,t,bk,c,d,k,m,O,s5,s6,s7,_,_=>⟨bk,c,d,k,O,s5,s6,s7,(bA:Ok (turns 6 _ [] _) (Fl.nx _))⟩|K+1,t,bk,c,d,k,m,O,s5,s6,s7,hm,S=>by
  let Y:(nW z (~~~fs)).length<=8:=by rw[cA,qZ];exact F.l
  let hN:∀x∈nW z (~~~fs),Nm x:=λx hx=>by let⟨j,hj,rfl⟩:=gO.mp hx;exact Za.nm (by have:=qF.mp hj;have:=F.l;lia) hG
  let⟨o,a0⟩:∃o,o=lI ns (9+t):=⟨_,rfl⟩;let i1:Ok (P (n+41) .q62 [.l (ns.map bG),bG (9+(t:bH))]) (bG o):=by rw[a0];exact mix_is (n:=n+37) (j:=9+t)
  let p1:Pm ((~~~ys:bD):bH):=⟨bZ⟩;let⟨i,hi,Z⟩:=f5 (v:=o/4) ys.length bZ;let⟨y,hy⟩:∃y,ys[i]? =some y:=⟨_,mU Z⟩;let pr:=hp i y hy;let⟨f,cn,G,h,hs,W,E,a,H,l,l',u',N,h2,_⟩:=id pr;subst h2;let i2:Ok (dN (.l ys) (bG (o/4%(~~~ys:bH)))) (.t [oF f,tO z i G h a H]):=⟨by rw[hi];let e:pB ys (i:bH)=some (.t [oF f,tO z i G h a H]):=eI hy;dsimp[dN,e]⟩;rw[GL];by_cases hb:o%4=0/\ ∃g,f=some g
  .let⟨I,g,rfl⟩:=hb;let A:=F.f i g N;let q1:=rQ I;let⟨w,Q,j1,j2,C⟩:=Qh (P:=P) (n:=n) (k:=k) S Y A.ok (by rw[A.n];calc AN (pK.mp N).1) bZ;rw[Pc F.nd (vf (dm N))]at j2 C;let M:=G3 (P:=P) (n:=n+17) (k:=((k+1:bD):bH)) C Y hN;let j4:Ok (jX bF g.d .n) (.b bF):=⟨rfl⟩;let⟨p,T,X,k',r,s,u,B,q⟩:=G5 Za F h0 hl hp K (t+1) Q c d (k+1) (m+1) (.val g.d) (.val (tO z i G h a H)) (.val (bG t)) (.val (bG o)) bZ C;refine⟨p,T,X,k',r,s,u,B,?_⟩;replace i2:Ok _ (D.t [g.d,tO z i G h a H]):=i2;replace M:Ok (P (n+41) .q79 _) _:=M
   exact bA
  let⟨w,c1,d1,j1,j2,C⟩:=cB6 (P:=P) (n:=n) (k:=k) Za F pr N S bZ;let M:=G3 (P:=P) (n:=n+17) (k:=(k:bH)) C Y hN;replace M:Ok (P (n+41) .q79 _) _:=M;let⟨p,T,X,k',r,s,u,B,q⟩:=G5 Za F h0 hl hp K (t+1) bk c1 d1 k (m+1) (.val (oF f)) (.val (tO z i G h a H)) (.val (bG t)) (.val (bG o)) bZ C;refine⟨p,T,X,k',r,s,u,B,?_⟩;let j4:Ok (pD (mB (m2 dW (m2 fW @7 .(4)) .(0))) (mB (m2 (jX bF) @4 (kc .n))) #[.l (ns.map bG),.l ys,dH (fT fs) (kT bk) c d k,.l ((nW z (~~~fs)).map bE),oF f,tO z i G h a H,bG t,bG o]) bJ:=by
   by_cases I:o%4=0
   .let q1:=rQ I;cases f with|none=>show Ok (pD _ _ [_,_,_,_,.val .n,_,_,_]) _;calc bA|some g=>exact dD ⟨I,g,rfl⟩ hb
   let q1:=vX I
   exact bA
  calc bA
end
theorem Qi:∀ys s,(∀i y,ys[i]? =L y->∃e r,y=D.t [e,.t (bE (sd z (s+i) 25)::r)])->Ok (hX (jS (λ_=>.ok bF)) (jS (1^^^0)) [] ys) ((gK (~~~ys)).map λj=>bE (sd z (s+j) 25))
 | [],_,_=>⟨rfl⟩|y::ys,s,h=>by
  let⟨e,r,rfl⟩:=h 0 y rfl;let c:=Qi ys (s+1) λi y a=>by let⟨e,r,h⟩:=h (i+1) y a;exact⟨e,r,by rw[h,show s+(i+1)=s+1+i from by lia]⟩
  let b:Ok (m2 dN @1 .(0) #[e,.t (bE (sd z (s+0) 25)::r)]) (bE (sd z (s+0) 25)):=bA;refine⟨?_⟩;rw[hX];show bP.bind (m2 dN _ _ #[e,.t (bE (sd z (s+0) 25)::r)]) _=_;rw[b.e];show bP.bind (hX _ _ _ _) _=_;rw[c.e,dB,kf,fY,kM];show bP.ok (_::_)=bP.ok (_::_);congr 2;refine kh λj _=>?_
  show bE (sd z (s+1+j) 25)=bE (sd z (s+(j+1)) 25);rw[show s+1+j=s+(j+1)from by lia]
theorem cB9:Sv hs 0 [] [] [] []:=⟨λ_ h=>(nomatch h),ku,λy v h=>(nomatch h),λ_ h=>(nomatch h),λ_ h=>(nomatch h),ku,λy v h=>(nomatch h),λ_ _=>rfl,cU _,cU _,cU _,cU _⟩
theorem cC0(ns:J bH):Ok (P (n+42) .law [.l (ns.map bG)]) (.b bF):=by
 let⟨z,z1,z2,Sd⟩:=bX4 (lI ns 0);let d:yG z:=⟨z1,z2⟩;let⟨fs,ys,F,T,i1,p,s⟩:=bY3 (P:=P) (n:=n+26) (ns:=ns) d Sd;let Y:(nW z (~~~fs)).length<=8:=by rw[cA,qZ];exact F.l
 let Z:∀x∈nW z (~~~fs),Nm x:=λx hx=>by let⟨j,hj,rfl⟩:=gO.mp hx;exact d.nm (by have:=qF.mp hj;have:=F.l;lia) hG
 let⟨C,k,m,N,s5,t,hm,S⟩:=G4 (P:=P) (n:=n) (z:=z) (X:=.val (.l (ns.map bG))) (Ya:=.val (.l ys)) (H:=.val (.l ((nW z (~~~fs)).map bE))) F.l (gs:=fs) (ys:=ys) [] [] 0 0 .no .no p (λj y h=>by
  let⟨f,c,tk,B,hs,W,E,e,xs,l,l',u,a,o,_⟩:=s j y h;calc⟨f,_,a,o⟩) (λg h=>by
  let⟨j,a,A⟩:=F.ix h;calc⟨A.ok,by rw[A.n];calc AN (pK.mp a).1⟩) F.nd (by have:=F.l;lia) cB9
 rw[ko]at t S;replace t:Ok (hO 4 5 _ ys [.val (.l (ns.map bG)),.val (.l ys),.obj 0 (.shf [[],[],[],[]] 0),.val (.l ((nW z (~~~fs)).map bE)),.no,.no,.no,.no]) _:=t;let i3:Ok (gY [] (fE @1) (jS (λ_=>.ok bF)) (jS (1^^^0)) [.val (.l (ns.map bG)),.val (.l ys),.obj 0 (.shf [[],[],[],[]] 0),.no,.no,.no,.no,.no]) (.l ((nW z (~~~fs)).map bE)):=by
  have:=Qi (z:=z) ys 0 λi y h=>by let⟨f,c,tk,B,hs,W,E,e,xs,l,l',u,a,o,_⟩:=s i y h;exact⟨_,_,by rw[o,kz]⟩
  rw[show((gK (~~~ys)).map λj=>bE (sd z (0+j) 25))=(nW z (~~~fs)).map bE from by
   rw[p,kM];refine kh λj _=>?_
   rw[kz];rfl]at this
  exact yF (xs:=ys) (by have:=F.l;lia) this
 let I:=G3 (P:=P) (n:=n+17) (k:=(k:bH)) S Y Z;replace I:Ok (P (n+41) .q79 _) _:=I;let⟨K,a0,i5⟩:∃K:bD,K<=30/\ ∀r:cQ,Ok (mA ca {.(30),(mA cb {.(3),(m2 rH (mA gJ {@0}) .(9))})} (.val (.l (ns.map bG))::r)) (bG K):=by
  let⟨v,hv⟩:∃v:bH,v=(~~~(ns.map bG):bH)-9:=⟨_,rfl⟩;let⟨w,G⟩:∃w:bH,w=if(if v>3 then v else 3)<30 then(if v>3 then v else 3)else 30:=⟨_,rfl⟩
  let w1:0<=w/\w<=30:=by rw[G];split<;>split<;>lia
  refine⟨w.toNat,bZ,λr=>?_⟩;rw[A6 w1.1,G,hv]
  exact bA
 let⟨Q,c',d',k',a1,a2,a3,a4,M⟩:=G5 (P:=P) (n:=n) (ns:=ns) d F T p s K 0 C [] [] k m N s5 .no .no (by have:=F.l;lia) S;let i7:=λr=>oC (f:=mA ca {.(30),(mA cb {.(3),(m2 rH (mA gJ {@0}) .(9))})}) (O:=.val (.l (ns.map bG))::r) (n:=K) (q:=i5 r) bZ
 replace M:Ok (turns 6 _ (_root_.R.upTo 0 K) _) _:=M;let i8:=i7 [.val (.l ys),.obj 0 (.shf [fT fs,kT C,[],[]] k),.val (.l ((nW z (~~~fs)).map bE)),N,s5,.no,.no];refine fG (n:=n+39) (g:=FR (P (n+41)) (P (n+39))) (O:= #[.l (ns.map bG),(),(),(),(),(),(),()]) rfl (q:=?_);delta FR
 calc bA
instance:Fu Ph:=⟨λ_=>rfl⟩
theorem cC1(ns:J bH):Ph 87 .law [.l (ns.map bG)]= .ok (.b bF):=(cC0 (P:=Ph) (n:=45) ns).e
end
section
variable [dG] [Pd]
variable{P:fH}{w:cD}{K:cG}{mg:U->bR bK}{base:cH}
noncomputable def isM:Fn->bD| .q81=>1| .q82=>1| .skip=>1| .q84=>1| .put=>2| .q86=>2| .q87=>2| .q88=>2| .q89=>2| .q90=>2| .q91=>2| .q92=>2| .q93=>2| .q94=>2| .q95=>2|_=>0
noncomputable def kd:Fn->bD| .q22=>1| .q23=>5| .q24=>4| .q25=>5| .q35=>3| .q36=>3| .q37=>3| .q38=>3| .q39=>3| .q40=>3| .q41=>3| .q42=>3| .q43=>3| .q44=>3| .q46=>3| .q47=>3| .q48=>3| .q76=>2| .q81=>3| .q82=>3| .skip=>3| .q84=>3| .put=>3| .q87=>3| .q88=>3| .q94=>2|_=>0
noncomputable def qn:Fn->U| .q81=>"WordRow.ahead"| .q82=>"WordRow.taken"| .skip=>"WordRow.skip"| .q84=>"WordRow.is_over"| .put=>"Shelf.put"| .q86=>"Shelf.has_room_for"| .q87=>"Shelf.put_face"| .q88=>"Shelf.put_unit"| .q89=>"Shelf.key_of"| .q90=>"Shelf.face_of"| .q91=>"Shelf.unit_of"| .q92=>"Shelf.keys_of"| .q93=>"Shelf.joined"| .q94=>"Shelf.go_through"| .q95=>"Shelf.is_old"|f=>nm f
abbrev Qj(K:cG)(r:bD)(m:J D->bP D):Sp:=match r with|0=>qK K m|1=>n4 K m|2=>jf K (pH m)|n+3=>zF K n (qB m)
abbrev tQ(P:fH)(w:cD)(K:cG)(mg:U->bR bK)(base:cH)(t:Fn->bI×fO)(n:bD)(C:CT):Prop:=∀f,fC P w K mg base fS n (t f).1 (t f).2 (pl f) (Qj K (kd f) (C f))
structure Std(w:cD)(K:cG)(mg:U->bR bK)(t:Fn->bI×fO)(fI:bI)(dI:fO)(fJ:bI)(dJ:fO)(An:bI):Prop where
 F:∀f,jB K (nm f) (qn f) (st f) (t f).1 (t f).2
 m:∀f,isM f=0->mg (nm f)=L (.ref (t f).1)
 e:∀f,isM f=1->wC K dG.rc (nm f) (t f).1
 e2:∀f,isM f=2->wC K dG.sc (nm f) (t f).1
 u:∀f,jO K (t f).2 (pl f) []
 c:nn K
 i:jB K "__init__" "WordRow.__init__" uu fI dI
 ib:jO K dI ["self","text"] []
 ic:mg "WordRow" =L (.ref dG.rc)
 im:L2.Mk K dG.rc fI
 sc:zG K
 j:jB K "__init__" "Shelf.__init__" uv fJ dJ
 jb:jO K dJ ["self"] []
 jc:mg "Shelf" =L (.ref dG.sc)
 jm:L2.Mk K dG.sc fJ
 x1:mg "NoJoin" =L (.ref An)
 x2:l0 K An Go "ValueError.__new__" =bF
 L10:yv K mg (t .q10).2 Ai "are_parts_within.<locals>.<lambda>"
 L12:yv K mg (t .q12).2 Aj "is_block_within.<locals>.<lambda>"
 bs:∀x,Ah.contains x=bF->mg x=bL
 cs:∀x d,Ag.lookup x=L d->m5 K mg x d
 ts:∀x t,Og.lookup x=L t->iU w K mg x t
theorem f7{α:Type}{l:J α}{g:α->Fn}{r:α->bD}(h:(l.all λf=>kd (g f)==r f&&isM (g f)==m)=bF):∀f∈l,kd (g f)=r f/\isM (g f)=m:=λf a=>by have:=mE.mp h f a;rw[gD,mX,mX]at this;calc this
theorem Qk:∀f∈uL,kd f=0/\isM f=0:=f7 (g:=id) (r:=λ_=>0) bQ
theorem Ql:∀f∈Oe,kd f=1/\isM f=0:=f7 (g:=id) (r:=λ_=>1) bQ
theorem Qm:∀q∈N9,kd q.1=q.2+3/\isM q.1=0:=f7 (g:=λq:Fn×bD=>q.1) (r:=λq=>q.2+3) bQ
theorem Qn:∀f∈Af,kd f=3/\isM f=1:=f7 (g:=id) (r:=λ_=>3) bQ
theorem Qo:∀f∈Ge,kd f=0/\isM f=2:=f7 (g:=id) (r:=λ_=>0) bQ
theorem Qp:∀f∈Gf,kd f=3/\isM f=2:=f7 (g:=id) (r:=λ_=>3) bQ
theorem Qq:∀f∈Gg,kd f=2/\isM f=2:=f7 (g:=id) (r:=λ_=>2) bQ
theorem Qr:∀f∈Of,kd f=2/\isM f=0:=f7 (g:=id) (r:=λ_=>2) bQ
theorem G6:∀f∈Ge++(Gf++Gg),nm f∉shfN:=bB
theorem cC2:∀f∈Af,(nm f==("words" :U))=bJ/\(nm f==("place" :U))=bJ:=by
 let h:((Af).all λf=> !(nm f==("words" :U))&& !(nm f==("place" :U)))=bF:=bB
 intro f a;have:=mE.mp h f a;rw[gD,Bb,Bb]at this;calc this
theorem tQ.a(b:tQ P w K mg base t n C)(h:kd f=r/\isM f=m):fC P w K mg base fS n (t f).1 (t f).2 (pl f) (Qj K r (C f)):=by have:=b f;rw[h.1]at this;calc this
theorem Qs{dI:fO}(S:Std w K mg t e dI g d b)(c:tQ P w K mg base t n C):ju P w K mg base n C:=
 ⟨λx m h=>by let⟨f,i,rfl,rfl⟩:=aH h;calc⟨⟨_,_,_,tQ.a c (Qk f i),S.m f (Qk f i).2,(S.F f).kp,S.u f⟩⟩⟩
theorem Qt{dI:fO}(S:Std w K mg t l dI o g d)(b:tQ P w K mg base t (n+2) C):Tab P w K mg base (n+2) C:=
 ⟨⟨(Qs S b).k,S.cs,S.ts,S.bs,λx m h=>by
  let⟨f,i,rfl,rfl⟩:=aH h;exact⟨⟨_,_,_,tQ.a b (Qm f i),S.m f.1 (Qm f i).2,(S.F f.1).kp,S.u f.1⟩⟩,λx m h=>by
  let⟨f,i,rfl,rfl⟩:=aH h;exact⟨S.c.c,⟨_,_,_,tQ.a b (Qn f i),S.e f (Qn f i).2,S.u f⟩,cC2 f i⟩,λx m h=>by
  let⟨f,i,rfl,rfl⟩:=aH h;exact⟨⟨_,_,_,tQ.a b (Ql f i),S.m f (Ql f i).2,(S.F f).kp,S.u f⟩⟩,λx h=>by
  rw[mM.mp (sK.mp h)];exact⟨S.c,n+1,rfl,⟨⟨_,_,_,Z9 S.i ⟨rfl,rfl,rfl,bB,nB,bB,bB⟩ S.c (by rfl) ⟨rfl,yP nB,nB,nB⟩ ⟨rfl,yP nB,nB,nB⟩ (by rfl),S.ic,S.im,S.ib⟩⟩⟩,λx m h=>by
  let⟨f,i,rfl,rfl⟩:=aH h;exact⟨S.sc,⟨_,_,_,tQ.a b (Qo f i),S.e2 f (Qo f i).2,S.u f⟩,G6 f (mL _ i)⟩,λx m h=>by
  let⟨f,i,rfl,rfl⟩:=aH h;exact⟨S.sc,⟨_,_,_,tQ.a b (Qp f i),S.e2 f (Qp f i).2,S.u f⟩,G6 f (mK _ (mL _ i))⟩,λx m h=>by
  let⟨f,i,rfl,rfl⟩:=aH h;exact⟨S.sc,⟨_,_,_,tQ.a b (Qq f i),S.e2 f (Qq f i).2,S.u f⟩,G6 f (mK _ (mK _ i))⟩,λx m h=>by
  let⟨f,i,rfl,rfl⟩:=aH h;exact⟨⟨_,_,_,tQ.a b (Qr f i),S.m f (Qr f i).2,(S.F f).kp,S.u f⟩⟩,λx h=>by
  rw[mM.mp (sK.mp h)];calc⟨S.sc,n+1,rfl,⟨⟨_,_,_,bC8 S.j ⟨rfl,rfl,rfl,bB,nB,bB,bB⟩ S.sc (by rfl) ⟨rfl,yP nB,nB,nB⟩,S.jc,S.jm,S.jb⟩⟩⟩,λ_ _ h=>by cases h⟩,⟨_,_,S.F .q5,S.m .q5 rfl,S.u .q5⟩⟩
theorem cC3{dI:fO}(S:Std w K mg t d dI f c a):∀{n},tQ P w K mg base t n (Ph n)->(∃ds,gX (Ph n) ds=bF)->Tab P w K mg base n (Ph n)|0,_,⟨_,h⟩=>by let⟨_,_,_,_,_,e,_⟩:=Ak h;cases e|1,_,⟨_,h⟩=>by let⟨_,_,_,_,_,e,_⟩:=Ak h;cases e|n+2,b,_=>Qt S b
theorem cC4(h:∀ds,m ds= .bad):fC P w K mg base fS n f fd ps (jf K (pH m)):=by
 let z:∀c H Q E,¬ jf K (pH m) c H Q E:=λc H Q E g=>by
  let⟨F,a,b,s,t,ds,pre,_,_,_,_,_,_,_,q⟩:=g;delta pH at q;split at q
  .rw[h]at q;exact q
  exact q
 calc⟨λc H Q E q=>dD q (z c H Q E),λA d s H e l c Q E k i j r q=>dD q (z _ _ _ _)⟩
theorem cC5(g:∀ds,~~~ds≠~~~ps->m ds= .bad)(h:K.In base->fC P w K mg base fS n f fd ps (qK K m)):fC P w K mg base fS n f fd ps (qK K m):=
 ⟨λd H Q E ⟨F,ds,_,_,r,q⟩=>by
  by_cases e: ~~~ds= ~~~ps
  .rw[<-r.length];exact e
  rw[g ds e]at q;calc dD q id,λA a s H b j d Q E i c=>(h c.mod.kin).run A a s H b j d Q E i c⟩
theorem G7(h:∀f ds,C f ds= .bad):tQ P w K mg base t n C:=λf=>by
 generalize kd f=r
 match r with
 |0=>calc Lo (h f)|1=>calc bB8 (h f)|2=>calc cC4 (h f)|n+3=>calc bB7 (h f)
theorem AO{t:Fn->bI×fO}{d:bI}{dI:fO}{e:bI}{c:fO}{a:bI}(S:Std w K mg t d dI e c a):∀n base,tQ P w K mg base t n (Ph n)
 |0,_=>G7 λ_ _=>rfl|1,_=>G7 λ_ _=>rfl|2,_=>G7 λ_ _=>rfl|n+3,base=>λf=>by
  let T:∀b:cH,Tab P w K mg b (n+2) (Ph (n+2)):=λb=>Qt S (AO S (n+2) b)
  let T0:∀b:cH,ju P w K mg b n (Ph n):=λb=>Qs S (AO S n b)
  cases f with
  |q5=>calc Lo λ_=>rfl|q78=>calc cC5 (λg h=>cX h) λX=>okT (S.F .q0) (S.m .q0 bQ) (S.u .q0) (S.F .q78) (T base) (cC3 S (AO S n base)) (bM9 X S.x1 S.x2)|q6|q17|q19=>calc rkW _ (S.F _) T T0
  |q10=>calc bP2 (S.F .q10) T T0 S.L10|q12=>calc bQ0 (S.F .q12) T T0 S.L12|q21=>calc rk _ {ow:=["top"],fz:=[(133,3)],ri:=L 3} (S.F _) (T base)|q22=>calc rkN _ {ow:=["meanings"]} (S.F _) (T base)|q23=>calc Gi _ {ow:=["told"],fz:=[(149,5)],vw:=["top"],ri:=L 2} (S.F _) (T base)|q24=>calc Gi _ {vw:=["top"],ri:=L 1} (S.F _) (T base)|q25=>calc Gi _ {ow:=["awaited"],vw:=["awaited","top"],ri:=L 3} (S.F _) (T base)|q26=>calc rk _ {ow:=["meanings"],fz:=[(180,3)]} (S.F _) (T base)|q29=>calc rk _ {ow:=["uses"],fz:=[(202,1)]} (S.F _) (T base)|q30=>calc rk _ {ow:=["uses"],fz:=[(211,1)]} (S.F _) (T base)|q33=>calc rk _ {ow:=["uses"],fz:=[(235,1)]} (S.F _) (T base)|read=>calc rk _ {ow:=["row"],ri:=L 1} (S.F _) (T base)|q35=>calc jw _ {ow:=["deeds"],fz:=[(275,3)],ri:=L 0} (S.F _) (T base)|q36=>calc jw _ {ow:=["deeds","takes"],fz:=[(287,4),(283,2)],ri:=L 0} (S.F _) (T base)|q37|q39|q43|q44|q46|q47|q48|q81|q82|skip|q84=>calc jw _ {ri:=L 0} (S.F _) (T base)
  |q38=>calc jw _ {ow:=["names"],fz:=[(301,1)],ri:=L 0} (S.F _) (T base)|q40=>calc jw _ {ow:=["names"],fz:=[(313,2)],ri:=L 0} (S.F _) (T base)|q41=>calc jw _ {ow:=["statements"],fz:=[(319,2)],ri:=L 0} (S.F _) (T base)|q42=>calc jw _ {ow:=["parts"],fz:=[(332,3)],ri:=L 0} (S.F _) (T base)|q50=>calc rk _ {ow:=["sources"],fz:=[(457,1)]} (S.F _) (T base)|q52=>calc rk _ {ow:=["words"],fz:=[(469,1)]} (S.F _) (T base)|q53=>calc rk _ {ow:=["words"],fz:=[(477,1)]} (S.F _) (T base)|q54=>calc rk _ {ow:=["words"],fz:=[(482,1)]} (S.F _) (T base)|q56=>calc rk _ {ow:=["words"],fz:=[(489,1)]} (S.F _) (T base)|q57=>calc rk _ {ow:=["words"],fz:=[(499,1)]} (S.F _) (T base)|q60=>calc rk _ {ow:=["words"],fz:=[(521,1)]} (S.F _) (T base)|q72=>calc rk _ {ow:=["_law_found"],fz:=[(618,3)],vw:=["_law_found"]} (S.F _) (T base)|q74=>calc rk _ {ow:=["_law_made"],fz:=[(647,12)]} (S.F _) (T base)|q76=>calc Oi _ {ow:=["_law_met","_law_order"],vw:=["_law_met"],ri:=L 4} (S.F _) (T base)|q77=>calc rk _ {ow:=["_law_order"],fz:=[(675,4)]} (S.F _) (T base)|q79=>calc rk _ {ow:=["_law_units","_law_kept","_law_marks"],fz:=[(691,2),(691,3),(691,4)]} (S.F _) (T base)|law=>calc rk _ {ow:=["_law_shelf"],vw:=["_law_shelf"]} (S.F _) (T base)|put=>calc Gh _ {vw:=["self"],ri:=L 0} (S.F _) (T base)|q87=>calc Gh _ {vo:=[(407,0),(408,0)],ri:=L 0} (S.F _) (T base)|q88=>calc Gh _ {vo:=[(412,0),(416,0)],ri:=L 0} (S.F _) (T base)|q93=>calc rk _ {ow:=["come_to","order"],fz:=[(435,3)]} (S.F _) (T base)|q94=>calc Oi _ {ow:=["order"],vw:=["come_to"],ri:=L 2} (S.F _) (T base)|_=>calc rk _ {} (S.F _) (T base)
noncomputable def G8:bD->(J bK->Prop)->Prop|0,P=>P []|n+1,P=>∀a,G8 n λl=>P (a::l)
theorem Qu:∀{n:bD} {P:J bK->Prop} {us:J bK},G8 n P-> ~~~us=n->P us|0,_,[],h,_=>h|n+1,P,a::l,h,e=>Qu (P:=λl=>P (a::l)) (h a) (SS e)
theorem G9(F:jB K x q s a d)(h:∀kV b e an cdv c,G8 ps.length λus=>BR (iv x q (iJ s) (mG s) (dU s) .none kV b e an cdv c) ⟨us,[]⟩=dX (ps.zip us)):jO K d ps []:=jB.binds F λkV b e an cdv c us f=>Qu (h kV b e an cdv c) f
theorem bnd(F:jB K (nm f) (qn f) (st f) a d):jO K d (pl f) []:=G9 F (by cases f<;>(repeat intro _)<;>(show _=_;kernel_rfl))
theorem cC7(F:jB K "__init__" "WordRow.__init__" uu a d):jO K d ["self","text"] []:=G9 F λ_ _ _ _ _ _ _ _=>rfl
theorem cC8(F:jB K "__init__" "Shelf.__init__" uv a d):jO K d ["self"] []:=G9 F λ_ _ _ _ _ _ _=>rfl
end
abbrev Fd(x q:U)(s:fQ)(kV dc c:bK)(an:bR bI)(a b:bK):fO:=iv x q (iJ s) (mG s) (dU s) .none kV dc c an a b
abbrev Ob(oc:bK)(a:bR bI)(d:fO)(sl:dE (bR bK)):cY:=⟨oc,a,.func d,sl⟩
abbrev Pa(K:cG)(C a:bI)(m:bD)(x:U)(f:bI):Prop:=match m with|0=>rT K kH x=L (L (.ref f))|1=>wC K C x f|_=>wC K a x f
abbrev Df(K:cG)(C a:bI)(m:bD)(x q:U)(s:fQ):Prop:=∃p:bI×fO,Pa K C a m x p.1/\jB K x q s p.1 p.2
theorem dmk{K:cG}{an:bR bI}{kV dc:bK}(a:rT K kH x=L (L (.ref f)))(l:K.lookup f=L (Ob oc g (Fd x q s kV dc h an b e) sl))(c:zZ K b q=bF)(k:lE K (.ref f)=bF):Df K C d 0 x q s:=⟨(f,_),a,qk l c k⟩
theorem dmkM{K:cG}{an:bR bI}{kV dc:bK}(a:nS K (.ref C) x=L (L (.ref f)))(l:K.lookup f=L (Ob oc g (Fd x q s kV dc h an b e) sl))(c:zZ K b q=bF)(k:lE K (.ref f)=bF)(i:aj K (.ref f)=bF):Df K C d 1 x q s:=⟨(f,_),⟨a,i,k⟩,qk l c k⟩
theorem dmkS{K:cG}{an:bR bI}{kV dc:bK}(a:nS K (.ref b) x=L (L (.ref f)))(l:K.lookup f=L (Ob oc g (Fd x q s kV dc h an d e) sl))(c:zZ K d q=bF)(k:lE K (.ref f)=bF)(i:aj K (.ref f)=bF):Df K C b 2 x q s:=⟨(f,_),⟨a,i,k⟩,qk l c k⟩
theorem Qv{K:cG}(a:yC K b)(m:wC K C y f)(F:jB K x q s f d):wC b C y f:=by let⟨_,_,_,_,_,_,_,_,_,_,e,_⟩:=F.ex;have:=MC a m.fn m.kp e;calc⟨fj a m.at_,this.1,this.2⟩
theorem Qw{K:cG}(a:rT K kH x=L (L (.ref f)))(l:K.lookup f=L (Ob oc b e sl))(h:rT K kH x=L (L (.ref g)))(F:jB K x q s g d):d=e:=by cases a.symm.trans h;let⟨_,_,_,_,_,_,_,_,_,r,k,_⟩:=F.ex;cases l.symm.trans k;calc r.symm▸rfl
theorem all_mk{l:wv}{K:cG}(X:K.In h)(G:h.Ns kH mg)(b8:mg "law" =L (.ref fa))(b7:∃bm ob,mg "__builtins__" =L (.ref bm)/\bm≠zV/\h.get? bm=L ob/\ob.cls= .type "module" /\ob.dict=L zV/\ob.data= .plain)(cC:rT K kH "WordRow" =L (L (.ref C)))(cl:K.lookup C=L ⟨.type "type",odC,.cls cdC,slC⟩)(cg:gx K C wn=bF)(ch:gq K C=bF)(co:o9 K C=bF)(cs:nS K (.ref C) "__setattr__" =L (L (.builtin "object.__setattr__")))(cw:nS K (.ref C) "words" =L bL)(cp:nS K (.ref C) "place" =L bL)(cm:ph K C=bF)(ck:lE K (.ref C)=bF)(ia:nS K (.ref C) "__init__" =L (L (.ref fI)))(il:K.lookup fI=L (Ob ocI odI (Fd "__init__" "WordRow.__init__" uu kVI dcI pmI anI cdI ctI) slI))(ic:zZ K cdI "WordRow.__init__" =bF)(ik:lE K (.ref fI)=bF)(ii:aj K (.ref fI)=bF)(sC:rT K kH "Shelf" =L (L (.ref n)))(c1:K.lookup n=L ⟨.type "type",odS,.cls cdS,slS⟩)(sg:gx K n wn=bF)(sh:gq K n=bF)(so:o9 K n=bF)(E:nS K (.ref n) "__setattr__" =L (L (.builtin "object.__setattr__")))(sw:∀x∈shfN,nS K (.ref n) x=L bL)(sm:ph K n=bF)(sk:lE K (.ref n)=bF)(ja:nS K (.ref n) "__init__" =L (L (.ref fJ)))(jl:K.lookup fJ=L (Ob ocJ odJ (Fd "__init__" "Shelf.__init__" uv kVJ dcJ pmJ anJ cdJ ctJ) slJ))(jc:zZ K cdJ "Shelf.__init__" =bF)(jk:lE K (.ref fJ)=bF)(ji:aj K (.ref fJ)=bF)(n1:rT K kH "NoJoin" =L (L (.ref An)))(n2:l0 K An Go "ValueError.__new__" =bF)(D:∀f,Df K C n (isM f) (nm f) (qn f) (st f))(b5:rT K kH "are_parts_within" =L (L (.ref f10)))(b9:K.lookup f10=L (Ob oc10 od10 (Fd "are_parts_within" "are_parts_within" s10 kV10 dc10 pm10 an10 cd10 ct10) sl10))(b6:rT K kH "is_block_within" =L (L (.ref f12)))(c0:K.lookup f12=L (Ob oc12 od12 (Fd "is_block_within" "is_block_within" zL kV12 dc12 pm12 an12 cd12 ct12) sl12))(c2:cd10= .ref ca10)(b1:K.lookup ca10=L ⟨.type "code",oda10,.fields vs10,sla10⟩)(B:vs10[11]? =L (.ref pt10))(a3:vs10.getD 18 .none= .str file10 tf10)(a5:vs10.getD 7 .none= .int flags10 tg10)(a7:vs10.getD 9 .none= .bool inF10)(a9:vs10.getD 10 .none= .int text10 tt10)(b3:h.get? pt10=L (en #[]))(c3:cd12= .ref ca12)(b2:K.lookup ca12=L ⟨.type "code",oda12,.fields vs12,sla12⟩)(F:vs12[11]? =L (.ref pt12))(a4:vs12.getD 18 .none= .str file12 tf12)(a6:vs12.getD 7 .none= .int flags12 tg12)(a8:vs12.getD 9 .none= .bool inF12)(b0:vs12.getD 10 .none= .int text12 tt12)(b4:h.get? pt12=L (en #[]))(a2:pt10≠pt12)(Za:Ah.all (Dt K)=bF)(cB:yy K Ag=bF)(d:rT K kH "STATEMENT_FORMS" =L (L (.ref p_STATEMENT_FORMS)))(i:K.lookup p_STATEMENT_FORMS=L ⟨.type "dict",bL,.dict es_STATEMENT_FORMS ep_STATEMENT_FORMS, #[]⟩)(k:rq K es_STATEMENT_FORMS.toList qT=bF)(g:es_STATEMENT_FORMS.toList.map (·.hash)=qT.map λp=>wz w p.1)(j:(p_STATEMENT_FORMS==vC)=bJ):∃(T:dG) (H:cG) (fd:fO),H.In h/\(∀t∈T.L,(∃c,h.TableAt c t.1 #[])/\H.lookup t.1=bL)/\(∀s u,pv s fd ⟨[u],[]⟩ [("_law_script",u)])/\
  ∀base,H.In base->base.Ns kH mg->fC l.prog w H mg base fS 87 fa fd ["_law_script"] (yo H):=by
 let⟨t,m⟩:=Classical.axiomOfChoice D;let e:=b8.symm.trans (ly X G (m .law).1);cases e;subst c2;subst c3;let⟨bm,ob,Q,Y,Z,a0,a1,A⟩:=b7
 let a:pF K [pt10,pt12] bm ob h:=⟨X,Z,A,λP hP=>by
  dsimp[jJ,aU,aZ]at hP;rcases hP with rfl|rfl
  .exact b3
  calc b4⟩
 let N:bm≠kH:=λz=>by let⟨o,es,ep,e1,e2,_⟩:=G;rw[<-z,Z]at e1;cases e1;rw[A]at e2;cases e2
 letI T:dG:=⟨[(pt10,Ai,"are_parts_within.<locals>.<lambda>"),(pt12,Aj,"is_block_within.<locals>.<lambda>")],λt m u hu e=>by dsimp[jJ,aU,aZ]at m hu;rcases m with rfl|rfl<;>rcases hu with rfl|rfl<;>first|rfl|calc dD e (by assumption)|calc dD e.symm (by assumption),C,n⟩
 let q:pt10∈ [pt10,pt12]:=by simp
 let y:pt12∈ [pt10,pt12]:=by simp
 let M:yC K (qR K [pt10,pt12] bm ob):=λb o e z=>a.up e z
 let FI:=qk (st:=uu) il ic ik;let FJ:=qk (st:=uv) jl jc jk;let S:Std w (qR K [pt10,pt12] bm ob) mg t fI (Fd "__init__" "WordRow.__init__" uu kVI dcI pmI anI cdI ctI) fJ (Fd "__init__" "Shelf.__init__" uv kVJ dcJ pmJ anJ cdJ ctJ) An:=by exact⟨λf=>a.fn (m f).2,λf O=>by have:=(m f).1;rw[O]at this;calc ly X G this,λf O=>by have:=(m f).1;rw[O]at this;calc Qv M this (m f).2,λf O=>by have:=(m f).1;rw[O]at this;calc Qv M this (m f).2,λf=>bnd (a.fn (m f).2),⟨qQ.up M ⟨cg,ch,co,cs⟩,fj M cw,fj M cp⟩,a.fn FI,cC7 (a.fn FI),ly X G cC,R.Mk.up M cm ia ii ik il cl ck,⟨qQ.up M ⟨sg,sh,so,E⟩,λx hx=>fj M (sw x hx)⟩,a.fn FJ,cC8 (a.fn FJ),ly X G sC,R.Mk.up M sm ja ji jk jl c1 sk,ly X G n1,bB6 M n2,⟨ca10,pt10,by rw[Qw b5 b9 (m .q10).1 (m .q10).2],fF,λbase I=>⟨a.hd (oc:=.none) q b1 B a3 a5 a7 a9 I,bm,ob,Q,Y,N,a.ne q,I _ _ a.at',a0,a1,A⟩⟩,⟨ca12,pt12,by rw[Qw b6 c0 (m .q12).1 (m .q12).2],(fM _ fF),λbase I=>⟨a.hd (oc:=.none) y b2 F a4 a6 a8 b0 I,bm,ob,Q,Y,N,a.ne y,I _ _ a.at',a0,a1,A⟩⟩,λx hx=>W.mg_none_of X G (YK (mE.mp Za x (sK.mp hx))),LM a X G cB,bL8 (YL a (ly X G d) j i k g) (bL7)⟩
 refine⟨T,qR K [pt10,pt12] bm ob,_,a.isIn,λt m=>?_,λs v=>?_,λbase _ _=>X9 (AO S 87 base .law) ?_⟩
 .let m:t∈([(pt10,Ai,"are_parts_within.<locals>.<lambda>"),(pt12,Aj,"is_block_within.<locals>.<lambda>")]:J (bI×cW×U)):=m;dsimp[jJ,aU,aZ]at m;rcases m with rfl|rfl
  .exact⟨⟨ca10,⟨⟨_,vs10,X _ _ b1,rfl,rfl,B⟩,b3⟩⟩,a.no q⟩
  exact⟨⟨ca12,⟨⟨_,vs12,X _ _ b2,rfl,rfl,F⟩,b4⟩⟩,a.no y⟩
 .let⟨_,_,_,_,_,_,_,_,_,r,_⟩:=(m .law).2.ex;show pv s (t .law).2 _ _;rw[r];exact .of_eq rfl
 intro ns _;calc cC1 ns
end Jm
end
section
open PySem PySem.W PyProof.Rows
set_option maxHeartbeats 0 in
theorem PySem.Challenge.cw_joinmill_k21_joined_holds : PySem.Challenge.rw_joinmill_k21_joined.Holds := by
 w_on;refine W.holds_law Jm.wsHd λsaid=>?_;refine Jm.hdHd rfl rfl rfl rfl (by assumption) bB ⟨rfl,rfl,rfl,rfl,rfl,bB⟩ ?_ ?_
 .w_witness2
 k_fill
 refine R.walk_ofU (l:=oO) (k:=87) (x:="_law_script") rfl rfl ⟨rfl,hG,hG⟩ (λw h Ya=>W.km_in_of Ya) (λw h Ya=>W.km_tabs_of Ya) ?F
 case F=>
  intro w mg fa h KX G hmg hT hbm
  refine' Jm.all_mk KX G hmg hbm ?cC ?cl ?cg ?ch ?co ?cs ?cw ?cp ?cm ?ck ?ia ?il ?ic ?ik ?ii ?sC ?sl' ?sg ?sh ?so ?ss ?sw ?sm ?sk ?ja ?jl ?jc ?jk ?ji ?n1 ?n2 ?D ?a10 ?l10 ?a12 ?l12 ?v10 ?w10 ?qa10 ?qb10 ?qc10 ?qd10 ?qe10 ?x10 ?v12 ?w12 ?qa12 ?qb12 ?qc12 ?qd12 ?qe12 ?x12 ?ne10_12 ?Za ?cB ?e_STATEMENT_FORMS ?l_STATEMENT_FORMS ?t_STATEMENT_FORMS ?h_STATEMENT_FORMS ?s_STATEMENT_FORMS
  case cC|cl|cg|ch|co|cs|cw|cp|cm|ck|ia|il|ic|ik|ii|sC|sl'|sg|sh|so|ss=>k_is
  case sw=>intro x hx;dsimp[R.shfN,jJ,aU,aZ]at hx;rcases hx with rfl|rfl|rfl|rfl|rfl<;>k_is
  case sm|sk|ja|jl|jc|jk|ji|n1=>k_is
  case n2=>kernel_rfl
  case D=>
   intro f;cases f with
   |q81|q82|skip|q84=>dsimp only[Jm.nm,Jm.st,Jm.tb,Jm.qn,Jm.isM];refine' Jm.dmkM ?a ?l ?c ?k ?i;(case a=>k_is);(case l=>k_is);(case c=>k_is);(case k=>k_is);(case i=>k_is)
   |put|q86|q87|q88|q89|q90|q91|q92|q93|q94|q95=>dsimp only[Jm.nm,Jm.st,Jm.tb,Jm.qn,Jm.isM];refine' Jm.dmkS ?a ?l ?c ?k ?i;(case a=>k_is);(case l=>k_is);(case c=>k_is);(case k=>k_is);(case i=>k_is)
   |_=>dsimp only[Jm.nm,Jm.st,Jm.tb,Jm.qn,Jm.isM];refine' Jm.dmk ?a ?l ?c ?k;(case a=>k_is);(case l=>k_is);(case c=>k_is);(case k=>k_is)
  case a10|l10|a12|l12=>k_is
  case v10=>rfl
  case w10=>k_is
  case qa10|qb10|qc10|qd10|qe10=>rfl
  case x10=>exact hT _ hG
  case v12=>rfl
  case w12=>k_is
  case qa12|qb12|qc12|qd12|qe12=>rfl
  case x12=>exact hT _ hG
  case ne10_12=>decide
  case Za|cB=>kernel_rfl
  case e_STATEMENT_FORMS|l_STATEMENT_FORMS=>k_is
  case t_STATEMENT_FORMS=>kernel_rfl
  case h_STATEMENT_FORMS|s_STATEMENT_FORMS=>rfl
end
