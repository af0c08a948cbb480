import PyProof.Rows.All
import Wide.All
import OpenK.KLine
import KE.KIsAll
import KE.KNestM
import KE.KLam
import PySem.Challenge.RW_joinmill_k12_whole_fit_sets
import Wide.FinOn
import Lean
import PyProof.EqAt
import PyProof.EqKinds
import PyProof.TupleCall
import PyProof.ListMulRoad
import PyProof.ZipIter
import PyProof.EnumMake
import PyProof.Rows.SetFrom
import PyProof.AttrMissSeq
import KE.KDictOf
import KE.KDictList
import KE.KEqDict
import PyProof.DictWalks
import KE.KIntText
import KE.IntTextLaws
set_option Elab.async false
set_option linter.all false
set_option maxRecDepth 100000
set_option synthInstance.maxHeartbeats 400000
set_option synthInstance.maxSize 4000
set_option maxHeartbeats 8000000
noncomputable section
open Array renaming find?_toList->wj,getElem?_eq_getElem->KQ,getElem?_eq_none->Ds,length_toList->Dz,mk->Ep,size_append->DE,toList->Mm,toList_append->DA
open Bool renaming and_eq_true->dB,and_eq_true_iff->Le,and_false->L7,and_true->DV,eq_iff_iff->wz,false->bH,false_eq_true->pr,false_ne_true->tO,false_or->Mj,noConfusion->yS,not_eq_true'->j5,or_eq_true->LW,true->bC,true_and->aA
open Char renaming toNat->MI
open Decidable renaming decide->cN
open False renaming elim->qV
open ForInStep renaming yield->j7
open Int renaming emod_lt_of_pos->ao,emod_nonneg->wY,eq_ofNat_of_zero_le->ge,toNat_natCast->wm,toNat_of_nonneg->DB,zero_add->D4
open Int.ofNat renaming inj->DZ
open LawfulBEq renaming eq_of_beq->dW
open List renaming all_append->L0,all_cons->lS,all_eq_true->qR,all_map->D3,all_nil->Mu,any_cons->az,any_eq_false->LA,any_eq_true->aw,append_assoc->pP,append_nil->kK,cons_append->wq,contains_iff_mem->ca,drop_drop->DO,drop_eq_getElem_cons->v7,drop_eq_nil_of_le->wc,drop_left'->LY,drop_zero->L8,filterMap_cons->Dy,filter_cons->pQ,find?_cons->wX,flatMap_cons->wo,flatten_cons->j4,foldl->ka,foldl_cons->pz,forIn_cons->DM,forIn_nil->Md,getD_eq_getElem?_getD->rR,getElem?_append_left->b9,getElem?_append_right->wW,getElem?_cons_succ->Dn,getElem?_drop->Ly,getElem?_eq_getElem->nO,getElem?_eq_none_iff->KP,getElem?_eq_some_iff->rS,getElem?_inj->LD,getElem?_map->pB,getElem?_range->Lm,getElem?_replicate->Dh,getElem?_set_ne->am,getElem?_set_self->gf,getElem?_zipWith->Lb,isEmpty_nil->LL,length_append->cH,length_cons->dC,length_drop->DI,length_eq_zero_iff->wb,length_filter_le->we,length_map->cG,length_nil->lQ,length_range->vV,length_replicate->K7,length_set->gp,length_singleton->pk,length_take->gk,length_zipWith->Lq,lookup->aD,lookup_cons->lF,map_append->lR,map_congr_left->Lr,map_cons->dY,map_id->D8,map_id'->qg,map_map->mS,map_nil->vY,mem_append->jR,mem_append_left->pA,mem_append_right->pO,mem_cons->kS,mem_cons_of_mem->gI,mem_cons_self->fW,mem_filter->pw,mem_filterMap->pp,mem_flatMap->LR,mem_iff_getElem->Dx,mem_map->jA,mem_of_getElem? ->Dv,mem_range->wZ,mem_singleton->tP,nil_append->LV,nodup_append->pC,nodup_cons->cf,nodup_iff_pairwise_ne->v5,nodup_nil->xa,not_mem_nil->ax,of_mem_zip->DL,pairwise_map->LG,range->kL,range_succ_eq_map->Dr,replicate->lX,replicate_succ->ce,size_toArray->gQ,sum_cons->qb,zipIdx_cons->LN,zipIdx_nil->LX
open List.Pairwise renaming imp_of_mem->KY,nil->XW
open List.cons renaming inj->DX,injEq->p0
open Min renaming min->rX
open Nat renaming add_assoc->DY,add_comm->Ms,add_le_add->Mh,add_mul->MC,blt->rg,digitChar->Ml,exists_eq_add_of_le->Dj,le_add_right->av,le_of_ble_eq_true->Du,le_of_eq->Mn,le_of_lt->qc,le_of_not_lt->pv,le_refl->cZ,le_succ->gy,le_succ_of_le->DG,le_trans->jS,lt_irrefl->ci,lt_of_le_of_lt->wk,lt_of_lt_of_le->mI,lt_succ_of_lt->wn,lt_succ_self->wp,lt_trans->Mo,mul_le_mul->DN,mul_le_mul_right->gh,mul_succ->Mr,ne_of_gt->gt,ne_of_lt->gX,succ_mul->Mq,toDigits->gw,zero_add->xi,zero_le->mK
open Nat.succ renaming inj->Mt
open Ne renaming symm->c5
open Option renaming getD_none->DJ,isSome_iff_exists->v8,isSome_map->DD,map_eq_some_iff->K2,none->bK,some->bB
open Option.some renaming inj->jJ
open Or renaming inl->pS,inr->ku
open Prod renaming ext->ij
open Pure renaming pure->fE
open PyProof.Rows renaming AllBare->aJ,IntsAre->rb,IsTup->da,args_tuple_getitem->Lu,boot_abs->XO,boot_all->XQ,boot_bool->XM,boot_dict->XJ,boot_int->Lc,boot_isinstance->Xl,boot_list->Dt,boot_max->XS,boot_min->XR,boot_str->Ld,boot_tuple->ph,callWith_builtin1->Xj,callWith_type1->v4,clssOf->ym,digit_range->XE,drecsOf->cz,entry_tuple_getitem->Lk,envOfC->qD,expectedOf->xo,iadd_int->L1,litsOf->yk,ownsOf->yj,plainGoodD->xv,plainGoodE->xu,plainSeenD->xq,plainSeenE->xp,recsOf->c9,setObjOf_fresh->Xn,slicePart_none->L4,slot_tuple_getitem->gb,split_pos->XN,subscriptTail->xc,subscriptTail_builtinR->Dp,tablesOk->x4,tabsOk->yn,tupleItemsOf_->DT
open PySem renaming Addr->bI,Arguments->xy,Around->gK,BindsTo->kn,Builtin->iy,CmpOp->xJ,DictEntry->xG,Env->jG,FuncData->gJ,GenState->qr,Heap->cB,IsPair->qE,IsPart->xI,IsZip->tW,Keyword->tV,NameKind->qC,Obj->cQ,Operator->aF,OsState->tU,Paired->kD,Params->aK,PassesOwn->kf,Pos->dJ,Program->fM,Result->ko,Scope->kW,Sem->pE,Shared->bS,Slot->Eh,Stmt->dN,Tok->lG,Value->bJ,Within->D0,World->cF,ZipApart->yg,assign->yY,assignEach->tR,atKey->aM,attributeBase->yT,backTo->kU,backToKw->cv,behindInMarks->tQ,binaryOp->mU,bindArgs->Er,bindC->de,bindL->db,bltViewBooted->xb,bootBuiltins->qT,boot_len->w8,builtinsNs->xB,cLine->lD,call->MF,callWith->Es,call_meets->cr,callerA->iw,cellsFrom->El,closureFor->qj,codeAny_builtin->qa,codeAny_mono->gu,compEnvC->ip,compPost->Ez,compareOp->hJ,concat_meets->qe,eval->dX,field->df,findBy->yq,firstArgMember->Mc,foldedSetIterable->ar,getItem->yW,getMethod->qp,getattributeRaised->Lx,hashStr->ra,holding->c6,importedModules->wt,inplaceOp->xx,intText? ->Mg,isSubtype->xz,isSubtype_type->w6,keywordEach->cj,lastMarks->qo,leftWithCleanup->wv,letOwnedTupleGo->wy,lookup_relabel_local->wf,mainGlobals->gM,mem_of_lookup->cb,merged->yu,methodCallForm->Mf,model->cA,noFill_list_add->K9,noFill_tuple_add->DH,notedBy->yX,pick_run->Eu,pinGoodD->ya,pinSeenD->x5,plainId_quiet->DW,pyIter->yo,pyNext->xH,rawInt->mV,recursionLimit->L3,relabel->re,scanBound->kh,seqSlot_of->LK,seq_list_add->Lv,seq_tuple_add->DS,sizeLine->cJ,sizeLine_eq->sR,sliceBounds->g0,sliceRange_one->L5,slot_list_getitem->LC,standAt->iu,starEach->fK,storeName->Ej,stored->yt,strValues->Em,subscripted->xl,swappedStores->DQ,swapsWith->aE,swapsWithSole->DP,sysModules->qU,treeTable->tT,truthy->yp,tupleKind->qk,tupleKind_room_in1->wl,typeIs_int->Ef,typeIs_str->j9,typeLookup->Ec,typeOf->yr,unaryOp->yh,valueAt->c7,wpAny_Call_Name_kw->jz,wpAny_Name->Eb,wpAny_assign_Name->Lz,wpAny_bind->bV,wpAny_call->xw,wpAny_callSpecial?_slot->jy,wpAny_call_entry->j6,wpAny_comprehension_free->KR,wpAny_execs_cons->LH,wpAny_execs_nil->wx,wpAny_field->rT,wpAny_getItem_of->LJ,wpAny_holding->j8,wpAny_letGo->D7,wpAny_loadName_cell->Lj,wpAny_loadName_local->Lf,wpAny_mono->lT,wpAny_newFunctionEnv->Li,wpAny_newObj_type->au,wpAny_notIn_of->L6,wpAny_onRaise->xg,wpAny_passesOwn->gm,wpAny_pure->dM,wpAny_pyIter_enum->LF,wpAny_pyIter_list->gj,wpAny_pyIter_tuple->gi,wpAny_pyIter_zip->LP,wpAny_pyNext_tuple_end->K3,wpAny_pyNext_tuple_item->KZ,wpAny_rule->qi,wpAny_runValue->Me,wpAny_seqItems->ay,wpAny_sequenceKey->LB,wpAny_setField->Ma,wpAny_setField_rec->j0,wpAny_truthy_bool->aq,wpAny_typeOf->qf,wpAny_updateSeq_pair->Dw
open PySem.Around renaming frames_deeper->Lg,under->D1,under_plainId->wg
open PySem.AutoSeq1 renaming wpAny_loadPart'->KW
open PySem.Builtin.Dict renaming pairItems->XI,selfAndRest->XB,updateFrom->K1
open PySem.Builtin.Frozenset renaming updateFrom->Xm
open PySem.Builtin.List renaming listTooLong->wa
open PySem.Builtin.Range renaming rangeSize->XF
open PySem.Builtin.Slice renaming sliceAdjust->Dc,sliceApplied->KM,sliceFields->Xu,slicePartIndex->Xk,slicePlaces->v6
open PySem.Builtin.SmallTypes renaming nextOf->yR,ownedTupleHandOut->KI,ownedTupleIsFree->v3
open PySem.Builtin.Str renaming occurrences->Dl,partsBetween->KS,strKind->Lo,strSliceIndices->jw,subAt->XH,tooLong->Ll
open PySem.Builtin.Tuple renaming tupleExact->jx,tupleIsExact->Xo,tupleItemsOf->KN,tupleTooMany->KO
open PySem.Calls renaming Name_function_global->KL,callWith_builtin->K4,evalArgs_plain->Lh,spliced_cons->pq,spliced_nil->DC
open PySem.Challenge renaming pw_joinmill_k12_whole_fit_sets->vy,rw_joinmill_k12_whole_fit_sets->jv
open PySem.Code renaming frames->My,isFrame->D2
open PySem.Data renaming cell->qm,fields->D6,seq->Ew
open PySem.Env renaming kindOf->MH
open PySem.EqMixed renaming ne_bool_str->Xs,ne_int_str->Xy,ne_str_bool->Xt,ne_str_int->XA
open PySem.EqNone renaming ne_bool_none->Xr,ne_int_none->Xx,ne_none_bool->Xq,ne_none_int->Xv,ne_none_none->Xp,ne_none_str->Xw,ne_str_none->Xz
open PySem.F renaming args_list_add_2->K0,args_str_split_2->Dg,args_tuple_add_2->De,entry_list_add->K5,entry_str_split->Dk,entry_tuple_add->Di,plainAttrs_list->Dm,slot_dict_pop->K8,slot_list_add->La,slot_list_append->Dq,slot_str_split->pi,slot_tuple_add->Do,type_list_append->KU,type_str_split->K6
open PySem.Heap renaming ExtBut->MB,IsList->xm,IsTuple->xh,SameBut->yU,get?_push_of_some->fC,get?_push_size->lA,lt_size->fU,size_push->vX
open PySem.Heap.DictOf renaming new->LU
open PySem.Heap.IsList renaming push->DK
open PySem.Heap.IsSliceOf renaming new->XU
open PySem.Heap.IsTuple renaming push->DF
open PySem.Heap.SameBut renaming refl->XX,update->Lp
open PySem.NameKind renaming cell->xf,free->qS
open PySem.NumText renaming AllDigits->XG
open PySem.Obj renaming data_mapFields->Lw,mapSeq->Eg
open PySem.Paired renaming length->gq,snoc->Mz
open PySem.PassesOwn renaming never->LZ
open PySem.SeqAt renaming EqAt->g9,RcAt->Ey
open PySem.SeqAt.RcNeAt renaming tuples->XT
open PySem.Shared renaming heap->cn
open PySem.Str renaming length->Ed,ofString->yV
open PySem.StrLaws renaming glued_eq_join->KJ,join_split->XD,split_free->XC
open PySem.Txt renaming join->km,mul->DU,split->wC,startswith->w5
open PySem.Value renaming bool->Ea,bytes->Mw,float->Mx,int->ie,isInt->Mv,isStrOf->Mi,none->xD,ref->jT,str->ke,type->cq
open PySem.W renaming CodeHd->yf,Frag->cD,OpenLaw->qw,SharedT->qx,alongIn->Eo,boot_drawn->D9,boot_heap->vZ,boot_toks->Ei,callWith_K->qd,cellsFrom_some->LI,clsGoodW->yc,clsIn->rh,clsSeenW->x8,codeIn->aG,emptyDict->aB,envX->kq,findIn->pD,fnOf->iz,hasDictIn->gx,instIn->EA,instObj->cu,isFn->aL,keepIn->lY,kia_one->ig,kitCls->qv,kitOne->wD,kla_obj->kg,lookIn->ye,looseW->qY,makesIn->qq,methodCall_KW->LS,methodObj->D5,mg_of->pR,nsIn->lC,openEnds->yd,openGood->kj,openSeen->ki,ownIn->EB,plainGet->g7,plainGet_of->DR,plainOver->qh,specialIn->xk,subIn->rf,tabObj->aH,takerIn->Ek,topFrom->qy,topRun->yi,typeIn->kl,wideGood->yb,wideSeen->x6
open PySem.W.WData renaming int->MJ
open PySem.W.WShape renaming has->MD
open PySem.Walks renaming list->MG
open PySem.Within renaming cons->XV
open Sum renaming inl->iq,inr->c0
open ToString renaming toString->qt
open True renaming intro->xF
open _root_ renaming Array->fQ,Bool->bU,DecidableEq->xj,False->jF,Int->bG,List->bA,Nat->bD,Option->bQ,String->lB,True->wE,Unit->aN,absurd->dD,beq_eq_false_iff_ne->lE,beq_iff_eq->qW,beq_self_eq_true->vW,congrArg->kT,decide_eq_decide->LQ,decide_eq_false->jD,decide_eq_true->mQ,if_false->cy,if_neg->dH,if_pos->cK,if_true->qX,of_decide_eq_true->mJ,or_false->aI,outParam->sT,rfl->bO
theorem cI{p:Prop}(h:p:=by lia):p:=h
theorem tY{p:Prop}(h:p:=by decide+kernel):p:=h
theorem nQ{p:Prop}(h:p:=by kernel_rfl):p:=h
theorem kX{p:Prop}(h:p):p:=h
theorem cO{p:Prop}(h:p:=by simp):p:=h
theorem jB{p:Prop}(h:p:=by decide):p:=h
section
set_option Elab.async false
namespace Jm
open PySem PySem.W PyProof.Rows
set_option maxRecDepth 100000
set_option maxHeartbeats 0
local macro_rules| `(tactic|o_head $H)=> `(tactic|assumption)
theorem pre(h:jv.row.Holds):jv.row.Holds:=by k_head
abbrev rr:=jv.row
noncomputable def vw:fM:={vy with main:={vy.main with body:=((((((vy.main.body.eraseIdx 83).eraseIdx 72).eraseIdx 54).eraseIdx 50).eraseIdx 35).eraseIdx 0)}}
noncomputable def lv:bA (Str×WData):=[]
noncomputable def ad:bA bI:=[2,3,15,16,17,18,19,20,21,22,23,24,25,26,27,28,29,30,32,33,35,36,37,39,40,42,43,44,47,48,49,51,52,54,55,56,58,59,61,62,63,65,66,68,69,70,72,73,75,76,77,79,80,82,83,84,86,87,89,90,91,93,94,96,97,98,100,101,103,104,105,107,108,110,111,112,114,115,117,118,119,122,123,124,126,127,129,130,131,133,134,136,137,138,141,142,143,145,146,148,149,150,152,153,155,156,157,159,160,162,163,164,165,167,168,170,171,172,174,175,177,178,179,181,182,184,185,186,188,189,191,192,193,195,196,198,199,200,202,203,205,206,207,209,210,212,213,214,216,217,219,220,221,223,224,226,227,228,230,231,233,234,235,237,238,240,241,242,244,245,247,248,249,251,252,254,255,256,263,264,265,266,269,276,277,278,281,288,289,290,300,302,303,305,306,307,309,310,312,313,314,316,317,319,320,321,323,324,326,327,328,330,331,333,334,335,336,337,338,339,342,344,345,347,348,349,351,352,354,355,356,358,359,361,362,363,365,366,368,369,370,372,373,375,376,377,379,380,382,383,384,386,387,389,390,391,393,394,396,397,398,400,401,403,404,405,407,408,410,411,412,414,415,417,418,419,421,422,424,425,426,429,430,431,433,434,436,437,438,440,441,443,444,445,448,449,450,452,453,455,456,457,459,460,462,463,464,466,467,469,470,471,473,474,476,477,478,480,481,483,484,485,487,488,490,491,492,494,495,497,498,499,501,502,504,505,506,508,509,511,512,513,515,516,518,519,520,522,523,525,526,527,529,530,532,533,534,536,537,539,540,541,543,544,546,547,548,550,551,553,554,555,558,559,560,563,564,565,567,568,570,571,572,575,576,577,579,580,582,583,584,587,588,589,592,593,594,597,598,599,602,603,604,607,608,609,611,612,614,615]
abbrev xt(s:bS):bU:=xlAt vw lv s&&recOk rr.records s
abbrev mX:Hook:=kmHook pre.heap_1 ad (λ_=>nQ) [92,106]
noncomputable def yv:Code->pE Fin:=Fast.tw11892475500146522536 Fast.tw14364793385576792824
theorem MK:yv=denote tT:=by unfold yv;rw[<-Fast.te14364793385576792824, <-Fast.te11892475500146522536]
def rl(p:fM)(w:cF)(n₀:bD)(ann:bQ bJ):bD->qx->Thread->bQ qx
 |0,_,_=>none|n+1,s,t=>match through t with
  |true=>some s|false=>match Fast.tw6613529449190102663 n₀ ann t with
   |false=>none|true=>match Fast.tw10156331382660048174 yv p w s t with|some (s',t')=>rl p w n₀ ann n s' t'|none=>none
theorem EC{p:fM}{w:cF}{n₀:bD}{ann:bQ bJ}:∀{n:bD} {s s':qx} {t:Thread},rl p w n₀ ann n s t=some s'->yi tT p w n₀ ann n s.abs t=some s'.abs
 |0,_,_,_,h=>by cases h|n+1,s,s',t,h=>by
  unfold rl at h;rw[<-Fast.te6613529449190102663, <-Fast.te10156331382660048174,MK]at h;unfold yi;cases he:through t with
  |true=>rw[he]at h;cases h;rfl|false=>
   rw[he]at h;cases mX:stepOk n₀ ann t with
   |false=>rw[mX]at h;cases h|true=>
    rw[mX]at h;cases hs:stepT (denote tT) p w s t with
    |none=>rw[hs]at h;cases h|some r=>obtain⟨s₂,t₂⟩:=r;rw[hs]at h;rw[stepT_spec hs];exact EC h
noncomputable def ED:bA cQ->bD->BT->BT| [],_,t=>t|o::l,i,t=>ED l (i+1) (t.ins i o)
def T0(P:aK):BT:=ED (vZ P).objs.toList 0 .nil
theorem n0(P:aK):(vZ P).objs.size=11:=nQ
noncomputable def an(P:aK):bQ bJ:=(vZ P).nsMap gM "__annotations__"
theorem MM(P:aK):absHeap (T0 P) 11 (vZ P).life=vZ P:=nQ
def fO(w:cF)(os:tU):bQ qx:=rl rr.prog w 11 (an w.params) 7430 ⟨T0 w.params,11,(vZ w.params).life, #[],D9,Ei,os⟩ (topStub rr.prog)
noncomputable abbrev LO:bA Str:=["STATEMENT_FORMS"]
noncomputable abbrev md:bA Str:=wt rr.prog.main.body
theorem MP:∀w:cF,(fencedOpening tT rr.prog w 7430).map (λs=>(s.heap,s.gens,s.drawn,s.toks))=bB (vZ w.params,Ep [],D9,Ei):=boot_open nQ nQ (λs=>nQ)
theorem MQ(P:aK):((vZ P).isNs gM&&(#[]:fQ qr).size==0)=bC:=nQ
def yZ(P:aK)(s:bS):bU:=staticsOk md (vZ P) s.heap&&namesBound rr.prog s.heap&&gensDone s&&laidKept (vZ P) s.heap
theorem MR{p:fM}{w:cF}{N:bD}{s₀ s₁:bS}(a:(s₀.heap.isNs gM&&s₀.gens.size==0)=bC)(r:yi tT p w s₀.heap.objs.size (s₀.heap.nsMap gM "__annotations__") N s₀ (topStub p)=bB s₁)
 (b:(staticsOk (wt p.main.body) s₀.heap s₁.heap&&namesBound p s₁.heap&&gensDone s₁&&laidKept s₀.heap s₁.heap)=bC):qy tT p w N s₀=bB s₁:=by
 unfold qy;rw[a];dsimp only;rw[r];dsimp only[Option.bind];rw[b]
theorem MU{q:fM}{l m:bA Str}{X:bS->bU}{s:bS}(b:seen ((c9 q).map (·.name)) (yj q) [] {s with gens:= #[]}=xo q)(bl:s.heap.bltView=xb)
 (c:(s.heap.keysOk (qY q l) ((c9 q).map (·.name)) ((yk q).map (·.1)) ((ym q (qY q l)).map (·.name))&&s.heap.accountedOkI m&&s.heap.isNs gM&&s.heap.isNs xB&&x4 q s.heap&&X s&&(if bC then s.gens.size==0 else !wv s.gens))=bC)
 (e:yn q s=bC) (d:(x5 q (cz q) s,xp q (qY q l) s,xq q l s,x6 q s,x8 q l s)=(ya (cz q),xu q (qY q l),xv q l,yb q,yc q l)):ki q l m X bC s=kj q l:=
 ij b (ij bl (ij c (ij e d)))
theorem MV{p q:fM}{l:bA Str}{X:bS->bU}{α:Type}{f:bS->α}{y:α}{w:cF}{N:bD}{s₁:tU->bS}{h:cB}{d:Drawn}{k:bD}
 (o:(fencedOpening tT p w N).map (λs=>(s.heap,s.gens,s.drawn,s.toks))=bB (h,Ep [],d,k)) (r:∀os,qy tT p w N ⟨h, #[],d,k,os⟩=bB (s₁ os))
 (a:∀os,ki q l (wt p.main.body) X bC (s₁ os)=kj q l) (b:∀os,f (s₁ os)=y):(yd tT p w N).map (λs=>(ki q l (wt p.main.body) X bC s,f s))=bB (kj q l,y):=by
 obtain⟨⟨h',gs,d',k',os⟩,e,e'⟩:=K2.mp o;obtain⟨rfl,rfl,rfl,rfl⟩:h'=h/\gs=Ep []/\d'=d/\k'=k:=by have a1:=kT (·.1) e';have a2:=kT (·.2.1) e';have a3:=kT (·.2.2.1) e';have a4:=kT (·.2.2.2) e';exact⟨a1,a2,a3,a4⟩
 unfold yd;rw[e];show(qy tT p w N _).map _=_;rw[r os];exact kT bB (ij (a os) (b os))
theorem MW{w:cF}{os:tU}{s:qx}(h:fO w os=bB s)(b:yZ w.params s.abs=bC):qy tT rr.prog w 7430 ⟨vZ w.params, #[],D9,Ei,os⟩=bB s.abs:=by have r:=EC h;unfold SharedT.abs at r;dsimp only at r;rw[MM]at r;refine MR (MQ _) ?_ b;show yi _ _ _ (vZ w.params).objs.size _ _ _ _=_;rw[n0];exact r
theorem EF{w:cF}(a:∀os,(fO w os).map (λs=>(yZ w.params s.abs,s.abs.heap.bltView,mX.obs s.abs))=some (bC,xb,mX.val w))
 (b:∀os,(fO w os).map (λs=>seen ((c9 vw).map (·.name)) (yj vw) [] {s.abs with gens:= #[]})=some (xo vw))
 (c:∀os,(fO w os).map (λs=>s.abs.heap.keysOk (qY vw LO) ((c9 vw).map (·.name)) ((yk vw).map (·.1)) ((ym vw (qY vw LO)).map (·.name))&&s.abs.heap.accountedOkI md&&s.abs.heap.isNs gM&&s.abs.heap.isNs xB&&x4 vw s.abs.heap&&xt s.abs&&(if bC then s.abs.gens.size==0 else !wv s.abs.gens))=some bC)
 (e:∀os,(fO w os).map (λs=>yn vw s.abs)=some bC)
 (d:∀os,(fO w os).map (λs=>(x5 vw (cz vw) s.abs,xp vw (qY vw LO) s.abs,xq vw LO s.abs,x6 vw s.abs,x8 vw LO s.abs))=some (ya (cz vw),xu vw (qY vw LO),xv vw LO,yb vw,yc vw LO)):
 (yd tT rr.prog w 7430).map (λs=>(ki vw LO md xt bC s,mX.obs s))=some (kj vw LO,mX.val w):=by
 have z:∀os,∃s,fO w os=some s/\yZ w.params s.abs=bC/\ki vw LO md xt bC s.abs=kj vw LO/\mX.obs s.abs=mX.val w:=λos=>by
  have a:=a os;have b:=b os;have c:=c os;have d:=d os;have e:=e os;cases h:fO w os with
  |none=>rw[h]at a;cases a|some s=>rw[h]at a b c d e;have a:=jJ a;exact⟨s,rfl,kT Prod.fst a,MU (jJ b) (kT (λx=>x.2.1) a) (jJ c) (jJ e) (jJ d),kT (λx=>x.2.2) a⟩
 exact MV (s₁:=λos=>(z os).choose.abs) (MP w) (λos=>MW (z os).choose_spec.1 (z os).choose_spec.2.1) (λos=>(z os).choose_spec.2.2.1) λos=>(z os).choose_spec.2.2.2
noncomputable abbrev w0(w:cF):cF:=w.withFollow "special-get-raises" bH
noncomputable abbrev w1(w:cF):cF:=w.withFollow "special-get-raises" bC
theorem MY(w:cF)(os:tU):(fO (w0 w) os).map (λs=>(yZ (w0 w).params s.abs,s.abs.heap.bltView,mX.obs s.abs))=bB (bC,xb,mX.val (w0 w)):=nQ
theorem MZ(w:cF)(os:tU):(fO (w0 w) os).map (λs=>seen ((c9 vw).map (·.name)) (yj vw) [] {s.abs with gens:= #[]})=bB (xo vw):=nQ
theorem M0(w:cF)(os:tU):(fO (w0 w) os).map (λs=>s.abs.heap.keysOk (qY vw LO) ((c9 vw).map (·.name)) ((yk vw).map (·.1)) ((ym vw (qY vw LO)).map (·.name))&&s.abs.heap.accountedOkI md&&s.abs.heap.isNs gM&&s.abs.heap.isNs xB&&x4 vw s.abs.heap&&xt s.abs&&(if bC then s.abs.gens.size==0 else !wv s.abs.gens))=bB bC:=nQ
theorem M3(w:cF)(os:tU):(fO (w0 w) os).map (λs=>yn vw s.abs)=bB bC:=nQ
theorem M4(w:cF)(os:tU):(fO (w0 w) os).map (λs=>(x5 vw (cz vw) s.abs,xp vw (qY vw LO) s.abs,xq vw LO s.abs,x6 vw s.abs,x8 vw LO s.abs))=bB (ya (cz vw),xu vw (qY vw LO),xv vw LO,yb vw,yc vw LO):=nQ
theorem M5(w:cF)(os:tU):(fO (w1 w) os).map (λs=>(yZ (w1 w).params s.abs,s.abs.heap.bltView,mX.obs s.abs))=bB (bC,xb,mX.val (w1 w)):=nQ
theorem M6(w:cF)(os:tU):(fO (w1 w) os).map (λs=>seen ((c9 vw).map (·.name)) (yj vw) [] {s.abs with gens:= #[]})=bB (xo vw):=nQ
theorem M7(w:cF)(os:tU):(fO (w1 w) os).map (λs=>s.abs.heap.keysOk (qY vw LO) ((c9 vw).map (·.name)) ((yk vw).map (·.1)) ((ym vw (qY vw LO)).map (·.name))&&s.abs.heap.accountedOkI md&&s.abs.heap.isNs gM&&s.abs.heap.isNs xB&&x4 vw s.abs.heap&&xt s.abs&&(if bC then s.abs.gens.size==0 else !wv s.abs.gens))=bB bC:=nQ
theorem M8(w:cF)(os:tU):(fO (w1 w) os).map (λs=>yn vw s.abs)=bB bC:=nQ
theorem M9(w:cF)(os:tU):(fO (w1 w) os).map (λs=>(x5 vw (cz vw) s.abs,xp vw (qY vw LO) s.abs,xq vw LO s.abs,x6 vw s.abs,x8 vw LO s.abs))=bB (ya (cz vw),xu vw (qY vw LO),xv vw LO,yb vw,yc vw LO):=nQ
theorem Na:jv.row.wellSaid=bC:=nQ
theorem wsHd:jv.wellSaid=bC:=by unfold OpenLaw.wellSaid;rw[Na];kernel_rfl
theorem le:LeftO rr.prog vw LO xt mX.obs mX.val 7430:=λw=>byRow2 "special-get-raises" (P:=λw=>(yd tT rr.prog w 7430).map (λs=>(ki vw LO md xt bC s,mX.obs s))=bB (kj vw LO,mX.val w)) (λw=>EF (MY w) (MZ w) (M0 w) (M3 w) (M4 w)) (λw=>EF (M5 w) (M6 w) (M7 w) (M8 w) (M9 w)) w
theorem hdHd{d:DefRec}{kwd:bA (Str×Expr)}(a:defOf vw rr.name=bB (d,kwd))(b:rr.prog.theDef rr.name=bB (d.params,d.body,d.scope))
 (c:kwWritten? d.params.kwonlyargs d.params.kw_defaults=bB kwd) (e:(!rr.writes||List.isEmpty rr.records)=bC) (f:rr.wellSaid=bC)
 (g:(chainsOk vw&&opensWell rr.prog&&(frees rr.toRowW&&rr.within.isEmpty))=bC) (B:rr.prog.bare)
 (hw:rr.promised) (hc:WalkO vw LO (XL vw lv) mX.says rr.toRowW d kwd λf vs=>call f vs):rr.Holds:=
 holds_open le (Hook.of mX) (Hook.keeps mX) (λs z=>xl_of s (Le.mp z).1) XL.keeps a b c (λs z=>recFacts_of (Le.mp z).2) e f g B hw hc
end Jm
end
namespace L2
open PySem PySem.Spec PyProof.Rows
noncomputable abbrev dO:=Sum bG Str
noncomputable def iA:dO->bJ->bU| .inl k,v=>Mv k v| .inr x,v=>Mi x v
noncomputable def Nc(w:cF):dO->bG| .inl k=>hashInt k| .inr x=>ra w x
def zF:∀{k:dO} {v:bJ},iA k v=bC->(∃i t,k=iq i/\v=ie i t)\/(∃x t,k=c0 x/\v=ke x t)| .inl i,v,h=>by obtain⟨t,e⟩:=Value.isInt_shape (k:=i) (v:=v) h;exact .inl ⟨i,t,rfl,e⟩| .inr x,v,h=>by obtain⟨t,e⟩:=Value.isStrOf_shape (x:=x) (v:=v) h;exact .inr ⟨x,t,rfl,e⟩
def Nd(i:bG)(t:lG):iA (.inl i) (.int i t)=bC:=by simp[iA,Mv]
def Nf(x:Str)(t:lG):iA (.inr x) (.str x t)=bC:=by simp[iA,Mi]
def Ng(a b:bG):cN ((iq a:dO)=iq b)=(a==b):=by
 by_cases e:a=b
 .subst e;simp
 .have h: ¬ (iq a:dO)=iq b:=λq=>e (Sum.inl.inj q)
  rw[jD h];exact(lE.mpr e).symm
def Nh(a b:Str):cN ((c0 a:dO)=c0 b)=cN (a=b):=by
 by_cases e:a=b
 .subst e;simp
 .have h: ¬ (c0 a:dO)=c0 b:=λq=>e (Sum.inr.inj q)
  rw[jD h,jD e]
def Ni(a:bG)(b:Str):cN ((iq a:dO)=c0 b)=bH:=jD (λq=>nomatch q)
def Nj(a:Str)(b:bG):cN ((c0 a:dO)=iq b)=bH:=jD (λq=>nomatch q)
def jX(prog:fM)(w:cF):PySem.KeyKind prog w dO where
 is:=iA
 hash:=Nc w
 inj:=λv a b ha hb=>by
  rcases zF ha with⟨i,t,rfl,rfl⟩|⟨x,t,rfl,rfl⟩
  .rcases zF hb with⟨j,u,rfl,e⟩|⟨y,u,rfl,e⟩
   .injection e with e1 _;rw[e1]
   .exact nomatch e
  .rcases zF hb with⟨j,u,rfl,e⟩|⟨y,u,rfl,e⟩
   .exact nomatch e
   .injection e with e1 _;rw[e1]
 byValue:=λk v h=>by rcases zF h with⟨i,t,rfl,rfl⟩|⟨x,t,rfl,rfl⟩<;>rfl
 pyHash:=λhv h=>by
  rcases zF hv with⟨i,t,rfl,rfl⟩|⟨x,t,rfl,rfl⟩
  .exact wpAny_pyHash_int h
  .exact wpAny_pyHash_str h
 eqBool:=λhu hv h=>by
  rcases zF hu with⟨i,t,rfl,rfl⟩|⟨x,t,rfl,rfl⟩
  .rcases zF hv with⟨j,u,rfl,rfl⟩|⟨y,u,rfl,rfl⟩
   .rw[Ng]at h;exact wpAny_eqBool_int h
   .rw[Ni]at h;exact SeqAt.EqAt.int_str i t y u _ _ _ _ h
  .rcases zF hv with⟨j,u,rfl,rfl⟩|⟨y,u,rfl,rfl⟩
   .rw[Nj]at h;exact SeqAt.EqAt.str_int x t j u _ _ _ _ h
   .rw[Nh]at h;exact wpAny_eqBool_str h
 «strs» :=λk x t v h=>by
  rcases zF h with⟨i,u,rfl,e⟩|⟨y,u,rfl,e⟩
  .exact nomatch e
  .injection e with e1 _;subst e1;cases v<;>rfl
def Nk(prog:fM)(w:cF)(i:bG)(t:lG):(jX prog w).is (.inl i) (.int i t)=bC:=Nd i t
def dh(prog:fM)(w:cF)(x:Str)(t:lG):(jX prog w).is (.inr x) (.str x t)=bC:=Nf x t
inductive V where
 |n|b (b:bU)|int (i:bG)|str (x:Str)|byt (b:fQ UInt8)|flt (b:UInt64)|ref (a:bI)|ty (n:lB)
 deriving xj
noncomputable def cX:V->bJ->Prop| .n,u=>u=xD| .b b,u=>u=Ea b| .int i,u=>∃t,u=ie i t| .str x,u=>∃t,u=ke x t| .byt b,u=>∃t,u=Mw b t| .flt b,u=>∃t,u=Mx b t| .ref a,u=>u=jT a| .ty n,u=>u=cq n
abbrev cW:bA V->bA bJ->Prop:=kD cX
def cW.length{xs:bA V}{us:bA bJ}(r:cW xs us):xs.length=us.length:=gq r
theorem cW.get:∀{xs:bA V} {us:bA bJ} {i:bD} {x:V},cW xs us->xs[i]? =bB x->∃u,us[i]? =bB u/\cX x u|_,_,_,_,.nil,e=>by simp at e|_,_,0,_,.cons r _,e=>by simp at e;subst e;exact⟨_,rfl,r⟩|_,_,i+1,x,.cons _ t,e=>by obtain⟨u,h1,h2⟩:=cW.get (i:=i) (x:=x) t (by simpa using e);exact⟨u,by simpa using h1,h2⟩
theorem cW.append:∀{xs ys:bA V} {us ws:bA bJ},cW xs us->cW ys ws->cW (xs++ys) (us++ws)|_,_,_,_,.nil,s=>s|_,_,_,_,.cons r t,s=>.cons r (cW.append t s)
theorem cW.take:∀{xs:bA V} {us:bA bJ} (n:bD),cW xs us->cW (xs.take n) (us.take n)|_,_,0,_=>.nil|_,_,_+1,.nil=>.nil|_,_,n+1,.cons r t=>.cons r (cW.take n t)
theorem cW.drop:∀{xs:bA V} {us:bA bJ} (n:bD),cW xs us->cW (xs.drop n) (us.drop n)|_,_,0,r=>r|_,_,_+1,.nil=>.nil|_,_,n+1,.cons _ t=>cW.drop n t
def cW.none_of:∀{xs:bA V} {us:bA bJ} {i:bD},cW xs us->xs[i]? =bK->us[i]? =bK:=λ{xs us i} r e=>by have h1:=r.length;have h2:xs.length<=i:=KP.mp e;exact KP.mpr cI
noncomputable def RelO:bQ V->bQ bJ->Prop|some v,some u=>cX v u|none,none=>wE|_,_=>jF
def KV{κ:Type}:bA (κ×V)->bA (κ×bJ)->Prop:=kD λ(p:κ×V) (q:κ×bJ)=>p.1=q.1/\cX p.2 q.2
noncomputable def kV:dO->V| .inl i=>.int i| .inr x=>.str x
inductive HO where
 |l (xs:bA V)
 |t (xs:bA V)
 |dK (kvs:bA (dO×V))|dT (kvs:bA (bA dO×V))
 |set (S:bG->bU) (n:bD)
 |ins (C dx:bI) (fs:bA (Str×V))
 |own (x:bI)
 |xd (fs:bA (Str×V))
 |met (f x:bI)
 |rng (lo hi:bG)
 |frz (o:cQ) (u:HO)
 |tbl (ps:fQ bJ)
 |ext (φ:cB->Prop)
noncomputable abbrev Hp:=bI->bQ HO
noncomputable def upd(H:Hp)(a:bI)(o:HO):Hp:=λb=>if b=a then bB o else H b
def gY{H:Hp}{a:bI}{o:HO}:upd H a o a=bB o:=by unfold upd;rw[cK bO]
def fH{H:Hp}{a b:bI}{o:HO}(h:b≠a):upd H a o b=H b:=by unfold upd;rw[dH h]
def Nl{H:Hp}{a:bI}{o u:HO}:upd (upd H a o) a u=upd H a u:=by funext b;unfold upd;split<;>rfl
def yw{H:Hp}{a b:bI}{o u:HO}(h:H a=bB o)(h':H b=bB u)(d:o≠u):a≠b:=by intro e;subst e;rw[h]at h';exact d (jJ h')
def sU{H:Hp}{a b:bI}{o:HO}(h:H a=bB o)(h':H b=bK):a≠b:=by intro e;subst e;rw[h]at h';cases h'
section
variable(P:fM)(w:cF)
def tZ(h:cB)(a:bI)(items:fQ bJ):Prop:=∃o,h.get? a=bB o/\(o.cls= .type "tuple" /\o.dict=bK)/\ ∃n,o.data= .seq items n
def tZ.t{h:cB}{a:bI}{items:fQ bJ}(x:tZ h a items):da h a items:=let ⟨o,e,c,n⟩:=x;⟨o,e,c.1,n⟩
def tZ.lt{h:cB}{a:bI}{items:fQ bJ}(x:tZ h a items):a<h.objs.size:=x.t.lt
def tZ.new(h:cB)(items:fQ bJ):tZ (h.push {cls:=.type "tuple",data:=.seq items}) h.objs.size items:=⟨_,lA _ bO,⟨rfl,rfl⟩,_,rfl⟩
def lZ(H:Hp)(h:cB)(a:bI):HO->Prop
 | .l xs=>xs.length<=cJ/\ ∃(its:bA bJ) (n:bD),cW xs its/\h.get? a=bB {cls:=.type "list",data:=.seq its.toArray n}| .t xs=>xs.length<=cJ/\ ∃its:bA bJ,cW xs its/\tZ h a its.toArray| .dK kvs=>kvs.length<=cJ/\(a==qU)=bH/\ ∃vs,KV kvs vs/\h.DictOf (jX P w) a vs| .dT kvs=>kvs.length<=cJ/\(a==qU)=bH/\ ∃xs:bA (bA dO×bI×bJ),
  kD (λ(p:bA dO×V) (q:bA dO×bI×bJ)=>p.1=q.1/\H q.2.1=bB (.t (p.1.map kV))/\cX p.2 q.2.2) kvs xs/\
  ∃o es ep,h.get? a=bB o/\o.ExactDict/\o.data= .dict es ep/\es.toList=xs.map (entryOfKey (qk (jX P w)))/\(xs.map (·.1)).Nodup
 | .set S n=>h.SetOf (intKind P w) a S n| .ins C dx fs=>H dx=bB (.own a)/\fs.length<=1000/\dx≠a/\h.get? a=bB (cu C dx)/\
  ∃mA,h.Ns1 dx mA/\(∀f,RelO (fs.lookup f) (mA f))/\D0 mA (fs.map (·.1))
 | .own _=>∃o,h.get? a=bB o| .xd fs=>∃mA,h.Ns1 a mA/\ ∀f,RelO (fs.lookup f) (mA f)| .rng lo hi=>∃t u v,h.get? a=bB {cls:=.type "range",data:=.fields #[.int lo t,.int hi u,.int 1 v]}| .frz o u=>h.get? a=bB o/\lZ H h a u| .tbl ps=>h.get? a=bB {cls:=.none,data:=.fields ps}| .met f x=>h.get? a=bB (D5 (.ref f) (.ref x))| .ext φ=>φ h/\(∃o,h.get? a=bB o)/\ ∀h1 h2:cB,φ h1->(∀o,h1.get? a=bB o->h2.get? a=bB o)->φ h2
def jM(H:Hp)(h:cB):Prop:=∀a o,H a=bB o->lZ P w H h a o
end
section
variable{P:fM}{w:cF}{H H':Hp}{h h':cB}{a:bI}{o:HO}
def lZ.lt(x:lZ P w H h a o):a<h.objs.size:=by
 cases o with
 |l xs=>obtain⟨_,_,_,_,e⟩:=x;exact fU e|t xs=>obtain⟨_,_,_,p⟩:=x;exact p.lt|dK kvs=>obtain⟨_,_,_,_,o,_,_,e,_⟩:=x;exact fU e|dT kvs=>obtain⟨_,_,_,_,o,_,_,e,_⟩:=x;exact fU e|set S n=>obtain⟨o,_,_,_,e,_⟩:=x;exact fU e|ins C dx fs=>obtain⟨_,_,_,e,_⟩:=x;exact fU e|own y=>obtain⟨_,e⟩:=x;exact fU e|xd fs=>obtain⟨_,⟨_,_,_,e,_⟩,_⟩:=x;exact fU e|rng lo hi=>obtain⟨_,_,_,e⟩:=x;exact fU e|frz ob u=>obtain⟨e,_⟩:=x;exact fU e|tbl ps=>exact fU (show h.get? a=bB _ from x)|met f y=>exact fU (show h.get? a=bB _ from x)|ext φ=>obtain⟨_,⟨_,e⟩,_⟩:=x;exact fU e
theorem Paired.mapP{α β:Type}{F G:α->β->Prop}:∀{l₁:bA α} {l₂:bA β},kD F l₁ l₂->(∀a b,F a b->G a b)->kD G l₁ l₂|_,_,.nil,_=>.nil|_,_,.cons r t,f=>.cons (f _ _ r) (Paired.mapP t f)
def lZ.stay(x:lZ P w H h a o)(k:∀b u,(b=a\/H b=bB (.own a))->h.get? b=bB u->h'.get? b=bB u)
 (ho:∀b,H b=bB (.own a)->H' b=bB (.own a)) (ht:∀b xs,H b=bB (.t xs)->H' b=bB (.t xs)):lZ P w H' h' a o:=by
 induction o with
 |l xs=>obtain⟨z,its,n,r,e⟩:=x;exact⟨z,its,n,r,k _ _ (.inl bO) e⟩|t xs=>obtain⟨z,its,r,ob,e,c⟩:=x;exact⟨z,its,r,ob,k _ _ (.inl bO) e,c⟩|dK kvs=>obtain⟨z,y,vs,r,ob,es,ep,e,c⟩:=x;exact⟨z,y,vs,r,ob,es,ep,k _ _ (.inl bO) e,c⟩|dT kvs=>obtain⟨z,y,xs,r,ob,es,ep,e,c⟩:=x;exact⟨z,y,xs,Paired.mapP r λp q z=>⟨z.1,ht _ _ z.2.1,z.2.2⟩,ob,es,ep,k _ _ (.inl bO) e,c⟩|set S n=>obtain⟨ob,es,ep,t,e,c⟩:=x;exact⟨ob,es,ep,t,k _ _ (.inl bO) e,c⟩|ins C dx fs=>obtain⟨d,z,ne,e,mA,⟨od,es,ep,e2,c⟩,r⟩:=x;exact⟨ho _ d,z,ne,k _ _ (.inl bO) e,mA,⟨od,es,ep,k _ _ (.inr d) e2,c⟩,r⟩|own y=>obtain⟨ob,e⟩:=x;exact⟨ob,k _ _ (.inl bO) e⟩|xd fs=>obtain⟨mA,⟨od,es,ep,e,c⟩,r⟩:=x;exact⟨mA,⟨od,es,ep,k _ _ (.inl bO) e,c⟩,r⟩|rng lo hi=>obtain⟨t,u,v,e⟩:=x;exact⟨t,u,v,k _ _ (.inl bO) e⟩|frz ob u ih=>obtain⟨e,q⟩:=x;exact⟨k _ _ (.inl bO) e,ih q⟩|tbl ps=>have e:h.get? a=bB {cls:=.none,data:=.fields ps}:=x;show h'.get? a=bB {cls:=.none,data:=.fields ps};exact k a _ (.inl bO) e|met f y=>have e:h.get? a=bB (D5 (.ref f) (.ref y)):=x;show h'.get? a=bB (D5 (.ref f) (.ref y));exact k a _ (.inl bO) e|ext φ=>obtain⟨p,⟨o,e⟩,st⟩:=x;exact⟨st _ _ p λo q=>k _ _ (.inl bO) q,⟨o,k _ _ (.inl bO) e⟩,st⟩
def jM.lt(x:jM P w H h)(e:H a=bB o):a<h.objs.size:=(x a o e).lt
def jM.fresh(x:jM P w H h)(e:h.objs.size<=a):H a=none:=by
 cases q:H a with
 |none=>rfl|some u=>exact dD (mI (x.lt q) e) (ci _)
def jM.kept(x:jM P w H h)(k:∀b u,h.get? b=bB u->h'.get? b=bB u):jM P w H h':=λa o e=>
 (x a o e).stay (λb u _ q=>k b u q) (λ_ q=>q) λ_ _ q=>q
def jM.laid(x:jM P w H h)(k:∀b u,h.get? b=bB u->h'.get? b=bB u)(hp:h.objs.size<=a)(new:lZ P w (upd H a o) h' a o):jM P w (upd H a o) h':=λb u e=>by
 have hn:=x.fresh hp;by_cases hb:b=a
 .subst hb;rw[gY]at e;cases e;exact new
 .rw[fH hb]at e;exact(x b u e).stay (λc v _ q=>k c v q) (λc q=>by rw[fH (sU q hn)];exact q) λc xs q=>by rw[fH (sU q hn)];exact q
end
def Rd(H:Hp)(a:bI)(u:HO):Prop:=H a=bB u\/ ∃o,H a=bB (.frz o u)
def Rd.ok{P:fM}{w:cF}{H:Hp}{h:cB}{a:bI}{u:HO}(r:Rd H a u)(x:jM P w H h):lZ P w H h a u:=by
 rcases r with r|⟨o,r⟩
 .exact x a u r
 .obtain⟨_,q⟩:=x a _ r;exact q
noncomputable def kx:bQ HO->Prop|some (.l _)=>wE|some (.dK _)=>wE|some (.dT _)=>wE|some (.set _ _)=>wE|some (.ins _ _ _)=>wE|_=>jF
section
variable{P:fM}{w:cF}{H:Hp}{h h':cB}{x e:bI}{o':HO}
def jM.write(ok:jM P w H h)(mu:kx (H x))(he:e=x\/H e=bB (.own x))(k:∀b u,b≠e->h.get? b=bB u->h'.get? b=bB u)(heo:∃u,h'.get? e=bB u)
 (new:lZ P w (upd H x o') h' x o'):jM P w (upd H x o') h':=λb u q=>by
 have nown:∀c y,H c=bB (.own y)->c≠x:=λc y r z=>by subst z;rw[r]at mu;exact mu
 have ntup:∀c xs,H c=bB (.t xs)->c≠x:=λc xs r z=>by subst z;rw[r]at mu;exact mu
 by_cases hb:b=x
 .subst hb;rw[gY]at q;cases q;exact new
 .rw[fH hb]at q;by_cases hbe:b=e
  .have q':H b=bB (.own x):=by
    rcases he with z|z
    .exact dD (hbe.trans z) hb
    .rw[hbe];exact z
   rw[q]at q';cases q';obtain⟨v,hv⟩:=heo;exact⟨v,by rw[hbe];exact hv⟩
  .refine(ok b u q).stay (λc v hc r=>k c v ?_ r) (λc r=>by rw[fH (nown c b r)];exact r) λc xs r=>by rw[fH (ntup c xs r)];exact r
   rcases hc with rfl|hc
   .exact hbe
   .rintro rfl;rcases he with z|z
    .exact nown c b hc z
    .rw[hc]at z;cases z;exact hb rfl
end
noncomputable def EG:HO->bU| .frz _ _=>bC| .ext _=>bC|_=>bH
structure Un(fs ex:bA bI)(H H':Hp)(h h':cB):Prop where
 keep:∀b o,h.get? b=bB o->H b=bK->b∉fs->b∉ex->h'.get? b=bB o
 slot:∀b o,h.get? b=bB o->H b=bK->b∈fs->b∉ex->∃sl,h'.get? b=bB {o with slots:=sl}
 free:∀b o,h.get? b=bB o->H b=bK->b∉ex->H' b=bK
 there:∀b o,h.get? b=bB o->b∉ex->∃o',h'.get? b=bB o'
 tups:∀b xs,H b=bB (.t xs)->H' b=bB (.t xs)
 frzs:∀b u,EG u=bC->H b=bB u->H' b=bB u
 tbls:∀b ps,H b=bB (.tbl ps)->∃more,H' b=bB (.tbl (ps++more))
section
variable{fs fs' ex ex':bA bI}{H H1 H2:Hp}{h h1 h2 h':cB}{a x e:bI}{o:HO}
def Un.any(u:Un fs ex H H1 h h1){b:bI}{ob:cQ}(q:h.get? b=bB ob)(n:H b=bK)(hx:b∉ex):∃sl,h1.get? b=bB {ob with slots:=sl}:=by
 by_cases hb:b∈fs
 .exact u.slot b ob q n hb hx
 .exact⟨ob.slots,u.keep b ob q n hb hx⟩
def Un.kept(k:∀b u,h.get? b=bB u->h'.get? b=bB u):Un fs ex H H h h':=
 ⟨λb ob q _ _ _=>k b ob q,λb ob q _ _ _=>⟨ob.slots,k b ob q⟩,λ_ _ _ n _=>n,λb ob q _=>⟨ob,k b ob q⟩,λ_ _ q=>q,λ_ _ _ q=>q,λ_ ps q=>⟨#[],by rw[q];simp⟩⟩
def Un.refl:Un fs ex H H h h:=Un.kept λ_ _ q=>q
def Un.laid(k:∀b u,h.get? b=bB u->h'.get? b=bB u)(hp:h.objs.size<=a)(hn:H a=bK):Un fs ex H (upd H a o) h h' where
 keep:=λb u q _ _ _=>k b u q
 slot:=λb u q _ _ _=>⟨u.slots,k b u q⟩
 free:=λb u q n _=>by rw[fH (gX (mI (fU q) hp))];exact n
 there:=λb u q _=>⟨u,k b u q⟩
 tups:=λb xs q=>by rw[fH (sU q hn)];exact q
 frzs:=λb u xs q=>by rw[fH (sU q hn)];exact q
 tbls:=λb ps q=>⟨#[],by rw[fH (sU q hn),q];simp⟩
def Un.write(mu:kx (H x))(he:e=x\/H e=bB (.own x))(k:∀b u,b≠e->h.get? b=bB u->h'.get? b=bB u)(heo:∃u,h'.get? e=bB u):Un fs ex H (upd H x o) h h':=by
 have hx:∀b,H b=bK->b≠x:=λb n z=>by subst z;rw[n]at mu;exact mu
 have hb:∀b,H b=bK->b≠e:=λb n z=>by
  subst z;rcases he with r|r
  .exact hx b n r
  .rw[n]at r;cases r
 have hm:∀b u,H b=bB u-> ¬ kx (bB u)->b≠x:=λb u q nm z=>by subst z;rw[q]at mu;exact nm mu
 refine⟨λb u q n _ _=>k b u (hb b n) q,λb u q n _ _=>⟨u.slots,k b u (hb b n) q⟩,λb u q n _=>by rw[fH (hx b n)];exact n,λb u q _=>?_,
  λb xs q=>by rw[fH (hm b _ q λz=>z)];exact q,λb u i q=>by rw[fH (hm b _ q λz=>by cases u<;>first|exact z|cases i)];exact q,λb ps q=>⟨#[],by rw[fH (hm b _ q λz=>z),q];simp⟩⟩
 by_cases hbe:b=e
 .subst hbe;exact heo
 .exact⟨u,k b u hbe q⟩
end
noncomputable def ro(h:cB)(H:Hp):bA bI:=(kL h.objs.size).filter λa=>(H a).isSome
def xK(h:cB)(H:Hp):cB:=W.hideAll h (ro h H)
theorem EH(h:cB)(H:Hp):(xK h H).objs.size=h.objs.size:=W.hideAll_size _ _
theorem EI{h:cB}{H:Hp}{b:bI}{o:cQ}(e:h.get? b=bB o)(n:H b=bK):(xK h H).get? b=bB o:=
 W.hideAll_get _ e λhm=>by have q:(H b).isSome=bC:=(pw.mp hm).2;rw[n]at q;simp at q
theorem EJ{h:cB}{H:Hp}{b:bI}{o:cQ}(e:(xK h H).get? b=some o):h.get? b=some o/\H b=none:=by
 have e':h.get? b=some o:=W.of_hideAll (ro h H) e;refine⟨e',?_⟩;cases q:H b with
 |none=>rfl|some x=>have hm:b∈ro h H:=pw.mpr ⟨wZ.mpr (fU e'),by simp[q]⟩;have z:(xK h H).get? b=none:=W.hideAll_none (ro h H) hm;rw[z]at e;cases e
structure Mod(K:cD)(mg:Str->bQ bJ)(base:cB):Prop where
 kin:K.In base
 glob:base.Ns gM mg
 blt:∃mb,base.Ns xB mb/\ ∀x:Str,x≠ "__name__" ->mb x=qT x
 nolimit:base.NoLimit
structure Cx where
 prog:fM
 w:cF
 K:cD
 mg:Str->bQ bJ
 base:cB
 A:gK
 N:bA Str
 s₀:bS
 Ha:Hp
 env:jG
 outer:bA jG
 stack:bA jG
 ex:bA bI
 fn:Str->bU
 calm:bU
 pn:bA (bI×cQ)
 xe:bJ->bS->Prop
noncomputable def qF(l:bA jG):bA bI:=l.filterMap (·.frame)
abbrev Cx.fs(X:Cx):bA bI:=qF X.outer
def yx(sc:kW)(x:Str):Prop:=sc.names.lookup x=bB .local\/sc.names.lookup x=bB .cell\/sc.names.lookup x=bB .free
def Loc(sc:kW)(x:Str):Prop:=sc.names.lookup x=bB .local\/sc.names.lookup x=bB .cell
def Nn(env:jG)(h:cB)(m:Str->bQ bJ)(x:Str)(u:bJ):Prop:=
 (env.kindOf x=bB .local/\m x=bB u)\/((env.kindOf x=bB .cell\/env.kindOf x=bB .free)/\ ∃c,env.cells.lookup x=bB c/\h.IsCell c (bB u))
structure Cx.Ok(X:Cx):Prop where
 mod:Mod X.K X.mg X.base
 kind:X.env.scope.kind= .function
 glob:X.env.globals=gM
 blt:X.env.builtins=xB
 above:X.s₀.heap.objs.size<=X.env.locals
 inj:∀x y c,X.env.cells.lookup x=bB c->X.env.cells.lookup y=bB c->x=y
 has:∀x,(X.env.kindOf x=bB .cell\/X.env.kindOf x=bB .free)->∃c,X.env.cells.lookup x=bB c
 cab:∀x c,X.fn x=bC->X.env.cells.lookup x=bB c->X.s₀.heap.objs.size<=c
 hd:X.calm=bC->X.A.handled=bK
 frames:X.A.frames=bB X.stack
 stk:X.stack=X.outer\/(X.stack=X.env::X.outer/\X.env.frame=bB X.env.locals)
 exf:∀b∈X.ex,b≠X.env.locals/\ ∀x c,X.env.cells.lookup x=bB c->c≠b
 bs:∀b o,X.base.get? b=bB o->X.s₀.heap.get? b=bB o/\X.Ha b=bK
 bsz:X.base.objs.size<=X.s₀.heap.objs.size
 noex:∀b o,X.base.get? b=bB o->b∉X.ex
 exfs:∀b∈X.ex,b∉X.fs
 funs:X.s₀.heap.FunFrames X.base X.outer
 frf:∀b∈X.fs,X.Ha b=bK
structure bR(X:Cx)(pc:bA (bI×cQ))(Y:bA (bQ V))(H:Hp)(s:bS):Prop where
 ok:X.Ok
 os:s.os=X.s₀.os
 bare:aJ s.gens
 base:Un X.fs X.ex X.Ha H X.s₀.heap s.heap
 loc:∃m,s.heap.Ns X.env.locals m/\ ∀(i:bD) (x:Str) (v:V),X.N[i]? =bB x->Y[i]? =bB (bB v)->yx X.env.scope x->∃u,cX v u/\Nn X.env s.heap m x u
 cell:∀x c,X.env.cells.lookup x=bB c->∃v,s.heap.IsCell c v
 free:H X.env.locals=bK
 freeC:∀x c,X.env.cells.lookup x=bB c->H c=bK
 pin:∀p∈X.pn++pc,s.heap.get? p.1=bB p.2/\H p.1=bK/\p.1≠X.env.locals/\p.1∉X.fs/\ ∀v,p.2.data≠ .cell v
 hok:jM X.prog X.w H s.heap
 len:Y.length=X.N.length
section
variable{X:Cx}{pc:bA (bI×cQ)}{Y:bA (bQ V)}{H H':Hp}{s:bS}{h':cB}
def Cx.Ok.nofr(ok:X.Ok){b:bI}{o:cQ}(e:X.base.get? b=bB o):b∉X.fs:=λhb=>by have:=(ok.funs.mem hb).1;rw[e]at this;cases this
def bR.bs(I:bR X pc Y H s):∀b o,X.base.get? b=bB o->s.heap.get? b=bB o/\H b=bK:=λb o e=>
 ⟨I.base.keep b o (I.ok.bs b o e).1 (I.ok.bs b o e).2 (I.ok.nofr e) (I.ok.noex b o e),I.base.free b o (I.ok.bs b o e).1 (I.ok.bs b o e).2 (I.ok.noex b o e)⟩
def bR.bk(I:bR X pc Y H s):∀b o,X.base.get? b=bB o->s.heap.get? b=bB o:=λb o e=>(I.bs b o e).1
def bR.mod(I:bR X pc Y H s):Mod X.K X.mg X.base:=I.ok.mod
def bR.kIn(I:bR X pc Y H s):X.K.In s.heap:=I.ok.mod.kin.keeps I.bk
def bR.nolimit(I:bR X pc Y H s):s.heap.NoLimit:=I.ok.mod.nolimit.keeps I.bk
def bR.lt(I:bR X pc Y H s):X.env.locals<s.heap.objs.size:=let ⟨_,hn,_⟩:=I.loc;hn.lt
def bR.sz(I:bR X pc Y H s):X.s₀.heap.objs.size<=s.heap.objs.size:=jS I.ok.above (qc I.lt)
def bR.nofs(I:bR X pc Y H s){a:bI}(h:s.heap.objs.size<=a):a∉X.fs:=λhb=>by obtain⟨_,o,ho,_⟩:=I.ok.funs.mem hb;exact dD (mI (fU ho) (jS I.sz h)) (ci _)
def bR.cne(I:bR X pc Y H s):∀x c,X.env.cells.lookup x=bB c->c≠X.env.locals:=λx c e z=>by obtain⟨v,o,ho,hd⟩:=I.cell x c e;obtain⟨m,⟨o',es,ep,ho',hd',_⟩,_⟩:=I.loc;rw[z,ho']at ho;cases ho;rw[hd']at hd;cases hd
def bR.funs(I:bR X pc Y H s):s.heap.FunFrames X.base X.outer:=by
 have all:∀(l:bA jG),(∀b∈qF l,b∈X.fs)->X.s₀.heap.FunFrames X.base l->s.heap.FunFrames X.base l:=by
  intro l;induction l with
  |nil=>intro _ _;trivial
  |cons env r ih=>
   intro hs hl;obtain⟨hk,⟨L,o,hf,hn,ho,hd⟩,hr⟩:=hl;have hL:L∈X.fs:=hs L (by unfold qF;rw[Dy,hf];exact fW);obtain⟨sl,e⟩:=I.base.slot L o ho (I.ok.frf L hL) hL λz=>I.ok.exfs L z hL
   exact⟨hk,⟨L,_,hf,hn,e,hd⟩,ih (λb hb=>hs b (by unfold qF;rw[Dy,hf];exact gI _ hb)) hr⟩
 exact all X.outer (λ_ hb=>hb) I.ok.funs
def bR.stack(I:bR X pc Y H s):s.heap.FunFrames X.base X.stack:=by
 rcases I.ok.stk with e|⟨e,hf⟩
 .rw[e];exact I.funs
 .rw[e];obtain⟨m,hn,_⟩:=I.loc;refine .cons (by rw[I.ok.kind];decide) hf hn ?_ I.funs;exact Heap.get?_none_of_le (jS I.ok.bsz I.ok.above)
def bR.stkSub(I:bR X pc Y H s):∀b∈qF X.stack,b∈X.env.locals::X.fs:=λb hb=>by
 rcases I.ok.stk with e|⟨e,hf⟩
 .rw[e]at hb;exact gI _ hb
 .rw[e]at hb;unfold qF at hb;rw[Dy,hf]at hb;exact hb
def bR.stkFree(I:bR X pc Y H s):∀b∈qF X.stack,H b=bK:=λb hb=>by
 rcases kS.mp (I.stkSub b hb)with e|hb
 .rw[e];exact I.free
 .obtain⟨_,o,ho,_⟩:=I.ok.funs.mem hb;exact I.base.free b o ho (I.ok.frf b hb) λz=>I.ok.exfs b z hb
def bR.step{g':fQ qr}{t':bD}{d':Drawn}{ch:bA bI}(I:bR X pc Y H s)
 (hch:∀b∈ch,(b∈X.ex\/X.s₀.heap.objs.size<=b)/\b≠X.env.locals/\(∀x c,X.env.cells.lookup x=bB c->c≠b)/\ ∀p∈X.pn++pc,p.1≠b)
 (keep:∀b o,b≠X.env.locals->b∉X.fs->b∉ch->s.heap.get? b=bB o->H b=bK->h'.get? b=bB o)
 (slot:∀b o,b≠X.env.locals->b∈X.fs->b∉ch->s.heap.get? b=bB o->H b=bK->∃sl,h'.get? b=bB {o with slots:=sl}) (free:∀b o,b∉ch->s.heap.get? b=bB o->H b=bK->H' b=bK)
 (there:∀b o,b∉ch->s.heap.get? b=bB o->∃o',h'.get? b=bB o')
 (tups:∀b xs,H b=bB (.t xs)->H' b=bB (.t xs)) (frzs:∀b u,EG u=bC->H b=bB u->H' b=bB u) (tbls:∀b ps,H b=bB (.tbl ps)->∃more,H' b=bB (.tbl (ps++more)))
 (ns:∀m,s.heap.Ns X.env.locals m->h'.Ns X.env.locals m) (hok:jM X.prog X.w H' h') (hg:aJ g'):
 bR X pc Y H' {s with heap:=h',gens:=g',drawn:=d',toks:=t'}:=by
 have neL:∀b o,X.s₀.heap.get? b=bB o->b≠X.env.locals:=λb o e=>gX (mI (fU e) I.ok.above)
 have neC:∀b o,X.s₀.heap.get? b=bB o->b∉X.ex->b∉ch:=λb o e hx hb=>by
  rcases(hch b hb).1 with z|z
  .exact hx z
  .exact dD (mI (fU e) z) (ci _)
 have cellK:∀x c,X.env.cells.lookup x=bB c->∀v,s.heap.IsCell c v->h'.IsCell c v:=λx c e v qz=>by
  obtain⟨o,ho,hd⟩:=qz;have nch:c∉ch:=λz=>(hch c z).2.2.1 x c e bO
  by_cases hc:c∈X.fs
  .obtain⟨sl,q⟩:=slot c o (I.cne x c e) hc nch ho (I.freeC x c e);exact⟨_,q,hd⟩
  .exact⟨o,keep c o (I.cne x c e) hc nch ho (I.freeC x c e),hd⟩
 refine⟨I.ok,I.os,hg,⟨λb o e n hb hx=>?_,λb o e n hb hx=>?_,λb o e n hx=>?_,λb o e hx=>?_,λb xs e=>tups b xs (I.base.tups b xs e),λb o xs e=>frzs b o xs (I.base.frzs b o xs e),λb ps e=>?_⟩,?_,λx c e=>?_,?_,λx c e=>?_,λp hp=>?_,hok,I.len⟩
 .exact keep b o (neL b o e) hb (neC b o e hx) (I.base.keep b o e n hb hx) (I.base.free b o e n hx)
 .obtain⟨sl,e1⟩:=I.base.slot b o e n hb hx;obtain⟨sl',e2⟩:=slot b _ (neL b o e) hb (neC b o e hx) e1 (I.base.free b o e n hx);exact⟨sl',e2⟩
 .obtain⟨o',e1⟩:=I.base.there b o e hx;exact free b o' (neC b o e hx) e1 (I.base.free b o e n hx)
 .obtain⟨o',e1⟩:=I.base.there b o e hx;exact there b o' (neC b o e hx) e1
 .obtain⟨m1,e1⟩:=I.base.tbls b ps e;obtain⟨m2,e2⟩:=tbls b _ e1;exact⟨m1++m2,by rw[e2,Array.append_assoc]⟩
 .obtain⟨m,hn,hl⟩:=I.loc;refine⟨m,ns m hn,λi x v e1 e2 e3=>?_⟩;obtain⟨u,r,l⟩:=hl i x v e1 e2 e3;refine⟨u,r,?_⟩;rcases l with l|⟨k,c,e,z⟩
  .exact .inl l
  .exact .inr ⟨k,c,e,cellK x c e _ z⟩
 .obtain⟨v,z⟩:=I.cell x c e;exact⟨v,cellK x c e v z⟩
 .obtain⟨m,⟨o,_,_,ho,_⟩,_⟩:=I.loc;exact free _ o (λz=>(hch _ z).2.1 bO) ho I.free
 .obtain⟨v,o,ho,hd⟩:=I.cell x c e;exact free c o (λz=>(hch c z).2.2.1 x c e bO) ho (I.freeC x c e)
 .obtain⟨e,n,ne,nf,d⟩:=I.pin p hp;have nch:p.1∉ch:=λz=>(hch p.1 z).2.2.2 p hp bO
  exact⟨keep p.1 p.2 ne nf nch e n,free p.1 p.2 nch e n,ne,nf,d⟩
def bR.un{t':bD}(I:bR X pc Y H s)(u:Un X.fs [] H H' s.heap h')(hok:jM X.prog X.w H' h'):bR X pc Y H' {s with heap:=h',toks:=t'}:=by obtain⟨m,⟨o,es,ep,ho,r⟩,_⟩:=id I.loc;obtain⟨sl,hL⟩:=u.any ho I.free cO;exact I.step (g':=s.gens) (d':=s.drawn) (ch:=[]) (λ_ z=>nomatch z) (λb o _ hb _ e n=>u.keep b o e n hb cO) (λb o _ hb _ e n=>u.slot b o e n hb cO) (λb o _ e n=>u.free b o e n cO) (λb o _ e=>u.there b o e cO) u.tups u.frzs u.tbls (λm' hm=>by obtain⟨o',es',ep',ho',r'⟩:=hm;rw[ho]at ho';cases ho';exact⟨_,es',ep',hL,r'⟩) hok I.bare
def bR.call{g':fQ qr}{t':bD}{d':Drawn}{ch:bA bI}(I:bR X pc Y H s)(u:Un (qF X.stack) ch H H' s.heap h')(hok:jM X.prog X.w H' h')(hg:aJ g')
 (hch:∀b∈ch,(b∈X.ex\/X.s₀.heap.objs.size<=b)/\b≠X.env.locals/\(∀x c,X.env.cells.lookup x=bB c->c≠b)/\ ∀p∈X.pn++pc,p.1≠b):
 bR X pc Y H' {s with heap:=h',gens:=g',drawn:=d',toks:=t'}:=by
 obtain⟨m,⟨o,es,ep,ho,r⟩,_⟩:=id I.loc;obtain⟨sl,hL⟩:=u.any ho I.free λz=>(hch _ z).2.1 bO
 exact I.step (ch:=ch) hch (λb o hL hb hc e n=>u.keep b o e n (λz=>(kS.mp (I.stkSub b z)).elim hL hb) hc) (λb o _ _ hc e n=>u.any e n hc) (λb o hc e n=>u.free b o e n hc) (λb o hc e=>u.there b o e hc) u.tups u.frzs u.tbls (λm' hm=>by obtain⟨o',es',ep',ho',r'⟩:=hm;rw[ho]at ho';cases ho';exact⟨_,es',ep',hL,r'⟩) hok hg
def bR.turned{t':bD}{it:bI}(I:bR X pc Y H s)(k:∀b o,b≠it->s.heap.get? b=bB o->h'.get? b=bB o)(hn:H it=bK)(hL:it≠X.env.locals)
 (h1:it∈X.ex\/X.s₀.heap.objs.size<=it) (h2:∀x c,X.env.cells.lookup x=bB c->c≠it) (h3:∀p∈X.pn++pc,p.1≠it):bR X pc Y H {s with heap:=h',toks:=t'}:=by
 have nit:∀b u,H b=bB u->b≠it:=λb u e z=>by rw[z,hn]at e;cases e
 refine I.step (g':=s.gens) (d':=s.drawn) (ch:=[it]) (λb hb=>?_) (λb o _ _ hc e _=>k b o (λz=>hc (by simp[z])) e) (λb o _ _ hc e _=>⟨o.slots,k b o (λz=>hc (by simp[z])) e⟩) (λ_ _ _ _ n=>n)
  (λb o hc e=>⟨o,k b o (λz=>hc (by simp[z])) e⟩) (λ_ _ e=>e) (λ_ _ _ e=>e) (λb ps e=>⟨#[],by rw[e];simp⟩) (λm hm=>?_) (λb u e=>?_) I.bare
 .have e:b=it:=by simpa using hb
  subst e;exact⟨h1,hL,h2,h3⟩
 .obtain⟨o,es,ep,ho,r⟩:=hm;exact⟨o,es,ep,k _ o (c5 hL) ho,r⟩
 .refine(I.hok b u e).stay (λc v hc q=>k c v ?_ q) (λ_ q=>q) λ_ _ q=>q
  rcases hc with z|z
  .rw[z];exact nit b u e
  .exact nit c _ z
def bR.tok(I:bR X pc Y H s)(t:bD):bR X pc Y H {s with toks:=t}:=I.un (h':=s.heap) (t':=t) Un.refl I.hok
def bR.kept{t':bD}(I:bR X pc Y H s)(k:∀b u,s.heap.get? b=bB u->h'.get? b=bB u):bR X pc Y H {s with heap:=h',toks:=t'}:=I.un (Un.kept k) (I.hok.kept k)
def bR.laid{a:bI}{o:HO}{t':bD}(I:bR X pc Y H s)(k:∀b u,s.heap.get? b=bB u->h'.get? b=bB u)(hp:s.heap.objs.size<=a)(new:lZ X.prog X.w (upd H a o) h' a o):
 bR X pc Y (upd H a o) {s with heap:=h',toks:=t'}:=I.un (Un.laid k hp (I.hok.fresh hp)) (I.hok.laid k hp new)
def bR.write{x e:bI}{o:HO}{t':bD}(I:bR X pc Y H s)(mu:kx (H x))(he:e=x\/H e=bB (.own x))(k:∀b u,b≠e->s.heap.get? b=bB u->h'.get? b=bB u)(heo:∃u,h'.get? e=bB u)
 (new:lZ X.prog X.w (upd H x o) h' x o):bR X pc Y (upd H x o) {s with heap:=h',toks:=t'}:=I.un (Un.write mu he k heo) (I.hok.write mu he k heo new)
def bR.pins_of{pins':bA (bI×cQ)}(I:bR X pc Y H s)(h:∀p∈pins',s.heap.get? p.1=bB p.2/\H p.1=bK/\p.1≠X.env.locals/\p.1∉X.fs/\ ∀v,p.2.data≠ .cell v):bR X pins' Y H s:=
 ⟨I.ok,I.os,I.bare,I.base,I.loc,I.cell,I.free,I.freeC,λp hp=>(jR.mp hp).elim (λz=>I.pin p (pA _ z)) (h p),I.hok,I.len⟩
def EK{N:bA Str}(hN:N.Nodup){i j:bD}{x:Str}(a:N[i]? =bB x)(b:N[j]? =bB x):i=j:=by obtain⟨h1,e1⟩:=rS.mp a;obtain⟨h2,e2⟩:=rS.mp b;exact(List.getElem_inj hN).mp (e1.trans e2.symm)
def EL{M:Model}{A:gK}{E:bJ->bS->Prop}{i:bD}{x:Str}{v:V}{u:bJ}{Q:aN->bS->Prop}(I:bR X pc Y H s)(hN:X.N.Nodup)(hi:X.N[i]? =bB x)(hx:Loc X.env.scope x)(r:cX v u)
 (h:∀s',bR X pc (Y.set i (bB v)) H s'->(∃a,yU a s.heap s'.heap/\(a=X.env.locals\/X.env.cells.lookup x=bB a))->Q () s') (hf:X.fn x=bC\/X.env.scope.names.lookup x=bB .local:=by first|exact .inl rfl|exact .inr rfl|assumption):wpAny M A (Ej X.env x u) Q E s:=by
 obtain⟨m,hn,hl⟩:=id I.loc;have hcls:(X.env.scope.kind== .class||(X.env.scope.kind== .module&&X.env.locals != X.env.globals))=bH:=by rw[I.ok.kind];rfl
 have hiσ:i<Y.length:=by rw[I.len];exact(rS.mp hi).1
 have cne:=I.cne;have tracked:∀{a:bI} {h':cB},(∃o,s.heap.get? a=bB o/\H a=bK)->yU a s.heap h'->jM X.prog X.w H h':=λ{a h'} ha hs b ob e=>by
  obtain⟨_,_,hfree⟩:=ha;refine(I.hok b ob e).stay (λc w' hc q=>(hs.2 c ?_).trans q) (λ_ q=>q) λ_ _ q=>q
  rintro rfl;rcases hc with rfl|hc
  .rw[hfree]at e;cases e
  .rw[hfree]at hc;cases hc
 rcases hx with hk|hk
 .refine wpAny_storeName_local hk hn (λh' hn' hs=>?_) hcls;obtain⟨oL,_,_,hoL,_⟩:=id hn;refine h _ ⟨I.ok,I.os,I.bare,⟨λb o e n hb hx=>?_,λb o e n hb hx=>?_,I.base.free,λb o e hx=>?_,I.base.tups,I.base.frzs,I.base.tbls⟩,⟨_,hn',λj y v' e1 e2 e3=>?_⟩,λy c e=>?_,I.free,I.freeC,λp hp=>?_,tracked ⟨oL,hoL,I.free⟩ hs,by simpa using I.len⟩ ⟨_,hs,.inl rfl⟩
  .exact(hs.2 b (gX (mI (fU e) I.ok.above))).trans (I.base.keep b o e n hb hx)
  .obtain⟨sl,e1⟩:=I.base.slot b o e n hb hx;exact⟨sl,(hs.2 b (gX (mI (fU e) I.ok.above))).trans e1⟩
  .obtain⟨o',e1⟩:=I.base.there b o e hx;exact⟨o',(hs.2 b (gX (mI (fU e) I.ok.above))).trans e1⟩
  .by_cases hj:j=i
   .subst hj;rw[hi]at e1;cases e1;rw[gf hiσ]at e2;cases e2;exact⟨u,r,.inl ⟨hk,cO⟩⟩
   .rw[am (c5 hj)]at e2;obtain⟨u',r',q⟩:=hl j y v' e1 e2 e3;refine⟨u',r',?_⟩;rcases q with⟨k,e⟩|⟨k,c,e,z⟩
    .refine .inl ⟨k,?_⟩;have:y≠x:=λe=>hj (EK hN e1 (e▸hi))
     simp[this,e]
    .exact .inr ⟨k,c,e,z.sameBut hs (cne y c e)⟩
  .obtain⟨w',z⟩:=I.cell y c e;exact⟨w',z.sameBut hs (cne y c e)⟩
  .obtain⟨e,n,ne,nf,d⟩:=I.pin p hp;exact⟨(hs.2 p.1 ne).trans e,n,ne,nf,d⟩
 .have hfn:X.fn x=bC:=by
   rcases hf with z|z
   .exact z
   .rw[z]at hk;cases hk
  obtain⟨c,hc⟩:=I.ok.has x (.inl hk);obtain⟨w',z⟩:=I.cell x c hc;refine wpAny_storeName_cell I.ok.kind hk hc z (λh' hc' hs=>?_);obtain⟨oc,hoc,hocd⟩:=id z;refine h {s with heap:=h'} ⟨I.ok,I.os,I.bare,⟨λb o e n hb hx=>?_,λb o e n hb hx=>?_,I.base.free,λb o e hx=>?_,I.base.tups,I.base.frzs,I.base.tbls⟩,⟨m,hn.sameBut hs (c5 (cne x c hc)),λj y v' e1 e2 e3=>?_⟩,λy c' e=>?_,I.free,I.freeC,λp hp=>?_,tracked ⟨oc,hoc,I.freeC x c hc⟩ hs,by simpa using I.len⟩ ⟨c,hs,.inr hc⟩
  .exact(hs.2 b (gX (mI (fU e) (I.ok.cab x c hfn hc)))).trans (I.base.keep b o e n hb hx)
  .obtain⟨sl,e1⟩:=I.base.slot b o e n hb hx;exact⟨sl,(hs.2 b (gX (mI (fU e) (I.ok.cab x c hfn hc)))).trans e1⟩
  .obtain⟨o',e1⟩:=I.base.there b o e hx;exact⟨o',(hs.2 b (gX (mI (fU e) (I.ok.cab x c hfn hc)))).trans e1⟩
  .by_cases hj:j=i
   .subst hj;rw[hi]at e1;cases e1;rw[gf hiσ]at e2;cases e2;exact⟨u,r,.inr ⟨.inl hk,c,hc,hc'⟩⟩
   .rw[am (c5 hj)]at e2;obtain⟨u',r',q⟩:=hl j y v' e1 e2 e3;refine⟨u',r',?_⟩;rcases q with q|⟨k,c',e,z'⟩
    .exact .inl q
    .refine .inr ⟨k,c',e,z'.sameBut hs ?_⟩;rintro rfl;exact hj (EK hN e1 (I.ok.inj _ _ _ e hc▸hi))
  .by_cases hcc:c'=c
   .subst hcc;exact⟨_,hc'⟩
   .obtain⟨w2,z2⟩:=I.cell y c' e;exact⟨w2,z2.sameBut hs hcc⟩
  .obtain⟨e,n,ne,nf,d⟩:=I.pin p hp;refine⟨(hs.2 p.1 ?_).trans e,n,ne,nf,d⟩;intro q;rw[q,hoc]at e;have q':oc=p.2:=jJ e;exact d w' (by rw[<-q'];exact hocd)
def yy{M:Model}{A:gK}{E:bJ->bS->Prop}{i:bD}{x:Str}{v:V}{u:bJ}{Q:aN->bS->Prop}(I:bR X pc Y H s)(hN:X.N.Nodup)(hi:X.N[i]? =bB x)(hx:Loc X.env.scope x)(r:cX v u)
 (h:∀s',bR X pc (Y.set i (bB v)) H s'->Q () s') (hf:X.fn x=bC\/X.env.scope.names.lookup x=bB .local:=by first|exact .inl bO|exact .inr bO|assumption):wpAny M A (Ej X.env x u) Q E s:=
 EL I hN hi hx r (λs' I' _=>h s' I') hf
def bR.call'{s':bS}{ch:bA bI}(I:bR X pc Y H s)(ho:s'.os=s.os)(u:Un (qF X.stack) ch H H' s.heap s'.heap)(hok:jM X.prog X.w H' s'.heap)(hg:aJ s'.gens)
 (hch:∀b∈ch,(b∈X.ex\/X.s₀.heap.objs.size<=b)/\b≠X.env.locals/\(∀x c,X.env.cells.lookup x=bB c->c≠b)/\ ∀p∈X.pn++pc,p.1≠b):bR X pc Y H' s':=by
 obtain⟨h',g',d',t',o'⟩:=s';have e:o'=s.os:=ho;subst e;exact I.call (g':=g') (t':=t') (d':=d') u hok hg hch
end
abbrev XK:=bJ->bQ bI->Hp->Prop
noncomputable abbrev St:=bA (bQ V)
abbrev VK:=V->Hp->Prop
abbrev TE:=St->Hp->VK->Prop
abbrev TT:=St->Hp->(bU->Hp->Prop)->Prop
abbrev TA:=St->Hp->(bA V->Hp->Prop)->Prop
structure sV where
 nx:St->Hp->Prop
 rt:VK
 bk:St->Hp->Prop:=λ_ _=>jF
 ct:St->Hp->Prop:=λ_ _=>jF
abbrev TS:=sV->St->Hp->Prop
def EP(X:Cx)(pc:bA (bI×cQ))(Y:St)(Q:VK)(u:bJ)(s':bS):Prop:=∃v H',bR X pc Y H' s'/\cX v u/\Q v H'
def TP(X:Cx)(pc:bA (bI×cQ))(Y:St)(Q:bU->Hp->Prop)(b:bU)(s':bS):Prop:=∃H',bR X pc Y H' s'/\Q b H'
def AP(X:Cx)(pc:bA (bI×cQ))(Y:St)(Q:bA V->Hp->Prop)(us:bA bJ)(s':bS):Prop:=∃vs H',bR X pc Y H' s'/\cW vs us/\Q vs H'
def SP(X:Cx)(pc:bA (bI×cQ))(D:sV)(f:Flow)(s':bS):Prop:=
 match f with
 | .next=>∃σ' H',bR X pc σ' H' s'/\D.nx σ' H'| .brk=>∃σ' H',bR X pc σ' H' s'/\D.bk σ' H'| .cont=>∃σ' H',bR X pc σ' H' s'/\D.ct σ' H'| .ret u=>∃v σ' H',bR X pc σ' H' s'/\cX v u/\D.rt v H'
def PE(X:Cx)(e:Expr)(t:TE):Prop:=
 ∀(pc:bA (bI×cQ)) (s:bS) (Y:St) (H:Hp) (Q:VK),bR X pc Y H s->t Y H Q->wpAny (cA X.prog X.w) X.A (dX e X.env) (EP X pc Y Q) X.xe s
def PT(X:Cx)(e:Expr)(t:TT):Prop:=
 ∀(pc:bA (bI×cQ)) (s:bS) (Y:St) (H:Hp) (Q:bU->Hp->Prop),bR X pc Y H s->t Y H Q->wpAny (cA X.prog X.w) X.A (isTrue e X.env (dX e X.env)) (TP X pc Y Q) X.xe s
def PW(X:Cx)(e:Expr)(t:TT):Prop:=
 ∀(whole:pE bJ) (pc:bA (bI×cQ)) (s:bS) (Y:St) (H:Hp) (Q:bU->Hp->Prop),bR X pc Y H s->t Y H Q->wpAny (cA X.prog X.w) X.A (isTrue e X.env whole) (TP X pc Y Q) X.xe s
def PW.pt{X:Cx}{e:Expr}{t:TT}(h:PW X e t):PT X e t:=h _
def PA(X:Cx)(es:bA Expr)(t:TA):Prop:=
 ∀(pos:dJ) (pc:bA (bI×cQ)) (s:bS) (Y:St) (H:Hp) (Q:bA V->Hp->Prop),bR X pc Y H s->t Y H Q->wpAny (cA X.prog X.w) X.A (spliced (kU pos (fK es X.env))) (AP X pc Y Q) X.xe s
def PS(X:Cx)(st:dN)(t:TS):Prop:=
 ∀(pc:bA (bI×cQ)) (s:bS) (Y:St) (H:Hp) (D:sV),bR X pc Y H s->t D Y H->wpAny (cA X.prog X.w) X.A (exec st X.env) (SP X pc D) X.xe s
def pF(X:Cx)(st:bA dN)(t:TS):Prop:=
 ∀(pc:bA (bI×cQ)) (s:bS) (Y:St) (H:Hp) (D:sV),bR X pc Y H s->t D Y H->wpAny (cA X.prog X.w) X.A (execs st X.env) (SP X pc D) X.xe s
def cT{α:Type}{t:pE α}{Q Q':α->bS->Prop}{M:Model}{A:gK}{E:bJ->bS->Prop}{s:bS}(h:wpAny M A t Q E s)(hQ:∀a s,Q a s->Q' a s):wpAny M A t Q' E s:=lT h hQ λ_ _ x=>x
section
variable{X:Cx}
noncomputable def EM(i:bD):TE:=λY H Q=>∃v,Y[i]? =bB (bB v)/\Q v H
noncomputable def tC(v:V):TE:=λ_ H Q=>Q v H
def qG{i:bD}{x:Str}{pos:dJ}(hN:X.N[i]? =bB x)(hv:yx X.env.scope x)(hd:(x==("__debug__" :Str))=bH:=by decide)(hcd:(x==("__classdict__" :Str))=bH:=by decide):PE X (.Name x pos) (EM i):=by
 intro pc s Y H Q I h;obtain⟨v,e,h⟩:=h;obtain⟨m,hn,hl⟩:=I.loc;obtain⟨u,r,l⟩:=hl i x v hN e hv;have fO:EP X pc Y Q u s:=⟨v,H,I,r,h⟩;rcases l with⟨hk,hm⟩|⟨hk,c,hc,hcell⟩
 .exact Eb (Lf I.ok.kind hk hn hm fO) hd
 .rcases hk with hk|hk
  .exact Eb (Lj I.ok.kind hk hc hcell fO) hd
  .exact Eb (wpAny_loadName_free I.ok.kind hk hc hcell fO hcd) hd
def yz{i j pos}:PE X (.Constant (.int i) j pos) (tC (.int i)):=λ_ _ _ H _ I h=>wpAny_Constant_int ⟨.int i,H,I.tok _,⟨_,rfl⟩,h⟩
def No{b j pos}:PE X (.Constant (.bool b) j pos) (tC (.b b)):=λ_ _ _ H _ I h=>Constant_bool ⟨.b b,H,I,rfl,h⟩
def Np{j pos}:PE X (.Constant .none j pos) (tC .n):=λ_ _ _ H _ I h=>Constant_none ⟨.n,H,I,rfl,h⟩
def Nq{x j pos}:PE X (.Constant (.str x) j pos) (tC (.str x)):=λ_ _ _ H _ I h=>Calls.Constant_str ⟨.str x,H,I.tok _,⟨_,rfl⟩,h⟩
def Gl(X:Cx)(x:Str):Prop:=X.env.kindOf x=bB .globalImplicit
def rp{E:bJ->bS->Prop}{pc:bA (bI×cQ)}{s:bS}{Y:St}{H:Hp}{x:Str}{u:bJ}{pos:dJ}{Q:bJ->bS->Prop}(I:bR X pc Y H s)(hg:Gl X x)(hm:X.mg x=bB u)(h:Q u s)
 (hd:(x==("__debug__" :Str))=bH:=by decide):wpAny (cA X.prog X.w) X.A (dX (.Name x pos) X.env) Q E s:=
 KL I.ok.kind hg (Calls.loadGlobal_global (by rw[I.ok.glob];exact I.mod.glob.keeps I.bk) hm h) hd
def iB{E:bJ->bS->Prop}{pc:bA (bI×cQ)}{s:bS}{Y:St}{H:Hp}{x:Str}{u:bJ}{pos:dJ}{Q:bJ->bS->Prop}(I:bR X pc Y H s)(hg:Gl X x)(hm:X.mg x=bK)(hv:qT x=bB u)(h:Q u s)
 (hn:x≠ "__name__" :=by decide) (hd:(x==("__debug__" :Str))=bH:=by decide):wpAny (cA X.prog X.w) X.A (dX (.Name x pos) X.env) Q E s:=by
 obtain⟨mb,h1,h2⟩:=I.mod.blt;exact KL I.ok.kind hg (Calls.loadGlobal_builtin (by rw[I.ok.glob];exact I.mod.glob.keeps I.bk) hm (by rw[I.ok.blt];exact h1.keeps I.bk) ((h2 x hn).trans hv) h) hd
def kz{x:Str}{v:V}{u:bJ}{pos:dJ}(hg:Gl X x)(hm:X.mg x=bB u)(r:cX v u)(hd:(x==("__debug__" :Str))=bH:=by decide):PE X (.Name x pos) (tC v):=
 λ_ _ _ H _ I h=>rp I hg hm ⟨v,H,I,r,h⟩ hd
def Nr{x:Str}{v:V}{u:bJ}{pos:dJ}(hg:Gl X x)(hm:X.mg x=bK)(hv:qT x=bB u)(r:cX v u)(hn:x≠ "__name__" :=by decide)(hd:(x==("__debug__" :Str))=bH:=by decide):PE X (.Name x pos) (tC v):=
 λ_ _ _ H _ I h=>iB I hg hm hv ⟨v,H,I,r,h⟩ hn hd
variable{a b:Expr}{ta tb:TE}{pos:dJ}
variable{tA tB':TT}{rest:bA Expr}
noncomputable def Nu(t u:TT):TT:=λY H Q=>t Y H λc H1=>if c=bC then u Y H1 Q else Q bH H1
noncomputable def Nv(t u:TT):TT:=λY H Q=>t Y H λc H1=>if c=bC then Q bC H1 else u Y H1 Q
noncomputable def Nw(t:TT):TT:=λY H Q=>t Y H λc H1=>Q (!c) H1
def Nx(ha:PT X a tA):PW X (.BoolOp .And [a] pos) tA:=by
 intro wh pc s Y H Q I h;refine isTrue_and (cT (ha pc s Y H Q I h) λc s1 e=>?_);cases c with
 |true=>exact isTrue_and_nil e|false=>exact e
def Ny(ha:PT X a tA):PW X (.BoolOp .Or [a] pos) tA:=by
 intro wh pc s Y H Q I h;refine isTrue_or (cT (ha pc s Y H Q I h) λc s1 e=>?_);cases c with
 |false=>exact isTrue_or_nil e|true=>exact e
def Nz(ha:PT X a tA)(hb:PW X (.BoolOp .And (b::rest) pos) tB'):PW X (.BoolOp .And (a::b::rest) pos) (Nu tA tB'):=by
 intro wh pc s Y H Q I h;refine isTrue_and (cT (ha pc s Y H _ I h) λc s1 qz=>?_);obtain⟨H1,I1,q1⟩:=qz;cases c with
 |true=>exact hb wh pc s1 Y H1 Q I1 q1|false=>exact⟨H1,I1,q1⟩
def NA(ha:PT X a tA)(hb:PW X (.BoolOp .Or (b::rest) pos) tB'):PW X (.BoolOp .Or (a::b::rest) pos) (Nv tA tB'):=by
 intro wh pc s Y H Q I h;refine isTrue_or (cT (ha pc s Y H _ I h) λc s1 qz=>?_);obtain⟨H1,I1,q1⟩:=qz;cases c with
 |true=>exact⟨H1,I1,q1⟩|false=>exact hb wh pc s1 Y H1 Q I1 q1
def NB(ha:PT X a tA):PT X (.UnaryOp .Not a pos) (Nw tA):=by intro pc s Y H Q I h;exact isTrue_not (ha pc s Y H (λc H1=>Q (!c) H1) I h)
noncomputable def NC(ta tb:TE):TE:=λY H Q=>ta Y H λx H1=>∃c,x= .b c/\if c=bC then tb Y H1 Q else Q (.b bH) H1
noncomputable def ND(ta tb:TE):TE:=λY H Q=>ta Y H λx H1=>∃c,x= .b c/\if c=bC then Q (.b bC) H1 else tb Y H1 Q
noncomputable def NE(ta:TE):TE:=λY H Q=>ta Y H λx H1=>∃c,x= .b c/\Q (.b (!c)) H1
def NF{op}{t:TE}(h:PE X a t):PE X (.BoolOp op [a] pos) t:=λpc s Y H Q I hw=>BoolOp_one (h pc s Y H Q I hw)
def NG(ha:PE X a ta)(hb:PE X (.BoolOp .And (b::rest) pos) tb):PE X (.BoolOp .And (a::b::rest) pos) (NC ta tb):=by
 intro pc s Y H Q I h;refine BoolOp_and (cT (ha pc s Y H _ I h) λv s1 qz=>?_);obtain⟨x,H1,I1,r1,q1⟩:=qz;obtain⟨c,rfl,q1⟩:=q1;cases r1;refine aq ?_;cases c with
 |true=>exact hb pc s1 Y H1 Q I1 q1|false=>exact⟨.b false,H1,I1,rfl,q1⟩
def NH(ha:PE X a ta)(hb:PE X (.BoolOp .Or (b::rest) pos) tb):PE X (.BoolOp .Or (a::b::rest) pos) (ND ta tb):=by
 intro pc s Y H Q I h;refine BoolOp_or (cT (ha pc s Y H _ I h) λv s1 qz=>?_);obtain⟨x,H1,I1,r1,q1⟩:=qz;obtain⟨c,rfl,q1⟩:=q1;cases r1;refine aq ?_;cases c with
 |false=>exact hb pc s1 Y H1 Q I1 q1|true=>exact⟨.b true,H1,I1,rfl,q1⟩
def NI(ha:PE X a ta):PE X (.UnaryOp .Not a pos) (NE ta):=by intro pc s Y H Q I h;refine UnaryOp_ (cT (ha pc s Y H _ I h) λv s1 qz=>?_);obtain⟨x,H1,I1,r1,q1⟩:=qz;obtain⟨c,rfl,q1⟩:=q1;cases r1;exact not_of (aq ⟨.b (!c),H1,I1,rfl,q1⟩)
noncomputable def NJ(t:TT)(ta tb:TE):TE:=λY H Q=>t Y H λc H1=>if c=bC then ta Y H1 Q else tb Y H1 Q
def y0{c:Expr}(hc:PT X c tA)(ha:PE X a ta)(hb:PE X b tb):PE X (.IfExp c a b pos) (NJ tA ta tb):=by
 intro pc s Y H Q I h;refine wpAny_IfExp (cT (hc pc s Y H _ I h) λd s1 qz=>?_);obtain⟨H1,I1,q1⟩:=qz;cases d with
 |true=>exact ha pc s1 Y H1 Q I1 q1|false=>exact hb pc s1 Y H1 Q I1 q1
end
def gS(K:cD)(H:Hp)(a:bI)(xs:bA V):Prop:=
 Rd H a (.l xs)\/
  ∃(o:cQ) (its:fQ bJ) (n:bD),K.lookup a=bB o/\o.cls= .type "list" /\o.dict=bK/\o.data= .seq its n/\its.size<=cJ/\cW xs its.toList
def jH(K:cD)(H:Hp)(a:bI)(xs:bA V):Prop:=
 Rd H a (.t xs)\/
  ∃(o:cQ) (its:fQ bJ) (n:bD),K.lookup a=bB o/\(o.cls= .type "tuple" /\o.dict=bK)/\o.data= .seq its n/\its.size<=cJ/\cW xs its.toList
noncomputable def NK:bJ->bQ V| .none=>bB .n| .bool b=>bB (.b b)| .int i _=>bB (.int i)| .str x _=>bB (.str x)| .bytes b _=>bB (.byt b)| .float b _=>bB (.flt b)| .ref a=>bB (.ref a)| .type n=>bB (.ty n)|_=>bK
def cX.abs{x:V}{u:bJ}(r:cX x u):NK u=bB x:=by
 cases x with
 |n=>cases r;rfl|b _=>cases r;rfl|int _=>obtain⟨t,rfl⟩:=r;rfl|str _=>obtain⟨t,rfl⟩:=r;rfl|byt _=>obtain⟨t,rfl⟩:=r;rfl|flt _=>obtain⟨t,rfl⟩:=r;rfl|ref _=>cases r;rfl|ty _=>cases r;rfl
def cX.inj{x y:V}{u:bJ}(r:cX x u)(q:cX y u):x=y:=jJ (r.abs.symm.trans q.abs)
theorem cW.inj:∀{xs ys:bA V} {us:bA bJ},cW xs us->cW ys us->xs=ys|_,_,_,.nil,.nil=>rfl|_,_,_,.cons r t,.cons r' t'=>by rw[r.inj r',cW.inj t t']
section
variable{X:Cx}{pc:bA (bI×cQ)}{Y:St}{H:Hp}{s:bS}{a:bI}{xs ys:bA V}
def gS.of{K:cD}(h:H a=bB (.l xs)):gS K H a xs:=.inl (.inl h)
def jH.of{K:cD}(h:H a=bB (.t xs)):jH K H a xs:=.inl (.inl h)
def bR.list(I:bR X pc Y H s)(h:gS X.K H a xs):∃its:bA bJ,cW xs its/\PlainL s.heap a its.toArray/\xs.length<=cJ:=by
 rcases h with h|⟨o,its,n,hk,hc,hd,hs,hz,r⟩
 .obtain⟨z,its,n,r,e⟩:=h.ok I.hok;exact⟨its,r,⟨_,n,e,rfl,rfl,rfl⟩,z⟩
 .refine⟨its.toList,r,⟨o,n,I.kIn a o hk,hc,hd,by simpa using hs⟩,?_⟩;have e:=r.length;simp only[Dz]at e
  lia
def bR.tupleN(I:bR X pc Y H s)(h:jH X.K H a xs):∃its:bA bJ,cW xs its/\tZ s.heap a its.toArray/\xs.length<=cJ:=by
 rcases h with h|⟨o,its,n,hk,hc,hs,hz,r⟩
 .obtain⟨z,its,r,p⟩:=h.ok I.hok;exact⟨its,r,p,z⟩
 .refine⟨its.toList,r,⟨o,I.kIn a o hk,hc,n,by simpa using hs⟩,?_⟩;have e:=r.length;simp only[Dz]at e
  lia
def bR.tuple(I:bR X pc Y H s)(h:jH X.K H a xs):∃its:bA bJ,cW xs its/\da s.heap a its.toArray/\xs.length<=cJ:=let ⟨its,r,p,z⟩:=I.tupleN h;⟨its,r,p.t,z⟩
def bR.list_inj(I:bR X pc Y H s)(h:gS X.K H a xs)(h':gS X.K H a ys):xs=ys:=by
 obtain⟨its,r,⟨o,n,e,_,_,d⟩,_⟩:=I.list h;obtain⟨its',r',⟨o',n',e',_,_,d'⟩,_⟩:=I.list h';rw[e]at e';cases e';rw[d]at d';injection d' with d1 _;have:its=its':=by simpa using kT Mm d1
 subst this;exact r.inj r'
def bR.tuple_inj(I:bR X pc Y H s)(h:jH X.K H a xs)(h':jH X.K H a ys):xs=ys:=by
 obtain⟨its,r,⟨o,e,_,n,d⟩,_⟩:=I.tuple h;obtain⟨its',r',⟨o',e',_,n',d'⟩,_⟩:=I.tuple h';rw[e]at e';cases e';rw[d]at d';injection d' with d1 _;have:its=its':=by simpa using kT Mm d1
 subst this;exact r.inj r'
end
noncomputable abbrev Cx.wish(X:Cx)(E:bJ->bS->Prop):Cx:={X with xe:=E}
abbrev Cx.nox(X:Cx):Cx:=X.wish λ_ _=>jF
def Cx.Ok.wish{X:Cx}(ok:X.Ok)(E:bJ->bS->Prop):(X.wish E).Ok:=
 ⟨ok.mod,ok.kind,ok.glob,ok.blt,ok.above,ok.inj,ok.has,ok.cab,ok.hd,ok.frames,ok.stk,ok.exf,ok.bs,ok.bsz,ok.noex,ok.exfs,ok.funs,ok.frf⟩
def Cx.Ok.unwish{X:Cx}{E:bJ->bS->Prop}(ok:(X.wish E).Ok):X.Ok:=
 ⟨ok.mod,ok.kind,ok.glob,ok.blt,ok.above,ok.inj,ok.has,ok.cab,ok.hd,ok.frames,ok.stk,ok.exf,ok.bs,ok.bsz,ok.noex,ok.exfs,ok.funs,ok.frf⟩
section
variable{X:Cx}{pc:bA (bI×cQ)}{Y:St}{H:Hp}{s:bS}{E:bJ->bS->Prop}
def bR.wish(I:bR X pc Y H s)(E:bJ->bS->Prop):bR (X.wish E) pc Y H s:=⟨I.ok.wish E,I.os,I.bare,I.base,I.loc,I.cell,I.free,I.freeC,I.pin,I.hok,I.len⟩
def bR.unwish(I:bR (X.wish E) pc Y H s):bR X pc Y H s:=⟨I.ok.unwish,I.os,I.bare,I.base,I.loc,I.cell,I.free,I.freeC,I.pin,I.hok,I.len⟩
def SP.unwish{D:sV}{f:Flow}{s':bS}(h:SP (X.wish E) pc D f s'):SP X pc D f s':=by
 cases f with
 |next=>obtain⟨σ',H',I,q⟩:=h;exact⟨σ',H',I.unwish,q⟩|brk=>obtain⟨σ',H',I,q⟩:=h;exact⟨σ',H',I.unwish,q⟩|cont=>obtain⟨σ',H',I,q⟩:=h;exact⟨σ',H',I.unwish,q⟩|ret u=>obtain⟨v,σ',H',I,r,q⟩:=h;exact⟨v,σ',H',I.unwish,r,q⟩
def pF.nox{st:bA dN}{t:TS}(h:pF X.nox st t):pF X st t:=λpc s Y H D I hw=>
 lT (h pc s Y H D (I.wish _) hw) (λ_ _ q=>q.unwish) λ_ _ z=>qV z
end
section
variable{X:Cx}{st:dN}{rest:bA dN}{t u:TS}{e:Expr}{te:TE}{pos:dJ}
noncomputable def EO:TS:=λD Y H=>D.nx Y H
noncomputable def NL(t u:TS):TS:=λD Y H=>t {D with nx:=u D} Y H
def EQ:pF X [] EO:=λ_ _ Y H _ I h=>wx ⟨Y,H,I,h⟩
def ER(h1:PS X st t)(h2:pF X rest u):pF X (st::rest) (NL t u):=by
 intro pc s Y H D I h;refine LH (cT (h1 pc s Y H {D with nx:=u D} I h) λf s1 q=>?_);cases f with
 |next=>obtain⟨σ',H',I',q⟩:=q;exact h2 pc s1 σ' H' D I' q|ret v=>exact q|brk=>exact q|cont=>exact q
def ES(h1:PS X st t):pF X [st] t:=by
 intro pc s Y H D I h;refine LH (cT (h1 pc s Y H D I h) λf s1 q=>?_);cases f with
 |next=>exact wx q|ret v=>exact q|brk=>exact q|cont=>exact q
def NM:PS X (.Pass pos) EO:=λ_ _ Y H _ I h=>wpAny_Pass ⟨Y,H,I,h⟩
def bR.quiet{pc:bA (bI×cQ)}{Y:St}{H:Hp}{s:bS}(I:bR X pc Y H s):interactive X.env=bH:=by simp[interactive,I.ok.kind]
noncomputable def tDrop(te:TE):TS:=λD Y H=>te Y H λ_ H1=>D.nx Y H1
def k8(he:PE X e te)(hs:aE e bK pos.line X.env=fE bH:=by rfl):PS X (.Expr e pos) (tDrop te):=by intro pc s Y H D I h;exact wpAny_Expr_any (cT (he pc s Y H _ I h) λv s1 qz=>by obtain⟨x,H1,I1,r1,q1⟩:=qz;exact⟨Y,H1,I1,q1⟩) I.quiet hs
noncomputable def NN(te:TE):TS:=λD Y H=>te Y H D.rt
def y7(he:PE X e te):PS X (.Return (bB e) pos) (NN te):=by intro pc s Y H D I h;exact wpAny_Return_some (cT (he pc s Y H _ I h) λv s1 qz=>by obtain⟨x,H1,I1,r1,q1⟩:=qz;exact⟨x,Y,H1,I1,r1,q1⟩)
noncomputable def NO(c:TT)(t u:TS):TS:=λD Y H=>c Y H λb H1=>if b=bC then t D Y H1 else u D Y H1
def ET{c:Expr}{a b:bA dN}{tc:TT}(hc:PT X c tc)(ha:pF X a t)(hb:pF X b u):PS X (.If c a b pos) (NO tc t u):=by
 intro pc s Y H D I h;refine wpAny_If (cT (hc pc s Y H _ I h) λd s1 qz=>?_);obtain⟨H1,I1,q1⟩:=qz;cases d with
 |true=>exact ha pc s1 Y H1 D I1 q1|false=>exact hb pc s1 Y H1 D I1 q1
end
abbrev TG:=V->St->Hp->(St->Hp->Prop)->Prop
abbrev di:=bA V->St->Hp->(St->Hp->Prop)->Prop
def PG(X:Cx)(target:Expr)(t:TG):Prop:=
 ∀(pc:bA (bI×cQ)) (s:bS) (Y:St) (H:Hp) (v:V) (u:bJ) (Q:St->Hp->Prop),bR X pc Y H s->cX v u->t v Y H Q->
  wpAny (cA X.prog X.w) X.A (yY target X.env u) (λ_ s'=>∃σ' H',bR X pc σ' H' s'/\Q σ' H') X.xe s
def rq(X:Cx)(ts:bA Expr)(t:di):Prop:=
 ∀(pc:bA (bI×cQ)) (s:bS) (Y:St) (H:Hp) (vs:bA V) (us:bA bJ) (Q:St->Hp->Prop),bR X pc Y H s->cW vs us->t vs Y H Q->
  wpAny (cA X.prog X.w) X.A (assignInOrder ((tR ts X.env).map (·.2)) us) (λ_ s'=>∃σ' H',bR X pc σ' H' s'/\Q σ' H') X.xe s
abbrev y8:=V->V->Hp->VK->Prop
def EU(X:Cx)(op:aF)(t:y8):Prop:=
 ∀(pc:bA (bI×cQ)) (s:bS) (Y:St) (H:Hp) (x y:V) (v u:bJ) (Q:VK),bR X pc Y H s->cX x v->cX y u->t x y H Q->
  wpAny (cA X.prog X.w) X.A (xx op v u) (EP X pc Y Q) X.xe s
section
variable{X:Cx}{pos:dJ}
noncomputable def qZ(i:bD):TG:=λv Y H Q=>Q (Y.set i (bB v)) H
def dm{i:bD}{x:Str}(hN:X.N.Nodup)(hi:X.N[i]? =bB x)(hx:Loc X.env.scope x)(hf:X.fn x=bC\/X.env.scope.names.lookup x=bB .local:=by first|exact .inl bO|exact .inr bO|assumption):PG X (.Name x pos) (qZ i):=by intro pc s Y H v u Q I r h;exact Lz (yy I hN hi hx r (λs' I'=>⟨_,H,I',h⟩) hf)
noncomputable def iC:di:=λvs Y H Q=>vs= []/\Q Y H
noncomputable def wG(t:TG)(u:di):di:=λvs Y H Q=>∃v r,vs=v::r/\t v Y H λσ' H'=>u r σ' H' Q
def EV:rq X [] iC:=by intro pc s Y H vs us Q I r h;obtain⟨e,h⟩:=h;subst e;cases r;exact assignInOrder_nil ⟨Y,H,I,h⟩
def r8{e:Expr}{es:bA Expr}{t:TG}{u:di}(h1:PG X e t)(h2:rq X es u)
 (hs:(tR (e::es) X.env).map (·.2)=yY e X.env::(tR es X.env).map (·.2):=by rfl):rq X (e::es) (wG t u):=by
 intro pc s Y H vs us Q I r h;obtain⟨v,vr,e1,h⟩:=h;subst e1;cases r with
 |cons r rr=>rw[hs];refine assignInOrder_cons (cT (h1 pc s Y H _ _ _ I r h) λ_ s1 qz=>?_);obtain⟨σ1,H1,I1,q1⟩:=qz;exact h2 pc s1 σ1 H1 _ _ Q I1 rr q1
noncomputable def iD(K:cD)(n:bD)(t:di):TG:=λv Y H Q=>∃a xs,v= .ref a/\jH K H a xs/\xs.length=n/\t xs Y H Q
def EW{es:bA Expr}{k:bD}{t:di}{n:bD}(hc:X.calm=bC)(h:rq X es t)
 (hn:(tR es X.env).length=n:=by rfl) (hst:(tR es X.env).findIdx? (·.1)=bK:=by rfl):PG X (.Tuple es k pos) (iD X.K n t):=by
 intro pc s Y H v u Q I r hw;obtain⟨a,xs,e1,hq,hl,hw⟩:=hw;subst e1;cases r;obtain⟨its,rv,ht,hz⟩:=I.tuple hq;refine assign_Tuple_tuple (I.ok.hd hc) ht (by simp[hn, <-hl,rv.length]) hst λh' hx=>?_
 have I1:bR X pc Y H {s with heap:=h'}:=I.kept (t':=s.toks) λb o e=>hx b o (gX (fU e)) e
 exact h pc _ Y H xs _ Q I1 (by simpa using rv) hw
noncomputable def lb(te:TE)(g:TG):TS:=λD Y H=>te Y H λx H1=>g x Y H1 D.nx
def NP{tg e:Expr}{te:TE}{g:TG}(he:PE X e te)(hg:PG X tg g)(hs:DP [tg] e pos.line X.env=fE bH:=by rfl)(hw:DQ [tg] e X.env=fE bK:=by rfl)
 (h1:(tR [tg] X.env).map (·.2)= [yY tg X.env]:=by rfl):PS X (.Assign [tg] e pos) (lb te g):=by
 intro pc s Y H D I h;refine wpAny_Assign_stores (cT (he pc s Y H _ I h) λv s1 qz=>?_) hs hw;obtain⟨x,H1,I1,r1,q1⟩:=qz;rw[h1];exact cT (hg pc s1 Y H1 x v _ I1 r1 q1) λ_ s2 q=>q
def lf{i:bD}{x:Str}{e:Expr}{te:TE}{pos':dJ}(hN:X.N.Nodup)(hi:X.N[i]? =bB x)(hx:Loc X.env.scope x)(he:PE X e te)(hs:aE e (bB (.Name x pos')) pos.line X.env=fE bH:=by rfl)(hf:X.fn x=bC\/X.env.scope.names.lookup x=bB .local:=by first|exact .inl bO|exact .inr bO|assumption):
 PS X (.Assign [.Name x pos'] e pos) (lb te (qZ i)):=by
 intro pc s Y H D I h;refine wpAny_Assign_Name (cT (he pc s Y H _ I h) λv s1 qz=>?_) hs;obtain⟨y,H1,I1,r1,q1⟩:=qz;exact yy I1 hN hi hx r1 (λs2 I2=>⟨_,H1,I2,q1⟩) hf
noncomputable def NQ(i:bD)(te:TE)(ti:y8):TS:=λD Y H=>∃x,Y[i]? =bB (bB x)/\te Y H λy H1=>ti x y H1 λz H2=>D.nx (Y.set i (bB z)) H2
def NR{i:bD}{x:Str}{e:Expr}{te:TE}{op:aF}{ti:y8}{pos':dJ}(hN:X.N.Nodup)(hi:X.N[i]? =bB x)(hx:Loc X.env.scope x)(he:PE X e te)(ho:EU X op ti)(hf:X.fn x=bC\/X.env.scope.names.lookup x=bB .local:=by first|exact .inl bO|exact .inr bO|assumption):
 PS X (.AugAssign (.Name x pos') op e pos) (NQ i te ti):=by
 intro pc s Y H D I h;obtain⟨v,e1,h⟩:=h;obtain⟨m,hn,hl⟩:=I.loc;have vis:yx X.env.scope x:=by rcases hx with k|k;exact .inl k;exact .inr (.inl k)
 obtain⟨u,r,l⟩:=hl i x v hi e1 vis;refine wpAny_AugAssign_Name ?_;have go:wpAny (cA X.prog X.w) X.A (dX e X.env) (λw s₂=>wpAny (cA X.prog X.w) X.A (xx op u w) (λr s₃=>wpAny (cA X.prog X.w) X.A (Ej X.env x r) (λ_=>SP X pc D .next) X.xe s₃) X.xe s₂) X.xe s:=by
  refine cT (he pc s Y H _ I h) λw s1 qz=>?_
  obtain⟨y,H1,I1,r1,q1⟩:=qz;refine cT (ho pc s1 Y H1 v y u w _ I1 r r1 q1) λz s2 qz=>?_
  obtain⟨zv,H2,I2,r2,q2⟩:=qz;exact yy I2 hN hi hx r2 (λs3 I3=>⟨_,H2,I3,q2⟩) hf
 rcases l with⟨hk,hm⟩|⟨hk,c,hc,hcell⟩
 .exact Lf I.ok.kind hk hn hm go
 .rcases hk with hk|hk
  .exact Lj I.ok.kind hk hc hcell go
  .rcases hx with k|k
   .have:X.env.scope.names.lookup x=bB .free:=hk;rw[k]at this;cases this
   .have:X.env.scope.names.lookup x=bB .free:=hk;rw[k]at this;cases this
def NS(c:TT)(tb:TS):TS:=λD Y H=>∃W:bD->St->Hp->Prop,(∃m,W m Y H)/\ ∀m Y H,W m Y H->
 c Y H λb H1=>if b=bC then ∃N:St->Hp->Prop,(∀σ' H',N σ' H'->∃m',m'<m/\W m' σ' H')/\tb {D with nx:=N,ct:=N,bk:=D.nx} Y H1 else D.nx Y H1
def NT{c:Expr}{body:bA dN}{tc:TT}{tb:TS}(hp:kf (cA X.prog X.w) X.A X.env X.xe)(hc:PT X c tc)(hb:pF X body tb):PS X (.While c body [] pos) (NS tc tb):=by
 intro pc s Y H D I h;obtain⟨W,⟨m0,w0⟩,turn⟩:=h;refine wpAny_While (codeAny_whileLoop (λn s'=>∃σ' H',bR X pc σ' H' s'/\W n σ' H') ?_ m0 ⟨Y,H,I,w0⟩);rintro n s1 ⟨σ1,H1,I1,w1⟩;refine gm hp (cT (hc pc s1 σ1 H1 _ I1 (turn n σ1 H1 w1)) λb s2 qz=>?_);obtain⟨H2,I2,q2⟩:=qz;cases b with
 |true=>
  obtain⟨N,hN,q2⟩:=q2;rw[cK bO];refine gm hp (cT (hb pc s2 σ1 H2 _ I2 q2) λf s3 q3=>?_);cases f with
  |next=>obtain⟨σ3,H3,I3,n3⟩:=q3;obtain⟨m',hm,w3⟩:=hN σ3 H3 n3;exact⟨m',hm,σ3,H3,I3,w3⟩|cont=>obtain⟨σ3,H3,I3,n3⟩:=q3;obtain⟨m',hm,w3⟩:=hN σ3 H3 n3;exact⟨m',hm,σ3,H3,I3,w3⟩|brk=>exact q3|ret v=>exact q3
 |false=>rw[dH tO];exact wx ⟨σ1,H2,I2,q2⟩
end
structure It where
 go:bD->Hp->Prop
 yld:bD->Hp->V->Hp->Prop
 stop:bD->Hp->Prop
def nR(X:Cx)(pc:bA (bI×cQ))(H:Hp)(b:bI):Prop:=
 H b=bK/\b≠X.env.locals/\b∉X.fs/\(b∈X.ex\/X.s₀.heap.objs.size<=b)/\(∀x c,X.env.cells.lookup x=bB c->c≠b)/\ ∀p∈X.pn++pc,p.1≠b
def bR.fpOk{X:Cx}{pc:bA (bI×cQ)}{Y:St}{H H':Hp}{s:bS}{b:bI}(I:bR X pc Y H s)(hb:s.heap.objs.size<=b)(hn:H' b=bK):nR X pc H' b:=by
 refine⟨hn,gt (mI I.lt hb),I.nofs hb,.inr (jS I.sz hb),λx c e z=>?_,λp hp z=>?_⟩
 .obtain⟨v,q⟩:=I.cell x c e;exact dD (mI q.lt (by rw[z];exact hb)) (ci _)
 .exact dD (mI (fU (I.pin p hp).1) (by rw[z];exact hb)) (ci _)
structure zG(P:fM)(w:cF)(K:cD)(tg:Expr)(J:It)(fp:bA bI)(it:bI)(tn:bD->cB->Prop):Prop where
 mem:it∈fp
 obj:∀i h,tn i h->∀b∈fp,∃o,h.get? b=bB o/\ ∀v,o.data≠ .cell v
 keep:∀i h h',tn i h->(∀b∈fp,∀o,h.get? b=bB o->h'.get? b=bB o)->tn i h'
 item:∀(X:Cx),X.prog=P->X.w=w->X.K=K->X.calm=bC->∀(i:bD) (pc:bA (bI×cQ)) (s:bS) (Y:St) (H:Hp) (E:bJ->bS->Prop),bR X pc Y H s->(∀b∈fp,nR X pc H b)->tn i s.heap->J.go i H->
  wpAny (cA P w) X.A (xH (.ref it)) (λr s1=>∃u,r=bB u/\
   wpAny (cA P w) X.A (wy tg (.ref it) u) (λ_ s2=>∃x H',bR X pc Y H' s2/\cX x u/\J.yld i H x H'/\tn (i+1) s2.heap/\ ∀b∈fp,H' b=bK) E s1) E s
 done:∀(X:Cx),X.prog=P->X.w=w->X.K=K->X.calm=bC->∀(i:bD) (pc:bA (bI×cQ)) (s:bS) (Y:St) (H:Hp) (E:bJ->bS->Prop),bR X pc Y H s->(∀b∈fp,nR X pc H b)->tn i s.heap->J.stop i H->
  wpAny (cA P w) X.A (xH (.ref it)) (λr s1=>r=bK/\bR X pc Y H s1) E s
 self:∀(A:gK) (i:bD) (s:bS) (Q:bJ->bS->Prop) (E:bJ->bS->Prop),tn i s.heap->Q (.ref it) s->wpAny (cA P w) A (yo (.ref it)) Q E s
abbrev TI:=St->Hp->(It->Hp->Prop)->Prop
def EX(X:Cx)(pc:bA (bI×cQ))(Y:St)(tg:Expr)(R:It->Hp->Prop)(itv:bJ)(s2:bS):Prop:=
 ∃(it:bI) (fp:bA bI) (tn:bD->cB->Prop) (J:It) (H':Hp),itv= .ref it/\bR X pc Y H' s2/\zG X.prog X.w X.K tg J fp it tn/\tn 0 s2.heap/\(∀b∈fp,nR X pc H' b)/\R J H'
def PI(X:Cx)(tg iter:Expr)(wi:TI):Prop:=
 ∀(pc:bA (bI×cQ)) (s:bS) (Y:St) (H:Hp) (R:It->Hp->Prop),bR X pc Y H s->wi Y H R->
  wpAny (cA X.prog X.w) X.A (dX iter X.env) (λv s1=>wpAny (cA X.prog X.w) X.A (yo v) (EX X pc Y tg R) X.xe s1) X.xe s
def lg{M:Model}{A:gK}{E:bJ->bS->Prop}{s:bS}{tg:Expr}{it:bI}{u:bJ}{o:cQ}{n:lB}{vs:fQ bJ}{Q:aN->bS->Prop}(ho:s.heap.get? it=bB o)(hc:o.cls= .type n)(hd:o.data= .fields vs)
 (hn: ["enumerate","zip","dict_itemiterator","dict_reverseitemiterator","odict_iterator","itertools.zip_longest","itertools.pairwise"].contains n=bH) (hQ:Q () s):wpAny M A (wy tg (.ref it) u) Q E s:=by
 unfold wy
 cases tg<;>first
  |exact dM hQ
  | (cases u<;>first
      |exact dM hQ
      | (refine bV (wpAny_load ho ?_)
         rw[hc,hd];show wpAny M A (if(["enumerate","zip","dict_itemiterator","dict_reverseitemiterator","odict_iterator","itertools.zip_longest","itertools.pairwise"].contains n&&vs[0]? ==bB (mV _))=bC then _ else _) Q E s;rw[dH (by intro h;rw[hn,Bool.false_and]at h;cases h)];exact dM hQ))
noncomputable def EY(K:cD)(a:bI):It:=
 ⟨λi H=>∃xs x,gS K H a xs/\xs[i]? =bB x,λi H x H'=>H'=H/\ ∀xs,gS K H a xs->xs[i]? =bB x,λi H=>∃xs,gS K H a xs/\xs.length<=i⟩
noncomputable def EZ(K:cD)(a:bI):It:=
 ⟨λi H=>∃xs x,jH K H a xs/\xs[i]? =bB x,λi H x H'=>H'=H/\ ∀xs,jH K H a xs->xs[i]? =bB x,λi H=>∃xs,jH K H a xs/\xs.length<=i⟩
noncomputable def se(lo:bG)(n:bD):It:=⟨λi _=>i<n,λi H x H'=>H'=H/\x= .int (lo+i),λi _=>n<=i⟩
def NU{P:fM}{w:cF}{K:cD}{tg:Expr}(a it:bI):zG P w K tg (EY K a) [it] it (λi h=>h.IsListIter it a i)where
 mem:=cO
 obj:=λi h st b hb=>by
  have e:b=it:=by simpa using hb
  subst e;obtain⟨o,e,c,d⟩:=st;exact⟨o,e,λv z=>by rw[d]at z;cases z⟩
 keep:=λi h h' st k=>st.at λo e=>k it cO o e
 item:=by
  intro X hP hw hK hc i pc s Y H E I hf st hg;subst hP hw hK;obtain⟨xs,x,hq,hx⟩:=hg;obtain⟨its,rv,p,hz⟩:=I.list hq;obtain⟨u,hu,ru⟩:=rv.get hx;obtain⟨f0,f1,f2,f3,f4,f5⟩:=hf it cO;refine wpAny_pyNext_list_item st p.isList (x:=u) (by simpa using hu) λh' st' sb=>?_
  have I1:bR X pc Y H {s with heap:=h'}:=I.turned (t':=s.toks) (λb o hb e=>(sb.2 b hb).trans e) f0 f1 f3 f4 f5;obtain⟨o,e,c,d⟩:=id st';exact⟨u,rfl,lg (s:={s with heap:=h'}) e c d jB ⟨x,H,I1,ru,⟨rfl,λys hy=>by rw[I.list_inj hy hq];exact hx⟩,st',λb hb=>(hf b hb).1⟩⟩
 done:=by intro X hP hw hK hc i pc s Y H E I hf st hg;subst hP hw hK;obtain⟨xs,hq,hx⟩:=hg;obtain⟨its,rv,p,hz⟩:=I.list hq;obtain⟨f0,f1,f2,f3,f4,f5⟩:=hf it cO;have hl:=rv.length;exact wpAny_pyNext_list_end (I.ok.hd hc) st p.isList (by simp;lia) λh' eb=>⟨rfl,I.turned (t':=s.toks) (λb o hb e=>eb b o hb e) f0 f1 f3 f4 f5⟩
 self:=λ_ _ _ _ _ st h=>wpAny_pyIter_listiter st h
def NV{P:fM}{w:cF}{K:cD}{tg:Expr}(a it:bI):zG P w K tg (EZ K a) [it] it (λi h=>h.IsTupleIter it a i)where
 mem:=cO
 obj:=λi h st b hb=>by
  have e:b=it:=by simpa using hb
  subst e;obtain⟨o,e,c,d⟩:=st;exact⟨o,e,λv z=>by rw[d]at z;cases z⟩
 keep:=λi h h' st k=>st.at λo e=>k it cO o e
 item:=by
  intro X hP hw hK hc i pc s Y H E I hf st hg;subst hP hw hK;obtain⟨xs,x,hq,hx⟩:=hg;obtain⟨its,rv,p,hz⟩:=I.tuple hq;obtain⟨u,hu,ru⟩:=rv.get hx;obtain⟨f0,f1,f2,f3,f4,f5⟩:=hf it cO;refine KZ st (show s.heap.IsTuple a its.toArray from p) (x:=u) (by simpa using hu) λh' st' sb=>?_
  have I1:bR X pc Y H {s with heap:=h'}:=I.turned (t':=s.toks) (λb o hb e=>(sb.2 b hb).trans e) f0 f1 f3 f4 f5;obtain⟨o,e,c,d⟩:=id st';exact⟨u,rfl,lg (s:={s with heap:=h'}) e c d jB ⟨x,H,I1,ru,⟨rfl,λys hy=>by rw[I.tuple_inj hy hq];exact hx⟩,st',λb hb=>(hf b hb).1⟩⟩
 done:=by intro X hP hw hK hc i pc s Y H E I hf st hg;subst hP hw hK;obtain⟨xs,hq,hx⟩:=hg;obtain⟨its,rv,p,hz⟩:=I.tuple hq;obtain⟨f0,f1,f2,f3,f4,f5⟩:=hf it cO;have hl:=rv.length;exact K3 (I.ok.hd hc) st (show s.heap.IsTuple a its.toArray from p) (by simp;lia) λh' eb=>⟨rfl,I.turned (t':=s.toks) (λb o hb e=>eb b o hb e) f0 f1 f3 f4 f5⟩
 self:=λ_ _ _ _ _ st h=>wpAny_pyIter_tupleiter st h
theorem NW{P:fM}{w:cF}{K:W.Frag}{tg:Expr}(it:bI)(lo:bG)(n:bD):zG P w K tg (se lo n) [it] it (λi h=>IsRangeIter h it (lo+(i:bD)*1) ((n:bG)-(i:bD)) 1)where
 mem:=cO
 obj:=λi h st b hb=>by
  have e:b=it:=by simpa using hb
  subst e;exact⟨_,st,λv z=>by have z':D6 _=qm v:=z;cases z'⟩
 keep:=λi h h' st k=>k it cO _ st
 item:=by
  intro X hP hw hK hc i pc s Y H E I hf st hg;subst hP hw hK;obtain⟨f0,f1,f2,f3,f4,f5⟩:=hf it cO;have W:=Walks.range (prog:=X.prog) (w:=X.w) (I.ok.hd hc) it lo 1 n;refine W.item i s _ _ hg st λv h' tk hv st' kk=>?_
  obtain⟨t,rfl⟩:=hv;have I1:bR X pc Y H {s with heap:=h',toks:=tk}:=I.turned (λb o hb e=>kk b o (by simpa using hb) e) f0 f1 f3 f4 f5;refine⟨_,rfl,lg (s:={s with heap:=h',toks:=tk}) (n:="range_iterator") st' rfl rfl jB ⟨.int (lo+i),H,I1,⟨t,?_⟩,⟨rfl,rfl⟩,st',λb hb=>(hf b hb).1⟩⟩;rw[Int.mul_one]
 done:=by intro X hP hw hK hc i pc s Y H E I hf st hg;subst hP hw hK;obtain⟨f0,f1,f2,f3,f4,f5⟩:=hf it cO;exact wpAny_pyNext_range_end (I.ok.hd hc) st (by have:n<=i:=hg;lia) λh' eb=>⟨rfl,I.turned (t':=s.toks) (λb o hb e=>eb b o hb e) f0 f1 f3 f4 f5⟩
 self:=λ_ _ _ _ _ st h=>wpAny_pyIter_rangeiter st h
section
variable{X:Cx}{tg:Expr}
def NX{pc:bA (bI×cQ)}{Y:St}{H:Hp}{s:bS}{R:It->Hp->Prop}{E:bJ->bS->Prop}{lo hi:bG}{t u v:lG}{tk:bD}(I:bR X pc Y H s)(h1: -(2^62)<=lo)(h2:lo<2^62)(h3: -(2^62)<=hi)(h4:hi<2^62)
 (q:R (se lo (hi-lo).toNat) H):wpAny (cA X.prog X.w) X.A (yo (.ref s.heap.objs.size)) (EX X pc Y tg R) E {s with heap:=s.heap.push {cls:=.type "range",data:=.fields #[.int lo t,.int hi u,.int 1 v]},toks:=tk}:=by
 refine wpAny_pyIter_range (IsRange.new ..) (small_one h1 h2 h3 h4) ?_;have I1:bR X pc Y H {s with heap:=s.heap.push {cls:=.type "range",data:=.fields #[.int lo t,.int hi u,.int 1 v]},toks:=tk}:=I.kept λb o e=>fC _ e
 refine⟨(s.heap.push {cls:=.type "range",data:=.fields #[.int lo t,.int hi u,.int 1 v]}).objs.size,[(s.heap.push {cls:=.type "range",data:=.fields #[.int lo t,.int hi u,.int 1 v]}).objs.size],_,_,H,rfl,
  I1.kept (t':=tk) λb o e=>fC _ e,NW _ lo (hi-lo).toNat,?_,λb hb=>?_,q⟩
 .have e1:lo+((0:bD):bG)*1=lo:=by simp
  have e2:(((hi-lo).toNat:bD):bG)-((0:bD):bG)=XF lo hi 1:=by rw[rangeSize_one];split<;>lia
  show IsRangeIter _ _ (lo+((0:bD):bG)*1) ((((hi-lo).toNat:bD):bG)-((0:bD):bG)) 1;rw[e1,e2];exact lA _ bO
 .have e:b=(s.heap.push {cls:=.type "range",data:=.fields #[.int lo t,.int hi u,.int 1 v]}).objs.size:=by simpa using hb
  subst e;exact I1.fpOk (cZ _) (I1.hok.fresh (cZ _))
def NY(ta:TA):TI:=λY H R=>ta Y H λvs H1=>∃j:bG,vs= [.int j]/\ -(2^62)<=j/\j<2^62/\R (se 0 j.toNat) H1
def NZ{a:Expr}{ta:TA}{p pos:dJ}(hg:Gl X "range")(hm:X.mg "range" =bK)(ha:PA X [a] ta)(hs:fK [a] X.env= [(bH,dX a X.env)]:=by rfl):PI X tg (.Call (.Name "range" p) [a] [] pos) (NY ta):=by
 intro pc s Y H R I h;refine Call_ (iB I hg hm boot_range (v4 (cT (ha pos pc s Y H _ I h) λus s1 qz=>?_) hs rfl));obtain⟨vs,H1,I1,r1,q1⟩:=qz;obtain⟨j,e,q1,q2,q⟩:=q1;subst e;cases r1 with
 |cons r rr=>cases rr;obtain⟨t,rfl⟩:=r;exact call_range_1 (NX I1 cI cI q1 q2 (by simpa using q))
def N0(wi:TI)(g:TG)(tb:TS):TS:=λD Y H=>wi Y H λJ H1=>∃W:bD->bD->St->Hp->Prop,(∃m,W 0 m Y H1)/\ ∀i m Y H,W i m Y H->
 (J.stop i H/\D.nx Y H)\/(J.go i H/\ ∃N:St->Hp->Prop,(∀σ' H',N σ' H'->∃m',m'<m/\W (i+1) m' σ' H')/\ ∀x H',J.yld i H x H'->g x Y H' λσ2 H2=>tb {D with nx:=N,ct:=N,bk:=D.nx} σ2 H2)
noncomputable def li(fp:bA bI)(h:cB):bA (bI×cQ):=fp.filterMap λb=>(h.get? b).map λo=>(b,o)
def sf{fp:bA bI}{h:cB}{b:bI}{o:cQ}(hb:b∈fp)(e:h.get? b=bB o):(b,o)∈li fp h:=pp.mpr ⟨b,hb,by rw[e];rfl⟩
def N1{fp:bA bI}{h:cB}{p:bI×cQ}(hp:p∈li fp h):p.1∈fp/\h.get? p.1=some p.2:=by
 obtain⟨b,hb,e⟩:=pp.mp hp;cases q:h.get? b with
 |none=>rw[q]at e;cases e|some o=>rw[q]at e;have e':(b,o)=p:=jJ e;subst e';exact⟨hb,q⟩
def bR.pinned{pc:bA (bI×cQ)}{Y:St}{H:Hp}{s:bS}{fp:bA bI}(I:bR X pc Y H s)(hf:∀b∈fp,nR X pc H b)(ho:∀b∈fp,∃o,s.heap.get? b=bB o/\ ∀v,o.data≠ .cell v):bR X (pc++li fp s.heap) Y H s:=
 I.pins_of λp hp=>(jR.mp hp).elim (λz=>I.pin p (pO _ z)) λz=>by obtain⟨hb,e⟩:=N1 z;obtain⟨f0,f1,f2,_⟩:=hf p.1 hb;obtain⟨o,e',d⟩:=ho p.1 hb;rw[e]at e';cases e';exact⟨e,f0,f1,f2,d⟩
def bR.unpinned{pc pl:bA (bI×cQ)}{Y:St}{H:Hp}{s:bS}(I:bR X (pc++pl) Y H s):bR X pc Y H s:=I.pins_of λp hp=>I.pin p (pO _ (pA _ hp))
def E3{iter:Expr}{body:bA dN}{wi:TI}{g:TG}{tb:TS}{pos:dJ}(hp:kf (cA X.prog X.w) X.A X.env X.xe)(hc:X.calm=bC)(hi:PI X tg iter wi)(hg:PG X tg g)(hb:pF X body tb)
 (hs:∀x,ar iter X.env x=fE x:=by intro _;rfl):PS X (.For tg iter body [] pos) (N0 wi g tb):=by
 intro pc s Y H D I h;refine wpAny_For (cT (hi pc s Y H _ I h) λv s1 h1=>cT h1 λitv s2 h2=>?_) hs;obtain⟨it,fp,tn,J,H2,e,I2,T,st2,f2,W,⟨m0,w0⟩,turn⟩:=h2;subst e;have yZ:∀{H':Hp},(∀b∈fp,H' b=bK)->∀b∈fp,nR X pc H' b:=λhn b hb=>⟨hn b hb,(f2 b hb).2⟩
 refine codeAny_forLoop_any (λn s'=>∃i σ' H',bR X pc σ' H' s'/\tn i s'.heap/\(∀b∈fp,H' b=bK)/\W i n σ' H') ?_ m0 ⟨0,Y,H2,I2,st2,λb hb=>(f2 b hb).1,w0⟩;rintro n s3 ⟨i,σ3,H3,I3,st3,fr3,w3⟩;rcases turn i n σ3 H3 w3 with⟨stop,qn⟩|⟨go,N,hN,step⟩
 .refine gm hp (cT (T.done X bO bO bO hc i pc s3 σ3 H3 X.xe I3 (yZ fr3) st3 stop) λr s4 ⟨hr,I4⟩=>?_);subst hr;exact wx ⟨σ3,H3,I4,qn⟩
 .refine gm hp (cT (T.item X bO bO bO hc i pc s3 σ3 H3 X.xe I3 (yZ fr3) st3 go) λr s4 qz=>?_);obtain⟨u,hr,h4⟩:=qz;subst hr;refine gm hp (cT h4 λ_ s5 qz=>?_);obtain⟨x,H5,I5,r5,y5,st5,fr5⟩:=qz;have I5':=I5.pinned (yZ fr5) (T.obj _ _ st5);refine gm hp (cT (hg _ s5 σ3 H5 x u _ I5' r5 (step x H5 y5)) λ_ s6 qz=>?_);obtain⟨σ6,H6,I6,q6⟩:=qz;refine gm hp (cT (hb _ s6 σ6 H6 _ I6 q6) λf s7 q7=>?_);have again:∀{σ7:St} {H7:Hp},bR X (pc++li fp s5.heap) σ7 H7 s7->N σ7 H7->∃m,m<n/\ ∃i σ' H',bR X pc σ' H' s7/\tn i s7.heap/\(∀b∈fp,H' b=bK)/\W i m σ' H':=λ{σ7 H7} I7 n7=>by
   obtain⟨m',hm,w7⟩:=hN σ7 H7 n7;refine⟨m',hm,i+1,σ7,H7,I7.unpinned,T.keep _ _ _ st5 λb hb o e=>(I7.pin (b,o) (pO _ (pO _ (sf hb e)))).1,λb hb=>?_,w7⟩;obtain⟨o,e,d⟩:=T.obj _ _ st5 b hb;exact(I7.pin (b,o) (pO _ (pO _ (sf hb e)))).2.1
  cases f with
  |next=>obtain⟨σ7,H7,I7,n7⟩:=q7;exact again I7 n7|cont=>obtain⟨σ7,H7,I7,n7⟩:=q7;exact again I7 n7|brk=>obtain⟨σ7,H7,I7,q7⟩:=q7;exact⟨σ7,H7,I7.unpinned,q7⟩|ret v=>obtain⟨x7,σ7,H7,I7,r7,q7⟩:=q7;exact⟨x7,σ7,H7,I7.unpinned,r7,q7⟩
end
abbrev R2:=V->V->Hp->VK->Prop
def dQ(X:Cx)(f:bJ->bJ->pE bJ)(r:R2):Prop:=
 ∀(pc:bA (bI×cQ)) (s:bS) (Y:St) (H:Hp) (x y:V) (v u:bJ) (Q:VK),bR X pc Y H s->cX x v->cX y u->r x y H Q->
  wpAny (cA X.prog X.w) X.A (f v u) (EP X pc Y Q) X.xe s
def lj(X:Cx)(f:bJ->pE bJ)(r:V->Hp->VK->Prop):Prop:=
 ∀(pc:bA (bI×cQ)) (s:bS) (Y:St) (H:Hp) (x:V) (v:bJ) (Q:VK),bR X pc Y H s->cX x v->r x H Q->
  wpAny (cA X.prog X.w) X.A (f v) (EP X pc Y Q) X.xe s
def jE(X:Cx)(f:bJ)(r:bA V->Hp->VK->Prop):Prop:=
 ∀(pc:bA (bI×cQ)) (s:bS) (Y:St) (H:Hp) (xs:bA V) (us:bA bJ) (Q:VK),bR X pc Y H s->cW xs us->r xs H Q->
  wpAny (cA X.prog X.w) X.A (call f us) (EP X pc Y Q) X.xe s
def N2(X:Cx)(r:V->Hp->(bU->Hp->Prop)->Prop):Prop:=
 ∀(pc:bA (bI×cQ)) (s:bS) (Y:St) (H:Hp) (x:V) (v:bJ) (Q:bU->Hp->Prop),bR X pc Y H s->cX x v->r x H Q->
  wpAny (cA X.prog X.w) X.A (yp v) (TP X pc Y Q) X.xe s
noncomputable def lr(r:R2)(ta tb:TE):TE:=λY H Q=>ta Y H λx H1=>tb Y H1 λy H2=>r x y H2 Q
noncomputable def N3(r:V->Hp->VK->Prop)(ta:TE):TE:=λY H Q=>ta Y H λx H1=>r x H1 Q
noncomputable def rI(C:bG->bG->Prop)(g:bG->bG->V):R2:=λx y H Q=>∃i j,x= .int i/\y= .int j/\C i j/\Q (g i j) H
noncomputable def zH(g:bG->bG->V):R2:=λx y H Q=>∃i j,x= .int i/\y= .int j/\Q (g i j) H
def rU(g:bG->V):V->Hp->VK->Prop:=λx H Q=>∃i,x= .int i/\Q (g i) H
section
variable{X:Cx}{a b c:Expr}{ta tb tc:TE}{pos:dJ}
def y9(ha:PE X a ta)(hb:PE X b tb){pc:bA (bI×cQ)}{s:bS}{Y:St}{H:Hp}{R:V->V->Hp->Prop}(I:bR X pc Y H s)
 (h:ta Y H λx H1=>tb Y H1 λy H2=>R x y H2) {Q:bJ->bS->Prop} {f:bJ->bJ->pE bJ}
 (hf:∀v u s2 x y H2,bR X pc Y H2 s2->cX x v->cX y u->R x y H2->wpAny (cA X.prog X.w) X.A (f v u) Q X.xe s2):
 wpAny (cA X.prog X.w) X.A (dX a X.env) (λv s₁=>wpAny (cA X.prog X.w) X.A (dX b X.env) (λu s₂=>wpAny (cA X.prog X.w) X.A (f v u) Q X.xe s₂) X.xe s₁) X.xe s:=by
 refine cT (ha pc s Y H _ I h) λv s1 qz=>?_
 obtain⟨x,H1,I1,r1,q1⟩:=qz;refine cT (hb pc s1 Y H1 _ I1 q1) λu s2 qz=>?_
 obtain⟨y,H2,I2,r2,q2⟩:=qz;exact hf v u s2 x y H2 I2 r1 r2 q2
def E4{op:aF}{r:R2}(ho:dQ X (mU op) r)(ha:PE X a ta)(hb:PE X b tb):PE X (.BinOp a op b pos) (lr r ta tb):=by intro pc s Y H Q I h;exact wpAny_BinOp (y9 ha hb I h λv u s2 x y H2 I2 rx ry q=>ho pc s2 Y H2 x y v u Q I2 rx ry q)
def N6{op:UnaryOp}{r:V->Hp->VK->Prop}(ho:lj X (yh op) r)(ha:PE X a ta):PE X (.UnaryOp op a pos) (N3 r ta):=by intro pc s Y H Q I h;exact UnaryOp_ (cT (ha pc s Y H _ I h) λv s1 qz=>by obtain⟨x,H1,I1,r1,q1⟩:=qz;exact ho pc s1 Y H1 x v Q I1 r1 q1)
def sg{f:bJ->bJ->pE bJ}{C:bG->bG->Prop}{g:bG->bG->bG}
 (rule:∀(i j:bG) (t u:lG) (s:bS) (Q:bJ->bS->Prop) (E:bJ->bS->Prop),C i j->Q (.int (g i j) s.toks) {s with toks:=s.toks+1}->wpAny (cA X.prog X.w) X.A (f (.int i t) (.int j u)) Q E s):
 dQ X f (rI C λi j=>.int (g i j)):=by
 intro pc s Y H x y v u Q I rx ry h;obtain⟨i,j,rfl,rfl,hc,q⟩:=h;obtain⟨t,rfl⟩:=rx;obtain⟨t',rfl⟩:=ry;exact rule i j t t' s _ _ hc ⟨.int (g i j),H,I.tok _,⟨_,rfl⟩,q⟩
def za{f:bJ->bJ->pE bJ}{g:bG->bG->bG}
 (rule:∀(i j:bG) (t u:lG) (s:bS) (Q:bJ->bS->Prop) (E:bJ->bS->Prop),Q (.int (g i j) s.toks) {s with toks:=s.toks+1}->wpAny (cA X.prog X.w) X.A (f (.int i t) (.int j u)) Q E s):
 dQ X f (zH λi j=>.int (g i j)):=by
 intro pc s Y H x y v u Q I rx ry h;obtain⟨i,j,rfl,rfl,q⟩:=h;obtain⟨t,rfl⟩:=rx;obtain⟨t',rfl⟩:=ry;exact rule i j t t' s _ _ ⟨.int (g i j),H,I.tok _,⟨_,rfl⟩,q⟩
def zb{f:bJ->bJ->pE bJ}{g:bG->bG->bU}
 (rule:∀(i j:bG) (t u:lG) (s:bS) (Q:bJ->bS->Prop) (E:bJ->bS->Prop),Q (.bool (g i j)) s->wpAny (cA X.prog X.w) X.A (f (.int i t) (.int j u)) Q E s):
 dQ X f (zH λi j=>.b (g i j)):=by
 intro pc s Y H x y v u Q I rx ry h;obtain⟨i,j,rfl,rfl,q⟩:=h;obtain⟨t,rfl⟩:=rx;obtain⟨t',rfl⟩:=ry;exact rule i j t t' s _ _ ⟨.b (g i j),H,I,rfl,q⟩
def N7(i j:bG):Prop:=0<j/\j<1073741824
def N8(i j:bG):Prop:=0<=j/\j<=1000000/\i.natAbs<2^64
def zc(i j:bG):Prop:=(-(2^64)<i/\i<2^64)\/(-(2^64)<j/\j<2^64)
def zc.ok{i j:bG}(h:zc i j):IntMulOk i j:=by
 rcases h with⟨h1,h2⟩|⟨h1,h2⟩
 .exact .of_left (intBits_le_64 h1 h2)
 .exact .of_right (intBits_le_64 h1 h2)
def Oc:dQ X (mU .Add) (zH λi j=>.int (i+j)):=za λ_ _ _ _ _ _ _ q=>add_int q
def Oe:dQ X (mU .Sub) (zH λi j=>.int (i-j)):=za λ_ _ _ _ _ _ _ q=>sub_int q
def Of:dQ X (mU .Mult) (rI zc λi j=>.int (i*j)):=sg λ_ _ _ _ _ _ _ hc q=>mul_int q hc.ok
def Og:dQ X (mU .FloorDiv) (rI N7 λi j=>.int (i/j)):=sg λi j _ _ _ _ _ hc q=>by have h1:(0:bG)<j:=hc.1;have h2:j<1073741824:=hc.2;exact floordiv_int cI (by rw[Int.fdiv_eq_ediv_of_nonneg i cI];exact q) (.inl (PyProof.noPylong_small cI))
def Oh:dQ X (mU .Mod) (rI (λ_ j=>0<j) λi j=>.int (i%j)):=sg λi j _ _ _ _ _ hc q=>by have h1:(0:bG)<j:=hc;exact mod_int' cI (by rw[Int.fmod_eq_emod_of_nonneg i cI];exact q)
def Oi:dQ X (mU .Pow) (rI N8 λi j=>.int (i^j.toNat)):=sg λ_ _ _ _ _ _ _ hc q=>pow_int_small hc.1 hc.2.1 hc.2.2 q
def Oj:dQ X (xx .Add) (zH λi j=>.int (i+j)):=za λ_ _ _ _ _ _ _ q=>L1 q
def Ol{f:bJ->pE bJ}{g:bG->bG}
 (rule:∀(i:bG) (t:lG) (s:bS) (Q:bJ->bS->Prop) (E:bJ->bS->Prop),Q (.int (g i) s.toks) {s with toks:=s.toks+1}->wpAny (cA X.prog X.w) X.A (f (.int i t)) Q E s):
 lj X f (rU λi=>.int (g i)):=by
 intro pc s Y H x v Q I rx h;obtain⟨i,rfl,q⟩:=h;obtain⟨t,rfl⟩:=rx;exact rule i t s _ _ ⟨.int (g i),H,I.tok _,⟨_,rfl⟩,q⟩
def Om:lj X (yh .USub) (rU λi=>.int (-i)):=Ol λ_ _ _ _ _ q=>neg_int q
end
noncomputable def On:V->V->bU| .n,.n=>bC| .n,.int _=>bC| .int _,.n=>bC| .n,.b _=>bC| .b _,.n=>bC| .n,.str _=>bC| .str _,.n=>bC| .int _,.int _=>bC| .b _,.b _=>bC| .str _,.str _=>bC| .byt _,.byt _=>bC| .int _,.str _=>bC| .str _,.int _=>bC| .b _,.str _=>bC| .str _,.b _=>bC|_,_=>bH
def Oo:R2:=λx y H Q=>On x y=bC/\Q (.b (!cN (x=y))) H
def Op{i j:bG}:cN (V.int i=V.int j)=(i==j):=by rw[wz];simp
def Oq{i j:bU}:cN (V.b i=V.b j)=(i==j):=by rw[wz];simp
def Os{i j:Str}:cN (V.str i=V.str j)=(i==j):=by rw[wz];simp
def Ot{i j:fQ UInt8}:cN (V.byt i=V.byt j)=(i.toList==j.toList):=by rw[wz];cases i;cases j;simp
section
variable{X:Cx}{a b c:Expr}{ta tb tc:TE}{pos:dJ}
def nS{pc:bA (bI×cQ)}{Y:St}{H:Hp}{s:bS}{Q:VK}{k k':bU}(I:bR X pc Y H s)(q:Q (.b k) H)(e:k=k'):EP X pc Y Q (.bool k') s:=by subst e;exact⟨.b k,H,I,rfl,q⟩
theorem E5:dQ X (hJ .NotEq) Oo:=by
 intro pc s Y H x y v u Q I rx ry h;obtain⟨hs,q⟩:=h;cases x with
 |n=>
  cases rx;cases y with
  |n=>cases ry;exact Xp (nS I q cO)|b j=>cases ry;exact Xq (nS I q cO)|int j=>obtain⟨t',rfl⟩:=ry;exact Xv (nS I q cO)|str j=>obtain⟨t',rfl⟩:=ry;exact Xw (nS I q cO)|_=>exact dD (show bH=bC from hs) tO
 |b i=>
  cases rx;cases y with
  |n=>cases ry;exact Xr (nS I q cO)|b j=>cases ry;exact ne_bool (nS I q (kT not Oq))|str j=>obtain⟨t',rfl⟩:=ry;exact Xs (nS I q cO)|_=>exact dD (show bH=bC from hs) tO
 |int i=>
  obtain⟨t,rfl⟩:=rx;cases y with
  |n=>cases ry;exact Xx (nS I q cO)|int j=>obtain⟨t',rfl⟩:=ry;exact ne_int (nS I q (kT not Op))|str j=>obtain⟨t',rfl⟩:=ry;exact Xy (nS I q cO)|_=>exact dD (show bH=bC from hs) tO
 |str i=>
  obtain⟨t,rfl⟩:=rx;cases y with
  |n=>cases ry;exact Xz (nS I q cO)|b j=>cases ry;exact Xt (nS I q cO)|int j=>obtain⟨t',rfl⟩:=ry;exact XA (nS I q cO)|str j=>obtain⟨t',rfl⟩:=ry;exact ne_str (nS I q (kT not Os))|_=>exact dD (show bH=bC from hs) tO
 |byt i=>
  obtain⟨t,rfl⟩:=rx;cases y with
  |byt j=>obtain⟨t',rfl⟩:=ry;exact W.ne_bytes (nS I q (kT not Ot))|_=>exact dD (show bH=bC from hs) tO
 |_=>cases y<;>exact dD (show bH=bC from hs) tO
def Ov:dQ X (hJ .Lt) (zH λi j=>.b (cN (i<j))):=zb λ_ _ _ _ _ _ _ q=>lt_int q
def Ow:dQ X (hJ .LtE) (zH λi j=>.b (cN (i<=j))):=zb λ_ _ _ _ _ _ _ q=>le_int q
def Ox:dQ X (hJ .Gt) (zH λi j=>.b (cN (j<i))):=zb λ_ _ _ _ _ _ _ q=>gt_int q
def Oy:dQ X (hJ .Lt) (λx y H Q=>∃i j,x= .str i/\y= .str j/\Q (.b (cN (i.cps.toList<j.cps.toList))) H):=by intro pc s Y H x y v u Q I rx ry h;obtain⟨i,j,rfl,rfl,q⟩:=h;obtain⟨t,rfl⟩:=rx;obtain⟨t',rfl⟩:=ry;exact lt_str (nS I q rfl)
def Oz:dQ X (hJ .Is) (λx y H Q=>y= .n/\Q (.b (cN (x= .n))) H):=by
 intro pc s Y H x y v u Q I rx ry h;obtain⟨rfl,q⟩:=h;cases ry;refine is_none_gen (nS I q ?_)
 cases x<;>first
  | (cases rx;rfl)
  | (obtain⟨t,rfl⟩:=rx;rfl)
def OA:dQ X (hJ .IsNot) (λx y H Q=>y= .n/\Q (.b (!cN (x= .n))) H):=by
 intro pc s Y H x y v u Q I rx ry h;obtain⟨rfl,q⟩:=h;cases ry;refine isnot_none_gen (nS I q ?_)
 cases x<;>first
  | (cases rx;rfl)
  | (obtain⟨t,rfl⟩:=rx;rfl)
def OB(b:Expr){op:xJ}(h:op≠ .In:=by decide)(h2:op≠ .NotIn:=by decide):tQ op b=bH:=by
 have e1:(op==CmpOp.In)=bH:=by cases op<;>first|rfl|exact dD bO h
 have e2:(op==CmpOp.NotIn)=bH:=by cases op<;>first|rfl|exact dD bO h2
 cases b<;>simp[tQ,e1,e2]
def E6{op:xJ}{r:R2}(ho:dQ X (hJ op) r)(ha:PE X a ta)(hb:PE X b tb)(hm:tQ op b=bH):PE X (.Compare a [op] [b] pos) (lr r ta tb):=by intro pc s Y H Q I h;exact wpAny_Compare1 (y9 ha hb I h λv u s2 x y H2 I2 rx ry q=>ho pc s2 Y H2 x y v u Q I2 rx ry q) hm
noncomputable def E8(t:TE):TT:=λY H Q=>t Y H λx H'=>∃k,x= .b k/\Q k H'
def zd{op:xJ}{r:R2}(ho:dQ X (hJ op) r)(ha:PE X a ta)(hb:PE X b tb)(hm:tQ op b=bH):PT X (.Compare a [op] [b] pos) (E8 (lr r ta tb)):=by
 intro pc s Y H Q I h
 refine wpAny_isTrue_Compare1 (cT (ha pc s Y H _ I h) λv s1 ⟨x,H1,I1,r1,q1⟩=>cT (hb pc s1 Y H1 _ I1 q1) λu s2 ⟨y,H2,I2,r2,q2⟩=>
  cT (ho pc s2 Y H2 x y v u _ I2 r1 r2 q2) λc s3 ⟨z,H3,I3,r3,k,e,q3⟩=>?_) hm
 subst e;cases r3;exact aq ⟨H3,I3,q3⟩
noncomputable def ze(r r':R2)(ta tb tc:TE):TE:=λY H Q=>ta Y H λx H1=>tb Y H1 λy H2=>r x y H2 λz H3=>∃k,z= .b k/\
 (if k=bC then tc Y H3 λw' H4=>r' y w' H4 Q else Q (.b bH) H3)
def OC{op op':xJ}{r r':R2}(ho:dQ X (hJ op) r)(ho':dQ X (hJ op') r')(ha:PE X a ta)(hb:PE X b tb)(hc:PE X c tc)
 (hm:qo [op,op'] [b,c]=false:=by with_unfolding_all rfl):PE X (.Compare a [op,op'] [b,c] pos) (ze r r' ta tb tc):=by
 intro pc s Y H Q I h
 refine Compare_chain (cT (ha pc s Y H _ I h) λv s1 ⟨x,H1,I1,r1,q1⟩=>chain_link (cT (hb pc s1 Y H1 _ I1 q1) λu s2 ⟨y,H2,I2,r2,q2⟩=>
  cT (ho pc s2 Y H2 x y v u _ I2 r1 r2 q2) λd s3 ⟨z,H3,I3,r3,k,e,q3⟩=>?_)) hm
 subst e;cases r3;refine aq ?_;cases k with
 |false=>exact ite_ff ⟨.b false,H3,I3,rfl,q3⟩|true=>exact ite_tt (chain_last (cT (hc pc s3 Y H3 _ I3 q3) λw' s4 qz=>by obtain⟨z',H4,I4,r4,q4⟩:=qz;exact ho' pc s4 Y H4 y z' u w' Q I4 r2 r4 q4))
def OD{op op':xJ}{r r':R2}(ho:dQ X (hJ op) r)(ho':dQ X (hJ op') r')(ha:PE X a ta)(hb:PE X b tb)(hc:PE X c tc)
 (hm:qo [op,op'] [b,c]=false:=by with_unfolding_all rfl):PT X (.Compare a [op,op'] [b,c] pos) (E8 (ze r r' ta tb tc)):=by
 intro pc s Y H Q I h
 refine isTrue_chain (cT (ha pc s Y H _ I h) λv s1 ⟨x,H1,I1,r1,q1⟩=>test_link (cT (hb pc s1 Y H1 _ I1 q1) λu s2 ⟨y,H2,I2,r2,q2⟩=>
  cT (ho pc s2 Y H2 x y v u _ I2 r1 r2 q2) λd s3 ⟨z,H3,I3,r3,k,e,q3⟩=>?_)) hm
 subst e;cases r3;refine aq ?_;cases k with
 |false=>obtain⟨k',e',q'⟩:=q3;cases e';exact ite_ff ⟨H3,I3,q'⟩|true=>refine ite_tt (test_last (cT (hc pc s3 Y H3 _ I3 q3) λw' s4 ⟨z',H4,I4,r4,q4⟩=>cT (ho' pc s4 Y H4 y z' u w' _ I4 r2 r4 q4) λd' s5 qz=>?_));obtain⟨z2,H5,I5,r5,k2,e2,q5⟩:=qz;subst e2;cases r5;exact aq ⟨H5,I5,q5⟩
def zf(K:cD)(x:V)(H:Hp)(k:bU):Prop:=
 match x with
 | .n=>k=bH| .b b=>k=b| .int i=>k=(i != 0)| .str y=>y.length<=cJ/\k=((y.length:bG) != 0)| .byt y=>y.size<=cJ/\k=((y.size:bG) != 0)| .ref p=>(∃xs,gS K H p xs/\k= !xs.isEmpty)\/(∃xs,jH K H p xs/\k= !xs.isEmpty)\/ ∃kvs,H p=bB (.dK kvs)/\k= !kvs.isEmpty|_=>jF
def OE{κ:Type}{kvs:bA (κ×V)}{vs:bA (κ×bJ)}(r:KV kvs vs):(!vs.isEmpty)= !kvs.isEmpty:=by cases r<;>rfl
def E9{xs:bA V}{its:bA bJ}(r:cW xs its):(!its.toArray.isEmpty)= !xs.isEmpty:=by cases r<;>simp
def iE:(cJ:bD)<2^63:=by rw[sR];decide
theorem OF:N2 X (λx H Q=>∃k,zf X.K x H k/\Q k H):=by
 intro pc s Y H x v Q I rx h;obtain⟨k,e,q⟩:=h;have hl:=iE;have hs:cJ=16777216:=sR;cases x with
 |n=>cases rx;have e':k=bH:=e;subst e';exact truthy_none ⟨H,I,q⟩|b b=>cases rx;have e':k=b:=e;subst e';exact aq ⟨H,I,q⟩|int i=>obtain⟨t,rfl⟩:=rx;have e':k=(i != 0):=e;subst e';exact PySem.P.truthy_int ⟨H,I,q⟩|str y=>obtain⟨t,rfl⟩:=rx;obtain⟨hy,e'⟩:y.length<=cJ/\k=((y.length:bG) != 0):=e;subst e';exact PySem.P.truthy_str cI ⟨H,I.tok _,q⟩|byt y=>obtain⟨t,rfl⟩:=rx;obtain⟨hy,e'⟩:y.size<=cJ/\k=((y.size:bG) != 0):=e;subst e';exact W.truthy_bytes cI ⟨H,I.tok _,q⟩|ref p=>
  cases rx;have e':(∃xs,gS X.K H p xs/\k= !xs.isEmpty)\/(∃xs,jH X.K H p xs/\k= !xs.isEmpty)\/ ∃kvs,H p=bB (.dK kvs)/\k= !kvs.isEmpty:=e;rcases e' with⟨xs,hx,e'⟩|⟨xs,hx,e'⟩|⟨kvs,hx,e'⟩
  .subst e';obtain⟨its,r,pl,hz⟩:=I.list hx;have hlen:=r.length;exact wpAny_truthy_list pl.isList (by simp only[gQ];lia) ⟨H,I.tok _,by rw[E9 r];exact q⟩
  .subst e';obtain⟨its,r,pl,hz⟩:=I.tuple hx;have hlen:=r.length;exact truthy_tuple pl (by simp only[gQ];lia) ⟨H,I.tok _,by rw[E9 r];exact q⟩
  .subst e';obtain⟨hz,hS,vs,r,m⟩:kvs.length<=cJ/\(p==qU)=bH/\ ∃vs,KV kvs vs/\s.heap.DictOf (jX X.prog X.w) p vs:=I.hok p _ hx;have hlen:kvs.length=vs.length:=gq r;exact wpAny_truthy_dict hS m cI ⟨H,I.tok _,by rw[OE r];exact q⟩
 |_=>exact(show jF from e).elim
def OG(ha:PE X a ta)(he:∀whole,isTrue a X.env whole=(do let v <-whole;iu a.pos;c6 [v] (yp v))):
 PT X a (λY H Q=>ta Y H λx H'=>∃k,zf X.K x H' k/\Q k H'):=by
 intro pc s Y H Q I h;exact isTrue_plain (cT (ha pc s Y H _ I h) λv s1 qz=>by obtain⟨x,H1,I1,r1,q1⟩:=qz;exact OF pc s1 Y H1 x v Q I1 r1 q1) (he _)
def OH:dQ X (mU .Add) (λx y H Q=>∃i j,x= .str i/\y= .str j/\i.length+j.length<=cJ/\Q (.str (i++j)) H):=by intro pc s Y H x y v u Q I rx ry h;obtain⟨i,j,rfl,rfl,hz,q⟩:=h;obtain⟨t,rfl⟩:=rx;obtain⟨t',rfl⟩:=ry;exact add_str (λt' tk=>⟨.str (i++j),H,I.tok _,⟨_,rfl⟩,q⟩) hz
def pG{x:V}{us:bA bJ}(r:cW [x] us):∃u,us= [u]/\cX x u:=by
 cases r with
 |cons r1 r2=>cases r2;exact⟨_,rfl,r1⟩
def zg{x y:V}{us:bA bJ}(r:cW [x,y] us):∃u w',us= [u,w']/\cX x u/\cX y w':=by
 cases r with
 |cons r1 r2=>
  cases r2 with
  |cons r3 r4=>cases r4;exact⟨_,_,rfl,r1,r3⟩
def OI:jE X (.builtin "abs") (λxs H Q=>∃i,xs= [.int i]/\Q (.int (if i<0 then-i else i)) H):=by intro pc s Y H xs us Q I r h;obtain⟨i,rfl,q⟩:=h;obtain⟨u,rfl,t,rfl⟩:=pG r;exact call_abs_int λu tk=>⟨.int (if i<0 then-i else i),H,I.tok _,⟨_,rfl⟩,q⟩
def OJ(hc:X.calm=bC):jE X (.builtin "max") (λxs H Q=>∃i j,xs= [.int i,.int j]/\Q (.int (if j>i then j else i)) H):=by
 intro pc s Y H xs us Q I r h;obtain⟨i,j,rfl,q⟩:=h;obtain⟨u,w',rfl,⟨t,rfl⟩,⟨t',rfl⟩⟩:=zg r;refine max_two_ints (I.ok.hd hc) λh' tk k=>⟨_,H,I.kept k,?_,q⟩
 by_cases hj:j>i
 .rw[cK hj,cK hj];exact⟨_,rfl⟩
 .rw[dH hj,dH hj];exact⟨_,rfl⟩
def OK(hc:X.calm=bC):jE X (.builtin "min") (λxs H Q=>∃i j,xs= [.int i,.int j]/\Q (.int (if j<i then j else i)) H):=by
 intro pc s Y H xs us Q I r h;obtain⟨i,j,rfl,q⟩:=h;obtain⟨u,w',rfl,⟨t,rfl⟩,⟨t',rfl⟩⟩:=zg r;refine min_two_ints (I.ok.hd hc) λh' tk k=>⟨_,H,I.kept k,?_,q⟩
 by_cases hj:j<i
 .rw[cK hj,cK hj];exact⟨_,rfl⟩
 .rw[dH hj,dH hj];exact⟨_,rfl⟩
def Fb:jE X (.type "int") (λxs H Q=>(∃i,xs= [.int i]/\Q (.int i) H)\/ ∃k,xs= [.b k]/\Q (.int (if k then 1 else 0)) H):=by
 intro pc s Y H xs us Q I r h;rcases h with⟨i,rfl,q⟩|⟨k,rfl,q⟩
 .obtain⟨u,rfl,t,rfl⟩:=pG r;exact call_int_int ⟨.int i,H,I,⟨_,rfl⟩,q⟩
 .obtain⟨u,rfl,r1⟩:=pG r;cases r1;exact call_int_bool ⟨.int (if k then 1 else 0),H,I.tok _,⟨_,rfl⟩,q⟩
def OL:jE X (.type "str") (λxs H Q=>∃i,xs= [.int i]/\i.natAbs.log2<1920/\Q (.str (qt i)) H):=by intro pc s Y H xs us Q I r h;obtain⟨i,rfl,hz,q⟩:=h;obtain⟨u,rfl,t,rfl⟩:=pG r;exact PySem.P.str_of_int hz ⟨.str _,H,I.tok _,⟨_,rfl⟩,q⟩
end
structure dn(h:cB)(x dx C:bI)(mA:Str->bQ bJ):Prop where
 obj:h.get? x=bB (cu C dx)
 ns:h.Ns1 dx mA
 ne:dx≠x
def OM{h:cB}{dx:bI}{mA:Str->bQ bJ}(n:h.Ns1 dx mA):∃od,h.get? dx=bB od/\ ∀name,ye name od=bB (mA name):=by
 obtain⟨o,es,ep,ho,hd,hk,_,hm⟩:=n;refine⟨o,ho,λname=>?_⟩;have e:=hm name;unfold nsFind yq at e;rw[<-wj]at e;unfold ye;rw[hd];dsimp only;split
 .rename_i y q;rw[q]at e;exact kT bB e
 .rename_i q;rw[q]at e;have a:es.toList.any (·.refKey)=bH:=by
   rw[LA];intro y hy;obtain⟨z,t,hkey⟩:=hk y (Array.mem_toList_iff.mp hy);simp[DictEntry.refKey,hkey]
  have a': ¬ es.toList.any (·.refKey)=bC:=by rw[a];exact tO
  rw[dH a'];exact kT bB e
def dn.look{h:cB}{x dx C:bI}{mA:Str->bQ bJ}(I:dn h x dx C mA):∃od,W.InstAt h x (cu C dx) C (bB od)/\ ∀name,ye name od=bB (mA name):=
 let ⟨od,ho,hl⟩:=OM I.ns
 ⟨od,⟨I.obj,rfl,rfl,ho⟩,hl⟩
section
variable{prog:fM}{w:cF}{A:gK}{E:bJ->bS->Prop}{s:bS}{K:cD}{x dx C f:bI}{mA:Str->bQ bJ}{name:Str}{v:bJ}
theorem ON{expr:bU}{Q:bJ->bS->Prop}(X:K.In s.heap)(I:dn s.heap x dx C mA)(hg:g7 K C name=bC)(hh:gx K C=bC)
 (ha:pD K (.ref C) name=bB bK) (hv:mA name=bB v) (hv':W.handedIn v=bC) (h:Q v {s with toks:=s.toks+1}):
 wpAny (cA prog w) A (getAttr (.ref x) name expr) Q E s:=by
 obtain⟨od,J,hl⟩:=I.look;exact W.get_value X J (DR hg).1 (W.findObj_own hh ha bO (by rw[hl,hv])) hv' h
theorem OO{pl:pE bU}{Q:bJ×bA bJ->bS->Prop}(X:K.In s.heap)(I:dn s.heap x dx C mA)(hg:g7 K C name=bC)
 (hf:pD K (.ref C) name=bB (bB (.ref f))) (ht:aL K (.ref f)=bC) (hv:mA name=bK) (h:Q (.ref f,[.ref x]) s):
 wpAny (cA prog w) A (qp (.ref x) name pl) Q E s:=by
 obtain⟨od,J,hl⟩:=I.look;exact W.method_fn X J (DR hg).1 (DR hg).2 hf (qW.mp ht) (by show(ye name od).map (·.isSome)=bB bH;rw[hl,hv];rfl) h
theorem OP{ns:bA Str}{Q:aN->bS->Prop}(X:K.In s.heap)(I:dn s.heap x dx C mA)
 (hs:pD K (.ref C) "__setattr__" =bB (bB (.builtin "object.__setattr__"))) (hp:qh K C=bC) (ht:Ek K C name=bB bK) (hh:gx K C=bC)
 (hw:D0 mA ns) (hsz:ns.length<=cJ)
 (h:∀h',dn h' x dx C (λy=>if y=name then bB v else mA y)->yU dx s.heap h'->Q () {s with heap:=h',toks:=s.toks+2}):
 wpAny (cA prog w) A (setAttr (.ref x) name v) Q E s:=by
 obtain⟨od,J,hl⟩:=I.look;refine W.set_plain X J hs (W.osa_open (s:={s with toks:=s.toks+1}) (r:=bK) X J hp ht λb=>?_);obtain⟨cd,hc,hd'⟩:=W.any_some hh;have hx:s.heap.get? x=bB ⟨.ref C,bB dx,.plain, #[]⟩:=I.obj;refine bV (dM (bV (bV (wpAny_loadPart hx (bV (W.Looks.here (s:={s with toks:=s.toks+1}) (W.looks_clsIn X hc) ?_))))));rw[hd'];refine dM (a:=bB dx) (bV (dM (bV ?_)));refine wpAny_nsSet1 (s:={s with toks:=s.toks+1}) I.ns λh' hn2 hs2=>?_
 obtain⟨oD,esD,epD,hoD,hdD,hcD⟩:=hn2.count (XV name v hw);refine bV (wpAny_lookBehind hoD (by rw[hdD];exact pastItsLine_dict (jS hcD (by rw[dC];lia))) ?_);exact dM (h _ ⟨(hs2.2 _ (c5 I.ne)).trans I.obj,hn2,I.ne⟩ hs2)
theorem OQ{R:ko->bS->Prop}{vs:bA bJ}{kw:bA (Str×bJ)}(X:K.In s.heap)(hm:qq K C=bC)
 (hi:pD K (.ref C) "__init__" =bB (bB (.ref f))) (hf:kl K (.ref f)=bB (.type "function"))
 (h:codeAny (cA prog w) (A.under (.builtin "type.__call__" ⟨.ref C::vs,kw⟩)) (.call (.ref f) ⟨.ref (s.heap.objs.size+1)::vs,kw⟩) (W.InitBack (s.heap.objs.size+1) R)
   {s with heap:=(s.heap.push aB).push (cu C s.heap.objs.size)}):
 codeAny (cA prog w) A (.call (.ref C) ⟨vs,kw⟩) R s:=by
 obtain⟨hh,g,d,t,os⟩:=s;exact W.make_core (W.makes_of X hm) (W.looks_findIn X hi) (λself=>W.bind_fn X self hf) (.inl bO) h
end
noncomputable def pT(f:Str)(v:V):bA (Str×V)->bA (Str×V)| []=>[(f,v)]| (g,x)::r=>if g=f then(g,v)::r else(g,x)::pT f v r
theorem Fe(f g:Str)(v:V):∀fs:bA (Str×V),(pT f v fs).lookup g=if g=f then bB v else fs.lookup g
 | []=>by
  show aD g [(f,v)]=_;by_cases h:g=f
  .have hb:(g==f)=bC:=qW.mpr h;simp only[aD,hb,cK h]
  .have hb:(g==f)=bH:=lE.mpr h;simp only[aD,hb,dH h]
 | (k,x)::r=>by
  have ih:=Fe f g v r;rw[show pT f v ((k,x)::r)=(if k=f then(k,v)::r else(k,x)::pT f v r)from bO];by_cases hk:k=f
  .rw[cK hk];by_cases h:g=k
   .have hb:(g==k)=bC:=qW.mpr h;simp only[aD,hb,cK (h.trans hk)]
   .have hb:(g==k)=bH:=lE.mpr h;simp only[aD,hb,dH (λe:g=f=>h (e.trans hk.symm))]
  .rw[dH hk];by_cases h:g=k
   .have hb:(g==k)=bC:=qW.mpr h;simp only[aD,hb,dH (λe:g=f=>hk (h.symm.trans e))]
   .have hb:(g==k)=bH:=lE.mpr h;simp only[aD,hb];exact ih
theorem zh(f:Str)(v:V):∀fs:bA (Str×V),f∈(pT f v fs).map (·.1)/\ ∀g,g∈fs.map (·.1)->g∈(pT f v fs).map (·.1)
 | []=>⟨by simp[pT],λg h=>by simp at h⟩| (k,x)::r=>by
  obtain⟨i1,i2⟩:=zh f v r;rw[show pT f v ((k,x)::r)=(if k=f then(k,v)::r else(k,x)::pT f v r)from bO];by_cases hk:k=f
  .rw[cK hk];subst hk;exact⟨cO,λg h=>by simpa using h⟩
  .rw[dH hk];refine⟨?_,λg h=>?_⟩
   .rw[dY];exact gI _ i1
   .rw[dY]at h|-;rcases kS.mp h with e|e
    .exact kS.mpr (.inl e)
    .exact gI _ (i2 g e)
theorem Ff(f:Str)(v:V):∀fs:bA (Str×V),(pT f v fs).length<=fs.length+1
 | []=>by simp[pT]| (k,x)::r=>by
  have ih:=Ff f v r;rw[show pT f v ((k,x)::r)=(if k=f then(k,v)::r else(k,x)::pT f v r)from bO];by_cases hk:k=f
  .rw[cK hk,dC,dC];lia
  .rw[dH hk,dC,dC];lia
def RelO.some_of{v:V}{o:bQ bJ}(r:RelO (some v) o):∃u,o=some u/\cX v u:=by
 cases o with
 |none=>exact(show jF from r).elim|some u=>exact⟨u,rfl,r⟩
def RelO.none_of{o:bQ bJ}(r:RelO none o):o=none:=by
 cases o with
 |none=>rfl|some u=>exact(show jF from r).elim
theorem OR{v:V}{u:bJ}(r:cX v u):W.handedIn u=bC:=by
 cases v with
 |n=>cases(show u=xD from r);rfl|b b=>cases(show u=Ea b from r);rfl|int i=>obtain⟨t,e⟩:=(show ∃t,u=ie i t from r);cases e;rfl|str x=>obtain⟨t,e⟩:=(show ∃t,u=ke x t from r);cases e;rfl|byt b=>obtain⟨t,e⟩:=(show ∃t,u=Mw b t from r);cases e;rfl|flt b=>obtain⟨t,e⟩:=(show ∃t,u=Mx b t from r);cases e;rfl|ref a=>cases(show u=jT a from r);rfl|ty n=>cases(show u=cq n from r);rfl
section
variable{P:fM}{w:cF}{H H':Hp}{h h':cB}{a C dx:bI}{fs fs':bA (Str×V)}
def zi(hok:jM P w H h)(e:H a=bB (.ins C dx fs)):∃mA,dn h a dx C mA/\(∀f,RelO (fs.lookup f) (mA f))/\D0 mA (fs.map (·.1))/\fs.length<=1000/\H dx=bB (.own a):=by obtain⟨d,z,ne,ob,mA,n,r,q⟩:=(show lZ P w H h a (.ins C dx fs)from hok a _ e);exact⟨mA,⟨ob,n,ne⟩,r,q,z,d⟩
end
structure qH(K:cD)(C:bI):Prop where
 pg:g7 K C Str.empty=bC
 hd:gx K C=bC
 po:qh K C=bC
 sa:pD K (.ref C) "__setattr__" =bB (bB (.builtin "object.__setattr__"))
def qH.get{K:cD}{C:bI}(c:qH K C)(f:Str):g7 K C f=bC:=c.pg
def zI(K:cD)(C:bI)(f:Str):Prop:=pD K (.ref C) f=bB bK
def zI.taker{K:cD}{C:bI}{f:Str}(n:zI K C f):Ek K C f=bB bK:=by unfold Ek;rw[show pD K (.ref C) f=bB bK from n];rfl
structure XY(K:cD)(C:bI)(f:Str)(v:V)(u:bJ):Prop where
 at_:pD K (.ref C) f=bB (bB u)
 rel:cX v u
 get:xk K u "__get__" =bB bK
 cp:W.copiedNames.contains f=bH
structure aO(K:cD)(C:bI)(m:Str)(f:bI):Prop where
 at_:pD K (.ref C) m=bB (bB (.ref f))
 fn:aL K (.ref f)=bC
 kp:lY K (.ref f)=bC
section
variable{X:Cx}{pc:bA (bI×cQ)}{Y:St}{H:Hp}{s:bS}{a C dx:bI}{fs:bA (Str×V)}{f:Str}{v:V}{A:gK}{E:bJ->bS->Prop}
def Fg{b:bU}{Q:bJ->bS->Prop}(I:bR X pc Y H s)(e:H a=bB (.ins C dx fs))(c:qH X.K C)(n:zI X.K C f)(l:fs.lookup f=bB v)
 (h:∀u s',bR X pc Y H s'->cX v u->Q u s'):wpAny (cA X.prog X.w) A (getAttr (.ref a) f b) Q E s:=by
 obtain⟨mA,Oa,r,_,_,_⟩:=zi I.hok e;obtain⟨u,hu,ru⟩:=RelO.some_of (v:=v) (o:=mA f) (by rw[<-l];exact r f);exact ON I.kIn Oa (c.get f) c.hd n hu (OR ru) (h u _ (I.tok _) ru)
def Fh{m:Str}{g:bI}{pl:pE bU}{Q:bJ×bA bJ->bS->Prop}(I:bR X pc Y H s)(e:H a=bB (.ins C dx fs))(c:qH X.K C)(k:aO X.K C m g)(l:fs.lookup m=bK)
 (h:Q (.ref g,[.ref a]) s):wpAny (cA X.prog X.w) A (qp (.ref a) m pl) Q E s:=by
 obtain⟨mA,Oa,r,_,_,_⟩:=zi I.hok e;have hn:mA m=bK:=RelO.none_of (by rw[<-l];exact r m);exact OO I.kIn Oa (c.get m) k.at_ k.fn hn h
def Fi{y:V}{u:bJ}{Q:aN->bS->Prop}(I:bR X pc Y H s)(e:H a=bB (.ins C dx fs))(c:qH X.K C)(n:zI X.K C f)(hl:fs.length<1000)(ry:cX y u)
 (h:∀s',bR X pc Y (upd H a (.ins C dx (pT f y fs))) s'->Q () s'):wpAny (cA X.prog X.w) A (setAttr (.ref a) f u) Q E s:=by
 obtain⟨mA,Oa,r,wi,_,ho⟩:=zi I.hok e;have hz:(fs.map (·.1)).length<=cJ:=by rw[cG,sR];lia
 refine OP I.kIn Oa c.sa c.po n.taker c.hd wi hz λh' O' sb=>h _ ?_
 have hd:∃o,h'.get? dx=bB o:=let ⟨o,_,_,e',_⟩:=O'.ns;⟨o,e'⟩;refine I.write (x:=a) (e:=dx) (by rw[e];exact xF) (.inr ho) (λb q hb z=>(sb.2 b hb).trans z) hd ?_;refine⟨by rw[fH Oa.ne];exact ho,?_,Oa.ne,O'.obj,_,O'.ns,λg=>?_,λg hg=>?_⟩
 .have:=Ff f y fs;lia
 .show RelO ((pT f y fs).lookup g) (if g=f then bB u else mA g);rw[Fe];by_cases q:g=f
  .rw[cK q,cK q];exact ry
  .rw[dH q,dH q];exact r g
 .by_cases q:g=f
  .rw[q];exact(zh f y fs).1
  .refine(zh f y fs).2 g (wi g λz=>hg ?_);show(if g=f then bB u else mA g)=bK;rw[dH q];exact z
def bR.made(I:bR X pc Y H s):bR X pc Y (upd (upd H s.heap.objs.size (.own (s.heap.objs.size+1))) (s.heap.objs.size+1) (.ins C s.heap.objs.size []))
 {s with heap:=(s.heap.push aB).push (cu C s.heap.objs.size)}:=by
 have e1:(s.heap.push aB).get? s.heap.objs.size=bB aB:=lA s.heap rfl;have e2:((s.heap.push aB).push (cu C s.heap.objs.size)).get? (s.heap.objs.size+1)=bB (cu C s.heap.objs.size):=by
  have:=lA (s.heap.push aB) (o:=cu C s.heap.objs.size) rfl
  rwa [vX]at this
 have e3:(s.heap.push aB).Ns s.heap.objs.size (λ_=>bK):=⟨aB, #[],_,e1,rfl,(λe he=>absurd he cO),λ_=>rfl⟩;have I1:=I.laid (a:=s.heap.objs.size) (o:=.own (s.heap.objs.size+1)) (h':=s.heap.push aB) (t':=s.toks) (λb u q=>fC _ q) (cZ _) ⟨_,e1⟩;refine I1.laid (a:=s.heap.objs.size+1) (o:=.ins C s.heap.objs.size []) (t':=s.toks) (λb u q=>fC _ q) (Mn (vX _ _)) ?_;have ne:s.heap.objs.size≠s.heap.objs.size+1:=gX (wp _);refine⟨by rw[fH ne,gY],mK _,ne,e2,λ_=>bK,(Heap.Ns1.of_empty e3).at λo q=>fC _ q,λ_=>xF,λy hy=>absurd rfl hy⟩
def OS{prog:fM}{w:cF}{env:jG}{e:Expr}{f:Str}{pos:dJ}{s:bS}{Q:bJ->bS->Prop}(hb:yT e f env (dX e env)=dX e env)
 (h:wpAny (cA prog w) A (dX e env) (λo s₁=>wpAny (cA prog w) A (getAttr o f bC) Q E s₁) E s):wpAny (cA prog w) A (dX (.Attribute e f pos) env) Q E s:=
 Attribute_any_ h (by rw[arm_eval_Attribute,hb])
end
def OT(K:cD)(ta:TE)(f:Str):TE:=λY H Q=>ta Y H λx H1=>∃a C dx fs v,x= .ref a/\H1 a=bB (.ins C dx fs)/\qH K C/\zI K C f/\fs.lookup f=bB v/\Q v H1
def OU(K:cD)(ta tv:TE)(f:Str):TS:=λD Y H=>tv Y H λy H1=>ta Y H1 λx H2=>∃a C dx fs,x= .ref a/\H2 a=bB (.ins C dx fs)/\qH K C/\zI K C f/\fs.length<1000/\
 D.nx Y (upd H2 a (.ins C dx (pT f y fs)))
def Fj(X:Cx)(op:aF)(rd:V->V->Hp->VK->Prop):Prop:=
 ∀(pc:bA (bI×cQ)) (s:bS) (Y:St) (H:Hp) (x y:V) (u v:bJ) (Q:VK),bR X pc Y H s->cX x u->cX y v->rd x y H Q->wpAny (cA X.prog X.w) X.A (xx op u v) (EP X pc Y Q) X.xe s
def OV(K:cD)(ta tv:TE)(rd:V->V->Hp->VK->Prop)(f:Str):TS:=λD Y H=>ta Y H λx H1=>∃a C dx fs v,x= .ref a/\H1 a=bB (.ins C dx fs)/\qH K C/\zI K C f/\fs.lookup f=bB v/\
 tv Y H1 λy H2=>rd v y H2 λz H3=>∃dx' fs',H3 a=bB (.ins C dx' fs')/\fs'.length<1000/\D.nx Y (upd H3 a (.ins C dx' (pT f z fs')))
section
variable{X:Cx}{o e value:Expr}{f:Str}{pos pos' tpos:dJ}{ta tv:TE}
def Fk(he:PE X e ta)(hb:yT e f X.env (dX e X.env)=dX e X.env):PE X (.Attribute e f pos) (OT X.K ta f):=by intro pc s Y H Q I h;refine OS hb (cT (he pc s Y H _ I h) λu s1 qz=>?_);obtain⟨x,H1,I1,rx,a,C,dx,fs,v,ex,ea,c,n,l,q⟩:=qz;subst ex;obtain rfl:u=jT a:=rx;exact Fg I1 ea c n l λu' s2 I2 ru=>⟨v,H1,I2,ru,q⟩
def Fm(ha:PE X o ta)(hv:PE X value tv)(hs:aE value (bB (.Attribute o f pos')) pos.line X.env=fE bH):PS X (.Assign [.Attribute o f pos'] value pos) (OU X.K ta tv f):=by intro pc s Y H D I h;refine plainObj_wpAny_Assign_Attribute (cT (hv pc s Y H _ I h) λu s1 ⟨y,H1,I1,ry,q⟩=>cT (ha pc s1 Y H1 _ I1 q) λov s2 qz=>?_) hs;obtain⟨x,H2,I2,rx,a,C,dx,fs,ex,ea,c,n,l,q2⟩:=qz;subst ex;obtain rfl:ov=jT a:=rx;exact Fi I2 ea c n l ry λs3 I3=>⟨Y,_,I3,q2⟩
def OW{op:aF}{rd:V->V->Hp->VK->Prop}(ha:PE X o ta)(hv:PE X value tv)(hop:Fj X op rd):PS X (.AugAssign (.Attribute o f tpos) op value pos) (OV X.K ta tv rd f):=by
 intro pc s Y H D I h;refine wpAny_AugAssign_AttributeAny (cT (ha pc s Y H _ I h) λov s1 qz=>?_);obtain⟨x,H1,I1,rx,a,C,dx,fs,v,ex,ea,c,n,l,q⟩:=qz;subst ex;obtain rfl:ov=jT a:=rx;refine Fg I1 ea c n l λu s2 I2 ru=>cT (hv pc s2 Y H1 _ I2 q) λw3 s3 ⟨y,H2,I3,ry,q3⟩=>cT (hop pc s3 Y H2 v y u w3 _ I3 ru ry q3) λw4 s4 qz=>?_
 obtain⟨z,H3,I4,rz,dx',fs',ea',l',q4⟩:=qz;exact Fi I4 ea' c n l' rz λs5 I5=>⟨Y,_,I5,q4⟩
def OX:V->V->Hp->VK->Prop:=λx y H Q=>∃i j,x= .int i/\y= .int j/\Q (.int (i+j)) H
def OY:Fj X .Add OX:=by rintro pc s Y H x y u v Q I rx ry ⟨i,j,rfl,rfl,q⟩;obtain⟨t,rfl⟩:=(show ∃t,u=ie i t from rx);obtain⟨t',rfl⟩:=(show ∃t',v=ie j t' from ry);exact L1 ⟨.int (i+j),H,I.tok _,⟨_,rfl⟩,q⟩
end
section
variable{X:Cx}{pc:bA (bI×cQ)}{Y:St}{H:Hp}{s:bS}{A:gK}{E:bJ->bS->Prop}{Q:bJ->bS->Prop}{c:bJ}{b:bU}
end
structure fY(k:bD)(A:gK):Prop where
 hd:A.handled=bK
 dp:A.depth+3*k+5<L3
 un:A.units+16*k+200<lD
def fY.mono{j k:bD}{A:gK}(r:fY k A)(h:j<=k):fY j A:=⟨r.hd,by have:=r.dp;lia,by have:=r.un;lia⟩
def fY.deeper{k:bD}{A:gK}(r:fY (k+1) A)(env:jG):fY k (A.deeper env):=
 ⟨r.hd,by have:=r.dp;show A.depth+1+3*k+5<_;lia,by have:=r.un;show A.units+3+16*k+200<_;lia⟩
def OZ{A:gK}{C:bI}{us:bA bJ}{kw:bA (Str×bJ)}:(A.under (.builtin "type.__call__" ⟨.ref C::us,kw⟩)).depth=A.depth+1:=by first|rfl|simp[D1,Code.weight,Code.isCreation,Code.isGuard,Code.isCaller,My,D2,guardIds]
def O0{A:gK}{C:bI}{us:bA bJ}{kw:bA (Str×bJ)}:(A.under (.builtin "type.__call__" ⟨.ref C::us,kw⟩)).units=A.units+1:=by first|rfl|simp[D1,Code.cUnits,My,D2]
def fY.make{k:bD}{A:gK}(r:fY (k+1) A)(C:bI)(us:bA bJ)(kw:bA (Str×bJ)):fY k (A.under (.builtin "type.__call__" ⟨.ref C::us,kw⟩)):=
 ⟨r.hd,by have:=r.dp;rw[OZ];lia,by have:=r.un;rw[O0];lia⟩
def fY.depth{k:bD}{A:gK}(r:fY k A):A.depth<L3:=by have:=r.dp;lia
def fY.units{k:bD}{A:gK}(r:fY k A):A.units+64<lD:=by have:=r.un;lia
noncomputable def Fo:TA:=λ_ H Q=>Q [] H
noncomputable def O1(ta:TE)(tr:TA):TA:=λY H Q=>ta Y H λx H1=>tr Y H1 λxs H2=>Q (x::xs) H2
section
variable{X:Cx}{e:Expr}{es:bA Expr}{te:TE}{t:TA}{pos:dJ}
def sW:PA X [] Fo:=λ_ _ _ _ H Q I h=>DC ⟨[],H,I,.nil,h⟩
def nT(ha:PE X e te)(hr:PA X es t)(hs:fK (e::es) X.env=(bH,dX e X.env)::fK es X.env:=by rfl):PA X (e::es) (O1 te t):=by intro pos pc s Y H Q I h;rw[hs];show wpAny _ _ (spliced ((bH,dX e X.env)::kU pos (fK es X.env))) _ _ s;refine pq (cT (ha pc s Y H _ I h) λu s1 qz=>?_);obtain⟨x,H1,I1,r1,q1⟩:=qz;exact cT (hr pos pc s1 Y H1 _ I1 q1) λus s2 qz=>by obtain⟨xs,H2,I2,r2,q2⟩:=qz;exact⟨x::xs,H2,I2,.cons r1 r2,q2⟩
def O2(t:TA):TE:=λY H Q=>t Y H λxs H1=>xs.length<=cJ/\ ∀p,H1 p=bK->Q (.ref p) (upd H1 p (.t xs))
def O3(t:TA):TE:=λY H Q=>t Y H λxs H1=>xs.length<=cJ/\ ∀p,H1 p=bK->Q (.ref p) (upd H1 p (.l xs))
def Fp{x1}(h:PA X es t):PE X (.Tuple es x1 pos) (O2 t):=by intro pc s Y H Q I hq;refine wpAny_Tuple_spliced (cT (h pos pc s Y H _ I hq) λus s1 ⟨xs,H1,I1,r,z,q⟩=>⟨by rw[<-r.length];exact z,?_⟩);have hf:H1 s1.heap.objs.size=bK:=I1.hok.fresh (cZ _);refine⟨.ref s1.heap.objs.size,upd H1 s1.heap.objs.size (.t xs),I1.laid (t':=s1.toks) (λb u e=>fC _ e) (cZ _) ?_,rfl,q _ hf⟩;exact⟨z,us,r,⟨_,lA _ bO,⟨rfl,rfl⟩,_,rfl⟩⟩
def zj(h:PA X es t):PE X (.List es pos) (O3 t):=by intro pc s Y H Q I hq;refine wpAny_List_spliced (cT (h pos pc s Y H _ I hq) λus s1 ⟨xs,H1,I1,r,z,q⟩=>⟨by rw[<-r.length];exact z,?_⟩);have hf:H1 s1.heap.objs.size=bK:=I1.hok.fresh (cZ _);refine⟨.ref s1.heap.objs.size,upd H1 s1.heap.objs.size (.l xs),I1.laid (t':=s1.toks) (λb u e=>fC _ e) (cZ _) ?_,rfl,q _ hf⟩;exact⟨z,us,0,r,lA _ bO⟩
end
abbrev Sp:=bA V->Hp->VK->XK->Prop
abbrev wH:=bA jG->Hp->bS->XK->bJ->bS->Prop
structure aP(P:fM)(w:cF)(K:cD)(mg:Str->bQ bJ)(base:cB)(A:gK)(outer:bA jG)(s:bS)(H:Hp):Prop where
 frames:A.frames=bB outer
 mod:Mod K mg base
 bs:∀b o,base.get? b=bB o->s.heap.get? b=bB o/\H b=bK
 bsz:base.objs.size<=s.heap.objs.size
 funs:s.heap.FunFrames base outer
 frf:∀b∈qF outer,H b=bK
 hok:jM P w H s.heap
 bare:aJ s.gens
def CE(outer:bA jG)(P:fM)(w:cF)(H:Hp)(s:bS)(Q:VK)(u:bJ)(s':bS):Prop:=
 ∃v H',s'.os=s.os/\aJ s'.gens/\Un (qF outer) [] H H' s.heap s'.heap/\jM P w H' s'.heap/\cX v u/\Q v H'
def CR(CX:wH)(outer:bA jG)(P:fM)(w:cF)(H:Hp)(s:bS)(Q:VK)(E:XK)(r:ko)(s':bS):Prop:=
 match r with
 | .ok (.ret u)=>CE outer P w H s Q u s'| .ok _=>jF| .error e=>CX outer H s E e s'
structure dZ(P:fM)(w:cF)(K:cD)(mg:Str->bQ bJ)(base:cB)(CX:wH)(k:bD)(f:bI)(fd:gJ)(ps:bA Str)(sp:Sp):Prop where
 len:∀vs H Q E,sp vs H Q E->vs.length=ps.length
 run:∀(A:gK) (outer:bA jG) (s:bS) (H:Hp) (args:Args) (us:bA bJ) (vs:bA V) (Q:VK) (E:XK),fY k A->aP P w K mg base A outer s H->kn s fd args (ps.zip us)->cW vs us->sp vs H Q E->
  codeAny (cA P w) A (.call (.ref f) args) (CR CX outer P w H s Q E) s
theorem dZ.imp{P:fM}{w:cF}{K:cD}{mg:Str->bQ bJ}{base:cB}{CX:wH}{k:bD}{f:bI}{fd:gJ}{ps:bA Str}{sp sp':Sp}(F:dZ P w K mg base CX k f fd ps sp)
 (h:∀vs H Q E,sp' vs H Q E->sp vs H Q E):dZ P w K mg base CX k f fd ps sp':=
 ⟨λvs H Q E q=>F.len vs H Q E (h _ _ _ _ q),λA outer s H args us vs Q E hr he hb hv hs=>F.run A outer s H args us vs Q E hr he hb hv (h _ _ _ _ hs)⟩
def aP.make{P:fM}{w:cF}{K:cD}{mg:Str->bQ bJ}{base:cB}{A:gK}{outer:bA jG}{s:bS}{H:Hp}(e:aP P w K mg base A outer s H)(C:bI)(us:bA bJ)(kw:bA (Str×bJ)):
 aP P w K mg base (A.under (.builtin "type.__call__" ⟨.ref C::us,kw⟩)) outer s H:=⟨by first|exact e.frames| (simpa[D1,Code.envs,D2,pushEnvs]using e.frames),e.mod,e.bs,e.bsz,e.funs,e.frf,e.hok,e.bare⟩
section
variable{X:Cx}{pc:bA (bI×cQ)}{Y:St}{H:Hp}{s s':bS}
def bR.env0(I:bR X pc Y H s):aP X.prog X.w X.K X.mg X.base X.A X.stack s H:=
 ⟨I.ok.frames,I.ok.mod,I.bs,jS I.ok.bsz I.sz,I.stack,I.stkFree,I.hok,I.bare⟩
def bR.after{Q:VK}{u:bJ}(I:bR X pc Y H s)(h:CE X.stack X.prog X.w H s Q u s'):EP X pc Y Q u s':=by obtain⟨v,H',os,bare,un,hok,r,q⟩:=h;obtain⟨hh,g,d,t,os'⟩:=s';obtain rfl:os'=s.os:=os;exact⟨v,H',I.call (h':=hh) (g':=g) (d':=d) (t':=t) (ch:=[]) un hok bare (λb z=>dD z cO),r,q⟩
end
noncomputable def O4(sp:Sp)(dvs:bA V)(E:XK)(t:TA):TE:=λY H Q=>t Y H λvs H1=>sp (vs++dvs) H1 Q E
def Fq(C:bI)(m:Str)(sp:Sp)(dvs:bA V)(E:XK)(ta:TE)(t:TA):TE:=λY H Q=>ta Y H λx H1=>∃a dx fs,x= .ref a/\H1 a=bB (.ins C dx fs)/\fs.lookup m=bK/\
 t Y H1 λvs H2=>sp (x::(vs++dvs)) H2 Q E
def O5(C:bI)(sp:Sp)(dvs:bA V)(E:XK)(t:TA):TE:=λY H Q=>t Y H λvs H1=>∀x dx,H1 x=bK->H1 dx=bK->dx≠x->
 sp (.ref x::(vs++dvs)) (upd (upd H1 dx (.own x)) x (.ins C dx [])) (λv H2=>v= .n/\Q (.ref x) H2) E
def lH(K:cD)(fd:gJ)(ps:bA Str)(ds:bA bJ):Prop:=
 ∀(s:bS) (us:bA bJ),K.In s.heap->(us++ds).length=ps.length->kn s fd ⟨us,[]⟩ (ps.zip (us++ds))
def lH.all{K:cD}{fd:gJ}{ps:bA Str}(h:∀us:bA bJ,us.length=ps.length->Er fd ⟨us,[]⟩=fE (ps.zip us)):lH K fd ps []:=λs us _ hl=>by rw[kK]at hl|-;exact .of_eq (h us hl)
def dq(CX:wH)(X:Cx)(E:XK):Prop:=∀(pc:bA (bI×cQ)) (Y:St) (H:Hp) (s:bS) (e:bJ) (s':bS),bR X pc Y H s->CX X.stack H s E e s'->X.xe e s'
section
variable{X:Cx}{CX:wH}{k:bD}{f C:bI}{fd:gJ}{ps:bA Str}{sp:Sp}{dvs:bA V}{ds:bA bJ}{E:XK}{x m:Str}{p pos apos:dJ}{e o:Expr}{es:bA Expr}{ta:TE}{t:TA}
theorem ls{pc:bA (bI×cQ)}{Y:St}{H:Hp}{s:bS}{Q:VK}{us:bA bJ}{vs:bA V}(F:dZ X.prog X.w X.K X.mg X.base CX k f fd ps sp)(hr:fY k X.A)(hb:lH X.K fd ps ds)(hd:cW dvs ds)(hx:dq CX X E)
 (I:bR X pc Y H s) (r:cW vs us) (h:sp (vs++dvs) H Q E):wpAny (cA X.prog X.w) X.A (call (.ref f) us) (EP X pc Y Q) X.xe s:=by
 have r2:cW (vs++dvs) (us++ds):=r.append hd;have hl:(us++ds).length=ps.length:=by rw[<-r2.length];exact F.len _ _ _ _ h
 refine xw (gu (F.run X.A X.stack s H ⟨us,[]⟩ (us++ds) (vs++dvs) Q E hr I.env0 (hb s us I.kIn hl) r2 h) λr s' hq=>?_);cases r with
 |error e=>exact hx pc Y H s e s' I hq|ok fl=>
  cases fl with
  |ret u=>exact I.after hq|next=>exact qV hq|brk=>exact qV hq|cont=>exact qV hq
def sh(F:dZ X.prog X.w X.K X.mg X.base CX k f fd ps sp)(hr:fY k X.A)(hg:Gl X x)(hm:X.mg x=bB (.ref f))(hk:lY X.K (.ref f)=bC)(hb:lH X.K fd ps ds)(hd:cW dvs ds)(hx:dq CX X E)
 (ha:PA X (e::es) t) (hdb:(x==("__debug__" :Str))=bH:=by decide) (he:fK (e::es) X.env=(bH,dX e X.env)::fK es X.env:=by rfl) (hpl:(kU pos (fK es X.env)).any (·.1)=bH:=by rfl):
 PE X (.Call (.Name x p) (e::es) [] pos) (O4 sp dvs E t):=by
 intro pc s Y H Q I h;refine jz (rp I hg hm ?_ hdb);refine qd (h₀:=X.base) I.ok.mod.kin hk (cT (ha pos pc s Y H _ I h) λus s1 ⟨vs,H1,I1,r,q⟩=>⟨I1.kIn,?_⟩) he hpl;exact ls F hr hb hd hx I1 r q
def O6{pl:pE bU}(he:PE X o ta)(c:qH X.K C)(hm:aO X.K C m f)(F:dZ X.prog X.w X.K X.mg X.base CX k f fd ps sp)(hr:fY k X.A)(hb:lH X.K fd ps ds)(hd:cW dvs ds)(hx:dq CX X E)(ha:PA X (e::es) t)
 (hst:fK (e::es) X.env=(bH,dX e X.env)::fK es X.env:=by rfl) (hpl:(kU pos (fK es X.env)).any (·.1)=bH:=by rfl)
 (ht:dX (.Call (.Attribute o m apos) (e::es) [] pos) X.env=(do
   let ov <-dX o X.env
   iu apos.atName
   let (f,first) <-c6 [ov] (qp ov m pl)
   Es pos f first (kU pos (fK (e::es) X.env)) (cv pos (cj [] X.env))):=by rfl):
 PE X (.Call (.Attribute o m apos) (e::es) [] pos) (Fq C m sp dvs E ta t):=by
 intro pc s Y H Q I h;refine LS (pl:=pl) (cT (he pc s Y H _ I h) λu s1 qz=>?_) ht;obtain⟨x,H1,I1,rx,a,dx,fs,ex,ea,l,q⟩:=qz;subst ex;obtain rfl:u=jT a:=rx;refine Fh I1 ea c hm l ?_;refine qd (first:=[.ref a]) (h₀:=X.base) I.ok.mod.kin hm.kp (cT (ha pos pc s1 Y H1 _ I1 q) λus s2 ⟨vs,H2,I2,r,q2⟩=>⟨I2.kIn,?_⟩) hst hpl;exact ls (us:=.ref a::us) (vs:=.ref a::vs) F hr hb hd hx I2 (.cons rfl r) q2
theorem O7{pl:pE bU}(he:PE X o ta)(c:qH X.K C)(hm:aO X.K C m f)(F:dZ X.prog X.w X.K X.mg X.base CX k f fd ps sp)(hr:fY k X.A)(hb:lH X.K fd ps ds)(hd:cW dvs ds)(hx:dq CX X E)
 (ht:dX (.Call (.Attribute o m apos) [] [] pos) X.env=(do
   let ov <-dX o X.env
   iu apos.atName
   let (f,first) <-c6 [ov] (qp ov m pl)
   Es pos f first (kU pos (fK [] X.env)) (cv pos (cj [] X.env))):=by rfl):
 PE X (.Call (.Attribute o m apos) [] [] pos) (Fq C m sp dvs E ta Fo):=by
 intro pc s Y H Q I h;refine LS (pl:=pl) (cT (he pc s Y H _ I h) λu s1 qz=>?_) ht;obtain⟨x,H1,I1,rx,a,dx,fs,ex,ea,l,q⟩:=qz;subst ex;obtain rfl:u=jT a:=rx;refine Fh I1 ea c hm l ?_;exact W.callWith_K0 (first:=[.ref a]) I1.kIn hm.kp (ls (us:=[.ref a]) (vs:=[.ref a]) F hr hb hd hx I1 (.cons rfl .nil) q)
structure Mk(K:cD)(C f:bI):Prop where
 makes:qq K C=bC
 init:pD K (.ref C) "__init__" =bB (bB (.ref f))
 fn:aL K (.ref f)=bC
 kp:lY K (.ref C)=bC
theorem O8{pc:bA (bI×cQ)}{Y:St}{H:Hp}{s:bS}{Q:VK}{us:bA bJ}{vs:bA V}(M:Mk X.K C f)(F:dZ X.prog X.w X.K X.mg X.base CX k f fd ps sp)(hr:fY (k+1) X.A)(hb:lH X.K fd ps ds)(hd:cW dvs ds)
 (hx:dq CX X E) (I:bR X pc Y H s) (r:cW vs us)
 (h:∀x dx,H x=bK->H dx=bK->dx≠x->sp (.ref x::(vs++dvs)) (upd (upd H dx (.own x)) x (.ins C dx [])) (λv H2=>v= .n/\Q (.ref x) H2) E):
 wpAny (cA X.prog X.w) X.A (call (.ref C) us) (EP X pc Y Q) X.xe s:=by
 have hq:=h (s.heap.objs.size+1) s.heap.objs.size (I.hok.fresh (gy _)) (I.hok.fresh (cZ _)) (gX (wp _));have I2:=bR.made (C:=C) I;have r2:cW (V.ref (s.heap.objs.size+1)::(vs++dvs)) (jT (s.heap.objs.size+1)::(us++ds)):=.cons bO (r.append hd);have hl:(jT (s.heap.objs.size+1)::us++ds).length=ps.length:=by have e:=r2.length;rw[F.len _ _ _ _ hq]at e;exact e.symm
 refine xw (OQ (f:=f) I.kIn M.makes M.init (qW.mp M.fn) (gu (F.run _ X.stack _ _ ⟨jT (s.heap.objs.size+1)::us,[]⟩ (jT (s.heap.objs.size+1)::(us++ds)) _ _ E (hr.make C us [])
  (I2.env0.make C us []) (hb _ (jT (s.heap.objs.size+1)::us) I2.kIn hl) r2 hq) λr s' hq'=>?_))
 cases r with
 |error e=>exact hx pc Y _ _ e s' I2 hq'|ok fl=>
  cases fl with
  |ret u=>obtain⟨v,H',I3,rv,ev,q3⟩:=I2.after hq';subst ev;exact⟨rv,⟨V.ref (s.heap.objs.size+1),H',I3,rfl,q3⟩⟩|next=>exact qV hq'|brk=>exact qV hq'|cont=>exact qV hq'
def O9(M:Mk X.K C f)(F:dZ X.prog X.w X.K X.mg X.base CX k f fd ps sp)(hr:fY (k+1) X.A)(hg:Gl X x)(hm:X.mg x=bB (.ref C))(hb:lH X.K fd ps ds)(hd:cW dvs ds)(hx:dq CX X E)
 (ha:PA X (e::es) t) (hdb:(x==("__debug__" :Str))=bH:=by decide) (he:fK (e::es) X.env=(bH,dX e X.env)::fK es X.env:=by rfl) (hpl:(kU pos (fK es X.env)).any (·.1)=bH:=by rfl):
 PE X (.Call (.Name x p) (e::es) [] pos) (O5 C sp dvs E t):=by
 intro pc s Y H Q I h;refine jz (rp I hg hm ?_ hdb);refine qd (h₀:=X.base) I.ok.mod.kin M.kp (cT (ha pos pc s Y H _ I h) λus s1 ⟨vs,H1,I1,r,q⟩=>⟨I1.kIn,?_⟩) he hpl;exact O8 M F hr hb hd hx I1 r q
end
section
variable{X:Cx}{CX:wH}{k:bD}{f C:bI}{fd:gJ}{ps ks:bA Str}{sp:Sp}{E:XK}{x m:Str}{p pos apos kpos:dJ}{e o:Expr}{es:bA Expr}{kws:bA tV}{te ta:TE}{t tk:TA}{nm:bQ Str}
variable{g:bA bJ->bA bJ->bA bJ}{gV:bA V->bA V->bA V}
end
structure lU(N P:bA Str)(sc:kW):Prop where
 kind:sc.kind= .function
 co:sc.isCoroutine=bH
 gen:sc.isGenerator=bH
 nd:N.Nodup
 pre:N.take P.length=P
 par:∀x∈P,sc.names.lookup x=bB .local\/sc.names.lookup x=bB .cell
 nofree:∀y∈sc.names,y.2≠ .free
theorem Ft{kindOf:Str->bQ qC}{x:Str}:∀{binds:bA (Str×bJ)} {m:Str->bQ bJ},(∀v,(x,v)∉binds)->db kindOf binds m x=m x
 | [],_,_=>rfl| (n,v)::r,m,h=>by
  unfold db;rw[Ft λw hw=>h w (gI _ hw)];split
  .have:x≠n:=by rintro rfl;exact h v fW
   simp[this]
  .rfl
theorem Fv{kindOf:Str->bQ qC}{x:Str}:∀{binds:bA (Str×bJ)} {m:Str->bQ bJ},(∀v,(x,v)∉binds)->de kindOf binds m x=m x
 | [],_,_=>rfl| (n,v)::r,m,h=>by
  unfold de;rw[Fv λw hw=>h w (gI _ hw)];split
  .rfl
  .have:x≠n:=by rintro rfl;exact h v fW
   simp[this]
theorem Fw{kindOf:Str->bQ qC}{x:Str}{v:bJ}:∀{P:bA Str} {vs:bA bJ} {i:bD} {m:Str->bQ bJ},P.Nodup->P[i]? =bB x->vs[i]? =bB v->kindOf x=bB .local->
 db kindOf (P.zip vs) m x=bB v
 | [],_,_,_,_,h,_,_=>by simp at h|_::_,[],_,_,_,_,h,_=>by simp at h|p::P,w::vs,0,m,nd,h1,h2,hk=>by simp at h1 h2;subst h1;subst h2;show db kindOf ((p,w)::P.zip vs) m p=_;unfold db;rw[Ft λv hv=>(cf.mp nd).1 (DL hv).1,cK hk];simp|p::P,w::vs,i+1,m,nd,h1,h2,hk=>by show db kindOf ((p,w)::P.zip vs) m x=_;unfold db;exact Fw (i:=i) (cf.mp nd).2 (by simpa using h1) (by simpa using h2) hk
theorem Fx{kindOf:Str->bQ qC}{x:Str}{v:bJ}:∀{P:bA Str} {vs:bA bJ} {i:bD} {m:Str->bQ bJ},P.Nodup->P[i]? =bB x->vs[i]? =bB v->kindOf x≠bB .local->
 de kindOf (P.zip vs) m x=bB v
 | [],_,_,_,_,h,_,_=>by simp at h|_::_,[],_,_,_,_,h,_=>by simp at h|p::P,w::vs,0,m,nd,h1,h2,hk=>by simp at h1 h2;subst h1;subst h2;show de kindOf ((p,w)::P.zip vs) m p=_;unfold de;rw[Fv λv hv=>(cf.mp nd).1 (DL hv).1,dH hk];simp|p::P,w::vs,i+1,m,nd,h1,h2,hk=>by show de kindOf ((p,w)::P.zip vs) m x=_;unfold de;exact Fx (i:=i) (cf.mp nd).2 (by simpa using h1) (by simpa using h2) hk
noncomputable def start(N:bA Str)(vs:bA V):St:=vs.map bB++lX (N.length-vs.length) bK
noncomputable def rY(CX:wH)(P:fM)(w:cF)(K:cD)(mg:Str->bQ bJ)(base:cB)(N:bA Str)(qual:Str)(scope:kW)(f:bI)(cd:bJ)(A:gK)(outer:bA jG)(s:bS)(H:Hp)(E:XK):Cx where
 prog:=P
 w:=w
 K:=K
 mg:=mg
 base:=base
 A:=A.deeper (qD qual scope s.heap.objs.size f cd)
 N:=N
 s₀:=s
 Ha:=H
 env:=qD qual scope s.heap.objs.size f cd
 outer:=outer
 stack:=qD qual scope s.heap.objs.size f cd::outer
 ex:=[]
 calm:=bC
 fn:=λ_=>bC
 pn:=[]
 xe:=λe s'=>wpAny (cA P w) (A.deeper (qD qual scope s.heap.objs.size f cd)) (leaving (qD qual scope s.heap.objs.size f cd) e) (λ_ s''=>CX outer H s E e s'') (λe' s''=>CX outer H s E e' s'') s'
def Fy{sc:kW}{n:bD}{x:Str}(h:sc.names.lookup x=bB .cell):∃c,(El n sc.names []).lookup x=bB c:=by have q:=LI sc.names n [] (.inl h);exact v8.mp q
def Pb{CX:wH}{P:fM}{w:cF}{K:cD}{mg:Str->bQ bJ}{base:cB}{N ps:bA Str}{qual:Str}{scope:kW}{f:bI}{cd:bJ}{A:gK}{outer:bA jG}{s s1:bS}{H:Hp}{E:XK}{us:bA bJ}{vs:bA V}
 (S:lU N ps scope) (hd:A.handled=none) (e0:aP P w K mg base A outer s H) (hl:vs.length=ps.length) (r:cW vs us)
 (x:InCallC s s.heap.objs.size (db (qD qual scope s.heap.objs.size f cd).kindOf (ps.zip us) λ_=>none) (El (s.heap.objs.size+1) scope.names []) (de (qD qual scope s.heap.objs.size f cd).kindOf (ps.zip us) λ_=>none) s1):
 bR (rY CX P w K mg base N qual scope f cd A outer s H E) [] (start N vs) H s1:=by
 have hpl:ps.length<=N.length:=by have:=kT List.length S.pre;rw[gk]at this;lia
 obtain⟨h1,tk,rfl,hk⟩:=x.done;have noA:∀b:bI,b∉(rY CX P w K mg base N qual scope f cd A outer s H E).ex:=λb z=>dD (show b∈([]:bA bI)from z) cO
 refine⟨⟨e0.mod,S.kind,rfl,rfl,cZ _,λy z c h1 h2=>?_,λy hy=>?_,λy c _ h=>?_,λ_=>hd,Lg e0.frames,.inr ⟨rfl,rfl⟩,λb z=>dD z (noA b),e0.bs,e0.bsz,λb _ _=>noA b,λb z=>dD z (noA b),e0.funs,e0.frf⟩,
  rfl,e0.bare,Un.kept hk,⟨_,x.toInCall.ns,λi y v h1 h2 h3=>?_⟩,λy c h=>⟨_,x.cell y c h⟩,e0.hok.fresh (cZ _),λy c h=>?_,λp hp=>dD (show p∈([]:bA (bI×cQ))from hp) cO,e0.hok.kept hk,?_⟩
 .exact name_of_addr x.apart (cb h1) (cb h2)
 .have hy:scope.names.lookup y=some .cell\/scope.names.lookup y=some .free:=hy;rcases hy with hy|hy
  .exact Fy hy
  .exact dD rfl (S.nofree _ (cb hy))
 .exact qc (x.above y c (cb h))
 .have hi:i<vs.length:=by
   unfold start at h2;by_cases hi:i<vs.length
   .exact hi
   .rw[wW (by simpa using hi)]at h2;rw[Dh]at h2;split at h2<;>cases h2
  have ha:vs[i]? =some v:=by
   unfold start at h2;rw[b9 (by simpa using hi),pB]at h2;cases e:vs[i]? with
   |none=>rw[e]at h2;cases h2|some a=>rw[e]at h2;cases h2;rfl
  obtain⟨u,hu,rv⟩:=r.get ha;have hp:ps[i]? =some y:=by rw[<-S.pre,List.getElem?_take_of_lt cI];exact h1
  have ndP:ps.Nodup:=by rw[<-S.pre];exact S.nd.sublist (List.take_sublist _ _)
  refine⟨u,rv,?_⟩;rcases S.par y (Dv hp)with k|k
  .exact .inl ⟨k,Fw ndP hp hu k⟩
  .obtain⟨c,e⟩:=Fy (n:=s.heap.objs.size+1) k;refine .inr ⟨.inl k,c,e,?_⟩;have q:=x.cell y c e;rw[Fx ndP hp hu (by show scope.names.lookup y≠_;rw[k];decide)]at q;exact q
 .exact e0.hok.fresh (qc (x.above y c (cb h)))
 .unfold start;show _=N.length;rw[cH,cG,K7]
  lia
theorem Fz{CX:wH}{P:fM}{w:cF}{K:cD}{mg:Str->bQ bJ}{base:cB}{k:bD}{f:bI}{name qual:Str}{params:xy}{body:bA dN}{scope:kW}{dV kV doc pm cdv ct oc:bJ}{an od:bQ bI}
 {osl:fQ (bQ bJ)} {N ps:bA Str} {sp:Sp} (lk:K.lookup f=bB ⟨oc,od,.func (iz name qual params body scope dV kV doc pm an cdv ct),osl⟩) (hcd:aG K cdv qual=bC) (S:lU N ps scope)
 (len:∀vs H Q E,sp vs H Q E->vs.length=ps.length)
 (hbody:∀(A:gK) (outer:bA jG) (s:bS) (H:Hp) (vs:bA V) (Q:VK) (E:XK),fY k (A.deeper (qD qual scope s.heap.objs.size f cdv))->sp vs H Q E->
   ∃t,pF (rY CX P w K mg base N qual scope f cdv A outer s H E) body t/\t {nx:=λ_ H'=>Q .n H',rt:=Q} (start N vs) H):
 dZ P w K mg base CX (k+1) f (iz name qual params body scope dV kV doc pm an cdv ct) ps sp:=by
 refine⟨len,λA outer s H args us vs Q E hr e0 hb r hsp=>?_⟩;have hl:=len _ _ _ _ hsp;have KX:K.In s.heap:=e0.mod.kin.keeps λb o e=>(e0.bs b o e).1
 have lim:s.heap.NoLimit:=e0.mod.nolimit.keeps λb o e=>(e0.bs b o e).1
 have hkind:∀y∈ps.zip us,scope.names.lookup y.1=bB .local\/(scope.names.lookup y.1=bB .cell/\((El (s.heap.objs.size+1) scope.names []).lookup y.1).isSome=bC):=λ⟨n,v⟩ hy=>by
  rcases S.par n (DL hy).1 with q|q
  .exact .inl q
  .exact .inr ⟨q,LI _ _ _ (.inl q)⟩
 refine codeAny_call_function hr.depth (KX _ _ lk) bO S.co S.gen bO (W.codeRec_of KX hcd) (hb _ _ _ _ ?_);refine wpAny_newFunctionEnv_cells S.kind hkind λenv he s1 x=>?_
 subst he;refine⟨lim.keeps x.toInCall.keep,codeAny_func ?_⟩;obtain⟨t,ht,hq⟩:=hbody A outer s H vs Q E (hr.deeper _) hsp;have I:bR (rY CX P w K mg base N qual scope f cdv A outer s H E) [] (start N vs) H s1:=Pb S hr.hd e0 hl r x;refine lT (ht [] s1 (start N vs) H _ I hq) (λfl s' hs=>?_) λe s' hs=>hs
 have fO:∀{σ':St} {H':Hp} {v:V} {u:bJ},bR (rY CX P w K mg base N qual scope f cdv A outer s H E) [] σ' H' s'->cX v u->Q v H'->CE outer P w H s Q u s':=
  λ{σ' H' v u} J rv q=>⟨v,H',J.os,J.bare,J.base,J.hok,rv,q⟩
 cases fl with
 |ret u=>obtain⟨v,σ',H',J,rv,q⟩:=hs;exact fO J rv q|next=>obtain⟨σ',H',J,q⟩:=hs;exact fO (v:=V.n) (u:=xD) J bO q|brk=>obtain⟨_,_,_,q⟩:=hs;exact qV q|cont=>obtain⟨_,_,_,q⟩:=hs;exact qV q
section
variable{X:Cx}{x:Str}{p pos:dJ}{e:Expr}{es:bA Expr}{t:TA}{id T:lB}{r:bA V->Hp->VK->Prop}
noncomputable def FA(r:bA V->Hp->VK->Prop)(t:TA):TE:=λY H Q=>t Y H λvs H1=>r vs H1 Q
def zk(hc:jE X (.builtin id) r)(hg:Gl X x)(hm:X.mg x=bK)(hv:qT x=bB (.builtin id))(ha:PA X (e::es) t)(hn:x≠ "__name__" :=by decide)(hdb:(x==("__debug__" :Str))=bH:=by decide)
 (he:fK (e::es) X.env=(bH,dX e X.env)::fK es X.env:=by rfl) (hpl:(kU pos (fK es X.env)).any (·.1)=bH:=by rfl):PE X (.Call (.Name x p) (e::es) [] pos) (FA r t):=by
 intro pc s Y H Q I h;refine jz (iB I hg hm hv ?_ hn hdb);exact Xj (cT (ha pos pc s Y H _ I h) λus s1 qz=>by obtain⟨vs,H1,I1,r1,q1⟩:=qz;exact hc pc s1 Y H1 vs us Q I1 r1 q1) he hpl
def si(hc:jE X (.type T) r)(hg:Gl X x)(hm:X.mg x=bK)(hv:qT x=bB (.type T))(ha:PA X (e::es) t)(hn:x≠ "__name__" :=by decide)(hdb:(x==("__debug__" :Str))=bH:=by decide)
 (he:fK (e::es) X.env=(bH,dX e X.env)::fK es X.env:=by rfl) (hpl:(kU pos (fK es X.env)).any (·.1)=bH:=by rfl):PE X (.Call (.Name x p) (e::es) [] pos) (FA r t):=by
 intro pc s Y H Q I h;refine jz (iB I hg hm hv ?_ hn hdb);exact v4 (cT (ha pos pc s Y H _ I h) λus s1 qz=>by obtain⟨vs,H1,I1,r1,q1⟩:=qz;exact hc pc s1 Y H1 vs us Q I1 r1 q1) he hpl
end
end L2
namespace HT
open PySem PyProof.Rows
section
open PySem.SeqAt
open PySem.AutoSeq1 (wpAny_loadPart')
open PySem.MeetsSeq PySem.MeetsSeq2 PySem.MeetsSeq3
end
section
variable{prog:fM}{w:cF}{A:gK}{E:bJ->bS->Prop}{s:bS}
def cat_tup{t b:bI}{vs ws:bA bJ}{Q:bJ->bS->Prop}(ht:da s.heap t vs.toArray)(hb:da s.heap b ws.toArray)(hv:vs≠ [])
 (h1:ws= []->Q (.ref t) s) (h2:ws≠ []->Q (.ref s.heap.objs.size) {s with heap:=s.heap.push {cls:=.type "tuple",data:=.seq (vs++ws).toArray}})
 (hsz:vs.length+ws.length<=cJ):wpAny (cA prog w) A (mU .Add (.ref t) (.ref b)) Q E s:=by
 obtain⟨⟨cls,dd,data,sl⟩,ho,hc,n,hd⟩:=id ht;obtain⟨⟨cls2,dd2,data2,sl2⟩,ho2,hc2,n2,hd2⟩:=id hb;simp only at hc hd hc2 hd2;subst hc hd hc2 hd2;have e:vs.toArray++ws.toArray=(vs++ws).toArray:=cO;by_cases hw:ws= []
 .exact qe ⟨_,ho,rfl⟩ ⟨_,ho2,rfl⟩ DH DS Do Di (De _ _)
   (tuple_addW1 t b vs.toArray ws.toArray n n2 dd dd2 sl sl2 (by simpa using hv) (by simp[hw])) ⟨ho,ho2,h1 hw⟩
 .refine qe ⟨_,ho,rfl⟩ ⟨_,ho2,rfl⟩ DH DS Do Di (De _ _)
   (tuple_addW2 t b vs.toArray ws.toArray n n2 dd dd2 sl sl2 (by simpa using hv) (by simpa using hw) (by rw[gQ,gQ];exact hsz)) ⟨ho,ho2,?_⟩
  rw[e];exact h2 hw
noncomputable def sIx(n d:bD):bQ bG->bD|none=>d|some v=>if v<0 then(v+(n:bG)).toNat else rX v.toNat n
def sIx_none(n d:bD):sIx n d bK=d:=rfl
def sIx_nat(n d k:bD):sIx n d (bB (k:bG))=rX k n:=by show(if(k:bG)<0 then((k:bG)+(n:bG)).toNat else rX (k:bG).toNat n)=rX k n;rw[dH cI,wm]
def sIx_le(n d:bD)(hd:d<=n)(o:bQ bG):sIx n d o<=n:=by
 cases o with
 |none=>exact hd|some v=>
  show(if v<0 then(v+(n:bG)).toNat else rX v.toNat n)<=n;by_cases hv:v<0
  .rw[cK hv];lia
  .rw[dH hv];exact Nat.min_le_right _ _
def FB(v:bG)(n d:bD):(if v<0 then max (v+(n:bG)) 0 else rX v (n:bG))=((sIx n d (bB v):bD):bG):=by
 show(if v<0 then max (v+(n:bG)) 0 else rX v (n:bG))=(((if v<0 then(v+(n:bG)).toNat else rX v.toNat n):bD):bG);by_cases hv:v<0
 .simp only[cK hv];lia
 .simp only[dH hv];lia
def Pc(lo hi:bQ bG)(n:bD):Dc lo hi 1 (n:bG)=(((sIx n 0 lo:bD):bG),((sIx n n hi:bD):bG)):=by
 have h1: ¬ ((1:bG)<0):=cI;unfold Dc;simp only[h1,cy];refine ij ?_ ?_
 .cases lo with|none=>rfl|some v=>exact FB v n 0
 .cases hi with|none=>rfl|some v=>exact FB v n n
def Pe(i j:bD):v6 (i:bG) (j:bG) 1=j-i:=by unfold v6;have h1:(1:bG)>0:=cI;simp only[h1,qX,Int.ediv_one];split<;>lia
def FC{v:bJ}{o:bQ bG}{Q:bQ bG->bS->Prop}(p:xI v o)(h:Q o s):wpAny (cA prog w) A (Xk v) Q E s:=by
 cases p with
 |none=>exact L4 h|int i t=>exact slicePart_int h
def sliceApplied_gen{sl:bI}{vl vu:bJ}{lo hi:bQ bG}{n:bD}{Q:bG×bG×bD->bS->Prop}(hs:s.heap.IsSliceOf sl vl vu .none)(pl:xI vl lo)(pu:xI vu hi)
 (h:Q (((sIx n 0 lo:bD):bG),1,sIx n n hi-sIx n 0 lo) s):wpAny (cA prog w) A (KM (.ref sl) (fE (n:bG))) Q E s:=by
 obtain⟨os,hos,hcs,hds⟩:=id hs;unfold KM Xu;refine bV (bV (rT hos hds (x:=vl) bO (bV (rT hos hds (x:=vu) bO (bV (rT hos hds (x:=.none) bO (dM ?_)))))));refine bV (L4 ?_);show wpAny _ _ (if((1:bG)==0)=bC then _ else _) _ _ s;rw[dH jB];refine bV (FC pl (bV (FC pu (bV (dM ?_)))));show wpAny _ _ (match Dc lo hi 1 (n:bG)with| (lo,hi)=>fE (lo,(1:bG),v6 lo hi 1)) _ _ s;rw[Pc lo hi n];show wpAny _ _ (fE (((sIx n 0 lo:bD):bG),(1:bG),v6 ((sIx n 0 lo:bD):bG) ((sIx n n hi:bD):bG) 1)) _ _ s;rw[Pe];exact dM h
def Pf(xs:fQ bJ)(i k:bD):((kL k).filterMap λ(m:bD)=>xs[((i:bG)+(m:bG)*1).toNat]?).toArray=((xs.toList.drop i).take k).toArray:=by
 have e:(λ(m:bD)=>xs[((i:bG)+(m:bG)*1).toNat]?)=λm=>xs[i+m]? :=by funext m;have:((i:bG)+(m:bG)*1).toNat=i+m:=cI;rw[this]
 rw[e];have:=Eu xs i k;rw[List.filterMap_map]at this;have e2:((λx=>xs[x]?) ∘ λx=>i+x)=λm=>xs[i+m]? :=rfl
 rw[e2]at this;rw[this]
def getItem_tuple_cut{t sl:bI}{items:fQ bJ}{vl vu:bJ}{lo hi:bQ bG}{Q:bJ->bS->Prop}(ht:da s.heap t items)(hs:s.heap.IsSliceOf sl vl vu .none)(pl:xI vl lo)(pu:xI vu hi)
 (hw: ¬ (sIx items.size 0 lo=0/\sIx items.size items.size hi=items.size))
 (h:Q (.ref s.heap.objs.size) {s with heap:=s.heap.push {cls:=.type "tuple",data:=.seq ((items.toList.drop (sIx items.size 0 lo)).take (sIx items.size items.size hi-sIx items.size 0 lo)).toArray}})
 (hsz:items.size<=cJ):wpAny (cA prog w) A (yW (.ref t) (.ref sl)) Q E s:=by
 have htake:sizeOk (.seq ((items.toList.drop (sIx items.size 0 lo)).take (sIx items.size items.size hi-sIx items.size 0 lo)).toArray):=by
  show((items.toList.drop (sIx items.size 0 lo)).take (sIx items.size items.size hi-sIx items.size 0 lo)).toArray.size<=cJ;rw[gQ,gk,DI,Dz]
  lia
 have hj:sIx items.size items.size hi<=items.size:=sIx_le _ _ (cZ _) hi;obtain⟨os,hos,hcs,hds⟩:=id hs;have hTs:s.TypeIs (.ref sl) "slice" :=⟨os,hos,hcs⟩;unfold yW;try with_reducible refine j8 ?_
 first|refine bV (dM ?_)|skip
 refine bV (LB ht.typeIs jB ?_)
 refine bV (jy (name:=yV "__getitem__") ht.typeIs gb
  (j6 gb ht.typeIs Lk ?_ (Lu _ _)))
 show wpAny _ _ (KN (.ref t)>>=_) _ _ s;refine bV (DT ht ?_);refine bV (qf hTs ?_);rw[cK jB];refine bV (sliceApplied_gen hs pl pu ?_);have hno: ¬ ((((sIx items.size 0 lo:bD):bG)==0&&(1:bG)==1&&(sIx items.size items.size hi-sIx items.size 0 lo)==items.size)=bC):=by intro q;rw[dB,dB]at q;have q1:((sIx items.size 0 lo:bD):bG)=0:=dW q.1.1;have q2:sIx items.size items.size hi-sIx items.size 0 lo=items.size:=dW q.2;exact hw ⟨cI,cI⟩
 show wpAny _ _ (if(((sIx items.size 0 lo:bD):bG)==0&&(1:bG)==1&&(sIx items.size items.size hi-sIx items.size 0 lo)==items.size)=bC then _ else _) _ _ s;rw[dH hno,Pf]
 first
  |exact bV (m:=jx _) (au (dM ⟨_,rfl,dM h⟩) htake)
  |exact bV (m:=jx _) (au (bV (dM (dM ⟨_,rfl,dM h⟩))) htake)
  |exact bV (bV (m:=jx _) (au (dM (dM ⟨_,rfl,dM h⟩)) htake))
  |exact bV (bV (m:=jx _) (au (dM ⟨_,rfl,dM h⟩) htake))
end
end HT
namespace L2
open PySem PySem.Spec PyProof.Rows
abbrev TO:=St->Hp->(bQ bG->Hp->Prop)->Prop
def PO(X:Cx)(e:bQ Expr)(t:TO):Prop:=
 ∀(pc:bA (bI×cQ)) (s:bS) (Y:St) (H:Hp) (Q:bQ bG->Hp->Prop),bR X pc Y H s->t Y H Q->
  wpAny (cA X.prog X.w) X.A (evalPart e X.env) (λu s'=>∃o H',bR X pc Y H' s'/\xI u o/\Q o H') X.xe s
noncomputable def Pg:TO:=λ_ H Q=>Q bK H
noncomputable def Pi(t:TE):TO:=λY H Q=>t Y H λx H1=>∃i,x= .int i/\Q (bB i) H1
section
variable{X:Cx}{e:Expr}{te:TE}{lo hi:bQ Expr}{tl th:TO}{pos p2:dJ}
def Pj:PO X bK Pg:=by intro pc s Y H Q I h;rw[evalPart_none];exact dM ⟨bK,H,I,.none,h⟩
def Pk(h:PE X e te):PO X (bB e) (Pi te):=by
 intro pc s Y H Q I hw;rw[evalPart_some];refine cT (h pc s Y H _ I hw) λu s1 qz=>?_
 obtain⟨x,H1,I1,r1,q1⟩:=qz;obtain⟨i,rfl,q⟩:=q1;obtain⟨t,rfl⟩:=r1;exact⟨bB i,H1,I1,.int i t,q⟩
def sj(X:Cx)(r:V->bQ bG->bQ bG->Hp->VK->Prop):Prop:=
 ∀(pc:bA (bI×cQ)) (s:bS) (Y:St) (H:Hp) (x:V) (v vl vu:bJ) (lo hi:bQ bG) (sl:bI) (Q:VK),bR X pc Y H s->cX x v->s.heap.IsSliceOf sl vl vu .none->xI vl lo->xI vu hi->r x lo hi H Q->
  ∃T id,Ec (.type T) "__getitem__" =fE (bB (.builtin id))/\s.TypeIs v T/\wpAny (cA X.prog X.w) X.A (yW v (.ref sl)) (EP X pc Y Q) X.xe s
noncomputable def Pl(r:V->bQ bG->bQ bG->Hp->VK->Prop)(te:TE)(tl th:TO):TE:=λY H Q=>te Y H λx H1=>tl Y H1 λl H2=>th Y H2 λu H3=>r x l u H3 Q
def Pn{r:V->bQ bG->bQ bG->Hp->VK->Prop}(hr:sj X r)(he:PE X e te)(hl:PO X lo tl)(hu:PO X hi th):PE X (.Subscript e (.Slice lo hi bK p2) pos) (Pl r te tl th):=by
 intro pc s Y H Q I h;refine Subscript_ (cT (he pc s Y H _ I h) λv s1 qz=>?_);obtain⟨x,H1,I1,r1,q1⟩:=qz;refine wpAny_Slice (cT (hl pc s1 Y H1 _ I1 q1) λvl s2 ⟨l,H2,I2,pl,q2⟩=>cT (hu pc s2 Y H2 _ I2 q2) λvu s3 qz=>?_);obtain⟨u,H3,I3,pu,q3⟩:=qz;rw[evalPart_none];refine dM ?_;have I4:bR X pc Y H3 {s3 with heap:=s3.heap.push {cls:=.type "slice",data:=.fields #[vl,vu,.none]}}:=I3.kept (t':=s3.toks) λb ob q=>fC _ q
 obtain⟨T,id,hT,ht,hg⟩:=hr pc {s3 with heap:=s3.heap.push {cls:=.type "slice",data:=.fields #[vl,vu,.none]}} Y H3 x v vl vu l u s3.heap.objs.size Q I4 r1 (XU ..) pl pu q3;show wpAny (cA X.prog X.w) X.A (xc e (.Slice lo hi bK p2) v (.ref s3.heap.objs.size)) (EP X pc Y Q) X.xe {s3 with heap:=s3.heap.push {cls:=.type "slice",data:=.fields #[vl,vu,.none]}};exact tail_any (ops:=[.ref s3.heap.objs.size,v]) ht hT hg (by with_unfolding_all rfl)
def aQ(xs:bA V)(lo hi:bQ bG):bA V:=(xs.drop (HT.sIx xs.length 0 lo)).take (HT.sIx xs.length xs.length hi-HT.sIx xs.length 0 lo)
def FG(xs:bA V)(lo hi:bQ bG):(aQ xs lo hi).length<=xs.length:=by
 unfold aQ;rw[gk,DI]
 lia
def Po(K:cD):V->bQ bG->bQ bG->Hp->VK->Prop:=λx lo hi H Q=>∃a xs,x= .ref a/\jH K H a xs/\
 ¬ (HT.sIx xs.length 0 lo=0/\HT.sIx xs.length xs.length hi=xs.length)/\ ∀p,H p=bK->Q (.ref p) (upd H p (.t (aQ xs lo hi)))
def Pp:sj X (Po X.K):=by
 intro pc s Y H x v vl vu lo hi sl Q I rx hs pl pu h;obtain⟨a,xs,rfl,hx,hw,q⟩:=h;cases rx;obtain⟨its,r,ht,hz⟩:=I.tuple hx;have hlen:its.toArray.size=xs.length:=by rw[gQ];exact r.length.symm
 refine⟨"tuple",_,gb.lookup,ht.typeIs,?_⟩;refine HT.getItem_tuple_cut ht hs pl pu (by rw[hlen];exact hw) ?_ (by rw[hlen];exact hz);rw[hlen];refine⟨.ref s.heap.objs.size,_,I.laid (t':=s.toks) (o:=.t (aQ xs lo hi)) (λb ob q=>fC _ q) (cZ _) ?_,rfl,q _ (I.hok.fresh (cZ _))⟩;exact⟨jS (FG xs lo hi) hz,_,(r.drop (HT.sIx xs.length 0 lo)).take (HT.sIx xs.length xs.length hi-HT.sIx xs.length 0 lo),tZ.new _ _⟩
def Pq(K:cD):R2:=λx y H Q=>∃a b xs ys,x= .ref a/\y= .ref b/\jH K H a xs/\jH K H b ys/\xs≠ []/\xs.length+ys.length<=cJ/\
 (ys= []->Q (.ref a) H)/\(ys≠ []->∀p,H p=bK->Q (.ref p) (upd H p (.t (xs++ys))))
def cW.nil_iff{xs:bA V}{us:bA bJ}(r:cW xs us):us= [] ↔ xs= []:=by
 cases r with
 |nil=>simp|cons _ _=>simp
def Pu:dQ X (mU .Add) (Pq X.K):=by intro pc s Y H x y v u Q I rx ry h;obtain⟨a,b,xs,ys,rfl,rfl,ha,hb,hx,hz,q1,q2⟩:=h;cases rx;cases ry;obtain⟨its,r1,p1,_⟩:=I.tuple ha;obtain⟨its2,r2,p2,_⟩:=I.tuple hb;refine HT.cat_tup p1 p2 (λz=>hx (r1.nil_iff.mp z)) (λz=>⟨.ref a,H,I,rfl,q1 (r2.nil_iff.mp z)⟩) (λz=>?_) (by rw[<-r1.length, <-r2.length];exact hz);refine⟨.ref s.heap.objs.size,_,I.laid (t':=s.toks) (o:=.t (xs++ys)) (λb ob q=>fC _ q) (cZ _) ?_,rfl,q2 (λw=>z (r2.nil_iff.mpr w)) _ (I.hok.fresh (cZ _))⟩;exact⟨by rw[cH];exact hz,_,r1.append r2,tZ.new _ _⟩
end
noncomputable def dr(n:bD)(i:bG):bQ bD:=if 0<=i then(if i<n then bB i.toNat else bK)else if-(n:bG)<=i then bB (i+n).toNat else bK
def mY{α:Type}(xs:bA α)(i:bG):bQ α:=(dr xs.length i).bind λj=>xs[j]?
def Pv{n:bD}{i:bG}{j:bD}(h:dr n i=bB j):seqIndex? i n=bB j/\j<n/\ -(n:bG)<=i/\i<n:=by
 unfold dr at h;by_cases h0:0<=i
 .rw[cK h0]at h;by_cases h1:i<n
  .rw[cK h1]at h;have e:i.toNat=j:=jJ h;exact⟨by rw[seqIndex_of h0 h1,e],cI,cI,h1⟩
  .rw[dH h1]at h;cases h
 .rw[dH h0]at h;by_cases h1: -(n:bG)<=i
  .rw[cK h1]at h;have e:(i+n).toNat=j:=jJ h;exact⟨by rw[seqIndex_neg cI h1,e],cI,h1,cI⟩
  .rw[dH h1]at h;cases h
def zm{α:Type}{xs:bA α}{i:bG}{v:α}(h:mY xs i=some v):∃j,seqIndex? i xs.length=some j/\xs[j]? =some v/\j<xs.length/\ -(xs.length:bG)<=i/\i<xs.length:=by
 unfold mY at h;cases e:dr xs.length i with
 |none=>rw[e]at h;cases h|some j=>rw[e]at h;obtain⟨h1,h2,h3,h4⟩:=Pv e;exact⟨j,h1,h,h2,h3,h4⟩
def du{α:Type}{xs:bA α}{j:bD}{v:α}(h:xs[j]? =bB v):mY xs (j:bG)=bB v:=by
 have hj:j<xs.length:=(rS.mp h).1;have e:dr xs.length (j:bG)=bB j:=by unfold dr;rw[cK cI,cK cI];simp
 unfold mY;rw[e];exact h
def sk(b:Expr):Prop:=∀o i,xl b bH o i=operate [o,i] (yW o i)
def eh(X:Cx)(r:R2):Prop:=
 ∀(value slice:Expr) (pc:bA (bI×cQ)) (s:bS) (Y:St) (H:Hp) (x y:V) (v u:bJ) (Q:VK),bR X pc Y H s->cX x v->cX y u->r x y H Q->
  xl slice bH v u=operate [v,u] (yW v u)->wpAny (cA X.prog X.w) X.A (xc value slice v u) (EP X pc Y Q) X.xe s
def aR(X:Cx)(id:lB)(r:V->bA V->Hp->VK->Prop):Prop:=
 ∀(pc:bA (bI×cQ)) (s:bS) (Y:St) (H:Hp) (x:V) (xs:bA V) (v:bJ) (us:bA bJ) (Q:VK),bR X pc Y H s->cX x v->cW xs us->r x xs H Q->
  wpAny (cA X.prog X.w) X.A (call (.builtin id) (v::us)) (EP X pc Y Q) X.xe s
section
variable{X:Cx}{a b:Expr}{ta tb:TE}{pos:dJ}
def FH{r:R2}(hr:eh X r)(ha:PE X a ta)(hb:PE X b tb)(hs:sk b):PE X (.Subscript a b pos) (lr r ta tb):=by intro pc s Y H Q I h;exact Subscript_ (y9 ha hb I h λv u s2 x y H2 I2 rx ry q=>hr a b pc s2 Y H2 x y v u Q I2 rx ry q (hs _ _))
def Pw(K:cD):R2:=λx y H Q=>∃p xs i v,x= .ref p/\y= .int i/\gS K H p xs/\mY xs i=bB v/\Q v H
def Px(K:cD):R2:=λx y H Q=>∃p xs i v,x= .ref p/\y= .int i/\jH K H p xs/\mY xs i=bB v/\Q v H
def Py:R2:=λx y H Q=>∃z i c,x= .str z/\y= .int i/\z.length<=cJ/\mY z.cps.toList i=bB c/\Q (.str ⟨#[c]⟩) H
def Pz:eh X (Pw X.K):=by
 intro value slice pc s Y H x y v u Q I rx ry h hs;obtain⟨p,xs,i,z,rfl,rfl,hq,he,q⟩:=h;cases rx;obtain⟨t,rfl⟩:=ry;obtain⟨its,r,pl,hz⟩:=I.list hq;obtain⟨j,h1,h2,h3,h4,h5⟩:=zm he;obtain⟨w,ew,rw'⟩:=r.get h2;have hl:=r.length;have hn:=iE;have fO:EP X pc Y Q w s:=⟨z,H,I,rw',q⟩;by_cases h0:0<=i
 .have hj:i.toNat=j:=by
   rw[seqIndex_of h0 h5]at h1;exact jJ h1
  exact item_listR pl.isList h0 cI (by rw[hj];simpa using ew) fO hs
 .have hj:(i+(its.toArray.size:bG)).toNat=j:=by
   rw[seqIndex_neg cI h4]at h1;rw[gQ, <-hl];exact jJ h1
  exact Dp (x:=w) pl.isList.typeIs LC.lookup
   (wpAny_getItem_list_neg (Q:=λr s'=>r=w/\EP X pc Y Q r s') pl.isList cI (by rw[gQ]<;>lia) cI (by rw[hj];simpa using ew) ⟨rfl,fO⟩) hs
def ix_tup:eh X (Px X.K):=by
 intro value slice pc s Y H x y v u Q I rx ry h hs;obtain⟨p,xs,i,z,rfl,rfl,hq,he,q⟩:=h;cases rx;obtain⟨t,rfl⟩:=ry;obtain⟨its,r,pl,hz⟩:=I.tuple hq;obtain⟨j,h1,h2,h3,h4,h5⟩:=zm he;obtain⟨w,ew,rw'⟩:=r.get h2;have hl:=r.length;have hn:=iE;have fO:EP X pc Y Q w s:=⟨z,H,I,rw',q⟩
 exact Dp (x:=w) pl.typeIs gb.lookup
  (getItem_tuple (j:=j) (Q:=λr s'=>r=w/\EP X pc Y Q r s') pl cI cI (by rw[gQ, <-hl];exact h1) (by simpa using ew) ⟨rfl,fO⟩) hs
def PB:eh X Py:=by
 intro value slice pc s Y H x y v u Q I rx ry h hs;obtain⟨z,i,c,rfl,rfl,hz,he,q⟩:=h;obtain⟨t,rfl⟩:=rx;obtain⟨t',rfl⟩:=ry;obtain⟨j,h1,h2,h3,h4,h5⟩:=zm he;have hl:z.cps.toList.length=z.length:=by simp[Ed]
 rw[hl]at h1 h4 h5;have hn:=iE;exact tail_any (j9 s z t) slot_str_getitem.lookup (getItem_str (c:=c) (by have e1:cN (i< -(2^63:bG))=bH:=jD cI;have e2:cN (i≥2^63)=bH:=jD cI;rw[e1,e2,Bool.or_false]) (by rw[h1];simpa using h2) ⟨.str ⟨#[c]⟩,H,I.tok _,⟨_,rfl⟩,q⟩) hs
def PC(lo hi:bQ bG)(n:bD):(g0 lo hi none n).1=((HT.sIx n 0 lo:bD):bG)/\(g0 lo hi none n).2.1=((HT.sIx n n hi:bD):bG)/\(g0 lo hi none n).2.2=1:=by
 refine⟨?_,?_,rfl⟩
 .cases lo with
  |none=>simp[g0,HT.sIx]|some i=>
   simp only[g0,HT.sIx,DJ,show(1:bG)>0 by decide,qX];by_cases h:i<0
   .simp only[h,qX]<;>lia
   .simp only[h,cy]<;>lia
 .cases hi with
  |none=>simp[g0,HT.sIx]|some i=>
   simp only[g0,HT.sIx,DJ,show(1:bG)>0 by decide,qX];by_cases h:i<0
   .simp only[h,qX]<;>lia
   .simp only[h,cy]<;>lia
def PD(its:bA bJ)(lo hi:bQ bG):slicePick its.toArray lo hi bK=((its.drop (HT.sIx its.length 0 lo)).take (HT.sIx its.length its.length hi-HT.sIx its.length 0 lo)).toArray:=by obtain⟨h1,h2,h3⟩:=PC lo hi its.toArray.size;unfold slicePick;rw[h1,h2,h3];simp only[L5,Eu,gQ]<;>rfl
def PF(K:cD):V->bQ bG->bQ bG->Hp->VK->Prop:=λx lo hi H Q=>∃a xs,x= .ref a/\gS K H a xs/\ ∀p,H p=bK->Q (.ref p) (upd H p (.l (aQ xs lo hi)))
def PH:sj X (PF X.K):=by intro pc s Y H x v vl vu lo hi sl Q I rx hs pl pu h;obtain⟨a,xs,rfl,hx,q⟩:=h;cases rx;obtain⟨its,r,ht,hz⟩:=I.list hx;have hlen:=r.length;refine⟨"list",_,LC.lookup,ht.isList.typeIs,?_⟩;refine wpAny_getItem_list_slice ht.isList hs pl pu .none cO ?_ (by rw[gQ]<;>lia);rw[PD, <-hlen];refine⟨.ref s.heap.objs.size,_,I.laid (t':=s.toks) (o:=.l (aQ xs lo hi)) (λb ob q=>fC _ q) (cZ _) ?_,rfl,q _ (I.hok.fresh (cZ _))⟩;exact⟨jS (FG xs lo hi) hz,_,0,(r.drop (HT.sIx xs.length 0 lo)).take (HT.sIx xs.length xs.length hi-HT.sIx xs.length 0 lo),lA _ rfl⟩
def FJ:jE X (.builtin "len") (λxs H Q=>∃p ys,xs= [.ref p]/\(gS X.K H p ys\/jH X.K H p ys)/\Q (.int ys.length) H):=by
 intro pc s Y H xs us Q I r h;obtain⟨p,ys,rfl,hq,q⟩:=h;obtain⟨u,rfl,rx⟩:=pG r;cases rx;have hn:=iE;rcases hq with hq|hq
 .obtain⟨its,r',pl,hz⟩:=I.list hq;have hlen:=r'.length;exact Calls.call_len_list pl.isList (by simp only[gQ]<;>lia) ⟨.int ys.length,H,I.tok _,⟨s.toks+1,by rw[gQ,hlen]⟩,q⟩
 .obtain⟨its,r',pl,hz⟩:=I.tuple hq;have hlen:=r'.length;exact len_tuple pl (by simp only[gQ]<;>lia) ⟨.int ys.length,H,I.tok _,⟨s.toks+1,by rw[gQ,hlen]⟩,q⟩
def PJ:jE X (.builtin "len") (λxs H Q=>∃z,xs= [.str z]/\z.length<=cJ/\Q (.int z.length) H):=by intro pc s Y H xs us Q I r h;obtain⟨z,rfl,hz,q⟩:=h;obtain⟨u,rfl,t,rfl⟩:=pG r;have hn:=iE;exact len_str cI ⟨.int z.length,H,I.tok _,⟨_,rfl⟩,q⟩
def FK:jE X (.type "list") (λxs H Q=>∃p ys,xs= [.ref p]/\(gS X.K H p ys\/jH X.K H p ys)/\ ∀l,H l=bK->Q (.ref l) (upd H l (.l ys))):=by
 intro pc s Y H xs us Q I r h;obtain⟨p,ys,rfl,hq,q⟩:=h;obtain⟨u,rfl,rx⟩:=pG r;cases rx
 have fO:∀(its:bA bJ),cW ys its->ys.length<=cJ->∀(h':cB) (c':bD),(∀b o',s.heap.get? b=bB o'->h'.get? b=bB o')->
  h'.get? s.heap.objs.size=bB {cls:=.type "list",dict:=bK,data:=.seq its.toArray c',slots:= #[]}->EP X pc Y Q (.ref s.heap.objs.size) {s with heap:=h'}:=λits r' hz h' c' kp e=>
  ⟨.ref s.heap.objs.size,_,I.laid (t':=s.toks) kp (cZ _) (show lZ X.prog X.w _ h' _ (.l ys)from⟨hz,its,c',r',e⟩),rfl,q _ (I.hok.fresh (cZ _))⟩
 rcases hq with hq|hq
 .obtain⟨its,r',pl,hz⟩:=I.list hq;have hlen:=r'.length;obtain⟨o,ho,hc,n,hd⟩:=pl.isList;exact call_list_seq p (.inl rfl) ho hc hd (λh' c' kp e=>fO its r' hz h' c' kp e) (by simp only[gQ]<;>lia)
 .obtain⟨its,r',pl,hz⟩:=I.tuple hq;have hlen:=r'.length;obtain⟨o,ho,hc,n,hd⟩:=pl;exact call_list_seq p (.inr rfl) ho hc hd (λh' c' kp e=>fO its r' hz h' c' kp e) (by simp only[gQ]<;>lia)
def FL:jE X (.type "tuple") (λxs H Q=>∃p ys,xs= [.ref p]/\((gS X.K H p ys/\ ∀l,H l=bK->Q (.ref l) (upd H l (.t ys)))\/(jH X.K H p ys/\Q (.ref p) H))):=by
 intro pc s Y H xs us Q I r h;obtain⟨p,ys,rfl,h⟩:=h;obtain⟨u,rfl,rx⟩:=pG r;cases rx;rcases h with⟨hq,q⟩|⟨hq,q⟩
 .obtain⟨its,r',pl,hz⟩:=I.list hq;have hlen:=r'.length;refine call_tuple_list pl.isList (λh' kp=>?_) (by simp only[gQ]<;>lia);have I1:bR X pc Y H {s with heap:=h'}:=I.kept (t':=s.toks) kp;have I2:bR X pc Y (upd H h'.objs.size (.t ys)) {s with heap:=h'.push {cls:=.type "tuple",data:=.seq its.toArray}}:=
   I1.laid (t':=s.toks) (λb o e=>fC _ e) (cZ _) (show lZ X.prog X.w _ _ _ (.t ys)from⟨hz,its,r',tZ.new _ _⟩)
  exact⟨.ref h'.objs.size,_,I2,rfl,q _ (I1.hok.fresh (cZ _))⟩
 .obtain⟨its,r',pl,hz⟩:=I.tuple hq;exact call_tuple_same pl ⟨.ref p,H,I,rfl,q⟩
def FM(K:cD)(T:lB)(x:V)(H:Hp):Prop:=match x with
 | .str _=>T="str"| .int _=>T="int"| .ref p=>(T="list" /\ ∃xs,gS K H p xs)\/(T="tuple" /\ ∃o,K.lookup p=bB o/\o.cls= .type "tuple" /\o.dict=bK)\/
  (T="dict" /\((∃kvs,H p=bB (.dK kvs))\/ ∃kvs,H p=bB (.dT kvs)))\/(T="set" /\ ∃S n,H p=bB (.set S n))
 |_=>jF
def PK{pc:bA (bI×cQ)}{Y:St}{H:Hp}{s:bS}{T:lB}{x:V}{v:bJ}(I:bR X pc Y H s)(r:cX x v)(ty:FM X.K T x H):
 s.TypeIs v T/\ ∀a,v= .ref a->∃ob,s.heap.get? a=bB ob/\ob.dict=bK:=by
 cases x with
 |str z=>obtain⟨t,rfl⟩:=r;cases(show T="str" from ty);exact⟨j9 s z t,λ_ e=>nomatch e⟩|int i=>obtain⟨t,rfl⟩:=r;cases(show T="int" from ty);exact⟨Ef s i t,λ_ e=>nomatch e⟩|ref p=>
  cases r;rcases ty with⟨rfl,xs,hq⟩|⟨rfl,o,hk,hc,hd⟩|⟨rfl,hk⟩|⟨rfl,S,n,hk⟩
  .obtain⟨its,_,pl,_⟩:=I.list hq;refine⟨pl.isList.typeIs,λa e=>?_⟩;cases e;obtain⟨o,n,e,c,hd,_⟩:=pl;exact⟨o,e,hd⟩
  .refine⟨⟨o,I.kIn p o hk,hc⟩,λa e=>?_⟩;cases e;exact⟨o,I.kIn _ o hk,hd⟩
  .have z:∃o,s.heap.get? p=bB o/\o.ExactDict:=by
    rcases hk with⟨kvs,hk⟩|⟨kvs,hk⟩
    .obtain⟨_,_,_,_,o,_,_,e,ex,_⟩:=I.hok p _ hk;exact⟨o,e,ex⟩
    .obtain⟨_,_,_,_,o,_,_,e,ex,_⟩:=I.hok p _ hk;exact⟨o,e,ex⟩
   obtain⟨o,e,ex⟩:=z;refine⟨⟨o,e,ex.1⟩,λa e2=>?_⟩;cases e2;exact⟨o,e,ex.2.1⟩
  .obtain⟨o,_,_,_,e,ex,_⟩:=I.hok p _ hk;refine⟨⟨o,e,ex.1⟩,λa e2=>?_⟩;cases e2;exact⟨o,e,ex.2.1⟩
 |_=>exact qV ty
noncomputable def PM(K:cD)(T:lB)(r:V->bA V->Hp->VK->Prop)(to:TE)(t:TA):TE:=λY H Q=>to Y H λx H1=>FM K T x H1/\t Y H1 λxs H2=>r x xs H2 Q
variable{o e:Expr}{es:bA Expr}{to:TE}{t:TA}{name:Str}{apos cpos:dJ}{T id:lB}{r:V->bA V->Hp->VK->Prop}
def sn(pa:PlainAttrs T)(slot:Slot T name id)(hty:yr (.builtin id)=fE (.type "method_descriptor"))(hm:aR X id r)(ho:PE X o to)(ha:PA X (e::es) t)
 (hbase:yT o name X.env (dX o X.env)=dX o X.env:=by rfl)
 (hfew:((kU cpos (fK (e::es) X.env)).all (λx=> !x.1)&&(cv cpos (cj [] X.env)).all (λx=>x.1.isSome)
   &&cN ((e::es).length+([]:bA tV).length+(if([]:bA tV).isEmpty then 0 else 1)<30))=bC:=by rfl)
 (hline:(apos.endLine==cpos.line)=bC:=by rfl) (hs:fK (e::es) X.env=(bH,dX e X.env)::fK es X.env:=by rfl) (hplain:(kU cpos (fK es X.env)).any (·.1)=bH:=by rfl):
 PE X (.Call (.Attribute o name apos) (e::es) [] cpos) (PM X.K T r to t):=by
 intro pc s Y H Q I h;refine wpAny_Call_method_late hbase hfew hline bO (cT (ho pc s Y H _ I h) λv s1 qz=>?_);obtain⟨x,H1,I1,r1,ty,q1⟩:=qz;obtain⟨h1,h2⟩:=PK I1 r1 ty;refine⟨T,id,pa,slot,hty,h1,h2,?_⟩;have hA:=ha cpos pc s1 Y H1 _ I1 q1;rw[hs]at hA|-;refine K4 (by show(bH||(kU cpos (fK es X.env)).any (·.1))=bH;rw[hplain]<;>rfl) (Lh ?_);exact cT hA λus s2 qz=>by obtain⟨vs,H2,I2,r2,q2⟩:=qz;exact hm pc s2 Y H2 x vs v us Q I2 r1 r2 q2
end
def FO(X:Cx)(id:lB)(r:V->bA V->Hp->VK->Prop):Prop:=
 ∀(pc:bA (bI×cQ)) (s:bS) (Y:St) (H:Hp) (x:V) (xs:bA V) (v:bJ) (us:bA bJ) (Q:VK),bR X pc Y H s->cX x v->cW xs us->r x xs H Q->
  wpAny (cA X.prog X.w) X.A (call (.builtin id) (v::us)) (EP X pc Y Q) X.xe s
def cW.one:∀{x:V} {us:bA bJ},cW [x] us->∃u,us= [u]/\cX x u|_,_,.cons r .nil=>⟨_,rfl,r⟩
section
variable{X:Cx}{pc:bA (bI×cQ)}{Y:St}{H:Hp}{s:bS}{l b:bI}{xs ys zs:bA V}
def bR.lset{its its':bA bJ}{n:bD}{f:fQ bJ->fQ bJ}{t':bD}(I:bR X pc Y H s)(hH:H l=bB (.l xs))
 (e:s.heap.get? l=bB {cls:=.type "list",data:=.seq its.toArray n}) (hf:f its.toArray=its'.toArray) (hv:cW ys its') (hz:ys.length<=cJ):
 bR X pc Y (upd H l (.l ys)) {s with heap:=s.heap.update l (Eg f),toks:=t'}:=by
 have q:=PySem.IsL.update e f;rw[hf]at q;refine I.write (x:=l) (e:=l) (by rw[hH];exact trivial) (.inl bO) (λb' u hb hu=>(Heap.get?_update_other s.heap (Eg f) (c5 hb)).trans hu) ⟨_,q⟩ ?_;exact⟨hz,its',_,hv,q⟩
def bR.lnew{its:bA bJ}{t':bD}(I:bR X pc Y H s)(hv:cW ys its)(hz:ys.length<=cJ):
 bR X pc Y (upd H s.heap.objs.size (.l ys)) {s with heap:=s.heap.push {cls:=.type "list",data:=.seq its.toArray},toks:=t'}:=
 I.laid (λ_ _ q=>fC _ q) (cZ _) ⟨hz,its,0,hv,lA _ bO⟩
def bR.fresh(I:bR X pc Y H s):H s.heap.objs.size=bK:=I.hok.fresh (cZ _)
def bR.lstM(I:bR X pc Y H s)(hH:H l=bB (.l xs)):xs.length<=cJ/\ ∃(its:bA bJ) (n:bD),cW xs its/\xs.length=its.length/\s.heap.get? l=bB {cls:=.type "list",data:=.seq its.toArray n}:=by obtain⟨z,its,n,r,e⟩:=I.hok l _ hH;exact⟨z,its,n,r,r.length,e⟩
def PN{n:bD}(h:n<=cJ):wa n=bH:=by unfold wa;exact jD cI
end
section
variable{X:Cx}
def PP:V->bA V->Hp->VK->Prop:=λx vs H Q=>∃l xs y,x= .ref l/\vs= [y]/\H l=bB (.l xs)/\xs.length<cJ/\Q .n (upd H l (.l (xs++ [y])))
theorem zn:FO X "list.append" PP:=by
 intro pc s Y H x vs v us Q I rx rv h;obtain⟨l,xs,y,rfl,rfl,hH,hz,q⟩:=h;cases rx;obtain⟨u,rfl,ru⟩:=rv.one;obtain⟨z,its,n,r,hl,e⟩:=I.lstM hH;refine cr Dq ⟨_,e,rfl⟩ F.entry_list_append (F.args_list_append_2 _ _) (PySem.list_append l its.toArray n u (by rw[gQ];lia)) ⟨e,?_⟩;refine⟨.n,_,I.lset (its':=its++ [u]) hH e cO (r.append (.cons ru .nil)) ?_,rfl,q⟩;rw[cH,pk]
 lia
end
section
variable{prog:fM}{w:cF}{A:gK}{E:bJ->bS->Prop}{s:bS}
set_option maxRecDepth 100000 in
end
section
variable{X:Cx}
end
end L2
namespace Att
open PySem PySem.W PySem.Calls PyProof.Rows
def PQ{P:aK}{h:cB}:∀(ns:bA bG) (vs:bA bJ),WellAll P h vs (ns.map MJ)->rb vs ns:=by
 intro ns;induction ns with
 |nil=>intro vs w;rw[vY]at w;cases w;exact .nil
 |cons n ns ih=>
  intro vs w;rw[dY]at w;cases w with
  |cons a b=>cases a;exact .cons _ _ (ih _ b)
def PR{l:qw}{n:bD}(hn:l.most=bB n){P:aK}{h:cB}{args:bA WData}{vals:bA bJ}
 (hpre:l.row.toRowW.claim.pre args=bC) (hwl:WellAll P h vals args):
 ∃a vs ns,vals= [jT a]/\args= [WData.list (ns.map MJ)]/\h.get? a=bB {cls:=.type "list",data:=.seq vs.toArray}/\rb vs ns/\ns.length<=n:=by
 have hsh:WShape.hasAll [] args [.list .int]=bC:=(pre_splitW hpre).1;have hc:l.pre.holds [] {args:=args}=bC:=(pre_splitW hpre).2;obtain⟨d,r,rfl,h1,h2⟩:=hasAllW_cons hsh;obtain rfl:=hasAllW_nil h2;obtain⟨xs,rfl,h3⟩:=hasW_list h1;obtain⟨ns,rfl⟩:=items_int h3;have hlen:ns.length<=n:=by
  unfold OpenLaw.pre at hc;have h4:(WTm.not (.lt (.lit (.int (n:bG))) (.len (.arg 0)))).holds [] {args:=[.list (ns.map .int)]}=bC:=by have h4:=(holds_andW hc).1;rw[hn]at h4;exact h4
  have h5:=condW_of h4 (w_not (w_lt w_lit (w_len_list (w_arg rfl))));rw[cG]at h5;refine pv λq=>?_
  have q':(n:bG)<((ns.length:bD):bG):=cI
  first
   | (rw[mQ q']at h5;exact dD h5 jB)
   | (simp at h5;lia)
 cases hwl with
 |cons w1 w2=>
  cases w2;cases w1 with
  |list ho hall=>exact⟨_,_,ns,rfl,rfl,ho,PQ ns _ hall,hlen⟩
def PU(l:qw)(args:bA WData):l.row.toRowW.claim.post args (.bool bC) args=bC:=
 postW_of (r:=l.row.toRowW) (X:=(bC==bC))
  (show MD [] (.bool bC) .bool=bC by first|rfl|decide|simp[MD,WShape.arms,WShape.armsAll])
  (show(WTm.eq .res (.lit (.bool bC))).value [] {args:=args,res:=bB (.bool bC),after:=args}=bB (.bool (bC==bC))from w_eq_bool (w_res bO) w_lit) bO
def attach_call{l:qw}{n:bD}{q:fM}{loose:bA Str}{XP:(Str->bQ bJ)->cB->Prop}{YP:cF->cB->Prop}{d:DefRec}
 (hn:l.most=bB n) (hdf:d.params.defaults= [])
 (call:∀(w:cF) (s₀ s₁:bS) (mg mb:Str->bQ bJ) (fa:bI) (o:cQ) (pm cd doc:bJ) (a:bI) (vs:bA bJ) (ns:bA bG),
   Ground q loose [] XP w s₀ mg mb s₁.heap->YP w s₁.heap->
   s₁.heap.get? fa=bB o->o.data= .func (docDef d.name d.params d.body d.scope pm cd doc)->s₁.heap.CodeRec cd d.name->mg d.name=bB (.ref fa)->
   s₁.heap.get? a=bB {cls:=.type "list",data:=.seq vs.toArray}->rb vs ns->ns.length<=n->s₁.gens= #[]->
   codeAny (cA l.prog w) iw (.call (.ref fa) ⟨[.ref a],[]⟩) (λr s'=>r= .ok (.ret (.bool bC))/\OldK s₁.heap s'.heap/\s'.os=s₁.os/\aJ s'.gens) s₁):
 WalkO q loose XP YP l.row.toRowW d [] (λf vs=>MF f vs):=by
 intro w s₀ s₁ mg mb G Ya fa o pm cd doc dV kV ho hd hcd hD hmg hg args vals as hpre hlay hrd hwl hlo;obtain rfl:dV= .none:=Dflts.none hD hdf;obtain rfl:kV= .none:=Dflts.noKw hD;obtain⟨a,vs,ns,rfl,rfl,hobj,hints,hlen⟩:=PR hn hpre hwl;refine enter_call (gu (call w s₀ s₁ mg mb fa o pm cd doc a vs ns G Ya ho (fd_plain hd) hcd hmg hobj hints hlen hg) λr s' hq=>?_);obtain⟨rfl,h2,h3,h4⟩:=hq;exact⟨.inl ⟨.bool bC,.bool bC,[],rfl,λ_=>rfl,.bool bC,PU l _,λ_=>⟨XW,λ_ hm=>(nomatch hm)⟩⟩,h2,h3,h4⟩
section
variable{prog:fM}{w:cF}{A:gK}{E:bJ->bS->Prop}{s:bS}{K:cD}
noncomputable def XZ(h:cB)(L d:bI):bA (bI×cQ):=(kL h.objs.size).filterMap λa=>if a=L\/a=d then bK else(h.get? a).map λo=>(a,o)
end
end Att
namespace L2
open PySem PySem.Spec PyProof.Rows
theorem FQ:∀{vs:bA bJ} {ns:bA bG},rb vs ns->cW (ns.map V.int) vs|_,_,.nil=>.nil|_,_,.cons n t h=>.cons ⟨t,rfl⟩ (FQ h)
noncomputable abbrev X0{K:cD}{h:cB}(_:K.In h):cD:=K
noncomputable def lu(s:dN):xy:=match s with| .FunctionDef _ a _ _ _ _ _ _ _ _=>a|_=>{posonlyargs:=[],args:=[],vararg:=bK,kwonlyargs:=[],kw_defaults:=[],kwarg:=bK,defaults:=[]}
noncomputable def kM(s:dN):bA dN:=match s with| .FunctionDef _ _ b _ _ _ _ _ _ _=>b|_=>[]
noncomputable def dA(s:dN):kW:=match s with| .FunctionDef _ _ _ _ _ _ sc _ _ _=>sc|_=>{kind:=.function,names:=[],isGenerator:=bH,isCoroutine:=bH}
noncomputable abbrev fF:wH:=λ_ _ _ _ _ _=>jF
noncomputable abbrev E0:XK:=λ_ _ _=>jF
def xL{X:Cx}:dq fF X E0:=λ_ _ _ _ _ _ _ h=>h.elim
structure hO(K:cD)(x qual:Str)(st:dN)(f:bI)(fd:gJ):Prop where
 ex:∃(oc:bJ) (od:bQ bI) (kV doc pm:bJ) (an:bQ bI) (cdv ct:bJ) (osl:fQ (bQ bJ)),
  fd=iz x qual (lu st) (kM st) (dA st) .none kV doc pm an cdv ct/\K.lookup f=bB ⟨oc,od,.func fd,osl⟩/\aG K cdv qual=bC
 kp:lY K (.ref f)=bC
section
variable{P:fM}{w:cF}{K:cD}{mg:Str->bQ bJ}{base:cB}
theorem hO.ok{x qual:Str}{st:dN}{f:bI}{fd:gJ}{N ps:bA Str}{k:bD}{sp:Sp}(F:hO K x qual st f fd)(S:lU N ps (dA st))(len:∀vs H Q E,sp vs H Q E->vs.length=ps.length)
 (hbody:∀(cdv:bJ) (A:gK) (outer:bA jG) (s:bS) (H:Hp) (vs:bA V) (Q:VK) (E:XK),fY k (A.deeper (qD qual (dA st) s.heap.objs.size f cdv))->sp vs H Q E->
   ∃t,pF (rY fF P w K mg base N qual (dA st) f cdv A outer s H E).nox (kM st) t/\t {nx:=λ_ H'=>Q .n H',rt:=Q} (start N vs) H):dZ P w K mg base fF (k+1) f fd ps sp:=by
 obtain⟨oc,od,kV,doc,pm,an,cdv,ct,osl,rfl,lk,hcd⟩:=F.ex;refine Fz lk hcd S len λA outer s H vs Q E hr hsp=>?_
 obtain⟨t,h,q⟩:=hbody cdv A outer s H vs Q E hr hsp;exact⟨t,h.nox,q⟩
theorem hO.binds{x qual:Str}{st:dN}{f:bI}{fd:gJ}{ps:bA Str}(F:hO K x qual st f fd)
 (h:∀(kV doc pm:bJ) (an:bQ bI) (cdv ct:bJ) (us:bA bJ),us.length=ps.length->Er (iz x qual (lu st) (kM st) (dA st) .none kV doc pm an cdv ct) ⟨us,[]⟩=fE (ps.zip us)):lH K fd ps []:=by
 obtain⟨oc,od,kV,doc,pm,an,cdv,ct,osl,rfl,lk,hcd⟩:=F.ex;exact .all (h kV doc pm an cdv ct)
def zo{x qual:Str}{st:dN}{f:bI}{oc:bJ}{od an:bQ bI}{osl:fQ (bQ bJ)}{kV doc pm cdv ct:bJ}(l:K.lookup f=bB ⟨oc,od,.func (iz x qual (lu st) (kM st) (dA st) .none kV doc pm an cdv ct),osl⟩)
 (c:aG K cdv qual=bC) (k:lY K (.ref f)=bC):hO K x qual st f (iz x qual (lu st) (kM st) (dA st) .none kV doc pm an cdv ct):=⟨⟨oc,od,kV,doc,pm,an,cdv,ct,osl,rfl,l,c⟩,k⟩
end
def FT{n:bD}(h:n<=1000):n<cJ:=wk h jB
section
variable{X:Cx}
end
def vA{A B:Prop}(h:B):if bH=bC then A else B:=by rw[dH tO];exact h
def vB{A B:Prop}(h:A):if bC=bC then A else B:=by rw[cK bO];exact h
def bT(H H':Hp):Prop:=∀b o,H b=bB o->H' b=bB o
def bT.refl(H:Hp):bT H H:=λ_ _ h=>h
def bT.trans{H H1 H2:Hp}(a:bT H H1)(b:bT H1 H2):bT H H2:=λc o h=>b c o (a c o h)
def bT.free{H H':Hp}(e:bT H H'){l:bI}(h:H' l=bK):H l=bK:=by
 cases q:H l with
 |none=>rfl|some o=>rw[e l o q]at h;cases h
def bT.seq{K:cD}{H H':Hp}{a:bI}{xs:bA V}(e:bT H H')(h:gS K H a xs):gS K H' a xs:=by
 rcases h with(h|⟨o,h⟩)|h
 .exact .inl (.inl (e _ _ h))
 .exact .inl (.inr ⟨o,e _ _ h⟩)
 .exact .inr h
section
variable{κ:Type} [xj κ]
noncomputable def pU(kvs:bA (κ×V))(k:κ):bQ V:=(kvs.find? λkv=>cN (kv.1=k)).map (·.2)
noncomputable def pV(kvs:bA (κ×V))(k:κ)(v:V):bA (κ×V):=
 if(kvs.any λkv=>cN (kv.1=k))=bC then kvs.map (λkv=>if kv.1=k then(kv.1,v)else kv)else kvs++ [(k,v)]
noncomputable def vC(kvs:bA (κ×V))(k:κ):bA (κ×V):=kvs.filter λkv=>cN (kv.1≠k)
def so{p:κ×V}{r:bA (κ×V)}{k:κ}(e:p.1=k):pU (p::r) k=bB p.2:=by simp[pU,wX,e]
def sr{p:κ×V}{r:bA (κ×V)}{k:κ}(e: ¬ p.1=k):pU (p::r) k=pU r k:=by simp[pU,wX,e]
theorem zp(k:κ):∀kvs:bA (κ×V),(kvs.any λkv=>cN (kv.1=k))=(pU kvs k).isSome
 | []=>rfl|p::r=>by
  rw[az];by_cases e:p.1=k
  .simp only[so e,mQ e,Bool.true_or,Option.isSome_some]
  .rw[sr e,jD e,Mj];exact zp k r
def zq(kvs:bA (κ×V))(k:κ)(v:V):(pV kvs k v).length<=kvs.length+1:=by
 unfold pV;split
 .rw[cG];lia
 .rw[cH,dC,lQ];lia
def RelO.isSome_eq{o:bQ V}{u:bQ bJ}(r:RelO o u):o.isSome=u.isSome:=by
 cases o with
 |none=>cases u with
  |none=>rfl|some _=>exact(show jF from r).elim
 |some _=>cases u with|none=>exact(show jF from r).elim|some _=>rfl
def KV.val{kvs:bA (κ×V)}{vs:bA (κ×bJ)}(r:KV kvs vs)(k:κ):RelO (pU kvs k) (c7 vs k):=by
 unfold KV at r;induction r with
 |nil=>exact xF| @cons p q ps qs h t ih=>
  obtain⟨h1,h2⟩:=h;by_cases e:p.1=k
  .have e':q.1=k:=h1.symm.trans e;have b:c7 (q::qs) k=bB q.2:=by simp[c7,wX,e']
   rw[so e,b];exact h2
  .have e': ¬ q.1=k:=λz=>e (h1.trans z)
   have b:c7 (q::qs) k=c7 qs k:=by simp[c7,wX,e']
   rw[sr e,b];exact ih
def KV.any{kvs:bA (κ×V)}{vs:bA (κ×bJ)}(r:KV kvs vs)(k:κ):(kvs.any λkv=>cN (kv.1=k))=vs.any λkv=>cN (kv.1=k):=by
 unfold KV at r;induction r with
 |nil=>rfl|cons h t ih=>rw[az,az,ih,h.1]
def KV.repl{kvs:bA (κ×V)}{vs:bA (κ×bJ)}(r:KV kvs vs)(k:κ){y:V}{u:bJ}(ry:cX y u):
 KV (kvs.map λkv=>if kv.1=k then(kv.1,y)else kv) (vs.map λkv=>if kv.1=k then(kv.1,u)else kv):=by
 unfold KV at r|-;induction r with
 |nil=>exact .nil| @cons p q ps qs h t ih=>
  rw[dY,dY];refine .cons ?_ ih;obtain⟨h1,h2⟩:=h;by_cases e:p.1=k
  .rw[cK e,cK (h1.symm.trans e)];exact⟨h1,ry⟩
  .rw[dH e,dH (λz=>e (h1.trans z))];exact⟨h1,h2⟩
def KV.put{kvs:bA (κ×V)}{vs:bA (κ×bJ)}(r:KV kvs vs)(k:κ){y:V}{u:bJ}(ry:cX y u):KV (pV kvs k y) (yt vs k u):=by
 unfold pV yt;rw[r.any k];by_cases e:(vs.any λkv=>cN (kv.1=k))=bC
 .rw[cK e,cK e];exact r.repl k ry
 .rw[dH e,dH e];exact Mz r ⟨rfl,ry⟩
def KV.drop{kvs:bA (κ×V)}{vs:bA (κ×bJ)}(r:KV kvs vs)(k:κ):KV (vC kvs k) (without vs k):=by
 unfold KV at r|-;unfold vC without;induction r with
 |nil=>exact .nil| @cons p q ps qs h t ih=>
  obtain⟨h1,h2⟩:=h;rw[pQ,pQ];by_cases e:p.1=k
  .have a: ¬ cN (p.1≠k)=bC:=by simp[e]
   have b: ¬ cN (q.1≠k)=bC:=by simp[h1.symm.trans e]
   rw[dH a,dH b];exact ih
  .have e': ¬ q.1=k:=λz=>e (h1.trans z)
   have a:cN (p.1≠k)=bC:=by simp[e]
   have b:cN (q.1≠k)=bC:=by simp[e']
   rw[cK a,cK b];exact .cons ⟨h1,h2⟩ ih
def KV.length{kvs:bA (κ×V)}{vs:bA (κ×bJ)}(r:KV kvs vs):kvs.length=vs.length:=gq r
def PV(kvs:bA (κ×V))(k:κ):(vC kvs k).length<=kvs.length:=we _ _
end
def ei{P:fM}{w:cF}{k:dO}{u:bJ}(r:cX (kV k) u):(jX P w).is k u=bC:=by
 cases k with
 |inl i=>obtain⟨t,e⟩:=(show ∃t,u=ie i t from r);subst e;exact Nk P w i t|inr x=>obtain⟨t,e⟩:=(show ∃t,u=ke x t from r);subst e;exact dh P w x t
theorem FV{P:fM}{w:cF}:∀{ks:bA dO} {us:bA bJ},cW (ks.map kV) us->ItemsAre (jX P w) ks us
 | [],_,r=>by rw[vY]at r;cases r;exact .nil|k::ks,_,r=>by
  rw[dY]at r;cases r with
  |cons h t=>exact .cons (ei h) (FV t)
abbrev KT(H:Hp):bA (bA dO×V)->bA (bA dO×bI×bJ)->Prop:=kD λp q=>p.1=q.1/\H q.2.1=bB (.t (p.1.map kV))/\cX p.2 q.2.2
def KT.val{H:Hp}{kvs:bA (bA dO×V)}{xs:bA (bA dO×bI×bJ)}(r:KT H kvs xs)(k:bA dO):RelO (pU kvs k) ((aM xs k).map (·.2)):=by
 induction r with
 |nil=>exact xF| @cons p q ps qs h t ih=>
  obtain⟨h1,_,h2⟩:=h;by_cases e:p.1=k
  .have e':q.1=k:=h1.symm.trans e;have b:aM (q::qs) k=bB q.2:=by simp[aM,wX,e']
   rw[so e,b];exact h2
  .have e': ¬ q.1=k:=λz=>e (h1.trans z)
   have b:aM (q::qs) k=aM qs k:=by simp[aM,wX,e']
   rw[sr e,b];exact ih
def KT.repl{H:Hp}{kvs:bA (bA dO×V)}{xs:bA (bA dO×bI×bJ)}(r:KT H kvs xs)(k:bA dO){y:V}{u:bJ}(ry:cX y u):
 KT H (kvs.map λkv=>if kv.1=k then(kv.1,y)else kv) (xs.map (putAt k u)):=by
 induction r with
 |nil=>exact .nil| @cons p q ps qs h t ih=>
  rw[dY,dY];refine .cons ?_ ih;obtain⟨h1,h2,h3⟩:=h;unfold putAt;by_cases e:p.1=k
  .rw[cK e,cK (h1.symm.trans e)];exact⟨h1,h2,ry⟩
  .rw[dH e,dH (λz=>e (h1.trans z))];exact⟨h1,h2,h3⟩
def KT.put{H:Hp}{kvs:bA (bA dO×V)}{xs:bA (bA dO×bI×bJ)}(r:KT H kvs xs)(k:bA dO){b:bI}{y:V}{u:bJ}(hb:H b=bB (.t (k.map kV)))(ry:cX y u):
 KT H (pV kvs k y) (storedH xs k b u):=by
 have e:(kvs.any λkv=>cN (kv.1=k))=(aM xs k).isSome:=by rw[zp,(r.val k).isSome_eq,DD]
 unfold pV storedH;rw[e];by_cases q:(aM xs k).isSome=bC
 .rw[cK q,cK q];exact r.repl k ry
 .rw[dH q,dH q];exact Mz r ⟨rfl,hb,ry⟩
def KT.keeps{H H':Hp}{kvs:bA (bA dO×V)}{xs:bA (bA dO×bI×bJ)}(r:KT H kvs xs)(ht:∀b ys,H b=bB (.t ys)->H' b=bB (.t ys)):KT H' kvs xs:=
 Paired.mapP r λ_ _ z=>⟨z.1,ht _ _ z.2.1,z.2.2⟩
section
variable{P:fM}{w:cF}{H:Hp}{h:cB}{a:bI}
def FW{u:HO}(ok:jM P w H h)(e:Rd H a u):lZ P w H h a u:=e.ok ok
def aS{kvs:bA (dO×V)}(ok:jM P w H h)(e:Rd H a (.dK kvs)):kvs.length<=cJ/\(a==qU)=bH/\ ∃vs,KV kvs vs/\h.DictOf (jX P w) a vs:=
 show lZ P w H h a (.dK kvs)from FW ok e
def zt{kvs:bA (dO×V)}(ok:jM P w H h)(e:H a=bB (.dK kvs)):kvs.length<=cJ/\(a==qU)=bH/\ ∃vs,KV kvs vs/\h.DictOf (jX P w) a vs:=aS ok (.inl e)
def lx{ks:bA dO}(ok:jM P w H h)(e:H a=bB (.t (ks.map kV))):(qk (jX P w)).is h ks a:=by obtain⟨_,its,r,o,h1,h2,n,h3⟩:=(show lZ P w H h a (.t (ks.map kV))from ok a _ e);exact⟨o,its.toArray,n,h1,h2.1,h3,by simpa using FV r⟩
def iF{kvs:bA (bA dO×V)}(ok:jM P w H h)(e:Rd H a (.dT kvs)):kvs.length<=cJ/\(a==qU)=bH/\
 ∃xs,KT H kvs xs/\h.DictOfH (qk (jX P w)) a xs:=by
 obtain⟨z,y,xs,r,o,es,ep,h1,h2,h3,h4,h5⟩:=(show lZ P w H h a (.dT kvs)from FW ok e);refine⟨z,y,xs,r,o,es,ep,h1,h2,h3,h4,λx hx=>?_,h5⟩;have all:∀{l:bA (bA dO×V)} {m:bA (bA dO×bI×bJ)},KT H l m->∀x∈m,(qk (jX P w)).is h x.1 x.2.1:=by
  intro l m q;induction q with
  |nil=>intro x hx;exact nomatch hx
  | @cons p q ps qs hq t ih=>
   intro x hx;rcases kS.mp hx with e|hx
   .subst e;exact lx ok (by rw[<-hq.1];exact hq.2.1)
   .exact ih x hx
 exact all r x hx
def PX{kvs:bA (bA dO×V)}(ok:jM P w H h)(e:H a=bB (.dT kvs)):kvs.length<=cJ/\(a==qU)=bH/\
 ∃xs,KT H kvs xs/\h.DictOfH (qk (jX P w)) a xs:=iF ok (.inl e)
end
def aT(H:Hp)(a:bI)(y:V)(r:bQ V):Prop:=
 (∃kvs k,Rd H a (.dK kvs)/\y=kV k/\r=pU kvs k)\/ ∃kvs k b,Rd H a (.dT kvs)/\y= .ref b/\H b=bB (.t (k.map kV))/\r=pU kvs k
def ly(H:Hp)(a:bI)(y v:V)(H':Hp):Prop:=
 (∃kvs k,H a=bB (.dK kvs)/\y=kV k/\kvs.length<cJ/\H'=upd H a (.dK (pV kvs k v)))\/
 ∃kvs k b,H a=bB (.dT kvs)/\y= .ref b/\H b=bB (.t (k.map kV))/\kvs.length<cJ/\H'=upd H a (.dT (pV kvs k v))
def aT.k{H:Hp}{a:bI}{kvs:bA (dO×V)}{k:dO}(e:H a=bB (.dK kvs)):aT H a (kV k) (pU kvs k):=.inl ⟨kvs,k,.inl e,rfl,rfl⟩
def ly.k{H:Hp}{a:bI}{kvs:bA (dO×V)}{k:dO}{v:V}(e:H a=bB (.dK kvs))(hl:kvs.length<cJ):ly H a (kV k) v (upd H a (.dK (pV kvs k v))):=.inl ⟨kvs,k,e,rfl,hl,rfl⟩
section
variable{X:Cx}{pc:bA (bI×cQ)}{Y:St}{H:Hp}{s:bS}{a:bI}{y v:V}{u r:bJ}{o:bQ V}{A:gK}{E:bJ->bS->Prop}
def bR.big(I:bR X pc Y H s):qU<s.heap.objs.size:=by have h:gM<s.heap.objs.size:=(I.mod.glob.keeps I.bk).lt;exact Mo jB h
def PY{Q:bJ->bS->Prop}(hu:A.units+1<lD)(I:bR X pc Y H s)(g:aT H a y (bB v))(ry:cX y u)(h:∀w' s',bR X pc Y H s'->cX v w'->Q w' s'):
 wpAny (cA X.prog X.w) A (yW (.ref a) u) Q E s:=by
 rcases g with⟨kvs,k,e,ey,l⟩|⟨kvs,k,b,e,ey,eb,l⟩
 .subst ey;obtain⟨z,hd,vs,rel,dd⟩:=aS I.hok e;obtain⟨w',hw,rw'⟩:=RelO.some_of (v:=v) (o:=c7 vs k) (by rw[l];exact rel.val k);exact LJ (ei ry) dd.mapOf hw (h w' _ (I.tok _) rw')
 .subst ey;cases(show u=jT b from ry);obtain⟨z,hd,xs,rel,dd⟩:=iF I.hok e;obtain⟨w',hw,rw'⟩:=RelO.some_of (v:=v) (o:=(aM xs k).map (·.2)) (by rw[l];exact rel.val k);obtain⟨p,hp,hp2⟩:=K2.mp hw;refine wpAny_getItem_heap (wl hu) (lx I.hok eb) dd hp ?_;rw[hp2];exact h w' _ (I.tok _) rw'
def PZ{Q:bJ->bS->Prop}(hu:A.units+1<lD)(I:bR X pc Y H s)(g:aT H a y o)(ry:cX y u)(h:∀s',bR X pc Y H s'->Q (.bool o.isSome) s'):
 wpAny (cA X.prog X.w) A (hJ .In u (.ref a)) Q E s:=by
 rcases g with⟨kvs,k,e,ey,l⟩|⟨kvs,k,b,e,ey,eb,l⟩
 .subst ey;obtain⟨z,hd,vs,rel,dd⟩:=aS I.hok e;refine wpAny_in_of (ei ry) hd dd.mapOf ?_;rw[<-(rel.val k).isSome_eq, <-l];exact h _ (I.tok _)
 .subst ey;cases(show u=jT b from ry);obtain⟨z,hd,xs,rel,dd⟩:=iF I.hok e;refine wpAny_in_heap (wl hu) (lx I.hok eb) hd dd ?_;have q:=(rel.val k).isSome_eq;rw[DD]at q;rw[<-q, <-l];exact h _ (I.tok _)
def P0{Q:bJ->bS->Prop}(hu:A.units+1<lD)(I:bR X pc Y H s)(g:aT H a y o)(ry:cX y u)(h:∀s',bR X pc Y H s'->Q (.bool (!o.isSome)) s'):
 wpAny (cA X.prog X.w) A (hJ .NotIn u (.ref a)) Q E s:=by
 rcases g with⟨kvs,k,e,ey,l⟩|⟨kvs,k,b,e,ey,eb,l⟩
 .subst ey;obtain⟨z,hd,vs,rel,dd⟩:=aS I.hok e;refine L6 (ei ry) hd dd.mapOf ?_;rw[<-(rel.val k).isSome_eq, <-l];exact h _ (I.tok _)
 .subst ey;cases(show u=jT b from ry);obtain⟨z,hd,xs,rel,dd⟩:=iF I.hok e;refine wpAny_notIn_heap (wl hu) (lx I.hok eb) hd dd ?_;have q:=(rel.val k).isSome_eq;rw[DD]at q;rw[<-q, <-l];exact h _ (I.tok _)
def zu{h':cB}{t':bD}{ob:HO}(I:bR X pc Y H s)(mu:kx (H a))(hs:yU a s.heap h')(he:∃q,h'.get? a=bB q)(new:lZ X.prog X.w (upd H a ob) h' a ob):
 bR X pc Y (upd H a ob) {s with heap:=h',toks:=t'}:=
 I.write (x:=a) (e:=a) mu (.inl bO) (λb q hb z=>(hs.2 b hb).trans z) he new
def su{P:fM}{w:cF}{H':Hp}{h':cB}{kvs:bA (dO×V)}{vs:bA (dO×bJ)}(z:kvs.length<=cJ)(hd:(a==qU)=bH)(rel:KV kvs vs)(dd:h'.DictOf (jX P w) a vs):
 lZ P w H' h' a (.dK kvs):=⟨z,hd,vs,rel,dd⟩
def P1{H':Hp}{Q:aN->bS->Prop}(hu:A.units+1<lD)(I:bR X pc Y H s)(g:ly H a y v H')(ry:cX y u)(rv:cX v r)(h:∀s',bR X pc Y H' s'->Q () s'):
 wpAny (cA X.prog X.w) A (setItem (.ref a) u r) Q E s:=by
 rcases g with⟨kvs,k,e,ey,l,eH⟩|⟨kvs,k,b,e,ey,eb,l,eH⟩
 .subst ey eH;obtain⟨z,hd,vs,rel,dd⟩:=zt I.hok e;have hz:vs.length<=cJ:=by rw[<-rel.length];exact z
  have hl:(pV kvs k v).length<=cJ:=by have:=zq kvs k v;lia
  refine wpAny_setItem_pairs (hsz:=hz) (ei ry) dd λh' dd' hs=>h _ ?_
  have he:∃q,h'.get? a=bB q:=let ⟨q,_,_,hq,_⟩:=dd';⟨q,hq⟩;exact zu I (by rw[e];exact xF) hs he (su hl hd (rel.put k rv) dd')
 .subst ey eH;cases(show u=jT b from ry);obtain⟨z,hd,xs,rel,dd⟩:=PX I.hok e;have hz:xs.length<=cJ:=by rw[<-gq rel];exact z
  have hl:(pV kvs k v).length<=cJ:=by have:=zq kvs k v;lia
  refine wpAny_setItem_heap (hsz:=hz) (wl hu) (lx I.hok eb) dd λh' dd' hs=>h _ ?_
  obtain⟨q,es,ep,hq,h2,h3,h4,_,h5⟩:=dd';refine zu I (by rw[e];exact xF) hs ⟨q,hq⟩ ⟨hl,hd,_,(rel.put k eb rv).keeps λc ys ec=>?_,q,es,ep,hq,h2,h3,h4,h5⟩;rw[fH (yw ec e (λz=>nomatch z))];exact ec
end
section
variable{X:Cx}{pc:bA (bI×cQ)}{Y:St}{H:Hp}{s:bS}{a:bI}{kvs:bA (dO×V)}{k:dO}{u:bJ}{A:gK}{E:bJ->bS->Prop}
def P2{v:V}{more:bA bJ}{Q:bJ->bS->Prop}(I:bR X pc Y H s)(e:H a=bB (.dK kvs))(ry:cX (kV k) u)(l:pU kvs k=bB v)(hm:more= []\/ ∃x,more= [x])
 (h:∀w' s',bR X pc Y (upd H a (.dK (vC kvs k))) s'->cX v w'->Q w' s'):wpAny (cA X.prog X.w) A (call (.builtin "dict.pop") (.ref a::u::more)) Q E s:=by
 obtain⟨z,hd,vs,rel,dd⟩:=zt I.hok e;obtain⟨w',hw,rw'⟩:=RelO.some_of (v:=v) (o:=c7 vs k) (by rw[<-l];exact rel.val k);have hp:(keyPart u).isSome=bC:=by
  cases k with
  |inl i=>obtain⟨t,q⟩:=(show ∃t,u=ie i t from ry);subst q;rfl|inr x=>obtain⟨t,q⟩:=(show ∃t,u=ke x t from ry);subst q;rfl
 have ha:argsOk "dict.pop" ⟨.ref a::u::more,[]⟩:=by
  rcases hm with q|⟨x,q⟩
  .subst q;exact PySem.F.args_dict_pop_2 _ _
  .subst q;exact PySem.F.args_dict_pop_3 _ _ _
 refine call_meetsIn K8 dd.typeIs PySem.F.entry_dict_pop ha (meets_dict_pop_there (jX X.prog X.w) a (ei ry) more hm hp)
  ⟨vs,w',dd,by rw[<-rel.length];exact z,hw,λh' dd' hs=>h w' _ ?_ rw'⟩
 have he:∃q,h'.get? a=bB q:=let ⟨q,_,_,hq,_⟩:=dd';⟨q,hq⟩;exact zu I (by rw[e];exact xF) hs he (su (jS (PV kvs k) z) hd (rel.drop k) dd')
def P3{Q:bJ->bS->Prop}(I:bR X pc Y H s)(e:Rd H a (.dK kvs))(h:∀t s',bR X pc Y H s'->Q (.int kvs.length t) s'):wpAny (cA X.prog X.w) A (call (.builtin "len") [.ref a]) Q E s:=by obtain⟨z,hd,vs,rel,dd⟩:=aS I.hok e;refine call_len_dict hd dd (by rw[<-rel.length];rw[sR]at z;lia) ?_;rw[<-rel.length];exact h _ _ (I.tok _)
end
def P4{X:Cx}{pc:bA (bI×cQ)}{Y:St}{H:Hp}{s:bS}{a:bI}{y:V}{o:bQ V}(I:bR X pc Y H s)(g:aT H a y o):s.TypeIs (.ref a) "dict" :=by
 rcases g with⟨kvs,k,e,_,_⟩|⟨kvs,k,b,e,_,_,_⟩
 .obtain⟨_,_,vs,_,dd⟩:=aS I.hok e;exact dd.typeIs
 .obtain⟨_,_,xs,_,dd⟩:=iF I.hok e;exact dd.typeIs
noncomputable def P5(td ty tv:TE):TS:=λD Y H=>tv Y H λv H1=>td Y H1 λx H2=>ty Y H2 λy H3=>∃a H4,x= .ref a/\ly H3 a y v H4/\D.nx Y H4
section
variable{X:Cx}{o i e value:Expr}{pos pos' tpos:dJ}{td ty tv:TE}
def P6(hu:X.A.units+1<lD)(ho:PE X o td)(hi:PE X i ty)(hv:PE X value tv)(hs:aE value (bB (.Subscript o i pos')) pos.line X.env=fE bH):
 PS X (.Assign [.Subscript o i pos'] value pos) (P5 td ty tv):=by
 intro pc s Y H D I h;refine wpAny_Assign_Subscript (cT (hv pc s Y H _ I h) λr s1 ⟨v,H1,I1,rv,q1⟩=>cT (ho pc s1 Y H1 _ I1 q1) λu s2 ⟨x,H2,I2,rx,q2⟩=>cT (hi pc s2 Y H2 _ I2 q2) λiv s3 qz=>?_) hs;obtain⟨y,H3,I3,ry,a,H4,ex,g,q3⟩:=qz;subst ex;obtain rfl:u=jT a:=rx;exact P1 hu I3 g ry rv λs4 I4=>⟨Y,H4,I4,q3⟩
end
def P7{P:fM}{w:cF}{H:Hp}(h:cB)(hb:qU<h.objs.size):lZ P w H (h.push {cls:=.type "dict",data:=.dict #[]}) h.objs.size (.dK []):=
 ⟨mK _,lE.mpr (c5 (gX hb)),[],.nil,LU h⟩
def P8:TE:=λ_ H Q=>∀p,H p=bK->Q (.ref p) (upd H p (.dK []))
section
variable{X:Cx}{pos:dJ}
def P9:PE X (.Dict [] [] pos) P8:=λpc s Y H Q I h=>
 wpAny_Dict_empty ⟨.ref s.heap.objs.size,_,I.laid (a:=s.heap.objs.size) (o:=.dK []) (t':=s.toks) (λ_ _ q=>fC _ q) (cZ _) (P7 s.heap I.big),rfl,h _ (I.hok.fresh (cZ _))⟩
end
def iG(kvs more:bA (dO×V)):bA (dO×V):=more.foldl (λacc kv=>pV acc kv.1 kv.2) kvs
def KV.merge:∀{more:bA (dO×V)} {rs:bA (dO×bJ)} {kvs:bA (dO×V)} {vs:bA (dO×bJ)},KV more rs->KV kvs vs->KV (iG kvs more) (yu vs rs):=by
 intro more rs kvs vs r;unfold KV at r;induction r generalizing kvs vs with
 |nil=>intro q;exact q
 | @cons p q ps qs h t ih=>
  intro r0;have e:KV (pV kvs p.1 p.2) (yt vs q.1 q.2):=by have:=r0.put p.1 h.2;rw[<-h.1];exact this
  exact ih e
theorem FX:∀(more kvs:bA (dO×V)),(iG kvs more).length<=kvs.length+more.length| [],kvs=>by show kvs.length<=kvs.length+0;lia|p::r,kvs=>by have h1:=FX r (pV kvs p.1 p.2);have h2:=zq kvs p.1 p.2;show(iG (pV kvs p.1 p.2) r).length<=_;rw[dC];lia
structure M1(X:Cx)(o:Expr)(m:Str)(apos:dJ)(e:Expr)(cpos:dJ):Prop where
 base:yT o m X.env (dX o X.env)=dX o X.env
 few:((kU cpos (fK [e] X.env)).all (λx=> !x.1)&&(cv cpos (cj [] X.env)).all (λx=>x.1.isSome)
  &&cN (([e]:bA Expr).length+([]:bA tV).length+(if([]:bA tV).isEmpty then 0 else 1)<30))=bC
 line:(apos.endLine==cpos.line)=bC
 trees:kU cpos (fK [e] X.env)= [(bH,dX e X.env)]
structure M2(X:Cx)(o:Expr)(m:Str)(apos:dJ)(e f:Expr)(cpos:dJ):Prop where
 base:yT o m X.env (dX o X.env)=dX o X.env
 few:((kU cpos (fK [e,f] X.env)).all (λx=> !x.1)&&(cv cpos (cj [] X.env)).all (λx=>x.1.isSome)
  &&cN (([e,f]:bA Expr).length+([]:bA tV).length+(if([]:bA tV).isEmpty then 0 else 1)<30))=bC
 line:(apos.endLine==cpos.line)=bC
 trees:kU cpos (fK [e,f] X.env)= [(bH,dX e X.env),(bH,dX f X.env)]
def FY(H:Hp)(a:bI):Prop:=(∃kvs,Rd H a (.dK kvs))\/ ∃kvs,Rd H a (.dT kvs)
def Qa{X:Cx}{pc:bA (bI×cQ)}{Y:St}{H:Hp}{s:bS}{a:bI}(I:bR X pc Y H s)(d:FY H a):
 s.TypeIs (.ref a) "dict" /\(∀b,jT a= .ref b->∃ob,s.heap.get? b=bB ob/\ob.dict=bK)/\(a==qU)=bH:=by
 rcases d with⟨kvs,e⟩|⟨kvs,e⟩
 .obtain⟨_,hd,vs,_,dd⟩:=aS I.hok e;refine⟨dd.typeIs,λb q=>?_,hd⟩;cases q;obtain⟨ob,_,_,h1,h2,_⟩:=dd;exact⟨ob,h1,h2.2.1⟩
 .obtain⟨_,hd,xs,_,dd⟩:=iF I.hok e;refine⟨dd.typeIs,λb q=>?_,hd⟩;cases q;obtain⟨ob,_,_,h1,h2,_⟩:=dd;exact⟨ob,h1,h2.2.1⟩
section
variable{X:Cx}{pc:bA (bI×cQ)}{Y:St}{H:Hp}{s:bS}{a:bI}{y d:V}{u r:bJ}{o:bQ V}{A:gK}{E:bJ->bS->Prop}
end
def Qb(td ty:TE):TE:=λY H Q=>td Y H λx H1=>∃a,x= .ref a/\FY H1 a/\ty Y H1 λy H2=>∃kvs k v,H2 a=bB (.dK kvs)/\y=kV k/\pU kvs k=bB v/\Q v (upd H2 a (.dK (vC kvs k)))
section
variable{X:Cx}{o e f:Expr}{apos cpos:dJ}{td ty tx:TE}
def Qc(ho:PE X o td)(he:PE X e ty)(m:M1 X o "pop" apos e cpos):PE X (.Call (.Attribute o "pop" apos) [e] [] cpos) (Qb td ty):=by intro pc s Y H Q I h;refine wpAny_Call_method m.base m.few m.line PySem.F.plainAttrs_dict K8 PySem.F.type_dict_pop (cT (ho pc s Y H _ I h) λu s1 qz=>?_);obtain⟨x,H1,I1,rx,a,ex,d,q1⟩:=qz;subst ex;obtain rfl:u=jT a:=rx;obtain⟨t1,t2,_⟩:=Qa I1 d;refine⟨t1,t2,?_⟩;rw[m.trees];refine K4 rfl (Lh (pq (cT (he pc s1 Y H1 _ I1 q1) λiv s2 ⟨y,H2,I2,ry,kvs,k,v,ea,ey,l,q2⟩=>DC ?_)));subst ey;exact P2 I2 ea ry l (.inl rfl) λw' s3 I3 rw'=>⟨v,_,I3,rw',q2⟩
end
section
variable{X:Cx}{pc:bA (bI×cQ)}{Y:St}{H:Hp}{s:bS}{a:bI}{kvs:bA (dO×V)}{A:gK}{E:bJ->bS->Prop}
def Qd{Q:bJ->bS->Prop}(I:bR X pc Y H s)(e:Rd H a (.dK kvs))(h:∀p s',H p=bK->bR X pc Y (upd H p (.dK kvs)) s'->Q (.ref p) s'):wpAny (cA X.prog X.w) A (call (.type "dict") [.ref a]) Q E s:=by
 obtain⟨z,hd,vs,rel,dd⟩:=aS I.hok e;refine kt_call_dict hd dd (by rw[<-rel.length];exact z) λh' dd' hs=>?_
 refine h _ _ (I.hok.fresh (cZ _)) (I.laid (a:=s.heap.objs.size) (o:=.dK kvs) (t':=s.toks) (λb q hq=>?_) (cZ _) (su z (lE.mpr (c5 (gX I.big))) rel dd'));exact(hs.2 b (gX (fU hq))).trans (fC _ hq)
end
section
variable{X:Cx}{pc:bA (bI×cQ)}{Y:St}{H:Hp}{s:bS}{a:bI}{y:V}{u:bJ}{A:gK}{E:bJ->bS->Prop}
end
section
variable{X:Cx}
def Qe:jE X (.builtin "len") (λxs H Q=>∃a kvs,xs= [V.ref a]/\H a=bB (.dK kvs)/\Q (.int kvs.length) H):=by intro pc s Y H xs us Q I r h;obtain⟨a,kvs,rfl,ha,q⟩:=h;obtain⟨u,rfl,ru⟩:=pG r;cases ru;exact P3 I (.inl ha) λt s' I'=>⟨.int kvs.length,H,I',⟨t,rfl⟩,q⟩
end
section
variable{κ:Type} [xj κ]
def Qf{p:κ×V}{r:bA (κ×V)}{k:κ}(e:p.1=k):vC (p::r) k=vC r k:=by unfold vC;rw[pQ,dH (by simp[e])]
def Qg{p:κ×V}{r:bA (κ×V)}{k:κ}(e: ¬ p.1=k):vC (p::r) k=p::vC r k:=by unfold vC;rw[pQ,cK (by simp[e])]
end
end L2
namespace R
open PySem PySem.Spec PyProof.Rows L2
variable{K:cD}{mg:Str->bQ bJ}{H F H' Ha F' Fa F2 H2:Hp}{x y qual z q:Str}{X:Cx}{Q E Ex:bJ->bS->Prop}{pc:bA (bI×cQ)}{k i n j ep:bD}{pos p px cp py ap pt p1 apos:dJ}{P prog:fM}{es ifs elts args:bA Expr}{s:bS}{base h h':cB}{e iter tg elt:Expr}{xs vs:bA V}{fd:gJ}{r:bA V->Hp->VK->Prop}{scope lsc:kW}{A:gK}{ps N caps os:bA Str}{env:jG}{sl sm:fQ (bQ bJ)}{kvs:bA (dO×V)}{α β:Type}{ys its items:fQ bJ}{op:xJ}{tp neg t1 t2:bU}{body rest:bA dN}{v:V}{l cc c':bI}{fp ch:bA bI}{cells clos:bA (Str×bI)}{gens:bA Comprehension}{od:bQ bI}{RR:bJ->bI->ko->bS->Prop}{G:fQ qr->fQ qr->Prop}{o:HO}{XP:(Str->bQ bJ)->cB->Prop}{oc:bJ}{lps:xy}{YP:cF->cB->Prop}
section
abbrev St:=L2.St
inductive D where
 |n|b (b:bU)|int (i:bG)|str (x:Str)|t (xs:bA D)|l (xs:bA D)|dct (ks:bA Str) (vs:bA D)
inductive bP(α:Type)where
 |ok (a:α)|bad
noncomputable def bP.bind{α β:Type}(r:bP α)(f:α->bP β):bP β:=match r with| .ok a=>f a| .bad=>.bad
mutual
noncomputable def bM(K:cD)(F:Hp):D->V->Prop| .n,v=>v= .n| .b b,v=>v= .b b| .int i,v=>v= .int i| .str x,v=>v= .str x/\x.length<=cJ| .t ds,v=>∃a xs,v= .ref a/\jH K F a xs/\DatL K F ds xs| .l ds,v=>∃a xs,v= .ref a/\gS K F a xs/\DatL K F ds xs| .dct ks ds,v=>∃a kvs,v= .ref a/\F a=bB (.dK kvs)/\kvs.map (·.1)=ks.map .inr/\DatL K F ds (kvs.map (·.2))
noncomputable def DatL(K:cD)(F:Hp):bA D->bA V->Prop| [],xs=>xs= []|d::ds,xs=>∃x r,xs=x::r/\bM K F d x/\DatL K F ds r
end
def bT.seqT{a:bI}(e:bT H H')(h:jH K H a xs):jH K H' a xs:=by
 rcases h with(h|⟨o,h⟩)|h
 .exact .inl (.inl (e _ _ h))
 .exact .inl (.inr ⟨o,e _ _ h⟩)
 .exact .inr h
mutual
theorem bM.mono(e:bT F F'):∀{d:D} {v:V},bM K F d v->bM K F' d v| .n,_,h=>by simp only[bM]at h|-;exact h| .b _,_,h=>by simp only[bM]at h|-;exact h| .int _,_,h=>by simp only[bM]at h|-;exact h| .str _,_,h=>by simp only[bM]at h|-;exact h| .t ds,_,h=>by simp only[bM]at h|-;obtain⟨a,xs,h1,h2,h3⟩:=h;exact⟨a,xs,h1,bT.seqT e h2,DatL.mono e h3⟩| .l ds,_,h=>by simp only[bM]at h|-;obtain⟨a,xs,h1,h2,h3⟩:=h;exact⟨a,xs,h1,bT.seq e h2,DatL.mono e h3⟩| .dct ks ds,_,h=>by simp only[bM]at h|-;obtain⟨a,xs,h1,h2,h4,h3⟩:=h;exact⟨a,xs,h1,e _ _ h2,h4,DatL.mono e h3⟩
theorem DatL.mono(e:bT F F'):∀{ds:bA D} {xs:bA V},DatL K F ds xs->DatL K F' ds xs| [],_,h=>by simp only[DatL]at h|-;exact h|d::ds,_,h=>by simp only[DatL]at h|-;obtain⟨x,r,h1,h2,h3⟩:=h;exact⟨x,r,h1,bM.mono e h2,DatL.mono e h3⟩
end
def DatL.nil:DatL K F [] []:=by simp only[DatL]
def DatL.cons{d:D}{ds:bA D}{x:V}{xs:bA V}(h:bM K F d x)(t:DatL K F ds xs):DatL K F (d::ds) (x::xs):=by simp only[DatL];exact⟨x,xs,rfl,h,t⟩
theorem DatL.paired:∀{ds:bA D} {xs:bA V},DatL K F ds xs->kD (bM K F) ds xs| [],_,h=>by simp only[DatL]at h;subst h;exact .nil|d::ds,_,h=>by simp only[DatL]at h;obtain⟨x,r,rfl,h2,h3⟩:=h;exact .cons h2 (DatL.paired h3)
theorem DatL.of:∀{ds:bA D} {xs:bA V},kD (bM K F) ds xs->DatL K F ds xs|_,_,.nil=>DatL.nil|_,_,.cons h t=>DatL.cons h (DatL.of t)
def DatL.length{ds:bA D}(h:DatL K F ds xs):ds.length=xs.length:=gq h.paired
section
variable{G:α->β->Prop}
theorem vD:∀{a c:bA α} {b d:bA β},kD G a b->kD G c d->kD G (a++c) (b++d)|_,_,_,_,.nil,s=>s|_,_,_,_,.cons r t,s=>.cons r (vD t s)
theorem sv:∀{a:bA α} {b:bA β} (n:bD),kD G a b->kD G (a.take n) (b.take n)|_,_,0,_=>.nil|_,_,_+1,.nil=>.nil|_,_,n+1,.cons r t=>.cons r (sv n t)
theorem sw:∀{a:bA α} {b:bA β} (n:bD),kD G a b->kD G (a.drop n) (b.drop n)|_,_,0,r=>r|_,_,_+1,.nil=>.nil|_,_,n+1,.cons _ t=>sw n t
theorem vE:∀{a:bA α} {b:bA β} {i:bD} {x:α},kD G a b->a[i]? =bB x->∃y,b[i]? =bB y/\G x y|_,_,_,_,.nil,e=>by simp at e|_,_,0,_,.cons r _,e=>by simp at e;subst e;exact⟨_,rfl,r⟩|_,_,i+1,x,.cons _ t,e=>by obtain⟨u,h1,h2⟩:=vE (i:=i) (x:=x) t (by simpa using e);exact⟨u,by simpa using h1,h2⟩
theorem l7:∀{a:bA α} {b:bA β} {i:bD} {y:β},kD G a b->b[i]? =bB y->∃x,a[i]? =bB x/\G x y|_,_,_,_,.nil,e=>by simp at e|_,_,0,_,.cons r _,e=>by simp at e;subst e;exact⟨_,rfl,r⟩|_,_,i+1,y,.cons _ t,e=>by obtain⟨u,h1,h2⟩:=l7 (i:=i) (y:=y) t (by simpa using e);exact⟨u,by simpa using h1,h2⟩
end
noncomputable abbrev Tab:=bA (Str×D)
inductive Ob where
 |l (ds:bA D)|row (ws:bA D) (k:bG)|tab (T:Tab)
class fZ where
 L:bA (bI×dJ×Str)
 ap:∀t∈L,∀u∈L,t.1=u.1->t=u
 rc:bI
class Pd where
 a:bI
 o:HO
noncomputable abbrev zJ:Pd:=⟨0,.l []⟩
variable [fZ] [Pd]
noncomputable def zK:HO->bU| .tbl _=>bH|_=>bC
def Qh(H:Hp)(t:bI×dJ×Str):Prop:=∃ps,H t.1=bB (.tbl ps)/\PySem.TriplesOk ps.toList/\
 (codeAmong t.2.1 ps.toList=bK\/ ∃c',codeAmong t.2.1 ps.toList=bB (.ref c')/\H c'=bB (.ext λh=>h.CodeRec (.ref c') t.2.2))
def rC(H:Hp):Prop:=∀t∈fZ.L,Qh H t
def sy(F:Hp):Prop:=∀b ps,F b≠bB (.tbl ps)
def pH(F H:Hp):Prop:=rC H/\sy F
def sy.upd(h:sy F)(p:bI)(ho:zK o=bC):sy (upd F p o):=λb ps e=>by
 by_cases z:b=p
 .subst z;rw[gY]at e;cases e;cases ho
 .rw[fH z]at e;exact h b ps e
def zw(H H':Hp):Prop:=∀b u,zK u=bC->H b=bB u->H' b=bB u
structure cL(F H F' H':Hp):Prop where
 same:zw H H'
 more:∀b,H b≠bK->H' b≠bK
 tk:pH F H->pH F' H'
 fs:bT F F'
 sub:bT F' H'
 new:∀b,F b=bK->H b≠bK->F' b=bK
def cL.refl(s:bT F H):cL F H F H:=⟨λ_ _ _ q=>q,λ_ h=>h,λh=>h,bT.refl _,s,λ_ h _=>h⟩
def rC.same(h:rC H)(s:bT H H'):rC H':=λt ht=>by
 obtain⟨ps,e,o,q⟩:=h t ht;refine⟨ps,s _ _ e,o,?_⟩;rcases q with q|⟨c',q1,q2⟩
 .exact .inl q
 .exact .inr ⟨c',q1,s _ _ q2⟩
def FZ(s:bT H H'):∀b,H b≠none->H' b≠none:=λb h=>by
 cases q:H b with
 |none=>exact dD q h|some o=>rw[s b o q];simp
def cL.trans{F1 H1:Hp}(a:cL F H F1 H1)(b:cL F1 H1 F2 H2):cL F H F2 H2 where
 same:=λc u n q=>b.same c u n (a.same c u n q)
 more:=λc h=>b.more c (a.more c h)
 tk:=λh=>b.tk (a.tk h)
 fs:=a.fs.trans b.fs
 sub:=b.sub
 new:=λc h n=>b.new c (a.new c h n) (a.more c n)
def nU{p:bI}(h:H p=bK)(o:HO):bT H (upd H p o):=λb u q=>by rw[fH (sU q h)];exact q
def Qi(s:bT F H)(p:bI)(o:HO):bT (upd F p o) (upd H p o):=λb u q=>by
 by_cases e:b=p
 .subst e;rw[gY]at q|-;exact q
 .rw[fH e]at q|-;exact s b u q
def l8(s:bT F H){p:bI}(h:F p=bK)(o:HO):bT F (upd H p o):=λb u q=>by rw[fH (sU q h)];exact s b u q
def cL.laid(s:bT F H){p:bI}(h:H p=bK)(o:HO)(ho:zK o=bC:=by rfl):cL F H (upd F p o) (upd H p o)where
 same:=λb u _ q=>nU h o b u q
 more:=FZ (nU h o)
 tk:=λt=>⟨t.1.same (nU h o),t.2.upd p ho⟩
 fs:=nU (bT.free s h) o
 sub:=Qi s p o
 new:=λb hb n=>by
  have e:b≠p:=λe=>n (e▸h)
  rw[fH e];exact hb
def cL.laidN(s:bT F H){p:bI}(h:H p=bK)(o:HO):cL F H F (upd H p o)where
 same:=λb u _ q=>nU h o b u q
 more:=FZ (nU h o)
 tk:=λt=>⟨t.1.same (nU h o),t.2⟩
 fs:=bT.refl _
 sub:=l8 s (bT.free s h) o
 new:=λb hb n=>hb
def cL.free(g:cL F H F' H'){b:bI}(h:H' b=none):H b=none:=by
 cases q:H b with
 |none=>rfl|some o=>exact dD h (g.more b (by rw[q];simp))
def F5(m:∀b,H b≠bK->H' b≠bK)(p:bI)(o:HO):∀b,H b≠bK->upd H' p o b≠bK:=λb h=>by
 by_cases z:b=p
 .subst z;rw[gY];simp
 .rw[fH z];exact m b h
noncomputable def ers(H:Hp)(a:bI):Hp:=λb=>if b=a then bK else H b
section
variable{a b:bI}
def lI(n:b≠a):ers H a b=H b:=dH n
def tm:ers H a a=bK:=cK bO
def aU{u:HO}(e:ers H a b=bB u):b≠a:=λz=>by rw[z,tm]at e;cases e
def sX{u:HO}(e:ers H a b=bB u):H b=bB u:=by rw[lI (aU e)]at e;exact e
def xO(h:ers H a b≠bK):b≠a/\H b≠bK:=by
 have n:b≠a:=λz=>h (by rw[z,tm])
 rw[lI n]at h;exact⟨n,h⟩
def zx(s:bT F H):cL F (ers H a) F H where
 same:=λb u _ q=>sX q
 more:=λb h=>(xO h).2
 tk:=λt=>⟨t.1.same λb u q=>sX q,t.2⟩
 fs:=bT.refl _
 sub:=s
 new:=λb h _=>h
def tq(s:bT F H)(fa:F a=bK)(o:HO):cL F (ers H a) F (upd H a o)where
 same:=λb u _ q=>by rw[fH (aU q)];exact sX q
 more:=λb h=>by rw[fH (xO h).1];exact(xO h).2
 tk:=λt=>⟨t.1.same λb u q=>by rw[fH (aU q)];exact sX q,t.2⟩
 fs:=bT.refl _
 sub:=l8 s fa _
 new:=λb h _=>h
end
def jN(K:cD)(F:Hp):Tab->bA (dO×V)->Prop:=kD λp q=>q.1= .inr p.1/\bM K F p.2 q.2
def jN.mono(e:bT F F'){T:Tab}(h:jN K F T kvs):jN K F' T kvs:=Paired.mapP h λ_ _ z=>⟨z.1,z.2.mono e⟩
noncomputable def ek(dx l:bI)(k:bG):HO:=.ins fZ.rc dx [("words",.ref l),("place",.int k)]
def wI(u u':HO):Prop:=∀dx l k,u=ek dx l k->∃k',u'=ek dx l k'
def wI.refl(u:HO):wI u u:=λ_ _ k e=>⟨k,e⟩
def wI.trans{u v w:HO}(h:wI u v)(k:wI v w):wI u w:=λdx l n e=>let ⟨n',e'⟩:=h dx l n e;k dx l n' e'
abbrev zL(H H':Hp)(a:bI):Prop:=∀u u',H a=bB u->H' a=bB u'->wI u u'
noncomputable def Ob.ho(K:cD)(F:Hp):Ob->HO->Prop| .l ds,o=>∃xs,o= .l xs/\DatL K F ds xs| .row ws k,o=>∃dx l,o=ek dx l k/\bM K F (.l ws) (.ref l)| .tab T,o=>∃kvs,o= .dK kvs/\jN K F T kvs
structure kE(K:cD)(F H:Hp)(a:bI)(s:Ob):Prop where
 n:F a=bK
 o:∃o,H a=bB o/\s.ho K F o
section
variable{a b:bI}{s s':Ob}
def tu(e:bT F F')(h:s.ho K F o):s.ho K F' o:=by
 cases s with
 |l ds=>obtain⟨x,e1,h⟩:=h;exact⟨x,e1,h.mono e⟩|row ws k=>obtain⟨x,y,e1,h⟩:=h;exact⟨x,y,e1,h.mono e⟩|tab T=>obtain⟨x,e1,h⟩:=h;exact⟨x,e1,h.mono e⟩
def vF(h:s.ho K F o):zK o=bC/\ ∀φ,o≠ .ext φ:=by
 cases s with
 |l ds=>obtain⟨_,rfl,_⟩:=h;exact⟨rfl,λ_ z=>nomatch z⟩|row ws k=>obtain⟨_,_,rfl,_⟩:=h;exact⟨rfl,λ_ z=>nomatch z⟩|tab T=>obtain⟨_,rfl,_⟩:=h;exact⟨rfl,λ_ z=>nomatch z⟩
def rC.drop(h:rC H)(e:H a=bB o)(n:zK o=bC/\ ∀φ,o≠ .ext φ):rC (ers H a):=λt ht=>by
 obtain⟨n1,n2⟩:=n;obtain⟨ps,e1,o',q⟩:=h t ht;refine⟨ps,by rw[lI (yw e1 e (λz=>by subst z;cases n1))];exact e1,o',?_⟩;rcases q with q|⟨c',q1,q2⟩
 .exact .inl q
 .exact .inr ⟨c',q1,by rw[lI (yw q2 e (λz=>n2 _ z.symm))];exact q2⟩
def rC.updL(h:rC H)(e:H a=bB (.l xs))(ys:bA V):rC (upd H a (.l ys)):=(h.drop e ⟨rfl,λ_ z=>nomatch z⟩).same λb u q=>by rw[fH (aU q)];exact sX q
def rC.ers(h:rC H)(r:kE K F H a s):rC (ers H a):=let ⟨_,e,k⟩:=r.o;h.drop e (vF k)
def kE.some(r:kE K F H a s):H a≠bK:=by obtain⟨o,e,_⟩:=r.o;rw[e];simp
def kE.grow(r:kE K F H a s)(g:cL F H F' H'):kE K F' H' a s:=by obtain⟨o,e,k⟩:=r.o;exact⟨g.new _ r.n r.some,o,g.same _ _ (vF k).1 e,tu g.fs k⟩
def cL.ers(g:cL F H F' H')(r:kE K F H a s):cL F (R.ers H a) F' (R.ers H' a)where
 same:=λb u n q=>by rw[lI (aU q)];exact g.same b u n (sX q)
 more:=λb h=>by rw[lI (xO h).1];exact g.more b (xO h).2
 tk:=λt=>let q:=g.tk ⟨t.1.same λb u q=>sX q,t.2⟩;⟨q.1.ers (r.grow g),q.2⟩
 fs:=g.fs
 sub:=λb u q=>by rw[lI (sU q (r.grow g).n)];exact g.sub b u q
 new:=λb h n=>g.new b h (xO n).2
def cL.ersR(g:cL F (R.ers H a) F' H')(r:kE K F' H' a s):cL F (R.ers H a) F' (R.ers H' a)where
 same:=λb u n q=>by rw[lI (aU q)];exact g.same b u n q
 more:=λb h=>by rw[lI (xO h).1];exact g.more b h
 tk:=λt=>let q:=g.tk t;⟨q.1.ers r,q.2⟩
 fs:=g.fs
 sub:=λb u q=>by rw[lI (sU q r.n)];exact g.sub b u q
 new:=λb h n=>g.new b h n
def kE.beside(r:kE K F H b s)(n:b≠a)(g:cL F (R.ers H a) F' H'):kE K F' H' b s:=by obtain⟨o,e,k⟩:=r.o;exact⟨g.new _ r.n (by rw[lI n];exact r.some),o,g.same _ _ (vF k).1 (by rw[lI n];exact e),tu g.fs k⟩
end
inductive Slot where
 |no|val (d:D)|is (v:V) (c:bA (bI×HO))|obj (p:bU) (s:Ob)
noncomputable abbrev Slot.own(ds:bA D):Slot:=.obj bH (.l ds)
noncomputable abbrev Slot.row(p:bU)(ws:bA D)(k:bG):Slot:=.obj p (.row ws k)
noncomputable abbrev Slot.dic(p:bU)(T:Tab):Slot:=.obj p (.tab T)
noncomputable abbrev cS:=bA Slot
noncomputable def aV(K:cD)(F H:Hp):Slot->bQ V->Prop| .no,_=>wE| .val d,o=>∃v,o=bB v/\bM K F d v| .is v c,o=>o=bB v/\ ∀p∈c,F p.1=bB p.2| .obj p s,o=>∃a,o=bB (.ref a)/\(p=bC->a=Pd.a/\ ∀u,H a=bB u->wI Pd.o u)/\kE K F H a s
structure hV(K:cD)(F H:Hp)(O:cS)(Y:St):Prop where
 tb:pH F H
 sub:bT F H
 len:O.length=Y.length
 at_:∀(i:bD) s,O[i]? =bB s->∃o,Y[i]? =bB o/\aV K F H s o
 apart:∀(i j:bD) p s q t a,i≠j->O[i]? =bB (.obj p s)->O[j]? =bB (.obj q t)->Y[i]? =bB (bB (.ref a))->Y[j]? ≠bB (bB (.ref a))
def aV.grow(g:cL F H F' H'){s:Slot}{o:bQ V}(h:aV K F H s o):aV K F' H' s o:=by
 cases s with
 |no=>trivial|val d=>obtain⟨v,e,h⟩:=h;exact⟨v,e,h.mono g.fs⟩|is v c=>exact⟨h.1,λp hp=>g.fs _ _ (h.2 p hp)⟩|obj p s=>obtain⟨a,e,hp,h⟩:=h;obtain⟨o,e1,k⟩:=h.o;exact⟨a,e,λz=>⟨(hp z).1,λu hu=>by rw[g.same a o (vF k).1 e1]at hu;cases hu;exact(hp z).2 _ e1⟩,h.grow g⟩
def hV.grow{O:cS}{Y:St}(h:hV K F H O Y)(g:cL F H F' H'):hV K F' H' O Y:=
 ⟨g.tk h.tb,g.sub,h.len,λi s e=>let ⟨o,e1,r⟩:=h.at_ i s e;⟨o,e1,r.grow g⟩,h.apart⟩
def rZ{O:bA α}{s t:α}(e:(O.set i s)[j]? =bB t):(i=j/\t=s/\i<O.length)\/(i≠j/\O[j]? =bB t):=by
 by_cases q:i=j
 .subst q;by_cases hl:i<O.length
  .rw[gf hl]at e;cases e;exact .inl ⟨rfl,rfl,hl⟩
  .rw[List.getElem?_eq_none (by rw[gp];lia)]at e;cases e
 .rw[am q]at e;exact .inr ⟨q,e⟩
noncomputable def F7:Slot->bU| .obj _ _=>bH|_=>bC
def iH{O:cS}{s:Slot}{p:bU}{t:Ob}(hs:F7 s=bC)(e:(O.set i s)[j]? =bB (.obj p t)):i≠j/\O[j]? =bB (.obj p t):=by
 rcases rZ e with⟨rfl,rfl,_⟩|h
 .cases hs
 .exact h
def hV.set{O:cS}{Y:St}(h:hV K F H O Y){d:D}(i:bD)(hd:bM K F d v):hV K F H (O.set i (.val d)) (Y.set i (bB v)):=by
 refine⟨h.tb,h.sub,by rw[gp,gp];exact h.len,λj s e=>?_,λj k p s q t a n e1 e2 e3=>?_⟩
 .rcases rZ e with⟨rfl,rfl,hl⟩|⟨n,e⟩
  .exact⟨bB v,gf (by rw[<-h.len];exact hl),v,rfl,hd⟩
  .rw[am n];exact h.at_ j s e
 .obtain⟨n1,e1⟩:=iH rfl e1;obtain⟨n2,e2⟩:=iH rfl e2;rw[am n1]at e3;rw[am n2];exact h.apart j k p s q t a n e1 e2 e3
def fX{α β:Type}(Rel:Hp->α->β->Prop)(F H:Hp)(r:bP α)(Q:β->Hp->Prop):Prop:=match r with| .ok a=>∀b F' H',cL F H F' H'->Rel F' a b->Q b H'| .bad=>jF
def fX.grow{Rel:Hp->α->β->Prop}{F1 H1:Hp}{r:bP α}{Q:β->Hp->Prop}(h:fX Rel F H r Q)(g:cL F H F1 H1):fX Rel F1 H1 r Q:=by
 cases r with
 |ok a=>exact λb F' H' g' r'=>h b F' H' (g.trans g') r'|bad=>exact h
def jY{γ δ:Type}{R1:Hp->α->β->Prop}{R2:Hp->γ->δ->Prop}{r:bP α}{g:α->bP γ}{Q:δ->Hp->Prop}{Q':β->Hp->Prop}(h:fX R2 F H (r.bind g) Q)
 (k:∀a b F1 H1,cL F H F1 H1->R1 F1 a b->fX R2 F1 H1 (g a) Q->Q' b H1):fX R1 F H r Q':=by
 cases r with
 |ok a=>exact λb F' H' g' r'=>k a b F' H' g' r' (fX.grow (show fX R2 F H (g a) Q from h) g')|bad=>exact h
def dE{Rel:Hp->α->β->Prop}{a:α}{Q:β->Hp->Prop}(h:fX Rel F H (.ok a) Q)(s:bT F H){b:β}(r:Rel F a b):Q b H:=h b F H (.refl s) r
def iI{ds:bA D}{Q:V->Hp->Prop}(h:fX (bM K) F H (.ok (.t ds)) Q)(s:bT F H)(r:DatL K F ds xs){p:bI}(hp:H p=bK):Q (.ref p) (upd H p (.t xs)):=by refine h _ _ _ (cL.laid s hp _) ?_;simp only[bM];exact⟨p,xs,rfl,jH.of gY,r.mono (nU (bT.free s hp) _)⟩
def iJ{ds:bA D}{Q:V->Hp->Prop}(h:fX (bM K) F H (.ok (.l ds)) Q)(s:bT F H)(r:DatL K F ds xs){p:bI}(hp:H p=bK):Q (.ref p) (upd H p (.l xs)):=by refine h _ _ _ (cL.laid s hp _) ?_;simp only[bM];exact⟨p,xs,rfl,gS.of gY,r.mono (nU (bT.free s hp) _)⟩
abbrev ME:=cS->bP D
abbrev MT:=cS->bP bU
abbrev MA:=cS->bP (bA D)
def Gb:Hp->bU->bU->Prop:=λ_ a b=>a=b
def RelO:Hp->bQ bG->bQ bG->Prop:=λ_ a b=>a=b
def tD(X:Cx)(f:ME):TE:=λY H Q=>∃O F,hV X.K F H O Y/\fX (bM X.K) F H (f O) Q
noncomputable def xQ(X:Cx)(f:MT):TT:=λY H Q=>∃O F,hV X.K F H O Y/\fX Gb F H (f O) Q
def er(X:Cx)(f:MA):TA:=λY H Q=>∃O F,hV X.K F H O Y/\fX (DatL X.K) F H (f O) Q
def IE(X:Cx)(e:Expr)(f:ME):Prop:=PE X e (tD X f)
def IT(X:Cx)(e:Expr)(f:MT):Prop:=PT X e (xQ X f)
def IW(X:Cx)(e:Expr)(f:MT):Prop:=PW X e (xQ X f)
def IA(X:Cx)(es:bA Expr)(f:MA):Prop:=PA X es (er X f)
def gN{t t':TE}(h:PE X e t)(i:∀Y H Q,t' Y H Q->t Y H Q):PE X e t':=λpc s Y H Q I hq=>h pc s Y H Q I (i Y H Q hq)
def iK{t t':TT}(h:PT X e t)(i:∀Y H Q,t' Y H Q->t Y H Q):PT X e t':=λpc s Y H Q I hq=>h pc s Y H Q I (i Y H Q hq)
def Gc{t t':TT}(h:PW X e t)(i:∀Y H Q,t' Y H Q->t Y H Q):PW X e t':=λwh pc s Y H Q I hq=>h wh pc s Y H Q I (i Y H Q hq)
def ez{e:bA Expr}{t t':TA}(h:PA X e t)(i:∀Y H Q,t' Y H Q->t Y H Q):PA X e t':=λp pc s Y H Q I hq=>h p pc s Y H Q I (i Y H Q hq)
def mC{e:dN}{t t':TS}(h:PS X e t)(i:∀E Y H,t' E Y H->t E Y H):PS X e t':=λpc s Y H E I hq=>h pc s Y H E I (i E Y H hq)
def zy{e:bA dN}{t t':TS}(h:pF X e t)(i:∀E Y H,t' E Y H->t E Y H):pF X e t':=λpc s Y H E I hq=>h pc s Y H E I (i E Y H hq)
noncomputable def gv(i:bD):ME:=λO=>match O[i]? with|some (.val d)=>.ok d|_=>.bad
noncomputable def kc(d:D):ME:=λ_=>.ok d
section
variable{a b c:Expr}{f g h:ME}
def Qj(i:bD)(hp:PE X (.Name x pos) (EM i)):IE X (.Name x pos) (gv i):=gN hp λY H Q qz=>by
 obtain⟨O,F,E,q⟩:=qz;unfold gv at q;split at q
 .rename_i d e;obtain⟨o,e1,v,rfl,hd⟩:=E.at_ i _ e;exact⟨v,e1,dE q E.sub hd⟩
 .cases q
def ma{t:TE}{d:D}(hp:PE X e (tC v))(hd:∀F,bM X.K F d v):IE X e (kc d):=gN hp λY H Q qz=>by obtain⟨O,F,E,q⟩:=qz;exact dE q E.sub (hd F)
def sA{i j}:IE X (.Constant (.int i) j pos) (kc (.int i)):=ma (t:=tC (.int i)) yz λF=>by simp only[bM]
def zM{i j}:IE X (.Constant (.bool i) j pos) (kc (.b i)):=ma (t:=tC (.b i)) No λF=>by simp only[bM]
def Qk{j}:IE X (.Constant .none j pos) (kc .n):=ma (t:=tC .n) Np λF=>by simp only[bM]
def Ql{x j}(hx:x.length<=cJ:=by decide):IE X (.Constant (.str x) j pos) (kc (.str x)):=ma (t:=tC (.str x)) Nq λF=>by simp only[bM];exact⟨trivial,hx⟩
def m1(m:D->bP D)(f:ME):ME:=λO=>(f O).bind m
def m2(m:D->D->bP D)(f g:ME):ME:=λO=>(f O).bind λx=>(g O).bind λy=>m x y
def iL(X:Cx)(r:R2)(m:D->D->bP D):Prop:=∀F H d1 d2 v1 v2 Q,bT F H->bM X.K F d1 v1->bM X.K F d2 v2->fX (bM X.K) F H (m d1 d2) Q->r v1 v2 H Q
def me(X:Cx)(r:V->Hp->VK->Prop)(m:D->bP D):Prop:=∀F H d v Q,bT F H->bM X.K F d v->fX (bM X.K) F H (m d) Q->r v H Q
def iM(X:Cx)(r:bA V->Hp->VK->Prop)(m:bA D->bP D):Prop:=∀F H ds vs Q,bT F H->DatL X.K F ds vs->fX (bM X.K) F H (m ds) Q->r vs H Q
def tw{r:R2}{m:D->D->bP D}(hd:iL X r m){Y:St}{Q:VK}(q:tD X (m2 m f g) Y H Q):lr r (tD X f) (tD X g) Y H Q:=by obtain⟨O,F,E,q⟩:=q;exact⟨O,F,E,jY q λd v F1 H1 g1 d1 q=>⟨O,F1,E.grow g1,jY q λd' v' F2 H2 g2 d2 q=>hd F2 H2 d d' v v' Q g2.sub (d1.mono g2.fs) d2 q⟩⟩
def Qm{op:aF}{r:R2}{m:D->D->bP D}(ho:dQ X (mU op) r)(hd:iL X r m)(ha:IE X a f)(hb:IE X b g):IE X (.BinOp a op b pos) (m2 m f g):=
 gN (E4 ho ha hb) λ_ _ _ q=>tw hd q
def Qn{r:R2}{m:D->D->bP D}(ho:dQ X (hJ op) r)(hd:iL X r m)(ha:IE X a f)(hb:IE X b g)(hm:tQ op b=bH):IE X (.Compare a [op] [b] pos) (m2 m f g):=
 gN (E6 ho ha hb hm) λ_ _ _ q=>tw hd q
def Qo{r:R2}{m:D->D->bP D}(ho:eh X r)(hd:iL X r m)(ha:IE X a f)(hb:IE X b g)(hs:sk b):IE X (.Subscript a b pos) (m2 m f g):=
 gN (FH ho ha hb hs) λ_ _ _ q=>tw hd q
def Qp{op:UnaryOp}{r:V->Hp->VK->Prop}{m:D->bP D}(ho:lj X (yh op) r)(hd:me X r m)(ha:IE X a f):IE X (.UnaryOp op a pos) (m1 m f):=
 gN (N6 ho ha) λY H Q qz=>by obtain⟨O,F,E,q⟩:=qz;exact⟨O,F,E,jY q λd v F1 H1 g1 d1 q=>hd F1 H1 d v Q g1.sub d1 q⟩
noncomputable def fP:MA:=λ_=>.ok []
def aC(f:ME)(r:MA):MA:=λO=>(f O).bind λx=>(r O).bind λxs=>.ok (x::xs)
def pI:IA X [] fP:=ez sW λY H Q qz=>by obtain⟨O,F,E,q⟩:=qz;exact dE q E.sub DatL.nil
def tz{r:MA}(ha:IE X e f)(hr:IA X es r)(hs:fK (e::es) X.env=(bH,dX e X.env)::fK es X.env:=by rfl):IA X (e::es) (aC f r):=
 ez (nT ha hr hs) λY H Q qz=>by obtain⟨O,F,E,q⟩:=qz;exact⟨O,F,E,jY q λd v F1 H1 g1 d1 q=>⟨O,F1,E.grow g1,jY q λds vs F2 H2 g2 d2 q=>dE q g2.sub (DatL.cons (d1.mono g2.fs) d2)⟩⟩
def t5{m:bA D->bP D}{fa:MA}(hd:iM X r m){Y:St}{Q:VK}(q:tD X (λO=>(fa O).bind m) Y H Q):er X fa Y H λvs H1=>r vs H1 Q:=by obtain⟨O,F,E,q⟩:=q;exact⟨O,F,E,jY q λd v F1 H1 g1 d1 q=>hd F1 H1 d v Q g1.sub d1 q⟩
def Qq{m:bA D->bP D}{fa:MA}(hd:∀F H ds vs Q,pH F H->bT F H->DatL X.K F ds vs->fX (bM X.K) F H (m ds) Q->r vs H Q){Y:St}{Q:VK}(q:tD X (λO=>(fa O).bind m) Y H Q):er X fa Y H λvs H1=>r vs H1 Q:=by obtain⟨O,F,E,q⟩:=q;exact⟨O,F,E,jY q λd v F1 H1 g1 d1 q=>hd F1 H1 d v Q (g1.tk E.tb) g1.sub d1 q⟩
def mA(m:bA D->bP D)(fa:MA):ME:=λO=>(fa O).bind m
noncomputable def cP(ds:bA D):bP D:=if ds.length<=cJ then .ok (.t ds)else .bad
noncomputable def hU(ds:bA D):bP D:=if ds.length<=cJ then .ok (.l ds)else .bad
def Qr{fa:MA}{k}(h:IA X es fa):IE X (.Tuple es k pos) (mA cP fa):=gN (Fp h) λY H Q q=>t5 (r:=λvs H1 Q=>vs.length<=cJ/\ ∀p,H1 p=bK->Q (.ref p) (upd H1 p (.t vs))) (λF H ds vs Q s d q=>by
 unfold cP at q;split at q
 .rename_i z;exact⟨by rw[<-d.length];exact z,λp hp=>iI q s d hp⟩
 .exact q.elim) q
def Qs{fa:MA}(h:IA X es fa):IE X (.List es pos) (mA hU fa):=gN (zj h) λY H Q q=>t5 (r:=λvs H1 Q=>vs.length<=cJ/\ ∀p,H1 p=bK->Q (.ref p) (upd H1 p (.l vs))) (λF H ds vs Q s d q=>by
 unfold hU at q;split at q
 .rename_i z;exact⟨by rw[<-d.length];exact z,λp hp=>iJ q s d hp⟩
 .exact q.elim) q
def Qt{id:lB}{m:bA D->bP D}{fa:MA}(hc:jE X (.builtin id) r)(hd:iM X r m)(hg:Gl X x)(hm:X.mg x=bK)(hv:qT x=bB (.builtin id))(ha:IA X (e::es) fa)
 (hn:x≠ "__name__" :=by decide) (hdb:(x==("__debug__" :Str))=bH:=by decide) (he:fK (e::es) X.env=(bH,dX e X.env)::fK es X.env:=by rfl) (hpl:(kU pos (fK es X.env)).any (·.1)=bH:=by rfl):
 IE X (.Call (.Name x p) (e::es) [] pos) (mA m fa):=gN (zk hc hg hm hv ha hn hdb he hpl) λY H Q q=>t5 hd q
def Qu{id:lB}{m:bA D->bP D}{fa:MA}(hc:jE X (.type id) r)(hd:iM X r m)(hg:Gl X x)(hm:X.mg x=bK)(hv:qT x=bB (.type id))(ha:IA X (e::es) fa)
 (hn:x≠ "__name__" :=by decide) (hdb:(x==("__debug__" :Str))=bH:=by decide) (he:fK (e::es) X.env=(bH,dX e X.env)::fK es X.env:=by rfl) (hpl:(kU pos (fK es X.env)).any (·.1)=bH:=by rfl):
 IE X (.Call (.Name x p) (e::es) [] pos) (mA m fa):=gN (si hc hg hm hv ha hn hdb he hpl) λY H Q q=>t5 hd q
def pJ(K:cD)(m:bA D->bP D):Sp:=λvs H Q _=>∃F ds,pH F H/\bT F H/\DatL K F ds vs/\fX (bM K) F H (m ds) Q
structure Ge(X:Cx)(k:bD)(x:Str)(m:bA D->bP D):Prop where
 ex:∃(f:bI) (fd:gJ) (ps:bA Str),dZ X.prog X.w X.K X.mg X.base fF k f fd ps (pJ X.K m)/\X.mg x=bB (.ref f)/\lY X.K (.ref f)=bC/\lH X.K fd ps []
def Qv{m:bA D->bP D}{fa:MA}(C:Ge X k x m)(hr:fY k X.A)(hg:Gl X x)(ha:IA X (e::es) fa)
 (hdb:(x==("__debug__" :Str))=bH:=by decide) (he:fK (e::es) X.env=(bH,dX e X.env)::fK es X.env:=by rfl) (hpl:(kU pos (fK es X.env)).any (·.1)=bH:=by rfl):
 IE X (.Call (.Name x p) (e::es) [] pos) (mA m fa):=by
 obtain⟨f,fd,ps,F,hm,hk,hb⟩:=C.ex;refine gN (sh (E:=E0) F hr hg hm hk hb .nil xL ha hdb he hpl) λY H Q q=>?_
 refine Qq (r:=λvs H1 Q=>pJ X.K m (vs++ []) H1 Q E0) (λF H ds vs Q ti s d q=>?_) q;show pJ X.K m (vs++ []) H Q E0;rw[kK];exact⟨F,ds,ti,s,d,q⟩
noncomputable def sY:D->bP bU| .b b=>.ok b|_=>.bad
noncomputable def vG:D->bP bU| .n=>.ok bH| .b b=>.ok b| .int i=>.ok (i != 0)| .str x=>.ok ((x.length:bG) != 0)| .t ds=>.ok (!ds.isEmpty)| .l ds=>.ok (!ds.isEmpty)| .dct _ _=>.bad
def mT(f:ME):MT:=λO=>(f O).bind vG
def mB(f:ME):MT:=λO=>(f O).bind sY
def zz{Y:St}{Q:bU->Hp->Prop}{t:TE}(ht:∀Y H Q,tD X f Y H Q->t Y H Q)(q:xQ X (mB f) Y H Q):t Y H λx H'=>∃k,x= .b k/\Q k H':=by
 obtain⟨O,F,E,q⟩:=q;refine ht _ _ _ ⟨O,F,E,jY q λd v F1 H1 g1 d1 q=>?_⟩;cases d with
 |b b=>simp only[bM]at d1;exact⟨b,d1,dE q g1.sub bO⟩|_=>exact q.elim
def Qw{r:R2}{m:D->D->bP D}(ho:dQ X (hJ op) r)(hd:iL X r m)(ha:IE X a f)(hb:IE X b g)(hm:tQ op b=bH):IT X (.Compare a [op] [b] pos) (mB (m2 m f g)):=
 iK (zd ho ha hb hm) λY H Q q=>zz (f:=m2 m f g) (λ_ _ _ q=>tw hd q) q
def Qx{d:D}{Q:bU->Hp->Prop}(s:bT F H)(h:bM X.K F d v)(q:fX Gb F H (vG d) Q):∃k,zf X.K v H k/\Q k H:=by
 cases d with
 |n=>simp only[bM]at h;subst h;exact⟨bH,rfl,dE q s rfl⟩|b b=>simp only[bM]at h;subst h;exact⟨b,rfl,dE q s rfl⟩|int i=>simp only[bM]at h;subst h;exact⟨_,rfl,dE q s rfl⟩|str x=>simp only[bM]at h;obtain⟨rfl,h⟩:=h;exact⟨_,⟨h,rfl⟩,dE q s rfl⟩|t ds=>simp only[bM]at h;obtain⟨a,xs,rfl,h1,h2⟩:=h;refine⟨!xs.isEmpty,.inr (.inl ⟨xs,bT.seqT s h1,rfl⟩),dE q s ?_⟩;have:=h2.length;cases ds<;>cases xs<;>first|rfl|cases this
 |l ds=>simp only[bM]at h;obtain⟨a,xs,rfl,h1,h2⟩:=h;refine⟨!xs.isEmpty,.inl ⟨xs,bT.seq s h1,rfl⟩,dE q s ?_⟩;have:=h2.length;cases ds<;>cases xs<;>first|rfl|cases this
 |dct _ _=>exact q.elim
def Qy(ha:IE X a f)(he:∀whole,isTrue a X.env whole=(do let v <-whole;iu a.pos;c6 [v] (yp v)):=by intro _;rfl):IT X a (mT f):=
 iK (OG ha he) λY H Q qz=>by obtain⟨O,F,E,q⟩:=qz;exact⟨O,F,E,jY q λd v F1 H1 g1 d1 q=>Qx g1.sub d1 q⟩
variable{p q':MT}{rest:bA Expr}
def mZ(p q:MT):MT:=λO=>(p O).bind λb=>if b=bC then q O else .ok bH
def kO(p q:MT):MT:=λO=>(p O).bind λb=>if b=bC then .ok bC else q O
def gU(p:MT):MT:=λO=>(p O).bind λb=>.ok (!b)
def Qz(ha:IT X a p):IW X (.BoolOp .And [a] pos) p:=Nx ha
def iN(ha:IT X a p):IW X (.BoolOp .Or [a] pos) p:=Ny ha
def z0{Y:St}{Q:bU->Hp->Prop}{k:bU->cS->bP bU}{T:bU->St->Hp->Prop}(hT:∀b Y H,xQ X (k b) Y H Q->T b Y H)(q:xQ X (λO=>(p O).bind λb=>k b O) Y H Q):xQ X p Y H λb H1=>T b Y H1:=by obtain⟨O,F,E,q⟩:=q;refine⟨O,F,E,jY q λd v F1 H1 g1 d1 q=>?_⟩;cases(show d=v from d1);exact hT _ _ _ ⟨O,F1,E.grow g1,q⟩
def t6{b:bU}{Y:St}{Q:bU->Hp->Prop}(q:xQ X (λ_=>.ok b) Y H Q):Q b H:=by obtain⟨O,F,E,q⟩:=q;exact dE q E.sub bO
def QA(ha:IT X a p)(hb:IW X (.BoolOp .And (b::rest) pos) q'):IW X (.BoolOp .And (a::b::rest) pos) (mZ p q'):=Gc (Nz ha hb) λY H Q q=>
 z0 (k:=λb O=>if b=true then q' O else .ok false) (T:=λc Y H1=>if c=true then xQ X q' Y H1 Q else Q false H1) (λb Y H h=>by
  cases b with
  |true=>exact vB h
  |false=>exact vA (t6 h)) q
def iO(ha:IT X a p)(hb:IW X (.BoolOp .Or (b::rest) pos) q'):IW X (.BoolOp .Or (a::b::rest) pos) (kO p q'):=Gc (NA ha hb) λY H Q q=>
 z0 (k:=λb O=>if b=true then .ok true else q' O) (T:=λc Y H1=>if c=true then Q true H1 else xQ X q' Y H1 Q) (λb Y H h=>by
  cases b with
  |true=>exact vB (t6 h)
  |false=>exact vA h) q
def vH(ha:IT X a p):IT X (.UnaryOp .Not a pos) (gU p):=iK (NB ha) λY H Q q=>
 z0 (k:=λb _=>.ok (!b)) (T:=λc Y H1=>Q (!c) H1) (λb Y H h=>t6 h) q
def IW.it(h:IW X e p):IT X e p:=PW.pt h
def mE(f g:ME):ME:=λO=>(f O).bind λx=>(sY x).bind λc=>if c=bC then g O else .ok (.b bH)
def Gf(f g:ME):ME:=λO=>(f O).bind λx=>(sY x).bind λc=>if c=bC then .ok (.b bC)else g O
def mf(f:ME):ME:=λO=>(f O).bind λx=>(sY x).bind λc=>.ok (.b (!c))
def z9{Y:St}{Q:VK}{k:bU->ME}{T:bU->St->Hp->Prop}(hT:∀b Y H,tD X (k b) Y H Q->T b Y H)(q:tD X (λO=>(f O).bind λx=>(sY x).bind λc=>k c O) Y H Q):tD X f Y H λx H1=>∃c,x= .b c/\T c Y H1:=by
 obtain⟨O,F,E,q⟩:=q;refine⟨O,F,E,jY q λd v F1 H1 g1 d1 q=>?_⟩;cases d with
 |b c=>simp only[bM]at d1;exact⟨c,d1,hT _ _ _ ⟨O,F1,E.grow g1,q⟩⟩|_=>exact q.elim
def Aa{d:D}{Y:St}{Q:VK}(hd:∀F,bM X.K F d v)(q:tD X (λ_=>.ok d) Y H Q):Q v H:=by obtain⟨O,F,E,q⟩:=q;exact dE q E.sub (hd F)
def Gg{op}(h:IE X a f):IE X (.BoolOp op [a] pos) f:=NF h
def Gh(ha:IE X a f)(hb:IE X (.BoolOp .And (b::rest) pos) g):IE X (.BoolOp .And (a::b::rest) pos) (mE f g):=gN (NG ha hb) λY H Q q=>
 z9 (k:=λc O=>if c=true then g O else .ok (.b false)) (T:=λc Y H1=>if c=true then tD X g Y H1 Q else Q (.b false) H1) (λb Y H h=>by
  cases b with
  |true=>exact vB h
  |false=>exact vA (Aa (λF=>by simp only[bM]) h)) q
def QB(ha:IE X a f)(hb:IE X (.BoolOp .Or (b::rest) pos) g):IE X (.BoolOp .Or (a::b::rest) pos) (Gf f g):=gN (NH ha hb) λY H Q q=>
 z9 (k:=λc O=>if c=true then .ok (.b true)else g O) (T:=λc Y H1=>if c=true then Q (.b true) H1 else tD X g Y H1 Q) (λb Y H h=>by
  cases b with
  |true=>exact vB (Aa (λF=>by simp only[bM]) h)
  |false=>exact vA h) q
def QC(ha:IE X a f):IE X (.UnaryOp .Not a pos) (mf f):=gN (NI ha) λY H Q q=>
 z9 (k:=λc _=>.ok (.b (!c))) (T:=λc Y H1=>Q (.b (!c)) H1) (λb Y H h=>Aa (λF=>by simp only[bM]) h) q
def wJ(p:MT)(f g:ME):ME:=λO=>(p O).bind λc=>if c=bC then f O else g O
def QD(hc:IT X c p)(ha:IE X a f)(hb:IE X b g):IE X (.IfExp c a b pos) (wJ p f g):=gN (y0 hc ha hb) λY H Q ⟨O,F,E,q⟩=>⟨O,F,E,jY q λd v F1 H1 g1 d1 q=>by
 cases(show d=v from d1);cases d with
 |true=>exact vB ⟨O,F1,E.grow g1,q⟩
 |false=>exact vA ⟨O,F1,E.grow g1,q⟩⟩
end
end
variable{m:bA D->bP D}{Y:St}{ds:bA D}{O:cS}{f:ME}{fa:MA}{m':D->D->bP D}{t:MT}
section
variable [fZ] [Pd]
inductive Fl where
 |nx (O:cS)|rt (d:D)|bk (O:cS)|ct (O:cS)|rr (d:D) (O:cS)|rn (s:Ob)
abbrev MS:=cS->bP Fl
structure SR(K:cD)(Fa Ha F H:Hp)(O:cS)(Y:St):Prop where
 gr:cL Fa Ha F H
 env:hV K F H O Y
 frh:∀(i:bD) p s a,O[i]? =bB (.obj p s)->Y[i]? =bB (bB (.ref a))->Ha a=bK
def SR.grow(h:SR K Fa Ha F H O Y)(g:cL F H F' H'):SR K Fa Ha F' H' O Y:=⟨h.gr.trans g,h.env.grow g,h.frh⟩
def SR.set(h:SR K Fa Ha F H O Y){d:D}(i:bD)(hd:bM K F d v):SR K Fa Ha F H (O.set i (.val d)) (Y.set i (bB v)):=
 ⟨h.gr,h.env.set i hd,λj p s a e1 e2=>by obtain⟨q,e⟩:=iH bO e1;rw[am q]at e2;exact h.frh j p s a e e2⟩
def kF(X:Cx)(Fa Ha:Hp)(r:bP Fl)(E:sV):Prop:=match r with| .ok (.nx O)=>∀Y F H,SR X.K Fa Ha F H O Y->E.nx Y H| .ok (.rt d)=>∀v F H,cL Fa Ha F H->bM X.K F d v->E.rt v H| .ok (.bk O)=>∀Y F H,SR X.K Fa Ha F H O Y->E.bk Y H| .ok (.ct O)=>∀Y F H,SR X.K Fa Ha F H O Y->E.ct Y H| .ok (.rr d O)=>∀v Y F H,SR X.K Fa Ha F H O Y->bM X.K F d v->E.rt v H| .ok (.rn s)=>∀a F H,cL Fa Ha F H->Ha a=bK->kE X.K F H a s->E.rt (.ref a) H| .bad=>jF
def iP{R1:Hp->α->β->Prop}{r:bP α}{g:α->bP Fl}{E:sV}{Q':β->Hp->Prop}(S:SR X.K Fa Ha F H O Y)(h:kF X Fa Ha (r.bind g) E)(k:∀a b F1 H1,SR X.K Fa Ha F1 H1 O Y->cL F H F1 H1->R1 F1 a b->kF X Fa Ha (g a) E->Q' b H1):fX R1 F H r Q':=by
 cases r with
 |ok a=>exact λb F' H' g' r'=>k a b F' H' (S.grow g') g' r' h|bad=>exact h
noncomputable def tS(X:Cx)(Fa Ha:Hp)(g:MS):TS:=λE Y H=>∃O F,SR X.K Fa Ha F H O Y/\kF X Fa Ha (g O) E
def IS(X:Cx)(st:dN)(g:MS):Prop:=∀Fa Ha,PS X st (tS X Fa Ha g)
def mF(X:Cx)(st:bA dN)(g:MS):Prop:=∀Fa Ha,pF X st (tS X Fa Ha g)
section
variable{st:dN}{u v w:MS}
noncomputable def cE:MS:=λO=>.ok (.nx O)
noncomputable def t7(g:MS):Fl->bP Fl| .nx O=>g O| .rt d=>.ok (.rt d)| .bk O=>.ok (.bk O)| .ct O=>.ok (.ct O)| .rr d O=>.ok (.rr d O)| .rn s=>.ok (.rn s)
def bL(u v:MS):MS:=λO=>(u O).bind (t7 v)
def aW:mF X [] cE:=λFa Ha=>zy EQ λE Y H qz=>by obtain⟨O,F,S,q⟩:=qz;exact q Y F H S
def rE(h:IS X st u):mF X [st] u:=λFa Ha=>ES (h Fa Ha)
def zN(h1:IS X st u)(h2:mF X rest v):mF X (st::rest) (bL u v):=λFa Ha=>zy (ER (h1 Fa Ha) (h2 Fa Ha)) λE Y H qz=>by
 obtain⟨O,F,S,q⟩:=qz;refine⟨O,F,S,?_⟩;unfold bL at q;revert q;cases u O with
 |ok fl=>
  intro q;cases fl with
  |nx ρ'=>exact λσ' F' H' S'=>⟨ρ',F',S',q⟩|_=>exact q
 |bad=>exact kX
def QE:IS X (.Pass pos) cE:=λFa Ha=>mC NM λE Y H qz=>by obtain⟨O,F,S,q⟩:=qz;exact q Y F H S
def t8{E:sV}{k:D->MS}{T:V->Hp->Prop}(hT:∀O F H d v,SR X.K Fa Ha F H O Y->bM X.K F d v->kF X Fa Ha (k d O) E->T v H)
 (q:tS X Fa Ha (λO=>(f O).bind λd=>k d O) E Y H):tD X f Y H T:=by
 obtain⟨O,F,S,q⟩:=q;exact⟨O,F,S.env,iP S q λd v F1 H1 S1 _ d1 q=>hT O F1 H1 d v S1 d1 q⟩
def eA(f:ME):MS:=λO=>(f O).bind λ_=>.ok (.nx O)
def QF(he:IE X e f)(hs:aE e bK pos.line X.env=fE bH:=by rfl):IS X (.Expr e pos) (eA f):=λFa Ha=>mC (k8 he hs) λE Y H q=>
 t8 (k:=λ_ O=>.ok (.nx O)) (λO F H d v S _ q=>q Y F H S) q
def bW(f:ME):MS:=λO=>(f O).bind λd=>.ok (.rt d)
def sB(he:IE X e f):IS X (.Return (bB e) pos) (bW f):=λFa Ha=>mC (y7 he) λE Y H q=>
 t8 (k:=λd _=>.ok (.rt d)) (λO F H d v S r q=>q v F H S.gr r) q
def cR(i:bD)(f:ME):MS:=λO=>(f O).bind λd=>.ok (.nx (O.set i (.val d)))
def Gi(h:∀t,PE X e t->PS X (.Assign [.Name x p] e pos) (lb t (qZ i)))(he:IE X e f):IS X (.Assign [.Name x p] e pos) (cR i f):=λFa Ha=>mC (h _ he) λE Y H q=>
 t8 (k:=λd O=>.ok (.nx (O.set i (.val d)))) (λO F H d v S r q=>q _ F H (S.set i r)) q
def bY(p:MT)(u v:MS):MS:=λO=>(p O).bind λc=>if c=bC then u O else v O
def aX{c:Expr}{a b:bA dN}{p:MT}(hc:IT X c p)(ha:mF X a u)(hb:mF X b v):IS X (.If c a b pos) (bY p u v):=λFa Ha=>mC (ET hc (ha Fa Ha) (hb Fa Ha)) λE Y H qz=>by
 obtain⟨O,F,S,q⟩:=qz;refine⟨O,F,S.env,iP S q λc v F1 H1 S1 _ e1 q=>?_⟩;cases(show c=v from e1);cases c with
 |true=>exact vB ⟨O,F1,S1,q⟩|false=>exact vA ⟨O,F1,S1,q⟩
def gD(i:bD)(body:MS):bA D->MS
 | [],O=>.ok (.nx O)|d::ds,O=>(body (O.set i (.val d))).bind λfl=>match fl with| .nx ρ'=>gD i body ds ρ'| .ct ρ'=>gD i body ds ρ'| .bk ρ'=>.ok (.nx ρ')| .rt d=>.ok (.rt d)| .rr d ρ'=>.ok (.rr d ρ')| .rn s=>.ok (.rn s)
def QG{E:sV}{body:MS}{d:D}(q:kF X Fa Ha (gD i body (d::ds) O) E){N:St->Hp->Prop}(hN:∀ρ' Y F H,SR X.K Fa Ha F H ρ' Y->kF X Fa Ha (gD i body ds ρ') E->N Y H):
 kF X Fa Ha (body (O.set i (.val d))) {E with nx:=N,ct:=N,bk:=E.nx}:=by
 unfold gD at q;revert q;cases body (O.set i (.val d))with
 |ok fl=>
  intro q;cases fl with
  |nx ρ'=>exact λY F H S=>hN ρ' Y F H S q|ct ρ'=>exact λY F H S=>hN ρ' Y F H S q|_=>exact q
 |bad=>exact kX
def cL.mix(a:cL Fa Ha F H)(b:cL F Ha F' H'):cL Fa Ha F' H':=⟨b.same,b.more,λt=>b.tk ⟨t.1,(a.tk t).2⟩,a.fs.trans b.fs,b.sub,λc h n=>b.new c (a.new c h n) n⟩
def cL.here(a:cL Fa Ha F H):cL F Ha F H:=⟨a.same,a.more,λt=>a.tk ⟨t.1,λb ps e=>t.2 b ps (a.fs _ _ e)⟩,bT.refl _,a.sub,λ_ h _=>h⟩
def SR.here(h:SR K Fa Ha F H O Y):SR K F Ha F H O Y:=⟨h.gr.here,h.env,h.frh⟩
def SR.mix{ρ':cS}{σ':St}(a:cL Fa Ha F H)(h:SR K F Ha F' H' ρ' σ'):SR K Fa Ha F' H' ρ' σ':=⟨a.mix h.gr,h.env,h.frh⟩
def kF.here{r:bP Fl}{E:sV}(a:cL Fa Ha F H)(q:kF X Fa Ha r E):kF X F Ha r E:=by
 cases r with
 |ok fl=>
  cases fl with
  |nx O=>exact λY F H S=>q Y F H (SR.mix a S)|bk O=>exact λY F H S=>q Y F H (SR.mix a S)|ct O=>exact λY F H S=>q Y F H (SR.mix a S)|rt d=>exact λv F H g r=>q v F H (a.mix g) r|rr d O=>exact λv Y F H S r=>q v Y F H (SR.mix a S) r|rn s=>exact λb F H g=>q b F H (a.mix g)
 |bad=>exact q
def Gj(hb:mF X body u):pF X body (λE Y H=>∃F₁,tS X F₁ Ha u E Y H):=λpc s Y H E I ⟨F₁,h⟩=>hb F₁ Ha pc s Y H E I h
noncomputable def upTo(lo:bG)(n:bD):bA D:=(kL n).map λ(k:bD)=>D.int (lo+(k:bG))
noncomputable def zO(n:bD)(ds:bA D):cS:=ds.map .val++lX (n-ds.length) .no
noncomputable def rF:Fl->bP D| .nx _=>.ok .n| .rt d=>.ok d|_=>.bad
def dG(k n:bD)(g:MS)(ds:bA D):bP D:=if ds.length=k then(g (zO n ds)).bind rF else .bad
end
def QH(h:∀s∈O,F7 s=bC){p:bU}{s:Ob}(e:O[i]? =bB (.obj p s)):jF:=yS (h _ (Dv e))
noncomputable abbrev rG(n:bD)(sl:cS):cS:=sl++lX (n-sl.length) .no
def Ab{sl:cS}(ti:pH F H)(g:cL F Ha F H)(r:kD (λs v=>aV K F H s (bB v)) sl vs)(one:∀(i j:bD) p s q t,sl[i]? =bB (.obj p s)->sl[j]? =bB (.obj q t)->i=j)
 (fr:∀(i:bD) p s a,sl[i]? =bB (.obj p s)->vs[i]? =bB (.ref a)->Ha a=bK):SR K F Ha F H (rG N.length sl) (start N vs):=by
 have hl:=gq r;have at_:∀{i:bD} {t},(rG N.length sl)[i]? =bB t->(∃v,sl[i]? =bB t/\vs[i]? =bB v/\(start N vs)[i]? =bB (bB v)/\aV K F H t (bB v))\/(t= .no/\(start N vs)[i]? =bB bK):=λ{i t} e=>by
  unfold L2.start;by_cases hi:i<sl.length
  .rw[b9 hi]at e;obtain⟨v,h1,h2⟩:=vE r e;exact .inl ⟨v,e,h1,by rw[b9 (by simp;lia),pB,h1];rfl,h2⟩
  .rw[wW cI,Dh]at e;split at e
   .cases e;refine .inr ⟨rfl,?_⟩;rw[wW (by simp;lia),Dh];simp only[cG];rw[cK cI]
   .cases e
 have ob:∀{i:bD} {p s},(rG N.length sl)[i]? =bB (.obj p s)->∃v,sl[i]? =bB (.obj p s)/\vs[i]? =bB v/\(start N vs)[i]? =bB (bB v):=λe=>by
  rcases at_ e with⟨v,h1,h2,h3,_⟩|⟨h,_⟩
  .exact⟨v,h1,h2,h3⟩
  .cases h
 refine⟨g,⟨ti,g.sub,?_,λi t e=>?_,λi j p s q t a n e1 e2=>?_⟩,λi p s a e1 e2=>?_⟩
 .unfold rG L2.start;simp only[cH,cG,K7]
  lia
 .rcases at_ e with⟨v,_,_,h1,h2⟩|⟨rfl,h⟩
  .exact⟨_,h1,h2⟩
  .exact⟨_,h,trivial⟩
 .obtain⟨_,h1,_⟩:=ob e1;obtain⟨_,h2,_⟩:=ob e2;exact dD (one i j p s q t h1 h2) n
 .obtain⟨v,h1,h2,h3⟩:=ob e1;rw[h3]at e2;cases e2;exact fr i p s a h1 h2
theorem mh:∀{ds:bA D} {vs:bA V},DatL K F ds vs->kD (λs v=>aV K F H s (bB v)) (ds.map .val) vs| [],_,h=>by simp only[DatL]at h;subst h;exact .nil|d::ds,_,h=>by simp only[DatL]at h;obtain⟨x,r,rfl,h2,h3⟩:=h;exact .cons ⟨x,rfl,h2⟩ (mh h3)
def mi{p:bU}{s:Ob}(e:(ds.map Slot.val)[i]? =some (.obj p s)):jF:=by
 rw[pB]at e;cases h:ds[i]? with
 |none=>rw[h]at e;cases e|some d=>rw[h]at e;cases e
def Gk(ti:pH F H)(s:bT F H)(r:DatL K F ds vs):SR K F H F H (zO N.length ds) (start N vs):=by
 have:=Ab (N:=N) ti (.refl s) (mh (H:=H) r) (λi j p s q t e=>(mi e).elim) λi p s a e=>(mi e).elim
 unfold rG at this;rw[cG]at this;exact this
theorem QI{w:cF}{st:dN}{f:bI}{sp:Sp}(F:hO K x qual st f fd)(S:lU N ps (dA st))(len:∀vs H Q E,sp vs H Q E->vs.length=ps.length)
 (hbody:∀(cdv:bJ) (A:gK) (outer:bA jG) (s:bS) (H:Hp) (vs:bA V) (Q:VK) (E:XK),fd.code=cdv->fY k (A.deeper (qD qual (dA st) s.heap.objs.size f cdv))->sp vs H Q E->
   ∃t,pF (rY fF P w K mg base N qual (dA st) f cdv A outer s H E).nox (kM st) t/\t {nx:=λ_ H'=>Q .n H',rt:=Q} (start N vs) H):dZ P w K mg base fF (k+1) f fd ps sp:=by
 obtain⟨oc,od,kV,doc,pm,an,cdv,ct,osl,rfl,lk,hcd⟩:=F.ex;refine Fz lk hcd S len λA outer s H vs Q E hr hsp=>?_
 obtain⟨t,h,q⟩:=hbody cdv A outer s H vs Q E rfl hr hsp;exact⟨t,h.nox,q⟩
def Ac{w:cF}{st:dN}{f:bI}{g:MS}(F:hO K x qual st f fd)(S:lU N ps (dA st))
 (hbody:∀(_:Pd) (cdv:bJ) (A:gK) (outer:bA jG) (s:bS) (H:Hp) (E:XK),fd.code=cdv->fY k (A.deeper (qD qual (dA st) s.heap.objs.size f cdv))->
   mF (rY fF P w K mg base N qual (dA st) f cdv A outer s H E).nox (kM st) g):dZ P w K mg base fF (k+1) f fd ps (pJ K (dG ps.length N.length g)):=by
 refine QI F S (λvs H Q E h=>?_) (λcdv A outer s H vs Q E hcd hr h=>?_)
 .obtain⟨F,ds,_,_,r,q⟩:=h;unfold dG at q;split at q
  .rename_i e;rw[<-r.length];exact e
  .cases q
 .obtain⟨F,ds,ti,s',r,q⟩:=h
  letI:Pd:=zJ
  refine⟨_,hbody zJ cdv A outer s H E hcd hr F H,zO N.length ds,F,Gk ti s' r,?_⟩;unfold dG at q;split at q
  .revert q;cases g (zO N.length ds)with
   |ok fl=>
    intro q;cases fl with
    |nx O=>exact λY F' H' S'=>q .n F' H' S'.gr (by simp only[bM])|rt d=>exact q|_=>exact q.elim
   |bad=>exact kX
  .cases q
def t9{w:cF}{st:dN}{f:bI}{g:MS}(F:hO K x qual st f fd)(S:lU N ps (dA st))
 (hbody:∀(_:Pd) (cdv:bJ) (A:gK) (outer:bA jG) (s:bS) (H:Hp) (E:XK),fY k (A.deeper (qD qual (dA st) s.heap.objs.size f cdv))->
   mF (rY fF P w K mg base N qual (dA st) f cdv A outer s H E).nox (kM st) g):dZ P w K mg base fF (k+1) f fd ps (pJ K (dG ps.length N.length g)):=Ac F S λpd cdv A outer s H E _ hr=>hbody pd cdv A outer s H E hr
end
variable{u:MS}{blk:bA dN->bQ MS}
section
variable{w:cF}
def QJ{t sl:bI}{vl vu:bJ}{lo hi:bQ bG}(ht:da s.heap t items)(hs:s.heap.IsSliceOf sl vl vu .none)(pl:xI vl lo)(pu:xI vu hi)
 (hw:HT.sIx items.size 0 lo=0/\HT.sIx items.size items.size hi=items.size) (h:Q (.ref t) s):wpAny (cA prog w) A (yW (.ref t) (.ref sl)) Q E s:=by
 obtain⟨os,hos,hcs,hds⟩:=id hs;have hTs:s.TypeIs (.ref sl) "slice" :=⟨os,hos,hcs⟩;unfold yW;try with_reducible refine j8 ?_
 first|refine bV (dM ?_)|skip
 refine bV (LB ht.typeIs jB ?_)
 refine bV (jy (name:=yV "__getitem__") ht.typeIs gb
  (j6 gb ht.typeIs Lk ?_ (Lu _ _)))
 show wpAny _ _ (KN (.ref t)>>=_) _ _ s;refine bV (DT ht ?_);refine bV (qf hTs ?_);rw[cK jB];refine bV (HT.sliceApplied_gen hs pl pu ?_);have hno:((((HT.sIx items.size 0 lo:bD):bG)==0&&(1:bG)==1&&(HT.sIx items.size items.size hi-HT.sIx items.size 0 lo)==items.size)=bC):=by rw[hw.1,hw.2];simp
 show wpAny _ _ (if(((HT.sIx items.size 0 lo:bD):bG)==0&&(1:bG)==1&&(HT.sIx items.size items.size hi-HT.sIx items.size 0 lo)==items.size)=bC then _ else _) _ _ s;rw[cK hno];unfold Xo;refine bV (bV (qf ht.typeIs ?_));refine dM ?_;rw[cK jB];exact bV (qi (dM ⟨_,rfl,dM h⟩))
theorem QK:fillsNumberSlot (.type "tuple") "mul" =fE bH:=
 PySem.fillsNumberSlot_seq (id:="tuple.__mul__") (r:=bB (.builtin "tuple.__rmul__")) F.slot_tuple_mul.lookup tY F.slot_tuple_rmul.lookup tY
theorem QL:seqRepeat? (.type "tuple")=fE (bB (.builtin "tuple.__mul__")):=by unfold seqRepeat?;rw[LK (T:="tuple") (name:="__mul__") (id:="tuple.__mul__") F.slot_tuple_mul.lookup tY,LK (T:="tuple") (name:="__rmul__") (id:="tuple.__rmul__") F.slot_tuple_rmul.lookup tY];rfl
def QM(a:bG)(t:lG)(l:bI)(items:fQ bJ)(n:bD)(d:bQ bI)(sl:fQ (bQ bJ)):
 Meets (iy.«int.__rmul__» ⟨[.int a t,.ref l],[]⟩) (λ_ R s=>s.heap.get? l=bB {cls:=.type "tuple",dict:=d,data:=.seq items n,slots:=sl}/\R (.ok (.ret Value.notImplemented)) s):=
 .of_wp λprog w A R s h=>by obtain⟨hp,g,d,tk,os⟩:=s;obtain⟨hl,h⟩:=h;wp_walk;exact⟨_,rfl,h⟩
def QN(l:bI)(items:fQ bJ)(n:bD)(x:bG)(u:lG)(d:bQ bI)(sl:fQ (bQ bJ))(h1: ¬ (x< -(2^63)||x≥2^63)=bC)(h2: ¬ (items.isEmpty||x==1)=bC)(h3: ¬ (x<=0||items.isEmpty)=bC)
 (h4: ¬ ((items.size:bG)*x>(2^63-1)/8)) (h5: ¬ KO ((items.size:bG)*x)=bC) (h6:(ka (λx1 x2=>x1++x2) #[] (lX x.toNat items)).size<=cJ):
 Meets (iy.«tuple.__mul__» ⟨[.ref l,.int x u],[]⟩) (λ_ R s=>s.heap.get? l=bB {cls:=.type "tuple",dict:=d,data:=.seq items n,slots:=sl}/\R (.ok (.ret (jT s.heap.objs.size))) {s with heap:=s.heap.push {cls:=cq "tuple",data:=Ew (ka (λx1 x2=>x1++x2) #[] (lX x.toNat items))},toks:=s.toks}):=
 .of_wp λprog w A R s h=>by
  obtain⟨hp,g,d,tk,os⟩:=s;obtain⟨hl,h⟩:=h
  wp_walk
  rw[dH h1];refine bV (DT ⟨_,hl,rfl,_,rfl⟩ ?_);rw[dH h2,dH h3,dH h4,dH h5]
  first
   |exact bV (m:=jx _) (au (dM ⟨_,rfl,h⟩) h6)
   |exact bV (m:=jx _) (au (dM ⟨_,rfl,dM h⟩) h6)
def Gm(xs:bA bJ)(k:bD):ka (λx1 x2=>x1++x2) #[] (lX k xs.toArray)=((lX k xs).flatten).toArray:=by
 have gen:∀(k:bD) (acc:bA bJ),ka (λx1 x2=>x1++x2) acc.toArray (lX k xs.toArray)=(acc++(lX k xs).flatten).toArray:=by
  intro k;induction k with
  |zero=>intro acc;simp
  |succ k ih=>intro acc;rw[ce,pz,ce,j4];have e:acc.toArray++xs.toArray=(acc++xs).toArray:=cO;rw[e,ih,pP]
 exact gen k []
def Gn(xs:bA α)(k:bD):((lX k xs).flatten).length=k*xs.length:=by
 induction k with
 |zero=>simp|succ k ih=>rw[ce,j4,cH,ih,Mq];lia
theorem QO{t:bI}{vs:bA bJ}{x:bG}{u:lG}(ht:da s.heap t vs.toArray)(hv:vs≠ [])(h2:2<=x)(hx:x<=1000)(hl:vs.length<=1000)
 (h:Q (.ref s.heap.objs.size) {s with heap:=s.heap.push {cls:=.type "tuple",data:=.seq ((lX x.toNat vs).flatten).toArray}}):wpAny (cA prog w) A (mU .Mult (.ref t) (.int x u)) Q E s:=by
 obtain⟨⟨cls,dd,data,sl⟩,ho,hc,n,hd⟩:=id ht;simp only at hc hd;subst hc hd;have he:vs.toArray.isEmpty=bH:=by
  cases vs with
  |nil=>exact dD bO hv|cons _ _=>rfl
 have hle:vs.length*x.toNat<=1000*1000:=DN hl cI;have e:((vs.toArray.size:bG)*x)=((vs.length*x.toNat:bD):bG):=by
  rw[gQ,Int.natCast_mul];congr 1
  lia
 have hs:=sizeLine_eq';rw[<-Gm]at h
 exact wpAny_binaryOp_repeat_ref (T:="tuple") (U:="int") jB ⟨_,ho,rfl⟩ (λs'=>Ef s' x u) QK F.fills_int_mul F.slot_int_rmul QL F.slot_int_index.lookup
  (cr F.slot_int_rmul (Ef s x u) F.entry_int_rmul (F.args_int_rmul_2 _ _) (QM x u t vs.toArray n dd sl)
    ⟨ho,rfl,⟨_,ho,rfl⟩,cr F.slot_tuple_mul ⟨_,ho,rfl⟩ F.entry_tuple_mul (F.args_tuple_mul_2 _ _)
     (QN t vs.toArray n x u dd sl (by simp;lia) (by rw[he];simp;lia) (by rw[he];simp;lia) (by rw[e];lia) (by rw[e];unfold KO;exact λz=>dD (mJ z) cI)
       (by rw[Gm,gQ,Gn,Nat.mul_comm];lia))
     ⟨ho,h⟩⟩)
 where sizeLine_eq':1000000<=cJ:=jB
end
section
variable [fZ] [Pd]
def rD(X:Cx)(m:D->D->bP D):R2:=λx y H Q=>∃F d1 d2,bT F H/\bM X.K F d1 x/\bM X.K F d2 y/\fX (bM X.K) F H (m d1 d2) Q
def Go(X:Cx)(m:D->bP D):V->Hp->VK->Prop:=λx H Q=>∃F d,bT F H/\bM X.K F d x/\fX (bM X.K) F H (m d) Q
def sZ(X:Cx)(m:bA D->bP D):bA V->Hp->VK->Prop:=λxs H Q=>∃F ds,bT F H/\DatL X.K F ds xs/\fX (bM X.K) F H (m ds) Q
section
variable{a b c:Expr}{g h:ME}{m:D->D->bP D}
def ua:iL X (rD X m) m:=λF H d1 d2 v1 v2 Q s h1 h2 q=>⟨F,d1,d2,s,h1,h2,q⟩
def QP{m:D->bP D}:me X (Go X m) m:=λF H d v Q s h q=>⟨F,d,s,h,q⟩
def mj{m:bA D->bP D}:iM X (sZ X m) m:=λF H ds vs Q s h q=>⟨F,ds,s,h,q⟩
def Gp{op:aF}(ho:dQ X (mU op) (rD X m))(ha:IE X a f)(hb:IE X b g):IE X (.BinOp a op b pos) (m2 m f g):=Qm ho ua ha hb
def QQ(ho:dQ X (hJ op) (rD X m))(ha:IE X a f)(hb:IE X b g)(hm:tQ op b=bH):IE X (.Compare a [op] [b] pos) (m2 m f g):=Qn ho ua ha hb hm
def Gq(ho:dQ X (hJ op) (rD X m))(ha:IE X a f)(hb:IE X b g)(hm:tQ op b=bH):IT X (.Compare a [op] [b] pos) (mB (m2 m f g)):=Qw ho ua ha hb hm
noncomputable def bZ:D->D->bP D| .int a,.int b=>.ok (.int (a+b))| .str x,.str y=>if x.length+y.length<=cJ then .ok (.str (x++y))else .bad| .t xs,.t ys=>if xs.length+ys.length<=cJ then .ok (.t (xs++ys))else .bad| .l xs,.l ys=>if xs.length+ys.length<=cJ then .ok (.l (xs++ys))else .bad|_,_=>.bad
def QR(x y:Str):(x++y).length=x.length+y.length:=by show(x.cps++y.cps).size=_;rw[DE];rfl
def Gr:dQ X (mU .Add) (rD X bZ):=by
 intro pc s Y H x y v u Q I rx ry h;obtain⟨F,d1,d2,sb,h1,h2,q⟩:=h;cases d1<;>cases d2<;>try exact q.elim
 .simp only[bM]at h1 h2;subst h1 h2;exact Oc pc s Y H _ _ v u Q I rx ry ⟨_,_,rfl,rfl,dE q sb (by simp only[bM])⟩
 .simp only[bM]at h1 h2;obtain⟨rfl,z1⟩:=h1;obtain⟨rfl,z2⟩:=h2;simp only[bZ]at q;split at q
  .rename_i z;exact OH pc s Y H _ _ v u Q I rx ry ⟨_,_,rfl,rfl,z,dE q sb (by simp only[bM];exact⟨trivial,by rw[QR];exact z⟩)⟩
  .cases q
 .rename_i xs ys;simp only[bM]at h1 h2;obtain⟨p1,vs,rfl,hq1,hl1⟩:=h1;obtain⟨p2,ws,rfl,hq2,hl2⟩:=h2;simp only[bZ]at q;split at q
  .rename_i z;have hq1':=bT.seqT sb hq1;have hq2':=bT.seqT sb hq2;have l1:=hl1.length;have l2:=hl2.length;by_cases hx:vs= []
   .subst hx;have hxs:xs= []:=wb.mp l1;subst hxs;cases rx;cases ry;obtain⟨its,r1,p1',_⟩:=I.tuple hq1';obtain⟨its2,r2,p2',_⟩:=I.tuple hq2';have e0:its= []:=r1.nil_iff.mpr rfl;subst e0;obtain⟨⟨cls,dd,data,sl⟩,ho,hc,n,hd⟩:=id p1';obtain⟨⟨cls2,dd2,data2,sl2⟩,ho2,hc2,n2,hd2⟩:=id p2';simp only at hc hd hc2 hd2;subst hc hd hc2 hd2
    exact qe ⟨_,ho,rfl⟩ ⟨_,ho2,rfl⟩ DH DS Do Di (De _ _)
     (tuple_addW0 p1 p2 _ _ n n2 dd dd2 sl sl2 cO) ⟨ho,ho2,⟨.ref p2,H,I,rfl,dE q sb (by simp only[bM,LV];exact⟨p2,ws,rfl,hq2,hl2⟩)⟩⟩
   .refine Pu pc s Y H _ _ v u Q I rx ry ⟨p1,p2,vs,ws,rfl,rfl,hq1',hq2',hx,cI,λhy=>?_,λhy p hp=>?_⟩
    .subst hy;have hys:ys= []:=wb.mp l2;subst hys;exact dE q sb (by simp only[bM,kK];exact⟨p1,vs,rfl,hq1,hl1⟩)
    .exact iI q sb (DatL.of (vD hl1.paired hl2.paired)) hp
  .cases q
 .rename_i xs ys;simp only[bM]at h1 h2;obtain⟨p1,vs,rfl,hq1,hl1⟩:=h1;obtain⟨p2,ws,rfl,hq2,hl2⟩:=h2;simp only[bZ]at q;split at q
  .rename_i z;have l1:=hl1.length;have l2:=hl2.length;cases rx;cases ry;obtain⟨its,r1,⟨⟨cls,dd,data,sl⟩,n,ho,hc,hd,hs⟩,z1⟩:=I.list (bT.seq sb hq1);obtain⟨its2,r2,⟨⟨cls2,dd2,data2,sl2⟩,n2,ho2,hc2,hd2,hs2⟩,z2⟩:=I.list (bT.seq sb hq2);simp only at hc hd hc2 hd2 hs hs2;subst hc hd hc2 hd2 hs hs2;have k1:=r1.length;have k2:=r2.length
   refine qe ⟨_,ho,rfl⟩ ⟨_,ho2,rfl⟩ K9 Lv La K5 (K0 _ _)
    (list_addW p1 p2 _ _ n n2 bK bK sl sl2 (by simp only[gQ];lia)) ⟨ho,ho2,?_⟩
   have ea:its.toArray++its2.toArray=(its++its2).toArray:=cO;rw[ea];exact⟨.ref _,_,I.lnew (t':=s.toks) (r1.append r2) (by rw[cH];lia),rfl,iJ q sb (DatL.of (vD hl1.paired hl2.paired)) I.fresh⟩
  .cases q
def ub{fn:bJ->bJ->pE bJ}{C:bG->bG->Prop}{gv:bG->bG->V}{gd:bG->bG->D}(rule:dQ X fn (rI C gv))(hm:∀d1 d2 F H Q,fX (bM X.K) F H (m d1 d2) Q->∃i j,d1= .int i/\d2= .int j/\C i j/\fX (bM X.K) F H (.ok (gd i j)) Q)
 (hg:∀i j F,bM X.K F (gd i j) (gv i j)):dQ X fn (rD X m):=by
 intro pc s Y H x y v u Q I rx ry h;obtain⟨F,d1,d2,sb,h1,h2,q⟩:=h;obtain⟨i,j,rfl,rfl,hc,q⟩:=hm d1 d2 F H Q q;simp only[bM]at h1 h2;subst h1 h2;exact rule pc s Y H _ _ v u Q I rx ry ⟨i,j,rfl,rfl,hc,dE q sb (hg i j F)⟩
def QS{fn:bJ->bJ->pE bJ}{gv:bG->bG->V}(h:dQ X fn (zH gv)):dQ X fn (rI (λ_ _=>wE) gv):=by intro pc s Y H x y v u Q I rx ry q;obtain⟨i,j,e1,e2,_,q⟩:=q;exact h pc s Y H x y v u Q I rx ry ⟨i,j,e1,e2,q⟩
noncomputable def dI(C:bG->bG->bU)(g:bG->bG->D):D->D->bP D| .int a,.int b=>if C a b=bC then .ok (g a b)else .bad|_,_=>.bad
def uc{C:bG->bG->bU}{g:bG->bG->D}{Q:V->Hp->Prop}(d1 d2:D)(q:fX (bM X.K) F H (dI C g d1 d2) Q):∃i j,d1= .int i/\d2= .int j/\C i j=bC/\fX (bM X.K) F H (.ok (g i j)) Q:=by
 cases d1<;>cases d2<;>try exact q.elim
 rename_i i j;simp only[dI]at q;split at q
 .rename_i h;exact⟨i,j,rfl,rfl,h,q⟩
 .cases q
def sC:D->D->bP D:=dI (λ_ _=>bC) λa b=>.int (a-b)
def QT:dQ X (mU .Sub) (rD X sC):=ub (gd:=λa b=>.int (a-b)) (QS Oe) (λd1 d2 F H Q q=>let ⟨i,j,e1,e2,_,q⟩:=uc d1 d2 q;⟨i,j,e1,e2,trivial,q⟩) λi j F=>by simp only[bM]
def jC:D->D->bP D:=dI (λ_ j=>cN (0<j/\j<1073741824)) λa b=>.int (a/b)
def QU:dQ X (mU .FloorDiv) (rD X jC):=ub (gd:=λa b=>.int (a/b)) Og (λd1 d2 F H Q q=>let ⟨i,j,e1,e2,c,q⟩:=uc d1 d2 q;⟨i,j,e1,e2,(show 0<j/\j<1073741824 from mJ c),q⟩) λi j F=>by simp only[bM]
def dS:D->D->bP D:=dI (λ_ j=>cN (0<j)) λa b=>.int (a%b)
def QV:dQ X (mU .Mod) (rD X dS):=ub (gd:=λa b=>.int (a%b)) Oh (λd1 d2 F H Q q=>let ⟨i,j,e1,e2,c,q⟩:=uc d1 d2 q;⟨i,j,e1,e2,mJ c,q⟩) λi j F=>by simp only[bM]
def Gs:D->D->bP D:=dI (λi j=>cN (0<=j/\j<=1000/\i.natAbs<2^64)) λa b=>.int (a^b.toNat)
def QW:dQ X (mU .Pow) (rD X Gs):=ub (gd:=λa b=>.int (a^b.toNat)) Oi (λd1 d2 F H Q q=>let ⟨i,j,e1,e2,c,q⟩:=uc d1 d2 q;⟨i,j,e1,e2,(by have:=mJ c;exact⟨this.1,cI,this.2.2⟩),q⟩) λi j F=>by simp only[bM]
noncomputable def Ad(i:bG):bU:=cN (-(2^64)<i/\i<2^64)
noncomputable def kY:D->D->bP D| .int a,.int b=>if Ad a||Ad b then .ok (.int (a*b))else .bad| .str x,.int n=>if 0<=n/\n<=100000/\x.length<=100 then .ok (.str (DU x n))else .bad| .t ds,.int n=>if 2<=n/\n<=1000/\0<ds.length/\ds.length<=1000 then .ok (.t ((lX n.toNat ds).flatten))else .bad|_,_=>.bad
def QX(x:Str)(n:bG):(DU x n).length<=x.length*n.toNat:=by
 unfold DU;split
 .show 0<=_;lia
 .rename_i h1;split
  .rename_i h2;rw[LW]at h2;rcases h2 with h2|h2
   .have:n=1:=dW h2;subst this;simp
   .have:x.length=0:=dW h2
    lia
  .have e:∀(k:bD) (acc:fQ bD),(ka (λx1 x2=>x1++x2) acc (lX k x.cps)).size=acc.size+x.length*k:=by
    intro k;induction k with
    |zero=>intro acc;simp
    |succ k ih=>
     intro acc;rw[ce,pz,ih,DE,Mr];show acc.size+x.cps.size+x.length*k=acc.size+(x.length*k+x.length);have:x.cps.size=x.length:=rfl
     lia
   show(ka (λx1 x2=>x1++x2) #[] (lX n.toNat x.cps)).size<=_;rw[e];simp
theorem Gu{us:bA bJ}(r:cW xs us):∀k:bD,cW ((lX k xs).flatten) ((lX k us).flatten)|0=>.nil|k+1=>by rw[ce,j4,ce,j4];exact r.append (Gu r k)
theorem Gv{G:α->β->Prop}{xs:bA α}{us:bA β}(r:kD G xs us):∀k:bD,kD G ((lX k xs).flatten) ((lX k us).flatten)|0=>.nil|k+1=>by rw[ce,j4,ce,j4];exact vD r (Gv r k)
def QY:dQ X (mU .Mult) (rD X kY):=by
 intro pc s Y H x y v u Q I rx ry h;obtain⟨F,d1,d2,sb,h1,h2,q⟩:=h;cases d1<;>cases d2<;>try exact q.elim
 .rename_i i j;simp only[bM]at h1 h2;subst h1 h2;simp only[kY]at q;split at q
  .rename_i hc;refine Of pc s Y H _ _ v u Q I rx ry ⟨_,_,rfl,rfl,?_,dE q sb (by simp only[bM])⟩;rw[LW]at hc;rcases hc with hc|hc
   .exact .inl (mJ hc)
   .exact .inr (mJ hc)
  .cases q
 .rename_i z n;simp only[bM]at h1 h2;obtain⟨rfl,hz⟩:=h1;subst h2;simp only[kY]at q;split at q
  .rename_i hn;obtain⟨t,rfl⟩:=rx;obtain⟨t',rfl⟩:=ry;have hle:z.length*n.toNat<=100*100000:=DN hn.2.2 cI;have hok:PySem.MulOk z n:=by
    refine⟨?_,λh1 _=>?_,λh1 _=>?_⟩
    .have e1:cN (n< -(2^63:bG))=bH:=jD cI;have e2:cN (n≥2^63)=bH:=jD cI;rw[e1,e2];rfl
    .have hn1:1<=n:=by lia
     have hdiv:(100:bG)<=(2^63-1)/n:=by
      apply Int.le_ediv_of_mul_le cI
      lia
     lia
    .show Ll (z.length*n.toNat)=bH;unfold Ll;have hsl:=sR;exact jD cI
   exact PySem.SB.mul hok λt2 k=>⟨.str _,H,I.tok _,⟨_,rfl⟩,dE q sb (by
    simp only[bM];refine⟨trivial,jS (QX z n) ?_⟩;have:=sR
    lia)⟩
  .cases q
 .rename_i ds n;simp only[bM]at h1 h2;subst h2;obtain⟨p1,vs,rfl,hq1,hl1⟩:=h1;simp only[kY]at q;split at q
  .rename_i hn;have l1:=hl1.length;cases rx;obtain⟨t',rfl⟩:=ry;obtain⟨its,r1,p1',_⟩:=I.tuple (bT.seqT sb hq1);have l2:=r1.length;have hz:=sR;refine QO p1' (λz=>by rw[z,lQ]at l2;lia) hn.1 hn.2.1 cI ?_;have rv:cW ((lX n.toNat vs).flatten) ((lX n.toNat its).flatten):=Gu r1 _;refine⟨.ref s.heap.objs.size,_,I.laid (t':=s.toks) (o:=.t ((lX n.toNat vs).flatten)) (λb ob q=>fC _ q) (cZ _) ?_,rfl,iI q sb (DatL.of (Gv hl1.paired _)) (I.hok.fresh (cZ _))⟩;refine⟨?_,_,rv,tZ.new _ _⟩;rw[Gn];have:n.toNat*vs.length<=1000*1000:=DN cI cI
   lia
  .cases q
noncomputable def ml:D->bP D| .int a=>.ok (.int (-a))|_=>.bad
def QZ:lj X (yh .USub) (Go X ml):=by
 intro pc s Y H x v Q I rx h;obtain⟨F,d,sb,h1,q⟩:=h;cases d<;>try exact q.elim
 simp only[bM]at h1;subst h1;exact Om pc s Y H _ v Q I rx ⟨_,rfl,dE q sb (by simp only[bM])⟩
def Q0(ha:IE X a f):IE X (.UnaryOp .USub a pos) (m1 ml f):=Qp QZ QP ha
noncomputable def xS:D->D->bP D| .int a,.int b=>.ok (.b (cN (a<b)))| .str a,.str b=>.ok (.b (cN (a.cps.toList<b.cps.toList)))|_,_=>.bad
noncomputable def lV:D->D->bP D| .int a,.int b=>.ok (.b (cN (a<=b)))| .str a,.str b=>.ok (.b (!cN (b.cps.toList<a.cps.toList)))|_,_=>.bad
noncomputable def nV:D->D->bP D| .int a,.int b=>.ok (.b (cN (b<a)))|_,_=>.bad
def Q1:dQ X (hJ .Lt) (rD X xS):=by
 intro pc s Y H x y v u Q I rx ry h;obtain⟨F,d1,d2,sb,h1,h2,q⟩:=h;cases d1<;>cases d2<;>try exact q.elim
 .simp only[bM]at h1 h2;subst h1 h2;exact Ov pc s Y H _ _ v u Q I rx ry ⟨_,_,rfl,rfl,dE q sb (by simp only[bM])⟩
 .simp only[bM]at h1 h2;obtain⟨rfl,z1⟩:=h1;obtain⟨rfl,z2⟩:=h2;exact Oy pc s Y H _ _ v u Q I rx ry ⟨_,_,rfl,rfl,dE q sb (by simp only[bM])⟩
def Q2:dQ X (hJ .LtE) (rD X lV):=by
 intro pc s Y H x y v u Q I rx ry h;obtain⟨F,d1,d2,sb,h1,h2,q⟩:=h;cases d1<;>cases d2<;>try exact q.elim
 .simp only[bM]at h1 h2;subst h1 h2;exact Ow pc s Y H _ _ v u Q I rx ry ⟨_,_,rfl,rfl,dE q sb (by simp only[bM])⟩
 .simp only[bM]at h1 h2;obtain⟨rfl,z1⟩:=h1;obtain⟨rfl,z2⟩:=h2;obtain⟨t,rfl⟩:=rx;obtain⟨t',rfl⟩:=ry;exact PySem.P.le_str (nS I (dE (b:=V.b _) q sb (by simp only[bM])) rfl)
def Gw:dQ X (hJ .Gt) (rD X nV):=by
 intro pc s Y H x y v u Q I rx ry h;obtain⟨F,d1,d2,sb,h1,h2,q⟩:=h;cases d1<;>cases d2<;>try exact q.elim
 simp only[bM]at h1 h2;subst h1 h2;exact Ox pc s Y H _ _ v u Q I rx ry ⟨_,_,rfl,rfl,dE q sb (by simp only[bM])⟩
def qI(m m':D->D->bP D)(f g h:ME):ME:=λO=>(f O).bind λx=>(g O).bind λy=>(m x y).bind λz=>(sY z).bind λk=>if k=bC then(h O).bind λw=>m' y w else .ok (.b bH)
def Gx{Q:VK}(q:tD X (qI m m' f g h) Y H Q):ze (rD X m) (rD X m') (tD X f) (tD X g) (tD X h) Y H Q:=by
 obtain⟨O,F,E,q⟩:=q;refine⟨O,F,E,jY q λd v F1 H1 g1 d1 q=>⟨O,F1,E.grow g1,jY q λd' v' F2 H2 g2 d2 q=>⟨F2,d,d',g2.sub,d1.mono g2.fs,d2,jY q λz vz F3 H3 g3 d3 q=>?_⟩⟩⟩;cases z with
 |b k=>
  simp only[bM]at d3;refine⟨k,d3,?_⟩;cases k with
  |false=>exact vA (dE (show fX (bM X.K) F3 H3 (.ok (.b false)) Q from q) g3.sub (by simp only[bM]))|true=>exact vB ⟨O,F3,((E.grow g1).grow g2).grow g3,jY (show fX (bM X.K) F3 H3 ((h O).bind λw=>m' d' w) Q from q) λw vw F4 H4 g4 d4 q=>⟨F4,d',w,g4.sub,(d2.mono g3.fs).mono g4.fs,d4,q⟩⟩
 |_=>exact q.elim
def Q3{op':xJ}(ho:dQ X (hJ op) (rD X m))(ho':dQ X (hJ op') (rD X m'))(ha:IE X a f)(hb:IE X b g)(hc:IE X c h)(hm:qo [op,op'] [b,c]=bH:=by with_unfolding_all rfl):
 IE X (.Compare a [op,op'] [b,c] pos) (qI m m' f g h):=gN (OC ho ho' ha hb hc hm) λ_ _ _ q=>Gx q
def Q4{op':xJ}(ho:dQ X (hJ op) (rD X m))(ho':dQ X (hJ op') (rD X m'))(ha:IE X a f)(hb:IE X b g)(hc:IE X c h)(hm:qo [op,op'] [b,c]=bH:=by with_unfolding_all rfl):
 IT X (.Compare a [op,op'] [b,c] pos) (mB (qI m m' f g h)):=iK (OD ho ho' ha hb hc hm) λY H Q q=>zz (f:=qI m m' f g h) (λ_ _ _ q=>Gx q) q
end
mutual
noncomputable def jO:D->D->bU| .n,.n=>bC| .b a,.b b=>a==b| .b a,.int b=>(if a then 1 else 0)==b| .int a,.b b=>a==(if b then 1 else 0)| .int a,.int b=>a==b| .str a,.str b=>a==b| .t xs,.t ys=>eqL xs ys| .l xs,.l ys=>eqL xs ys| .dct _ _,.dct _ _=>bC|_,_=>bH
noncomputable def eqL:bA D->bA D->bU| [],[]=>bC|x::xs,y::ys=>jO x y&&eqL xs ys|_,_=>bH
end
mutual
noncomputable def gT:D->bD| .t xs=>depL xs+1| .l xs=>depL xs+1| .dct _ _=>1000|_=>0
noncomputable def depL:bA D->bD| []=>0|x::xs=>max (gT x) (depL xs)
end
mutual
theorem Gy:∀d:D,jO d d=bC| .n=>rfl| .b b=>by simp[jO]| .int i=>by simp[jO]| .str x=>by simp[jO]| .t xs=>by rw[jO];exact eqL_refl xs| .l xs=>by rw[jO];exact eqL_refl xs| .dct _ _=>by rw[jO]
theorem eqL_refl:∀ds:bA D,eqL ds ds=bC| []=>rfl|d::ds=>by rw[eqL,Gy d,eqL_refl ds];rfl
end
def Gz(I:bR X pc Y H s){a:bI}{ys:bA V}(h:jH X.K H a xs)(h':gS X.K H a ys):jF:=by obtain⟨its,r,⟨o,e,c,n,d⟩,_⟩:=I.tuple h;obtain⟨its',r',⟨o',n',e',c',_,d'⟩,_⟩:=I.list h';rw[e]at e';cases e';rw[c]at c';exact dD c' jB
abbrev lJ(d:D):Prop:=gT d<1000
mutual
theorem bM.inj(I:bR X pc Y H s)(sb:bT F H):∀{d d':D} {v:V},lJ d->lJ d'->bM X.K F d v->bM X.K F d' v->d=d'
 | .n,d',v,_,_,h,h'=>by simp only[bM]at h;subst h;cases d'<;>simp only[bM]at h'<;>first| (obtain⟨_,_,q,_⟩:=h';cases q;done)| (obtain⟨q,_⟩:=h';cases q;done)| (obtain⟨q,_⟩:=h';cases q;rfl)| (cases h';done)| (cases h';rfl)|rfl
 | .b b,d',v,_,_,h,h'=>by simp only[bM]at h;subst h;cases d'<;>simp only[bM]at h'<;>first| (obtain⟨_,_,q,_⟩:=h';cases q;done)| (obtain⟨q,_⟩:=h';cases q;done)| (obtain⟨q,_⟩:=h';cases q;rfl)| (cases h';done)| (cases h';rfl)|rfl
 | .int i,d',v,_,_,h,h'=>by simp only[bM]at h;subst h;cases d'<;>simp only[bM]at h'<;>first| (obtain⟨_,_,q,_⟩:=h';cases q;done)| (obtain⟨q,_⟩:=h';cases q;done)| (obtain⟨q,_⟩:=h';cases q;rfl)| (cases h';done)| (cases h';rfl)|rfl
 | .str x,d',v,_,_,h,h'=>by simp only[bM]at h;obtain⟨rfl,_⟩:=h;cases d'<;>simp only[bM]at h'<;>first| (obtain⟨_,_,q,_⟩:=h';cases q;done)| (obtain⟨q,_⟩:=h';cases q;done)| (obtain⟨q,_⟩:=h';cases q;rfl)| (cases h';done)| (cases h';rfl)|rfl
 | .dct _ _,_,_,z,_,_,_=>by unfold lJ at z;rw[gT]at z;lia| .t ds,d',v,z,z',h,h'=>by
  simp only[bM]at h;obtain⟨a,xs,rfl,h1,h2⟩:=h;unfold lJ at z z';rw[gT]at z;cases d' with
  |t es=>simp only[bM]at h';obtain⟨a',ys,e,h1',h2'⟩:=h';cases e;have:=I.tuple_inj (bT.seqT sb h1) (bT.seqT sb h1');subst this;rw[gT]at z';rw[DatL.inj I sb cI cI h2 h2']|l es=>simp only[bM]at h';obtain⟨a',ys,e,h1',h2'⟩:=h';cases e;exact(Gz I (bT.seqT sb h1) (bT.seq sb h1')).elim|str _=>simp only[bM]at h';obtain⟨q,_⟩:=h';cases q|dct _ _=>rw[gT]at z';lia|_=>simp only[bM]at h';cases h'
 | .l ds,d',v,z,z',h,h'=>by
  simp only[bM]at h;obtain⟨a,xs,rfl,h1,h2⟩:=h;unfold lJ at z z';rw[gT]at z;cases d' with
  |l es=>simp only[bM]at h';obtain⟨a',ys,e,h1',h2'⟩:=h';cases e;have:=I.list_inj (bT.seq sb h1) (bT.seq sb h1');subst this;rw[gT]at z';rw[DatL.inj I sb cI cI h2 h2']|t es=>simp only[bM]at h';obtain⟨a',ys,e,h1',h2'⟩:=h';cases e;exact(Gz I (bT.seqT sb h1') (bT.seq sb h1)).elim|str _=>simp only[bM]at h';obtain⟨q,_⟩:=h';cases q|dct _ _=>rw[gT]at z';lia|_=>simp only[bM]at h';cases h'
theorem DatL.inj(I:bR X pc Y H s)(sb:bT F H):∀{ds es:bA D} {xs:bA V},depL ds<1000->depL es<1000->DatL X.K F ds xs->DatL X.K F es xs->ds=es
 | [],es,xs,_,_,h,h'=>by
  simp only[DatL]at h;subst h;cases es with
  |nil=>rfl|cons e es=>simp only[DatL]at h';obtain⟨_,_,q,_⟩:=h';cases q
 |d::ds,es,xs,z,z',h,h'=>by
  simp only[DatL]at h;obtain⟨x,r,rfl,h1,h2⟩:=h;cases es with
  |nil=>simp only[DatL]at h';cases h'|cons e es=>simp only[DatL]at h';obtain⟨x',r',q,h1',h2'⟩:=h';cases q;rw[depL]at z z';rw[bM.inj I sb (by unfold lJ;lia) (by unfold lJ;lia) h1 h1',DatL.inj I sb cI cI h2 h2']
end
def xT(ds es:bA D)(j:bD):bU:=match ds[j]?,es[j]? with|some d,some e=>jO d e|_,_=>bC
theorem ud:∀ds es:bA D,eqL ds es=((kL (rX ds.length es.length)).all (xT ds es)&&(ds.length==es.length))
 | [],[]=>rfl| [],e::es=>by simp[eqL]|d::ds,[]=>by simp[eqL]|d::ds,e::es=>by
  have ih:=ud ds es;have e1:rX (d::ds).length (e::es).length=rX ds.length es.length+1:=by simp only[dC];lia
  rw[eqL,e1,Dr,lS,D3,ih];have e2:(xT (d::ds) (e::es) ∘ Nat.succ)=xT ds es:=by funext j;simp[xT]
  have e3:xT (d::ds) (e::es) 0=jO d e:=by simp[xT]
  have e4:((d::ds).length==(e::es).length)=(ds.length==es.length):=cO;rw[e2,e3,e4,Bool.and_assoc]
theorem ue:∀{ds:bA D} {j:bD} {d:D},ds[j]? =bB d->gT d<=depL ds| [],_,_,h=>by simp at h|d::ds,0,_,h=>by simp at h;subst h;rw[depL];exact Nat.le_max_left _ _|d::ds,j+1,_,h=>by rw[depL];exact jS (ue (ds:=ds) (j:=j) (by simpa using h)) (Nat.le_max_right _ _)
inductive Vw(K:cD)(F:Hp)(s:bS):D->bJ->Prop
 |n:Vw K F s .n .none
 |b (b:bU):Vw K F s (.b b) (.bool b)
 |int (i:bG) (t:_):Vw K F s (.int i) (.int i t)
 |str (x:Str) (t:_):Vw K F s (.str x) (.str x t)
 |t {ds:bA D} {p:bI} {xs:bA V} {its:bA bJ} (h:da s.heap p its.toArray) (r:cW xs its) (l:DatL K F ds xs):Vw K F s (.t ds) (.ref p)
 |l {ds:bA D} {p:bI} {xs:bA V} {its:bA bJ} (h:s.heap.IsList p its.toArray) (r:cW xs its) (l:DatL K F ds xs):Vw K F s (.l ds) (.ref p)
def Vw.of(I:bR X pc Y H s)(sb:bT F H):∀{d:D} {x:V} {u:bJ},lJ d->bM X.K F d x->cX x u->Vw X.K F s d u| .dct _ _,_,_,z,_,_=>by unfold lJ at z;rw[gT]at z;lia| .n,_,_,_,h,r=>by simp only[bM]at h;subst h;cases r;exact .n| .b _,_,_,_,h,r=>by simp only[bM]at h;subst h;cases r;exact .b _| .int _,_,_,_,h,r=>by simp only[bM]at h;subst h;obtain⟨t,rfl⟩:=r;exact .int _ t| .str _,_,_,_,h,r=>by simp only[bM]at h;obtain⟨rfl,_⟩:=h;obtain⟨t,rfl⟩:=r;exact .str _ t| .t _,_,_,_,h,r=>by simp only[bM]at h;obtain⟨p,xs,rfl,g,l⟩:=h;cases r;obtain⟨its,k,t,_⟩:=I.tuple (bT.seqT sb g);exact .t t k l| .l _,_,_,_,h,r=>by simp only[bM]at h;obtain⟨p,xs,rfl,g,l⟩:=h;cases r;obtain⟨its,k,t,_⟩:=I.list (bT.seq sb g);exact .l t.isList k l
def GA:∀{x:V} {p:bI},cX x (.ref p)->x= .ref p
 | .ref _,_,h=>by cases h;rfl| .n,_,h| .b _,_,h| .ty _,_,h=>by cases h
 | .int _,_,h| .str _,_,h| .byt _,_,h| .flt _,_,h=>by obtain⟨_,z⟩:=h;cases z
def GB{es:bA D}{ys:bA V}{its its2:bA bJ}(ih:∀(d e:D) (x y:V) (u v:bJ),gT d<=n->lJ e->bM X.K F d x->bM X.K F e y->cX x u->cX y v->g9 A s u v (jO d e))(hd:depL ds<=n)(he:depL es<1000)
 (l1:DatL X.K F ds xs) (k1:cW xs its) (l2:DatL X.K F es ys) (k2:cW ys its2) (j:bD) (w1:j<its.toArray.size) (w2:j<its2.toArray.size):g9 A s its.toArray[j] its2.toArray[j] (xT ds es j):=by
 have n1:=l1.length;have n2:=l2.length;have m1:=k1.length;have m2:=k2.length;rw[gQ]at w1 w2;have hd':ds[j]? =bB ds[j]:=nO cI;have he':es[j]? =bB es[j]:=nO cI;obtain⟨x,hx,dx⟩:=vE l1.paired hd';obtain⟨y,hy,dy⟩:=vE l2.paired he';obtain⟨u,hu1,ru⟩:=k1.get hx;obtain⟨v,hv1,rv⟩:=k2.get hy;have eu:its.toArray[j]=u:=jJ ((nO w1).symm.trans hu1);have ev:its2.toArray[j]=v:=jJ ((nO w2).symm.trans hv1);have ee:xT ds es j=jO ds[j] es[j]:=by unfold xT;rw[hd',he']
 rw[eu,ev,ee];exact ih _ _ x y u v (jS (ue hd') hd) (wk (ue he') he) dx dy ru rv
def GC(I:bR X pc Y H s)(sb:bT F H){d e:D}{x y:V}{p q:bI}(z1:lJ d)(z2:lJ e)(h1:bM X.K F d x)(h2:bM X.K F e y)(r1:cX x (.ref p))(r2:cX y (.ref q))(R1:Ey A s (.ref p) (.ref q) (jO d e)):g9 A s (.ref p) (.ref q) (jO d e):=by
 by_cases hp:p=q
 .subst hp;cases GA r1;cases GA r2;rw[bM.inj I sb z1 z2 h1 h2,Gy];exact SeqAt.EqAt.same _
 .exact SeqAt.EqAt.of_refs hp R1
open SeqAt in
def uf{d e:D}{u v:bJ}(hu:A.units<lD)(a:Vw K F s d u)(b:Vw K F s e v)(n1:∀ds es,d= .t ds->e≠ .t es)(n2:∀ds es,d= .l ds->e≠ .l es):Ey A s u v (jO d e)/\g9 A s u v (jO d e):=by
 cases a with
 |n=>
  cases b with
  |n=>exact⟨.none_none,.same _⟩|b b=>exact⟨.none_bool b,.none_bool b⟩|int b t=>exact⟨.none_int b t,.none_int b t⟩|str b t=>exact⟨.none_str b t,.none_str b t⟩|t h _ _=>exact⟨.none_tuple h hu,.none_tuple h hu⟩|l h _ _=>exact⟨.none_list h hu,.none_list h hu⟩
 |b a=>
  cases b with
  |n=>exact⟨.bool_none a,.bool_none a⟩|b b=>exact⟨.bool_bool a b,.bool_bool a b⟩|int b t=>exact⟨.bool_int a b t,.bool_int a b t⟩|str b t=>exact⟨.bool_str a b t,.bool_str a b t⟩|t h _ _=>exact⟨.bool_tuple a h hu,.bool_tuple a h hu⟩|l h _ _=>exact⟨.bool_list a h hu,.bool_list a h hu⟩
 |int a t=>
  cases b with
  |n=>exact⟨.int_none a t,.int_none a t⟩|b b=>exact⟨.int_bool a t b,.int_bool a t b⟩|int b k=>exact⟨.int_int a t b k,.int_int a t b k⟩|str b k=>exact⟨.int_str a t b k,.int_str a t b k⟩|t h _ _=>exact⟨.int_tuple a t h hu,.int_tuple a t h hu⟩|l h _ _=>exact⟨.int_list a t h hu,.int_list a t h hu⟩
 |str a t=>
  cases b with
  |n=>exact⟨.str_none a t,.str_none a t⟩|b b=>exact⟨.str_bool a t b,.str_bool a t b⟩|int b k=>exact⟨.str_int a t b k,.str_int a t b k⟩|str b k=>exact⟨.str_str a t b k,.str_str a t b k⟩|t h _ _=>exact⟨.str_tuple a t h hu,.str_tuple a t h hu⟩|l h _ _=>exact⟨.str_list a t h hu,.str_list a t h hu⟩
 |t g _ _=>
  cases b with
  |n=>exact⟨.tuple_none g hu,.tuple_none g hu⟩|b b=>exact⟨.tuple_bool b g hu,.tuple_bool b g hu⟩|int b k=>exact⟨.tuple_int b k g hu,.tuple_int b k g hu⟩|str b k=>exact⟨.tuple_str b k g hu,.tuple_str b k g hu⟩|l h _ _=>exact⟨.tuple_list g h hu,.tuple_list g h hu⟩|t _ _ _=>exact(n1 _ _ bO bO).elim
 |l g _ _=>
  cases b with
  |n=>exact⟨.list_none g hu,.list_none g hu⟩|b b=>exact⟨.list_bool b g hu,.list_bool b g hu⟩|int b k=>exact⟨.list_int b k g hu,.list_int b k g hu⟩|str b k=>exact⟨.list_str b k g hu,.list_str b k g hu⟩|t h _ _=>exact⟨.list_tuple g h hu,.list_tuple g h hu⟩|l _ _ _=>exact(n2 _ _ bO bO).elim
def Ae(I:bR X pc Y H s)(sb:bT F H)(hn:n<1000):∀(A:gK) (d e:D) (x y:V) (u v:bJ),gT d<=n->lJ e->A.units+n<lD->bM X.K F d x->bM X.K F e y->cX x u->cX y v->Ey A s u v (jO d e)/\g9 A s u v (jO d e):=by
 induction n with
 |zero=>intro A d e x y u v hd z2 hu h1 h2 r1 r2;have z1:lJ d:=wk hd hn;refine uf hu (Vw.of I sb z1 h1 r1) (Vw.of I sb z2 h2 r2) (λ_ _ z=>?_) λ_ _ z=>?_<;>(subst z;rw[gT]at hd;cases hd)
 |succ n ih=>
  intro A d e x y u v hd z2 hu h1 h2 r1 r2;have z1:lJ d:=wk hd hn;have hu0:A.units<lD:=cI;have hu1:A.in1.units+n<lD:=by show A.units+1+n<lD;lia
  have w1:=Vw.of I sb z1 h1 r1;have w2:=Vw.of I sb z2 h2 r2;have key:∀{ds es:bA D} {xs ys:bA V} {its its2:bA bJ},depL ds+1<=n+1->depL es<1000->DatL X.K F ds xs->cW xs its->DatL X.K F es ys->cW ys its2->∀(j:bD) (w1:j<its.toArray.size) (w2:j<its2.toArray.size),g9 A.in1 s its.toArray[j] its2.toArray[j] (xT ds es j):=
   λq=>GB (λd e x y u v q z a b c f=>(ih cI A.in1 d e x y u v q z hu1 a b c f).2) (Nat.le_of_succ_le_succ q)
  clear ih;cases w1 with
  |t g1 k1 l1=>
   cases w2 with
   |t g2 k2 l2=>refine(λR1=>⟨R1,GC I sb z1 z2 h1 h2 r1 r2 R1⟩) ?_;unfold lJ at z2;rw[gT]at hd z2;have z:=SeqAt.RcAt.tuples g1 g2 hu0 (key hd cI l1 k1 l2 k2);rw[gQ,gQ, <-k1.length, <-k2.length, <-l1.length, <-l2.length, <-ud]at z;rw[jO];exact z|_=>exact uf hu0 (.t g1 k1 l1) (Vw.of I sb z2 h2 r2) (λ_ _ _ z=>by cases z) λ_ _ z=>by cases z
  |l g1 k1 l1=>
   cases w2 with
   |l g2 k2 l2=>
    refine(λR1=>⟨R1,GC I sb z1 z2 h1 h2 r1 r2 R1⟩) ?_;unfold lJ at z2;rw[gT]at hd z2;have key:=key hd cI l1 k1 l2 k2;rw[jO,ud,l1.length.trans k1.length,l2.length.trans k2.length];rename_i its1 _ _ _ its2;by_cases hz:its1.length=its2.length
    .have z:=SeqAt.RcAt.lists g1 g2 (by simpa using hz) hu0 key;rw[gQ]at z;rw[qW.mpr hz,DV, <-hz,Nat.min_self];exact z
    .rw[lE.mpr hz,L7];exact SeqAt.RcAt.lists_lengths (A:=A) (s:=s) g1 g2 (by simpa using hz) hu0
   |_=>exact uf hu0 (.l g1 k1 l1) (Vw.of I sb z2 h2 r2) (λ_ _ z=>by cases z) λ_ _ _ z=>by cases z
  |_=>exact uf hu0 (Vw.of I sb z1 h1 r1) w2 (λ_ _ z=>by cases z) λ_ _ z=>by cases z
section
variable{a b c:Expr}{g h:ME}{m:D->D->bP D}
def cY(d e:D):bP D:=if gT d<=100/\gT e<=100 then .ok (.b (jO d e))else .bad
def Q5(hu:X.A.units+100<lD):dQ X (hJ .Eq) (rD X cY):=by
 intro pc s Y H x y v u Q I rx ry h;obtain⟨F,d1,d2,sb,h1,h2,q⟩:=h;unfold cY at q;split at q
 .rename_i hd;have R1:=(Ae (n:=100) I sb jB X.A d1 d2 x y v u hd.1 (by unfold lJ;lia) hu h1 h2 rx ry).1;exact R1 X.prog X.w X.xe _ ⟨.b _,H,I,rfl,dE q sb (by simp only[bM])⟩
 .cases q
def zP(d:D)(ds:bA D):bU:=ds.any λe=>jO e d
def dU(neg:bU)(d:D):D->bP D
 | .t ds=>if depL ds<=100/\gT d<=100 then .ok (.b (if neg then !zP d ds else zP d ds))else .bad| .l ds=>if depL ds<=100/\gT d<=100 then .ok (.b (if neg then !zP d ds else zP d ds))else .bad| .dct ks _=>match d with
  | .str k=>.ok (.b (neg != ks.contains k))|_=>.bad
 |_=>.bad
def qJ(K:cD)(F:Hp)(d:D)(u:bJ):bU:=by
 classical
 exact if h:∃e x,lJ e/\cX x u/\bM K F e x then jO h.choose d else bH
def GD(I:bR X pc Y H s)(sb:bT F H){d e:D}{x:V}{u:bJ}(z:lJ e)(r:cX x u)(h:bM X.K F e x):qJ X.K F d u=jO e d:=by
 classical
 have hx:∃e x,lJ e/\cX x u/\bM X.K F e x:=⟨e,x,z,r,h⟩;unfold qJ;rw[dif_pos hx];obtain⟨x',z',r',h'⟩:=hx.choose_spec;have:x'=x:=r'.inj r;subst this;rw[bM.inj I sb z' z h' h]
theorem mn(I:bR X pc Y H s)(sb:bT F H){d:D}:∀{ds:bA D} {xs:bA V} {us:bA bJ},depL ds<1000->DatL X.K F ds xs->cW xs us->us.any (qJ X.K F d)=zP d ds
 | [],_,_,_,h,r=>by simp only[DatL]at h;subst h;cases r;rfl|e::ds,_,_,z,h,r=>by
  rw[depL]at z;simp only[DatL]at h;obtain⟨x,xs,rfl,h1,h2⟩:=h;cases r with
  |cons r1 r2=>rw[az,GD I sb (by unfold lJ;lia) r1 h1,mn I sb cI h2 r2];rfl
def Q6{ks:bA Str}{k:Str}(h:kvs.map (·.1)=ks.map .inr):ks.contains k=(pU kvs (.inr k)).isSome:=by
 rw[<-zp];induction kvs generalizing ks with
 |nil=>cases ks with
  |nil=>rfl|cons _ _=>cases h
 |cons p r ih=>
  cases ks with
  |nil=>cases h|cons y ks=>
   rw[dY,dY,p0]at h;rw[List.contains_cons,az,ih h.2,h.1];congr 1;by_cases z:k=y
   .subst z;simp
   .have: ¬ y=k:=λq=>z q.symm
    simp[z,this]
def GE(hu:X.A.units+200<lD):dQ X (hJ (if neg then .NotIn else .In)) (rD X (dU neg)):=by
 intro pc s Y H x y v u Q I rx ry h;obtain⟨F,d1,d2,sb,h1,h2,q⟩:=h;have key:∀(ds:bA D) (xs:bA V) (its:bA bJ),DatL X.K F ds xs->cW xs its->depL ds<=100/\gT d1<=100->∀w∈its.toArray,g9 X.A.in1 s w v (qJ X.K F d1 w):=λds xs its hl r hz w hw=>by
  have hw':w∈its:=by simpa using hw
  obtain⟨j,hj⟩:=List.getElem?_of_mem hw';obtain⟨x',hx',rx'⟩:=l7 r hj;obtain⟨e,he,hd⟩:=l7 hl.paired hx';have hm:=ue he;rw[GD I sb (by unfold lJ;lia) rx' hd];exact(Ae (n:=100) I sb jB X.A.in1 e d1 x' x w v cI (by unfold lJ;lia) (by show X.A.units+1+100<lD;lia) hd h1 rx' rx).2
 cases d2 with
 |t ds=>
  simp only[bM]at h2;obtain⟨p,xs,rfl,g1,l1⟩:=h2;cases ry;simp only[dU]at q;split at q
  .rename_i hz;obtain⟨its,r,pl,_⟩:=I.tuple (bT.seqT sb g1);cases neg with|false=>refine SeqAt.in_tupleAt (qJ X.K F d1) pl (key ds xs its l1 r hz) ⟨.b _,H,I,rfl,?_⟩;rw[show its.toArray.any (qJ X.K F d1)=its.any (qJ X.K F d1) by simp,mn I sb cI l1 r];exact dE q sb (by simp only[bM];rfl)|true=>refine SeqAt.notIn_tupleAt (qJ X.K F d1) pl (key ds xs its l1 r hz) ⟨.b _,H,I,rfl,?_⟩;rw[show its.toArray.any (qJ X.K F d1)=its.any (qJ X.K F d1) by simp,mn I sb cI l1 r];exact dE q sb (by simp only[bM];rfl)
  .cases q
 |l ds=>
  simp only[bM]at h2;obtain⟨p,xs,rfl,g1,l1⟩:=h2;cases ry;simp only[dU]at q;split at q
  .rename_i hz;obtain⟨its,r,pl,_⟩:=I.list (bT.seq sb g1);cases neg with|false=>refine SeqAt.in_listAt (qJ X.K F d1) pl.isList (key ds xs its l1 r hz) ⟨.b _,H,I,rfl,?_⟩;rw[show its.toArray.any (qJ X.K F d1)=its.any (qJ X.K F d1) by simp,mn I sb cI l1 r];exact dE q sb (by simp only[bM];rfl)|true=>refine SeqAt.notIn_listAt (qJ X.K F d1) pl.isList (key ds xs its l1 r hz) ⟨.b _,H,I,rfl,?_⟩;rw[show its.toArray.any (qJ X.K F d1)=its.any (qJ X.K F d1) by simp,mn I sb cI l1 r];exact dE q sb (by simp only[bM];rfl)
  .cases q
 |dct ks ds=>
  cases d1 with
  |str k=>
   simp only[bM]at h1 h2;obtain⟨rfl,_⟩:=h1;obtain⟨p,kvs,rfl,g1,g2,_⟩:=h2;cases ry;have g:=aT.k (k:=.inr k) (sb _ _ g1);have e:(pU kvs (.inr k)).isSome=ks.contains k:=by rw[<-Q6 g2]
   cases neg with
   |false=>exact PZ cI I g rx λs' I'=>⟨.b _,H,I',rfl,by rw[e];exact dE q sb (by simp only[bM];simp)⟩|true=>exact P0 cI I g rx λs' I'=>⟨.b _,H,I',rfl,by rw[e];exact dE q sb (by simp only[bM];simp)⟩
  |_=>exact q.elim
 |_=>exact q.elim
noncomputable def mL(T:Tab)(k:Str):bQ D:=(T.find? λp=>cN (p.1=k)).map (·.2)
section
variable{T:Tab}
def Af{a b:Str}(e: ¬ a=b): ¬ (c0 a:dO)= .inr b:=λz=>e (by injection z)
def jN.length(h:jN K F T kvs):T.length=kvs.length:=gq h
def jN.val(h:jN K F T kvs)(k:Str):(mL T k=bK/\pU kvs (.inr k)=bK)\/ ∃d v,mL T k=bB d/\pU kvs (.inr k)=bB v/\bM K F d v:=by
 unfold jN at h;induction h with
 |nil=>exact .inl ⟨rfl,rfl⟩| @cons p q ps qs h t ih=>
  obtain⟨h1,h2⟩:=h;by_cases e:p.1=k
  .exact .inr ⟨p.2,q.2,by simp[mL,wX,e],so (by rw[h1,e]),h2⟩
  .rw[sr (by rw[h1];exact Af e)];have e2:mL (p::ps) k=mL ps k:=by simp[mL,wX,e]
   rw[e2];exact ih
theorem Ag:∀{ks:bA Str} {ds:bA D} {kvs:bA (dO×V)},kvs.map (·.1)=ks.map .inr->DatL K F ds (kvs.map (·.2))->jN K F (ks.zip ds) kvs| [],[],[],_,_=>.nil| [],_::_,[],_,h=>by simp only[DatL]at h;obtain⟨_,_,h,_⟩:=h;cases h| [],_,_::_,h,_=>by cases h|_::_,_,[],h,_=>by cases h|_::_,[],_::_,_,h=>by simp only[DatL]at h;cases h|k::ks,d::ds,p::kvs,h,h'=>by rw[dY,dY,p0]at h;simp only[DatL]at h';obtain⟨x,r,e,h1,h2⟩:=h';cases e;exact .cons ⟨h.1,h1⟩ (Ag h.2 h2)
noncomputable def dR(T:Tab):D:=.dct (T.map (·.1)) (T.map (·.2))
def Q7(h:jN K F T kvs):kvs.map (·.1)=(T.map (·.1)).map .inr/\DatL K F (T.map (·.2)) (kvs.map (·.2)):=by
 unfold jN at h;induction h with
 |nil=>exact⟨rfl,DatL.nil⟩| @cons p q ps qs h t ih=>exact⟨by rw[dY,dY,dY,ih.1,h.1],DatL.cons h.2 ih.2⟩
end
def Q8{w:cF}{value slice:Expr}{o i:bJ}{T id:lB}(hT:s.TypeIs o T)(hl:Ec (.type T) "__getitem__" =fE (bB (.builtin id)))(h:wpAny (cA prog w) A (yW o i) Q E s)
 (hs:xl slice bH o i=operate [o,i] (yW o i)):wpAny (cA prog w) A (xc value slice o i) Q E s:=by
 unfold xc;refine bV ?_;rw[getitemInPython_of_ne hT.not_modules];refine bV (wpAny_specialOf hT hl ?_);have fO:wpAny (cA prog w) A (xl slice bH o i) (λr s₃=>wpAny (cA prog w) A (letTemporaryGo value o r>>=λ_=>fE r) Q E s₃) E s:=by rw[hs];exact wpAny_operating (lT h (λr s₃ h₃=>bV (wpAny_letTemporaryGo (dM h₃))) λ_ _ x=>x)
 first
  |exact dM (bV fO)
  |exact bV (dM (bV fO))
  |exact bV fO
def cV:D->D->bP D
 | .t ds,.int i=>match mY ds i with
  |some d=>.ok d|none=>.bad
 | .l ds,.int i=>match mY ds i with
  |some d=>.ok d|none=>.bad
 | .str z,.int i=>match mY z.cps.toList i with
  |some c=>.ok (.str ⟨#[c]⟩)|none=>.bad
 | .dct ks vs,.str k=>match mL (ks.zip vs) k with
  |some d=>.ok d|none=>.bad
 |_,_=>.bad
def GF{xs:bA α}{ys:bA β}(h:xs.length=ys.length){i:bG}{x:α}(e:mY xs i=some x):∃j:bD,xs[j]? =some x/\mY ys i=ys[j]? :=by
 unfold mY at e|-;rw[<-h];cases q:dr xs.length i with
 |none=>rw[q]at e;cases e|some j=>rw[q]at e;exact⟨j,e,rfl⟩
def Q9(hu:X.A.units+1<lD):eh X (rD X cV):=by
 intro value slice pc s Y H x y v u Q I rx ry h hs;obtain⟨F,d1,d2,sb,h1,h2,q⟩:=h;cases d1<;>cases d2<;>try exact q.elim
 .rename_i z i;simp only[bM]at h1 h2;obtain⟨rfl,hz⟩:=h1;subst h2;simp only[cV]at q;split at q
  .rename_i c hc;exact PB value slice pc s Y H _ _ v u Q I rx ry ⟨z,i,c,rfl,rfl,hz,hc,dE q sb (by simp only[bM];exact⟨trivial,by show 1<=cJ;decide⟩)⟩ hs
  .cases q
 .rename_i ds i;simp only[bM]at h1 h2;obtain⟨p,xs,rfl,g1,l1⟩:=h1;subst h2;simp only[cV]at q;split at q
  .rename_i d hd;obtain⟨j,e1,e2⟩:=GF l1.length hd;obtain⟨x,hx,dx⟩:=vE l1.paired e1;exact ix_tup value slice pc s Y H _ _ v u Q I rx ry ⟨p,xs,i,x,rfl,rfl,bT.seqT sb g1,e2.trans hx,dE q sb dx⟩ hs
  .cases q
 .rename_i ds i;simp only[bM]at h1 h2;obtain⟨p,xs,rfl,g1,l1⟩:=h1;subst h2;simp only[cV]at q;split at q
  .rename_i d hd;obtain⟨j,e1,e2⟩:=GF l1.length hd;obtain⟨x,hx,dx⟩:=vE l1.paired e1;exact Pz value slice pc s Y H _ _ v u Q I rx ry ⟨p,xs,i,x,rfl,rfl,bT.seq sb g1,e2.trans hx,dE q sb dx⟩ hs
  .cases q
 .rename_i ks ds k;simp only[bM]at h1 h2;obtain⟨p,kvs,rfl,g1,g2,g3⟩:=h1;obtain⟨rfl,_⟩:=h2;simp only[cV]at q;split at q
  .rename_i d hd;rcases(Ag g2 g3).val k with⟨z,_⟩|⟨d',v',z1,z2,z3⟩
   .rw[hd]at z;cases z
   .rw[hd]at z1;cases z1;cases(show v=jT p from rx);have g:=aT.k (k:=.inr k) (sb _ _ g1);refine Q8 (P4 I g) PySem.F.slot_dict_getitem.lookup (PY hu I (by rw[<-z2];exact g) ry λw' s' I' r'=>⟨v',H,I',r',dE q sb z3⟩) hs
  .cases q
def Ra(hu:X.A.units+1<lD)(ha:IE X a f)(hb:IE X b g)(hs:sk b:=by intro _ _;rfl):IE X (.Subscript a b pos) (m2 cV f g):=Qo (Q9 hu) ua ha hb hs
noncomputable def fS:bA D->bP D| [.str z]=>.ok (.int z.length)| [.t ds]=>.ok (.int ds.length)| [.l ds]=>.ok (.int ds.length)| [.dct ks _]=>.ok (.int ks.length)|_=>.bad
def mM{d:D}(h:DatL K F [d] xs):∃x,xs= [x]/\bM K F d x:=by simp only[DatL]at h;obtain⟨x,r,rfl,h1,rfl⟩:=h;exact⟨x,rfl,h1⟩
def Ah:jE X (.builtin "len") (sZ X fS):=by
 intro pc s Y H xs us Q I r h;obtain⟨F,ds,sb,hl,q⟩:=h;unfold fS at q;split at q
 .rename_i z;obtain⟨x,rfl,hx⟩:=mM hl;simp only[bM]at hx;obtain⟨rfl,hz⟩:=hx;exact PJ pc s Y H _ us Q I r ⟨z,rfl,hz,dE q sb (by simp only[bM])⟩
 .rename_i es;obtain⟨x,rfl,hx⟩:=mM hl;simp only[bM]at hx;obtain⟨p,ys,rfl,g1,l1⟩:=hx;refine FJ pc s Y H _ us Q I r ⟨p,ys,rfl,.inr (bT.seqT sb g1),?_⟩;rw[<-l1.length];exact dE q sb (by simp only[bM])
 .rename_i es;obtain⟨x,rfl,hx⟩:=mM hl;simp only[bM]at hx;obtain⟨p,ys,rfl,g1,l1⟩:=hx;refine FJ pc s Y H _ us Q I r ⟨p,ys,rfl,.inl (bT.seq sb g1),?_⟩;rw[<-l1.length];exact dE q sb (by simp only[bM])
 .obtain⟨x,rfl,hx⟩:=mM hl;simp only[bM]at hx;obtain⟨p,kvs,rfl,g1,g2,_⟩:=hx;refine Qe pc s Y H _ us Q I r ⟨p,kvs,rfl,sb _ _ g1,?_⟩;rw[<-cG (f:=(·.1)) (as:=kvs),g2,cG];exact dE q sb (by simp only[bM])
 .cases q
noncomputable def sD:bA D->bP D| [.t ds]=>.ok (.l ds)| [.l ds]=>.ok (.l ds)|_=>.bad
def GH:jE X (.type "list") (sZ X sD):=by
 intro pc s Y H xs us Q I r h;obtain⟨F,ds,sb,hl,q⟩:=h;unfold sD at q;split at q
 .obtain⟨x,rfl,hx⟩:=mM hl;simp only[bM]at hx;obtain⟨p,ys,rfl,g1,l1⟩:=hx;exact FK pc s Y H _ us Q I r ⟨p,ys,rfl,.inr (bT.seqT sb g1),λl hl=>iJ q sb l1 hl⟩
 .obtain⟨x,rfl,hx⟩:=mM hl;simp only[bM]at hx;obtain⟨p,ys,rfl,g1,l1⟩:=hx;exact FK pc s Y H _ us Q I r ⟨p,ys,rfl,.inl (bT.seq sb g1),λl hl=>iJ q sb l1 hl⟩
 .cases q
noncomputable def lK:bA D->bP D| [.t ds]=>.ok (.t ds)| [.l ds]=>.ok (.t ds)|_=>.bad
def GI:jE X (.type "tuple") (sZ X lK):=by
 intro pc s Y H xs us Q I r h;obtain⟨F,ds,sb,hl,q⟩:=h;unfold lK at q;split at q
 .obtain⟨x,rfl,hx⟩:=mM hl;have hx':=hx;simp only[bM]at hx;obtain⟨p,ys,rfl,g1,l1⟩:=hx;exact FL pc s Y H _ us Q I r ⟨p,ys,rfl,.inr ⟨bT.seqT sb g1,dE q sb hx'⟩⟩
 .obtain⟨x,rfl,hx⟩:=mM hl;simp only[bM]at hx;obtain⟨p,ys,rfl,g1,l1⟩:=hx;exact FL pc s Y H _ us Q I r ⟨p,ys,rfl,.inl ⟨bT.seq sb g1,λl hl=>iI q sb l1 hl⟩⟩
 .cases q
noncomputable def vI:bA D->bP D| [.int i]=>if i.natAbs<2^64 then .ok (.str (qt i))else .bad| [.str z]=>.ok (.str z)|_=>.bad
end
end
section
variable [fZ] [Pd]
noncomputable def Ai(z:Str):It:=⟨λi _=>i<z.length,λi H x H'=>H'=H/\ ∃c,z.cps[i]? =bB c/\x= .str ⟨#[c]⟩,λi _=>z.length<=i⟩
def Rb{w:cF}(z:Str)(t:lG)(it:bI):zG P w K tg (Ai z) [it] it (λi h=>h.IsStrIter it "str_ascii_iterator" z t i)where
 mem:=cO
 obj:=λi h st b hb=>by
  have e:b=it:=by simpa using hb
  subst e;obtain⟨o,e,c,d⟩:=st;exact⟨o,e,λv z=>by rw[d]at z;cases z⟩
 keep:=λi h h' st k=>let ⟨o,ho,r⟩:=st;⟨o,k it cO o ho,r⟩
 item:=by
  intro X hP hw hK hc i pc s Y H E I hf st hg;subst hP hw hK;obtain⟨f0,f1,f2,f3,f4,f5⟩:=hf it cO;have hi:i<z.length:=hg;have hx:z.cps[i]? =bB z.cps[i]:=KQ hi;refine wpAny_pyNext_ascii_item st hx λh' st' sb=>?_
  have I1:bR X pc Y H {s with heap:=h',toks:=s.toks+1}:=I.turned (λb o hb e=>(sb.2 b hb).trans e) f0 f1 f3 f4 f5;obtain⟨o,e,c,d⟩:=id st';exact⟨_,rfl,lg (s:={s with heap:=h',toks:=s.toks+1}) e c d jB ⟨.str ⟨#[z.cps[i]]⟩,H,I1,⟨_,rfl⟩,⟨rfl,_,hx,rfl⟩,st',λb hb=>(hf b hb).1⟩⟩
 done:=by intro X hP hw hK hc i pc s Y H E I hf st hg;subst hP hw hK;obtain⟨f0,f1,f2,f3,f4,f5⟩:=hf it cO;have hi:z.length<=i:=hg;exact wpAny_pyNext_ascii_end (I.ok.hd hc) st (Ds hi) λh' eb=>⟨rfl,I.turned (t':=s.toks) (λb o hb e=>eb b o hb e) f0 f1 f3 f4 f5⟩
 self:=λ_ _ _ _ _ st h=>wpAny_pyIter_striter_ascii st h
def Re{w:cF}(z:Str)(t:lG)(it:bI):zG P w K tg (Ai z) [it] it (λi h=>h.IsStrIter it "str_iterator" z t i)where
 mem:=cO
 obj:=λi h st b hb=>by
  have e:b=it:=by simpa using hb
  subst e;obtain⟨o,e,c,d⟩:=st;exact⟨o,e,λv z=>by rw[d]at z;cases z⟩
 keep:=λi h h' st k=>let ⟨o,ho,r⟩:=st;⟨o,k it cO o ho,r⟩
 item:=by
  intro X hP hw hK hc i pc s Y H E I hf st hg;subst hP hw hK;obtain⟨f0,f1,f2,f3,f4,f5⟩:=hf it cO;have hi:i<z.length:=hg;have hx:z.cps[i]? =bB z.cps[i]:=KQ hi;refine wpAny_pyNext_wide_item st hx λh' st' sb=>?_
  have I1:bR X pc Y H {s with heap:=h',toks:=s.toks+1}:=I.turned (λb o hb e=>(sb.2 b hb).trans e) f0 f1 f3 f4 f5;obtain⟨o,e,c,d⟩:=id st';exact⟨_,rfl,lg (s:={s with heap:=h',toks:=s.toks+1}) e c d jB ⟨.str ⟨#[z.cps[i]]⟩,H,I1,⟨_,rfl⟩,⟨rfl,_,hx,rfl⟩,st',λb hb=>(hf b hb).1⟩⟩
 done:=by intro X hP hw hK hc i pc s Y H E I hf st hg;subst hP hw hK;obtain⟨f0,f1,f2,f3,f4,f5⟩:=hf it cO;have hi:z.length<=i:=hg;exact wpAny_pyNext_wide_end (I.ok.hd hc) st (Ds hi) λh' eb=>⟨rfl,I.turned (t':=s.toks) (λb o hb e=>eb b o hb e) f0 f1 f3 f4 f5⟩
 self:=λ_ _ _ _ _ st h=>wpAny_pyIter_striter_wide st h
def rH(K:cD)(F:Hp)(J:It)(ds:bA D):Prop:=∀n F2 H2,bT F F2->bT F2 H2->
 (∀d,ds[n]? =bB d->J.go n H2/\ ∀x H',J.yld n H2 x H'->∃F',cL F2 H2 F' H'/\bM K F' d x)/\(n=ds.length->J.stop n H2)
abbrev ML:=cS->bP (bA D)
noncomputable def tI(X:Cx)(f:ML):TI:=λY H R=>∃O F,hV X.K F H O Y/\match f O with| .ok ds=>∀J F' H',cL F H F' H'->rH X.K F' J ds->R J H'| .bad=>jF
def II(X:Cx)(tg iter:Expr)(f:ML):Prop:=PI X tg iter (tI X f)
noncomputable def aY(z:Str):bA D:=z.cps.toList.map λc=>.str ⟨#[c]⟩
noncomputable def eB:D->bP (bA D)| .t ds=>.ok ds| .l ds=>.ok ds| .str z=>.ok (aY z)|_=>.bad
def Rf{t t':TI}(h:PI X tg iter t)(i:∀Y H R,t' Y H R->t Y H R):PI X tg iter t':=λpc s Y H R I hq=>h pc s Y H R I (i Y H R hq)
def Rg{a:bI}(h:jH K F a xs)(l:DatL K F ds xs):rH K F (EZ K a) ds:=λn F2 H2 s1 s2=>by have hq:jH K H2 a xs:=bT.seqT s2 (bT.seqT s1 h);refine⟨λd hd=>?_,λhn=>⟨xs,hq,by rw[<-l.length,hn];exact cZ _⟩⟩;obtain⟨x,hx,dx⟩:=vE l.paired hd;refine⟨⟨xs,x,hq,hx⟩,λx' H' y=>?_⟩;obtain⟨rfl,y⟩:=y;have e:=y xs hq;rw[hx]at e;cases e;exact⟨F2,.refl s2,dx.mono s1⟩
def Rh{a:bI}(h:gS K F a xs)(l:DatL K F ds xs):rH K F (EY K a) ds:=λn F2 H2 s1 s2=>by have hq:gS K H2 a xs:=bT.seq s2 (bT.seq s1 h);refine⟨λd hd=>?_,λhn=>⟨xs,hq,by rw[<-l.length,hn];exact cZ _⟩⟩;obtain⟨x,hx,dx⟩:=vE l.paired hd;refine⟨⟨xs,x,hq,hx⟩,λx' H' y=>?_⟩;obtain⟨rfl,y⟩:=y;have e:=y xs hq;rw[hx]at e;cases e;exact⟨F2,.refl s2,dx.mono s1⟩
def GJ:rH K F (Ai z) (aY z):=λn F2 H2 s1 s2=>by
 have hl:(aY z).length=z.length:=by unfold aY;rw[cG];rfl
 refine⟨λd hd=>?_,λhn=>by show z.length<=n;lia⟩;have hn:n<z.length:=by rw[<-hl];exact(rS.mp hd).1
 refine⟨hn,λx' H' y=>?_⟩;obtain⟨rfl,c,hc,rfl⟩:=y;unfold aY at hd;rw[pB,Array.getElem?_toList,hc]at hd;cases hd;exact⟨F2,.refl s2,by simp only[bM];exact⟨trivial,by show 1<=cJ;decide⟩⟩
def Ri{lo:bG}:rH K F (se lo k) (upTo lo k):=λn F2 H2 s1 s2=>by
 have hl:(upTo lo k).length=k:=by unfold upTo;rw[cG,vV]
 refine⟨λd hd=>?_,λhn=>by show k<=n;lia⟩;have hn:n<k:=by rw[<-hl];exact(rS.mp hd).1
 refine⟨hn,λx' H' y=>?_⟩;obtain⟨rfl,rfl⟩:=y;unfold upTo at hd;rw[pB,Lm hn]at hd;cases hd;exact⟨F2,.refl s2,by simp only[bM]⟩
def fA(f:ME):ML:=λO=>(f O).bind eB
def ug(he:IE X iter f):II X tg iter (fA f):=by
 rintro pc s Y H R I ⟨O,F,E,q⟩
 have hp:=he pc s Y H (λx H1=>∃F1 d ds,cL F H F1 H1/\bM X.K F1 d x/\eB d= .ok ds/\ ∀J F' H',cL F H F' H'->rH X.K F' J ds->R J H') I ⟨O,F,E,by
  unfold fA at q;revert q;cases f O with
  |ok d=>
   intro q v F1 H1 g1 d1;revert q
   show(match eB d with
    | .ok ds=>∀J F' H',cL F H F' H'->rH X.K F' J ds->R J H'
    | .bad=>jF)->_
   cases hd:eB d with
   |ok ds=>exact λq=>⟨F1,d,ds,g1,d1,hd,q⟩|bad=>exact λq=>q.elim
  |bad=>exact kX⟩
 refine cT hp λv s1 qz=>?_
 obtain⟨x,H1,I1,r1,F1,d,ds,g1,d1,hd,q⟩:=qz;cases d<;>try cases hd
 .rename_i z;simp only[bM]at d1;obtain⟨rfl,hz⟩:=d1;obtain⟨t,rfl⟩:=r1;cases ha:z.cps.all (· <128)
  .refine wpAny_pyIter_wide ha ?_;refine⟨s1.heap.objs.size,[s1.heap.objs.size],_,_,H1,rfl,I1.kept (t':=s1.toks) λb o e=>fC _ e,Re z t _,⟨_,lA _ rfl,rfl,rfl⟩,λb hb=>?_,q _ F1 H1 g1 GJ⟩;have e:b=s1.heap.objs.size:=by simpa using hb
   subst e;exact I1.fpOk (cZ _) (I1.hok.fresh (cZ _))
  .refine wpAny_pyIter_ascii ha ?_;refine⟨s1.heap.objs.size,[s1.heap.objs.size],_,_,H1,rfl,I1.kept (t':=s1.toks) λb o e=>fC _ e,Rb z t _,⟨_,lA _ rfl,rfl,rfl⟩,λb hb=>?_,q _ F1 H1 g1 GJ⟩;have e:b=s1.heap.objs.size:=by simpa using hb
   subst e;exact I1.fpOk (cZ _) (I1.hok.fresh (cZ _))
 .simp only[bM]at d1;obtain⟨a,xs,rfl,hq,hl⟩:=d1;cases r1;obtain⟨its,rv,p,hz⟩:=I1.tuple (bT.seqT g1.sub hq);refine gi (show s1.heap.IsTuple a its.toArray from p) ?_;refine⟨s1.heap.objs.size,[s1.heap.objs.size],_,_,H1,rfl,I1.kept (t':=s1.toks) λb o e=>fC _ e,NV a _,⟨_,lA _ rfl,rfl,rfl⟩,λb hb=>?_,q _ F1 H1 g1 (Rg hq hl)⟩;have e:b=s1.heap.objs.size:=by simpa using hb
  subst e;exact I1.fpOk (cZ _) (I1.hok.fresh (cZ _))
 .simp only[bM]at d1;obtain⟨a,xs,rfl,hq,hl⟩:=d1;cases r1;obtain⟨its,rv,p,hz⟩:=I1.list (bT.seq g1.sub hq);refine gj p.isList ?_;refine⟨s1.heap.objs.size,[s1.heap.objs.size],_,_,H1,rfl,I1.kept (t':=s1.toks) λb o e=>fC _ e,NU a _,⟨_,lA _ rfl,rfl,rfl⟩,λb hb=>?_,q _ F1 H1 g1 (Rh hq hl)⟩;have e:b=s1.heap.objs.size:=by simpa using hb
  subst e;exact I1.fpOk (cZ _) (I1.hok.fresh (cZ _))
noncomputable def zQ:D->bP (bA D)| .int j=>if-(2^62)<=j/\j<2^62 then .ok (upTo 0 j.toNat)else .bad|_=>.bad
def kG(f:ME):ML:=λO=>(f O).bind zQ
def Rj{a:Expr}{cpos:dJ}(hgl:Gl X "range")(hm:X.mg "range" =bK)(hi:IE X a f)(hst:fK [a] X.env= [(bH,dX a X.env)]:=by rfl):II X tg (.Call (.Name "range" p) [a] [] cpos) (kG f):=
 Rf (NZ hgl hm (nT hi sW hst) hst) λY H R qz=>by
  obtain⟨O,F,E,q⟩:=qz;refine⟨O,F,E,?_⟩;unfold kG at q;revert q;cases f O with
  |ok d=>
   intro q v F1 H1 g1 d1;cases d with
   |int j=>
    simp only[bM]at d1;subst d1;by_cases hj: -(2^62)<=j/\j<2^62
    .have e:(bP.ok (D.int j)).bind zQ= .ok (upTo 0 j.toNat):=by show zQ (.int j)=_;simp only[zQ];rw[cK hj]
     rw[e]at q;exact⟨j,rfl,hj.1,hj.2,q _ F1 H1 g1 Ri⟩
    .have e:(bP.ok (D.int j)).bind zQ= .bad:=by show zQ (.int j)=_;simp only[zQ];rw[dH hj]
     rw[e]at q;cases q
   |_=>exact q.elim
  |bad=>exact kX
def jP(i:bD)(fl:ML)(body:MS):MS:=λO=>(fl O).bind λds=>gD i body ds O
def GK{fl:ML}(hc:X.calm=bC)(hp:kf (cA X.prog X.w) X.A X.env X.xe)(hi:II X tg iter fl)(hg:PG X tg (qZ i))(hb:mF X body u)(hs:∀x,ar iter X.env x=fE x:=by intro _;rfl):
 IS X (.For tg iter body [] pos) (jP i fl u):=λFa Ha=>mC (E3 hp hc hi hg (Gj (Ha:=Ha) hb) hs) λE Y H ⟨O,F,S,q⟩=>by
 refine⟨O,F,S.env,?_⟩;unfold jP at q;revert q;cases fl O with
 |ok ds=>
  intro q J F1 H1 g1 it;have S1:=S.grow g1;refine⟨λn m σ' H'=>m=ds.length-n/\n<=ds.length/\ ∃ρ' F',SR X.K F1 Ha F' H' ρ' σ'/\kF X F1 Ha (gD i u (ds.drop n) ρ') E,⟨_,rfl,mK _,O,F1,S1.here,kF.here S1.gr q⟩,?_⟩;rintro n m σ' H' ⟨rfl,hn,ρ',F',S',q'⟩;obtain⟨h1,h2⟩:=it n F' H' S'.gr.fs S'.env.sub;by_cases hlt:n<ds.length
  .have hd:ds[n]? =bB ds[n]:=nO hlt;obtain⟨go,yl⟩:=h1 _ hd;refine .inr ⟨go,λY H=>∃O F',SR X.K F1 Ha F' H O Y/\kF X F1 Ha (gD i u (ds.drop (n+1)) O) E,λσ2 H2 h=>⟨ds.length-(n+1),cI,rfl,hlt,h⟩,λx H2 y=>?_⟩;obtain⟨F2,g2,dx⟩:=yl x H2 y;rw[v7 hlt]at q';exact⟨F1,ρ'.set i (.val ds[n]),F2,(S'.grow g2).set i dx,QG q' λρ3 σ3 F3 H3 S3 q3=>⟨ρ3,F3,S3,q3⟩⟩
  .have e:n=ds.length:=by lia
   subst e;rw[wc (cZ _)]at q';exact .inl ⟨h2 rfl,q' σ' F' H' S'⟩
 |bad=>exact kX
end
variable{fl:ML}
section
variable [fZ] [Pd]
noncomputable def nA(names:bA (Str×qC))(cells:bA (Str×bI))(acc:bA (Str×bI)):bA (Str×bI):=match names with| []=>acc| (n,k)::r=>nA r cells (if k= .free then(n,(cells.lookup n).getD 0)::acc else acc)
theorem GL{env:jG}:∀(names:bA (Str×qC)) (acc:bA (Str×bI)),(∀y∈names,y.2= .free->∃c,env.cells.lookup y.1=bB c)->
 (forIn names acc λy cs=>if(y.2==qS)=bC then(do let c <-cellOf env y.1;fE (j7 ((y.1,c)::cs)))else fE (j7 cs):pE (bA (Str×bI)))=fE (nA names env.cells acc)
 | [],acc,_=>rfl| (n,k)::r,acc,h=>by
  have ih:=GL (env:=env) r;rw[DM];by_cases hk:k= .free
  .subst hk;obtain⟨c,hc⟩:=h (n,.free) fW bO;have e1:((qS==qS)=bC)=wE:=cO;simp only[e1,qX];have e2:cellOf env n=fE c:=by unfold cellOf;rw[hc]
   rw[e2];simp only[pure_bind];rw[ih _ λy hy=>h y (gI _ hy)];rw[nA,cK bO,hc];rfl
  .have e1:(k==qS)=bH:=by cases k<;>first|rfl|exact dD bO hk
   simp only[e1,pr,cy];simp only[pure_bind];rw[ih _ λy hy=>h y (gI _ hy)];rw[nA,dH hk]
def GM(h:∀y∈scope.names,y.2= .free->∃c,env.cells.lookup y.1=bB c):qj scope env=fE (nA scope.names env.cells []):=by
 have:=GL (env:=env) scope.names [] h;unfold qj
 first
  |exact this
  | (simp only[bind_pure];exact this)
theorem Aj{c:bI}:∀(names:bA (Str×qC)) (acc:bA (Str×bI)),(nA names cells acc).lookup y=bB c->acc.lookup y=bB c\/((y,.free)∈names/\(cells.lookup y).getD 0=c)
 | [],acc,h=>.inl h| (n,k)::r,acc,h=>by
  rw[nA]at h;rcases Aj r _ h with q|⟨q1,q2⟩
  .by_cases hk:k= .free
   .rw[cK hk,lF]at q;cases e:y==n with|true=>rw[e]at q;have:y=n:=dW e;subst this;subst hk;exact .inr ⟨fW,jJ q⟩|false=>rw[e]at q;exact .inl q
   .rw[dH hk]at q;exact .inl q
  .exact .inr ⟨gI _ q1,q2⟩
theorem Ak:∀(names:bA (Str×qC)) (acc:bA (Str×bI)),(y,.free)∈names\/(acc.lookup y).isSome=true->((nA names cells acc).lookup y).isSome=true
 | [],acc,h=>by
  rcases h with h|h
  .cases h
  .exact h
 | (n,k)::r,acc,h=>by
  rw[nA];refine Ak r _ ?_;rcases h with h|h
  .rcases kS.mp h with e|h
   .cases e;refine .inr ?_;rw[cK bO,lF];simp
   .exact .inl h
  .refine .inr ?_;by_cases hk:k= .free
   .rw[cK hk,lF];cases e:y==n with|true=>rfl|false=>exact h
   .rw[dH hk];exact h
abbrev mG(X:Cx)(N':bA Str)(scope:kW)(C:bI)(fp:bA bI)(s:bS)(H:Hp)(E:bJ->bS->Prop):Cx:=
 {X with N:=N',s₀:=s,Ha:=H,env:=ip scope (nA scope.names X.env.cells []) C X.env,outer:=X.stack,ex:=fp,fn:=λ_=>bH,xe:=E}
structure qK(X:Cx)(scope:kW)(os caps:bA Str)(js:bA bD):Prop where
 kind:scope.kind= .function
 nocell:∀y∈scope.names,y.2≠ .cell
 names:∀y∈scope.names,y.2= .local->scope.names.lookup y.1=bB .local
 loc:∀x∈os,scope.names.lookup x=bB .local
 fr:∀y∈scope.names,y.2= .free->X.env.kindOf y.1=bB .cell\/X.env.kindOf y.1=bB .free
 nd:(os++caps).Nodup
 len:caps.length=js.length
 cap:∀(k:bD) y j,caps[k]? =bB y->js[k]? =bB j->X.N[j]? =bB y/\scope.names.lookup y=bB .free
def qK.js{js:bA bD}(S:qK X scope os caps js):js.Nodup:=by
 rw[v5,List.pairwise_iff_getElem];intro i j hi hj lt z;have hc:=(pC.mp S.nd).2.1;have g:∀k (h:k<js.length),caps[k]? =bB (caps[k]'(by rw[S.len];exact h))/\js[k]? =bB js[k]:=λk h=>⟨nO _,nO h⟩
 have a:=(S.cap i _ _ (g i hi).1 (g i hi).2).1;have b:=(S.cap j _ _ (g j hj).1 (g j hj).2).1;rw[z,b]at a;have:=(LD (by rw[S.len];exact hi) hc).mp ((g i hi).1.trans (a.symm.trans (g j hj).1.symm))
 lia
noncomputable def uh:Slot->Slot| .val d=>.val d| .obj p s=>.obj p s|_=>.no
def lL(js:bA bD)(O:cS):cS:=js.map λj=>uh (O.getD j .no)
noncomputable def lM(js:bA bD)(Y:St):St:=js.map λj=>Y.getD j bK
noncomputable def hX(p:MT)(g:ME)(rest:cS):bA D->bP (bA D)| []=>.ok []|d::ds=>(p (.val d::rest)).bind λb=>if b=bC then(g (.val d::rest)).bind λy=>(hX p g rest ds).bind λys=>.ok (y::ys)else hX p g rest ds
theorem GN{scope:kW}{env:jG}{y:Str}:∀{names:bA (Str×qC)},names.lookup y=bB .free->
 (names.map λ(n,k)=>if(k==qS&&env.scope.kind== .function&&env.kindOf n==bB .cell)then(n,xf)else(n,k)).lookup y=bB .cell\/
 (names.map λ(n,k)=>if(k==qS&&env.scope.kind== .function&&env.kindOf n==bB .cell)then(n,xf)else(n,k)).lookup y=bB .free
 | [],h=>by cases h| (n,k)::r,h=>by
  rw[dY,lF];rw[lF]at h;cases e:y==n with
  |true=>
   rw[e]at h;cases h;by_cases hc:(qS==qS&&env.scope.kind== .function&&env.kindOf n==bB .cell)=true
   .simp only[hc,qX];rw[e];exact .inl bO
   .simp only[hc,pr,cy];rw[e];exact .inr bO
  |false=>
   rw[e]at h;have ih:= @GN scope env y r h;by_cases hc:(k==qS&&env.scope.kind== .function&&env.kindOf n==bB .cell)=true
   .simp only[hc,qX];rw[e];exact ih
   .simp only[hc,pr,cy];rw[e];exact ih
theorem Al{env:jG}{y:Str}{K:qC}(hK:K= .cell\/K= .free):∀{names:bA (Str×qC)},(∀z∈names,z.2≠ .cell)->
 (names.map λ(n,k)=>if(k==qS&&env.scope.kind== .function&&env.kindOf n==bB .cell)then(n,xf)else(n,k)).lookup y=bB K->(y,.free)∈names
 | [],_,h=>by cases h| (n,k)::r,hn,h=>by
  rw[dY,lF]at h;have ih:= @Al env y K hK r λz hz=>hn z (gI _ hz)
  cases e:y==n with
  |true=>
   have e':y=n:=dW e;subst e';by_cases hc:(k==qS&&env.scope.kind== .function&&env.kindOf y==bB .cell)=true
   .rw[dB,dB]at hc;have:k= .free:=dW hc.1.1;subst this;exact fW
   .simp only[hc,pr,cy]at h;rw[e]at h;have hk:k=K:=jJ h;rcases hK with q|q
    .exact dD (hk.trans q) (hn (y,k) fW)
    .rw[hk.trans q];exact fW
  |false=>
   by_cases hc:(k==qS&&env.scope.kind== .function&&env.kindOf n==bB .cell)=true
   .simp only[hc,qX]at h;rw[e]at h;exact gI _ (ih h)
   .simp only[hc,pr,cy]at h;rw[e]at h;exact gI _ (ih h)
def Rk{w:cF}{R:ko->bS->Prop}{target:Expr}{it acc:bJ}(I:bD->bS->Prop)
 (turn:∀n s,I n s->wpAny (cA prog w) A (xH it) (λr s₁=>match r with
   |none=>R (.ok .next) s₁
   |some v=>wpAny (cA prog w) A (wy target it v) (λ_ s₁'=>wpAny (cA prog w) A (yY target env v) (λ_ s₂=>
    wpAny (cA prog w) A (forIn ifs true λc r=>if r=true then do let ok <-isTrue c env (dX c env);fE (j7 ok)else fE (j7 r)) (λok s₃=>
     if ok=true then wpAny (cA prog w) A (dX elt env) (λx s₄=>
      wpAny (cA prog w) A (call (.builtin "list.append") [acc,x]) (λ_ s₅=>∃m,m<n/\I m s₅) (yX (cA prog w) A env λe s'=>R (.error e) s') s₄) (yX (cA prog w) A env λe s'=>R (.error e) s') s₃
     else ∃m,m<n/\I m s₃) (yX (cA prog w) A env λe s'=>R (.error e) s') s₂) (yX (cA prog w) A env λe s'=>R (.error e) s') s₁')
      (yX (cA prog w) A env λe s'=>R (.error e) s') s₁) (yX (cA prog w) A env λe s'=>R (.error e) s') s)
 (n:bD) (h:I n s):codeAny (cA prog w) A (.compLoop (.ListComp elt [⟨target,iter,ifs,0⟩] scope pos) 0 it acc env) R s:=by
 apply codeAny_loop bO I ?_ n h;intro n s hI;show wpAny _ A ((compTurn (.ListComp elt [⟨target,iter,ifs,0⟩] scope pos) 0 it acc env).onRaise λx=>do noteFrame x env;theTreesLotGoes x) _ _ s;apply wpAny_noted;rw[compTurn_list];apply bV;apply wpAny_standAt;apply bV;apply lT (turn n s hI) ?_ (λ_ _ h'=>h');intro r s₁ h₁;cases r with
 |none=>exact dM h₁|some v=>
  apply bV;apply lT h₁ ?_ (λ_ _ h'=>h');intro _ s₁' h₁';apply bV;apply lT h₁' ?_ (λ_ _ h'=>h');intro _ s₂ h₂;apply bV;apply lT h₂ ?_ (λ_ _ h'=>h');intro ok s₃ h₃;cases ok with
  |false=>exact dM ⟨rfl,h₃⟩|true=>apply bV;apply bV;apply lT h₃ ?_ (λ_ _ h'=>h');intro x s₄ h₄;apply bV;apply lT h₄ ?_ (λ_ _ h'=>h');intro _ s₅ h₅;exact dM (dM ⟨rfl,h₅⟩)
section
variable{js:bA bD}{p:MT}{g:ME}
def xU(X:Cx)(ifs:bA Expr)(p:MT):Prop:=(ifs= []/\p=λ_=>.ok bC)\/ ∃c,ifs= [c]/\IT X c p
def Rm{p:MT}(h:xU X ifs p){Q:bU->Hp->Prop}(I:bR X pc Y H s)(q:xQ X p Y H Q):
 wpAny (cA X.prog X.w) X.A (forIn ifs bC λc r=>if r=bC then do let ok <-isTrue c X.env (dX c X.env);fE (j7 ok)else fE (j7 r)) (TP X pc Y Q) X.xe s:=by
 rcases h with⟨rfl,rfl⟩|⟨c,rfl,hc⟩
 .exact wpAny_tests_nil ⟨H,I,t6 q⟩
 .exact wpAny_tests_one (hc pc s Y H Q I q)
def Rn{h₁:cB}{m:Str->bQ bJ}{tk:bD}(S:qK X scope os caps js)(I:bR X pc Y H s)
 (hfp:∀b∈fp,nR X pc H b) (hlt:∀b∈fp,b<s.heap.objs.size) (hn:h₁.Ns s.heap.objs.size m) (hk:∀b o,s.heap.get? b=some o->h₁.get? b=some o):
 bR (mG X (os++caps) scope s.heap.objs.size fp s H E) pc (os.map (λ_=>none)++lM js Y) H {s with heap:=h₁,toks:=tk}:=by
 have cl_src:∀y c,(nA scope.names X.env.cells []).lookup y=some c->X.env.cells.lookup y=some c/\(y,qS)∈scope.names:=λy c e=>by
  rcases Aj scope.names [] e with q|⟨q1,q2⟩
  .cases q
  .obtain⟨c',hc'⟩:=I.ok.has y (S.fr (y,.free) q1 rfl);rw[hc']at q2;have:c'=c:=q2;subst this;exact⟨hc',q1⟩
 have stk_no:∀b,b≠X.env.locals->b∉X.fs->b∉qF X.stack:=λb h1 h2 hb=>by
  rcases kS.mp (I.stkSub b hb)with z|z
  .exact h1 z
  .exact h2 z
 have C_new:∀b o,s.heap.get? b=some o->b≠s.heap.objs.size:=λb o e=>gX (fU e)
 refine⟨⟨I.ok.mod,S.kind,I.ok.glob,I.ok.blt,cZ _,λy z c h1 h2=>?_,λy hy=>?_,λy c hf _=>(by cases hf),I.ok.hd,I.ok.frames,.inl rfl,λb hb=>?_,I.bs,jS I.ok.bsz I.sz,λb o e hb=>?_,λb hb=>?_,I.stack,I.stkFree⟩,
  rfl,I.bare,Un.kept hk,⟨m,hn,λi y v h1 h2 h3=>?_⟩,λy c e=>?_,I.hok.fresh (cZ _),λy c e=>I.freeC y c (cl_src y c e).1,λq hq=>?_,I.hok.kept hk,?_⟩
 .exact I.ok.inj y z c (cl_src y c h1).1 (cl_src z c h2).1
 .have hy':(re scope X.env).names.lookup y=some .cell\/(re scope X.env).names.lookup y=some .free:=hy;have hmem:(y,qS)∈scope.names:=by
   rcases hy' with q|q
   .exact Al (.inl rfl) S.nocell q
   .exact Al (.inr rfl) S.nocell q
  exact v8.mp (Ak scope.names [] (.inl hmem))
 .refine⟨gX (hlt b hb),λy c e=>?_⟩;exact(hfp b hb).2.2.2.2.1 y c (cl_src y c e).1
 .have z:=(hfp b hb).2.2.2.1;rcases z with z|z
  .exact I.ok.noex b o e z
  .exact dD (mI (fU (I.ok.bs b o e).1) z) (ci _)
 .exact stk_no b (hfp b hb).2.1 (hfp b hb).2.2.1
 .have h1:(os++caps)[i]? =some y:=h1;by_cases hi:i<os.length
  .rw[b9 (by rw[cG];exact hi),pB,nO hi]at h2;cases h2
  .obtain⟨k,rfl⟩:=Dj (pv hi);have h1':caps[k]? =some y:=by rw[wW (av _ _)]at h1;simpa using h1
   have h2':(lM js Y)[k]? =some (some v):=by rw[wW (by rw[cG];exact av _ _)]at h2;simpa using h2
   unfold lM at h2';rw[pB]at h2';cases hj:js[k]? with
   |none=>rw[hj]at h2';cases h2'|some j=>
    rw[hj]at h2';have h3':Y.getD j none=some v:=jJ h2';obtain⟨c1,c2⟩:=S.cap k y j h1' hj;have hσ:Y[j]? =some (some v):=by
     rw[rR]at h3';cases e:Y[j]? with
     |none=>rw[e]at h3';cases h3'|some o=>rw[e]at h3';exact kT some h3'
    have hm:(y,qS)∈scope.names:=cb c2;have hkd:=S.fr (y,.free) hm rfl;obtain⟨m0,hn0,hl0⟩:=I.loc
    obtain⟨u,ru,lk⟩:=hl0 j y v c1 hσ (by
     rcases hkd with z|z
     .exact .inr (.inl z)
     .exact .inr (.inr z))
    refine⟨u,ru,?_⟩;rcases lk with⟨kd,_⟩|⟨_,c,hc,hcell⟩
    .rcases hkd with z|z
     .exact dD (kd.symm.trans z) jB
     .exact dD (kd.symm.trans z) jB
    .obtain⟨c',hc'⟩:=v8.mp (Ak (cells:=X.env.cells) scope.names [] (.inl hm));have:c'=c:=by
      have:=(cl_src y c' hc').1;rw[hc]at this;exact(jJ this).symm
     subst this;refine .inr ⟨GN (scope:=scope) c2,c',hc',?_⟩;obtain⟨o,ho,hd⟩:=hcell;exact⟨o,hk _ o ho,hd⟩
 .obtain⟨v,o,ho,hd⟩:=I.cell y c (cl_src y c e).1;exact⟨v,o,hk _ o ho,hd⟩
 .obtain⟨e,n,ne,nf,d⟩:=I.pin q hq;exact⟨hk _ _ e,n,C_new _ _ e,stk_no q.1 ne nf,d⟩
 .show(os.map (λ_=>none)++lM js Y).length=(os++caps).length;unfold lM;rw[cH,cH,cG,cG,S.len]
end
section
variable{js:bA bD}{p P:MT}{g G:ME}{sp:D->bQ (bA D)}{gg:TG}
def Ro{pins2:bA (bI×cQ)}{σ':St}{s':bS}{N':bA Str}{C:bI}(I:bR X pc Y H s)(J:bR (mG X N' scope C fp s H E) pins2 σ' H' s')
 (hC:s.heap.objs.size<=C) (hs:yU C s'.heap h') (hfp:∀b∈fp,nR X pc H b):bR X pc Y H' {s' with heap:=h'}:=by
 have ne:∀b o,s.heap.get? b=bB o->b≠C:=λb o e=>gX (mI (fU e) hC)
 have hfree:H' C=bK:=J.free;refine I.call' (s':={s' with heap:=h'}) (ch:=fp) J.os ⟨λb o q n hb hx=>?_,λb o q n hb hx=>?_,J.base.free,λb o q hx=>?_,J.base.tups,J.base.frzs,J.base.tbls⟩ (λa o e=>?_) J.bare λb hb=>?_
 .exact(hs.2 b (ne b o q)).trans (J.base.keep b o q n hb hx)
 .obtain⟨sl,e⟩:=J.base.slot b o q n hb hx;exact⟨sl,(hs.2 b (ne b o q)).trans e⟩
 .obtain⟨o',e⟩:=J.base.there b o q hx;exact⟨o',(hs.2 b (ne b o q)).trans e⟩
 .refine(J.hok a o e).stay (λb u hb q=>(hs.2 b λz=>?_).trans q) (λ_ q=>q) λ_ _ q=>q
  subst z;rcases hb with z|z
  .subst z;rw[e]at hfree;cases hfree
  .rw[z]at hfree;cases hfree
 .obtain⟨_,f1,_,f3,f4,f5⟩:=hfp b hb;exact⟨f3,f1,f4,f5⟩
def GO{js:bA bD}{es:bA D}(nd:js.Nodup)(l:DatL K F' es vs)(E:hV K F H O Y)(gr:cL F H F' H'):hV K F' H' (es.map .val++lL js O) (vs.map some++lM js Y):=by
 have hl:=l.length;have cap:∀{i:bD} {p t},(es.map Slot.val++lL js O)[i]? =some (.obj p t)->∃k j,i=es.length+k/\js[k]? =some j/\O[j]? =some (.obj p t)/\(vs.map some++lM js Y)[i]? =some (Y.getD j none):=λ{i p t} e=>by
  by_cases hi:i<es.length
  .rw[b9 (by rw[cG];exact hi)]at e;exact(mi e).elim
  .obtain⟨k,rfl⟩:=Dj (pv hi);rw[wW (by rw[cG];exact av _ _),cG,Nat.add_sub_cancel_left]at e;rw[wW (by rw[cG];lia),cG,show es.length+k-vs.length=k by lia];unfold lL at e;unfold lM;rw[pB]at e|-;cases hj:js[k]? with
   |none=>rw[hj]at e;cases e|some j=>
    rw[hj]at e;have e2:uh (O.getD j .no)= .obj p t:=jJ e;refine⟨k,j,rfl,hj,?_,rfl⟩;rw[rR]at e2;cases q:O[j]? with
    |none=>rw[q]at e2;cases e2|some s0=>rw[q]at e2;cases s0<;>cases e2;rfl
 refine⟨gr.tk E.tb,gr.sub,?_,λi sl e=>?_,λi j p s q t a n e1 e2=>?_⟩
 .unfold lL lM;simp only[cH,cG,hl]
 .by_cases hi:i<es.length
  .rw[b9 (by rw[cG];exact hi),pB,nO hi]at e;cases e;obtain⟨v,hv,dv⟩:=vE l.paired (nO hi);exact⟨some v,by rw[b9 (by rw[cG];lia),pB,hv];rfl,v,rfl,dv⟩
  .obtain⟨k,rfl⟩:=Dj (pv hi);have e':(lL js O)[k]? =some sl:=by rw[wW (by rw[cG];exact av _ _)]at e;simpa using e
   unfold lL at e';rw[pB]at e';cases hj:js[k]? with
   |none=>rw[hj]at e';cases e'|some j=>
    rw[hj]at e';have e2:uh (O.getD j .no)=sl:=jJ e';refine⟨Y.getD j none,?_,?_⟩
    .rw[wW (by rw[cG];lia),cG,show es.length+k-vs.length=k by lia];unfold lM;rw[pB,hj];rfl
    .subst e2;cases q:O[j]? with
     |none=>rw[rR,q];trivial|some s0=>
      rw[rR,q];cases s0 with
      |val d=>obtain⟨o',e1,v,rfl,hd⟩:=E.at_ j _ q;refine⟨v,?_,hd.mono gr.fs⟩;rw[rR,e1];rfl|obj p t=>obtain⟨o',e1,h⟩:=E.at_ j _ q;have:=aV.grow gr h;rw[rR,e1];exact this|_=>trivial
 .obtain⟨k,x,rfl,h1,h2,h3⟩:=cap e1;obtain⟨l,y,rfl,h4,h5,h6⟩:=cap e2;have ne:x≠y:=λz=>n (by subst z;rw[(LD (rS.mp h1).1 nd).mp (h1.trans h4.symm)])
  rw[h3,h6];obtain⟨_,g1,a1,rfl,_⟩:=E.at_ x _ h2;obtain⟨_,g2,a2,rfl,_⟩:=E.at_ y _ h5;rw[rR,rR,g1,g2];intro z1 z2;exact E.apart x y p s q t a ne h2 h5 (by rw[g1];exact z1) (by rw[g2];exact z2)
structure eC(X:Cx)(scope:kW)(tg:Expr)(os caps:bA Str)(sp:D->bQ (bA D))(gg:TG)(P:MT)(G:ME)(p:MT)(g:ME):Prop where
 pg:∀C fp s H E,PG (mG X (os++caps) scope C fp s H E) tg gg
 ok:∀{d es v F H as σr},sp d=bB es->bM X.K F d v->bT F H->as.length=os.length->∃vs,vs.length=os.length/\DatL X.K F es vs/\gg v (as++σr) H λσ7 H7=>σ7=vs.map bB++σr/\H7=H
 hp:∀{d r},P (.val d::r)≠ .bad->∃es,sp d=bB es
 lo:∀{d es},sp d=bB es->es.length=os.length
 eq:∀{d es} r,sp d=bB es->P (.val d::r)=p (es.map .val++r)/\G (.val d::r)=g (es.map .val++r)
noncomputable def rJ{α:Type}(P:MT)(G:cS->α->bP (D×α))(cx:α->cS):bA D->α->bP (bA D×α)| [],x=>.ok ([],x)|d::ds,x=>(P (.val d::cx x)).bind λb=>if b=bC then(G (.val d::cx x) x).bind λr=>(rJ P G cx ds r.2).bind λrs=>.ok (r.1::rs.1,rs.2)else rJ P G cx ds x
structure Am{α:Type}(X:Cx)(os caps:bA Str)(js:bA bD)(scope:kW)(elt:Expr)(Y:St)(F2 H2:Hp)(cx:α->cS)(g:cS->α->bP (D×α))(Rl:α->Hp->Hp->Prop):Prop where
 sm:∀{x F H},Rl x F H->bT F2 F/\bT F H
 up:∀{x F H F' H'},Rl x F H->cL F H F' H'->Rl x F' H'
 ac:∀{x F H b vs} vs',Rl x F H->H2 b=bK->H b=bB (.l vs)->F b=bK->Rl x F (upd H b (.l vs'))
 env:∀{x F H F' H'} {es:bA D} {vz:bA V},Rl x F H->cL F H F' H'->DatL X.K F' es vz->hV X.K F' H' (es.map .val++cx x) (vz.map bB++lM js Y)
 run:∀{C fp s0 H0 E pc s F H} {es:bA D} {vz:bA V} {x},bR (mG X (os++caps) scope C fp s0 H0 E) pc (vz.map bB++lM js Y) H s->vz.length=os.length->es.length=os.length->Rl x F H->hV X.K F H (es.map .val++cx x) (vz.map bB++lM js Y)->g (es.map .val++cx x) x≠ .bad->
  wpAny (cA X.prog X.w) X.A (dX elt (mG X (os++caps) scope C fp s0 H0 E).env) (EP (mG X (os++caps) scope C fp s0 H0 E) pc (vz.map bB++lM js Y) λv H'=>∃y x' F',g (es.map .val++cx x) x= .ok (y,x')/\Rl x' F' H'/\bT F F'/\(∀b vs,H b=bB (.l vs)->F b=bK->H' b=bB (.l vs)/\F' b=bK)/\bM X.K F' y v) E s
def GP{cx:α->cS}{GG gR:cS->α->bP (D×α)}{Rl:α->Hp->Hp->Prop}{x0:α}{R:bP (bA D×α)}{s2:bS}{J:It}{it:bI}{tn:bD->cB->Prop}
 (S:qK X scope os caps js) (hc:X.calm=true) (I2:bR X pc Y H2 s2) (T:zG X.prog X.w X.K tg J fp it tn) (Tg:eC X scope tg os caps sp gg P G p g) (t0:tn 0 s2.heap) (f2:∀b∈fp,nR X pc H2 b) (io:rH X.K F2 J ds) (sb:bT F2 H2)
 (hp:∀C fp s H E,xU (mG X (os++caps) scope C fp s H E) ifs p) (B:Am X os caps js scope elt Y F2 H2 cx gR Rl) (eG:∀{d} {es:bA D} r x,sp d=bB es->GG (.val d::r) x=gR (es.map .val++r) x) (R0:Rl x0 F2 H2)
 (hys:rJ P GG cx ds x0=R) (hR:R≠ .bad) (hlen:ds.length<=cJ)
 (hend:∀Dd C s' H' F' vs m' ys x',R= .ok (ys,x')->H2 Dd=bK->Rl x' F' H'->F' Dd=bK->H' Dd=bB (.l vs)->DatL X.K F' ys vs->s'.heap.Ns C m'->(∀h',yU C s'.heap h'->bR X pc Y H' {s' with heap:=h'})->nR X pc H' C->RR (.ref Dd) C (.ok .next) s'):
 wpAny (cA X.prog X.w) X.A (newList []) (λacc s₃=>wpAny (cA X.prog X.w) X.A (newFunctionEnv scope X.env.globals (nA scope.names X.env.cells []) [] X.env.qual bK .none (bB X.env)) (λcenv s₄=>
  codeAny (cA X.prog X.w) X.A (.compStart (.ListComp elt [⟨tg,iter,ifs,0⟩] scope pos) 0 (.ref it) acc {cenv with scope:=re scope X.env}) (RR acc cenv.locals) s₄) Ex s₃) Ex s2:=by
 refine au (Li S.nocell (by intro y hy;simp at hy) (λh₁ hns₁ hsb₁=>?_) S.kind);dsimp only at hns₁ hsb₁|-;have I3:bR X pc Y (upd H2 s2.heap.objs.size (.l [])) {s2 with heap:=s2.heap.push {cls:=.type "list",data:=.seq ([]:bA bJ).toArray},toks:=s2.toks}:=I2.lnew (its:=[]) (t':=s2.toks) .nil (mK _);generalize hs3:({s2 with heap:=s2.heap.push {cls:=.type "list",data:=.seq ([]:bA bJ).toArray},toks:=s2.toks}:bS)=s3 at I3;have e3:s2.heap.push {cls:=.type "list",dict:=bK,data:=.seq ([]:bA bJ).toArray}=s3.heap:=by rw[<-hs3]
 have hsz3:s3.heap.objs.size=s2.heap.objs.size+1:=by rw[<-e3,vX]
 rw[e3]at hns₁ hsb₁|-;have hfresh:H2 s2.heap.objs.size=bK:=I2.hok.fresh (cZ _);have hltf:∀b∈fp,b<s2.heap.objs.size:=λb hb=>by obtain⟨o,e,_⟩:=T.obj 0 _ t0 b hb;exact fU e
 have f3:∀b∈fp,nR X pc (upd H2 s2.heap.objs.size (.l [])) b:=λb hb=>⟨by rw[fH (gX (hltf b hb))];exact(f2 b hb).1,(f2 b hb).2⟩
 have hkeep1:∀b o,s3.heap.get? b=bB o->h₁.get? b=bB o:=λb o e=>(hsb₁.2 b (gX (fU e))).trans (fC _ e)
 have J0:=Rn (E:=yX (cA X.prog X.w) X.A (ip scope (nA scope.names X.env.cells []) s3.heap.objs.size X.env) λe s'=>RR (.ref s2.heap.objs.size) s3.heap.objs.size (.error e) s')
  (tk:=s3.toks+([]:bA (Str×bJ)).length) S I3 f3 (λb hb=>by rw[hsz3];exact wn (hltf b hb)) hns₁ hkeep1
 have t1:tn 0 h₁:=T.keep 0 _ _ t0 λb hb o e=>hkeep1 b o (by rw[<-e3];exact fC _ e)
 generalize hX':mG X (os++caps) scope s3.heap.objs.size fp s3 (upd H2 s2.heap.objs.size (.l [])) (yX (cA X.prog X.w) X.A (ip scope (nA scope.names X.env.cells []) s3.heap.objs.size X.env) λe s'=>RR (.ref s2.heap.objs.size) s3.heap.objs.size (.error e) s')=X' at J0;have hfp:∀{H':Hp},(∀b∈fp,H' b=bK)->∀b∈fp,nR X' pc H' b:=λ{H'} hn b hb=>by
  rw[<-hX'];refine⟨hn b hb,?_,?_,.inl hb,λy c e=>?_,λq hq=>(f2 b hb).2.2.2.2.2 q hq⟩
  .show b≠s3.heap.objs.size;rw[hsz3];exact gX (wn (hltf b hb))
  .show b∉qF X.stack;intro z;rcases kS.mp (I2.stkSub b z)with z|z
   .exact(f2 b hb).2.1 z
   .exact(f2 b hb).2.2.1 z
  .rcases Aj scope.names [] e with q|⟨q1,q2⟩
   .cases q
   .obtain⟨c',hc'⟩:=I2.ok.has y (S.fr (y,.free) q1 rfl);rw[hc']at q2;have:c'=c:=q2;subst this;exact(f2 b hb).2.2.2.2.1 y c' hc'
 have hA:X'.A=X.A:=by rw[<-hX']
 have hXe:X'.xe=yX (cA X.prog X.w) X.A (ip scope (nA scope.names X.env.cells []) s3.heap.objs.size X.env) λe s'=>RR (.ref s2.heap.objs.size) s3.heap.objs.size (.error e) s':=by rw[<-hX']
 have hEnv:X'.env=ip scope (nA scope.names X.env.cells []) s3.heap.objs.size X.env:=by rw[<-hX']
 have hP:X'.prog=X.prog:=by rw[<-hX']
 have hW:X'.w=X.w:=by rw[<-hX']
 have hK:X'.K=X.K:=by rw[<-hX']
 have loop:∀s4:bS,s4={s3 with heap:=h₁,toks:=s3.toks+([]:bA (Str×bJ)).length}->
  codeAny (cA X.prog X.w) X.A (.compLoop (.ListComp elt [⟨tg,iter,ifs,0⟩] scope pos) 0 (.ref it) (.ref s2.heap.objs.size) (ip scope (nA scope.names X.env.cells []) s3.heap.objs.size X.env)) (RR (.ref s2.heap.objs.size) s3.heap.objs.size) s4:=by
  rintro s4 rfl
  refine Rk (λn s'=>∃i σ' H' F' zs vs x,n=ds.length-i/\i<=ds.length/\bR X' pc σ' H' s'/\tn i s'.heap/\(∀b∈fp,H' b=bK)/\(∃as:St,as.length=os.length/\σ'=as++lM js Y)/\Rl x F' H'/\F' s2.heap.objs.size=bK/\
   H' s2.heap.objs.size=bB (.l vs)/\DatL X.K F' zs vs/\zs.length<=i/\((rJ P GG cx (ds.drop i) x).bind λr=>.ok (zs++r.1,r.2))=R) ?_ ds.length ?_
  .rintro n s' ⟨i,σ',H',F',zs,vs,x,rfl,hi,I',st,fr,⟨as,la,rfl⟩,gr,fD,hD,dl,zl,hm⟩;obtain⟨io1,io2⟩:=io i F' H' (B.sm gr).1 (B.sm gr).2;by_cases hlt:i<ds.length
   .have hd:ds[i]? =bB ds[i]:=nO hlt;obtain⟨go,yl⟩:=io1 _ hd;have hit:=T.item X' (by rw[<-hX']) (by rw[<-hX']) (by rw[<-hX']) (by rw[<-hX'];exact hc) i pc s' (as++lM js Y) H' X'.xe I' (hfp fr) st go;rw[hA,hXe]at hit;refine lT hit (λr s5 qz=>?_) λ_ _ z=>z
    obtain⟨u,hr,h5⟩:=qz;subst hr;refine lT h5 (λ_ s6 qz=>?_) λ_ _ z=>z;obtain⟨v,H6,I6,r6,y6,st6,fr6⟩:=qz
    obtain⟨F6,g6,d6⟩:=yl v H6 y6;have I6':=I6.pinned (hfp fr6) (T.obj _ _ st6);have hD6:H6 s2.heap.objs.size=bB (.l vs):=g6.same _ _ rfl hD;have fD6:F6 s2.heap.objs.size=bK:=g6.new _ fD (by rw[hD];simp);rw[v7 hlt,rJ]at hm;obtain⟨es,he⟩:=Tg.hp (d:=ds[i]) (r:=cx x) λz=>hR (by rw[<-hm,z];rfl)
    rw[(Tg.eq (cx x) he).1,eG (cx x) x he]at hm;obtain⟨vz,lz,dz,gz⟩:=Tg.ok (σr:=lM js Y) he d6 g6.sub la;have pg:PG X' tg gg:=by rw[<-hX'];exact Tg.pg _ _ _ _ _
    have has:=pg _ s6 _ H6 v u _ I6' r6 gz;rw[hA,hXe,hEnv,hP,hW]at has;refine lT has (λ_ s7 qz=>?_) λ_ _ z=>z;obtain⟨σ7,H7,I7,e7,e7'⟩:=qz
    subst e7 e7';have E7:=B.env gr g6 dz;have hpp:=hp s3.heap.objs.size fp s3 (upd H2 s2.heap.objs.size (.l [])) (yX (cA X.prog X.w) X.A (ip scope (nA scope.names X.env.cells []) s3.heap.objs.size X.env) λe s'=>RR (.ref s2.heap.objs.size) s3.heap.objs.size (.error e) s');rw[hX']at hpp
    have hte:=Rm (Q:=λb' H8=>∃F8,p (es.map .val++cx x)= .ok b'/\cL F6 H7 F8 H8) hpp I7 ⟨_,F6,by rw[hK];exact E7,by
     cases hb:p (es.map .val++cx x)with
     |ok b=>exact λb' F8 H8 g8 e8=>⟨F8,kT _ e8,g8⟩
     |bad=>exact hR (by rw[<-hm,hb];rfl)⟩
    rw[hA,hXe,hEnv,hP,hW]at hte;refine lT hte (λb' s8 qz=>?_) λ_ _ z=>z;obtain⟨H8,I8,F8,hb,g8⟩:=qz
    rw[hb]at hm;have gr8:=B.up (B.up gr g6) g8;have hD8:H8 s2.heap.objs.size=bB (.l vs):=g8.same _ _ rfl hD6;have fD8:F8 s2.heap.objs.size=bK:=g8.new _ fD6 (by rw[hD6];simp);have stay:∀{σ9:St} {H9:Hp} {s9:bS},bR X' (pc++li fp s6.heap) σ9 H9 s9->tn (i+1) s9.heap/\ ∀b∈fp,H9 b=bK:=λ{σ9 H9 s9} I9=>
     ⟨T.keep _ _ _ st6 λb hb o e=>(I9.pin (b,o) (pO _ (pO _ (sf hb e)))).1,λb hb=>by obtain⟨o,e,d⟩:=T.obj _ _ st6 b hb;exact(I9.pin (b,o) (pO _ (pO _ (sf hb e)))).2.1⟩
    cases b' with
    |false=>exact vA ⟨ds.length-(i+1),cI,i+1,vz.map bB++lM js Y,H8,F8,zs,vs,x,rfl,hlt,I8.unpinned,(stay I8).1,(stay I8).2,⟨_,by rw[cG];exact lz,rfl⟩,gr8,fD8,hD8,(dl.mono g6.fs).mono g8.fs,cI,hm⟩|true=>
     refine vB ?_;have hm':(((gR (es.map .val++cx x) x).bind λr=>(rJ P GG cx (ds.drop (i+1)) r.2).bind λrs=>.ok (r.1::rs.1,rs.2)).bind λr=>.ok (zs++r.1,r.2))=R:=hm;have I8':=I8;rw[<-hX']at I8';have hel:=B.run I8' lz (Tg.lo he) gr8 (E7.grow g8) λz=>hR (by rw[<-hm',z];rfl)
     refine lT hel (λu9 s9 qz=>?_) λ_ _ z=>z;obtain⟨v9,H9,I9,r9,y,x',F9,hgv,gr9,s9',k9,d9⟩:=qz
     rw[hX']at I9;rw[hgv]at hm';obtain⟨hD9,fD9⟩:=k9 _ _ hD8 fD8;have hvl:vs.length=zs.length:=dl.length.symm
     have hap:=zn (X:=X') _ s9 _ H9 (.ref s2.heap.objs.size) [v9] (.ref s2.heap.objs.size) [u9] (λw H10=>H10=upd H9 s2.heap.objs.size (.l (vs++ [v9]))) I9 rfl (.cons r9 .nil)
      ⟨_,vs,v9,rfl,rfl,hD9,cI,rfl⟩
     rw[hA,hXe,hP,hW]at hap;refine lT hap (λ_ s10 qz=>?_) λ_ _ z=>z;obtain⟨w,H10,I10,_,e10⟩:=qz
     subst e10;refine⟨ds.length-(i+1),cI,i+1,vz.map bB++lM js Y,_,F9,zs++ [y],vs++ [v9],x',rfl,hlt,I10.unpinned,(stay I10).1,(stay I10).2,⟨_,by rw[cG];exact lz,rfl⟩,B.ac _ gr9 hfresh hD9 fD9,fD9,gY,?_,?_,?_⟩
     .exact DatL.of (vD (((dl.mono g6.fs).mono g8.fs).mono s9').paired (.cons d9 .nil))
     .rw[cH];show zs.length+1<=i+1;lia
     .rw[<-hm'];show _=((rJ P GG cx (ds.drop (i+1)) x').bind λrs=>.ok (y::rs.1,rs.2)).bind λr=>.ok (zs++r.1,r.2)
      cases rJ P GG cx (ds.drop (i+1)) x' with
      |ok r=>show(bP.ok ((zs++ [y])++r.1,r.2):bP (bA D×α))= .ok (zs++(y::r.1),r.2);simp|bad=>rfl
   .have e:i=ds.length:=by lia
    subst e;have hdn:=T.done X' (by rw[<-hX']) (by rw[<-hX']) (by rw[<-hX']) (by rw[<-hX'];exact hc) ds.length pc s' (as++lM js Y) H' X'.xe I' (hfp fr) st (io2 rfl);rw[hA,hXe]at hdn;refine lT hdn (λr s5 ⟨hr,I5⟩=>?_) λ_ _ z=>z
    subst hr;rw[wc (cZ _)]at hm;have hm':(bP.ok (zs++ [],x):bP (bA D×α))=R:=hm;rw[kK]at hm';have I5':=I5;rw[<-hX']at I5';obtain⟨m',hn',_⟩:=I5'.loc;refine hend s2.heap.objs.size s3.heap.objs.size s5 H' F' vs m' zs x hm'.symm hfresh gr fD hD dl hn' (λh' hs'=>Ro I3 I5' (cZ _) hs' f3) ?_;exact I3.fpOk (cZ _) I5'.free
  .refine⟨0,os.map (λ_=>bK)++lM js Y,_,F2,[],[],x0,cI,mK _,J0,t1,λb hb=>(f3 b hb).1,⟨_,by rw[cG],rfl⟩,B.up R0 (cL.laidN sb hfresh _),bT.free sb hfresh,gY,DatL.nil,cZ _,?_⟩;rw[L8,hys];cases R<;>rfl
 subst hs3;exact codeAny_compStart_list (loop _ rfl) (T.self _ 0 _ _ _ t1 (loop _ rfl))
end
section
variable{js:bA bD}{spos:dJ}{p P:MT}{g G:ME}{sp:D->bQ (bA D)}{gg:TG}
def gO(js:bA bD)(fl:ML)(p:MT)(g:ME):ME:=λO=>(fl O).bind λds=>if ds.length<=cJ then(hX p g (lL js O) ds).bind λys=>.ok (.l ys)else .bad
def GQ(S:qK X scope os caps js)(I:bR X pc Y H s):qj scope X.env=fE (nA scope.names X.env.cells []):=
 GM λy hy hf=>I.ok.has y.1 (S.fr y hy hf)
theorem An{P:MT}{G:ME}{rest:cS}:∀ds:bA D,rJ P (λO (_:aN)=>(G O).bind λy=>.ok (y,())) (λ_=>rest) ds ()=(hX P G rest ds).bind λys=>.ok (ys,())
 | []=>rfl|d::ds=>by
  unfold rJ hX;cases P (.val d::rest)with
  |ok b=>
   cases b with
   |false=>exact An ds|true=>
    show(((G (.val d::rest)).bind λy=>bP.ok (y,())).bind _)=((G (.val d::rest)).bind _).bind _;cases G (.val d::rest)with
    |ok y=>show((rJ P _ _ ds ()).bind _)=((hX P G rest ds).bind _).bind _;rw[An ds];cases hX P G rest ds<;>rfl|bad=>rfl
  |bad=>rfl
def Rp(nd:js.Nodup)(Ev:hV X.K F2 H2 O Y)(hg:∀C fp s H E,IE (mG X (os++caps) scope C fp s H E) elt g):Am X os caps js scope elt Y F2 H2 (λ_:aN=>lL js O) (λO _=>(g O).bind λy=>.ok (y,())) (λ_ F H=>cL F2 H2 F H)where
 sm:=λg=>⟨g.fs,g.sub⟩
 up:=λg h=>g.trans h
 ac:=λ_ g h1 h2 h3=>⟨λb o nt q=>by rw[fH (sU q h1)];exact g.same b o nt q,F5 g.more _ _,λti=>⟨(g.tk ti).1.updL h2 _,(g.tk ti).2⟩,g.fs,l8 g.sub h3 _,g.new⟩
 env:=λg h d=>GO nd d Ev (g.trans h)
 run:=λ{C fp s0 H0 E pc s F H es vz x} I _ _ gr Ee nb=>by
  refine cT (hg C fp s0 H0 E pc s _ H (λv H'=>∃y F',g (es.map .val++lL js O)= .ok y/\cL F H F' H'/\bM X.K F' y v) I ⟨_,F,Ee,?_⟩) λu s1 qz=>by obtain⟨v,H1,I1,r1,y,F',e,g',d'⟩:=qz;exact⟨v,H1,I1,r1,y,(),F',by rw[e];rfl,gr.trans g',g'.fs,λb vs h1 h2=>⟨g'.same b _ bO h1,g'.new b h2 (by rw[h1];simp)⟩,d'⟩
  cases e:g (es.map .val++lL js O)with
  |ok y=>exact λv F' H' g' d'=>⟨y,F',rfl,g',d'⟩|bad=>exact nb (by rw[e];rfl)
def GR{Dd:bI}(g2:cL F H F2 H2)(hD2:H2 Dd=bK)(gr:cL F2 H2 F' H')(fD:F' Dd=bK)(hD:H' Dd=bB (.l vs)):cL F H (upd F' Dd (.l vs)) H':=by
 have grA:=g2.trans gr;refine⟨grA.same,grA.more,λti=>⟨(grA.tk ti).1,(grA.tk ti).2.upd _ bO⟩,grA.fs.trans (nU fD _),λb o e=>?_,λb hb hn'=>?_⟩
 .by_cases z:b=Dd
  .subst z;rw[gY]at e;cases e;exact hD
  .rw[fH z]at e;exact grA.sub b o e
 .have z:b≠Dd:=λz=>hn' (z▸g2.free hD2)
  rw[fH z];exact grA.new b hb hn'
def GS{use:bQ (bJ->pE aN)}(S:qK X scope os caps js)(Tg:eC X scope tg os caps sp gg P G p g)(hc:X.calm=bC)(hi:II X tg iter fl)(hp:∀C fp s H E,xU (mG X (os++caps) scope C fp s H E) ifs p)(hg:∀C fp s H E,IE (mG X (os++caps) scope C fp s H E) elt g)
 (hs:∀x,ar iter X.env x=fE x) (I:bR X pc Y H s) (Ev:hV X.K F H O Y) (nb:gO js fl P G O≠ .bad)
 (hend:∀Dd C s' H' F' vs m' ys,gO js fl P G O= .ok (.l ys)->cL F H (upd F' Dd (.l vs)) H'->F' Dd=bK->DatL X.K F' ys vs->s'.heap.Ns C m'->(∀h',yU C s'.heap h'->bR X pc Y H' {s' with heap:=h'})->nR X pc H' C->Ez (cA X.prog X.w) X.A X.xe use Q (.ref Dd) C (.ok .next) s'):
 wpAny (cA X.prog X.w) X.A (comprehension (.ListComp elt [⟨tg,iter,ifs,0⟩] scope pos) scope X.env spos (newList []) bH (dX iter X.env) use) Q X.xe s:=by
 refine KR (use:=use) rfl hs (GQ S I) S.kind S.names ?_
 have hiter:=hi pc s Y H (λJ H2=>∃F2 ds,fl O= .ok ds/\cL F H F2 H2/\rH X.K F2 J ds) I ⟨O,F,Ev,by
  cases hf:fl O with
  |ok ds=>exact λJ F' H' g' io=>⟨F',ds,rfl,g',io⟩
  |bad=>exact nb (by unfold gO;rw[hf];rfl)⟩
 refine lT hiter (λv s1 h1=>lT h1 (λitv s2 h2=>?_) λ_ _ e=>e) λ_ _ e=>e
 obtain⟨it,fp,tn,J,H2,rfl,I2,T,t0,f2,F2,ds,hf,g2,io⟩:=h2;have em:gO js fl P G O=if ds.length<=cJ then(hX P G (lL js O) ds).bind λys=>.ok (.l ys)else .bad:=by unfold gO;rw[hf];rfl
 have hlen:ds.length<=cJ:=by
  by_cases z:ds.length<=cJ
  .exact z
  .rw[em,dH z]at nb;exact dD rfl nb
 rw[cK hlen]at em;refine GP (GG:=λO _=>(G O).bind λy=>.ok (y,())) (RR:=λacc C=>Ez (cA X.prog X.w) X.A X.xe use Q acc C) S hc I2 T Tg t0 f2 io g2.sub hp (Rp S.js (Ev.grow g2) hg) (λr x e=>by rw[(Tg.eq r e).2]) (.refl g2.sub) (An ds) (λz=>nb ?_) hlen ?_
 .rw[em];cases e:hX P G (lL js O) ds with|bad=>rfl|_=>rw[e]at z;cases z
 intro Dd C s' H' F' vs m' ys x' hR hD2 gr fD hD dl hn hback hfp;refine hend Dd C s' H' F' vs m' ys ?_ (GR g2 hD2 gr fD hD) fD dl hn hback hfp;rw[em];cases e:hX P G (lL js O) ds with
 |ok zs=>rw[e]at hR;cases hR;rfl|_=>rw[e]at hR;cases hR
def Ao(S:qK X scope os caps js)(Tg:eC X scope tg os caps sp gg P G p g)(hc:X.calm=bC)(hi:II X tg iter fl)(hp:∀C fp s H E,xU (mG X (os++caps) scope C fp s H E) ifs p)(hg:∀C fp s H E,IE (mG X (os++caps) scope C fp s H E) elt g)
 (hs:∀x,ar iter X.env x=fE x):IE X (.ListComp elt [⟨tg,iter,ifs,0⟩] scope pos) (gO js fl P G):=by
 rintro pc s Y H Q I ⟨O,F,Ev,q⟩;rw[eval_ListComp];refine GS S Tg hc hi hp hg hs I Ev (λz=>by rw[z]at q;exact q) ?_;intro Dd C s' H' F' vs m' ys em gr fD dl hn hback hfp;rw[em]at q;refine⟨m',hn,λh' hs'=>⟨.ref Dd,H',hback h' hs',rfl,q (.ref Dd) _ H' gr ?_⟩⟩;simp only[bM];exact⟨Dd,vs,rfl,gS.of gY,dl.mono (nU fD _)⟩
def Rq{u:bJ}{C:bI}{m:Str->bQ bJ}{Q:bS->Prop}(I:bR X pc Y H s)(hN:X.N.Nodup)(hi:X.N[i]? =bB y)(hx:Loc X.env.scope y)(r:cX v u)(hn:s.heap.Ns C m)(hC:nR X pc H C)
 (h:∀s'',bR X pc (Y.set i (bB v)) H s''->Q s'') (hf:X.fn y=bC\/X.env.scope.names.lookup y=bB .local:=by first|exact .inl bO|exact .inr bO|assumption):
 wpAny (cA X.prog X.w) X.A (yY (.Name y py) X.env u) (λ_ s''=>∃m,s''.heap.Ns C m/\ ∀h',yU C s''.heap h'->Q {s'' with heap:=h'}) X.xe s:=by
 refine Lz (EL I hN hi hx r (λs' I' hch=>?_) hf);obtain⟨f0,f1,f2,f3,f4,f5⟩:=hC;have hC2:∀c,(c=X.env.locals\/X.env.cells.lookup y=bB c)->C≠c:=λc hc z=>by
  rcases hc with hc|hc
  .exact f1 (z.trans hc)
  .exact f4 y c hc z.symm
 obtain⟨c,hsb,hcc⟩:=hch;refine⟨m,hn.sameBut hsb (hC2 c (by rcases hcc with z|z<;>first|exact .inl z|exact .inr z)),λh' hs'=>h _ ?_⟩;exact I'.turned (t':=s'.toks) (λb o hb e=>(hs'.2 b hb).trans e) f0 f1 f3 f4 f5
def qL(i:bD)(js:bA bD)(fl:ML)(p:MT)(g:ME):MS:=cR i (gO js fl p g)
def Rr(S:qK X scope os caps js)(Tg:eC X scope tg os caps sp gg P G p g)(hc:X.calm=bC)(hi:II X tg iter fl)(hp:∀C fp s H E,xU (mG X (os++caps) scope C fp s H E) ifs p)(hg:∀C fp s H E,IE (mG X (os++caps) scope C fp s H E) elt g)
 (hN:X.N.Nodup) (hy:X.N[i]? =bB y) (hl:Loc X.env.scope y) (hsw:aE (.ListComp elt [⟨tg,iter,ifs,0⟩] scope pos) (bB (.Name y py)) spos.line X.env=fE bC)
 (hs:∀x,ar iter X.env x=fE x) (hf:X.fn y=bC\/X.env.scope.names.lookup y=bB .local):
 IS X (.Assign [.Name y py] (.ListComp elt [⟨tg,iter,ifs,0⟩] scope pos) spos) (qL i js fl P G):=by
 rintro Fa Ha pc s Y H E I ⟨O,F,SS,q⟩;rw[exec_Assign_Name_used _ _ _ _ hsw];refine bV (wpAny_standAt (bV ?_));show wpAny _ X.A (do let _ <-comprehension (.ListComp elt [⟨tg,iter,ifs,0⟩] scope pos) scope X.env _ (newList []) bH (dX iter X.env) (bB (yY (.Name y py) X.env))) _ _ s;refine bV (lT (GS (use:=bB (yY (.Name y py) X.env)) (Q:=λ_ s'=>SP X pc E .next s') S Tg hc hi hp hg hs I SS.env (λz=>by unfold qL cR at q;rw[z]at q;exact q) ?_) (λ_ s' hq=>dM (dM hq)) λ_ _ e=>e);intro Dd C s' H' F' vs m' ys em gr fD dl hn hback hfp;unfold qL cR at q;rw[em]at q;have Ib:bR X pc Y H' s':=hback s'.heap (XX _ _);refine Rq (i:=i) (v:=.ref Dd) Ib hN hy hl bO hn hfp (λs'' I''=>⟨_,H',I'',?_⟩) hf;exact q _ _ _ ((SS.grow gr).set i (by simp only[bM];exact⟨Dd,vs,rfl,gS.of gY,dl.mono (nU fD _)⟩))
def Ap(S:qK X scope [x] caps js):eC X scope (.Name x px) [x] caps (λd=>bB [d]) (qZ 0) p g p g where
 pg:=λ_ _ _ _ _=>dm (i:=0) S.nd bO (.inl (wf (S.loc x fW))) (.inr (wf (S.loc x fW)))
 ok:=λ{d es v F H as σr} e dv _ la=>by
  cases e
  match as,la with
  | [o],_=>exact⟨[v],rfl,DatL.cons dv DatL.nil,rfl,rfl⟩
 hp:=λ_=>⟨_,rfl⟩
 lo:=λe=>by cases e;rfl
 eq:=λr e=>by cases e;exact⟨rfl,rfl⟩
def Rs(S:qK X scope [x] caps js)(hc:X.calm=bC)(hi:II X (.Name x px) iter fl)(hp:∀C fp s H E,xU (mG X (x::caps) scope C fp s H E) ifs p)(hg:∀C fp s H E,IE (mG X (x::caps) scope C fp s H E) elt g)
 (hs:∀x,ar iter X.env x=fE x:=by intro _;rfl):IE X (.ListComp elt [⟨.Name x px,iter,ifs,0⟩] scope pos) (gO js fl p g):=Ao S (Ap S) hc hi hp hg hs
end
def qM{α:Type}(xs:bA α)(lo hi:bQ bG):bA α:=(xs.drop (HT.sIx xs.length 0 lo)).take (HT.sIx xs.length xs.length hi-HT.sIx xs.length 0 lo)
def nB(z:Str)(lo hi:bQ bG):Str:=⟨(qM z.cps.toList lo hi).toArray⟩
def Rt(xs:bA α)(lo hi:bQ bG):(qM xs lo hi).length<=xs.length:=by unfold qM;rw[gk,DI];lia
def GT(z:Str)(lo hi:bQ bG):(nB z lo hi).length<=z.length:=by show(qM z.cps.toList lo hi).toArray.size<=z.cps.size;rw[gQ];exact jS (Rt _ _ _) cO
def GU(n:bD)(lo hi:bQ bG):jw lo hi 1 n=(kL (HT.sIx n n hi-HT.sIx n 0 lo)).map (HT.sIx n 0 lo+ ·):=by
 have h0:∀(o:bQ bG) (d:bD),d<=n->(match o with
  |none=>(d:bG)
  |some i=>max 0 (rX (if i<0 then i+(n:bG)else i) (n:bG)))=((HT.sIx n d o:bD):bG):=by
  intro o d hd;cases o with
  |none=>rfl|some i=>
   show max 0 (rX (if i<0 then i+(n:bG)else i) (n:bG))=((if i<0 then(i+(n:bG)).toNat else rX i.toNat n:bD):bG);by_cases hi:i<0
   .rw[cK hi,cK hi];lia
   .rw[dH hi,dH hi];lia
 rw[<-L5];unfold jw;simp only[show(1:bG)>0 by decide,qX];have e1:=h0 lo 0 (mK _);have e2:=h0 hi n (cZ _);rw[<-e1, <-e2];cases lo<;>cases hi<;>rfl
def Ru(z:Str)(lo hi:bQ bG):(⟨((jw lo hi 1 z.length).filterMap (z.cps[·]?)).toArray⟩:Str)=nB z lo hi:=by
 rw[GU,Eu];unfold nB qM;have:z.cps.toList.length=z.length:=by simp[Ed]
 rw[this]
def Rv{lo hi:bQ bG}(h:((jw lo hi 1 z.length).length==z.length)=bC):nB z lo hi=z:=by
 have h':(jw lo hi 1 z.length).length=z.length:=dW h;rw[GU,cG,vV]at h';have hb:HT.sIx z.length z.length hi<=z.length:=HT.sIx_le _ _ (cZ _) hi;unfold nB qM;have e:z.cps.toList.length=z.length:=by simp[Ed]
 rw[e];by_cases hz:z.length=0
 .have:z.cps.toList= []:=wb.mp (by rw[e];exact hz);rw[this];cases z with
  |mk c=>
   have:c= #[]:=by apply Array.toList_inj.mp;simpa using this
   subst this;simp
 .have h0:HT.sIx z.length 0 lo=0:=by lia
  rw[h0,L8,List.take_of_length_le (by rw[e];lia)]
def Rw{t:lG}{l u:bQ (bG×lG)}(hz:z.length<=cJ)(h:∀t' k,Q (.str (nB z (l.map (·.1)) (u.map (·.1))) t') {s with toks:=k}):(sliceMade z t l u bK).post Q s:=by
 unfold sliceMade slicePicked;simp only[Option.map_none,DJ];by_cases hc:((1:bG)==1&&(jw (l.map (·.1)) (u.map (·.1)) 1 z.length).length==z.length)=bC
 .rw[cK hc];rw[dB]at hc;have e:=Rv hc.2;have:=h t s.toks;rw[e]at this;exact this
 .rw[dH hc,Ru];refine⟨?_,h _ _⟩;exact jS (GT z _ _) hz
section
variable{a b c:Expr}{g h:ME}{p2:dJ}{m:D->D->bP D}
noncomputable def aZ:D->bQ bG->bQ bG->bP D| .str z,lo,hi=>.ok (.str (nB z lo hi))| .t ds,lo,hi=>.ok (.t (qM ds lo hi))| .l ds,lo,hi=>.ok (.l (qM ds lo hi))|_,_,_=>.bad
def Rx(X:Cx):V->bQ bG->bQ bG->Hp->VK->Prop:=λx lo hi H Q=>∃F d,bT F H/\bM X.K F d x/\fX (bM X.K) F H (aZ d lo hi) Q
def GV{v:bJ}{o:bQ bG}(h:xI v o):∃q:bQ (bG×lG),v=partValue q/\q.map (·.1)=o:=by
 cases h with
 |none=>exact⟨none,rfl,rfl⟩|int i t=>exact⟨bB (i,t),rfl,rfl⟩
def Ry:sj X (Rx X):=by
 intro pc s Y H x v vl vu lo hi sl Q I rx hs pl pu h;obtain⟨F,d,sb,hd,q⟩:=h;cases d with
 |str z=>simp only[bM]at hd;obtain⟨rfl,hz⟩:=hd;obtain⟨t,rfl⟩:=rx;obtain⟨ql,rfl,el⟩:=GV pl;obtain⟨qu,rfl,eu⟩:=GV pu;refine⟨"str",_,PySem.F.slot_str_getitem.lookup,j9 _ _ _,?_⟩;refine wpAny_getItem_str_slice (l:=ql) (u:=qu) (st:=bK) hs rfl (Rw hz λt' k=>?_);rw[el,eu];exact⟨.str _,H,I.tok _,⟨_,rfl⟩,dE q sb (by simp only[bM];exact⟨trivial,jS (GT _ _ _) hz⟩)⟩|t ds=>
  simp only[bM]at hd;obtain⟨p,xs,rfl,g1,l1⟩:=hd;have hl:=l1.length;by_cases hw:HT.sIx ds.length 0 lo=0/\HT.sIx ds.length ds.length hi=ds.length
  .have e:qM ds lo hi=ds:=by
    unfold qM;rw[hw.1,hw.2];simp
   simp only[aZ,e]at q;cases rx;obtain⟨its,r,ht,hz⟩:=I.tuple (bT.seqT sb g1);have hlen:its.toArray.size=ds.length:=by rw[gQ, <-r.length, <-hl]
   refine⟨"tuple",_,gb.lookup,ht.typeIs,?_⟩;exact QJ ht hs pl pu (by rw[hlen];exact hw) ⟨.ref p,H,I,rfl,dE q sb (by simp only[bM];exact⟨p,xs,rfl,g1,l1⟩)⟩
  .simp only[aZ]at q;refine Pp pc s Y H _ v vl vu lo hi sl Q I rx hs pl pu ⟨p,xs,rfl,bT.seqT sb g1,by rw[<-hl];exact hw,λp' hp'=>?_⟩;refine iI q sb ?_ hp';unfold qM aQ;rw[hl];exact DatL.of (sv _ (sw _ l1.paired))
 |l ds=>simp only[bM]at hd;obtain⟨p,xs,rfl,g1,l1⟩:=hd;have hl:=l1.length;refine PH pc s Y H _ v vl vu lo hi sl Q I rx hs pl pu ⟨p,xs,rfl,bT.seq sb g1,λp' hp'=>?_⟩;refine iJ q sb ?_ hp';unfold qM aQ;rw[hl];exact DatL.of (sv _ (sw _ l1.paired))|_=>exact q.elim
abbrev MO:=cS->bP (bQ bG)
def Rz(X:Cx)(f:MO):TO:=λY H Q=>∃O F,hV X.K F H O Y/\fX R.RelO F H (f O) Q
def mo(X:Cx)(e:bQ Expr)(f:MO):Prop:=PO X e (Rz X f)
noncomputable def zR:MO:=λ_=>.ok bK
noncomputable def RA:D->bP (bQ bG)| .int i=>.ok (bB i)|_=>.bad
def xV(f:ME):MO:=λO=>(f O).bind RA
def GW{o:bQ Expr}{t t':TO}(h:PO X o t)(i:∀Y H Q,t' Y H Q->t Y H Q):PO X o t':=λpc s Y H Q I hq=>h pc s Y H Q I (i Y H Q hq)
def RB:mo X bK zR:=GW Pj λY H Q qz=>by obtain⟨O,F,E,q⟩:=qz;exact dE q E.sub bO
def RC(he:IE X e f):mo X (bB e) (xV f):=GW (Pk he) λY H Q ⟨O,F,E,q⟩=>⟨O,F,E,jY q λd v F1 H1 g1 d1 q=>by
 cases d with
 |int i=>simp only[bM]at d1;exact⟨i,d1,dE q g1.sub bO⟩
 |_=>exact q.elim⟩
def xW(f:ME)(l u:MO):ME:=λO=>(f O).bind λd=>(l O).bind λlo=>(u O).bind λhi=>aZ d lo hi
def RD{lo hi:bQ Expr}{l u:MO}(he:IE X e f)(hl:mo X lo l)(hu:mo X hi u):IE X (.Subscript e (.Slice lo hi bK p2) pos) (xW f l u):=gN (Pn Ry he hl hu) λY H Q ⟨O,F,E,q⟩=>⟨O,F,E,jY q λd v F1 H1 g1 d1 q=>⟨O,F1,E.grow g1,jY (R1:=R.RelO) q λy v' F2 H2 g2 d2 q=>by cases(show y=v' from d2);refine⟨O,F2,(E.grow g1).grow g2,jY (R1:=R.RelO) q λz vz F3 H3 g3 d3 q=>?_⟩;cases(show z=vz from d3);exact⟨F3,d,g3.sub,(d1.mono g2.fs).mono g3.fs,q⟩⟩⟩
noncomputable def mq(T:lB):D->bU| .b _=>T== "int" ||T== "bool"| .int _=>T== "int"| .str _=>T== "str"| .t _=>T== "tuple"| .l _=>T== "list"|_=>bH
def nD(T:lB)(d:D):bP D:=.ok (.b (mq T d))
def sG(K:cD)(T:lB):Prop:=wD K (.type "NoneType") (.type T)=bB bH/\wD K (.type "bool") (.type T)=bB (T== "int" ||T== "bool")/\wD K (.type "int") (.type T)=bB (T== "int")/\
 wD K (.type "str") (.type T)=bB (T== "str")/\wD K (.type "tuple") (.type T)=bB (T== "tuple")/\wD K (.type "list") (.type T)=bB (T== "list")/\wD K (.type "dict") (.type T)=bB bH
def RE(K:cD):sG K "int" :=by unfold sG wD qv rf;dsimp only;decide+kernel
def RF(K:cD):sG K "bool" :=by unfold sG wD qv rf;dsimp only;decide+kernel
def RG(K:cD):sG K "str" :=by unfold sG wD qv rf;dsimp only;decide+kernel
def Aq(K:cD):sG K "tuple" :=by unfold sG wD qv rf;dsimp only;decide+kernel
def RH(K:cD):sG K "list" :=by unfold sG wD qv rf;dsimp only;decide+kernel
theorem RI{T:lB}(hk:sG X.K T):jE X (.builtin "isinstance") (λxs H Q=>∃F d v,xs= [v,.ty T]/\bT F H/\bM X.K F d v/\fX (bM X.K) F H (nD T d) Q):=by
 intro pc s Y H xs us Q I r h;obtain⟨F,d,v,rfl,sb,hd,q⟩:=h;obtain⟨k1,k2,k3,k4,k5,k6,k7⟩:=hk;obtain⟨u,w',rfl,r1,r2⟩:=zg r;cases(show w'=cq T from r2);have fO:∀b,b=mq T d->∀tk,EP X pc Y Q (.bool b) {s with toks:=tk}:=λb e tk=>⟨.b b,H,I.tok tk,rfl,by subst e;exact dE q sb (by simp only[bM])⟩
 cases d with
 |n=>simp only[bM]at hd;subst hd;cases r1;exact ig W.kitx_none I.kIn xF k1 (λz=>nomatch z) (fO _ rfl)|b b=>simp only[bM]at hd;subst hd;cases r1;exact ig W.kitx_bool I.kIn xF k2 (λz=>nomatch z) (fO _ rfl)|int i=>simp only[bM]at hd;subst hd;obtain⟨t,rfl⟩:=r1;exact ig W.kitx_int I.kIn xF k3 (λz=>nomatch z) (fO _ rfl)|str z=>simp only[bM]at hd;obtain⟨rfl,_⟩:=hd;obtain⟨t,rfl⟩:=r1;exact ig W.kitx_str I.kIn xF k4 (λz=>nomatch z) (fO _ rfl)|t ds=>simp only[bM]at hd;obtain⟨p,xs,rfl,g1,l1⟩:=hd;cases r1;obtain⟨its,_,⟨o,e1,e2,_⟩,_⟩:=I.tuple (bT.seqT sb g1);exact ig W.kitx_tuple I.kIn ⟨o,e1,e2⟩ k5 (λz=>nomatch z) (fO _ rfl)|l ds=>simp only[bM]at hd;obtain⟨p,xs,rfl,g1,l1⟩:=hd;cases r1;obtain⟨its,_,⟨o,n,e1,e2,_⟩,_⟩:=I.list (bT.seq sb g1);exact ig W.kitx_list I.kIn ⟨o,e1,e2⟩ k6 (λz=>nomatch z) (fO _ rfl)|dct ks ds=>simp only[bM]at hd;obtain⟨p,kvs,rfl,g1,_⟩:=hd;cases r1;obtain⟨_,_,_,_,o,_,_,e1,e2,_⟩:=zt I.hok (sb _ _ g1);exact ig W.kitx_dict I.kIn ⟨o,e1,e2.1⟩ k7 (λz=>nomatch z) (fO _ rfl)
def RJ{T:lB}{tn:Str}(hk:sG X.K T)(ha:IE X a f)(hg:Gl X "isinstance")(hm:X.mg "isinstance" =bK)(hg2:Gl X tn)(hm2:X.mg tn=bK)(hv:qT tn=bB (.type T))(hn:tn≠ "__name__" :=by decide)(hdb:(tn==("__debug__" :Str))=bH:=by decide)
 (he:fK (a:: [.Name tn p1]) X.env=(bH,dX a X.env)::fK [.Name tn p1] X.env:=by rfl):IE X (.Call (.Name "isinstance" p) [a,.Name tn p1] [] pos) (m1 (nD T) f):=by
 refine gN (zk (RI hk) hg hm Xl (nT ha (nT (Nr (v:=.ty T) hg2 hm2 hv bO hn hdb) sW) he) (he:=he)) λY H Q qz=>by obtain⟨O,F,E,q⟩:=qz;exact⟨O,F,E,jY q λd v F1 H1 g1 d1 q=>⟨F1,d,v,rfl,g1.sub,d1,q⟩⟩
structure xX(K:cD)(mg:Str->bQ bJ)(x:Str)(d:D):Prop where
 ex:∃(v:V) (u:bJ),mg x=bB u/\cX v u/\ ∀F,bM K F d v
def RK{d:D}(hg:Gl X x)(C:xX X.K X.mg x d)(hd:(x==("__debug__" :Str))=bH:=by decide):IE X (.Name x pos) (kc d):=by obtain⟨v,u,h1,h2,h3⟩:=C.ex;exact ma (t:=tC v) (kz hg h1 h2 hd) h3
end
noncomputable def a0:bA D->bP (bA bU)| []=>.ok []| .b b::r=>(a0 r).bind λbs=>.ok (b::bs)|_::_=>.bad
theorem GX:∀{ds:bA D} {bs:bA bU},a0 ds= .ok bs->ds=bs.map .b
 | [],bs,h=>by cases h;rfl|d::r,bs,h=>by
  cases d with
  |b b=>
   simp only[a0]at h;cases q:a0 r with
   |ok cs=>rw[q]at h;cases h;rw[GX q];rfl|bad=>rw[q]at h;cases h
  |_=>cases h
noncomputable def a8:bA D->bP D| [.l ds]=>(a0 ds).bind λbs=>.ok (.b (bs.all id))|_=>.bad
def RL(bs:bA bU):(kL bs.length).all (λi=>bs.getD i bC)=bs.all id:=by
 induction bs with
 |nil=>rfl|cons b r ih=>rw[dC,Dr,lS,D3,lS, <-ih];rfl
section
variable{a b c o:Expr}{g h:ME}{p2:dJ}{m:D->D->bP D}
def RM(hc:X.calm=bC):jE X (.builtin "all") (sZ X a8):=by
 intro pc s Y H xs us Q I r h;obtain⟨F,ds,sb,hl,q⟩:=h;unfold a8 at q;split at q
 .rename_i es;obtain⟨x,rfl,hx⟩:=mM hl;simp only[bM]at hx;obtain⟨p,ys,rfl,g1,l1⟩:=hx;obtain⟨u,rfl,ru⟩:=pG r;cases ru;cases hb:a0 es with
  |ok bs=>
   rw[hb]at q;have e:=GX hb;subst e;obtain⟨its,rv,pl,hz⟩:=I.list (bT.seq sb g1);have hh:X.A.in1.handled=none:=I.ok.hd hc;have hne:p≠s.heap.objs.size:=by obtain⟨ob,n,e,_⟩:=pl;exact gX (fU e)
   refine call_all_walk (gj pl.isList ?_);have hil:(s.heap.push {cls:=.type "list_iterator",data:=.fields #[.ref p,.int 0 0]}).IsList p its.toArray:=by obtain⟨ob,e,c,d⟩:=pl.isList;exact⟨ob,fC _ e,c,d⟩
   refine⟨s.heap.objs.size,_,_,_,_,_,λi=>bs.getD i bC,rfl,MG hh s.heap.objs.size p hne its.toArray,⟨⟨_,lA _ rfl,rfl,rfl⟩,hil⟩,?_,λh' tk hk=>?_⟩
   .intro i v s' Q' E' hi hq;have hi':its[i]? =some v:=by simpa using hi
    obtain⟨x',hx',rx'⟩:=l7 rv hi';obtain⟨d,hd,dx⟩:=l7 l1.paired hx';rw[pB]at hd;cases hbi:bs[i]? with
    |none=>rw[hbi]at hd;cases hd|some b=>
     rw[hbi]at hd;cases hd;simp only[bM]at dx;subst dx;cases rx';refine aq ?_;have e0:bs.getD i bC=b:=by rw[rR,hbi];rfl
     have hq':Q' (bs.getD i bC) s':=hq;rw[e0]at hq';exact hq'
   .have hn:its.toArray.size=bs.length:=by
     rw[gQ, <-rv.length, <-l1.length,cG]
    rw[hn,RL]
    have I1:bR X pc Y H {s with heap:=h',toks:=tk}:=I.kept λb ob e=>hk b ob (λz=>by
     have z':b=s.heap.objs.size:=by simpa using z
     exact dD (fU e) (by rw[z'];exact ci _)) (fC _ e)
    exact⟨.b _,H,I1,rfl,dE q sb (by simp only[bM])⟩
  |bad=>rw[hb]at q;cases q
 .cases q
noncomputable def RN:D->bP Str| .str z=>.ok z|_=>.bad
def vJ(m:Str->bA D->bP D)(f:ME)(fa:MA):ME:=λO=>(f O).bind λd=>(RN d).bind λz=>(fa O).bind λds=>m z ds
def eD(X:Cx)(m:Str->bA D->bP D):V->bA V->Hp->VK->Prop:=λx xs H Q=>∃F z ds,bT F H/\x= .str z/\z.length<=cJ/\DatL X.K F ds xs/\fX (bM X.K) F H (m z ds) Q
def RO{m:Str->bA D->bP D}{name:Str}{id:lB}(slot:Eh "str" name id)(hty:yr (.builtin id)=fE (.type "method_descriptor"))(hm:aR X id (eD X m))(ho:IE X o f)(ha:IA X (e::es) fa)
 (hbase:yT o name X.env (dX o X.env)=dX o X.env:=by rfl)
 (hfew:((kU pos (fK (e::es) X.env)).all (λx=> !x.1)&&(cv pos (cj [] X.env)).all (λx=>x.1.isSome)
   &&cN ((e::es).length+([]:bA tV).length+(if([]:bA tV).isEmpty then 0 else 1)<30))=bC:=by rfl)
 (hline:(apos.endLine==pos.line)=bC:=by rfl) (hs:fK (e::es) X.env=(bH,dX e X.env)::fK es X.env:=by rfl) (hplain:(kU pos (fK es X.env)).any (·.1)=bH:=by rfl):
 IE X (.Call (.Attribute o name apos) (e::es) [] pos) (vJ m f fa):=gN (sn PySem.F.plainAttrs_str slot hty hm ho ha hbase hfew hline hs hplain) λY H Q ⟨O,F,E,q⟩=>⟨O,F,E,jY q λd v F1 H1 g1 d1 q=>by
 cases d with
 |str z=>simp only[bM]at d1;obtain⟨rfl,hz⟩:=d1;exact⟨rfl,O,F1,E.grow g1,jY (show fX (bM X.K) F1 H1 ((fa O).bind λds=>m z ds) Q from q) λy v' F2 H2 g2 d2 q=>⟨F2,z,y,g2.sub,rfl,hz,d2,q⟩⟩
 |_=>exact q.elim⟩
noncomputable def As(z:Str):bA D->bP D| [.str y]=>.ok (.int (Txt.find z y))|_=>.bad
def RP:aR X "str.find" (eD X As):=by
 intro pc s Y H x xs v us Q I rx rs h;obtain⟨F,z,ds,sb,rfl,hz,hl,q⟩:=h;obtain⟨t,rfl⟩:=rx;unfold As at q;split at q
 .obtain⟨x,rfl,hx⟩:=mM hl;simp only[bM]at hx;obtain⟨rfl,_⟩:=hx;obtain⟨u,rfl,t',rfl⟩:=pG rs;exact PySem.SC.find ⟨.int _,H,I.tok _,⟨_,rfl⟩,dE q sb (by simp only[bM])⟩
 .cases q
noncomputable def vK(z:Str):bA D->bP D| [.str y]=>.ok (.b (w5 z y))|_=>.bad
def RQ:aR X "str.startswith" (eD X vK):=by
 intro pc s Y H x xs v us Q I rx rs h;obtain⟨F,z,ds,sb,rfl,hz,hl,q⟩:=h;obtain⟨t,rfl⟩:=rx;unfold vK at q;split at q
 .obtain⟨x,rfl,hx⟩:=mM hl;simp only[bM]at hx;obtain⟨rfl,_⟩:=hx;obtain⟨u,rfl,t',rfl⟩:=pG rs;exact PySem.SC.startswith ⟨.b _,H,I,rfl,dE q sb (by simp only[bM])⟩
 .cases q
def RS{w:cF}{t u:lG}(hy:(y.length==0)=false)(hsz:x.length+2<=cJ)
 (hq:∀l k,l.map (·.1)=wC x y->Q (.ref s.heap.objs.size) {s with heap:=s.heap.push {cls:=.type "list",data:=.seq (Em l).toArray},toks:=k}):
 wpAny (cA prog w) A (call (.builtin "str.split") [.str x t,.str y u]) Q E s:=by
 have hle:=split_le x y;cases h1:(cN (x.length<y.length)||decide (Lo x<Lo y))with
 |true=>
  have e:wC x y= [x]:=by unfold wC;rw[cK h1]
  exact cr pi (j9 _ _ _) Dk (Dg _ _) (meets_str_split_cannot_occur x y t u h1) (hq [(x,t)] s.toks (by rw[e];rfl))
 |false=>
  cases hf:(Dl x y 0 x.length (x.length+1)).isEmpty with
  |true=>
   have e:wC x y= [x]:=by unfold wC;rw[dH (by rw[h1];decide),cK hf]
   exact cr pi (j9 _ _ _) Dk (Dg _ _) (meets_str_split_not_found x y t u h1 hy hf) (hq [(x,t)] s.toks (by rw[e];rfl))
  |false=>
   have e:wC x y=KS x (Dl x y 0 x.length (x.length+1)) y.length:=by unfold wC;rw[dH (by rw[h1];decide),dH (by rw[hf];decide)]
   have hn:(KS x (Dl x y 0 x.length (x.length+1)) y.length).length<=cJ:=by rw[<-e];lia
   refine cr pi (j9 _ _ _) Dk (Dg _ _) (meets_str_split_sep x y t u h1 hy hf cI hn) ?_;rw[strsFrom_eq];exact hq (numbered s.toks _) _ (by rw[numbered_texts,e])
theorem GY:∀(l:bA (Str×lG)),cW (l.map λp=>V.str p.1) (Em l)| []=>.nil|p::r=>.cons ⟨p.2,rfl⟩ (GY r)
theorem Au:∀(ts:bA Str),(∀x∈ts,x.length<=cJ)->DatL K F (ts.map .str) (ts.map V.str)| [],_=>DatL.nil|x::r,h=>DatL.cons (by simp only[bM];exact⟨trivial,h x fW⟩) (Au r λy hy=>h y (gI _ hy))
theorem GZ:∀{l:bA Str} {x:Str},x∈l->x.length<=(l.map (·.length)).sum
 |y::r,x,h=>by
  rw[dY,qb];rcases kS.mp h with rfl|h
  .lia
  .have:=GZ h;lia
noncomputable def eF(z:Str):bA D->bP D| [.str y]=>if y.length≠0/\z.length+2<=cJ then .ok (.l ((wC z y).map .str))else .bad|_=>.bad
def G0:aR X "str.split" (eD X eF):=by
 intro pc s Y H x xs v us Q I rx rs h;obtain⟨F,z,ds,sb,rfl,hz,hl,q⟩:=h;obtain⟨t,rfl⟩:=rx;unfold eF at q;split at q
 .rename_i y;obtain⟨x,rfl,hx⟩:=mM hl;simp only[bM]at hx;obtain⟨rfl,_⟩:=hx;obtain⟨u,rfl,t',rfl⟩:=pG rs;split at q
  .rename_i hc;refine RS (by simpa using hc.1) hc.2 λl k hl'=>?_
   have hw:=split_weight z y cI;have hsz:∀x∈wC z y,x.length<=cJ:=λx hx=>by
    have:=GZ hx
    lia
   have ev:(l.map λp=>V.str p.1)=(wC z y).map V.str:=by rw[<-hl',mS];rfl
   have r:=GY l;rw[ev]at r;refine⟨.ref _,_,I.lnew (t':=k) r (by rw[cG];have:=split_le z y;lia),rfl,iJ q sb (Au _ hsz) I.fresh⟩
  .cases q
 .cases q
end
def RT(hu:X.A.units+200<lD):dQ X (hJ .In) (rD X (dU bH)):=GE (neg:=bH) hu
def RU(hu:X.A.units+200<lD):dQ X (hJ .NotIn) (rD X (dU bC)):=GE (neg:=bC) hu
def ui(hr:fY k A):A.units+100<lD:=by have:=hr.un;lia
def G1(hr:fY k A):A.units+200<lD:=by have:=hr.un;lia
def G2{sc:kW}{js:bA bD}(hN:X.N=N)(hS:X.env.scope=sc)(h1:scope.kind= .function)(h2:(scope.names.all λy=>cN (y.2≠ .cell))=bC)
 (h3:(scope.names.all λy=>cN (y.2= .local->scope.names.lookup y.1=bB .local))=bC) (h4:(os.all λx=>cN (scope.names.lookup x=bB .local))=bC)
 (h5:(scope.names.all λy=>cN (y.2= .free->sc.names.lookup y.1=bB .cell\/sc.names.lookup y.1=bB .free))=bC) (h6:(os++caps).Nodup) (h7:caps.length=js.length)
 (h8:((caps.zip js).all λq=>cN (N[q.2]? =bB q.1)&&cN (scope.names.lookup q.1=bB .free))=bC):qK X scope os caps js where
 kind:=h1
 nocell:=λy hy=>mJ (qR.mp h2 y hy)
 names:=λy hy=>mJ (qR.mp h3 y hy)
 loc:=λy hy=>mJ (qR.mp h4 y hy)
 fr:=λy hy hf=>by have:=mJ (qR.mp h5 y hy) hf;show X.env.scope.names.lookup y.1=_\/X.env.scope.names.lookup y.1=_;rw[hS];exact this
 nd:=h6
 len:=h7
 cap:=λk y j hy hj=>by
  have hm:(y,j)∈caps.zip js:=by
   have:(caps.zip js)[k]? =bB (y,j):=by rw[List.getElem?_zip_eq_some];exact⟨hy,hj⟩
   exact Dv this
  have:=qR.mp h8 _ hm;rw[dB]at this;rw[hN];exact⟨mJ this.1,mJ this.2⟩
def Av:xU X [] λ_=>.ok bC:=.inl ⟨rfl,rfl⟩
def RV{p:MT}(h:IT X e p):xU X [e] p:=.inr ⟨e,rfl,h⟩
def G3{w:cF}{CX:wH}{f:bI}(hm:∀ds,m ds= .bad):dZ P w K mg base CX k f fd ps (pJ K m):=by
 have no:∀vs H Q E,¬ pJ K m vs H Q E:=λvs H Q E h=>by obtain⟨F,ds,_,_,_,q⟩:=h;rw[hm ds]at q;exact q
 exact⟨λvs H Q E h=>dD h (no vs H Q E),λA outer s H args us vs Q E _ _ _ _ h=>dD h (no vs H Q E)⟩
structure xY(P:fM)(w:cF)(K:cD)(mg:Str->bQ bJ)(base:cB)(k:bD)(x:Str)(m:bA D->bP D):Prop where
 ex:∃(f:bI) (fd:gJ) (ps:bA Str),dZ P w K mg base fF k f fd ps (pJ K m)/\mg x=bB (.ref f)/\lY K (.ref f)=bC/\lH K fd ps []
def xY.of(h:xY X.prog X.w X.K X.mg X.base k x m):Ge X k x m:=⟨h.ex⟩
def RW{p:bI}{o:cQ}{its:bA bJ}{ts:bA Str}(hm:mg x=bB (.ref p))(hk:K.lookup p=bB o)(hc:o.cls= .type "tuple" /\o.dict=bK)(hd:o.data= .seq its.toArray n)
 (hz:ts.length<=1000) (hl:∀t∈ts,t.length<=cJ) (hv:cW (ts.map V.str) its):xX K mg x (.t (ts.map .str)):=by
 refine⟨.ref p,.ref p,hm,rfl,λF=>?_⟩;simp only[bM];refine⟨p,ts.map V.str,rfl,.inr ⟨o,its.toArray,n,hk,hc,hd,?_,by simpa using hv⟩,Au ts hl⟩;rw[gQ, <-hv.length,cG];have:=sR
 lia
def zS{i:bG}{t:lG}(hm:mg x=bB (.int i t)):xX K mg x (.int i):=⟨.int i,.int i t,hm,⟨t,rfl⟩,λF=>by simp only[bM]⟩
def ul(K:cD):Sp:=λvs H Q _=>∃(a:bI) (ns:bA bG) (F:Hp),vs= [.ref a]/\pH F H/\bT F H/\gS K F a (ns.map V.int)/\ns.length<=63/\ ∀H',Q (.b bC) H'
theorem G4:∀ns:bA bG,DatL K F (ns.map .int) (ns.map V.int)| []=>DatL.nil|n::r=>DatL.cons (by simp only[bM]) (G4 r)
theorem RX{w:cF}{f:bI}(F:dZ P w K mg base fF k f fd ps (pJ K m))
 (hm:∀ns:bA bG,ns.length<=63->m [.l (ns.map .int)]= .ok (.b bC)):dZ P w K mg base fF k f fd ps (ul K):=F.imp λvs H Q E ⟨a,ns,Fa,e,ti,sb,hS,hl,q⟩=>by
 subst e;refine⟨Fa,[.l (ns.map .int)],ti,sb,DatL.cons (by simp only[bM];exact⟨a,_,rfl,hS,G4 ns⟩) DatL.nil,?_⟩;rw[hm ns hl];intro v F' H' g d;simp only[bM]at d;subst d;exact q H'
def wK(hr:fY k A):A.units+1<lD:=by have:=hr.un;lia
noncomputable def gE:Expr->bU| .Starred _ _=>bC|_=>bH
def gC(h:gE e=bH):fK (e::es) env=(bH,dX e env)::fK es env:=by cases e<;>first|rfl| (exact yS h)
def fG(es:bA Expr):bU:=es.all λe=> !gE e
theorem mN:∀{es:bA Expr},fG es=bC->(kU pos (fK es env)).any (·.1)=bH| [],_=>rfl|e::es,h=>by unfold fG at h;rw[lS,dB]at h;rw[gC (by simpa using h.1)];show(bH||(kU pos (fK es env)).any (·.1))=bH;rw[Mj];exact mN h.2
theorem eI:∀{es:bA Expr},fG es=bC->(kU pos (fK es env)).all (λx=> !x.1)=bC| [],_=>rfl|e::es,h=>by unfold fG at h;rw[lS,dB]at h;rw[gC (by simpa using h.1)];show(bC&&(kU pos (fK es env)).all λx=> !x.1)=bC;rw[aA];exact eI h.2
structure jZ(N:bA Str)(sc:kW)(i:bD)(x:Str):Prop where
 n:N[i]? =bB x
 v:sc.names.lookup x=bB .local\/sc.names.lookup x=bB .cell\/sc.names.lookup x=bB .free
 d:(x==("__debug__" :Str))=bH
 c:(x==("__classdict__" :Str))=bH
section
variable{a b c o:Expr}{g h:ME}{p2:dJ}
def jU(h:jZ X.N X.env.scope i x):IE X (.Name x pos) (gv i):=Qj i (qG h.n h.v h.d h.c)
def G5{x j}(hx:Nat.ble x.length cJ=bC):IE X (.Constant (.str x) j pos) (kc (.str x)):=Ql (Du hx)
def mH{r:MA}(hs:gE e=bH)(ha:IE X e f)(hr:IA X es r):IA X (e::es) (aC f r):=tz ha hr (gC hs)
def wL(C:xY X.prog X.w X.K X.mg X.base k x m)(hr:fY k X.A)(hg:X.env.scope.names.lookup x=bB .globalImplicit)(hn:fG (e::es)=bC)(hd:(x==("__debug__" :Str))=bH)(ha:IA X (e::es) fa):
 IE X (.Call (.Name x p) (e::es) [] pos) (mA m fa):=by
 have h1:gE e=bH/\fG es=bC:=by unfold fG at hn;rw[lS,dB]at hn;exact⟨by simpa using hn.1,hn.2⟩
 exact Qv (xY.of C) hr hg ha hd (gC h1.1) (mN h1.2)
def Aw{id:lB}(hc:jE X (.builtin id) r)(ho:iM X r m)(hg:X.env.scope.names.lookup x=bB .globalImplicit)(hm:X.mg x=bK)(hv:qT x=bB (.builtin id))(hn:fG (e::es)=bC)
 (hd:(x==("__debug__" :Str))=bH) (hnm:(x==("__name__" :Str))=bH) (ha:IA X (e::es) fa):IE X (.Call (.Name x p) (e::es) [] pos) (mA m fa):=by
 have h1:gE e=bH/\fG es=bC:=by unfold fG at hn;rw[lS,dB]at hn;exact⟨by simpa using hn.1,hn.2⟩
 exact Qt hc ho hg hm hv ha (by intro z;rw[z]at hnm;simp at hnm) hd (gC h1.1) (mN h1.2)
def G6{id:lB}(hc:jE X (.type id) r)(ho:iM X r m)(hg:X.env.scope.names.lookup x=bB .globalImplicit)(hm:X.mg x=bK)(hv:qT x=bB (.type id))(hn:fG (e::es)=bC)
 (hd:(x==("__debug__" :Str))=bH) (hnm:(x==("__name__" :Str))=bH) (ha:IA X (e::es) fa):IE X (.Call (.Name x p) (e::es) [] pos) (mA m fa):=by
 have h1:gE e=bH/\fG es=bC:=by unfold fG at hn;rw[lS,dB]at hn;exact⟨by simpa using hn.1,hn.2⟩
 exact Qu hc ho hg hm hv ha (by intro z;rw[z]at hnm;simp at hnm) hd (gC h1.1) (mN h1.2)
def Ax{T:lB}{tn:Str}(hk:sG X.K T)(hs:gE a=bH)(hg:X.env.scope.names.lookup ("isinstance" :Str)=bB .globalImplicit)(hm:X.mg "isinstance" =bK)(hg2:X.env.scope.names.lookup tn=bB .globalImplicit)(hm2:X.mg tn=bK)(hv:qT tn=bB (.type T))
 (hd:(tn==("__debug__" :Str))=bH) (hnm:(tn==("__name__" :Str))=bH) (ha:IE X a f):IE X (.Call (.Name "isinstance" p) [a,.Name tn p1] [] pos) (m1 (nD T) f):=
 RJ hk ha hg hm hg2 hm2 hv (by intro z;rw[z]at hnm;simp at hnm) hd (gC hs)
def eJ{d:D}(hg:X.env.scope.names.lookup x=bB .globalImplicit)(C:xX X.K X.mg x d)(hd:(x==("__debug__" :Str))=bH):IE X (.Name x pos) (kc d):=RK hg C hd
def G7{m:Str->bA D->bP D}{name:Str}{id:lB}(slot:Eh "str" name id)(hty:yr (.builtin id)=fE (.type "method_descriptor"))(hm:aR X id (eD X m))(hn:fG (e::es)=bC)(hl:rg ((e::es).length) 30=bC)(hline:(apos.endLine==pos.line)=bC)
 (hbase:yT o name X.env (dX o X.env)=dX o X.env) (ho:IE X o f) (ha:IA X (e::es) fa):IE X (.Call (.Attribute o name apos) (e::es) [] pos) (vJ m f fa):=by
 have h1:gE e=bH/\fG es=bC:=by unfold fG at hn;rw[lS,dB]at hn;exact⟨by simpa using hn.1,hn.2⟩
 refine RO slot hty hm ho ha hbase ?_ hline (gC h1.1) (mN h1.2);rw[eI hn];have hl':(e::es).length<30:=Du hl;show(bC&&bC&&cN ((e::es).length+0+(if([]:bA tV).isEmpty then 0 else 1)<30))=bC;simp only[LL,qX,aA];exact mQ cI
def RY(hg:X.env.scope.names.lookup ("range" :Str)=bB .globalImplicit)(hm:X.mg "range" =bK)(hs:gE a=bH)(hi:IE X a f):II X tg (.Call (.Name "range" p) [a] [] pos) (kG f):=
 Rj hg hm hi (by rw[gC hs];rfl)
noncomputable def xZ:Expr->bU| .ListComp _ _ _ _=>bC| .SetComp _ _ _ _=>bC| .DictComp _ _ _ _ _=>bC|_=>bH
def yA{t:bQ Expr}{l:bD}(h:xZ e=bH):aE e t l env=fE bH:=by cases e<;>first|rfl| (exact yS h)
def RZ(hN:X.N.Nodup)(hi:X.N[i]? =bB x)(hx:Loc X.env.scope x)(hs:xZ e=bH)(hf:X.fn x=bC\/X.env.scope.names.lookup x=bB .local)(he:IE X e f):IS X (.Assign [.Name x p] e pos) (cR i f):=
 Gi (λt h=>lf (i:=i) hN hi hx h (yA hs) hf) he
def R3(hs:xZ e=bH)(he:IE X e f):IS X (.Expr e pos) (eA f):=QF he (yA hs)
end
variable [fZ] [Pd]
section
variable{a b c o:Expr}{g h:ME}{p2:dJ}
noncomputable def um:Expr->bU| .Name _ _=>bC| .Constant (.int _) _ _=>bC| .BinOp _ _ _ _=>bC| .UnaryOp _ _ _=>bC| .Call _ _ _ _=>bC| .Subscript _ _ _=>bC| .Attribute _ _ _=>bC|_=>bH
def G8(h:um b=bC):sk b:=by
 cases b<;>first
  | (exact yS h)
  | (intro _ _;rfl)
  | (rename_i k _ _;cases k<;>first| (exact yS h)| (intro _ _;rfl))
def vL(hu:X.A.units+1<lD)(hs:um b=bC)(ha:IE X a f)(hb:IE X b g):IE X (.Subscript a b pos) (m2 cV f g):=Ra hu ha hb (G8 hs)
noncomputable def Ay:Expr->bU| .Name _ _=>bC| .Call _ _ _ _=>bC| .Subscript _ _ _=>bC| .Attribute _ _ _=>bC| .BinOp _ _ _ _=>bC|_=>bH
def R4(h:Ay a=bC):∀whole,isTrue a env whole=(do let v <-whole;iu a.pos;c6 [v] (yp v)):=by
 cases a<;>first
  | (exact yS h)
  | (intro _;rfl)
def vM(hs:Ay a=bC)(ha:IE X a f):IT X a (mT f):=Qy ha (R4 hs)
noncomputable def eK:Expr->bU| .Name _ _=>bC| .Call _ _ _ _=>bC| .Subscript _ _ _=>bC| .BinOp _ _ _ _=>bC| .ListComp _ _ _ _=>bC| .Tuple _ _ _=>bC| .List _ _=>bC|_=>bH
def ba(h:eK a=bC):∀x,ar a env x=fE x:=by
 cases a<;>first
  | (exact yS h)
  | (intro _;rfl)
end
end
section
variable [fZ] [Pd]
section
variable{a b c:Expr}{g h:ME}{p2:dJ}
noncomputable def Az:bA D->bP D| [.int i]=>.ok (.int (if i<0 then-i else i))|_=>.bad
def R5:jE X (.builtin "abs") (sZ X Az):=by
 intro pc s Y H xs us Q I r h;obtain⟨F,ds,sb,hl,q⟩:=h;unfold Az at q;split at q
 .obtain⟨x,rfl,hx⟩:=mM hl;simp only[bM]at hx;subst hx;exact OI pc s Y H _ us Q I r ⟨_,rfl,dE q sb (by simp only[bM])⟩
 .cases q
def G9(h:n<2^64):n.log2<1920:=by
 by_cases h0:n=0
 .subst h0;decide
 .have:=(Nat.log2_lt h0).mpr h
  lia
def R6:jE X (.type "str") (sZ X vI):=by
 intro pc s Y H xs us Q I r h;obtain⟨F,ds,sb,hl,q⟩:=h;unfold vI at q;split at q
 .obtain⟨x,rfl,hx⟩:=mM hl;simp only[bM]at hx;subst hx;split at q
  .rename_i hi;exact OL pc s Y H _ us Q I r ⟨_,rfl,G9 hi,dE q sb (by simp only[bM];exact⟨trivial,int_text_fits (G9 hi)⟩)⟩
  .cases q
 .obtain⟨x,rfl,hx⟩:=mM hl;have hx':=hx;simp only[bM]at hx;obtain⟨rfl,hz⟩:=hx;obtain⟨u,rfl,ru⟩:=pG r;obtain⟨t,rfl⟩:=ru;exact PySem.P.str_of_str ⟨.str _,H,I,⟨_,rfl⟩,dE q sb hx'⟩
 .cases q
noncomputable def kH:D->D->bP D| .int i,.int j=>.ok (.b (!(i==j)))| .str x,.str y=>.ok (.b (!(x==y)))| .t xs,.t ys=>if depL xs<=90/\depL ys<=90 then .ok (.b (!eqL xs ys))else .bad|_,_=>.bad
def R7(hu:X.A.units+100<lD):dQ X (hJ .NotEq) (rD X kH):=by
 intro pc s Y H x y v u Q I rx ry h;obtain⟨F,d1,d2,sb,h1,h2,q⟩:=h;cases d1<;>cases d2<;>try exact q.elim
 .rename_i i j;simp only[bM]at h1 h2;subst h1 h2;refine E5 pc s Y H _ _ v u Q I rx ry ⟨rfl,?_⟩;have e:(!cN ((V.int i)=V.int j))= !(i==j):=by
   by_cases q:i=j
   .subst q;simp
   .simp[q]
  first| (rw[e];exact dE q sb (by simp only[bM]))|skip
 .rename_i i j;simp only[bM]at h1 h2;obtain⟨rfl,_⟩:=h1;obtain⟨rfl,_⟩:=h2;refine E5 pc s Y H _ _ v u Q I rx ry ⟨rfl,?_⟩;have e:(!cN ((V.str i)=V.str j))= !(i==j):=by
   by_cases q:i=j
   .subst q;simp
   .simp[q]
  first| (rw[e];exact dE q sb (by simp only[bM]))|skip
 .rename_i ds es;replace q:fX (bM X.K) F H (if depL ds<=90/\depL es<=90 then .ok (.b (!eqL ds es))else .bad) Q:=q;split at q
  .rename_i hz;simp only[bM]at h1 h2;obtain⟨p1,xs,rfl,s1,l1⟩:=h1;obtain⟨p2,ys,rfl,s2,l2⟩:=h2;cases rx;cases ry;obtain⟨i1,r1,t1,_⟩:=I.tuple (bT.seqT sb s1);obtain⟨i2,r2,t2,_⟩:=I.tuple (bT.seqT sb s2);have z:=XT (A:=X.A) t1 t2 cI (GB (λd e x y u v q z a b c f=>(Ae (n:=90) I sb jB X.A.in1 d e x y u v q z (by show X.A.units+1+90<lD;lia) a b c f).2) hz.1 cI l1 r1 l2 r2);rw[gQ,gQ, <-r1.length, <-r2.length, <-l1.length, <-l2.length, <-ud]at z;exact z X.prog X.w X.xe _ ⟨.b _,H,I,rfl,dE q sb (by simp only[bM])⟩
  .cases q
def bc(i j:bD)(f:ME):MS:=λO=>(f O).bind λd=>match d with| .t [x,y]=>.ok (.nx ((O.set i (.val x)).set j (.val y)))|_=>.bad
def R8(hp:∀t,PE X e t->PS X (.Assign [.Tuple [.Name x px,.Name y py] k pt] e pos) (lb t (iD X.K 2 (wG (qZ i) (wG (qZ j) iC)))))(he:IE X e f):
 IS X (.Assign [.Tuple [.Name x px,.Name y py] k pt] e pos) (bc i j f):=λFa Ha=>mC (hp _ he) λE Y H q=>
 t8 (k:=λd O=>match d with| .t [x,y]=>.ok (.nx ((O.set i (.val x)).set j (.val y)))|_=>.bad) (λO F H d v S r q=>by
  cases d with
  |t ds=>
   cases ds with
   |nil=>exact q.elim|cons d1 ds=>
    cases ds with
    |nil=>exact q.elim|cons d2 ds=>
     cases ds with
     |cons _ _=>exact q.elim|nil=>simp only[bM]at r;obtain⟨p,xs,rfl,g1,l1⟩:=r;simp only[DatL]at l1;obtain⟨x1,r1,rfl,h1,x2,r2,rfl,h2,rfl⟩:=l1;exact⟨p,_,rfl,bT.seqT S.env.sub g1,rfl,x1,_,rfl,x2,_,rfl,rfl,q _ F H ((S.set i h1).set j h2)⟩
  |_=>exact q.elim) q
def R9(hc:X.calm=bC)(hN:X.N.Nodup)(hi:X.N[i]? =bB x)(hx:Loc X.env.scope x)(hj:X.N[j]? =bB y)(hy:Loc X.env.scope y)
 (hf:X.fn x=bC\/X.env.scope.names.lookup x=bB .local) (hf':X.fn y=bC\/X.env.scope.names.lookup y=bB .local)
 (h1:(tR [.Name x px,.Name y py] X.env).length=2) (h2:(tR [.Name x px,.Name y py] X.env).findIdx? (·.1)=bK)
 (h3:(tR [.Name x px,.Name y py] X.env).map (·.2)=yY (.Name x px) X.env::(tR [.Name y py] X.env).map (·.2))
 (h4:(tR [.Name y py] X.env).map (·.2)=yY (.Name y py) X.env::(tR [] X.env).map (·.2))
 (hs:DP [.Tuple [.Name x px,.Name y py] k pt] e pos.line X.env=fE bH) (hw:DQ [.Tuple [.Name x px,.Name y py] k pt] e X.env=fE bK)
 (h5:(tR [.Tuple [.Name x px,.Name y py] k pt] X.env).map (·.2)= [yY (.Tuple [.Name x px,.Name y py] k pt) X.env]) {t:TE} (he:PE X e t):
 PS X (.Assign [.Tuple [.Name x px,.Name y py] k pt] e pos) (lb t (iD X.K 2 (wG (qZ i) (wG (qZ j) iC)))):=
 NP he (EW hc (r8 (dm hN hi hx hf) (r8 (dm hN hj hy hf') EV h4) h3) h1 h2) hs hw h5
def Sa(hc:X.calm=bC)(hN:X.N.Nodup)(hi:X.N[i]? =bB x)(hx:Loc X.env.scope x)(hj:X.N[j]? =bB y)(hy:Loc X.env.scope y)
 (hf:X.fn x=bC\/X.env.scope.names.lookup x=bB .local) (hf':X.fn y=bC\/X.env.scope.names.lookup y=bB .local)
 (hs:DP [.Tuple [.Name x px,.Name y py] k pt] e pos.line X.env=fE bH) (hw:DQ [.Tuple [.Name x px,.Name y py] k pt] e X.env=fE bK) (he:IE X e f):
 IS X (.Assign [.Tuple [.Name x px,.Name y py] k pt] e pos) (bc i j f):=
 R8 (λt ht=>R9 hc hN hi hx hj hy hf hf' bO bO bO bO hs hw bO ht) he
noncomputable def jQ(neg:bU):D->D->bP D| .n,.n=>.ok (.b (!neg))|_,.n=>.ok (.b neg)|_,_=>.bad
def Hb{d:D}(h:bM K F d v):jQ neg d .n= .ok (.b (neg != cN (v= .n))):=by
 cases d<;>simp only[bM]at h
 .subst h;cases neg<;>rfl
 .subst h;cases neg<;>rfl
 .subst h;cases neg<;>rfl
 .obtain⟨rfl,_⟩:=h;cases neg<;>rfl
 all_goals (obtain⟨a,xs,rfl,_⟩:=h;cases neg<;>rfl)
def Sb:dQ X (hJ .Is) (rD X (jQ bH)):=by
 intro pc s Y H x y v u Q I rx ry h;obtain⟨F,d1,d2,sb,h1,h2,q⟩:=h;cases d2<;>try (cases d1<;>exact q.elim)
 simp only[bM]at h2;subst h2;rw[Hb h1]at q;refine Oz pc s Y H _ _ v u Q I rx ry ⟨rfl,?_⟩;have:=dE q sb (b:=V.b (bH != cN (x= .n))) (by simp only[bM]);simpa using this
def Se:dQ X (hJ .IsNot) (rD X (jQ bC)):=by
 intro pc s Y H x y v u Q I rx ry h;obtain⟨F,d1,d2,sb,h1,h2,q⟩:=h;cases d2<;>try (cases d1<;>exact q.elim)
 simp only[bM]at h2;subst h2;rw[Hb h1]at q;refine OA pc s Y H _ _ v u Q I rx ry ⟨rfl,?_⟩;have:=dE q sb (b:=V.b (bC != cN (x= .n))) (by simp only[bM]);simpa using this
end
def mv(K:cD)(c:bA (bI×HO))(m:bA D->bP D):Sp:=λvs H Q _=>∃F ds,pH F H/\bT F H/\(∀p∈c,F p.1=bB p.2)/\DatL K F ds vs/\fX (bM K) F H (m ds) Q
structure vN(P:fM)(w:cF)(K:cD)(mg:Str->bQ bJ)(base:cB)(n:bD)(v:V)(c:bA (bI×HO))(m:bA D->bP D):Prop where
 ex:∃(a:bI) (fd:gJ) (ps:bA Str),v= .ref a/\((∃o fd',base.get? a=bB o/\o.data= .func fd')\/lY K (.ref a)=bC)/\dZ P w K mg base fF n a fd ps (mv K c m)/\lH K fd ps []
def Sh{Q:VK}{E:XK}(h:mv K [] m vs H Q E):pJ K m vs H Q E:=by obtain⟨F,ds,h1,h2,_,h3⟩:=h;exact⟨F,ds,h1,h2,h3⟩
open Classical in
def be(i:bD)(v:V)(c:bA (bI×HO))(m:bA D->bP D)(fa:MA):ME:=λO=>if O[i]? =bB (.is v c)then(fa O).bind m else .bad
def Si{g:Hp->Prop}(hg:∀F F',bT F F'->g F->g F')(hd:∀F H ds vs Q,pH F H->bT F H->g F->DatL X.K F ds vs->fX (bM X.K) F H (m ds) Q->r vs H Q){Q:VK}(E:hV X.K F H O Y)(gF:g F)
 (q:fX (bM X.K) F H ((fa O).bind m) Q):er X fa Y H λvs H1=>r vs H1 Q:=by
 exact⟨O,F,E,jY q λd v F1 H1 g1 d1 q=>hd F1 H1 d v Q (g1.tk E.tb) g1.sub (hg _ _ g1.fs gF) d1 q⟩
theorem Sj{c:bA (bI×HO)}(C:vN X.prog X.w X.K X.mg X.base n v c m)(hr:fY n X.A)(hv:jZ X.N X.env.scope i x)(hn:fG (e::es)=bC)(ha:IA X (e::es) fa):
 IE X (.Call (.Name x p) (e::es) [] pos) (be i v c m fa):=by
 obtain⟨a,fd,ps,rfl,hb,F,hbi⟩:=C.ex;intro pc s Y H Q I q;obtain⟨O,F0,E,q⟩:=q;unfold be at q;split at q
 .rename_i hi;obtain⟨o',e1,rfl,hc⟩:=E.at_ i _ hi
  have hq:=Si (X:=X) (r:=λvs H1 Q=>mv X.K c m (vs++ []) H1 Q E0) (g:=λF=>∀p∈c,F p.1=bB p.2) (λF F' sm h p hp=>sm _ _ (h p hp))
   (λF H ds vs Q ti sb g d q=>by rw[kK];exact⟨F,ds,ti,sb,g,d,q⟩) E hc q
  have hs:gE e=bH/\fG es=bC:=by unfold fG at hn;rw[lS,dB]at hn;exact⟨by simpa using hn.1,hn.2⟩
  refine jz ?_;refine cT (qG hv.n hv.v hv.d hv.c pc s Y H (λv' H'=>v'= .ref a/\H'=H) I ⟨.ref a,e1,rfl,rfl⟩) λu s1 qz=>?_
  obtain⟨v',H1,I1,r1,ev,eH⟩:=qz;subst ev eH;obtain rfl:u=jT a:=r1;rcases hb with⟨o,fd',hb,hd⟩|hk
  .have fnat:∀{s':bS} {σ':St} {H':Hp},bR X pc σ' H' s'->W.FnAt a s'.heap:=λ{s' σ' H'} I'=>by
    have h:=I'.bk a o hb;obtain⟨oc,od,dt,sl⟩:=o;simp only at hd;subst hd;exact⟨oc,od,fd',sl,h⟩
   refine W.callWith_F (fnat I1) (cT (ha pos pc s1 Y H1 _ I1 hq) λus s2 ⟨vs,H2,I2,r,q2⟩=>⟨fnat I2,?_⟩) (gC hs.1) (mN hs.2);exact ls F hr hbi .nil xL I2 r q2
  .refine qd (h₀:=s1.heap) I1.kIn hk (cT (ha pos pc s1 Y H1 _ I1 hq) λus s2 ⟨vs,H2,I2,r,q2⟩=>⟨I2.kIn,?_⟩) (gC hs.1) (mN hs.2);exact ls F hr hbi .nil xL I2 r q2
 .cases q
noncomputable def mw(n:bD)(ds:bA D)(v:V)(c:bA (bI×HO)):cS:=ds.map .val++(.is v c::lX (n-ds.length-1) .no)
def iQ(k n:bD)(v:V)(c:bA (bI×HO))(g:MS)(ds:bA D):bP D:=if ds.length+1=k then(g (mw n ds v c)).bind rF else .bad
def vO(K:cD)(v:V)(c:bA (bI×HO))(m:bA D->bP D):Sp:=λvs H Q _=>∃F ds vs0,vs=vs0++ [v]/\pH F H/\bT F H/\(∀p∈c,F p.1=bB p.2)/\DatL K F ds vs0/\fX (bM K) F H (m ds) Q
def Sk{c:bA (bI×HO)}(ti:pH F H)(s:bT F H)(hc:∀p∈c,F p.1=bB p.2)(r:DatL K F ds vs):SR K F H F H (mw N.length ds v c) (start N (vs++ [v])):=by
 have no:∀{i:bD} {p s},(ds.map Slot.val++ [.is v c])[i]? =bB (.obj p s)->jF:=λe=>QH (λs hs=>by
  rcases jR.mp hs with h|h
  .obtain⟨d,_,rfl⟩:=jA.mp h;rfl
  .cases tP.mp h;rfl) e
 have:=Ab (N:=N) ti (.refl s) (vD (mh (H:=H) r) (.cons (a:=Slot.is v c) (b:=v) ⟨rfl,hc⟩ .nil)) (λi j p s q t e=>(no e).elim) λi p s a e=>(no e).elim
 unfold rG at this;unfold mw;rw[cH,cG,pP]at this;exact this
theorem Sm{w:cF}{st:dN}{f:bI}{g:MS}{c:bA (bI×HO)}(F:hO K x qual st f fd)(S:lU N ps (dA st))(hN:ps.length<=N.length)
 (hbody:∀(_:Pd) (cdv:bJ) (A:gK) (outer:bA jG) (s:bS) (H:Hp) (E:XK),fY k (A.deeper (qD qual (dA st) s.heap.objs.size f cdv))->
   mF (rY fF P w K mg base N qual (dA st) f cdv A outer s H E).nox (kM st) g):dZ P w K mg base fF (k+1) f fd ps (vO K v c (iQ ps.length N.length v c g)):=by
 refine F.ok S (λvs H Q E h=>?_) (λcdv A outer s H vs Q E hr h=>?_)
 .obtain⟨F,ds,vs0,rfl,_,_,_,r,q⟩:=h;unfold iQ at q;split at q
  .rename_i e;rw[cH, <-r.length];exact e
  .cases q
 .obtain⟨F,ds,vs0,rfl,ti,s',hc,r,q⟩:=h;unfold iQ at q;split at q
  .rename_i e
   letI:Pd:=zJ
   refine⟨_,hbody zJ cdv A outer s H E hr F H,mw N.length ds v c,F,Sk ti s' hc r,?_⟩;revert q;cases g (mw N.length ds v c)with
   |ok fl=>
    intro q;cases fl with
    |nx O=>exact λY F' H' S'=>q .n F' H' S'.gr (by simp only[bM])|rt d=>exact λv F' H' g' r'=>q v F' H' g' r'|_=>exact q.elim
   |bad=>exact kX
  .cases q
noncomputable def uo(P:fM)(w:cF)(K:cD)(mg:Str->bQ bJ)(base:cB)(N:bA Str)(qual:Str)(scope:kW)(a:bI)(cd:bJ)(cl:bA (Str×bI))(A:gK)(outer:bA jG)(s:bS)(H:Hp):Cx where
 prog:=P
 w:=w
 K:=K
 mg:=mg
 base:=base
 A:=A.deeper (kq qual scope s.heap.objs.size a cd cl)
 N:=N
 s₀:=s
 Ha:=H
 env:=kq qual scope s.heap.objs.size a cd cl
 outer:=outer
 stack:=kq qual scope s.heap.objs.size a cd cl::outer
 ex:=[]
 fn:=λ_=>bH
 calm:=bC
 pn:=[]
 xe:=λ_ _=>jF
noncomputable abbrev mx(c':bI)(qual:Str):bA (bI×HO):=[(c',.ext λh=>h.CodeRec (.ref c') qual)]
noncomputable def sI(i:bG)(g:ME):bA D->bP D| [d]=>g [.val d,.val (.int i)]|_=>.bad
structure my(x y:Str)(scope:kW):Prop where
 kind:scope.kind= .function
 co:scope.isCoroutine=bH
 gen:scope.isGenerator=bH
 nocell:∀z∈scope.names,z.2≠ .cell
 loc:scope.names.lookup x=bB .local
 fr:scope.names.lookup y=bB .free
 one:∀z,scope.names.lookup z=bB .free->z=y
theorem Sn{w:cF}{a:bI}{name:Str}{params:xy}{body:Expr}{pm ctv:bJ}{i:bG}{t:lG}{g:ME}
 (ho:base.get? a=bB (kg name qual params body scope [(y,cc)] pm c' ctv)) (hcell:base.IsCell cc (bB (.int i t))) (S:my x y scope)
 (hbody:∀(_:Pd) (A:gK) (outer:bA jG) (s:bS) (H:Hp),fY n (A.deeper (kq qual scope s.heap.objs.size a (.ref c') [(y,cc)]))->IE (uo P w K mg base [x,y] qual scope a (.ref c') [(y,cc)] A outer s H) body g):
 dZ P w K mg base fF (n+1) a (W.kla_fn name qual params body scope [(y,cc)] pm (.ref c') ctv) [x] (mv K (mx c' qual) (sI i g)):=by
 have one:∀{vs:bA V} {H:Hp} {Q:VK} {E:XK},mv K (mx c' qual) (sI i g) vs H Q E->∃F d v,vs= [v]/\pH F H/\bT F H/\F c'=bB (.ext λh=>h.CodeRec (.ref c') qual)/\bM K F d v/\fX (bM K) F H (g [.val d,.val (.int i)]) Q:=λ{vs H Q E} h=>by
  obtain⟨F,ds,ti,sb,hc,dl,q⟩:=h;unfold sI at q;split at q
  .obtain⟨v,rfl,hv⟩:=mM dl;exact⟨F,_,v,rfl,ti,sb,hc _ fW,hv,q⟩
  .cases q
 refine⟨λvs H Q E h=>?_,λA outer s H args us vs Q E hr e0 hb r hsp=>?_⟩
 .obtain⟨F,d,v,rfl,_⟩:=one h;rfl
 obtain⟨F,d,v,rfl,ti,sb,hc,hv,q⟩:=one hsp;obtain⟨u,rfl,ru⟩:∃u,us= [u]/\cX v u:=by
  cases r with
  |cons r1 r2=>cases r2;exact⟨_,rfl,r1⟩
 have hcode:s.heap.CodeRec (.ref c') qual:=(e0.hok c' _ (sb _ _ hc)).1;have lim:s.heap.NoLimit:=e0.mod.nolimit.keeps λb o e=>(e0.bs b o e).1
 refine W.kla_callFunE hr.depth (e0.bs a _ ho).1 rfl S.co S.gen rfl hcode (hb _ _ _ _ ?_);refine Li S.nocell (λz hz=>?_) (λh₁ hns hsb=>⟨lim.fresh _ hsb,?_⟩) S.kind
 .obtain rfl:z=(x,u):=by simpa using hz
  exact S.loc
 show codeAny _ _ (.expr body (kq qual scope s.heap.objs.size a (.ref c') [(y,cc)])) _ _;have hk₁:∀b o,s.heap.get? b=bB o->h₁.get? b=bB o:=λb o e=>hsb.extBut b o (gX (fU e)) (fC _ e)
 have hcl:∀z c,([(y,cc)]:bA (Str×bI)).lookup z=bB c->z=y/\c=cc:=λz c e=>by
  rw[lF]at e;split at e
  .rename_i hz;exact⟨dW hz,(jJ e).symm⟩
  .cases e
 have hyl:([(y,cc)]:bA (Str×bI)).lookup y=bB cc:=by rw[lF,vW]
 obtain⟨oc,hoc,hdc⟩:=hcell;have hc₀:=e0.bs cc oc hoc;have I:bR (uo P w K mg base [x,y] qual scope a (.ref c') [(y,cc)] A outer s H) [] [bB v,bB (.int i)] H {s with heap:=h₁,toks:=s.toks+1}:=by
  have noA:∀b:bI,b∉(uo P w K mg base [x,y] qual scope a (.ref c') [(y,cc)] A outer s H).ex:=λb z=>dD (show b∈([]:bA bI)from z) cO
  refine⟨⟨e0.mod,S.kind,rfl,rfl,cZ _,λy' z c h1 h2=>?_,λy' hy=>?_,λy' c hf _=>?_,λ_=>hr.hd,Lg e0.frames,.inr ⟨rfl,rfl⟩,λb z=>dD z (noA b),e0.bs,e0.bsz,λb _ _=>noA b,λb z=>dD z (noA b),e0.funs,e0.frf⟩,
   rfl,e0.bare,Un.kept hk₁,⟨_,hns,λj z v' h1 h2 h3=>?_⟩,λy' c h=>?_,e0.hok.fresh (cZ _),λy' c h=>?_,λp hp=>dD (show p∈([]:bA (bI×cQ))from hp) cO,e0.hok.kept hk₁,rfl⟩
  .exact(hcl y' c h1).1.trans (hcl z c h2).1.symm
  .have hy':scope.names.lookup y'=bB .cell\/scope.names.lookup y'=bB .free:=hy;rcases hy' with q|q
   .exact dD rfl (S.nocell _ (cb q))
   .rw[S.one y' q];exact⟨cc,hyl⟩
  .cases hf
  .match j,h1,h2 with
   |0,h1,h2=>
    have e1:x=z:=jJ h1;have e2:v=v':=by simpa using h2
    subst e1 e2;refine⟨u,ru,.inl ⟨S.loc,?_⟩⟩;simp
   |1,h1,h2=>
    have e1:y=z:=jJ h1;have e2:V.int i=v':=by simpa using h2
    subst e1 e2;exact⟨.int i t,⟨t,rfl⟩,.inr ⟨.inr S.fr,cc,hyl,oc,hk₁ _ _ hc₀.1,hdc⟩⟩
   |j+2,h1,h2=>cases h1
  .obtain⟨_,rfl⟩:=hcl y' c h;exact⟨_,oc,hk₁ _ _ hc₀.1,hdc⟩
  .obtain⟨_,rfl⟩:=hcl y' c h;exact hc₀.2
 letI:Pd:=zJ
 have En:hV K F H [.val d,.val (.int i)] [bB v,bB (.int i)]:=by
  refine⟨ti,sb,rfl,λj s' e=>?_,λj k p s q t b _ e=>?_⟩
  .match j,e with|0,e=>cases e;exact⟨_,rfl,v,rfl,hv⟩|1,e=>cases e;exact⟨_,rfl,_,rfl,by simp only[bM]⟩
  .match j,e with|0,e=>cases e|1,e=>cases e
 refine W.kla_codeExpr (lT (hbody zJ A outer s H (hr.deeper _) [] _ _ H Q I ⟨_,F,En,q⟩) (λu' s' qz=>?_) λ_ _ z=>z.elim);obtain⟨v',H',J,rv,q'⟩:=qz;exact⟨v',H',J.os,J.bare,J.base,J.hok,rv,q'⟩
def Hc{h1 h2:cB}(x:h1.CodeRec (.ref c') q)(k:∀o,h1.get? c'=bB o->h2.get? c'=bB o):h2.CodeRec (.ref c') q:=by obtain⟨c,o,vs,t,e,ho,r⟩:=x;cases e;exact⟨c',o,vs,t,rfl,k o ho,r⟩
def So{h1:cB}(x:h1.CodeRec (.ref c') q):∃o,h1.get? c'=bB o:=by obtain⟨c,o,vs,t,e,ho,r⟩:=x;cases e;exact⟨o,ho⟩
theorem Sr{c Pt:bI}{lbody:Expr}{lpos:dJ}{lq:Str}(I:bR X pc Y H s)(ti:rC H)(hL:(Pt,lpos,lq)∈fZ.L)
 (hcode:X.env.code= .ref c) (hhd:yf X.base c Pt) (hq:X.env.qual++ "<lambda>" =lq) (hbl:X.base.BuiltinsAt X.mg Pt) (hdef:defaultsOf lps X.env=([],[])) (hcl:qj lsc X.env=fE clos)
 (h:∀a c' ctv H1 s1,bR X pc Y H1 s1->s.heap.objs.size<=a->H1 a=bK->s1.heap.get? a=bB (kg "<lambda>" lq lps lbody lsc clos ((X.mg "__name__").getD .none) c' ctv)->H1 c'=bB (.ext λh=>h.CodeRec (.ref c') lq)->
   zw H H1->(∀b,H b≠bK->H1 b≠bK)->rC H1->(∀F:Hp,bT F H->(∀b ps,F b≠bB (.tbl ps))->bT F H1)->Q (.ref a) s1):
 wpAny (cA X.prog X.w) X.A (dX (.Lambda lps lbody lsc lpos) X.env) Q E s:=by
 obtain⟨ps,hPt,htr,hcs⟩:=ti _ hL;have hP:s.heap.get? Pt=bB (aH ps):=I.hok Pt _ hPt;have hg:s.heap.Ns gM X.mg:=I.mod.glob.keeps I.bk;have hb:s.heap.BuiltinsAt X.mg Pt:=by obtain⟨bm,o,h1,h2,h3,h4,h5,h6⟩:=hbl;exact⟨bm,o,h1,h2,h3,h4,I.bk _ _ h5,h6⟩
 have hgP:gM≠Pt:=λz=>by obtain⟨o,es,ep,e,_⟩:=I.mod.glob;have:=(I.bs _ _ e).2;rw[z,hPt]at this;cases this
 refine W.kla_eval hdef ?_;rw[hq];rcases hcs with hcs|⟨c',hcs,hc'⟩
 .refine W.kla_makeFunction hcl I.ok.glob hg hcode (hhd.keeps I.bk) hP htr hcs hgP hb λc' ctv h' tk hx hge hlt hrec htb=>?_
  have hPs:Pt<s.heap.objs.size:=fU hP;have hPc:Pt≠c':=gX (mI hPs hge);have hfr:H c'=bK:=I.hok.fresh hge;have hsz:s.heap.objs.size<=h'.objs.size:=cI;have hH1P:upd (upd H Pt (.tbl (ps++ #[mV lpos.line,mV lpos.col,.ref c']))) c' (.ext λh=>h.CodeRec (.ref c') lq) Pt=bB (.tbl (ps++ #[mV lpos.line,mV lpos.col,.ref c'])):=by rw[fH hPc,gY]
  have oth:∀b,b≠Pt->b≠c'->upd (upd H Pt (.tbl (ps++ #[mV lpos.line,mV lpos.col,.ref c']))) c' (.ext λh=>h.CodeRec (.ref c') lq) b=H b:=λb h1 h2=>by rw[fH h2,fH h1]
  have nP:∀b u,zK u=bC->H b=bB u->b≠Pt:=λb u n e z=>by rw[z,hPt]at e;cases e;cases n
  have nC:∀b u,H b=bB u->b≠c':=λb u e z=>by rw[z,hfr]at e;cases e
  have sx:zw H (upd (upd H Pt (.tbl (ps++ #[mV lpos.line,mV lpos.col,.ref c']))) c' (.ext λh=>h.CodeRec (.ref c') lq)):=λb u n e=>by rw[oth b (nP b u n e) (nC b u e)];exact e
  have mr:∀b,H b≠bK->upd (upd H Pt (.tbl (ps++ #[mV lpos.line,mV lpos.col,.ref c']))) c' (.ext λh=>h.CodeRec (.ref c') lq) b≠bK:=λb n=>by
   by_cases z:b=c'
   .subst z;rw[gY];simp
   .by_cases z2:b=Pt
    .subst z2;rw[hH1P];simp
    .rw[oth b z2 z];exact n
  have un:Un X.fs [] H (upd (upd H Pt (.tbl (ps++ #[mV lpos.line,mV lpos.col,.ref c']))) c' (.ext λh=>h.CodeRec (.ref c') lq)) s.heap (h'.push (kg "<lambda>" lq lps lbody lsc clos ((X.mg "__name__").getD .none) c' ctv)):=by
   refine⟨λb o e n _ _=>?_,λb o e n _ _=>⟨o.slots,?_⟩,λb o e n _=>?_,λb o e _=>?_,λb xs e=>sx _ _ rfl e,λb u i e=>sx b u (by cases u<;>first|rfl|cases i) e,λb ps0 e=>?_⟩
   .exact fC _ (hx b o (λz=>by rw[z,hPt]at n;cases n) e)
   .exact fC _ (hx b o (λz=>by rw[z,hPt]at n;cases n) e)
   .rw[oth b (λz=>by rw[z,hPt]at n;cases n) (gX (mI (fU e) hge))];exact n
   .by_cases z:b=Pt
    .subst z;exact⟨_,fC _ htb⟩
    .exact⟨o,fC _ (hx b o z e)⟩
   .by_cases z:b=Pt
    .subst z;rw[hPt]at e;cases e;exact⟨_,hH1P⟩
    .exact⟨#[],by rw[oth b z (nC b _ e),e];simp⟩
  have hok:jM X.prog X.w (upd (upd H Pt (.tbl (ps++ #[mV lpos.line,mV lpos.col,.ref c']))) c' (.ext λh=>h.CodeRec (.ref c') lq)) (h'.push (kg "<lambda>" lq lps lbody lsc clos ((X.mg "__name__").getD .none) c' ctv)):=by
   intro b o e;by_cases z:b=c'
   .subst z;rw[gY]at e;cases e;have hr2:=Hc (h2:=h'.push (kg "<lambda>" lq lps lbody lsc clos ((X.mg "__name__").getD .none) b ctv)) hrec λo q=>fC _ q
    exact⟨hr2,So hr2,λh1 h2 x k=>Hc x k⟩
   .by_cases z2:b=Pt
    .subst z2;rw[hH1P]at e;cases e;exact fC _ htb
    .rw[oth b z2 z]at e;refine(I.hok b o e).stay (λd u hd q=>fC _ (hx d u ?_ q)) (λd q=>sx _ _ rfl q) λd xs q=>sx _ _ rfl q
     rcases hd with hd|hd
     .exact λy=>z2 (hd.symm.trans y)
     .exact λy=>by rw[y,hPt]at hd;cases hd
  refine h _ c' ctv _ _ (I.un un hok) hsz ?_ (lA _ rfl) gY sx mr (λt ht=>?_) λF sF nF b u e=>?_
  .rw[oth _ (gt (mI hPs hsz)) (gt hlt)];exact I.hok.fresh hsz
  .by_cases z:t=(Pt,lpos,lq)
   .subst z;refine⟨_,hH1P,?_,.inr ⟨c',?_,gY⟩⟩
    .rw[DA];exact TriplesOk_snoc _ _ _ _ htr
    .rw[DA];exact codeAmong_snoc _ htr hcs
   .have z1:t.1≠Pt:=λy=>z (fZ.ap t ht _ hL y)
    obtain⟨ps2,e2,o2,q2⟩:=ti t ht;refine⟨ps2,by rw[oth _ z1 (nC _ _ e2)];exact e2,o2,?_⟩;rcases q2 with q2|⟨d,q3,q4⟩
    .exact .inl q2
    .exact .inr ⟨d,q3,sx _ _ rfl q4⟩
  .exact sx b u (by
    cases u with
    |tbl ps=>exact dD e (nF b ps)
    |_=>rfl) (sF b u e)
 .refine W.kla_makeFunctionHit hcl I.ok.glob hg hcode (hhd.keeps I.bk) hP htr hcs hb λctv h' tk hk hsz=>?_
  exact h _ c' ctv H _ (I.kept λb u e=>fC _ (hk b u e)) hsz (I.hok.fresh hsz) (lA _ rfl) hc' (λ_ _ _ e=>e) (λ_ n=>n) ti λF sF _=>sF
def AA(base:cB)(a cc:bI):Hp:=λb=>if(base.get? b).isSome=bC\/b=a\/b=cc then bK else bB (.own 0)
def vP(h base:cB)(a cc:bI):cB:=xK h (AA base a cc)
def AB{a b:bI}{o:cQ}(e:h.get? b=bB o)(k:(base.get? b).isSome=bC\/b=a\/b=cc):(vP h base a cc).get? b=bB o:=
 EI e (by unfold AA;rw[cK k])
def He{a b:bI}{o:cQ}(e:(vP h base a cc).get? b=bB o):h.get? b=bB o/\((base.get? b).isSome=bC\/b=a\/b=cc):=by
 obtain⟨e1,e2⟩:=EJ e;refine⟨e1,?_⟩;unfold AA at e2;split at e2
 .rename_i k;exact k
 .cases e2
def Ss{a b:bI}(h1:base.get? b=none)(h2:b≠a)(h3:b≠cc):(vP h base a cc).get? b=none:=by
 cases e:(vP h base a cc).get? b with
 |none=>rfl|some o=>
  rcases(He e).2 with k|k|k
  .rw[h1]at k;cases k
  .exact dD k h2
  .exact dD k h3
theorem Hf{a:bI}:∀{l:bA jG},h.FunFrames base l->(∀b∈qF l,b≠a/\b≠cc)->h.FunFrames (vP h base a cc) l| [],_,_=>trivial|env::rest,⟨h1,⟨L,o,e1,e2,e3,e4⟩,h3⟩,k=>by have hm:L∈qF (env::rest):=pp.mpr ⟨env,fW,e1⟩;refine⟨h1,⟨L,o,e1,Ss e2 (k L hm).1 (k L hm).2,e3,e4⟩,Hf h3 λb hb=>k b ?_⟩;obtain⟨en,h1,h2⟩:=pp.mp hb;exact pp.mpr ⟨en,gI _ h1,h2⟩
section
variable{H0:Hp}{s0:bS}
def Su{a:bI}{oa:cQ}{u:bQ bJ}(I0:bR X pc Y H0 s0)(I:bR X pc Y H s)(hge:s0.heap.objs.size<=a)(ha:s.heap.get? a=bB oa)(hn:H a=bK)(hy:X.env.cells.lookup y=bB cc)(hf:X.fn y=bC)(hc:s.heap.IsCell cc u):
 aP X.prog X.w X.K X.mg (vP s.heap X.base a cc) X.A X.stack s H:=by
 have kb:∀b o,X.base.get? b=bB o->(vP s.heap X.base a cc).get? b=bB o:=λb o e=>AB (I.bk b o e) (.inl (by rw[e];rfl))
 have hM:Mod X.K X.mg (vP s.heap X.base a cc):=⟨I.mod.kin.keeps kb,I.mod.glob.keeps kb,let ⟨mb,h1,h2⟩:=I.mod.blt;⟨mb,h1.keeps kb,h2⟩,I.mod.nolimit.keeps kb⟩;refine⟨I.ok.frames,hM,λb o e=>?_,by unfold vP;rw[EH];exact cZ _,Hf I.stack λb hb=>⟨?_,?_⟩,I.stkFree,I.hok,I.bare⟩
 .obtain⟨e1,k⟩:=He e;refine⟨e1,?_⟩;rcases k with k|k|k
  .obtain⟨o',e'⟩:=v8.mp k;exact(I.bs b o' e').2
  .rw[k];exact hn
  .rw[k];exact I.freeC y cc hy
 .obtain⟨_,o,ho,_⟩:=I0.stack.mem hb;exact gX (mI (fU ho) hge)
 .rcases kS.mp (I.stkSub b hb)with z|z
  .intro z2;obtain⟨m,⟨o,es,ep,e,hd,_⟩,_⟩:=I.loc;obtain⟨oc,eo,hcd⟩:=hc;rw[<-z2,z,e]at eo;cases eo;rw[hd]at hcd;cases hcd
  .obtain⟨_,o,ho,_⟩:=I.ok.funs.mem z;exact gX (mI (fU ho) (I.ok.cab y cc hf hy))
end
noncomputable def uq(j:bD)(O:cS):bP bG:=match O[j]? with|some (.val (.int i))=>.ok i|_=>.bad
noncomputable def AC:D->bP D| .b b=>.ok (.b b)|_=>.bad
def iR(f1 f2:ME)(j:bD)(M:bG->bA D->bP D):ME:=λO=>(f1 O).bind λd1=>(f2 O).bind λd2=>(uq j O).bind λi=>(M i [d1,d2]).bind AC
theorem Hg{kr:bD}{f c Pt:bI}{px lq:Str}{e1 e2 lbody:Expr}{lpos:dJ}{f1 f2:ME}{g:ME}{M:(bA D->bP D)->bA D->bP D}
 (hrow:∀(base':cB) (v:V) (cl:bA (bI×HO)) (m:bA D->bP D),vN X.prog X.w X.K X.mg base' (n+1) v cl m->dZ X.prog X.w X.K X.mg base' fF kr f fd ps (vO X.K v cl (M m)))
 (hr:fY kr X.A) (hg:Gl X x) (hm:X.mg x=bB (.ref f)) (hk:lY X.K (.ref f)=bC) (hb:lH X.K fd ps []) (hdb:(x==("__debug__" :Str))=bH)
 (hn:fG [e1,e2,.Lambda lps lbody lsc lpos]=bC) (he1:IE X e1 f1) (he2:IE X e2 f2)
 (hN:X.N[j]? =bB y) (hyc:X.env.scope.names.lookup y=bB .cell) (hfn:X.fn y=bC)
 (hL:(Pt,lpos,lq)∈fZ.L) (hcode:X.env.code= .ref c) (hhd:X.K.In X.base->yf X.base c Pt) (hq:X.env.qual++ "<lambda>" =lq) (hbl:X.K.In X.base->X.base.BuiltinsAt X.mg Pt) (hdef:defaultsOf lps X.env=([],[]))
 (hclos:∀cells:bA (Str×bI),nA lsc.names cells []= [(y,(cells.lookup y).getD 0)]) (hfr:∀z∈lsc.names,z.2= .free->z.1=y)
 (S:my px y lsc) (hbi:∀(clos:bA (Str×bI)) (pm cd ct:bJ) (us:bA bJ),us.length=1->Er (W.kla_fn "<lambda>" lq lps lbody lsc clos pm cd ct) ⟨us,[]⟩=fE ([px].zip us))
 (hbody:∀(_:Pd) (base':cB) (a:bI) (cd:bJ) (clos:bA (Str×bI)) (A:gK) (outer:bA jG) (s:bS) (H:Hp),fY n (A.deeper (kq lq lsc s.heap.objs.size a cd clos))->IE (uo X.prog X.w X.K X.mg base' [px,y] lq lsc a cd clos A outer s H) lbody g):
 IE X (.Call (.Name x p) [e1,e2,.Lambda lps lbody lsc lpos] [] pos) (iR f1 f2 j λi=>M (sI i g)):=by
 rintro pc s Y H Q I ⟨O,F,E,q⟩;unfold iR at q;cases h1:f1 O with
 |bad=>rw[h1]at q;cases q|ok d1=>
 cases h2:f2 O with
 |bad=>rw[h1]at q;simp only[bP.bind,h2]at q;cases q|ok d2=>
 cases h3:uq j O with
 |bad=>rw[h1]at q;simp only[bP.bind,h2,h3]at q;cases q|ok i=>
 have q0:fX (bM X.K) F H ((M (sI i g) [d1,d2]).bind AC) Q:=by rw[h1]at q;simp only[bP.bind,h2,h3]at q;exact q
 obtain⟨bb,hbb⟩:∃bb,M (sI i g) [d1,d2]= .ok (.b bb):=by
  cases h4:M (sI i g) [d1,d2]with
  |bad=>rw[h4]at q0;cases q0|ok d=>
   cases d with
   |b bb=>exact⟨bb,rfl⟩|_=>rw[h4]at q0;cases q0
 have q1:fX (bM X.K) F H (.ok (.b bb)) Q:=by rw[hbb]at q0;exact q0
 have hs:gE e1=bH/\gE e2=bH:=by simp only[fG,lS,dB]at hn;exact⟨by simpa using hn.1,by simpa using hn.2.1⟩
 have hρj:O[j]? =bB (.val (.int i)):=by
  unfold uq at h3;split at h3
  .rename_i k hk';cases h3;exact hk'
  .cases h3
 refine jz (rp I hg hm ?_ hdb);refine qd (h₀:=X.base) I.ok.mod.kin hk ?_ (gC hs.1) (mN (by simp only[fG,lS,dB]at hn|-;exact hn.2));rw[gC hs.1,gC hs.2,gC (e:=.Lambda lps lbody lsc lpos) rfl];refine pq (cT (he1 pc s Y H (λv1 H1=>∃F1,cL F H F1 H1/\bM X.K F1 d1 v1) I ⟨O,F,E,by rw[h1];exact λb F' H' g r=>⟨F',g,r⟩⟩) λu1 s1 ⟨v1,H1,I1,r1,F1,g1,dd1⟩=>?_);refine pq (cT (he2 pc s1 Y H1 (λv2 H2=>∃F2,cL F1 H1 F2 H2/\bM X.K F2 d2 v2) I1 ⟨O,F1,E.grow g1,by rw[h2];exact λb F' H' g r=>⟨F',g,r⟩⟩) λu2 s2 ⟨v2,H2,I2,r2,F2,g2,dd2⟩=>?_);have E2:=(E.grow g1).grow g2;obtain⟨o,eσ,vj,rfl,dj⟩:=E2.at_ j _ hρj;simp only[bM]at dj;subst dj;obtain⟨m2,hns2,hl2⟩:=I2.loc;obtain⟨uj,⟨tj,rfl⟩,lk⟩:=hl2 j y _ hN eσ (.inr (.inl hyc));have hkd:X.env.kindOf y=bB .cell:=hyc;obtain⟨cc,hcc,hcell⟩:∃cc,X.env.cells.lookup y=bB cc/\s2.heap.IsCell cc (bB (.int i tj)):=by
  rcases lk with⟨z,_⟩|⟨_,cc,h1,h2⟩
  .rw[hkd]at z;cases z
  .exact⟨cc,h1,h2⟩
 have hcl:qj lsc X.env=fE [(y,cc)]:=by rw[GM λz hz hzf=>⟨cc,by rw[hfr z hz hzf];exact hcc⟩,hclos,hcc];rfl
 refine pq (Sr I2 E2.tb.1 hL hcode (hhd I.ok.mod.kin) hq (hbl I.ok.mod.kin) hdef hcl λa c' ctv H3 s3 I3 hge ha hobj hc' sx mr ti3 sF=>?_);refine DC ⟨I3.kIn,?_⟩;obtain⟨tk,hcell3⟩:∃tk,s3.heap.IsCell cc (bB (.int i tk)):=by
  obtain⟨_,hns3,hl3⟩:=I3.loc;obtain⟨uk,⟨tk,rfl⟩,lk3⟩:=hl3 j y _ hN eσ (.inr (.inl hyc));rcases lk3 with⟨z,_⟩|⟨_,cc',z1,z2⟩
  .rw[hkd]at z;cases z
  .rw[hcc]at z1;cases z1;exact⟨tk,z2⟩
 have e0:=Su I2 I3 hge hobj ha hcc hfn hcell3;have hao:(vP s3.heap X.base a cc).get? a=bB (kg "<lambda>" lq lps lbody lsc [(y,cc)] ((X.mg "__name__").getD .none) c' ctv):=AB hobj (.inr (.inl rfl));have hcB:(vP s3.heap X.base a cc).IsCell cc (bB (.int i tk)):=let ⟨oc,e,d⟩:=hcell3;⟨oc,AB e (.inr (.inr rfl)),d⟩;have lam:=Sn (n:=n) (P:=X.prog) (w:=X.w) (K:=X.K) (mg:=X.mg) hao hcB S λpd A outer s H hr=>hbody pd _ a (.ref c') [(y,cc)] A outer s H hr
 have clb:vN X.prog X.w X.K X.mg (vP s3.heap X.base a cc) (n+1) (.ref a) (mx c' lq) (sI i g):=⟨⟨a,_,[px],rfl,.inl ⟨_,_,hao,rfl⟩,lam,lH.all λus hl=>hbi _ _ _ _ us hl⟩⟩;have FN:=hrow _ (.ref a) (mx c' lq) (sI i g) clb;have sF2:=sF F2 E2.sub E2.tb.2;have sF23:bT F2 (upd F2 c' (.ext λh=>h.CodeRec (.ref c') lq)):=λb u e=>by
  by_cases z:b=c'
  .subst z;have:=sF2 _ _ e;rw[hc']at this;rw[gY];exact this
  .rw[fH z];exact e
 have sF3:bT (upd F2 c' (.ext λh=>h.CodeRec (.ref c') lq)) H3:=λb u e=>by
  by_cases z:b=c'
  .subst z;rw[gY]at e;cases e;exact hc'
  .rw[fH z]at e;exact sF2 b u e
 have t3:pH (upd F2 c' (.ext λh=>h.CodeRec (.ref c') lq)) H3:=⟨ti3,E2.tb.2.upd c' rfl⟩;have dl:DatL X.K (upd F2 c' (.ext λh=>h.CodeRec (.ref c') lq)) [d1,d2] [v1,v2]:=DatL.cons ((dd1.mono g2.fs).mono sF23) (DatL.cons (dd2.mono sF23) DatL.nil);have sp:vO X.K (.ref a) (mx c' lq) (M (sI i g)) [v1,v2,.ref a] H3 (λv H'=>∃F4,cL (upd F2 c' (.ext λh=>h.CodeRec (.ref c') lq)) H3 F4 H'/\bM X.K F4 (.b bb) v) E0:=by
  refine⟨_,[d1,d2],[v1,v2],rfl,t3,sF3,λp hp=>?_,dl,?_⟩
  .obtain rfl:p=(c',.ext λh=>h.CodeRec (.ref c') lq):=by simpa using hp
   exact gY
  .rw[hbb];exact λv F' H' g r=>⟨F',g,r⟩
 have r3:cW [v1,v2,.ref a] [u1,u2,.ref a]:=.cons r1 (.cons r2 (.cons rfl .nil));have hl:([u1,u2,.ref a]++([]:bA bJ)).length=ps.length:=FN.len _ _ _ _ sp;refine xw (gu (FN.run X.A X.stack s3 H3 ⟨[u1,u2,.ref a],[]⟩ [u1,u2,.ref a] [v1,v2,.ref a] _ E0 hr e0 (hb s3 [u1,u2,.ref a] I3.kIn hl) r3 sp) λr s' hq=>?_);cases r with
 |error e=>exact xL pc Y H3 s3 e s' I3 hq|ok fl=>
  cases fl with
  |next=>exact qV hq|brk=>exact qV hq|cont=>exact qV hq|ret u=>obtain⟨v,H',J,rv,F4,g4,dv⟩:=I3.after hq;simp only[bM]at dv;subst dv;refine⟨_,H',J,rv,q1 _ F2 H' ((g1.trans g2).trans ⟨λb u n e=>g4.same b u n (sx b u n e),λb n=>g4.more b (mr b n),λt=>⟨(g4.tk t3).1,t.2⟩,bT.refl _,sF23.trans (g4.fs.trans g4.sub),λ_ h _=>h⟩) (by simp only[bM])⟩
structure ur(K:cD)(mg:Str->bQ bJ)(fd:gJ)(lpos:dJ)(lq:Str):Prop where
 ex:∃c Pt,fd.code= .ref c/\(Pt,lpos,lq)∈fZ.L/\ ∀base:cB,K.In base->yf base c Pt/\base.BuiltinsAt mg Pt
noncomputable def eM(m:bA D->bP D):bA D->bP D| []=>.ok (.b bC)|x::r=>(m [x]).bind λd=>(vG d).bind λb=>if b=bC then eM m r else .ok (.b bH)
noncomputable def lN(m:bA D->bP D):bA D->bP D| [.t xs,.int most]=>if most<(xs.length:bG)then .ok (.b bH)else eM m xs| [.t _,_]=>.bad| [_,.int _]=>.ok (.b bH)|_=>.bad
end
section
instance (priority:=low) pdI:Pd:=zJ
variable [fZ] [Pd]
noncomputable def rK(b:bI):bU:=fZ.L.any λt=>t.1==b
def Sv{t:bI×dJ×Str}(h:t∈fZ.L):rK t.1=bC:=aw.mpr ⟨t,h,vW _⟩
def Sw{b:bI}(h:rK b=bC):∃t∈fZ.L,t.1=b:=by obtain⟨t,h1,h2⟩:=aw.mp h;exact⟨t,h1,dW h2⟩
def Sx{w:cF}{mb:Str->bQ bJ}{fa a:bI}{s₁:bS}{vs:bA bJ}{ns:bA bG}
 (KX:K.In s₁.heap) (hns:s₁.heap.Ns gM mg) (hb:s₁.heap.Ns xB mb) (hbb:∀x:Str,x≠ "__name__" ->mb x=qT x) (hlim:s₁.heap.NoLimit) (hg:s₁.gens= #[])
 (hT:∀t∈fZ.L,(∃c,s₁.heap.TableAt c t.1 #[])/\K.lookup t.1=none)
 (ha:s₁.heap.get? a=some {cls:=.type "list",data:=.seq vs.toArray}) (hi:rb vs ns) (hl:ns.length<=63) (hr:fY k iw)
 (F:∀base:cB,K.In base->base.Ns gM mg->dZ P w K mg base fF k fa fd [x] (ul K)) (hbind:∀(s:bS) (u:bJ),kn s fd ⟨[u],[]⟩ [(x,u)]):
 codeAny (cA P w) iw (.call (.ref fa) ⟨[.ref a],[]⟩) (λr s'=>r= .ok (.ret (.bool true))/\OldK s₁.heap s'.heap/\s'.os=s₁.os/\aJ s'.gens) s₁:=by
 have rv:=FQ hi;have lenV:=hi.length;have hl':ns.length<=cJ:=qc (FT cI);have tab:∀b,rK b=true->s₁.heap.get? b=some (aH #[])/\K.lookup b=none/\ ∃c,s₁.heap.TableAt c b #[]:=λb h=>by obtain⟨t,h1,rfl⟩:=Sw h;obtain⟨⟨c,h2⟩,h3⟩:=hT t h1;exact⟨h2.2,h3,c,h2⟩
 have core:∀Fa:Hp,(∀b,Fa b=none\/(b=a/\K.lookup a=none/\Fa b=some (.frz {cls:=.type "list",data:=.seq vs.toArray} (.l (ns.map V.int)))))->gS K Fa a (ns.map V.int)->
  codeAny (cA P w) iw (.call (.ref fa) ⟨[.ref a],[]⟩) (λr s'=>r= .ok (.ret (.bool true))/\OldK s₁.heap s'.heap/\s'.os=s₁.os/\aJ s'.gens) s₁:=by
  intro Fa hF hS;have naT:rK a=false:=by
   cases z:rK a with
   |false=>rfl|true=>have:=(tab a z).1;rw[ha]at this;cases this
  let H:Hp:=λb=>if rK b=true then some (.tbl #[])else Fa b
  have HT:∀b,rK b=true->H b=some (.tbl #[]):=λb h=>cK h
  have HF:∀b,rK b=false->H b=Fa b:=λb h=>dH (by rw[h];exact tO)
  have hsub:bT Fa H:=λb u e=>by
   rcases hF b with z|⟨z,_,z2⟩
   .rw[z]at e;cases e
   .subst z;rw[HF _ naT];exact e
  have hcase:∀b u,H b=some u->(rK b=true/\u= .tbl #[])\/(b=a/\K.lookup a=none/\rK b=false/\u= .frz {cls:=.type "list",data:=.seq vs.toArray} (.l (ns.map V.int))):=λb u e=>by
   cases z:rK b with
   |true=>rw[HT b z]at e;cases e;exact .inl ⟨rfl,rfl⟩|false=>
    rw[HF b z]at e;rcases hF b with y|⟨y1,y2,y3⟩
    .rw[y]at e;cases e
    .rw[y3]at e;cases e;exact .inr ⟨y1,y2,rfl,rfl⟩
  have hok:jM P w H s₁.heap:=λb u e=>by
   rcases hcase b u e with⟨z,rfl⟩|⟨rfl,_,_,rfl⟩
   .exact(tab b z).1
   .exact⟨ha,by rw[cG];exact hl',vs,_,rv,ha⟩
  have tbf:pH Fa H:=by
   refine⟨λt ht=>⟨#[],HT _ (Sv ht),trivial,.inl rfl⟩,λb ps e=>?_⟩;rcases hF b with z|⟨_,_,z⟩
   .rw[z]at e;cases e
   .rw[z]at e;cases e
  have base_of:∀{b:bI} {o:cQ},s₁.heap.get? b=some o->H b=none->(xK s₁.heap H).get? b=some o:=λe n=>EI e n
  have noA:∀{b:bI} {o:cQ} {es:fQ xG} {ep:bD},s₁.heap.get? b=some o->o.data= .dict es ep->H b=none:=λ{b o es ep} e d=>by
   cases q:H b with
   |none=>rfl|some u=>
    rcases hcase b u q with⟨z,_⟩|⟨z,_,_,_⟩
    .rw[(tab b z).1]at e;cases e;cases d
    .subst z;rw[ha]at e;cases e;cases d
  have nsK:∀{b:bI} {m:Str->bQ bJ},s₁.heap.Ns b m->(xK s₁.heap H).Ns b m:=λ{b m} ⟨o,es,ep,e,d,r⟩=>⟨o,es,ep,base_of e (noA e d),d,r⟩
  have hKb:K.In (xK s₁.heap H):=λb o e=>base_of (KX b o e) (by
   cases q:H b with
   |none=>rfl|some u=>
    rcases hcase b u q with⟨z,_⟩|⟨z,z2,_,_⟩
    .rw[(tab b z).2.1]at e;cases e
    .subst z;rw[z2]at e;cases e)
  have hM:Mod K mg (xK s₁.heap H):=⟨hKb,nsK hns,⟨mb,nsK hb,hbb⟩,let ⟨mc,h1,h2⟩:=hlim;⟨mc,nsK h1,h2⟩⟩;have e0:aP P w K mg (xK s₁.heap H) iw [] s₁ H:=⟨rfl,hM,λb o e=>EJ e,Mn (EH _ _),trivial,λb hb=>dD (show b∈([]:bA bI)from hb) cO,hok,.of_eq hg⟩;refine gu ((F _ hKb (nsK hns)).run iw [] s₁ H ⟨[.ref a],[]⟩ [.ref a] [.ref a] (λv _=>v= .b true) (λ_ _ _=>jF) hr e0 (hbind s₁ (.ref a)) (.cons rfl .nil) ⟨a,ns,Fa,rfl,tbf,hsub,hS,hl,λ_=>rfl⟩) λr s' h=>?_
  cases r with
  |error e=>exact(show jF from h).elim|ok fl=>
   cases fl with
   |next=>exact qV h|brk=>exact qV h|cont=>exact qV h|ret u=>
    obtain⟨v,H',os,bare,un,hok',r',q⟩:=h;have q':v= .b true:=q;subst q';obtain rfl:u=Ea true:=r';have nofr:∀b:bI,b∉qF []:=λb z=>dD (show b∈([]:bA bI)from z) cO
    have tabN:∀b,rK b=true->∃more,s'.heap.get? b=some (aH (#[]++more)):=λb z=>by obtain⟨more,e⟩:=un.tbls b _ (HT b z);exact⟨more,hok' b _ e⟩
    have scr:∀b o,s₁.heap.get? b=some o->rK b=false->s'.heap.get? b=some o:=λb o e z=>by
     cases q:H b with
     |none=>exact un.keep b o e q (nofr b) cO|some u=>
      rcases hcase b u q with⟨z2,_⟩|⟨_,_,_,rfl⟩
      .rw[z]at z2;cases z2
      .obtain⟨e1,_⟩:=hok b _ q;obtain⟨e2,_⟩:=hok' b _ (un.frzs b _ rfl q);rw[e]at e1;cases e1;exact e2
    refine⟨rfl,⟨λb o e=>?_,λb o e=>?_⟩,os,bare⟩
    .cases z:rK b with|false=>exact .inl (scr b o e z)|true=>obtain⟨more,e2⟩:=tabN b z;have e1:=(tab b z).1;rw[e]at e1;cases e1;obtain⟨c,tc⟩:=(tab b z).2.2;exact .inr (.inl ⟨tc.isCodeTable,rfl, #[],more,rfl,e2⟩)
    .cases z:rK b with|false=>exact⟨o,scr b o e z⟩|true=>obtain⟨more,e2⟩:=tabN b z;exact⟨_,e2⟩
 cases hk:K.lookup a with
 |some o=>have e:=KX a o hk;rw[ha]at e;cases e;exact core (λ_=>none) (λ_=>.inl rfl) (.inr ⟨_,vs.toArray,_,hk,rfl,rfl,rfl,by rw[gQ,lenV];exact hl',by simpa using rv⟩)|none=>
  refine core (λb=>if b=a then some (.frz {cls:=.type "list",data:=.seq vs.toArray} (.l (ns.map V.int)))else none) (λb=>?_) (.inl (.inr ⟨{cls:=.type "list",data:=.seq vs.toArray},cK rfl⟩));by_cases hb:b=a
  .exact .inr ⟨hb,hk,cK hb⟩
  .exact .inl (dH hb)
end
noncomputable def yB(Ps:bA bI)(b:bI):bU:=Ps.any λP=>P==b
def qN(K:cD)(Ps:bA bI)(bm:bI)(ob:cQ):cD:=(bm,ob)::K.filter λp=> !yB Ps p.1
theorem ut{Ps:bA bI}{b:bI}(hb:yB Ps b=bH):∀K:cD,(K.filter λp=> !yB Ps p.1).lookup b=K.lookup b
 | []=>rfl| (a,o)::r=>by
  rw[pQ];by_cases z:b=a
  .subst z;simp only[hb,Bool.not_false,qX,lF,vW]
  .have e:(b==a)=bH:=lE.mpr z;split
   .rw[lF,lF,e,ut hb r]
   .rw[lF,e,ut hb r]
theorem uu{Ps:bA bI}{b:bI}(hb:yB Ps b=bC):∀K:cD,(K.filter λp=> !yB Ps p.1).lookup b=bK
 | []=>rfl| (a,o)::r=>by
  rw[pQ];split
  .rename_i h;have z:(b==a)=bH:=by
    refine lE.mpr λe=>?_
    subst e;rw[hb]at h;cases h
   rw[lF,z];exact uu hb r
  .exact uu hb r
section
variable{Ps:bA bI}{bm:bI}{ob:cQ}
structure nW(K:cD)(Ps:bA bI)(bm:bI)(ob:cQ)(h:cB):Prop where
 hk:K.In h
 hb:h.get? bm=bB ob
 hp:ob.data= .plain
 ht:∀P∈Ps,h.get? P=bB (aH #[])
def Sy{b:bI}(h:yB Ps b=bC):b∈Ps:=by obtain⟨P,h1,h2⟩:=aw.mp h;rw[<-dW h2];exact h1
def SA{b:bI}(h:b∈Ps):yB Ps b=bC:=aw.mpr ⟨b,h,vW _⟩
theorem nW.ne(U:nW K Ps bm ob h){P:bI}(hP:P∈Ps):bm≠P:=λz=>by have e:=U.ht P hP;rw[<-z,U.hb]at e;have e2:ob=aH #[]:=jJ e;have e3:=U.hp;rw[e2]at e3;cases e3
theorem nW.isIn(U:nW K Ps bm ob h):(qN K Ps bm ob).In h:=λa o e=>by
 unfold qN at e;rw[lF]at e;split at e
 .rename_i z;rw[dW z,U.hb];exact e
 .cases q:yB Ps a with|true=>rw[uu q]at e;cases e|false=>rw[ut q]at e;exact U.hk _ _ e
theorem nW.no(U:nW K Ps bm ob h){P:bI}(hP:P∈Ps):(qN K Ps bm ob).lookup P=bK:=by unfold qN;rw[lF,lE.mpr (U.ne hP).symm];exact uu (SA hP) K
def nW.at'(U:nW K Ps bm ob h):(qN K Ps bm ob).lookup bm=bB ob:=by unfold qN;rw[lF,vW]
theorem nW.up(U:nW K Ps bm ob h){b:bI}{o:cQ}(e:K.lookup b=bB o)(n:o.data≠ .fields #[]):(qN K Ps bm ob).lookup b=bB o:=by
 have hn:yB Ps b=false:=by
  cases z:yB Ps b with
  |false=>rfl|true=>have e2:=U.hk _ _ e;rw[U.ht b (Sy z)]at e2;cases e2;exact dD bO n
 unfold qN;rw[lF];split
 .rename_i z;have hbb:b=bm:=dW z;subst hbb;rw[<-U.hb,U.hk _ _ e]
 .rw[ut hn];exact e
theorem nW.code(U:nW K Ps bm ob h){cd:bJ}(e:aG K cd q=bC):aG (qN K Ps bm ob) cd q=bC:=by
 unfold aG at e|-;split at e
 .rename_i c;split at e
  .rename_i vs _ ho;have hne:vs≠ #[]:=λz=>by subst z;cases e
   have e2:=U.up ho (λz=>hne (by injection z));simp only[e2];exact e
  .cases e
 .cases e
theorem nW.fn(U:nW K Ps bm ob h){st:dN}{f:bI}(F:hO K x qual st f fd):hO (qN K Ps bm ob) x qual st f fd:=by obtain⟨oc,od,kV,doc,pm,an,cdv,ct,osl,e1,e2,e3⟩:=F.ex;have e4:=U.up e2 (λz=>by cases z);refine⟨⟨oc,od,kV,doc,pm,an,cdv,ct,osl,e1,e4,U.code e3⟩,?_⟩;unfold lY;simp only[e4]
theorem nW.hd(U:nW K Ps bm ob h){c P:bI}{oc:bJ}{vs:fQ bJ}{file:Str}{tf:lG}{flags:bG}{tg:lG}{inF:bU}{text:bG}{tt:lG}(hP:P∈Ps)(lc:K.lookup c=bB ⟨.type "code",od,.fields vs,sl⟩)
 (q11:vs[11]? =bB (.ref P)) (q18:vs.getD 18 .none= .str file tf) (q7:vs.getD 7 .none= .int flags tg) (q9:vs.getD 9 .none= .bool inF) (q10:vs.getD 10 .none= .int text tt) (hb:(qN K Ps bm ob).In base):yf base c P:=by
 have hne:vs≠ #[]:=λz=>by subst z;cases q11
 refine⟨_,vs,file,tf,flags,tg,inF,text,tt,hb _ _ (U.up lc λz=>hne (by injection z)),rfl,rfl,q11,?_,q18,q7,q9,q10,λz=>?_⟩
 .rw[Array.getD_eq_getD_getElem?,q11];rfl
 .subst z;have e2:=U.hk _ _ lc;rw[U.ht _ hP]at e2;cases e2
end
def walk_ofU{l:qw}{q:fM}{loose:bA Str}{d:DefRec}{K:aK->cD}{ts:bA bI}
 (hn:l.most=bB 63) (hdf:d.params.defaults= []) (hr:fY k iw) (hY:∀(w:cF) (h:cB),YP w h->(K w.params).In h) (hZ:∀(w:cF) (h:cB),YP w h->∀P∈ts,h.get? P=bB (aH #[]))
 (F:∀(w:cF) (mg:Str->bQ bJ) (fa:bI) (h:cB),(K w.params).In h->h.Ns gM mg->mg d.name=bB (.ref fa)->(∀P∈ts,h.get? P=bB (aH #[]))->
   (∃bm ob,mg "__builtins__" =bB (.ref bm)/\bm≠xB/\h.get? bm=bB ob/\ob.cls= .type "module" /\ob.dict=bB xB/\ob.data= .plain)->
   ∃(T:fZ) (K':cD) (fd:gJ),K'.In h/\(∀t∈T.L,(∃c,h.TableAt c t.1 #[])/\K'.lookup t.1=bK)/\(∀(s:bS) (u:bJ),kn s fd ⟨[u],[]⟩ [(x,u)])/\
    ∀base:cB,K'.In base->base.Ns gM mg->dZ l.prog w K' mg base fF k fa fd [x] (ul K')):
 W.WalkO q loose XP YP l.row.toRowW d [] (λf vs=>MF f vs):=by
 refine Att.attach_call hn hdf λw s₀ s₁ mg mb fa o pm cd doc a vs ns G Ya ho hd hcd hmg hobj hints hlen hg=>?_
 obtain⟨T,K',fd,h1,h2,h3,h4⟩:=F w mg fa _ (hY w _ Ya) G.T.g hmg (hZ w _ Ya) G.T.bmain;exact Sx h1 G.T.g G.T.b G.T.builtins G.T.nolimit hg h2 hobj hints hlen hr h4 h3
section
variable [fZ] [Pd]
noncomputable def wM(w:cF)(K:cD):bA xG->bA (Str×D)->Prop| [],[]=>wE|e::es,(x,d)::r=>e.hash=ra w x/\(∃t,e.key= .str x t)/\(∃v,cX v e.val/\ ∀F,bM K F d v)/\wM w K es r|_,_=>jF
structure bf(w:cF)(K:cD)(mg:Str->bQ bJ)(x:Str)(tbl:bA (Str×D)):Prop where
 ex:∃p es ep,mg x=bB (.ref p)/\(p==qU)=bH/\K.lookup p=bB ⟨.type "dict",bK,.dict es ep, #[]⟩/\wM w K es.toList tbl
section
variable{w:cF}
theorem Hh:∀{es:bA xG} {tbl:bA (Str×D)},wM w K es tbl->∀e∈es,∃k,(jX P w).is k e.key=bC/\e.hash=(jX P w).hash k
 | [],_,_,e,h=>by cases h|e::es,[],h,_,_=>h.elim|e::es,(x,d)::r,⟨h1,⟨t,h2⟩,_,h4⟩,e',he=>by
  rcases kS.mp he with rfl|he
  .exact⟨.inr x,by rw[h2];exact dh P w x t,h1⟩
  .exact Hh h4 e' he
theorem AD(z:Str):∀{es:bA xG} {tbl:bA (Str×D)},wM w K es tbl->
 (tbl.lookup z=bK/\(es.find? λe=>(jX P w).is (.inr z) e.key).map (·.val)=bK)\/ ∃d v u,tbl.lookup z=bB d/\(es.find? λe=>(jX P w).is (.inr z) e.key).map (·.val)=bB u/\cX v u/\ ∀F,bM K F d v
 | [],[],_=>.inl ⟨rfl,rfl⟩| [],_::_,h=>h.elim|e::es,[],h=>h.elim|e::es,(x,d)::r,⟨h1,⟨t,h2⟩,⟨v,h3,h3'⟩,h4⟩=>by
  by_cases hx:z=x
  .subst hx;refine .inr ⟨d,v,e.val,by rw[lF,vW],?_,h3,h3'⟩;rw[wX,h2,dh];rfl
  .have e1:(z==x)=bH:=lE.mpr hx;have e2:(jX P w).is (.inr z) e.key=bH:=by
    rw[h2];have:=KeyKind.is_eq_decide (knd:=jX P w) (k:=.inr x) (v:=.str x t) (dh P w x t) (.inr z);rw[this];exact jD λq=>hx (by injection q)
   rw[lF,e1,wX,e2];exact AD z h4
end
noncomputable def yC(tbl:bA (Str×D))(neg:bU):D->bP D| .str z=>.ok (.b ((tbl.lookup z).isSome != neg))|_=>.bad
noncomputable def yD(tbl:bA (Str×D)):D->bP D
 | .str z=>match tbl.lookup z with
  |some d=>.ok d|none=>.bad
 |_=>.bad
section
variable{a b:Expr}{tbl:bA (Str×D)}
def AE{q:bI}{es:fQ xG}(I:bR X pc Y H s)(hk:X.K.lookup q=bB ⟨.type "dict",bK,.dict es ep, #[]⟩)(he:wM X.w X.K es.toList tbl):
 s.heap.MapOf (jX X.prog X.w) q (λk=>yq (jX X.prog X.w).is es k):=
 ⟨_,es,ep,I.kIn _ _ hk,⟨rfl,rfl,rfl⟩,rfl,λe he'=>Hh he e (by simpa using he'),λ_=>rfl⟩
def mz(K:cD)(w:cF)(tbl:bA (Str×D))(neg:bU):R2:=λx y H Q=>∃z p es ep,x= .str z/\y= .ref p/\(p==qU)=bH/\K.lookup p=bB ⟨.type "dict",bK,.dict es ep, #[]⟩/\wM w K es.toList tbl/\Q (.b ((tbl.lookup z).isSome != neg)) H
def Hi{w:cF}{es:fQ xG}(he:wM w K es.toList tbl)(z:Str):(yq (jX P w).is es (.inr z)).isSome=(tbl.lookup z).isSome:=by
 rcases AD (P:=P) z he with⟨h1,h2⟩|⟨d,v,u,h1,h2,_⟩
 .rw[h1];show((es.find? _).map _).isSome=_;rw[<-wj,h2];rfl
 .rw[h1];show((es.find? _).map _).isSome=_;rw[<-wj,h2];rfl
def Hj:dQ X (hJ .In) (mz X.K X.w tbl bH):=by intro pc s Y H x y v u Q I rx ry h;obtain⟨z,p,es,ep,rfl,rfl,hs,hk,he,q⟩:=h;obtain⟨t,rfl⟩:=rx;cases(show u=jT p from ry);refine wpAny_in_of (knd:=jX X.prog X.w) (k:=.inr z) (dh _ _ z t) hs (AE I hk he) ?_;rw[Hi he];rw[Bool.bne_false]at q;exact⟨.b _,H,I.tok _,rfl,q⟩
def Hk:dQ X (hJ .NotIn) (mz X.K X.w tbl bC):=by intro pc s Y H x y v u Q I rx ry h;obtain⟨z,p,es,ep,rfl,rfl,hs,hk,he,q⟩:=h;obtain⟨t,rfl⟩:=rx;cases(show u=jT p from ry);refine L6 (knd:=jX X.prog X.w) (k:=.inr z) (dh _ _ z t) hs (AE I hk he) ?_;rw[Hi he];rw[Bool.bne_true]at q;exact⟨.b _,H,I.tok _,rfl,q⟩
def Hl(K:cD)(w:cF)(tbl:bA (Str×D)):R2:=λx y H Q=>∃z p es ep,x= .ref p/\y= .str z/\K.lookup p=bB ⟨.type "dict",bK,.dict es ep, #[]⟩/\wM w K es.toList tbl/\ ∃d,tbl.lookup z=bB d/\ ∀v,(∀F,bM K F d v)->Q v H
def SD:eh X (Hl X.K X.w tbl):=by
 intro value slice pc s Y H x y v u Q I rx ry h hs;obtain⟨z,p,es,ep,rfl,rfl,hk,he,d,hd,q⟩:=h;cases(show v=jT p from rx);obtain⟨t,rfl⟩:=ry;have hm:=AE I hk he;rcases AD (P:=X.prog) z he with⟨h1,_⟩|⟨d',v',u',h1,h2,h3,h4⟩
 .rw[hd]at h1;cases h1
 .rw[hd]at h1;cases h1;have hf:(λk=>yq (jX X.prog X.w).is es k) (.inr z)=bB u':=by
   show(es.find? _).map _=_;rw[<-wj,h2]
  exact Dp (x:=u') hm.typeIs slot_dict_getitem.lookup (LJ (Q:=λr s'=>r=u'/\EP X pc Y Q r s') (dh _ _ z t) hm hf ⟨rfl,v',H,I.tok _,h3,q v' h4⟩) hs
def AF{r:V->Hp->VK->Prop}{m:D->bP D}(hd:me X r m){Q:VK}(q:tD X (m1 m f) Y H Q):tD X f Y H λv H1=>r v H1 Q:=by obtain⟨O,F,E,q⟩:=q;exact⟨O,F,E,jY q λd v F1 H1 g1 d1 q=>hd F1 H1 d v Q g1.sub d1 q⟩
def Hm{p:bI}{es:fQ xG}(hs:(p==qU)=bH)(hk:X.K.lookup p=bB ⟨.type "dict",bK,.dict es ep, #[]⟩)(he:wM X.w X.K es.toList tbl):me X (λx H Q=>mz X.K X.w tbl neg x (.ref p) H Q) (yC tbl neg):=λF H d v Q s h q=>by
 cases d with
 |str z=>simp only[bM]at h;exact⟨z,p,es,ep,h.1,rfl,hs,hk,he,dE q s (by simp only[bM])⟩|_=>exact q.elim
def SE{p:bI}{es:fQ xG}(hk:X.K.lookup p=some ⟨.type "dict",none,.dict es ep, #[]⟩)(he:wM X.w X.K es.toList tbl):me X (λy H Q=>Hl X.K X.w tbl (.ref p) y H Q) (yD tbl):=λF H d v Q s h q=>by
 cases d with
 |str z=>
  simp only[bM]at h;unfold yD at q;cases hl:tbl.lookup z with
  |none=>simp only[hl]at q;cases q|some d=>simp only[hl]at q;exact⟨z,p,es,ep,rfl,h.1,hk,he,d,hl,λv' hv=>dE q s (hv F)⟩
 |_=>exact q.elim
def Hn(hop:(op= .In/\neg=bH)\/(op= .NotIn/\neg=bC))(C:bf X.w X.K X.mg x tbl)(hg:X.env.scope.names.lookup x=bB .globalImplicit)(hd:(x==("__debug__" :Str))=bH)(hm:tQ op (.Name x p)=bH)(ha:IE X a f):
 IE X (.Compare a [op] [.Name x p] pos) (m1 (yC tbl neg) f):=by
 obtain⟨q,es,ep,h1,h2,h3,h4⟩:=C.ex;have ho:dQ X (hJ op) (mz X.K X.w tbl neg):=by
  rcases hop with⟨rfl,rfl⟩|⟨rfl,rfl⟩
  .exact Hj
  .exact Hk
 exact gN (E6 ho ha (kz (v:=.ref q) hg h1 rfl hd) hm) λY H Q z=>AF (Hm h2 h3 h4) z
def Ho(hop:(op= .In/\neg=bH)\/(op= .NotIn/\neg=bC))(C:bf X.w X.K X.mg x tbl)(hg:X.env.scope.names.lookup x=bB .globalImplicit)(hd:(x==("__debug__" :Str))=bH)(hm:tQ op (.Name x p)=bH)(ha:IE X a f):
 IT X (.Compare a [op] [.Name x p] pos) (mB (m1 (yC tbl neg) f)):=by
 obtain⟨q,es,ep,h1,h2,h3,h4⟩:=C.ex;have ho:dQ X (hJ op) (mz X.K X.w tbl neg):=by
  rcases hop with⟨rfl,rfl⟩|⟨rfl,rfl⟩
  .exact Hj
  .exact Hk
 exact iK (zd ho ha (kz (v:=.ref q) hg h1 rfl hd) hm) λY H Q z=>zz (f:=m1 (yC tbl neg) f) (λ_ _ _ z=>AF (Hm h2 h3 h4) z) z
def SF(C:bf X.w X.K X.mg x tbl)(hg:X.env.scope.names.lookup x=bB .globalImplicit)(hd:(x==("__debug__" :Str))=bH)(hs:um b=bC)(ha:IE X b f):IE X (.Subscript (.Name x p) b pos) (m1 (yD tbl) f):=by obtain⟨q,es,ep,h1,h2,h3,h4⟩:=C.ex;exact gN (FH SD (kz (v:=.ref q) hg h1 bO hd) ha (G8 hs)) λY H Q z=>AF (SE h3 h4) z
end
theorem SG{w:cF}{f:bI}{sp:Sp}(F:dZ P w K mg base fF j f fd ps sp)(h:j<=k):dZ P w K mg base fF k f fd ps sp:=
 ⟨F.len,λA outer s H args us vs Q E hr=>F.run A outer s H args us vs Q E (hr.mono h)⟩
theorem uv{w:cF}(C:xY P w K mg base n x m):∃a,mg x=bB (.ref a)/\vN P w K mg base n (.ref a) [] m:=by obtain⟨f,fd,ps,F,hm,hk,hb⟩:=C.ex;exact⟨f,hm,⟨⟨f,fd,ps,rfl,.inr hk,F.imp λvs H Q E h=>Sh h,hb⟩⟩⟩
section
variable{e1 e2:Expr}{f1 f2:ME}{xr xn:Str}{pn:dJ}
def uw{fR fN:bI}{fdR:gJ}{M:bA D->bP D}(FR:dZ X.prog X.w X.K X.mg X.base fF k fR fdR ps (vO X.K (.ref fN) [] M))(hr:fY k X.A)(hmR:X.mg xr=bB (.ref fR))(hkR:lY X.K (.ref fR)=bC)(hbR:lH X.K fdR ps [])
 (hmN:X.mg xn=bB (.ref fN)) (hg:X.env.scope.names.lookup xr=bB .globalImplicit) (hgN:X.env.scope.names.lookup xn=bB .globalImplicit) (hn:fG [e1,e2]=bC) (hd:(xr==("__debug__" :Str))=bH) (hdN:(xn==("__debug__" :Str))=bH) (he1:IE X e1 f1) (he2:IE X e2 f2):
 IE X (.Call (.Name xr p) [e1,e2,.Name xn pn] [] pos) (mA M (aC f1 (aC f2 fP))):=by
 have hs:gE e1=bH/\gE e2=bH:=by simp only[fG,lS,dB]at hn;exact⟨by simpa using hn.1,by simpa using hn.2.1⟩
 have nN:fG [.Name xn pn]=bC:=rfl;refine gN (sh (E:=E0) FR hr hg hmR hkR hbR .nil xL (nT he1 (nT he2 (nT (kz (v:=.ref fN) hgN hmN bO hdN) sW (gC bO)) (gC hs.2)) (gC hs.1)) hd (gC hs.1) (mN (by simp[fG,hs.2];rfl))) λY H Q q=>?_
 obtain⟨O,F,E,q⟩:=q;have e:mA M (aC f1 (aC f2 fP)) O=(f1 O).bind λd1=>(f2 O).bind λd2=>M [d1,d2]:=by
  unfold mA aC fP;cases f1 O with
  |ok _=>cases f2 O<;>rfl|bad=>rfl
 rw[e]at q;exact⟨O,F,E,jY q λd1 v1 F1 H1 g1 r1 q=>⟨O,F1,E.grow g1,jY q λd2 v2 F2 H2 g2 r2 q=>⟨F2,[d1,d2],[v1,v2],rfl,g2.tk (g1.tk E.tb),g2.sub,(λp hp=>nomatch hp),DatL.cons (r1.mono g2.fs) (DatL.cons r2 DatL.nil),q⟩⟩⟩
end
end
def mO(tp:bU)(h:cB)(it l:bI)(k:bD):Prop:=match tp with|true=>h.IsTupleIter it l k|false=>h.IsListIter it l k
def qO(tp:bU)(h:cB)(l:bI)(ys:fQ bJ):Prop:=match tp with|true=>h.IsTuple l ys|false=>h.IsList l ys
section
variable{w:cF}
def mO.at_{it:bI}(x:mO tp h it l k)(f:∀o,h.get? it=bB o->h'.get? it=bB o):mO tp h' it l k:=by
 cases tp
 .exact Heap.IsListIter.at x f
 .exact Heap.IsTupleIter.at x f
def qO.at_(x:qO tp h l ys)(f:∀o,h.get? l=bB o->h'.get? l=bB o):qO tp h' l ys:=by
 cases tp
 .exact Heap.IsList.at x f
 .exact Heap.IsTuple.at x f
def mO.obj{it:bI}(x:mO tp h it l k):∃o,h.get? it=bB o/\(o.cls= .type "tuple_iterator" \/o.cls= .type "list_iterator")/\o.data= .fields #[.ref l,.int k 0]:=by
 cases tp
 .obtain⟨o,h1,h2,h3⟩:=x;exact⟨o,h1,.inr h2,h3⟩
 .obtain⟨o,h1,h2,h3⟩:=x;exact⟨o,h1,.inl h2,h3⟩
theorem SH{it:bI}{x:bJ}(hit:s.heap.IsTupleIter it l i)(hl:s.heap.IsTuple l ys)(hx:ys[i]? =bB x)
 (hQ:∀h',h'.IsTupleIter it l (i+1)->yU it s.heap h'->Q x {s with heap:=h'}):wpAny (cA prog w) A (yR (.ref it)) Q E s:=by
 obtain⟨o,ho,hc,hd⟩:=id hit;obtain⟨ol,hol,_,nl,hdl⟩:=hl;unfold yR;refine bV (jy (name:=yV "__next__") hit.typeIs F.slot_tuple_iterator_next (j6 F.slot_tuple_iterator_next hit.typeIs F.entry_tuple_iterator_next ?_ (F.args_tuple_iterator_next_1 _)));show wpAny _ _ (df (.ref it) 0>>=_) _ _ s;refine bV (rT ho hd (x:=.ref l) bO ?_);show wpAny _ _ (if(jT l==xD)=bC then _ else _) _ _ s;rw[dH (show ¬ ((jT l==xD)=bC)from tO)];show wpAny _ _ (df (.ref it) 1>>=_) _ _ s;refine bV (rT ho hd (x:=.int i 0) bO ?_);show wpAny _ _ (seqItems? (.ref l)>>=_) _ _ s;refine bV (ay hol hdl ?_);simp only[wm,hx];refine bV (Ma ho hd cO (dM ⟨x,rfl,dM (hQ _ ⟨_,Heap.get?_update_self _ ho (Obj.isFreed_of_fields (Lw hd _)),(Obj.cls_mapFields ..).trans hc,by rw[Lw hd];simp[mV]⟩ (Lp ..))⟩))
theorem SI{it:bI}(hh:A.handled=bK)(hit:s.heap.IsTupleIter it l i)(hl:s.heap.IsTuple l ys)(hx:ys[i]? =bK)
 (hE:∀h' e,MB it s.heap h'->(∃o,h'.get? e=bB o/\o.cls= .type "StopIteration")->E (.ref e) {s with heap:=h'}):wpAny (cA prog w) A (yR (.ref it)) Q E s:=by
 obtain⟨o,ho,hc,hd⟩:=id hit;obtain⟨ol,hol,_,nl,hdl⟩:=hl;unfold yR;refine bV (jy (name:=yV "__next__") hit.typeIs F.slot_tuple_iterator_next (j6 F.slot_tuple_iterator_next hit.typeIs F.entry_tuple_iterator_next ?_ (F.args_tuple_iterator_next_1 _)));show wpAny _ _ (df (.ref it) 0>>=_) _ _ s;refine bV (rT ho hd (x:=.ref l) bO ?_);show wpAny _ _ (if(jT l==xD)=bC then _ else _) _ _ s;rw[dH (show ¬ ((jT l==xD)=bC)from tO)];show wpAny _ _ (df (.ref it) 1>>=_) _ _ s;refine bV (rT ho hd (x:=.int i 0) bO ?_);show wpAny _ _ (seqItems? (.ref l)>>=_) _ _ s;refine bV (ay hol hdl ?_);simp only[wm,hx];refine bV (qi (bV (Ma ho hd cO ?_)));show wpAny _ _ (newExc (.type "StopIteration") []>>=_) _ _ _;refine bV ?_;simp only[newExc,newTuple];refine bV (au ?_ (by size_fits));refine bV (m:=Mc _ _) (wpAny_of_eq (a:=xD) (by first|rfl| (simp only[Mc];rfl)) ?_);refine au ?_ (by size_fits);simp only[raiseNew];refine bV (wpAny_handled ?_);first|rw[show A.in1.handled=bK from hh]|rw[hh]
 refine bV (dM (wpAny_throw ?_));exact hE _ _ (((Lp ..).extBut.push _).push _) ⟨_,lA _ bO,rfl⟩
def AG{it:bI}{x:bJ}(hit:mO tp s.heap it l i)(hl:qO tp s.heap l ys)(hx:ys[i]? =bB x)
 (hQ:∀h',mO tp h' it l (i+1)->yU it s.heap h'->Q x {s with heap:=h'}):wpAny (cA prog w) A (yR (.ref it)) Q E s:=by
 cases tp
 .exact wpAny_nextOf_list_item hit hl hx hQ
 .exact SH hit hl hx hQ
def Hq{it:bI}(hh:A.handled=bK)(hit:mO tp s.heap it l i)(hl:qO tp s.heap l ys)(hx:ys[i]? =bK)
 (hE:∀h' e,MB it s.heap h'->(∃o,h'.get? e=bB o/\o.cls= .type "StopIteration")->E (.ref e) {s with heap:=h'}):wpAny (cA prog w) A (yR (.ref it)) Q E s:=by
 cases tp
 .exact wpAny_nextOf_list_end hh hit hl hx hE
 .exact SI hh hit hl hx hE
end
section
variable{w:cF}
theorem SJ{z TI TO i1 i2 l1 l2:bI}{k1 k2:bD}{xs:fQ bJ}{x y a b:bJ}{Q:bQ bJ->bS->Prop}(D:yg z TI TO i1 i2 l1 l2)
 (hz:tW s.heap z TI TO .none) (hTI:qE s.heap TI (.ref i1) (.ref i2)) (hTO:qE s.heap TO a b) (h1:mO t1 s.heap i1 l1 k1) (h2:mO t2 s.heap i2 l2 k2) (hl1:qO t1 s.heap l1 xs) (hl2:qO t2 s.heap l2 ys) (hx:xs[k1]? =bB x) (hy:ys[k2]? =bB y)
 (hQ:∀h',tW h' z TI TO (mV s.heap.objs.size)->qE h' TO x y->mO t1 h' i1 l1 (k1+1)->mO t2 h' i2 l2 (k2+1)->qE h' s.heap.objs.size x y->h'.objs.size=s.heap.objs.size+1->
   (∀c o,c≠z->c≠TO->c≠i1->c≠i2->s.heap.get? c=bB o->h'.get? c=bB o)->Q (bB (.ref s.heap.objs.size)) {s with heap:=h'}):wpAny (cA prog w) A (xH (.ref z)) Q E s:=by
 have hT:s.TypeIs (.ref z) "zip" :=⟨_,hz,rfl⟩;unfold xH;refine bV (wpAny_attempt (jy (name:=yV "__next__") hT F.slot_zip_next (j6 F.slot_zip_next hT F.entry_zip_next (lT (Q:=λfO s'=>∃v,fO= .done (.ret v)/\Q (bB v) s') ?_ (λfO s' h=>?_) λ_ _ e=>e) (F.args_zip_next_1 _))))
 .show wpAny _ _ (df (.ref z) 2>>=_) _ _ _;refine bV (rT hz rfl (x:=.bool bH) rfl ?_);show wpAny _ _ (df (.ref z) 3>>=_) _ _ _;refine bV (rT hz rfl (x:=.ref TI) rfl ?_);refine bV (ay hTI rfl ?_);show wpAny _ _ (v3 (.ref z)>>=_) _ _ _;refine bV ?_;unfold v3;refine bV (rT hz rfl (x:=.none) rfl (dM ?_));simp only[qX];refine bV (qi (bV (rT hz rfl (x:=.ref TO) rfl (bV (j0 hz cO λh₁ hz₁ hs₁=>?_)))));replace hz₁:tW h₁ z TI TO .ellipsis:=hz₁;refine bV ?_;simp only[LN,LX,DM,Md];refine bV (bV (xg ?_));show wpAny _ _ (yR (.ref i1)>>=_) _ _ _;refine bV (AG (h1.at_ λo e=>hs₁.extBut _ _ D.i1z e) (hl1.at_ λo e=>hs₁.extBut _ _ D.l1z e) hx λh₂ h1₂ hs₂=>dM ?_);have q2:qE h₂ TO a b:=hs₂.extBut _ _ D.TOi1 (hs₁.extBut _ _ D.TOz hTO);refine bV (ay q2 rfl (bV (Dw q2 λh₃ q3 hs₃=>?_)));replace q3:qE h₃ TO x b:=q3;refine bV (D7 (dM (bV (bV (xg ?_)))));show wpAny _ _ (yR (.ref i2)>>=_) _ _ _;have up3:∀c o,c≠z->c≠i1->c≠TO->s.heap.get? c=bB o->h₃.get? c=bB o:=λc o c1 c2 c3 e=>hs₃.extBut _ _ c3 (hs₂.extBut _ _ c2 (hs₁.extBut _ _ c1 e))
  refine bV (AG (h2.at_ λo e=>up3 _ o D.i2z D.i12.symm D.TOi2.symm e) (hl2.at_ λo e=>up3 _ o D.l2z D.l2i1 D.l2TO e) hy λh₄ h2₄ hs₄=>dM ?_);have q4:qE h₄ TO x b:=hs₄.extBut _ _ D.TOi2 q3;refine bV (ay q4 rfl (bV (Dw q4 λh₅ q5 hs₅=>?_)));replace q5:qE h₅ TO x y:=q5;refine bV (D7 (dM (dM (bV (ay q5 rfl (bV (wpAny_newTuple ?_)))))));have hsz:h₅.objs.size=s.heap.objs.size:=by rw[hs₅.1,hs₄.1,hs₃.1,hs₂.1,hs₁.1]
  have z5:tW h₅ z TI TO .ellipsis:=hs₅.extBut _ _ D.TOz.symm (hs₄.extBut _ _ D.i2z.symm (hs₃.extBut _ _ D.TOz.symm (hs₂.extBut _ _ D.i1z.symm hz₁)));have up5:∀c o,c≠z->c≠TO->c≠i1->c≠i2->s.heap.get? c=bB o->h₅.get? c=bB o:=λc o c1 c2 c3 c4 e=>hs₅.extBut _ _ c2 (hs₄.extBut _ _ c4 (up3 c o c1 c3 c2 e))
  have a1:mO t1 h₅ i1 l1 (k1+1):=h1₂.at_ λo e=>hs₅.extBut _ _ D.TOi1.symm (hs₄.extBut _ _ D.i12 (hs₃.extBut _ _ D.TOi1.symm e))
  have a2:mO t2 h₅ i2 l2 (k2+1):=h2₄.at_ λo e=>hs₅.extBut _ _ D.TOi2.symm e
  have ltz:z<h₅.objs.size:=fU z5;show wpAny _ _ (KI (.ref z) (.ref h₅.objs.size)>>=_) _ _ _;refine bV ?_;unfold KI;have z6:tW (h₅.push {cls:=.type "tuple",data:=.seq #[x,y]}) z TI TO .ellipsis:=fC _ z5;refine bV (j0 z6 cO λh₇ z7 hs₇=>?_);replace z7:tW h₇ z TI TO (mV h₅.objs.size):=z7;refine j0 z7 cO λh₈ z8 hs₈=>?_;replace z8:tW h₈ z TI TO (mV h₅.objs.size):=z8
  have up:∀c o,c≠z->h₅.get? c=bB o->h₈.get? c=bB o:=λc o c1 e=>hs₈.extBut _ _ c1 (hs₇.extBut _ _ c1 (fC _ e))
  have p8:qE h₈ h₅.objs.size x y:=hs₈.extBut _ _ (gt ltz) (hs₇.extBut _ _ (gt ltz) (lA _ rfl));have s8:h₈.objs.size=h₅.objs.size+1:=by rw[hs₈.1,hs₇.1,vX]
  rw[hsz]at z8 p8 s8;refine dM ⟨_,rfl,?_⟩;show Q (bB (.ref h₅.objs.size)) _;rw[hsz];exact hQ h₈ z8 (up _ _ D.TOz q5) (a1.at_ λo e=>up _ o D.i1z e) (a2.at_ λo e=>up _ o D.i2z e) p8 s8 λc o c1 c2 c3 c4 e=>up c o c1 (up5 c o c1 c2 c3 c4 e)
 .obtain⟨v,rfl,h⟩:=h;exact⟨v,rfl,dM h⟩
theorem SK{z TI TO i1 i2 l1 l2:bI}{k1 k2:bD}{xs:fQ bJ}{a b:bJ}{Q:bQ bJ->bS->Prop}(hh:A.handled=none)(D:yg z TI TO i1 i2 l1 l2)
 (hz:tW s.heap z TI TO .none) (hTI:qE s.heap TI (.ref i1) (.ref i2)) (hTO:qE s.heap TO a b) (h1:mO t1 s.heap i1 l1 k1) (h2:mO t2 s.heap i2 l2 k2) (hl1:qO t1 s.heap l1 xs) (hl2:qO t2 s.heap l2 ys) (hend:xs[k1]? =none\/ys[k2]? =none)
 (hQ:∀h',(∀c o,c≠z->c≠TO->c≠i1->c≠i2->s.heap.get? c=some o->h'.get? c=some o)->Q none {s with heap:=h'}):wpAny (cA prog w) A (xH (.ref z)) Q E s:=by
 have hT:s.TypeIs (.ref z) "zip" :=⟨_,hz,rfl⟩;unfold xH
 have fO:∀h' e,(∀c o,c≠z->c≠TO->c≠i1->c≠i2->s.heap.get? c=some o->h'.get? c=some o)->(∃o,h'.get? e=some o/\o.cls= .type "StopIteration")->
  wpAny (cA prog w) A (do if(<-isInstance (.ref e) (.type "StopIteration"))=bC then fE none else throw (.ref e)) Q E {s with heap:=h'}:=λh' e hk he=>by
  obtain⟨o,ho,hc⟩:=he;exact bV (wpAny_isInstance (T:="StopIteration") (b:=bC) ⟨o,ho,hc⟩ isSubtype_stop (dM (hQ _ hk)))
 refine bV (wpAny_attempt (jy (name:=yV "__next__") hT F.slot_zip_next (j6 F.slot_zip_next hT F.entry_zip_next ?_ (F.args_zip_next_1 _))));show wpAny _ _ (df (.ref z) 2>>=_) _ _ _;refine bV (rT hz bO (x:=.bool bH) bO ?_);show wpAny _ _ (df (.ref z) 3>>=_) _ _ _;refine bV (rT hz bO (x:=.ref TI) bO ?_);refine bV (ay hTI bO ?_);show wpAny _ _ (v3 (.ref z)>>=_) _ _ _;refine bV ?_;unfold v3;refine bV (rT hz bO (x:=.none) bO (dM ?_));simp only[qX];refine bV (qi (bV (rT hz bO (x:=.ref TO) bO (bV (j0 hz cO λh₁ hz₁ hs₁=>?_)))));replace hz₁:tW h₁ z TI TO .ellipsis:=hz₁;refine bV ?_;simp only[LN,LX,DM,Md];refine bV (bV (xg ?_));show wpAny _ _ (yR (.ref i1)>>=_) _ _ _;cases hx:xs[k1]? with
 |none=>
  refine bV (Hq hh (h1.at_ λo e=>hs₁.extBut _ _ D.i1z e) (hl1.at_ λo e=>hs₁.extBut _ _ D.l1z e) hx λh₂ e hs₂ he=>?_);obtain⟨oe,hoe,hce⟩:=he;have z2:tW h₂ z TI TO .ellipsis:=hs₂ _ _ D.i1z.symm hz₁;have hez:e≠z:=λx=>by subst x;rw[z2]at hoe;cases hoe;simp at hce
  refine j0 z2 cO λh₃ _ hs₃=>fO h₃ e (λc o c1 _ c3 _ x=>hs₃.extBut _ _ c1 (hs₂ _ _ c3 (hs₁.extBut _ _ c1 x))) ⟨oe,hs₃.extBut _ _ hez hoe,hce⟩
 |some x=>
  have hy:ys[k2]? =none:=by rcases hend with h|h;rw[hx]at h;cases h;exact h
  refine bV (AG (h1.at_ λo e=>hs₁.extBut _ _ D.i1z e) (hl1.at_ λo e=>hs₁.extBut _ _ D.l1z e) hx λh₂ h1₂ hs₂=>dM ?_);have q2:qE h₂ TO a b:=hs₂.extBut _ _ D.TOi1 (hs₁.extBut _ _ D.TOz hTO);refine bV (ay q2 bO (bV (Dw q2 λh₃ q3 hs₃=>?_)));refine bV (D7 (dM (bV (bV (xg ?_)))));show wpAny _ _ (yR (.ref i2)>>=_) _ _ _;have up3:∀c o,c≠z->c≠i1->c≠TO->s.heap.get? c=some o->h₃.get? c=some o:=λc o c1 c2 c3 e=>hs₃.extBut _ _ c3 (hs₂.extBut _ _ c2 (hs₁.extBut _ _ c1 e))
  refine bV (Hq hh (h2.at_ λo e=>up3 _ o D.i2z D.i12.symm D.TOi2.symm e) (hl2.at_ λo e=>up3 _ o D.l2z D.l2i1 D.l2TO e) hy λh₄ e hs₄ he=>?_);obtain⟨oe,hoe,hce⟩:=he;have z4:tW h₄ z TI TO .ellipsis:=hs₄ _ _ D.i2z.symm (hs₃.extBut _ _ D.TOz.symm (hs₂.extBut _ _ D.i1z.symm hz₁));have hez:e≠z:=λx=>by subst x;rw[z4]at hoe;cases hoe;simp at hce
  refine j0 z4 cO λh₅ _ hs₅=>fO h₅ e (λc o c1 c2 c3 c4 x=>hs₅.extBut _ _ c1 (hs₄ _ _ c4 (up3 c o c1 c3 c2 x))) ⟨oe,hs₅.extBut _ _ hez hoe,hce⟩
end
noncomputable def iT(tp:bU)(l:bI):cQ:=match tp with|true=>{cls:=.type "tuple_iterator",data:=.fields #[.ref l,.int 0 0]}|false=>{cls:=.type "list_iterator",data:=.fields #[.ref l,.int 0 0]}
abbrev zA(t1:bU)(h:cB)(l1:bI):cB:=h.push (iT t1 l1)
abbrev zB(t1 t2:bU)(h:cB)(l1 l2:bI):cB:=(zA t1 h l1).push (iT t2 l2)
abbrev zC(t1 t2:bU)(h:cB)(l1 l2:bI):cB:=(zB t1 t2 h l1 l2).push {cls:=.type "tuple",data:=.seq #[.ref h.objs.size,.ref (zA t1 h l1).objs.size]}
abbrev zD(t1 t2:bU)(h:cB)(l1 l2:bI):cB:=(zC t1 t2 h l1 l2).push {cls:=.type "tuple",data:=.seq #[.none,.none]}
abbrev zE(t1 t2:bU)(h:cB)(l1 l2:bI):cB:=(zD t1 t2 h l1 l2).push {cls:=.type "zip",data:=.fields #[.none,.bool bH,.bool bH,.ref (zB t1 t2 h l1 l2).objs.size,.ref (zC t1 t2 h l1 l2).objs.size]}
def SL(t1 t2:bU)(l1 l2:bI)(xs ys:fQ bJ):Meets (iy.«zip.__new__» ⟨[.type "zip",.ref l1,.ref l2],[]⟩) (λ_ R s=>qO t1 s.heap l1 xs/\qO t2 s.heap l2 ys/\R (.ok (.ret (.ref (zD t1 t2 s.heap l1 l2).objs.size))) {s with heap:=zE t1 t2 s.heap l1 l2}):=
 .of_wp λprog w A R s h=>by
  obtain⟨hp,g,d,tk,os⟩:=s;obtain⟨hl1,hl2,h⟩:=h;have hsub:=sub_zip;cases t1<;>cases t2
  .have hL1:xm (cn ⟨hp,g,d,tk,os⟩) l1 xs:=hl1;have hL2:xm (cn ⟨hp.push {cls:=.type "list_iterator",data:=.fields #[.ref l1,.int 0 0]},g,d,tk,os⟩) l2 ys:=DK hl2 _
   wp_walk using gj hL1,gj hL2
   exact⟨_,rfl,h⟩
  .have hL1:xm (cn ⟨hp,g,d,tk,os⟩) l1 xs:=hl1;have hL2:xh (cn ⟨hp.push {cls:=.type "list_iterator",data:=.fields #[.ref l1,.int 0 0]},g,d,tk,os⟩) l2 ys:=DF hl2 _
   wp_walk using gj hL1,gi hL2
   exact⟨_,rfl,h⟩
  .have hL1:xh (cn ⟨hp,g,d,tk,os⟩) l1 xs:=hl1;have hL2:xm (cn ⟨hp.push {cls:=.type "tuple_iterator",data:=.fields #[.ref l1,.int 0 0]},g,d,tk,os⟩) l2 ys:=DK hl2 _
   wp_walk using gi hL1,gj hL2
   exact⟨_,rfl,h⟩
  .have hL1:xh (cn ⟨hp,g,d,tk,os⟩) l1 xs:=hl1;have hL2:xh (cn ⟨hp.push {cls:=.type "tuple_iterator",data:=.fields #[.ref l1,.int 0 0]},g,d,tk,os⟩) l2 ys:=DF hl2 _
   wp_walk using gi hL1,gi hL2
   exact⟨_,rfl,h⟩
def Hr{a:bI}(e:h.get? a=bB (iT tp l)):mO tp h a l 0:=by
 cases tp
 .exact⟨_,e,rfl,rfl⟩
 .exact⟨_,e,rfl,rfl⟩
section
variable{w:cF}
theorem SM{l1 l2:bI}{xs:fQ bJ}(hl1:qO t1 s.heap l1 xs)(hl2:qO t2 s.heap l2 ys)
 (h:∀h',tW h' (s.heap.objs.size+4) (s.heap.objs.size+2) (s.heap.objs.size+3) .none->qE h' (s.heap.objs.size+2) (.ref s.heap.objs.size) (.ref (s.heap.objs.size+1))->
   qE h' (s.heap.objs.size+3) .none .none->mO t1 h' s.heap.objs.size l1 0->mO t2 h' (s.heap.objs.size+1) l2 0->h'.objs.size=s.heap.objs.size+5->
   (∀c o,s.heap.get? c=bB o->h'.get? c=bB o)->Q (.ref (s.heap.objs.size+4)) {s with heap:=h'}):wpAny (cA prog w) A (call (.type "zip") [.ref l1,.ref l2]) Q E s:=by
 refine callType_new F.called_zip jB (F.typeCall_zip_2 _ _) (F.newCall_zip_2 _ _) (λobj=>F.args_object_init_3 obj _ _) F.entry_zip_new (SL t1 t2 l1 l2 xs ys) ⟨hl1,hl2,?_⟩;have n1:(zA t1 s.heap l1).objs.size=s.heap.objs.size+1:=vX ..;have n2:(zB t1 t2 s.heap l1 l2).objs.size=s.heap.objs.size+2:=by rw[vX,n1]
 have n3:(zC t1 t2 s.heap l1 l2).objs.size=s.heap.objs.size+3:=by rw[vX,n2]
 have n4:(zD t1 t2 s.heap l1 l2).objs.size=s.heap.objs.size+4:=by rw[vX,n3]
 have n5:(zE t1 t2 s.heap l1 l2).objs.size=s.heap.objs.size+5:=by rw[vX,n4]
 have g5:(zE t1 t2 s.heap l1 l2).get? (zD t1 t2 s.heap l1 l2).objs.size=bB _:=lA _ bO;have g4:(zE t1 t2 s.heap l1 l2).get? (zC t1 t2 s.heap l1 l2).objs.size=bB _:=fC _ (lA _ bO);have g3:(zE t1 t2 s.heap l1 l2).get? (zB t1 t2 s.heap l1 l2).objs.size=bB _:=fC _ (fC _ (lA _ bO));have itf:∀tp l,(iT tp l).isFreed=bH:=λtp l=>by cases tp<;>rfl
 have g2:(zE t1 t2 s.heap l1 l2).get? (zA t1 s.heap l1).objs.size=bB (iT t2 l2):=fC _ (fC _ (fC _ (lA _ (itf t2 l2))));have g1:(zE t1 t2 s.heap l1 l2).get? s.heap.objs.size=bB (iT t1 l1):=fC _ (fC _ (fC _ (fC _ (lA _ (itf t1 l1)))));show _/\_;rw[n2,n3,n4]at g5;rw[n1,n2]at g3;rw[n3]at g4;rw[n1]at g2;rw[n4];exact⟨⟨_,g5,rfl⟩,h _ g5 g3 g4 (Hr g1) (Hr g2) n5 λc o x=>fC _ (fC _ (fC _ (fC _ (fC _ x))))⟩
end
def Sq(tp:bU)(K:cD)(H:Hp)(a:bI)(xs:bA V):Prop:=match tp with|true=>jH K H a xs|false=>gS K H a xs
def eO(I:bR X pc Y H s){a:bI}(h:Sq tp X.K H a xs):∃its:bA bJ,cW xs its/\qO tp s.heap a its.toArray/\xs.length<=cJ:=by
 cases tp
 .obtain⟨its,r,p,z⟩:=I.list h;exact⟨its,r,p.isList,z⟩
 .obtain⟨its,r,p,z⟩:=I.tuple h;exact⟨its,r,p,z⟩
def Hs(I:bR X pc Y H s){a:bI}{ys:bA V}(h:Sq tp X.K H a xs)(h2:Sq tp X.K H a ys):xs=ys:=by
 cases tp
 .exact I.list_inj h h2
 .exact I.tuple_inj h h2
def Ht{a b:bI}{u:HO}(h:Rd H a u)(hb:H b=bK):a≠b:=λz=>by
 subst z;rcases h with h|⟨o,h⟩
 .rw[hb]at h;cases h
 .rw[hb]at h;cases h
def ux(I:bR X pc Y H s){a b:bI}(h:Sq tp X.K H a xs)(f:nR X pc H b):a≠b:=by
 have fromK:∀o,X.K.lookup a=bB o->a≠b:=λo e z=>by
  subst z;have e1:=I.ok.mod.kin _ _ e;rcases f.2.2.2.1 with q|q
  .exact I.ok.noex _ _ e1 q
  .exact dD (mI (fU (I.ok.bs _ _ e1).1) q) (ci _)
 cases tp
 .rcases h with h|⟨o,_,_,h,_⟩
  .exact Ht h f.1
  .exact fromK o h
 .rcases h with h|⟨o,_,_,h,_⟩
  .exact Ht h f.1
  .exact fromK o h
def Sq.same{a:bI}(sm:bT F F')(h:Sq tp K F a xs):Sq tp K F' a xs:=by
 cases tp
 .exact bT.seq sm h
 .exact bT.seqT sm h
def uy{t':bD}(I:bR X pc Y H s)(hf:∀b∈ch,nR X pc H b)(k:∀b o,b∉ch->s.heap.get? b=bB o->h'.get? b=bB o):bR X pc Y H {s with heap:=h',toks:=t'}:=by
 have nit:∀b u,H b=bB u->b∉ch:=λb u e z=>by have:=(hf b z).1;rw[e]at this;cases this
 refine I.step (g':=s.gens) (d':=s.drawn) (ch:=ch) (λb hb=>?_) (λb o _ _ hc e _=>k b o hc e) (λb o _ _ hc e _=>⟨o.slots,k b o hc e⟩) (λ_ _ _ _ n=>n) (λb o hc e=>⟨o,k b o hc e⟩) (λ_ _ e=>e) (λ_ _ _ e=>e) (λb ps e=>⟨#[],by rw[e];simp⟩) (λm hm=>?_) (λb u e=>?_) I.bare
 .obtain⟨_,f1,_,f3,f4,f5⟩:=hf b hb;exact⟨f3,f1,f4,f5⟩
 .obtain⟨o,es,ep,ho,r⟩:=hm;exact⟨o,es,ep,k _ o (λz=>(hf _ z).2.1 bO) ho,r⟩
 .refine(I.hok b u e).stay (λc v hc q=>k c v ?_ q) (λ_ q=>q) λ_ _ q=>q
  rcases hc with z|z
  .rw[z];exact nit b u e
  .exact nit c _ z
def Hu{t':bD}{x y:V}{u v:bJ}(I:bR X pc Y H s)(hf:∀b∈ch,nR X pc H b)(k:∀b o,b∉ch->s.heap.get? b=bB o->h'.get? b=bB o)(rx:cX x u)(ry:cX y v)(hp:qE h' s.heap.objs.size u v):
 bR X pc Y (upd H s.heap.objs.size (.t [x,y])) {s with heap:=h',toks:=t'}:=by
 have hfr:H s.heap.objs.size=bK:=I.hok.fresh (cZ _);have nit:∀b u,H b=bB u->b∉ch:=λb u e z=>by have:=(hf b z).1;rw[e]at this;cases this
 have sm:bT H (upd H s.heap.objs.size (.t [x,y])):=λb o e=>by rw[fH (λz=>by rw[z,hfr]at e;cases e)];exact e
 refine I.step (g':=s.gens) (d':=s.drawn) (ch:=ch) (λb hb=>?_) (λb o _ _ hc e _=>k b o hc e) (λb o _ _ hc e _=>⟨o.slots,k b o hc e⟩) (λb o _ e n=>?_) (λb o hc e=>⟨o,k b o hc e⟩) (λ_ _ e=>sm _ _ e) (λ_ _ _ e=>sm _ _ e) (λb ps e=>⟨#[],by rw[sm _ _ e];simp⟩) (λm hm=>?_) (λb u e=>?_) I.bare
 .obtain⟨_,f1,_,f3,f4,f5⟩:=hf b hb;exact⟨f3,f1,f4,f5⟩
 .rw[fH (gX (fU e))];exact n
 .obtain⟨o,es,ep,ho,r⟩:=hm;exact⟨o,es,ep,k _ o (λz=>(hf _ z).2.1 bO) ho,r⟩
 .by_cases z:b=s.heap.objs.size
  .subst z;rw[gY]at e;cases e;exact⟨by show 2<=cJ;decide,_,.cons rx (.cons ry .nil),_,hp,⟨rfl,rfl⟩,_,rfl⟩
  .rw[fH z]at e;refine(I.hok b u e).stay (λc v hc q=>k c v ?_ q) (λ_ q=>sm _ _ q) λ_ _ q=>sm _ _ q
   rcases hc with z|z
   .rw[z];exact nit b u e
   .exact nit c _ z
def Hv(t1 t2:bU)(K:cD)(a b:bI):It:=
 ⟨λi H=>∃xs ys x y,Sq t1 K H a xs/\Sq t2 K H b ys/\xs[i]? =bB x/\ys[i]? =bB y,
  λi H v H'=>∃p x y,H p=bK/\v= .ref p/\H'=upd H p (.t [x,y])/\ ∀xs ys,Sq t1 K H a xs->Sq t2 K H b ys->xs[i]? =bB x/\ys[i]? =bB y,
  λi H=>∃xs ys,Sq t1 K H a xs/\Sq t2 K H b ys/\(xs.length<=i\/ys.length<=i)⟩
def SN(t1 t2:bU)(z TI TO i1 i2 a b:bI)(i:bD)(h:cB):Prop:=tW h z TI TO .none/\qE h TI (.ref i1) (.ref i2)/\(∃u v,qE h TO u v)/\mO t1 h i1 a i/\mO t2 h i2 b i
structure SO(z TI TO i1 i2:bI):Prop where
 d1:TI≠z
 d2:TO≠z
 d3:i1≠z
 d4:i2≠z
 d5:TI≠TO
 d6:TI≠i1
 d7:TI≠i2
 d8:TO≠i1
 d9:TO≠i2
 d10:i1≠i2
def SQ{w:cF}{kk:bD}{z TI TO i1 i2 a b:bI}(V:SO z TI TO i1 i2):
 zG P w K (.Tuple elts kk pos) (Hv t1 t2 K a b) [z,TI,TO,i1,i2] z (SN t1 t2 z TI TO i1 i2 a b)where
 mem:=cO
 obj:=λi h st c hc=>by
  obtain⟨h1,h2,⟨u,v,h3⟩,h4,h5⟩:=st;have hc':c=z\/c=TI\/c=TO\/c=i1\/c=i2:=by simpa using hc
  rcases hc' with rfl|rfl|rfl|rfl|rfl
  .exact⟨_,h1,λv q=>by cases(show D6 _=qm v from q)⟩
  .exact⟨_,h2,λv q=>by cases(show Ew _ _=qm v from q)⟩
  .exact⟨_,h3,λv q=>by cases(show Ew _ _=qm v from q)⟩
  .obtain⟨o,e,_,d⟩:=h4.obj;exact⟨o,e,λv q=>by rw[d]at q;cases q⟩
  .obtain⟨o,e,_,d⟩:=h5.obj;exact⟨o,e,λv q=>by rw[d]at q;cases q⟩
 keep:=λi h h' st k=>by obtain⟨h1,h2,⟨u,v,h3⟩,h4,h5⟩:=st;exact⟨k z cO _ h1,k TI cO _ h2,⟨u,v,k TO cO _ h3⟩,h4.at_ λo e=>k i1 cO o e,h5.at_ λo e=>k i2 cO o e⟩
 item:=by
  intro X hP hw hK hc i pc s Y H E I hf st hg;subst hP hw hK;obtain⟨xs,ys,x,y,hq1,hq2,hx,hy⟩:=hg;obtain⟨its1,r1,p1,z1⟩:=eO I hq1;obtain⟨its2,r2,p2,z2⟩:=eO I hq2;obtain⟨u,hu,ru⟩:=r1.get hx;obtain⟨v,hv,rv⟩:=r2.get hy;obtain⟨h1,h2,⟨u0,v0,h3⟩,h4,h5⟩:=st;have ne1:∀c∈ [z,TI,TO,i1,i2],a≠c:=λc hc=>ux I hq1 (hf c hc)
  have ne2:∀c∈ [z,TI,TO,i1,i2],b≠c:=λc hc=>ux I hq2 (hf c hc)
  have D:yg z TI TO i1 i2 a b:=⟨V.d1,V.d2,V.d3,V.d4,V.d5,V.d6,V.d7,V.d8,V.d9,V.d10,ne1 z cO,ne1 TO cO,ne1 i1 cO,ne1 i2 cO,ne2 z cO,ne2 TO cO,ne2 i1 cO,ne2 i2 cO⟩;refine SJ (xs:=its1.toArray) (ys:=its2.toArray) D h1 h2 h3 h4 h5 p1 p2 (x:=u) (y:=v) (by simpa using hu) (by simpa using hv) λh' a1 a2 a3 a4 a5 a6 a7=>?_
  have hch:∀c∈ [z,TO,i1,i2],c∈ [z,TI,TO,i1,i2]:=λc hc=>by simp at hc|-;rcases hc with rfl|rfl|rfl|rfl<;>simp
  have I1:=Hu (t':=s.toks) (h':=h') (ch:=[z,TO,i1,i2]) I (λc hc=>hf c (hch c hc)) (λc o hc e=>a7 c o (λq=>hc (by simp[q])) (λq=>hc (by simp[q])) (λq=>hc (by simp[q])) (λq=>hc (by simp[q])) e) ru rv a5;have lt:∀c∈ [z,TI,TO,i1,i2],c≠s.heap.objs.size:=λc hc=>by
   have hc':c=z\/c=TI\/c=TO\/c=i1\/c=i2:=by simpa using hc
   rcases hc' with rfl|rfl|rfl|rfl|rfl
   .exact gX (fU h1)
   .exact gX (fU h2)
   .exact gX (fU h3)
   .obtain⟨o,e,_⟩:=h4.obj;exact gX (fU e)
   .obtain⟨o,e,_⟩:=h5.obj;exact gX (fU e)
  have f1:∀c∈ [z,TI,TO,i1,i2],nR X pc (upd H s.heap.objs.size (.t [x,y])) c:=λc hc=>⟨by rw[fH (lt c hc)];exact(hf c hc).1,(hf c hc).2⟩
  refine⟨_,rfl,wpAny_letOwnedTupleGo_zip (s:={s with heap:=h'}) a1 λh'' b1 b2=>?_⟩;have I2:bR X pc Y (upd H s.heap.objs.size (.t [x,y])) {s with heap:=h''}:=uy (s:={s with heap:=h'}) (t':=s.toks) (ch:=[z]) I1 (λc hc=>f1 c (by rw[tP.mp hc];simp)) λc o hc e=>b2.extBut _ _ (λq=>hc (by simp[q])) e
  refine⟨.ref s.heap.objs.size,upd H s.heap.objs.size (.t [x,y]),I2,rfl,⟨_,x,y,I.hok.fresh (cZ _),rfl,rfl,λxs' ys' q1 q2=>?_⟩,⟨b1,?_,⟨u,v,?_⟩,?_,?_⟩,λc hc=>(f1 c hc).1⟩
  .rw[Hs I q1 hq1,Hs I q2 hq2];exact⟨hx,hy⟩
  .exact b2.extBut _ _ V.d1 (a7 _ _ V.d1 V.d5 V.d6 V.d7 h2)
  .exact b2.extBut _ _ V.d2 a2
  .exact a3.at_ λo e=>b2.extBut _ _ V.d3 e
  .exact a4.at_ λo e=>b2.extBut _ _ V.d4 e
 done:=by
  intro X hP hw hK hc i pc s Y H E I hf st hg;subst hP hw hK;obtain⟨xs,ys,hq1,hq2,hx⟩:=hg;obtain⟨its1,r1,p1,z1⟩:=eO I hq1;obtain⟨its2,r2,p2,z2⟩:=eO I hq2;obtain⟨h1,h2,⟨u0,v0,h3⟩,h4,h5⟩:=st;have ne1:∀c∈ [z,TI,TO,i1,i2],a≠c:=λc hc=>ux I hq1 (hf c hc)
  have ne2:∀c∈ [z,TI,TO,i1,i2],b≠c:=λc hc=>ux I hq2 (hf c hc)
  have D:yg z TI TO i1 i2 a b:=⟨V.d1,V.d2,V.d3,V.d4,V.d5,V.d6,V.d7,V.d8,V.d9,V.d10,ne1 z cO,ne1 TO cO,ne1 i1 cO,ne1 i2 cO,ne2 z cO,ne2 TO cO,ne2 i1 cO,ne2 i2 cO⟩;have hch:∀c∈ [z,TO,i1,i2],c∈ [z,TI,TO,i1,i2]:=λc hc=>by simp at hc|-;rcases hc with rfl|rfl|rfl|rfl<;>simp
  have l1:=r1.length;have l2:=r2.length
  refine SK (xs:=its1.toArray) (ys:=its2.toArray) (I.ok.hd hc) D h1 h2 h3 h4 h5 p1 p2 (by
   rcases hx with hx|hx
   .exact .inl (by simp;lia)
   .exact .inr (by simp;lia)) λh' k=>⟨rfl,uy (t':=s.toks) (ch:=[z,TO,i1,i2]) I (λc hc=>hf c (hch c hc)) λc o hc e=>k c o (λq=>hc (by simp[q])) (λq=>hc (by simp[q])) (λq=>hc (by simp[q])) (λq=>hc (by simp[q])) e⟩
 self:=λ_ _ _ _ _ st h=>LP st.1 h
section
variable [fZ] [Pd]
noncomputable def pairD(ds es:bA D):bA D:=List.zipWith (λd e=>D.t [d,e]) ds es
def SU{a b:bI}{ys:bA V}{es:bA D}(h1:Sq t1 K F a xs)(h2:Sq t2 K F b ys)(l1:DatL K F ds xs)(l2:DatL K F es ys):rH K F (Hv t1 t2 K a b) (pairD ds es):=λn F2 H2 s1 s2=>by
 have q1:Sq t1 K H2 a xs:=(h1.same s1).same s2;have q2:Sq t2 K H2 b ys:=(h2.same s1).same s2;have e1:=l1.length;have e2:=l2.length;refine⟨λd hd=>?_,λhn=>?_⟩
 .unfold pairD at hd;rw[Lb]at hd;cases hd1:ds[n]? with
  |none=>rw[hd1]at hd;cases hd|some d1=>
   cases hd2:es[n]? with
   |none=>rw[hd1,hd2]at hd;cases hd|some d2=>
    rw[hd1,hd2]at hd;have hd':D.t [d1,d2]=d:=jJ hd;subst hd';obtain⟨x,hx,dx⟩:=vE l1.paired hd1;obtain⟨y,hy,dy⟩:=vE l2.paired hd2;refine⟨⟨xs,ys,x,y,q1,q2,hx,hy⟩,λv H' yl=>?_⟩;obtain⟨p,x',y',hp,rfl,rfl,hh⟩:=yl;obtain⟨ex,ey⟩:=hh xs ys q1 q2;rw[hx]at ex;cases ex;rw[hy]at ey;cases ey;refine⟨upd F2 p (.t [x,y]),cL.laid s2 hp _,?_⟩;have fp:F2 p=none:=by
     cases z:F2 p with
     |none=>rfl|some u=>rw[s2 _ _ z]at hp;cases hp
    simp only[bM];exact⟨p,[x,y],rfl,jH.of gY,DatL.cons ((dx.mono s1).mono (nU fp _)) (DatL.cons ((dy.mono s1).mono (nU fp _)) DatL.nil)⟩
 .refine⟨xs,ys,q1,q2,?_⟩;unfold pairD at hn;rw[Lq]at hn
  lia
noncomputable def m4:D->D->bP (bA D)| .t ds,.t es=>.ok (pairD ds es)| .t ds,.l es=>.ok (pairD ds es)| .l ds,.t es=>.ok (pairD ds es)| .l ds,.l es=>.ok (pairD ds es)|_,_=>.bad
def eP(f g:ME):ML:=λO=>(f O).bind λd=>(g O).bind λe=>m4 d e
def AH{d:D}(h:bM K F d v):(∀ds,d≠ .t ds/\d≠ .l ds)\/ ∃t a xs ds,v= .ref a/\Sq t K F a xs/\DatL K F ds xs/\(d= .t ds\/d= .l ds):=by
 cases d with
 |t ds=>simp only[bM]at h;obtain⟨a,xs,rfl,q,l⟩:=h;exact .inr ⟨bC,a,xs,ds,rfl,q,l,.inl rfl⟩|l ds=>simp only[bM]at h;obtain⟨a,xs,rfl,q,l⟩:=h;exact .inr ⟨bH,a,xs,ds,rfl,q,l,.inr rfl⟩|_=>exact .inl λds=>⟨cO,cO⟩
def SV{d e:D}{ps:bA D}(h:m4 d e= .ok ps):∃ds es,(d= .t ds\/d= .l ds)/\(e= .t es\/e= .l es)/\ps=pairD ds es:=by
 cases d<;>cases e<;>first
  | (cases h;exact⟨_,_,.inl bO,.inl bO,rfl⟩)
  | (cases h;exact⟨_,_,.inl bO,.inr bO,rfl⟩)
  | (cases h;exact⟨_,_,.inr bO,.inl bO,rfl⟩)
  | (cases h;exact⟨_,_,.inr bO,.inr bO,rfl⟩)
  |cases h
section
variable{a b:Expr}{g:ME}
def SW(hgl:X.env.scope.names.lookup ("zip" :Str)=bB .globalImplicit)(hm:X.mg "zip" =bK)(hn:fG [a,b]=bC)(hf:IE X a f)(hg:IE X b g):II X (.Tuple elts k pt) (.Call (.Name "zip" p) [a,b] [] pos) (eP f g):=by
 rintro pc s Y H R I ⟨O,F,E,q⟩;have hs:gE a=bH/\gE b=bH:=by simp only[fG,lS,dB]at hn;exact⟨by simpa using hn.1,by simpa using hn.2.1⟩
 have ha:IA X [a,b] (aC f (aC g fP)):=tz hf (tz hg pI (gC hs.2)) (gC hs.1);have hA:er X (aC f (aC g fP)) Y H λvs H1=>∃F1 d e ps,m4 d e= .ok ps/\cL F H F1 H1/\DatL X.K F1 [d,e] vs/\ ∀J F' H',cL F H F' H'->rH X.K F' J ps->R J H':=by
  refine⟨O,F,E,?_⟩;unfold eP at q;cases h1:f O with
  |ok d=>
   cases h2:g O with
   |ok e=>
    rw[h1,h2]at q
    have q0:(match m4 d e with
     | .ok ds=>∀J F' H',cL F H F' H'->rH X.K F' J ds->R J H'
     | .bad=>jF):=q
    have e0:aC f (aC g fP) O= .ok [d,e]:=by simp[aC,fP,h1,h2,bP.bind]
    rw[e0];cases h3:m4 d e with
    |ok ps=>rw[h3]at q0;exact λvs F1 H1 g1 dl=>⟨F1,d,e,ps,h3,g1,dl,q0⟩|bad=>rw[h3]at q0;cases q0
   |bad=>rw[h1,h2]at q;cases q
  |bad=>rw[h1]at q;cases q
 refine Call_ (iB I hgl hm boot_zip (v4 (cT (ha pos pc s Y H _ I hA) λus s1 qz=>?_) (gC hs.1) (mN (by simp[fG,hs.2]))));obtain⟨vs,H1,I1,r1,F1,d,e,ps,h3,g1,dl,q'⟩:=qz;simp only[DatL]at dl;obtain⟨v1,_,rfl,dd1,v2,_,rfl,dd2,rfl⟩:=dl;obtain⟨ds,es,hd,he,rfl⟩:=SV h3;rcases AH dd1 with n1|⟨t1,a1,xs,ds',rfl,s1q,l1,hd'⟩
 .rcases hd with rfl|rfl
  .exact dD rfl (n1 ds).1
  .exact dD rfl (n1 ds).2
 rcases AH dd2 with n2|⟨t2,a2,ys,es',rfl,s2q,l2,he'⟩
 .rcases he with rfl|rfl
  .exact dD rfl (n2 es).1
  .exact dD rfl (n2 es).2
 have eds:ds'=ds:=by rcases hd with rfl|rfl<;>rcases hd' with z|z<;>cases z<;>rfl
 have ees:es'=es:=by rcases he with rfl|rfl<;>rcases he' with z|z<;>cases z<;>rfl
 subst eds ees;cases r1 with
 |cons r1 rr=>
  cases rr with
  |cons r2 rr=>
   cases rr;cases r1;cases r2;obtain⟨its1,rv1,p1,z1⟩:=eO I1 (s1q.same g1.sub);obtain⟨its2,rv2,p2,z2⟩:=eO I1 (s2q.same g1.sub);refine SM p1 p2 λh' b1 b2 b3 b4 b5 b6 b7=>?_
   refine LP (s:={s1 with heap:=h'}) b1 ?_;refine⟨s1.heap.objs.size+4,[s1.heap.objs.size+4,s1.heap.objs.size+2,s1.heap.objs.size+3,s1.heap.objs.size,s1.heap.objs.size+1],_,_,H1,rfl,I1.kept (t':=s1.toks) b7,SQ (t1:=t1) (t2:=t2) (a:=a1) (b:=a2) ⟨?_,?_,?_,?_,?_,?_,?_,?_,?_,?_⟩,⟨b1,b2,⟨_,_,b3⟩,b4,b5⟩,λc hc=>?_,q' _ F1 H1 g1 (SU s1q s2q l1 l2)⟩
   all_goals first
    | (show(_:bD)≠_;lia)
    |skip
   have hc':s1.heap.objs.size<=c:=by
    have hc2:c=s1.heap.objs.size+4\/c=s1.heap.objs.size+2\/c=s1.heap.objs.size+3\/c=s1.heap.objs.size\/c=s1.heap.objs.size+1:=by simpa using hc
    rcases hc2 with rfl|rfl|rfl|rfl|rfl
    .exact av _ _
    .exact av _ _
    .exact av _ _
    .exact cZ _
    .exact av _ _
   exact I1.fpOk hc' (I1.hok.fresh hc')
end
def jK(i j:bD)(body:MS):bA D->MS
 | [],O=>.ok (.nx O)|d::ds,O=>match d with
  | .t [x,y]=>(body ((O.set i (.val x)).set j (.val y))).bind λfl=>match fl with
   | .nx ρ'=>jK i j body ds ρ'| .ct ρ'=>jK i j body ds ρ'| .bk ρ'=>.ok (.nx ρ')| .rt d=>.ok (.rt d)| .rr d ρ'=>.ok (.rr d ρ')| .rn s=>.ok (.rn s)
  |_=>.bad
def vQ(i j:bD)(fl:ML)(body:MS):MS:=λO=>(fl O).bind λds=>jK i j body ds O
def SX{E:sV}{bd:MS}{x y:D}(q:kF X Fa Ha (jK i j bd (.t [x,y]::ds) O) E){N:St->Hp->Prop}(hN:∀ρ' Y F H,SR X.K Fa Ha F H ρ' Y->kF X Fa Ha (jK i j bd ds ρ') E->N Y H):
 kF X Fa Ha (bd ((O.set i (.val x)).set j (.val y))) {E with nx:=N,ct:=N,bk:=E.nx}:=by
 unfold jK at q;revert q;show kF X Fa Ha ((bd ((O.set i (.val x)).set j (.val y))).bind _) E->_;cases bd ((O.set i (.val x)).set j (.val y))with
 |ok fl=>
  intro q;cases fl with
  |nx ρ'=>exact λY F H S=>hN ρ' Y F H S q|ct ρ'=>exact λY F H S=>hN ρ' Y F H S q|_=>exact q
 |bad=>exact kX
def SY{E:sV}{bd:MS}{d:D}(q:kF X Fa Ha (jK i j bd (d::ds) O) E):∃x y,d= .t [x,y]:=by
 unfold jK at q;split at q
 .exact⟨_,_,rfl⟩
 .cases q
def SZ(hc:X.calm=bC)(hp:kf (cA X.prog X.w) X.A X.env X.xe)(hi:II X tg iter fl)(hg:PG X tg (iD X.K 2 (wG (qZ i) (wG (qZ j) iC))))(hb:mF X body u)(hs:∀x,ar iter X.env x=fE x):
 IS X (.For tg iter body [] pos) (vQ i j fl u):=λFa Ha=>mC (E3 hp hc hi hg (Gj (Ha:=Ha) hb) hs) λE Y H ⟨O,F,S,q⟩=>by
 refine⟨O,F,S.env,?_⟩;unfold vQ at q;revert q;cases fl O with
 |ok ds=>
  intro q J F1 H1 g1 it;have S1:=S.grow g1;refine⟨λn m σ' H'=>m=ds.length-n/\n<=ds.length/\ ∃ρ' F',SR X.K F1 Ha F' H' ρ' σ'/\kF X F1 Ha (jK i j u (ds.drop n) ρ') E,⟨_,rfl,mK _,O,F1,S1.here,kF.here S1.gr q⟩,?_⟩;rintro n m σ' H' ⟨rfl,hn,ρ',F',S',q'⟩;obtain⟨h1,h2⟩:=it n F' H' S'.gr.fs S'.env.sub;by_cases hlt:n<ds.length
  .have hd:ds[n]? =bB ds[n]:=nO hlt;obtain⟨go,yl⟩:=h1 _ hd;refine .inr ⟨go,λY H=>∃O F',SR X.K F1 Ha F' H O Y/\kF X F1 Ha (jK i j u (ds.drop (n+1)) O) E,λσ2 H2 h=>⟨ds.length-(n+1),cI,rfl,hlt,h⟩,λx H2 y=>?_⟩;obtain⟨F2,g2,dx⟩:=yl x H2 y;rw[v7 hlt]at q';obtain⟨x1,y1,exy⟩:=SY q';rw[exy]at q' dx;simp only[bM]at dx;obtain⟨p,xs,rfl,sq,l1⟩:=dx;simp only[DatL]at l1;obtain⟨v1,_,rfl,dv1,v2,_,rfl,dv2,rfl⟩:=l1;exact⟨p,_,rfl,bT.seqT g2.sub sq,rfl,v1,_,rfl,v2,_,rfl,rfl,F1,(ρ'.set i (.val x1)).set j (.val y1),F2,((S'.grow g2).set i dv1).set j dv2,SX q' λρ3 σ3 F3 H3 S3 q3=>⟨ρ3,F3,S3,q3⟩⟩
  .have e:n=ds.length:=by lia
   subst e;rw[wc (cZ _)]at q';exact .inl ⟨h2 rfl,q' σ' F' H' S'⟩
 |bad=>exact kX
def Hw(hc:X.calm=bC)(hN:X.N.Nodup)(hi:X.N[i]? =bB x)(hx:Loc X.env.scope x)(hj:X.N[j]? =bB y)(hy:Loc X.env.scope y)(hf:X.fn x=bC\/X.env.scope.names.lookup x=bB .local)(hf':X.fn y=bC\/X.env.scope.names.lookup y=bB .local):
 PG X (.Tuple [.Name x px,.Name y py] k pt) (iD X.K 2 (wG (qZ i) (wG (qZ j) iC))):=
 EW hc (r8 (dm hN hi hx hf) (r8 (dm hN hj hy hf') EV bO) bO) bO bO
noncomputable def kI{α:Type}(p:cS->bP α):cS->bP α| .val (.t [a,b])::r=>p (.val a:: .val b::r)|_=>.bad
noncomputable def AI:D->bQ (bA D)| .t [a,b]=>bB [a,b]|_=>bK
def AJ{d:D}{es:bA D}(h:AI d=bB es):∃a b,d= .t [a,b]/\es= [a,b]:=by
 unfold AI at h;split at h
 .cases h;exact⟨_,_,rfl,rfl⟩
 .cases h
section
variable{x2:Str}{js:bA bD}{px2 spos:dJ}{kt:bD}{p:MT}{g:ME}
def S4(S:qK X scope [x,x2] caps js)(hc:X.calm=bC):eC X scope (.Tuple [.Name x px,.Name x2 px2] kt pt) [x,x2] caps AI (iD X.K 2 (wG (qZ 0) (wG (qZ 1) iC))) (kI p) (kI g) p g where
 pg:=λ_ _ _ _ _=>
  have l1:=wf (S.loc x fW);have l2:=wf (S.loc x2 (gI _ fW))
  Hw (i:=0) (j:=1) hc S.nd rfl (.inl l1) rfl (.inl l2) (.inr l1) (.inr l2)
 ok:=λ{d es v F H as σr} e dv sm la=>by
  obtain⟨a,b,rfl,rfl⟩:=AJ e;simp only[bM]at dv;obtain⟨q,xs,rfl,sq,l⟩:=dv;have l':=l;simp only[DatL]at l;obtain⟨v1,_,rfl,dv1,v2,_,rfl,dv2,rfl⟩:=l
  match as,la with
  | [o,o2],_=>exact⟨[v1,v2],rfl,l',q,_,rfl,bT.seqT sm sq,rfl,v1,_,rfl,v2,_,rfl,rfl,rfl,rfl⟩
 hp:=λ{d r} h=>by
  unfold kI at h;split at h
  .rename_i e;cases e;exact⟨_,rfl⟩
  .exact dD rfl h
 lo:=λe=>by obtain⟨a,b,rfl,rfl⟩:=AJ e;rfl
 eq:=λr e=>by obtain⟨a,b,rfl,rfl⟩:=AJ e;exact⟨rfl,rfl⟩
end
section
variable{a:bI}{s s':Ob}{p:bU}
def hV.step(E:hV K F H O Y)(hi:O[i]? =bB (.obj p s))(h1:Y[i]? =bB (bB (.ref a)))(lk:zL H H' a)(g:cL F (ers H a) F' H')(r':kE K F' H' a s'):hV K F' H' (O.set i (.obj p s')) Y:=by
 obtain⟨o,z1,a',rfl,hp,r⟩:=E.at_ i _ hi;rw[h1]at z1;cases z1;have old:∀{j:bD} {q t},(O.set i (.obj p s'))[j]? =bB (.obj q t)->∃q t,O[j]? =bB (.obj q t):=λ{j q t} z=>by
  rcases rZ z with⟨rfl,_,_⟩|⟨_,z⟩
  .exact⟨_,_,hi⟩
  .exact⟨_,_,z⟩
 refine⟨g.tk ⟨E.tb.1.ers r,E.tb.2⟩,g.sub,by rw[gp];exact E.len,λj t e=>?_,λj k q t q' t' b n e1 e2 e3=>?_⟩
 .rcases rZ e with⟨rfl,rfl,_⟩|⟨n,e⟩
  .exact⟨bB (.ref a),h1,a,rfl,λz=>⟨(hp z).1,λu hu=>let ⟨w,e1,_⟩:=r.o;((hp z).2 w e1).trans (lk w u e1 hu)⟩,r'⟩
  .obtain⟨o',z1,z2⟩:=E.at_ j t e;refine⟨o',z1,?_⟩;cases t with
   |no=>trivial|val d=>obtain⟨v,y1,y2⟩:=z2;exact⟨v,y1,y2.mono g.fs⟩|is v c=>exact⟨z2.1,λr hr=>g.fs _ _ (z2.2 r hr)⟩|obj q t=>
    obtain⟨b,rfl,hq,y⟩:=z2;have nb:b≠a:=λz=>E.apart i j p s q t a n hi e h1 (by rw[<-z];exact z1)
    obtain⟨w,y1,y2⟩:=y.o;exact⟨b,rfl,λz=>⟨(hq z).1,λu hu=>by rw[g.same b w (vF y2).1 (by rw[lI nb];exact y1)]at hu;cases hu;exact(hq z).2 _ y1⟩,y.beside nb g⟩
 .obtain⟨_,_,f1⟩:=old e1;obtain⟨_,_,f2⟩:=old e2;exact E.apart j k _ _ _ _ b n f1 f2 e3
def SR.step(S:SR K Fa Ha F H O Y)(hi:O[i]? =bB (.obj p s))(h1:Y[i]? =bB (bB (.ref a)))(lk:zL H H' a)(g:cL F (ers H a) F' H')(r':kE K F' H' a s'):SR K Fa Ha F' H' (O.set i (.obj p s')) Y:=by
 have h0:Ha a=bK:=S.frh i p s a hi h1;obtain⟨o,z1,a',rfl,hp,r⟩:=S.env.at_ i _ hi;rw[h1]at z1;cases z1;refine⟨⟨λb u nt z=>g.same b u nt (by rw[lI (sU z h0)];exact S.gr.same b u nt z),λb h=>?_,λt=>g.tk ⟨(S.gr.tk t).1.ers r,(S.gr.tk t).2⟩,S.gr.fs.trans g.fs,g.sub,λb hb hn=>?_⟩,S.env.step hi h1 lk g r',λj q t b e1 e2=>?_⟩
 .have n:b≠a:=λz=>h (by rw[z];exact h0)
  exact g.more b (by rw[lI n];exact S.gr.more b h)
 .have n:b≠a:=λz=>hn (by rw[z];exact h0)
  exact g.new b (S.gr.new b hb hn) (by rw[lI n];exact S.gr.more b hn)
 .rcases rZ e1 with⟨rfl,_,_⟩|⟨_,e1⟩
  .exact S.frh i p s b hi e2
  .exact S.frh j q t b e1 e2
def SR.new(S:SR K Fa Ha F H O Y)(g:cL F H F' H')(hl:H l=none)(r:kE K F' H' l s)(i:bD):SR K Fa Ha F' H' (O.set i (.obj bH s)) (Y.set i (some (.ref l))):=by
 have S':=S.grow g;have far:∀{j:bD} {q t b},O[j]? =some (.obj q t)->Y[j]? =some (some (.ref b))->b≠l:=λ{j q t b} e1 e2 z=>by obtain⟨o,z1,b',rfl,_,y⟩:=S.env.at_ j _ e1;rw[e2]at z1;cases z1;exact y.some (by rw[z];exact hl)
 refine⟨S'.gr,⟨S'.env.tb,S'.env.sub,by rw[gp,gp];exact S'.env.len,λj t e=>?_,λj k q t q' t' b n e1 e2 e3 e4=>?_⟩,λj q t b e1 e2=>?_⟩
 .rcases rZ e with⟨rfl,rfl,hl'⟩|⟨n,e⟩
  .exact⟨some (.ref l),gf (by rw[<-S.env.len];exact hl'),l,rfl,(λz=>nomatch z),r⟩
  .rw[am n];exact S'.env.at_ j t e
 .rcases rZ e3 with⟨rfl,z3,_⟩|⟨n3,e3⟩
  .cases z3;rcases rZ e2 with⟨rfl,_,_⟩|⟨n2,e2⟩
   .exact n rfl
   .rw[am n2]at e4;exact far e2 e4 rfl
  .rcases rZ e1 with⟨rfl,_,_⟩|⟨_,e1⟩
   .exact n3 rfl
   .rcases rZ e4 with⟨rfl,z4,_⟩|⟨n4,e4⟩
    .cases z4;exact far e1 e3 rfl
    .rcases rZ e2 with⟨rfl,_,_⟩|⟨_,e2⟩
     .exact n4 rfl
     .exact S.env.apart j k q t q' t' b n e1 e2 e3 e4
 .rcases rZ e2 with⟨rfl,z2,_⟩|⟨n2,e2⟩
  .cases z2;cases z:Ha l with|none=>rfl|some u=>exact dD hl (S.gr.more l (by rw[z];simp))
  .rcases rZ e1 with⟨rfl,_,_⟩|⟨_,e1⟩
   .exact dD rfl n2
   .exact S.frh j q t b e1 e2
noncomputable def Ob.dat:Ob->bQ D| .l ds=>bB (.l ds)| .tab T=>bB (dR T)|_=>bK
def Hx{d:D}(h:s.dat=bB d)(k:s.ho K F o)(sF:bT F F')(e:F' a=bB o):bM K F' d (.ref a):=by
 cases s with
 |l ds=>cases h;obtain⟨xs,rfl,dl⟩:=k;simp only[bM];exact⟨a,xs,rfl,gS.of e,dl.mono sF⟩|tab T=>cases h;obtain⟨kvs,rfl,dt⟩:=k;obtain⟨h1,h2⟩:=Q7 dt;unfold dR;simp only[bM];exact⟨a,kvs,rfl,e,h1,h2.mono sF⟩|row _ _=>cases h
def hV.view{d:D}(E:hV K F H O Y)(hi:O[i]? =bB (.obj p s))(hd:s.dat=bB d):∃a o,Y[i]? =bB (bB (.ref a))/\F a=bK/\H a=bB o/\zK o=bC/\bT F (upd F a o)/\hV K (upd F a o) H (O.set i (.val d)) Y:=by
 obtain⟨_,h1,a,rfl,_,r⟩:=E.at_ i _ hi;obtain⟨o,h2,k⟩:=r.o;have sF:bT F (upd F a o):=nU r.n _;have sH:bT (upd F a o) H:=λb u e=>by
  by_cases z:b=a
  .subst z;rw[gY]at e;cases e;exact h2
  .rw[fH z]at e;exact E.sub b u e
 refine⟨a,o,h1,r.n,h2,(vF k).1,sF,⟨⟨E.tb.1,E.tb.2.upd a (vF k).1⟩,sH,by rw[gp];exact E.len,λj t e=>?_,λj k q t q' t' b n e1 e2=>E.apart j k q t q' t' b n (iH rfl e1).2 (iH rfl e2).2⟩⟩;rcases rZ e with⟨rfl,rfl,_⟩|⟨n,e⟩
 .exact⟨bB (.ref a),h1,.ref a,rfl,Hx hd k sF gY⟩
 .obtain⟨o',z1,z2⟩:=E.at_ j t e;refine⟨o',z1,?_⟩;cases t with
  |no=>trivial|val d'=>obtain⟨v',y1,y2⟩:=z2;exact⟨v',y1,y2.mono sF⟩|is v' c=>exact⟨z2.1,λp hp=>sF _ _ (z2.2 p hp)⟩|obj q t=>
   obtain⟨b,rfl,hq,y⟩:=z2;have na:b≠a:=λz=>E.apart i j p s q t a n hi e h1 (by rw[<-z];exact z1)
   obtain⟨u,y1,y2⟩:=y.o;exact⟨b,rfl,hq,by rw[fH na];exact y.n,u,y1,tu sF y2⟩
end
def jV(i:bD):MS:=λO=>match O[i]? with
 |some (.obj false s)=>(match s.dat with
  |some d=>.ok (.nx (O.set i (.val d)))
  |none=>.bad)
 |_=>.bad
section
variable{lp:dJ}{v:MS}
def S5(h:mF X rest v):mF X rest (bL (jV i) v):=λFa Ha=>zy (h Fa Ha) λE Y H qz=>by
 obtain⟨O,F,S,q⟩:=qz;unfold bL jV at q;split at q
 .rename_i s hi;split at q
  .rename_i d hd;obtain⟨a,o,h1,h2,h3,h4,sF,E'⟩:=S.env.view hi hd;have h0:Ha a=bK:=S.frh i _ _ a hi h1;refine⟨O.set i (.val d),upd F a o,⟨⟨S.gr.same,S.gr.more,λt=>⟨(S.gr.tk t).1,(S.gr.tk t).2.upd a h4⟩,S.gr.fs.trans sF,E'.sub,λb hb hn=>?_⟩,E',λj q t b e1 e2=>S.frh j q t b (iH bO e1).2 e2⟩,q⟩;rw[fH (λz=>hn (by rw[z];exact h0))];exact S.gr.new b hb hn
  .cases q
 .cases q
def cL.less{a:bI}{u:HO}(g:cL (upd F a u) H F' H')(fa:F a=bK)(hu:zK u=bC):cL F H (R.ers F' a) H' where
 same:=g.same
 more:=g.more
 tk:=λt=>let r:=g.tk ⟨t.1,t.2.upd a hu⟩;⟨r.1,λb ps e=>r.2 b ps (sX e)⟩
 fs:=λb v e=>by have n:b≠a:=sU e fa;rw[lI n];exact g.fs b v (by rw[fH n];exact e)
 sub:=λb v e=>g.sub b v (sX e)
 new:=λb e n=>by
  by_cases z:b=a
  .rw[z,tm]
  .rw[lI z];exact g.new b (by rw[fH z];exact e) n
def gZ(i:bD)(t:MT):MT:=λO=>match O[i]? with
 |some (.obj _ s)=>(match s.dat with
  |some d=>t (O.set i (.val d))
  |none=>.bad)
 |_=>t O
def S6(h:IT X e t):IT X e (gZ i t):=iK h λY H Q qz=>by
 obtain⟨O,F,E,q⟩:=qz;unfold gZ at q;split at q
 .rename_i p s hi;split at q
  .rename_i d hd;obtain⟨a,o,h1,h2,h3,h4,sF,E'⟩:=E.view hi hd;refine⟨_,_,E',?_⟩;revert q;cases t (O.set i (.val d))with|ok b=>exact λq c F1 H1 g e=>q c _ H1 (g.less h2 h4) e|bad=>exact kX
  .cases q
 .exact⟨O,F,E,q⟩
def Hy{a:bI}(n:F a=bK)(dl:DatL X.K F ds xs):kE X.K F (upd H a (.l xs)) a (.l ds):=⟨n,_,gY,xs,rfl,dl⟩
def S7(S:SR X.K Fa Ha F H O Y)(hl:H l=bK)(dl:DatL X.K F ds xs)(i:bD):SR X.K Fa Ha F (upd H l (.l xs)) (O.set i (.own ds)) (Y.set i (bB (.ref l))):=
 S.new (cL.laidN S.env.sub hl (.l xs)) hl (Hy (bT.free S.env.sub hl) dl) i
def uz{b:bU}(E:hV X.K F H O Y)(hi:O[i]? =bB (.obj b (.l ds))):∃a xs,Y[i]? =bB (bB (.ref a))/\H a=bB (.l xs)/\F a=bK/\DatL X.K F ds xs:=by obtain⟨_,h1,a,rfl,_,n,_,h2,xs,rfl,h3⟩:=E.at_ i _ hi;exact⟨a,xs,h1,h2,n,h3⟩
def AK{b:bU}{ds':bA D}{xs':bA V}{a:bI}(S:SR X.K Fa Ha F H O Y)(hi:O[i]? =bB (.obj b (.l ds)))(h1:Y[i]? =bB (bB (.ref a)))(fa:F a=bK)(dl:DatL X.K F ds' xs'):SR X.K Fa Ha F (upd H a (.l xs')) (O.set i (.obj b (.l ds'))) Y:=
 S.step hi h1 (λu u' e e' dx l k z=>by obtain⟨_,z1,a',z2,_,_,w,z3,xs,rfl,_⟩:=S.env.at_ i _ hi;rw[h1]at z1;cases z1;cases z2;rw[e]at z3;cases z3;cases z) (tq S.env.sub fa _) (Hy fa dl)
def pW(i:bD):MS:=λO=>.ok (.nx (O.set i (.own [])))
def S8(hN:X.N.Nodup)(hi:X.N[i]? =bB x)(hx:Loc X.env.scope x)(hf:X.fn x=bC\/X.env.scope.names.lookup x=bB .local):IS X (.Assign [.Name x p] (.List [] lp) pos) (pW i):=λFa Ha=>
 mC (lf (i:=i) hN hi hx (zj sW) (yA bO) hf) λE Y H qz=>by obtain⟨O,F,S,q⟩:=qz;exact⟨mK _,λl hl=>q _ F _ (S7 S hl DatL.nil i)⟩
def tB(i:bD)(f:ME):MS:=λO=>match O[i]? with|some (.obj false (.l ds))=>(f O).bind λd=>if ds.length<cJ then .ok (.nx (O.set i (.own (ds++ [d]))))else .bad|_=>.bad
def S9(hv:jZ X.N X.env.scope i x)(hs:gE e=bH)(hl:(ap.endLine==cp.line)=bC)(hb:yT (.Name x p) "append" X.env (dX (.Name x p) X.env)=dX (.Name x p) X.env)(he:IE X e f):
 IS X (.Expr (.Call (.Attribute (.Name x p) "append" ap) [e] [] cp) pos) (tB i f):=λFa Ha=>
 mC (k8 (sn Dm Dq KU zn (qG hv.n hv.v hv.d hv.c) (nT he sW (gC hs)) hb (by rw[eI (show fG [e]=bC by simp[fG,hs])];rfl) hl (gC hs) (mN bO)) (yA bO)) λE Y H ⟨O,F,S,q⟩=>by
 unfold tB at q;split at q
 .rename_i ds hi;obtain⟨a,xs,h1,h2,h3,h4⟩:=uz S.env hi;refine⟨.ref a,h1,.inl ⟨rfl,xs,gS.of h2⟩,O,F,S.env,iP S q λd w F1 H1 S1 g1 dw q=>?_⟩;split at q
  .rename_i hz;have fa:F1 a=bK:=g1.new _ h3 (by rw[h2];simp);have ln:=h4.length;refine⟨a,xs,w,rfl,rfl,g1.same _ _ bO h2,cI,?_⟩;exact q Y F1 _ (AK S1 hi h1 fa (DatL.of (vD (h4.mono g1.fs).paired (.cons dw .nil))))
  .cases q
 .cases q
end
end
section
def Hz(K:cD)(a:bI):It:=
 ⟨λi H=>∃xs x,gS K H a xs/\xs[i]? =bB x,
  λi H v H'=>∃p x,H p=bK/\v= .ref p/\H'=upd H p (.t [.int (i:bG),x])/\ ∀xs,gS K H a xs->xs[i]? =bB x,
  λi H=>∃xs,gS K H a xs/\xs.length<=i⟩
def Ta(e it a:bI)(i:bD)(h:cB):Prop:=(∃old,IsEnum h e it (i:bG) old)/\h.IsListIter it a i
def Tb{w:cF}{kk:bD}{e it a:bI}(V:e≠it):zG P w K (.Tuple elts kk pos) (Hz K a) [e,it] e (Ta e it a)where
 mem:=cO
 obj:=λi h st c hc=>by
  obtain⟨⟨old,h1⟩,o,h2,_,d⟩:=st;have hc':c=e\/c=it:=by simpa using hc
  rcases hc' with rfl|rfl
  .exact⟨_,h1,λv q=>by cases(show D6 _=qm v from q)⟩
  .exact⟨o,h2,λv q=>by rw[d]at q;cases q⟩
 keep:=λi h h' st k=>⟨let ⟨old,h1⟩:=st.1;⟨old,k e cO _ h1⟩,Heap.IsListIter.at st.2 λo q=>k it cO o q⟩
 item:=by
  intro X hP hw hK hc i pc s Y H E I hf st hg;subst hP hw hK;obtain⟨xs,x,hq,hx⟩:=hg;obtain⟨its,rv,p,z⟩:=I.list hq;obtain⟨u,hu,ru⟩:=rv.get hx;obtain⟨⟨old,h1⟩,h2⟩:=st;refine wpAny_pyNext_enum_item (items:=its.toArray) (x:=u) h1 h2 p.isList (by simpa using hu) V λh' a1 a2 a3 a4 a5=>?_
  have I1:=Hu (t':=s.toks+1) (h':=h') (ch:=[e,it]) (x:=.int (i:bG)) (y:=x) (u:=.int i s.toks) (v:=u) I hf (λc o hc q=>a5 c o (λz=>hc (by simp[z])) (λz=>hc (by simp[z])) q) ⟨_,rfl⟩ ru a3;have lt:∀c∈ [e,it],c≠s.heap.objs.size:=λc hc=>by
   have hc':c=e\/c=it:=by simpa using hc
   rcases hc' with rfl|rfl
   .exact gX (fU h1)
   .obtain⟨o,q,_⟩:=h2;exact gX (fU q)
  have f1:∀c∈ [e,it],nR X pc (upd H s.heap.objs.size (.t [.int (i:bG),x])) c:=λc hc=>⟨by rw[fH (lt c hc)];exact(hf c hc).1,(hf c hc).2⟩
  refine⟨_,rfl,wpAny_letOwnedTupleGo_enum (s:={s with heap:=h',toks:=s.toks+1}) a1 λh'' b1 b2=>?_⟩;have I2:bR X pc Y (upd H s.heap.objs.size (.t [.int (i:bG),x])) {s with heap:=h'',toks:=s.toks+1}:=uy (s:={s with heap:=h',toks:=s.toks+1}) (t':=s.toks+1) (ch:=[e]) I1 (λc hc=>f1 c (by rw[tP.mp hc];simp)) λc o hc q=>b2.extBut _ _ (λz=>hc (by simp[z])) q
  refine⟨.ref s.heap.objs.size,_,I2,rfl,⟨_,x,I.hok.fresh (cZ _),rfl,rfl,λxs' q=>by rw[I.list_inj q hq];exact hx⟩,⟨⟨u,by simpa using b1⟩,Heap.IsListIter.at a2 λo q=>b2.extBut _ _ V.symm q⟩,λc hc=>(f1 c hc).1⟩
 done:=by intro X hP hw hK hc i pc s Y H E I hf st hg;subst hP hw hK;obtain⟨xs,hq,hx⟩:=hg;obtain⟨its,rv,p,z⟩:=I.list hq;obtain⟨⟨old,h1⟩,h2⟩:=st;have l1:=rv.length;exact wpAny_pyNext_enum_end (items:=its.toArray) (I.ok.hd hc) h1 h2 p.isList (by simp;lia) λh' k=>⟨rfl,uy (t':=s.toks) (ch:=[it]) I (λc hc=>hf c (by rw[tP.mp hc];simp)) λc o hc q=>k c o (λz=>hc (by simp[z])) q⟩
 self:=λ_ _ _ _ _ st h=>let ⟨_,h1⟩:=st.1;LF h1 h
variable [fZ] [Pd]
def uA(ds:bA D):bA D:=pairD (upTo 0 ds.length) ds
def Tc{a:bI}(h:gS K F a xs)(l:DatL K F ds xs):rH K F (Hz K a) (uA ds):=λn F2 H2 s1 s2=>by
 have q:gS K H2 a xs:=bT.seq s2 (bT.seq s1 h);have e1:=l.length;have hl:(upTo 0 ds.length).length=ds.length:=by unfold upTo;rw[cG,vV]
 unfold uA pairD;refine⟨λd hd=>?_,λhn=>⟨xs,q,by rw[Lq,hl]at hn;lia⟩⟩;rw[Lb]at hd;cases hd2:ds[n]? with
 |none=>rw[hd2]at hd;revert hd;cases(upTo 0 ds.length)[n]? <;>intro hd<;>cases hd
 |some d2=>
  have hlt:n<ds.length:=(rS.mp hd2).1;have hu:(upTo 0 ds.length)[n]? =some (.int (n:bG)):=by unfold upTo;rw[pB,Lm hlt];simp
  rw[hd2,hu]at hd;have hd':D.t [.int (n:bG),d2]=d:=jJ hd;subst hd';obtain⟨x,hx,dx⟩:=vE l.paired hd2;refine⟨⟨xs,x,q,hx⟩,λv H' yl=>?_⟩;obtain⟨p,x',hp,rfl,rfl,hh⟩:=yl;have ex:=hh xs q;rw[hx]at ex;cases ex;have fp:=bT.free s2 hp;refine⟨upd F2 p (.t [.int (n:bG),x]),cL.laid s2 hp _,?_⟩;simp only[bM];exact⟨p,_,rfl,jH.of gY,DatL.cons (by simp only[bM]) (DatL.cons ((dx.mono s1).mono (nU fp _)) DatL.nil)⟩
noncomputable def Td:D->bP (bA D)| .l ds=>.ok (uA ds)|_=>.bad
def m5(f:ME):ML:=λO=>(f O).bind Td
section
variable{a:Expr}
def Te(hgl:X.env.scope.names.lookup ("enumerate" :Str)=bB .globalImplicit)(hm:X.mg "enumerate" =bK)(hs:gE a=bH)(hf:IE X a f):II X (.Tuple elts k pt) (.Call (.Name "enumerate" p) [a] [] pos) (m5 f):=by
 rintro pc s Y H R I ⟨O,F,E,q⟩;have ha:IA X [a] (aC f fP):=tz hf pI (gC hs);unfold m5 at q;cases h1:f O with
 |ok d=>
  rw[h1]at q;cases d with
  |l ds=>
   have q':∀J F' H',cL F H F' H'->rH X.K F' J (uA ds)->R J H':=q;have hA:er X (aC f fP) Y H λvs H1=>∃F1,cL F H F1 H1/\DatL X.K F1 [.l ds] vs:=by
    refine⟨O,F,E,?_⟩;have e0:aC f fP O= .ok [.l ds]:=by simp[aC,fP,h1,bP.bind]
    rw[e0];exact λvs F1 H1 g1 dl=>⟨F1,g1,dl⟩
   refine Call_ (iB I hgl hm boot_enumerate (v4 (cT (ha pos pc s Y H _ I hA) λus s1 qz=>?_) (gC hs) (mN rfl)));obtain⟨vs,H1,I1,r1,F1,g1,dl⟩:=qz;obtain⟨v,rfl,dv⟩:=mM dl;simp only[bM]at dv;obtain⟨b,xs,rfl,hq,hl⟩:=dv;cases r1 with
   |cons r1 rr=>
    cases rr;cases r1;obtain⟨its,rv,p1,z1⟩:=I1.list (bT.seq g1.sub hq);refine call_enumerate_list p1.isList λh' b1 b2 b3 b4=>?_
    refine LF (s:={s1 with heap:=h'}) b1 ?_;refine⟨s1.heap.objs.size+1,[s1.heap.objs.size+1,s1.heap.objs.size],_,_,H1,rfl,I1.kept (t':=s1.toks) b4,Tb (a:=b) (by show(_:bD)≠_;lia),⟨⟨_,b1⟩,b2⟩,λc hc=>?_,q' _ F1 H1 g1 (Tc hq hl)⟩;have hc':s1.heap.objs.size<=c:=by
     have hc2:c=s1.heap.objs.size+1\/c=s1.heap.objs.size:=by simpa using hc
     rcases hc2 with rfl|rfl
     .exact av _ _
     .exact cZ _
    exact I1.fpOk hc' (I1.hok.fresh hc')
  |_=>exact q.elim
 |bad=>rw[h1]at q;cases q
noncomputable def iU:bA D->bP D| [.int i,.int j]=>.ok (.int (if j<i then j else i))|_=>.bad
noncomputable def iV:bA D->bP D| [.int i,.int j]=>.ok (.int (if j>i then j else i))|_=>.bad
def HA{i j:bG}(h:DatL K F [.int i,.int j] xs):xs= [.int i,.int j]:=by simp only[DatL,bM]at h;obtain⟨_,_,rfl,rfl,_,_,rfl,rfl,rfl⟩:=h;rfl
def Tf(hc:X.calm=bC):jE X (.builtin "min") (sZ X iU):=by
 intro pc s Y H xs us Q I r h;obtain⟨F,ds,sb,hl,q⟩:=h;unfold iU at q;split at q
 .cases HA hl;exact OK hc pc s Y H _ us Q I r ⟨_,_,rfl,dE q sb (by simp only[bM])⟩
 .cases q
def Th(hc:X.calm=bC):jE X (.builtin "max") (sZ X iV):=by
 intro pc s Y H xs us Q I r h;obtain⟨F,ds,sb,hl,q⟩:=h;unfold iV at q;split at q
 .cases HA hl;exact OJ hc pc s Y H _ us Q I r ⟨_,_,rfl,dE q sb (by simp only[bM])⟩
 .cases q
end
section
variable{lp:dJ}
end
end
noncomputable def vR(Y:bA Str)(k:Str):bA Str:=if Y.any (· ==k)then Y else Y++ [k]
noncomputable def nG(val:bD->Str):bD->bA Str|0=>[]|i+1=>vR (nG val i) (val i)
def Ti(Y:bA Str)(v k:Str):(vR Y v).any (· ==k)=(Y.any (· ==k)||decide (k=v)):=by
 unfold vR;by_cases h:Y.any (· ==v)=bC
 .rw[cK h];by_cases e:k=v
  .subst e;rw[h];simp
  .simp[e]
 .rw[dH h,List.any_append];by_cases e:k=v
  .subst e;simp
  .have hb:(v==k)=bH:=lE.mpr λh'=>e h'.symm
   simp[hb,e]
def HB(Y:bA Str)(v:Str):(vR Y v).length=if Y.any (· ==v)then Y.length else Y.length+1:=by unfold vR;split<;>simp
theorem HC(val:bD->Str):∀i,(nG val i).length<=i|0=>cZ _|i+1=>by rw[nG,HB];have:=HC val i;split<;>lia
def HD{w:cF}{a:bI}{S S':Str->bU}{n':bD}(hS:h.SetOf (strKind prog w) a S n)(e:∀k,S k=S' k)(en:n=n'):h.SetOf (strKind prog w) a S' n':=by have z:S=S':=funext e;subst z;subst en;exact hS
def AL{w:cF}{a:bI}{S:Str->bU}(hS:h.SetOf (strKind prog w) a S n)(k:∀o,h.get? a=bB o->h'.get? a=bB o):h'.SetOf (strKind prog w) a S n:=by obtain⟨o,es,ep,t,ho,r⟩:=hS;exact⟨o,es,ep,t,k _ ho,r⟩
section
variable{w:cF}{R:ko->bS->Prop}{I:bI}{wr:bA bI}{P:bD->bJ->Prop}{St:bD->bS->Prop}
theorem HE(W:WalksS prog w A.in1 I fp wr G n P St)(S:bI)(hSf:S∉fp)(val:bD->Str)(hval:∀i v,P i v->∃t,v= .str (val i) t)(hb:n+1<kh):∀(k i:bD) (s:bS),n-i=k->i<=n->St i s->
 s.heap.SetOf (strKind prog w) S (λk'=>(nG val i).any (· ==k')) (nG val i).length->(∀s',Moved (S::wr) G s s'->s'.heap.SetOf (strKind prog w) S (λk'=>(nG val n).any (· ==k')) (nG val n).length->R (.ok (.ret .none)) s')->
 codeAny (cA prog w) A (.builtin "set.update.loop" ⟨[.ref S,.ref I],[]⟩) R s:=by
 have hSw:S∉wr:=λh=>hSf (W.sub _ h)
 have hsub:∀b∈wr,b∈S::wr:=λb hb=>gI _ hb
 intro k;induction k with
 |zero=>intro i s hk hi hst hS hR;obtain rfl:i=n:=cI;refine qa F.entry_set_update_loop ?_;rw[wg F.plain_set_update_loop _];show wpAny _ A.in1 (xH (.ref I)>>=_) _ _ s;refine bV (W.done s _ _ hst λs' hm=>?_);show wpAny _ A.in1 (ret xD) _ _ s';exact dM (hR s' (hm.mono hsub) (AL hS λo e=>hm.heap S _ hSw e))
 |succ k ih=>
  intro i s hk hi hst hS hR;have hlt:i<n:=cI;refine qa F.entry_set_update_loop ?_;rw[wg F.plain_set_update_loop _];show wpAny _ A.in1 (xH (.ref I)>>=_) _ _ s;refine bV (W.item i s _ _ hlt hst λv s' hP hst' hm=>?_);obtain⟨t,rfl⟩:=hval i v hP;have hS':=AL (h':=s'.heap) hS λo e=>hm.heap S _ hSw e
  show wpAny _ A.in1 (c6 [ke (val i) t] (setAdd S (.str (val i) t))>>=_) _ _ s';refine bV (j8 ?_);unfold setAdd;refine j8 (bV ((strKind prog w).pyHash (k:=val i) (strKind_is _ _ _ _) ?_));have hroom:(nG val i).length+1<kh:=by have:=HC val i;lia
  refine wpAny_setAddHashed_of (knd:=strKind prog w) (s:={s' with toks:=s'.toks+1}) (strKind_is _ _ _ _) rfl hS' hroom λh' hsb hS2=>?_
  have hSi:h'.SetOf (strKind prog w) S (λk'=>(nG val (i+1)).any (· ==k')) (nG val (i+1)).length:=HD hS2 (λk'=>by rw[nG,Ti]) (by rw[nG,HB]);refine dM ⟨DW F.plain_set_update_loop _,ih (i+1) _ cI hlt (W.frame _ s' _ _ hst' (gy _) λb hb o e=>?_) hSi λs'' hm'' hS''=>?_⟩
  .rw[hsb.2 b (λz:b=S=>hSf (by rw[<-z];exact hb))];exact e
  .refine hR s'' (Moved.trans W.gtrans ((hm.mono hsub).then_heap (gy _) λb o hb e=>?_) hm'') hS'';rw[hsb.2 b (λz:b=S=>hb (by rw[z];exact fW))];exact e
end
def Tj:xz (.type "tuple") (.type "set")=fE bH:=by rw[w6];kernel_rfl
def To:xz (.type "tuple") (.type "frozenset")=fE bH:=by rw[w6];kernel_rfl
def Tp:xz (.type "list") (.type "set")=fE bH:=by rw[w6];kernel_rfl
def Tr:xz (.type "list") (.type "frozenset")=fE bH:=by rw[w6];kernel_rfl
section
variable{w:cF}
noncomputable abbrev zT(led:bU):cQ:={cls:=.type "set",dict:=bK,data:=.set #[] 0 (.fresh 0 0 led)}
theorem Ts{val:bD->Str}(hh:A.handled=bK)(hl:qO tp s.heap l items)(hval:∀(i:bD) (v:bJ),items[i]? =bB v->∃t,v= .str (val i) t)(hb:items.size+1<kh)
 (h:∀(h':cB) (tk:bD),h'.SetOf (strKind prog w) s.heap.objs.size (λk'=>(nG val items.size).any (· ==k')) (nG val items.size).length->(∀b o,s.heap.get? b=bB o->h'.get? b=bB o)->Q (.ref s.heap.objs.size) {s with heap:=h',toks:=tk}):
 wpAny (cA prog w) A (call (.type "set") [.ref l]) Q E s:=by
 obtain⟨c,tl,hmro⟩:=F.called_set.mro;have hmade:=F.called_set.made;have hsub:=F.called_set.sub;refine xw (codeAny_of_tree ?_);show wpAny _ _ (callAny (.type "set") _) _ _ _;refine dM ⟨Code.quiet_builtin _ tY,qa F.entry_type_call ?_⟩;rw[Around.under_plain (weight_type_call_type "set" [.ref l] []) rfl];have h1:=F.called_set.notType;have h2:=F.called_set.canCreate;have hct:=F.typeCall_set_1 (.ref l)
 repeat (any_goals (first|assumption|wp_step))
 refine gu (code_set_new_1 (.ref l) (E:=E) (Q₁:=λobj s₁=>∃led:bU,obj= .ref s.heap.objs.size/\s₁={s with heap:=s.heap.push (zT led)}) λled=>⟨led,rfl,rfl⟩) λr s₁ hr=>?_
 cases r with
 |error e=>exact hr|ok fl=>
  cases fl with
  |ret obj=>
   obtain⟨led,rfl,rfl⟩:=hr;have hS:(s.heap.push (zT led)).get? s.heap.objs.size=bB (zT led):=lA _ rfl;have hT:Shared.TypeIs {s with heap:=s.heap.push (zT led)} (.ref s.heap.objs.size) "set" :=⟨_,hS,rfl⟩;have hli:=F.called_set.init.lookup;have hbi:=F.called_set.init.bind (.ref s.heap.objs.size)
   repeat (any_goals (first|assumption|wp_step))
   refine gu (codeAny_call_builtin (R:=wants (λr s₂=>r= .none/\ ∃h' tk,s₂={s with heap:=h',toks:=tk}/\h'.SetOf (strKind prog w) s.heap.objs.size (λk'=>(nG val items.size).any (· ==k')) (nG val items.size).length/\
    (∀b o,s.heap.get? b=bB o->h'.get? b=bB o)) E) F.called_set.init.plain F.entry_set_init (check_set_init_1 hT ?_)) λr₂ s₂ hr₂=>?_
   .have hlp:qO tp (s.heap.push (zT led)) l items:=hl.at_ λo e=>fC _ e
    cases tp
    all_goals (
     obtain⟨ol,hol,hcl,nl,hdl⟩:=hl;obtain⟨ocls,odict,odata,oslots⟩:=ol;simp only at hcl hdl;subst hcl;subst hdl;have hol':=fC (zT led) hol;have hsls:=Tj;have hslf:=To;have hsls':=Tp;have hslf':=Tr;have hne:(cq "tuple" ==cq "dict")=bH:=jB;have hne':(cq "list" ==cq "dict")=bH:=jB;unfold iy.«set.__init__» noKeywords Xm;generalize hPI:yo=PI
     wp_walk
     subst hPI
     first
      |refine gi hlp (bV (Me ?_))
      |refine gj hlp (bV (Me ?_))
     have hlS:l<s.heap.objs.size:=fU hol;have hh3:A.in1.in1.in1.handled=bK:=by simp[hh]
     have hneI:l≠(s.heap.push (zT led)).objs.size:=by rw[vX];exact gX (wn hlS)
     have hSf:s.heap.objs.size∉ [(s.heap.push (zT led)).objs.size,l]:=by rw[vX];simp only[kS,tP,ax,aI,not_or];exact⟨gX (wp _),gt hlS⟩
     first
      |refine HE ((Walks.tuple hh3 _ l hneI items).toS) s.heap.objs.size hSf val hval hb (items.size-0) 0 _ cI (mK _) ⟨⟨_,lA _ rfl,rfl,rfl⟩,(DF hlp _)⟩ ?hS0 ?hR
      |refine HE ((MG hh3 _ l hneI items).toS) s.heap.objs.size hSf val hval hb (items.size-0) 0 _ cI (mK _) ⟨⟨_,lA _ rfl,rfl,rfl⟩,(DK hlp _)⟩ ?hS0 ?hR
     case hS0=>exact HD ((Xn (knd:=strKind prog w) led).setOf (fC _ hS) (by unfold kh;lia)) (λ_=>rfl) rfl
     case hR=>
      intro s' hm hS';obtain⟨h',g',d',tk',os'⟩:=s';have eg:g'=s.gens:=hm.gens;have ed:d'=s.drawn:=hm.drawn;have eo:os'=s.os:=hm.os;subst eg;subst ed;subst eo;show wpAny _ _ _ _ _ _;refine dM ?_;show wpAny _ _ (ret xD) _ _ _;refine dM ⟨rfl,h',tk',rfl,hS',λb o e=>?_⟩;have hb:=fU e;have hb1:b≠s.heap.objs.size:=gX hb;have hb2:b≠(s.heap.push (zT led)).objs.size:=by rw[vX];exact gX (wn hb)
      exact hm.heap b o (by simp only[kS,tP,ax,aI,not_or];exact⟨hb1,hb2⟩) (fC _ (fC _ e)))
   .cases r₂ with
    |error e=>exact hr₂|ok fl₂=>
     cases fl₂ with
     |ret r=>
      obtain⟨rfl,h',tk,rfl,hS',hk'⟩:=hr₂
      repeat (any_goals (first|assumption|wp_step))
      exact h _ _ hS' hk'
     |_=>exact hr₂.elim
  |_=>exact hr.elim
end
section
variable [fZ] [Pd]
noncomputable def zU:bA D->bQ (bA Str)| []=>bB []| .str z::r=>(zU r).map (z:: ·)|_::_=>bK
def m6(zs:bA Str):bD:=(zs.foldl vR []).length
def m7(ds:bA D):bP D:=match zU ds with|some zs=>if zs.length<1000 then .ok (.int (m6 zs))else .bad|none=>.bad
noncomputable def iW:D->bP D| .t ds=>m7 ds| .l ds=>m7 ds|_=>.bad
theorem HG(zs:bA Str):∀i,i<=zs.length->nG (λi=>zs.getD i "") i=(zs.take i).foldl vR []|0,_=>by simp[nG]|i+1,h=>by have hlt:i<zs.length:=cI;rw[nG,HG zs i cI,List.take_add_one,List.foldl_append,nO hlt];simp[rR,hlt]
def Tt(zs:bA Str):nG (λi=>zs.getD i "") zs.length=zs.foldl vR []:=by rw[HG zs zs.length (cZ _),List.take_length]
theorem AM:∀{ds:bA D} {zs:bA Str} {xs:bA V},zU ds=some zs->DatL K F ds xs->xs=zs.map V.str
 | [],zs,xs,h,l=>by simp only[zU]at h;cases h;simp only[DatL]at l;subst l;rfl|d::r,zs,xs,h,l=>by
  simp only[DatL]at l;obtain⟨x,xr,rfl,h1,h2⟩:=l;cases d with
  |str z=>
   simp only[zU]at h;cases hr:zU r with
   |none=>rw[hr]at h;cases h|some zr=>rw[hr]at h;cases h;simp only[bM]at h1;rw[h1.1,AM hr h2];rfl
  |_=>cases h
abbrev AN(X:Cx)(a:bI)(zs:bA Str):HO:=.ext λh=>h.SetOf (strKind X.prog X.w) a (λk'=>(zs.foldl vR []).any (· ==k')) (m6 zs)
section
variable{p2 c1 c2:dJ}
def Tu(hc:X.calm=bC):jE X (.type "set") (λvs H Q=>∃t p zs,vs= [.ref p]/\Sq t X.K H p (zs.map V.str)/\zs.length<1000/\ ∀a,H a=bK->Q (.ref a) (upd H a (AN X a zs))):=by
 intro pc s Y H xs us Q I r h;obtain⟨t,p,zs,rfl,hq,hz,q⟩:=h;obtain⟨u,rfl,rx⟩:=pG r;cases rx;obtain⟨its,rv,pl,_⟩:=eO I hq;have ln:zs.length=its.length:=by have:=rv.length;rw[cG]at this;exact this
 have hb:its.toArray.size+1<kh:=by rw[gQ];unfold kh;lia
 refine Ts (val:=λi=>zs.getD i "") (items:=its.toArray) (I.ok.hd hc) pl (λi v hv=>?_) hb λh' tk hS hk=>?_
 .have hv':its[i]? =bB v:=by simpa using hv
  have hi:i<zs.length:=by rw[ln];exact(rS.mp hv').1
  obtain⟨u,hu,ru⟩:=rv.get (i:=i) (x:=V.str zs[i]) (by rw[pB,nO hi];rfl);rw[hv']at hu;cases hu;obtain⟨t,rfl⟩:=ru;exact⟨t,by rw[rR,nO hi];rfl⟩
 .have hsz:its.toArray.size=zs.length:=by rw[gQ,ln]
  rw[hsz,Tt]at hS;have hfr:=I.hok.fresh (cZ s.heap.objs.size);obtain⟨o,es,ep,t,ho,r⟩:=id hS;exact⟨.ref s.heap.objs.size,_,I.laid (o:=AN X s.heap.objs.size zs) (h':=h') (t':=tk) hk (cZ _) (show _/\_ from⟨hS,⟨o,ho⟩,λh1 h2 z k=>AL z k⟩),rfl,q _ hfr⟩
def Tw:jE X (.builtin "len") (λvs H Q=>∃a zs,vs= [.ref a]/\H a=bB (AN X a zs)/\zs.length<1000/\Q (.int (m6 zs)) H):=by intro pc s Y H xs us Q I r h;obtain⟨a,zs,rfl,ha,hz,q⟩:=h;obtain⟨u,rfl,rx⟩:=pG r;cases rx;obtain⟨⟨o,es,ep,t,h1,h2,h3,h4,h5,h6,h7,h8⟩,_⟩:=I.hok a _ ha;have h6':es.size<4096:=h6;exact call_len_set h1 h2 h3 h7 cI ⟨.int (m6 zs),H,I.tok _,⟨_,by rw[h8]⟩,q⟩
def Tx(hc:X.calm=bC)(hs:gE e=bH)(hg1:X.env.scope.names.lookup ("len" :Str)=bB .globalImplicit)(hm1:X.mg "len" =bK)(hg2:X.env.scope.names.lookup ("set" :Str)=bB .globalImplicit)(hm2:X.mg "set" =bK)(he:IE X e f):
 IE X (.Call (.Name "len" p1) [.Call (.Name "set" p2) [e] [] c2] [] c1) (m1 iW f):=by
 refine gN (zk Tw hg1 hm1 w8 (nT (si (Tu hc) hg2 hm2 boot_set (nT he sW (gC hs)) jB jB (gC hs) (mN rfl)) sW (gC rfl)) jB jB (gC rfl) (mN rfl)) λY H Q q=>?_
 obtain⟨O,F,E,q⟩:=q;unfold m1 at q;refine⟨O,F,E,?_⟩;cases hf:f O with
 |ok d=>
  rw[hf]at q;have q0:fX (bM X.K) F H (iW d) Q:=q;intro v F1 H1 g1 d1;rcases AH d1 with n1|⟨t,p,xs,ds,rfl,sq,l,hd⟩
  .cases d<;>first
    |exact q0.elim
    |exact dD rfl (n1 _).1
    |exact dD rfl (n1 _).2
  have q1:fX (bM X.K) F H (m7 ds) Q:=by rcases hd with rfl|rfl<;>exact q0
  unfold m7 at q1;split at q1
  .rename_i zs hz;split at q1
   .rename_i hlt;have ex:=AM hz l;subst ex;exact⟨t,p,zs,rfl,sq.same g1.sub,hlt,λa ha=>⟨a,zs,rfl,gY,hlt,q1 _ F1 _ (g1.trans (cL.laidN g1.sub ha _)) (by simp only[bM])⟩⟩
   .cases q1
  .cases q1
 |bad=>rw[hf]at q;cases q
end
noncomputable def HI(b:bA dN):dJ:=match b.getLast? with|some (.Return (some (.Call _ [_,_,.Lambda _ _ _ p] _ _)) _)=>p|_=>⟨0,0,0,0⟩
noncomputable def HJ(sc0:kW)(b:bA dN):kW:=match b.getLast? with|some (.Return (some (.Call _ [_,_,.Lambda _ _ sc _] _ _)) _)=>sc|_=>sc0
def HK(h1:scope.kind= .function)(h2:scope.isCoroutine=bH)(h3:scope.isGenerator=bH)(h4:(scope.names.all λz=>cN (z.2≠ .cell))=bC)(h5:scope.names.lookup x=bB .local)(h6:scope.names.lookup y=bB .free)
 (h7:(scope.names.all λz=>cN (z.2= .free->z.1=y))=bC):my x y scope:=
 ⟨h1,h2,h3,λz hz=>mJ (qR.mp h4 z hz),h5,h6,λz hz=>mJ (qR.mp h7 (z,.free) (cb hz)) bO⟩
def uC{w:cF}{cl:bA (bI×HO)}(C:vN P w K mg base j v cl m)(h:j<=k):vN P w K mg base k v cl m:=by obtain⟨a,fd,ps,h1,h2,h3,h4⟩:=C.ex;exact⟨⟨a,fd,ps,h1,h2,SG h3 h,h4⟩⟩
def Tz(hN:X.N.Nodup)(hi:X.N[i]? =bB x)(hx:Loc X.env.scope x)(hs:aE e (bB (.Name x p)) pos.line X.env=fE bH)(hf:X.fn x=bC\/X.env.scope.names.lookup x=bB .local)(he:IE X e f):IS X (.Assign [.Name x p] e pos) (cR i f):=
 Gi (λt h=>lf (i:=i) hN hi hx h hs hf) he
abbrev MN:=cS->bP Ob
def vS(K:cD)(F H:Hp)(r:bP Ob)(Q:VK):Prop:=match r with| .ok s=>∀l F' H',cL F H F' H'->H l=bK->kE K F' H' l s->Q (.ref l) H'| .bad=>jF
def vS.grow{F1 H1:Hp}{r:bP Ob}{Q:VK}(h:vS K F H r Q)(g:cL F H F1 H1):vS K F1 H1 r Q:=by
 cases r with
 |ok s=>exact λl F' H' g' hl=>h l F' H' (g.trans g') (g.free hl)|bad=>exact h
def eQ{R1:Hp->α->β->Prop}{r:bP α}{g:α->bP Ob}{Q:VK}{Q':β->Hp->Prop}(h:vS K F H (r.bind g) Q)(k:∀a b F1 H1,cL F H F1 H1->R1 F1 a b->vS K F1 H1 (g a) Q->Q' b H1):fX R1 F H r Q':=by
 cases r with
 |ok a=>exact λb F' H' g' r'=>k a b F' H' g' r' (vS.grow (show vS K F H (g a) Q from h) g')|bad=>exact h
def m8{s:Ob}{Q:VK}(q:vS K F H (.ok s) Q)(sb:bT F H)(k:s.ho K F o){p:bI}(hp:H p=bK):Q (.ref p) (upd H p o):=q p F _ (cL.laidN sb hp o) hp ⟨bT.free sb hp,o,gY,k⟩
def IN(X:Cx)(e:Expr)(f:MN):Prop:=PE X e λY H Q=>∃O F,hV X.K F H O Y/\vS X.K F H (f O) Q
def bg(fa:MA):MN:=λO=>(fa O).bind λds=>if ds.length<=cJ then .ok (.l ds)else .bad
noncomputable def HL:D->D->bP Ob| .l xs,.l ys=>if xs.length+ys.length<=cJ then .ok (.l (xs++ys))else .bad|_,_=>.bad
def m9(f g:ME):MN:=λO=>(f O).bind λx=>(g O).bind λy=>HL x y
noncomputable def iX:MN:=λ_=>.ok (.tab [])
def eR(t:MT)(f g:MN):MN:=λO=>(t O).bind λc=>if c=bC then f O else g O
section
variable{a b c:Expr}{g:ME}{ff gg:MN}
def TC(h:IA X es fa):IN X (.List es pos) (bg fa):=gN (zj h) λY H Q ⟨O,F,E,q⟩=>⟨O,F,E,eQ q λds vs F1 H1 g1 dl q=>by
 split at q
 .rename_i hz;exact⟨by rw[<-dl.length];exact hz,λp hp=>m8 q g1.sub ⟨vs,rfl,dl⟩ hp⟩
 .exact q.elim⟩
def TD:dQ X (mU .Add) (λx y H Q=>∃l b xs ys,x= .ref l/\y= .ref b/\gS X.K H l xs/\gS X.K H b ys/\xs.length+ys.length<=cJ/\ ∀p,H p=bK->Q (.ref p) (upd H p (.l (xs++ys)))):=by
 intro pc s Y H x y v u Q I rx ry h;obtain⟨p1,p2,vs,ws,rfl,rfl,hq1,hq2,z,q⟩:=h;cases rx;cases ry;obtain⟨its,r1,⟨⟨cls,dd,data,sl⟩,n,ho,hc,hd,hs⟩,z1⟩:=I.list hq1;obtain⟨its2,r2,⟨⟨cls2,dd2,data2,sl2⟩,n2,ho2,hc2,hd2,hs2⟩,z2⟩:=I.list hq2;simp only at hc hd hc2 hd2 hs hs2;subst hc hd hc2 hd2 hs hs2;have k1:=r1.length;have k2:=r2.length
 refine qe ⟨_,ho,rfl⟩ ⟨_,ho2,rfl⟩ K9 Lv La K5 (K0 _ _)
  (list_addW p1 p2 _ _ n n2 bK bK sl sl2 (by simp only[gQ];lia)) ⟨ho,ho2,?_⟩
 have ea:its.toArray++its2.toArray=(its++its2).toArray:=cO;rw[ea];exact⟨.ref _,_,I.lnew (t':=s.toks) (r1.append r2) (by rw[cH];lia),rfl,q _ I.fresh⟩
def TF(ha:IE X a f)(hb:IE X b g):IN X (.BinOp a .Add b pos) (m9 f g):=gN (E4 TD ha hb) λY H Q ⟨O,F,E,q⟩=>⟨O,F,E,eQ q λd v F1 H1 g1 d1 q=>⟨O,F1,E.grow g1,eQ q λy v' F2 H2 g2 d2 q=>by
 unfold HL at q;split at q
 .split at q
  .rename_i hz;simp only[bM]at d1 d2;obtain⟨p1,vs,rfl,s1,l1⟩:=d1;obtain⟨p2,ws,rfl,s2,l2⟩:=d2;have e1:=l1.length;have e2:=l2.length;exact⟨p1,p2,vs,ws,rfl,rfl,bT.seq g2.sub (bT.seq g2.fs s1),bT.seq g2.sub s2,cI,λp hp=>m8 q g2.sub ⟨_,rfl,DatL.of (vD (l1.mono g2.fs).paired l2.paired)⟩ hp⟩
  .cases q
 .exact q.elim⟩⟩
def TH:IN X (.Dict [] [] pos) iX:=gN P9 λY H Q qz=>by obtain⟨O,F,E,q⟩:=qz;exact λp hp=>m8 q E.sub ⟨[],rfl,.nil⟩ hp
def TJ(hc:IT X c t)(ha:IN X a ff)(hb:IN X b gg):IN X (.IfExp c a b pos) (eR t ff gg):=gN (y0 hc ha hb) λY H Q ⟨O,F,E,q⟩=>⟨O,F,E,eQ q λd v F1 H1 g1 d1 q=>by
 cases(show d=v from d1);cases d with
 |true=>exact vB ⟨O,F1,E.grow g1,q⟩
 |false=>exact vA ⟨O,F1,E.grow g1,q⟩⟩
def nH(i:bD)(f:MN):MS:=λO=>(f O).bind λs=>.ok (.nx (O.set i (.obj bH s)))
def TK(hN:X.N.Nodup)(hi:X.N[i]? =bB x)(hx:L2.Loc X.env.scope x)(hs:xZ e=bH)(hf:X.fn x=bC\/X.env.scope.names.lookup x=bB .local)(he:IN X e ff):IS X (.Assign [.Name x p] e pos) (nH i ff):=λFa Ha=>
 mC (lf (i:=i) hN hi hx he (yA hs) hf) λE Y H ⟨O,F,S,q⟩=>⟨O,F,S.env,by
 unfold nH at q;revert q;cases ff O with
 |ok s=>exact λq l F1 H1 g1 hl r=>q _ _ _ (S.new g1 hl r i)
 |bad=>exact kX⟩
end
def TL(l:bI)(items:fQ bJ)(n:bD)(b:bI)(items2:fQ bJ)(n2:bD)(sl:fQ (bQ bJ))(hc0: ¬(!items.isEmpty&&wa (items.size+items2.size))=bC)(hc1:items.size<=cJ)(hs2:items.size+items2.size<=cJ+1):
 Meets (iy.«list.extend» ⟨[.ref l,.ref b],[]⟩) (λ_ R s=>s.heap.get? l=bB {cls:=.type "list",dict:=bK,data:=.seq items n,slots:= #[]}/\s.heap.get? b=bB {cls:=.type "list",dict:=bK,data:=.seq items2 n2,slots:=sl}/\R (.ok (.ret xD)) {s with heap:=s.heap.update l (Eg λx=>x++items2),toks:=s.toks}):=
 .of_wp λprog w A R s h=>by
  obtain⟨hp,g,d,tk,os⟩:=s;obtain⟨hl,hb,h⟩:=h;have f1:=AutoSeq1.idx_int;have f2:=AutoSeq1.sub_tuple_tuple;have f3:=AutoSeq1.sub_list_list;have f4:=AutoSeq1.sub_tuple_list;have f5:=AutoSeq1.sub_list_tuple;have hz':(items++items2).size<=cJ+1:=by rw[DE];exact hs2
  wp_walk using(wpAny_updateSeq hl bO (hz:=hc1) (_hz':=hz')),KW hl,KW hb;exact⟨_,rfl,h⟩
theorem TM:FO X "list.extend" (λx vs H Q=>∃l b xs zs,x= .ref l/\vs= [.ref b]/\H l=bB (.l xs)/\gS X.K H b zs/\xs.length+zs.length<=cJ/\Q .n (upd H l (.l (xs++zs)))):=by
 intro pc s Y H x vs v us Q I rx rv h;obtain⟨l,b,xs,zs,rfl,rfl,hH,hB,hz,q⟩:=h;cases rx;obtain⟨u,rfl,ru⟩:=rv.one;cases ru;obtain⟨z,its,n,r,hl,e⟩:=I.lstM hH;obtain⟨its2,r2,⟨⟨cls2,dd2,data2,sl2⟩,n2,ho2,hc2,hd2,hs2⟩,z2⟩:=I.list hB;simp only at hc2 hd2 hs2;subst hc2 hd2 hs2;have hl2:=r2.length;have hsz:its.toArray.size+its2.toArray.size<=cJ:=by rw[gQ,gQ];lia
 have hlong: ¬ (!its.toArray.isEmpty&&wa (its.toArray.size+its2.toArray.size))=bC:=by rw[PN hsz,L7];exact tO
 refine cr F.slot_list_extend ⟨_,e,rfl⟩ F.entry_list_extend (F.args_list_extend_2 _ _)
  (TL l its.toArray n b its2.toArray n2 sl2 hlong (by rw[gQ];lia) cI) ⟨e,ho2,?_⟩
 refine⟨.n,_,I.lset (its':=its++its2) hH e cO (r.append r2) ?_,rfl,q⟩;rw[cH]
 lia
def nc(i:bD)(O:cS)(d:D):bP Fl:=match O[i]?,d with|some (.obj false (.l ds)),.l es=>if ds.length+es.length<=cJ then .ok (.nx (O.set i (.own (ds++es))))else .bad|_,_=>.bad
def kA(i:bD)(f:ME):MS:=λO=>(f O).bind (nc i O)
def TN(hv:jZ X.N X.env.scope i x)(hs:gE e=bH)(hl:(ap.endLine==cp.line)=bC)(he:IE X e f):IS X (.Expr (.Call (.Attribute (.Name x p) "extend" ap) [e] [] cp) pos) (kA i f):=λFa Ha=>
 mC (k8 (sn Dm PySem.F.slot_list_extend PySem.F.type_list_extend TM (qG hv.n hv.v hv.d hv.c) (nT he sW (gC hs)) rfl (by rw[eI (show fG [e]=bC by simp[fG,hs])];rfl) hl (gC hs) (mN rfl)) (yA rfl)) λE Y H ⟨O,F,S,q⟩=>by
 unfold kA at q;cases hf:f O with
 |ok d=>
  rw[hf]at q;have q0:kF X Fa Ha (nc i O d) E:=q;unfold nc at q0;split at q0
  .rename_i ds es hi;split at q0
   .rename_i hz;obtain⟨a,xs,h1,h2,h3,h4⟩:=uz S.env hi;have q1:∀Y F H,SR X.K Fa Ha F H (O.set i (.own (ds++es))) Y->E.nx Y H:=q0;refine⟨.ref a,h1,.inl ⟨rfl,xs,gS.of h2⟩,O,F,S.env,?_⟩;rw[hf];intro w F1 H1 g1 dw;simp only[bM]at dw;obtain⟨b,zs,rfl,sq,dl⟩:=dw;have e1:=h4.length;have e2:=dl.length;exact⟨a,b,xs,zs,rfl,rfl,g1.same _ _ rfl h2,bT.seq g1.sub sq,cI,q1 Y F1 _ (AK (S.grow g1) hi h1 (g1.new _ h3 (by rw[h2];simp)) (DatL.of (vD (h4.mono g1.fs).paired dl.paired)))⟩
   .cases q0
  .cases q0
 |bad=>rw[hf]at q;cases q
noncomputable def ng(i:bD)(O:cS)(d:D):bP Fl:=match O[i]?,d with|some (.val (.int a)),.int b=>.ok (.nx (O.set i (.val (.int (a+b)))))|_,_=>.bad
def eS(i:bD)(f:ME):MS:=λO=>(f O).bind (ng i O)
def TQ(hN:X.N.Nodup)(hi:X.N[i]? =bB x)(hx:L2.Loc X.env.scope x)(hf:X.fn x=bC\/X.env.scope.names.lookup x=bB .local)(he:IE X e f):IS X (.AugAssign (.Name x p) .Add e pos) (eS i f):=λFa Ha=>
 mC (NR (i:=i) hN hi hx he (show EU X .Add _ from Oj) hf) λE Y H ⟨O,F,S,q⟩=>by
 unfold eS at q;cases hf:f O with
 |ok d=>
  rw[hf]at q;have q0:kF X Fa Ha (ng i O d) E:=q;unfold ng at q0;split at q0
  .rename_i a b hi;obtain⟨o,h1,v,rfl,dv⟩:=S.env.at_ i _ hi;simp only[bM]at dv;subst dv;have q1:∀Y F H,SR X.K Fa Ha F H (O.set i (.val (.int (a+b)))) Y->E.nx Y H:=q0;refine⟨.int a,h1,O,F,S.env,?_⟩;rw[hf];intro w F1 H1 g1 dw;simp only[bM]at dw;subst dw;exact⟨a,b,rfl,rfl,q1 _ F1 _ ((S.grow g1).set i (by simp only[bM]))⟩
  .cases q0
 |bad=>rw[hf]at q;cases q
theorem HM:∀{zs:bA Str} {us:bA bJ},cW (zs.map V.str) us->∃l:bA (Str×lG),Em l=us/\l.map (·.1)=zs| [],_,.nil=>⟨[],rfl,rfl⟩|z::r,_,.cons ru rr=>by obtain⟨t,rfl⟩:=ru;obtain⟨l,e1,e2⟩:=HM rr;exact⟨(z,t)::l,by rw[<-e1];rfl,by rw[dY,e2]⟩
def eU(z:Str):bA D->bP D
 | [.l ds]=>match zU ds with
  |some zs=>if JoinOk z zs=bC/\(km z zs).length<=cJ then .ok (.str (km z zs))else .bad|none=>.bad
 |_=>.bad
def TR:aR X "str.join" (eD X eU):=by
 intro pc s Y H x xs v us Q I rx rs h;obtain⟨F,z,ds,sb,rfl,hz,hl,q⟩:=h;obtain⟨t,rfl⟩:=rx;unfold eU at q;split at q
 .obtain⟨y,rfl,hy⟩:=mM hl;simp only[bM]at hy;obtain⟨a,ys,rfl,sq,dl⟩:=hy;split at q
  .rename_i zs hs;split at q
   .rename_i hj;have ex:=AM hs dl;subst ex;obtain⟨u,rfl,ru⟩:=rs.one;cases ru;obtain⟨its,rv,pl,_⟩:=I.list (bT.seq sb sq);obtain⟨l,rfl,e2⟩:=HM rv;exact SC.join pl.isList e2 hj.1 λt' k=>⟨.str _,H,I.tok _,⟨_,rfl⟩,dE q sb (by simp only[bM];exact⟨trivial,hj.2⟩)⟩
   .cases q
  .cases q
 .cases q
def sJ(K:cD)(F H:Hp)(a:bI)(s:Ob)(r:bP (D×Ob))(Q:VK):Prop:=match r with| .ok r=>∀v F' H',zL H H' a->cL F (ers H a) F' H'->kE K F' H' a r.2->bM K F' r.1 v->Q v H'| .bad=>jF
abbrev MX:=cS->bP (D×Ob)
noncomputable def tX(X:Cx)(i:bD)(g:MX):TE:=λY H Q=>∃O F a p s,hV X.K F H O Y/\O[i]? =bB (.obj p s)/\Y[i]? =bB (bB (.ref a))/\sJ X.K F H a s (g O) Q
def IX(X:Cx)(i:bD)(e:Expr)(g:MX):Prop:=PE X e (tX X i g)
def hV.ob{p:bU}{s:Ob}{a:bI}(E:hV K F H O Y)(hi:O[i]? =bB (.obj p s))(h1:Y[i]? =bB (bB (.ref a))):kE K F H a s:=by obtain⟨o,z1,a',rfl,_,r⟩:=E.at_ i _ hi;rw[h1]at z1;cases z1;exact r
def sJ.grow{F1 H1:Hp}{a:bI}{s:Ob}{r:bP (D×Ob)}{Q:VK}(q:sJ K F H a s r Q)(ob:kE K F H a s)(g:cL F H F1 H1):sJ K F1 H1 a s r Q:=by
 cases r with
 |ok r=>exact λv F' H' l g'=>q v F' H' (λu u' e e'=>by obtain⟨w,e1,k⟩:=ob.o;rw[e]at e1;cases e1;exact l u u' (g.same a u (vF k).1 e) e') ((g.ers ob).trans g')|bad=>exact q
def nh{R1:Hp->α->β->Prop}{a:bI}{s:Ob}{r:bP α}{g:α->bP (D×Ob)}{Q:VK}{Q':β->Hp->Prop}(ob:kE K F H a s)(h:sJ K F H a s (r.bind g) Q)(k:∀x b F1 H1,cL F H F1 H1->R1 F1 x b->sJ K F1 H1 a s (g x) Q->Q' b H1):fX R1 F H r Q':=by
 cases r with
 |ok x=>exact λb F' H' g' r'=>k x b F' H' g' r' (sJ.grow (show sJ K F H a s (g x) Q from h) ob g')|bad=>exact h
def zV(i:bD)(g:MX)(kk:D->MS):MS:=λO=>match O[i]? with|some (.obj p _)=>(g O).bind λr=>kk r.1 (O.set i (.obj p r.2))|_=>.bad
section
variable{g h:MX}{st:dN}{v:MS}
def ni{E:sV}{kk:D->MS}{T:V->Hp->Prop}(hT:∀O F H d v,SR X.K Fa Ha F H O Y->bM X.K F d v->kF X Fa Ha (kk d O) E->T v H)(q:tS X Fa Ha (zV i g kk) E Y H):tX X i g Y H T:=by
 obtain⟨O,F,S,q⟩:=q;unfold zV at q;split at q
 .rename_i p s hi;obtain⟨o,h1,a,rfl,hp,r⟩:=S.env.at_ i _ hi;refine⟨O,F,a,p,s,S.env,hi,h1,?_⟩;revert q;cases g O with|ok d=>exact λq v F1 H1 l g1 r1 d1=>hT _ F1 H1 _ v (S.step hi h1 l g1 r1) d1 q|bad=>exact kX
 .cases q
def lO(i:bD)(g:MX):MS:=zV i g λ_ O=>.ok (.nx O)
def kP(i j:bD)(g:MX):MS:=zV i g λd O=>.ok (.nx (O.set j (.val d)))
def gP(i:bD)(g:MX):MS:=zV i g λd O=>.ok (.rr d O)
def HN(hs:xZ e=bH)(he:IX X i e g):IS X (.Expr e pos) (lO i g):=λFa Ha=>mC (k8 he (yA hs)) λE Y H q=>ni (kk:=λ_ O=>.ok (.nx O)) (λO F H d v S _ q=>q Y F H S) q
def TU(he:IX X i e g):IS X (.Return (bB e) pos) (gP i g):=λFa Ha=>mC (y7 he) λE Y H q=>ni (kk:=λd O=>.ok (.rr d O)) (λO F H d v S r q=>q v Y F H S r) q
def TV(hN:X.N.Nodup)(hi:X.N[j]? =bB x)(hx:Loc X.env.scope x)(hs:xZ e=bH)(hf:X.fn x=bC\/X.env.scope.names.lookup x=bB .local)(he:IX X i e g):IS X (.Assign [.Name x p] e pos) (kP i j g):=λFa Ha=>
 mC (lf (i:=j) hN hi hx he (yA hs) hf) λE Y H q=>ni (kk:=λd O=>.ok (.nx (O.set j (.val d)))) (λO F H d v S r q=>q _ F H (S.set j r)) q
def iY(i:bD)(g:MX)(m:D->D->bP D)(f:ME)(u:MS):MS:=zV i g λd O=>(f O).bind λc=>(m d c).bind λz=>(sY z).bind λk=>if k=bC then u O else .ok (.nx O)
def TW{b:Expr}{mm:D->D->bP D}(ho:dQ X (hJ op) (rD X mm))(ha:IX X i e g)(hb:IE X b f)(hm:tQ op b=false)(hu:mF X body u):IS X (.If (.Compare e [op] [b] p) body [] pos) (iY i g mm f u):=λFa Ha=>
 mC (ET (zd ho ha hb hm) (hu Fa Ha) EQ) λE Y H q=>ni (kk:=λd O=>(f O).bind λc=>(mm d c).bind λz=>(sY z).bind λk=>if k=true then u O else .ok (.nx O)) (λO F H d v S dv q=>⟨O,F,S.env,iP S q λc vc F1 H1 S1 g1 dc q=>⟨F1,d,c,S1.env.sub,dv.mono g1.fs,dc,iP S1 q λz vz F2 H2 S2 g2 dz q=>by
  cases z with
  |b k=>
   simp only[bM]at dz;refine⟨k,dz,?_⟩;cases k with
   |true=>exact vB ⟨O,F2,S2,q⟩|false=>exact vA (q Y F2 H2 S2)
  |_=>exact q.elim⟩⟩) q
def nX(i j:bD)(g:MX):MS:=λO=>match O[j]? with
 |some (.obj false (.l _))=>zV i g (λd O=>match O[j]? with
  |some (.obj false (.l ds))=>if ds.length<cJ then .ok (.nx (O.set j (.own (ds++ [d]))))else .bad
  |_=>.bad) O
 |_=>.bad
def TX(hv:jZ X.N X.env.scope j x)(hs:gE e=bH)(hl:(ap.endLine==py.line)=bC)(hb:yT (.Name x p) "append" X.env (dX (.Name x p) X.env)=dX (.Name x p) X.env)(he:IX X i e g):
 IS X (.Expr (.Call (.Attribute (.Name x p) "append" ap) [e] [] py) pos) (nX i j g):=λFa Ha=>
 mC (k8 (sn Dm Dq KU zn (qG hv.n hv.v hv.d hv.c) (nT he sW (gC hs)) hb (by rw[eI (show fG [e]=bC by simp[fG,hs])];rfl) hl (gC hs) (mN bO)) (yA bO)) λE Y H ⟨O,F,S,q⟩=>by
 unfold nX at q;split at q
 .rename_i ds0 hj;obtain⟨a,xs,h1,h2,h3,h4⟩:=uz S.env hj;refine⟨.ref a,h1,.inl ⟨rfl,xs,gS.of h2⟩,?_⟩;refine ni (Fa:=Fa) (Ha:=Ha) (E:=E) (λρ1 F1 H1 d w S1 dw q1=>?_) ⟨O,F,S,q⟩;split at q1
  .rename_i ds hj1;split at q1
   .rename_i hz;obtain⟨a1,xs1,z1,y2,y3,y4⟩:=uz S1.env hj1;rw[h1]at z1;cases z1;have ln:=y4.length;refine⟨a,xs1,w,rfl,rfl,y2,cI,?_⟩;exact q1 Y F1 _ (AK S1 hj1 h1 y3 (DatL.of (vD y4.paired (.cons dw .nil))))
   .cases q1
  .cases q1
 .cases q
def xP(i:bD)(f:ME):MX:=λO=>(f O).bind λd=>match O[i]? with|some (.obj _ s)=>.ok (d,s)|_=>.bad
def TY(he:IE X e f):IX X i e (xP i f):=gN he λY H Q qz=>by obtain⟨O,F,a,p,s,E,hi,h1,q⟩:=qz;refine⟨O,F,E,nh (E.ob hi h1) q λd v F1 H1 g1 d1 q=>?_⟩;rw[hi]at q;exact q v F1 H1 (λu u' e e'=>by rw[e]at e';cases e';exact wI.refl u) (zx g1.sub) ((E.ob hi h1).grow g1) d1
def eV(t:MT)(g h:MX):MX:=λO=>(t O).bind λc=>if c=bC then g O else h O
def TZ{c a b:Expr}(hc:IT X c t)(ha:IX X i a g)(hb:IX X i b h):IX X i (.IfExp c a b pos) (eV t g h):=gN (y0 hc ha hb) λY H Q qz=>by
 obtain⟨O,F,a,p,s,E,hi,h1,q⟩:=qz;refine⟨O,F,E,nh (E.ob hi h1) q λc b F1 H1 g1 e1 q=>?_⟩;cases(show c=b from e1);cases c with
 |true=>exact vB ⟨O,F1,a,p,s,E.grow g1,hi,h1,q⟩|false=>exact vA ⟨O,F1,a,p,s,E.grow g1,hi,h1,q⟩
noncomputable def Ob.inp:Ob->bA D->bA D| .row ws k,ds=>.l ws:: .int k::ds| .tab T,ds=>dR T::ds| .l xs,ds=>.l xs::ds
noncomputable def Ob.dec:Ob->bP D->bP (D×Ob)| .row ws _,.ok (.t [d,.int k])=>.ok (d,.row ws k)| .tab _,.ok (.t [d,.dct ks vs])=>.ok (d,.tab (ks.zip vs))|_,_=>.bad
def pX(m:bA D->bP D)(ds:bA D)(s:Ob):bP (D×Ob):=s.dec (m (s.inp ds))
def wN(K:cD)(n:bD)(m:bA D->Ob->bP (D×Ob)):Sp:=λvs H Q _=>∃F a s ds pre post,vs=pre++ .ref a::post/\pre.length=n/\pH F H/\bT F H/\kE K F H a s/\DatL K F ds (pre++post)/\sJ K F H a s (m ds s) Q
structure AO(P:fM)(w:cF)(K:cD)(mg:Str->bQ bJ)(base:cB)(k:bD)(x:Str)(n:bD)(m:bA D->bP D):Prop where
 ex:∃(f:bI) (fd:gJ) (ps:bA Str),dZ P w K mg base fF k f fd ps (wN K n (pX m))/\mg x=bB (.ref f)/\lY K (.ref f)=bC/\lH K fd ps []
def nj(X:Cx)(i n:bD)(es:bA Expr)(fa:MA):Prop:=PA X es λY H Q=>∃O F a,hV X.K F H O Y/\Y[i]? =bB (bB (.ref a))/\fX (λF ds vs=>∃pre post,vs=pre++ .ref a::post/\pre.length=n/\DatL X.K F ds (pre++post)) F H (fa O) Q
def T1(hv:jZ X.N X.env.scope i y)(ha:IA X es fa):nj X i 0 (.Name y py::es) fa:=ez (nT (qG hv.n hv.v hv.d hv.c) ha (gC bO)) λY H Q ⟨O,F,a,E,h1,q⟩=>⟨.ref a,h1,O,F,E,by
 revert q;cases fa O with
 |ok ds=>exact λq vs F1 H1 g1 dl=>q _ F1 H1 g1 ⟨[],vs,rfl,rfl,dl⟩
 |bad=>exact kX⟩
def T2(hs:gE e=bH)(he:IE X e f)(h:nj X i n es fa):nj X i (n+1) (e::es) (aC f fa):=ez (nT he h (gC hs)) λY H Q ⟨O,F,a,E,h1,q⟩=>⟨O,F,E,jY q λd v F1 H1 g1 d1 q=>⟨O,F1,a,E.grow g1,h1,jY q λds vs F2 H2 g2 d2 q=>by obtain⟨pre,post,rfl,hl,dl⟩:=d2;exact dE q g2.sub ⟨v::pre,post,rfl,by rw[dC,hl],DatL.cons (d1.mono g2.fs) dl⟩⟩⟩
def fV(i:bD)(m:bA D->bP D)(fa:MA):MX:=λO=>match O[i]? with|some (.obj _ s)=>(fa O).bind λds=>pX m ds s|_=>.bad
def T3(C:AO X.prog X.w X.K X.mg X.base k x n m)(hr:fY k X.A)(hg:X.env.scope.names.lookup x=bB .globalImplicit)(hd:(x==("__debug__" :Str))=bH)(hn:fG (e::es)=bC)(ha:nj X i n (e::es) fa):
 IX X i (.Call (.Name x p) (e::es) [] pos) (fV i m fa):=by
 obtain⟨f,fd,ps,F,hm,hk,hb⟩:=C.ex;have h1:gE e=bH/\fG es=bC:=by unfold fG at hn;rw[lS,dB]at hn;exact⟨by simpa using hn.1,hn.2⟩
 refine gN (sh (E:=E0) F hr hg hm hk hb .nil xL ha hd (gC h1.1) (mN h1.2)) λY H Q qz=>?_
 obtain⟨O,F,a,p,s,E,hi,h1,q⟩:=qz;refine⟨O,F,a,E,h1,?_⟩;unfold fV at q;rw[hi]at q;refine nh (E.ob hi h1) q λds vs F1 H1 g1 d1 q=>?_
 obtain⟨pre,post,rfl,hl,dl⟩:=d1;exact⟨F1,a,s,ds,pre,post,by rw[kK],hl,(E.grow g1).tb,g1.sub,(E.ob hi h1).grow g1,dl,q⟩
structure bh(P:fM)(w:cF)(K:cD)(mg:Str->bQ bJ)(base:cB)(k:bD)(x:Str)(m:bA D->bP D):Prop where
 c:qH K fZ.rc
 ex:∃(f:bI) (fd:gJ) (ps:bA Str),dZ P w K mg base fF k f fd ps (wN K 0 (pX m))/\aO K fZ.rc x f/\lH K fd ps []
 ne:(x==("words" :Str))=bH/\(x==("place" :Str))=bH
def bh.no{w:cF}(M:bh P w K mg base k x m)(l:bI)(n:bG):aD x [(("words" :Str),V.ref l),("place",.int n)]=bK:=by rw[lF,M.ne.1,lF,M.ne.2];rfl
def HP(hn:fG es=bC)(hl:rg es.length 30=bC)(hline:(ap.endLine==pos.line)=bC):dX (.Call (.Attribute (.Name y py) x ap) es [] pos) env=(do
 let ov <-dX (.Name y py) env
 iu ap.atName
 let (f,first) <-c6 [ov] (qp ov x (do return (<-importBound (.Name y py) env).getD bC))
 Es pos f first (kU pos (fK es env)) (cv pos (cj [] env))):=by
 have hf:Mf (es.length+0) (kU pos (fK es env)) (cv pos (cj [] env))=bC:=by unfold Mf;rw[eI hn];have hl':es.length<30:=Du hl;show(bC&&bC&&cN (es.length+0+(if([]:bA tV).isEmpty then 0 else 1)<30))=bC;simp only[LL,qX,aA];exact mQ cI
 rw[PySem.arm_eval_Call]
 show(do
  let ov <-dX (.Name y py) env
  iu ap.atName
  methodCall (.Name y py) x ap pos env ov (es.length+0) _ _)=_
 unfold methodCall calleeOf methodCallPos;rw[hf,hline];rfl
def nk{b:bU}{ws:bA D}{k:bG}(E:hV X.K F H O Y)(hi:O[i]? =bB (.obj b (.row ws k))):∃a dx l,Y[i]? =bB (bB (.ref a))/\H a=bB (ek dx l k)/\F a=bK/\bM X.K F (.l ws) (.ref l):=by obtain⟨_,h1,a,rfl,_,n,_,h2,dx,l,rfl,h3⟩:=E.at_ i _ hi;exact⟨a,dx,l,h1,h2,n,h3⟩
def jL(i:bD)(m:bA D->bP D)(fa:MA):MX:=λO=>match O[i]? with|some (.obj _ (.row ws k))=>(fa O).bind λds=>pX m ds (.row ws k)|_=>.bad
def HQ{Q:VK}(M:bh X.prog X.w X.K X.mg X.base k x m)(qz:tX X i (jL i m fa) Y H Q):∃a dx fs,Y[i]? =bB (bB (.ref a))/\H a=bB (.ins fZ.rc dx fs)/\aD x fs=bK/\er X fa Y H λvs H1=>wN X.K 0 (pX m) (.ref a::vs++ []) H1 Q E0:=by
 obtain⟨O,F,a,p,s,E,hi,h1,q⟩:=qz;unfold jL at q;rw[hi]at q;cases s with
 |row ws n=>obtain⟨a',dx,l,z1,z2,_⟩:=nk E hi;rw[h1]at z1;cases z1;refine⟨a,dx,_,h1,z2,M.no l n,O,F,E,nh (E.ob hi h1) q λds vs F1 H1 g1 d1 q=>?_⟩;exact⟨F1,a,_,ds,[],vs,by rw[kK];rfl,rfl,(E.grow g1).tb,g1.sub,(E.ob hi h1).grow g1,d1,q⟩|_=>exact q.elim
def HR(M:bh X.prog X.w X.K X.mg X.base k x m)(hr:fY k X.A)(hv:jZ X.N X.env.scope i y)(hline:(ap.endLine==pos.line)=bC):IX X i (.Call (.Attribute (.Name y py) x ap) [] [] pos) (jL i m fP):=by
 obtain⟨f,fd,ps,F,hm,hb⟩:=M.ex;refine gN (O7 (E:=E0) (qG hv.n hv.v hv.d hv.c) M.c hm F hr hb .nil xL (HP bO bO hline)) λY H Q q=>?_
 obtain⟨a,dx,fs,h1,h2,h3,O,F,E,h4⟩:=HQ M q;exact⟨.ref a,h1,a,dx,_,rfl,h2,h3,dE h4 E.sub DatL.nil⟩
def T4(M:bh X.prog X.w X.K X.mg X.base k x m)(hr:fY k X.A)(hv:jZ X.N X.env.scope i y)(hline:(ap.endLine==pos.line)=bC)(hl:rg (e::es).length 30=bC)(hn:fG (e::es)=bC)(ha:IA X (e::es) fa):IX X i (.Call (.Attribute (.Name y py) x ap) (e::es) [] pos) (jL i m fa):=by
 obtain⟨f,fd,ps,F,hm,hb⟩:=M.ex;have h1:gE e=bH/\fG es=bC:=by unfold fG at hn;rw[lS,dB]at hn;exact⟨by simpa using hn.1,hn.2⟩
 refine gN (O6 (E:=E0) (qG hv.n hv.v hv.d hv.c) M.c hm F hr hb .nil xL ha (gC h1.1) (mN h1.2) (HP hn hl hline)) λY H Q q=>?_
 obtain⟨a,dx,fs,h1,h2,h3,h4⟩:=HQ M q;exact⟨.ref a,h1,a,dx,_,rfl,h2,h3,h4⟩
end
def AQ(n:bD)(s:Ob)(r:D×Ob)(fl:Fl):Prop:=∃O s',(fl= .rr r.1 O\/fl= .nx O/\r.1= .n)/\O[n]? =bB (.obj bC s')/\(s'=r.2\/ ∃ws k us k',s= .row ws k/\s'= .row us k'/\r.2= .row ws k')
noncomputable abbrev zW(n:bD)(ds:bA D)(s:Ob):cS:=(ds.take n).map .val++ .obj bC s::(ds.drop n).map .val
theorem HS{w:cF}{st:dN}{f:bI}{g:MS}{m:bA D->Ob->bP (D×Ob)}(F:hO K x qual st f fd)(S:lU N ps (dA st))
 (hm:∀ds s r,m ds s= .ok r->ds.length+1=ps.length/\ ∃fl,g (rG N.length (zW n ds s))= .ok fl/\AQ n s r fl)
 (hbody:∀(_:Pd) (cdv:bJ) (A:gK) (outer:bA jG) (s:bS) (H:Hp) (E:XK),fY k (A.deeper (qD qual (dA st) s.heap.objs.size f cdv))->
   mF (rY fF P w K mg base N qual (dA st) f cdv A outer s H E).nox (kM st) g):dZ P w K mg base fF (k+1) f fd ps (wN K n m):=by
 refine F.ok S (λvs H Q E h=>?_) (λcdv A outer s H vs Q E hr h=>?_)
 .obtain⟨F,a,s,ds,pre,post,rfl,_,_,_,_,dl,q⟩:=h;cases e:m ds s with
  |bad=>rw[e]at q;cases q|ok r=>
   have l1:=dl.length;have l2:=(hm ds s r e).1;simp only[cH,dC]at l1|-
   lia
 .obtain⟨F,a,s0,ds,pre,post,rfl,hl,ti,sb,ob,dl,q⟩:=h;cases e:m ds s0 with
  |bad=>rw[e]at q;cases q|ok r=>
   rw[e]at q;obtain⟨_,fl,hg,O,s',hfl,hρ,hs'⟩:=hm ds s0 r e;obtain⟨o0,ho0,k0⟩:=ob.o
   letI:Pd:=⟨a,o0⟩
   have l1:=dl.length;rw[cH,hl]at l1;have d1:DatL K F (ds.take n) pre:=by have:=sv n dl.paired;rw[List.take_left' hl]at this;exact DatL.of this
   have d2:DatL K F (ds.drop n) post:=by have:=sw n dl.paired;rw[LY hl]at this;exact DatL.of this
   have only:∀{i:bD} {p t},(zW n ds s0)[i]? =bB (.obj p t)->i=n:=λ{i p t} e=>by
    have ln:((ds.take n).map Slot.val).length=n:=by rw[cG,gk];lia
    by_cases hi:i<n
    .rw[b9 cI]at e;exact(mi e).elim
    .rw[wW cI,ln]at e;cases hk:i-n with|zero=>lia|succ j=>rw[hk,Dn]at e;exact(mi e).elim
   have S0:=Ab (N:=N) (K:=K) (Ha:=ers H a) ti (zx sb) (vD (mh (H:=H) d1) (.cons (a:=Slot.obj bC s0) (b:=V.ref a) ⟨a,rfl,λ_=>⟨rfl,λu hu=>by rw[ho0]at hu;cases hu;exact wI.refl _⟩,ob⟩ (mh d2))) (λi j p s q t e1 e2=>(only e1).trans (only e2).symm) λi p s b e1 e2=>by rw[only e1,wW cI,hl,Nat.sub_self]at e2;cases e2;exact tm
   refine⟨_,hbody ⟨a,o0⟩ cdv A outer s H E hr F (ers H a),_,F,S0,?_⟩;have fO:∀{v Y F' H'},SR K F (ers H a) F' H' O Y->bM K F' r.1 v->Q v H':=λ{v Y F' H'} S' dv=>by
    obtain⟨_,_,b,rfl,hb,r'⟩:=S'.env.at_ n _ hρ;obtain⟨rfl,lk⟩:=hb rfl;refine q v F' H' (λu u' e1 e2=>by rw[ho0]at e1;cases e1;exact lk u' e2) S'.gr ?_ dv;rcases hs' with rfl|⟨ws,k,us,k',rfl,rfl,z⟩
    .exact r'
    .rw[z];obtain⟨dx,l,rfl,dw⟩:=k0;obtain⟨o',e1,dx',l',rfl,_⟩:=r'.o;obtain⟨k2,z2⟩:=lk _ e1 dx l k rfl;cases z2;exact⟨r'.n,_,e1,dx,l,rfl,dw.mono S'.gr.fs⟩
   rw[hg];rcases hfl with rfl|⟨rfl,z⟩
   .exact λv Y F' H' S' dv=>fO S' dv
   .exact λY F' H' S'=>fO S' (by rw[z];simp only[bM])
section
variable{g h:MX}{tp:dJ}{st:dN}{v:MS}
structure eW(K:cD):Prop where
 c:qH K fZ.rc
 w:zI K fZ.rc "words"
 p:zI K fZ.rc "place"
def bi(i:bD):ME:=λO=>match O[i]? with|some (.obj _ (.row ws _))=>.ok (.l ws)|_=>.bad
def bj(i:bD):ME:=λO=>match O[i]? with|some (.obj _ (.row _ k))=>.ok (.int k)|_=>.bad
def T5(C:eW X.K)(hv:jZ X.N X.env.scope i y):IE X (.Attribute (.Name y py) "words" pos) (bi i):=gN (Fk (qG hv.n hv.v hv.d hv.c) bO) λY H Q qz=>by
 obtain⟨O,F,E,q⟩:=qz;unfold bi at q;split at q
 .rename_i p ws k hi;obtain⟨a,dx,l,h1,h2,_,h3⟩:=nk E hi;exact⟨.ref a,h1,a,_,dx,_,.ref l,rfl,h2,C.c,C.w,rfl,dE q E.sub h3⟩
 .cases q
def T6(C:eW X.K)(hv:jZ X.N X.env.scope i y):IE X (.Attribute (.Name y py) "place" pos) (bj i):=gN (Fk (qG hv.n hv.v hv.d hv.c) bO) λY H Q qz=>by
 obtain⟨O,F,E,q⟩:=qz;unfold bj at q;split at q
 .rename_i p ws k hi;obtain⟨a,dx,l,h1,h2,_⟩:=nk E hi;exact⟨.ref a,h1,a,_,dx,_,.int k,rfl,h2,C.c,C.p,rfl,dE q E.sub (by simp only[bM])⟩
 .cases q
noncomputable def HU(k:bG):bP D->bP D| .ok (.t [d,.int j])=>if j=k then .ok d else .bad|_=>.bad
def mP(i:bD)(m:bA D->bP D):ME:=λO=>match O[i]? with|some (.obj _ (.row ws k))=>HU k (m [.l ws,.int k])|_=>.bad
def T7{a:bI}(ho:H a=bB o)(nt:zK o=bC/\ ∀φ,o≠ .ext φ)(g:cL F (ers H a) F' H')(ho':H' a=bB o)(n:F' a=bK):cL F H F' H' where
 same:=λb u n q=>by
  by_cases z:b=a
  .subst z;rw[ho]at q;cases q;exact ho'
  .exact g.same b u n (by rw[lI z];exact q)
 more:=λb h=>by
  by_cases z:b=a
  .subst z;rw[ho'];simp
  .exact g.more b (by rw[lI z];exact h)
 tk:=λt=>g.tk ⟨t.1.drop ho nt,t.2⟩
 fs:=g.fs
 sub:=g.sub
 new:=λb h n'=>by
  by_cases z:b=a
  .subst z;exact n
  .exact g.new b h (by rw[lI z];exact n')
def T8(M:bh X.prog X.w X.K X.mg X.base k x m)(hr:fY k X.A)(hv:jZ X.N X.env.scope i y)(hline:(ap.endLine==pos.line)=bC):IE X (.Call (.Attribute (.Name y py) x ap) [] [] pos) (mP i m):=by
 refine gN (HR (py:=py) M hr hv hline) λY H Q qz=>?_
 obtain⟨O,F,E,q⟩:=qz;unfold mP at q;split at q
 .rename_i p ws k hi;obtain⟨a,dx,l,h1,h2,h3,h4⟩:=nk E hi;refine⟨O,F,a,p,_,E,hi,h1,?_⟩;unfold jL;rw[hi];show sJ _ _ _ _ _ (Ob.dec (.row ws k) (m [.l ws,.int k])) _;unfold HU at q;split at q
  .rename_i d j e;rw[e];split at q
   .rename_i z;subst z;intro v F' H' lk g' r' d';obtain⟨o',e1,dx',l',rfl,_⟩:=r'.o;obtain⟨_,z⟩:=lk _ _ h2 e1 dx l _ rfl;cases z;exact q v F' H' (T7 h2 ⟨rfl,λ_ z=>nomatch z⟩ g' e1 r'.n) d'
   .cases q
  .cases q
 .cases q
def iZ(i:bD)(n:bG):MS:=λO=>match O[i]? with|some (.obj p (.row ws k))=>.ok (.nx (O.set i (.row p ws (k+n))))|_=>.bad
def T9{n:bG}{c:bD}(C:eW X.K)(hv:jZ X.N X.env.scope i y):IS X (.AugAssign (.Attribute (.Name y py) "place" tp) .Add (.Constant (.int n) c cp) pos) (iZ i n):=λFa Ha=>
 mC (OW (qG hv.n hv.v hv.d hv.c) yz OY) λE Y H ⟨O,F,S,q⟩=>by
 unfold iZ at q;split at q
 .rename_i p ws k hi;obtain⟨a,dx,l,h1,h2,h3,h4⟩:=nk S.env hi;refine⟨.ref a,h1,a,_,dx,_,.int k,rfl,h2,C.c,C.p,rfl,k,n,rfl,rfl,dx,_,h2,(by show 2<1000;decide),?_⟩;refine q Y F _ (S.step hi h1 (λu u' e e' dx' l' k' z=>?_) (tq S.env.sub h3 (ek dx l (k+n))) ⟨h3,_,gY,dx,l,rfl,h4⟩);rw[h2]at e;cases e;cases z;rw[gY]at e';cases e';exact⟨_,rfl⟩
 .cases q
def pY(t:MT)(u:MS):bD->MS
 |0,_=>.bad|n+1,O=>(t O).bind λc=>if c=bC then(u O).bind λfl=>match fl with
  | .nx ρ'=>pY t u n ρ'| .ct ρ'=>pY t u n ρ'| .bk ρ'=>.ok (.nx ρ')| .rt d=>.ok (.rt d)| .rr d ρ'=>.ok (.rr d ρ')| .rn s=>.ok (.rn s)
  else .ok (.nx O)
def zX(t:MT)(u:MS):MS:=λO=>pY t u 33554432 O
def Ua{c:Expr}(hp:kf (cA X.prog X.w) X.A X.env X.xe)(hc:IT X c t)(hb:mF X body u):IS X (.While c body [] pos) (zX t u):=λFa Ha=>
 mC (NT hp hc (hb Fa Ha)) λE Y H ⟨O,F,S,q⟩=>by
 refine⟨λn Y H=>∃O F,SR X.K Fa Ha F H O Y/\kF X Fa Ha (pY t u n O) E,⟨_,O,F,S,q⟩,?_⟩;rintro n Y H ⟨O,F,S,q⟩;cases n with
 |zero=>exact q.elim|succ n=>
  refine⟨O,F,S.env,?_⟩;unfold pY at q;revert q;cases t O with
  |ok c=>
   intro q b F1 H1 g1 e1;cases(show c=b from e1);cases c with
   |true=>
    refine vB ⟨λσ' H'=>∃O F,SR X.K Fa Ha F H' O σ'/\kF X Fa Ha (pY t u n O) E,λσ' H' w=>⟨n,wp n,w⟩,O,F1,S.grow g1,?_⟩;revert q;show kF X Fa Ha ((u O).bind _) E->_;cases u O with
    |ok fl=>
     intro q;cases fl with
     |nx ρ'=>exact λY F H S=>⟨ρ',F,S,q⟩|ct ρ'=>exact λY F H S=>⟨ρ',F,S,q⟩|_=>exact q
    |bad=>exact kX
   |false=>exact vA (q Y F1 H1 (S.grow g1))
  |bad=>exact kX
abbrev sK:=cS->bP (bA D×Ob)
def nq(K:cD)(F H:Hp)(a:bI)(r:bP (bA D×Ob))(Q:bA V->Hp->Prop):Prop:=match r with| .ok r=>∀v F' H',zL H H' a->cL F (ers H a) F' H'->kE K F' H' a r.2->DatL K F' r.1 v->Q v H'| .bad=>jF
def bn(X:Cx)(i:bD)(es:bA Expr)(g:sK):Prop:=PA X es λY H Q=>∃O F a p s,hV X.K F H O Y/\O[i]? =bB (.obj p s)/\Y[i]? =bB (bB (.ref a))/\nq X.K F H a (g O) Q
def sL(g:MX):sK:=λO=>(g O).bind λr=>.ok ([r.1],r.2)
def sM(f:ME)(g:sK):sK:=λO=>(f O).bind λd=>(g O).bind λr=>.ok (d::r.1,r.2)
def HV(hs:gE e=bH)(he:IX X i e g):bn X i [e] (sL g):=ez (nT he sW (gC hs)) λY H Q qz=>by
 obtain⟨O,F,a,p,s,E,hi,h1,q⟩:=qz;refine⟨O,F,a,p,s,E,hi,h1,?_⟩;unfold sL at q;revert q;cases g O with
 |ok z=>exact λq v F' H' l g' r' d'=>q [v] F' H' l g' r' (DatL.cons d' DatL.nil)|bad=>exact kX
def HW{F1 H1:Hp}{a:bI}{s:Ob}(ob:kE K F H a s)(g:cL F H F1 H1)(l:zL H1 H' a):zL H H' a:=λu u' e e'=>by obtain⟨w,e1,k⟩:=ob.o;rw[e]at e1;cases e1;exact l u u' (g.same a u (vF k).1 e) e'
def Ub{ga:sK}(hs:gE e=bH)(he:IE X e f)(hr:bn X i es ga):bn X i (e::es) (sM f ga):=ez (nT he hr (gC hs)) λY H Q qz=>by
 obtain⟨O,F,a,p,s,E,hi,h1,q⟩:=qz;refine⟨O,F,E,?_⟩;unfold sM at q;revert q;cases f O with
 |ok d=>
  intro q v F1 H1 g1 d1;refine⟨O,F1,a,p,s,E.grow g1,hi,h1,?_⟩;revert q;show nq X.K F H a ((ga O).bind _) Q->_;cases ga O with
  |ok z=>exact λq vs F2 H2 l g2 r2 d2=>q (v::vs) F2 H2 (HW (E.ob hi h1) g1 l) ((g1.ers (E.ob hi h1)).trans g2) r2 (DatL.cons (d1.mono g2.fs) d2)|bad=>exact kX
 |bad=>exact kX
def i8(i:bD)(g:MX)(ga:sK):sK:=λO=>match O[i]? with|some (.obj p _)=>(g O).bind λr=>(ga (O.set i (.obj p r.2))).bind λrs=>.ok (r.1::rs.1,rs.2)|_=>.bad
def Uc{ga:sK}(hs:gE e=bH)(he:IX X i e g)(hr:bn X i es ga):bn X i (e::es) (i8 i g ga):=ez (nT he hr (gC hs)) λY H Q qz=>by
 obtain⟨O,F,a,p,s,E,hi,h1,q⟩:=qz;refine⟨O,F,a,p,s,E,hi,h1,?_⟩;unfold i8 at q;rw[hi]at q;revert q;show nq X.K F H a ((g O).bind _) Q->_;cases g O with
 |ok z=>
  intro q v F1 H1 l1 g1 r1 d1;have hl:i<O.length:=(rS.mp hi).1;refine⟨_,F1,a,p,z.2,E.step hi h1 l1 g1 r1,gf hl,h1,?_⟩;revert q;show nq X.K F H a ((ga (O.set i (.obj p z.2))).bind _) Q->_;cases ga (O.set i (.obj p z.2))with
  |ok y=>exact λq vs F2 H2 l2 g2 r2 d2=>q (v::vs) F2 H2 (λu u' e e'=>by obtain⟨w,e1,_⟩:=r1.o;exact(l1 u w e e1).trans (l2 w u' e1 e')) ((g1.ersR r1).trans g2) r2 (DatL.cons (d1.mono g2.fs) d2)|bad=>exact kX
 |bad=>exact kX
def HX{Q:VK}{ga:sK}{kk:bA D->bP D}{T:bA V->Hp->Prop}(hT:∀ds vs F' H',bT F' H'->DatL X.K F' ds vs->fX (bM X.K) F' H' (kk ds) (λv H2=>Q v H2)->T vs H')(qz:tX X i (λO=>(ga O).bind λr=>(kk r.1).bind λd=>.ok (d,r.2)) Y H Q):
 ∃O F a p s,hV X.K F H O Y/\O[i]? =bB (.obj p s)/\Y[i]? =bB (bB (.ref a))/\nq X.K F H a (ga O) T:=by
 obtain⟨O,F,a,p,s,E,hi,h1,q⟩:=qz;refine⟨O,F,a,p,s,E,hi,h1,?_⟩;revert q;show sJ X.K F H a s ((ga O).bind _) Q->_;cases ga O with
 |ok z=>
  intro q vs F' H' l g' r' d';refine hT z.1 vs F' H' g'.sub d' ?_;revert q;show sJ X.K F H a s ((kk z.1).bind λd=>.ok (d,z.2)) Q->_;cases kk z.1 with
  |ok d=>exact λq v F2 H2 g2 d2=>q v F2 H2 (λu u' e e'=>by obtain⟨w,e1,k⟩:=r'.o;rw[g2.same a w (vF k).1 e1]at e';cases e';exact l u _ e e1) (g'.trans g2) (r'.grow g2) d2|bad=>exact kX
 |bad=>exact kX
def sO(m:bA D->bP D)(ga:sK):MX:=λO=>(ga O).bind λr=>(m r.1).bind λd=>.ok (d,r.2)
def ix_tup{ga:sK}{c}(ha:bn X i es ga):IX X i (.Tuple es c pos) (sO cP ga):=gN (Fp ha) λY H Q q=>HX (λds vs F' H' sb dl q=>by
 unfold cP at q;split at q
 .rename_i z;exact⟨by rw[<-dl.length];exact z,λp hp=>iI q sb dl hp⟩
 .exact q.elim) q
def Ud{id:lB}{ga:sK}(hc:jE X (.type id) (sZ X m))(hg:X.env.scope.names.lookup x=bB .globalImplicit)(hm:X.mg x=bK)(hv:qT x=bB (.type id))(hn:fG (e::es)=bC)(hd:(x==("__debug__" :Str))=bH)(hnm:(x==("__name__" :Str))=bH)(ha:bn X i (e::es) ga):IX X i (.Call (.Name x p) (e::es) [] pos) (sO m ga):=by
 have h1:gE e=bH/\fG es=bC:=by unfold fG at hn;rw[lS,dB]at hn;exact⟨by simpa using hn.1,hn.2⟩
 exact gN (si hc hg hm hv ha (by simpa using hnm) hd (gC h1.1) (mN h1.2)) λY H Q q=>HX (λds vs F' H' sb dl q=>⟨F',ds,sb,dl,q⟩) q
end
def nr(n:bD)(ws:bA D)(k:bG)(ds:bA D):cS:=.row bC ws k::zO (n-1) ds
def i9(d:D)(O:cS):bP D:=match(O[0]? :bQ Slot)with|some (.obj true (.row _ k))=>.ok (.t [d,.int k])|_=>.bad
noncomputable def lW:Fl->bP D| .rr d O=>i9 d O| .nx O=>i9 .n O|_=>.bad
noncomputable def nI(np n:bD)(g:MS):bA D->bP D| .l ws:: .int k::ds=>if ds.length+1=np then(g (nr n ws k ds)).bind lW else .bad|_=>.bad
def Ue{np:bD}{g:MS}(ds:bA D)(s:Ob)(r:D×Ob)(h:pX (nI np n g) ds s= .ok r):ds.length+1=np/\ ∃fl,g (rG n (zW 0 ds s))= .ok fl/\AQ 0 s r fl:=by
 unfold pX at h;cases s with
 |row ws k=>
  have h:Ob.dec (.row ws k) (if ds.length+1=np then(g (nr n ws k ds)).bind lW else .bad)= .ok r:=h;split at h
  .rename_i hl;refine⟨hl,?_⟩;have e:rG n (zW 0 ds (.row ws k))=nr n ws k ds:=by
    unfold nr zO rG;show Slot.obj bC (.row ws k)::(ds.map .val++lX (n-(ds.map Slot.val).length.succ) .no)=_;rw[cG,Nat.sub_sub,Ms 1]
   rw[e];cases hg:g (nr n ws k ds)with
   |bad=>rw[hg]at h;cases h|ok fl=>
    rw[hg]at h;refine⟨fl,rfl,?_⟩;have key:∀d O,Ob.dec (.row ws k) (i9 d O)= .ok r->r.1=d/\ ∃us k',O[0]? =bB (.obj bC (.row us k'))/\r.2= .row ws k':=λd O z=>by
     unfold i9 at z;split at z
     .rename_i us k' hi;cases z;exact⟨rfl,us,k',hi,rfl⟩
     .cases z
    cases fl with
    |rr d O=>obtain⟨e1,us,k',e2,e3⟩:=key d O h;exact⟨O,_,.inl (by rw[e1]),e2,.inr ⟨ws,k,us,k',rfl,rfl,e3⟩⟩|nx O=>obtain⟨e1,us,k',e2,e3⟩:=key .n O h;exact⟨O,_,.inr ⟨rfl,e1⟩,e2,.inr ⟨ws,k,us,k',rfl,rfl,e3⟩⟩|_=>cases h
  .cases h
 |tab T=>cases h|l xs=>exfalso;revert h;show Ob.dec (.l xs) _=_->_;unfold Ob.dec;intro h;split at h<;>cases h;all_goals (rename_i z _;cases z)
def nu(i:bD)(p:bU)(js:bA bD)(g:MX)(O:cS):bA D->Ob->bP (bA D×Ob):=rJ (λ_=>.ok bC) (λY _=>g Y) λs=>lL js (O.set i (.obj p s))
noncomputable def AR:Ob->bU| .row _ _=>bC|_=>bH
def HY{s:Ob}(h:AR s=bC)(k:s.ho K F o):∃dx l n,o=ek dx l n:=by
 cases s with
 |row ws n=>obtain⟨dx,l,rfl,_⟩:=k;exact⟨dx,l,n,rfl⟩|_=>cases h
def Uf{s:Ob}{dx:bI}{n:bG}(k:s.ho K F (ek dx l n)):AR s=bC:=by
 cases s with
 |row ws n=>rfl|l ds=>obtain⟨_,z,_⟩:=k;cases z|tab T=>obtain⟨_,z,_⟩:=k;cases z
section
variable{js:bA bD}{g:MX}{ii:bD}
def Ug{ri:bD}{a:bI}{pb:bU}{s0:Ob}(nd:js.Nodup)(Ev:hV X.K F2 H2 O Y)(hri:O[ri]? =bB (.obj pb s0))(hra:Y[ri]? =bB (bB (.ref a)))(hj:js[ii]? =bB ri)
 (hg:∀C fp s H E,IX (mG X ([x]++caps) scope C fp s H E) (ii+1) elt g):Am X [x] caps js scope elt Y F2 H2 (λs=>lL js (O.set ri (.obj pb s))) (λY _=>g Y) (λs F H=>zL H2 H a/\cL F2 (ers H2 a) F H/\kE X.K F H a s/\AR s=bC)where
 sm:=λg=>⟨g.2.1.fs,g.2.1.sub⟩
 up:=λ{x F H F' H'} g h=>⟨λu u' e e'=>by obtain⟨w,e1,k⟩:=g.2.2.1.o;rw[h.same a w (vF k).1 e1]at e';cases e';exact g.1 u _ e e1,g.2.1.trans h,g.2.2.1.grow h,g.2.2.2⟩
 ac:=λ{x F H b vs} vs' g h1 h2 h3=>by
  have na:a≠b:=λz=>(Ev.ob hri hra).some (by rw[z];exact h1)
  obtain⟨w,e1,k⟩:=g.2.2.1.o;exact⟨λu u' e e'=>by rw[fH na]at e';exact g.1 u u' e e',⟨λb o nt q=>by rw[fH (sU (sX q) h1)];exact g.2.1.same b o nt q,F5 g.2.1.more _ _,λti=>⟨(g.2.1.tk ti).1.updL h2 _,(g.2.1.tk ti).2⟩,g.2.1.fs,l8 g.2.1.sub h3 _,g.2.1.new⟩,⟨g.2.2.1.n,w,by rw[fH na];exact e1,k⟩,g.2.2.2⟩
 env:=λg h d=>GO nd d (Ev.step hri hra g.1 g.2.1 g.2.2.1) h
 run:=λ{C fp s0' H0 E pc s F H es vz kk} I lz le gr Ee nb=>by
  have hil:ri<O.length:=(rS.mp hri).1
  match es,le,vz,lz with
  | [d0],_,[v0],_=>
  have hin:([d0].map Slot.val++lL js (O.set ri (.obj pb kk)))[ii+1]? =bB (.obj pb kk):=by show(lL js (O.set ri (.obj pb kk)))[ii]? =_;unfold lL;rw[pB,hj];show bB (uh ((O.set ri (.obj pb kk)).getD ri .no))=_;rw[rR,gf hil];rfl
  have hsv:([v0].map bB++lM js Y)[ii+1]? =bB (bB (.ref a)):=by show(lM js Y)[ii]? =_;unfold lM;rw[pB,hj];show bB (Y.getD ri bK)=_;rw[rR,hra];rfl
  refine cT (hg C fp s0' H0 E pc s _ H (λv H'=>∃y F',g ([d0].map .val++lL js (O.set ri (.obj pb kk)))= .ok y/\zL H H' a/\cL F (ers H a) F' H'/\kE X.K F' H' a y.2/\bM X.K F' y.1 v) I ⟨_,F,a,pb,kk,Ee,hin,hsv,?_⟩) λu s1 qz=>?_
  .cases e:g ([d0].map .val++lL js (O.set ri (.obj pb kk)))with|ok y=>exact λv F' H' l g' r' d'=>⟨y,F',rfl,l,g',r',d'⟩|bad=>exact nb e
  .obtain⟨v,H1,I1,r1,y,F',e,l,g',rr,d'⟩:=qz;obtain⟨w,e1,k⟩:=gr.2.2.1.o;obtain⟨dx,ll,n,rfl⟩:=HY gr.2.2.2 k;obtain⟨w',e2,k'⟩:=rr.o;obtain⟨n',rfl⟩:=l _ w' e1 e2 dx ll n rfl;refine⟨v,H1,I1,r1,y.1,y.2,F',e,⟨λu u' e e'=>(gr.1 u _ e e1).trans (l _ u' e1 e'),(gr.2.1.ersR gr.2.2.1).trans g',rr,Uf k'⟩,g'.fs,λb vs h1 h2=>?_,d'⟩;have na:b≠a:=λz=>by rw[z,e1]at h1;cases h1
   exact⟨g'.same b _ rfl (by rw[lI na];exact h1),g'.new b h2 (by rw[lI na,h1];simp)⟩
def ja(i:bD)(js:bA bD)(fl:ML)(g:MX):MX:=λO=>match O[i]? with|some (.obj p (.row ws k))=>(fl O).bind λds=>if ds.length<=cJ then(nu i p js g O ds (.row ws k)).bind λr=>.ok (.l r.1,r.2)else .bad|_=>.bad
def Uh(S:qK X scope [x] caps js)(hc:X.calm=bC)(hi:II X (.Name x px) iter fl)(hj:js[ii]? =bB i)(hg:∀C fp s H E,IX (mG X ([x]++caps) scope C fp s H E) (ii+1) elt g)
 (hs:∀x,ar iter X.env x=fE x):IX X i (.ListComp elt [⟨.Name x px,iter,[],0⟩] scope pos) (ja i js fl g):=by
 intro pc s Y H Q I qz;obtain⟨O,F,a,p,s0,Ev,hri,h1,q⟩:=qz;rw[eval_ListComp];refine KR (use:=bK) rfl hs (GQ S I) S.kind S.names ?_;unfold ja at q;rw[hri]at q;cases s0 with
 |l _=>exact q.elim|tab _=>exact q.elim|row ws k=>
 dsimp only at q
 have hiter:=hi pc s Y H (λJ H2=>∃F2 ds,fl O= .ok ds/\cL F H F2 H2/\rH X.K F2 J ds) I ⟨O,F,Ev,by
  cases hf:fl O with
  |ok ds=>exact λJ F' H' g' io=>⟨F',ds,rfl,g',io⟩
  |bad=>rw[hf]at q;exact q⟩
 refine lT hiter (λv s1 h1'=>lT h1' (λitv s2 h2=>?_) λ_ _ e=>e) λ_ _ e=>e
 obtain⟨it,fp,tn,J,H2,rfl,I2,T,t0,f2,F2,ds,hf,g2,io⟩:=h2;rw[hf]at q;have q':sJ X.K F H a (.row ws k) (if ds.length<=cJ then(nu i p js g O ds (.row ws k)).bind λr=>.ok (.l r.1,r.2)else .bad) Q:=q;have ob:=Ev.ob hri h1;split at q'
 .rename_i hlen;refine GP (GG:=λY _=>g Y) (RR:=λacc C=>Ez (cA X.prog X.w) X.A X.xe bK (EP X pc Y Q) acc C) S hc I2 T (Ap (p:=λ_=>.ok bC) (g:=λ_=>.bad) S) t0 f2 io g2.sub (λ_ _ _ _ _=>Av) (Ug S.js (Ev.grow g2) hri h1 hj hg) (λr x e=>by cases e;rfl) ⟨λu u' e e'=>by rw[e]at e';cases e';exact wI.refl u,zx g2.sub,ob.grow g2,rfl⟩ rfl (λz=>?_) hlen ?_
  .have z:nu i p js g O ds (.row ws k)= .bad:=z;rw[z]at q';exact q'
  rintro Dd C s' H' F' vs m' ys k1 hR hD2 ⟨lk,gr,rr,ir⟩ fD hD dl hn hback hfp;have hR:nu i p js g O ds (.row ws k)= .ok (ys,k1):=hR;rw[hR]at q';have q2:sJ X.K F H a (.row ws k) (.ok (.l ys,k1)) Q:=q';refine⟨m',hn,λh' hs'=>⟨.ref Dd,H',hback h' hs',rfl,?_⟩⟩;obtain⟨w,e1,kk⟩:=rr.o;obtain⟨dx,ll,n,rfl⟩:=HY ir kk;have na:Dd≠a:=λz=>by rw[z,e1]at hD;cases hD
  have hDe:ers H2 a Dd=bK:=by rw[lI na];exact hD2
  refine q2 (.ref Dd) (upd F' Dd (.l vs)) H' (HW ob g2 lk) (GR (g2.ers ob) hDe gr fD hD) ⟨?_,_,e1,tu (nU fD _) kk⟩ ?_
  .rw[fH na.symm];exact rr.n
  .simp only[bM];exact⟨Dd,vs,rfl,gS.of gY,dl.mono (nU fD _)⟩
 .exact q'.elim
end
section
variable{a b c o:Expr}{g h:ME}{p2:dJ}
end
def bo:D->bP (bA D)
 | .str t=>match eF t [.str " "]with
  | .ok (.l ws)=>.ok ws|_=>.bad
 |_=>.bad
def HZ(K:cD):Sp:=λvs H Q _=>∃F x dx d v ws,vs= [.ref x,v]/\pH F H/\bT F H/\H x=bB (.ins fZ.rc dx [])/\F x=bK/\bM K F d v/\bo d= .ok ws/\ ∀F' H',cL F (ers H x) F' H'->kE K F' H' x (.row ws 0)->Q .n H'
theorem Ui{w:cF}{st:dN}{f:bI}{s t:Str}{p2 p3 p4 p5 p6 p7 p8 p9 q1 q2:dJ}{c c':bD}(F:hO K x qual st f fd)(S:lU [s,t] [s,t] (dA st))(C:eW K)
 (hb:kM st= [.Assign [.Attribute (.Name s p1) "words" p2] (.Call (.Attribute (.Name t p3) "split" p4) [.Constant (.str " ") c p5] [] p6) p7,.Assign [.Attribute (.Name s p8) "place" p9] (.Constant (.int 0) c' q1) q2])
 (hs:jZ [s,t] (dA st) 0 s) (ht:jZ [s,t] (dA st) 1 t) (hl:(p4.endLine==p6.line)=bC):dZ P w K mg base fF (k+1) f fd [s,t] (HZ K):=by
 refine F.ok S (λvs H Q E h=>?_) (λcdv A outer s' H vs Q E hr h=>?_)
 .obtain⟨F,x,dx,d,v,ws,rfl,_⟩:=h;rfl
 .obtain⟨F,x,dx,d,v,ws,rfl,ti,sb,hx,fx,dv,hw,q⟩:=h;rw[hb];refine⟨_,ER (Fm (qG hs.n hs.v hs.d hs.c) (G7 pi K6 G0 rfl rfl hl rfl (jU ht) (mH rfl (G5 rfl) pI)) rfl) (ES (Fm (qG hs.n hs.v hs.d hs.c) yz rfl)),?_⟩;cases d with
  |str z=>
   unfold bo at hw;dsimp only at hw;split at hw
   .rename_i ws' e;cases hw;refine⟨[.no,.val (.str z)],F,⟨ti,sb,rfl,λi sl e=>?_,λi j p s q t a n e1 e2=>?_⟩,?_⟩
    .rcases i with _|_|i
     .cases e;exact⟨_,rfl,trivial⟩
     .cases e;exact⟨_,rfl,v,rfl,dv⟩
     .cases e
    .rcases i with _|_|i<;>cases e1
    .show fX (bM K) F H (eF z [.str " "]) _;rw[e];intro v1 F1 H1 g1 d1;simp only[bM]at d1;obtain⟨l,xs,rfl,sq,dl⟩:=d1;have hx1:H1 x=bB (.ins fZ.rc dx []):=g1.same _ _ rfl hx;have fx1:F1 x=bK:=g1.new _ fx (by rw[hx];simp);refine⟨.ref x,rfl,x,_,dx,[],rfl,hx1,C.c,C.w,jB,?_⟩;refine⟨.ref x,rfl,x,_,dx,_,rfl,gY,C.c,C.p,(by show 1<1000;decide),?_⟩;rw[Nl];refine q F1 _ ⟨λb u n e=>?_,λb h=>?_,λt=>?_,g1.fs,l8 g1.sub fx1 _,λb h n=>g1.new b h (xO n).2⟩ ⟨fx1,_,gY,dx,l,rfl,by simp only[bM];exact⟨l,xs,rfl,sq,dl⟩⟩
     .rw[fH (aU e)];exact g1.same b u n (sX e)
     .rw[fH (xO h).1];exact g1.more b (xO h).2
     .have t1:=g1.tk ⟨t.1.same λb u q=>sX q,t.2⟩;exact⟨(t1.1.drop hx1 ⟨rfl,λ_ z=>nomatch z⟩).same λb u q=>by rw[fH (aU q)];exact sX q,t1.2⟩
   .cases hw
  |_=>cases hw
structure AS(P:fM)(w:cF)(K:cD)(mg:Str->bQ bJ)(base:cB)(k:bD)(x:Str):Prop where
 ex:∃(f:bI) (fd:gJ) (ps:bA Str),dZ P w K mg base fF k f fd ps (HZ K)/\mg x=bB (.ref fZ.rc)/\Mk K fZ.rc f/\lH K fd ps []
def nv(f:ME):MN:=λO=>(f O).bind λd=>(bo d).bind λws=>.ok (.row ws 0)
def Uj(C:AS X.prog X.w X.K X.mg X.base k y)(hr:fY (k+1) X.A)(hg:X.env.scope.names.lookup y=bB .globalImplicit)(hd:(y==("__debug__" :Str))=bH)(hst:gE e=bH)(he:IE X e f):IN X (.Call (.Name y py) [e] [] cp) (nv f):=by
 obtain⟨fn,fd,ps,Fn,hm,M,hb⟩:=C.ex;refine gN (O9 (E:=E0) M Fn hr hg hm hb .nil xL (nT he sW (gC hst)) hd (gC hst) bO) λY H Q ⟨O,F,E,q⟩=>⟨O,F,E,eQ q λd v F1 H1 g1 d1 q=>?_⟩
 intro a dx ha hdx ne;cases hw:bo d with
 |bad=>rw[hw]at q;cases q|ok ws=>
  rw[hw]at q;have E1:=E.grow g1;have gA:=cL.laidN E1.sub hdx (.own a);have ha2:upd H1 dx (.own a) a=bK:=by rw[fH ne.symm];exact ha
  have gB:=cL.laidN gA.sub ha2 (.ins fZ.rc dx []);have hers:ers (upd (upd H1 dx (.own a)) a (.ins fZ.rc dx [])) a=upd H1 dx (.own a):=by
   funext b;unfold ers;split
   .rename_i z;rw[z,ha2]
   .rename_i z;rw[fH z]
  refine⟨F1,a,dx,d,v,ws,rfl,((E1.grow gA).grow gB).tb,gB.sub,gY,bT.free E1.sub ha,d1,hw,λF' H' g' r'=>⟨rfl,?_⟩⟩;rw[hers]at g';exact q a F' H' (gA.trans g') ha r'
noncomputable def yE:bA D->bP D
 | [.int i]=>.ok (.int i)| [.b b]=>.ok (.int (if b then 1 else 0))
 | [.str z]=>(match Mg z with
  |some n=>if z.length<=640 then .ok (.int n)else .bad
  |none=>.bad)
 |_=>.bad
def Uk:jE X (.type "int") (sZ X yE):=by
 intro pc s Y H xs us Q I r h;obtain⟨F,ds,sb,hl,q⟩:=h;unfold yE at q;split at q
 .obtain⟨x,rfl,hx⟩:=mM hl;simp only[bM]at hx;subst hx;exact Fb pc s Y H _ us Q I r (.inl ⟨_,rfl,dE q sb (by simp only[bM])⟩)
 .obtain⟨x,rfl,hx⟩:=mM hl;simp only[bM]at hx;subst hx;exact Fb pc s Y H _ us Q I r (.inr ⟨_,rfl,dE q sb (by simp only[bM])⟩)
 .obtain⟨x,rfl,hx⟩:=mM hl;simp only[bM]at hx;obtain⟨rfl,_⟩:=hx;obtain⟨u,rfl,t,rfl⟩:=pG r;split at q
  .rename_i n hn;split at q
   .rename_i hz;exact W.KIN.call_text hn hz ⟨.int n,H,I.tok _,⟨_,rfl⟩,dE q sb (by simp only[bM])⟩
   .cases q
  .cases q
 .cases q
end
section
variable{w:cF}
def Ul:Ec (.type "tuple") "keys" =fE bK:=by rw[typeLookup_type,builtinLookup_eq_fast];kernel_rfl
theorem Um{a:bI}{xs:fQ bJ}{Q:bQ bJ->bS->Prop}(hx:s.heap.get? a=bB ⟨.type "tuple",bK,.seq xs k,sl⟩)(hA:A.handled=bK)
 (h:∀h' tk,(∀b o,s.heap.get? b=bB o->h'.get? b=bB o)->Q bK {s with heap:=h',toks:=tk}):wpAny (cA prog w) A (getAttr? (.ref a) "keys") Q E s:=by
 obtain⟨hp,g,d,tk,os⟩:=s;have hT:∀tk',(⟨hp,g,d,tk',os⟩:bS).TypeIs (.ref a) "tuple" :=λ_=>⟨_,hx,rfl⟩
 have f1:=sub_AttributeError;have f3:=F.slot_tuple_getattribute.lookup;have f4:=F.slot_tuple_getattribute.bind (.ref a);have f5:=am_tuple_getattr_none;unfold getAttr? getAttrBy?;unfold getAttrBy
 repeat (any_goals (first|assumption|exact hT _| ((with_reducible show wpAny _ _ (call (Value.builtin "tuple.__getattribute__") _ _) _ _ _);refine cr F.slot_tuple_getattribute (hT _) am_entry_tuple_getattribute (F.args_tuple_getattribute_2 _ _) (meets_getattribute_miss_tuple a xs k sl "keys" _ Ul tY) ⟨hx,hA,λh' tk' e hx'=>?_⟩)|wp_step))
 obtain⟨t',u',he⟩:=hx'.there;show wpAny _ _ (Lx _ _ _ _ _ _ _) _ _ _;unfold Lx
 repeat (any_goals (first|assumption|wp_step))
 exact h _ _ hx'.keeps
def uD:plainId "dict.update.loop" =bC:=tY
def Ia:entryFor table "dict.update.loop" =bB iy.«dict.update.loop» :=entryFor_of_tree nQ
variable{κ:Type} [xj κ]{knd:KeyKind prog w κ}
def jb(knd:KeyKind prog w κ)(h:cB)(its:fQ bJ)(more:bA (κ×bJ)):Prop:=its.size=more.length/\ ∀(j:bD) k v,more[j]? =bB (k,v)->∃p key,its[j]? =bB (.ref p)/\h.IsTuple p #[key,v]/\knd.is k key=bC
def jb.keep{more:bA (κ×bJ)}(x:jb knd h its more)(k:∀p o,h.get? p=bB o->o.cls= .type "tuple" ->h'.get? p=bB o):jb knd h' its more:=
 ⟨x.1,λj a b e=>let ⟨p,key,h1,⟨o,h2,h3,h4⟩,h5⟩:=x.2 j a b e;⟨p,key,h1,⟨o,k p o h2 h3,h3,h4⟩,h5⟩⟩
def AT{d:bI}{kvs:bA (κ×bJ)}(x:h.DictOf knd d kvs){o:cQ}(e:h.get? d=bB o)(c:o.cls= .type "tuple" \/o.cls= .type "tuple_iterator"):jF:=by obtain⟨o',es,ep,e1,e2,_⟩:=x;rw[e]at e1;cases e1;rcases c with c|c<;>rw[e2.1]at c<;>injection c with c<;>exact dD c jB
def Uo{R:ko->bS->Prop}(hh:A.handled=bK){d it t:bI}{more:bA (κ×bJ)}(hm:more.length<=1000):∀(m i:bD) (s:bS) (kvs:bA (κ×bJ)),its.size-i=m->i<=its.size->
 s.heap.IsTupleIter it t i->s.heap.IsTuple t its->s.heap.DictOf knd d kvs->jb knd s.heap its more->kvs.length<=i->
 (∀h' tk,h'.DictOf knd d (yu kvs (more.drop i))->(∀b o,b≠d->b≠it->s.heap.get? b=bB o->h'.get? b=bB o)->R (.ok (.ret .none)) {s with heap:=h',toks:=tk})->
 codeAny (cA prog w) A (.builtin "dict.update.loop" ⟨[.ref d,.ref it,mV i,.none],[]⟩) R s:=by
 have hz:=sR;intro m;induction m with
 |zero=>
  intro i s kvs hk hi hit ht hd hp hl hR;refine qa Ia ?_;rw[wg uD _];have hx:its[i]? =bK:=Ds cI;show wpAny _ A.in1 (xH (.ref it)>>=_) _ _ s;refine bV (K3 hh hit ht hx λh' hs=>?_);have e0:more.drop i= []:=wc (by rw[<-hp.1];lia);rw[e0]at hR;have hdi:d≠it:=λz=>by obtain⟨o,h1,h2,_⟩:=hit;exact AT hd (z▸h1) (.inr h2)
  exact bV (dM (dM (hR h' s.toks (hd.extBut hs hdi) λb o _ h2 e=>hs b o h2 e)))
 |succ m ih=>
  intro i s kvs hk hi hit ht hd hp hl hR;have hlt:i<its.size:=cI;refine qa Ia ?_;rw[wg uD _];obtain⟨⟨k,v⟩,hmi⟩:∃x,more[i]? =bB x:=⟨more[i]'(by rw[<-hp.1];exact hlt),nO _⟩;obtain⟨p,key,h1,h2,h3⟩:=hp.2 i k v hmi;show wpAny _ A.in1 (xH (.ref it)>>=_) _ _ s;refine bV (KZ hit ht h1 λh' hit' hs=>?_);have hdi:d≠it:=λz=>by obtain⟨o,h1,h2,_⟩:=hit;exact AT hd (z▸h1) (.inr h2)
  have tup:∀q o,s.heap.get? q=bB o->o.cls= .type "tuple" ->q≠it:=λq o e c z=>by obtain⟨o',h1,h2,_⟩:=hit;rw[z,h1]at e;cases e;rw[h2]at c;injection c with c;exact dD c jB
  have k1:∀q o,s.heap.get? q=bB o->o.cls= .type "tuple" ->h'.get? q=bB o:=λq o e c=>hs.extBut _ _ (tup q o e c) e
  have ht':h'.IsTuple t its:=let ⟨o,a,b,c⟩:=ht;⟨o,k1 _ _ a b,b,c⟩;have hp':jb knd h' its more:=hp.keep k1;have hd':h'.DictOf knd d kvs:=hd.extBut hs.extBut hdi;obtain⟨op,hop,hcp,np,hdp⟩:=(let ⟨o,a,b,c⟩:=h2;⟨o,k1 _ _ a b,b,c⟩:h'.IsTuple p #[key,v]);have hT:({s with heap:=h'}:bS).TypeIs (.ref p) "tuple" :=⟨op,hop,hcp⟩;refine bV (j8 ?_);refine bV (wpAny_tryCatch ?_);unfold XI;refine bV (qf hT ?_);rw[cK jB];refine bV (ay hop hdp (dM ?_));show wpAny _ _ (c6 [key,v] (dictSet d key v)) _ _ _;refine j8 (wpAny_dictSet_pairs (s:={s with heap:=h'}) h3 hd' (λh2' hd2 hs2=>?_) (by have:=hp.1;lia));refine dM ⟨DW uD _,?_⟩;have tup2:∀q o,h'.get? q=bB o->(o.cls= .type "tuple" \/o.cls= .type "tuple_iterator")->h2'.get? q=bB o:=λq o e c=>hs2.extBut _ _ (λz=>AT hd' (z▸e) c) e
  have ht2:h2'.IsTuple t its:=let ⟨o,a,b,c⟩:=ht';⟨o,tup2 _ _ a (.inl b),b,c⟩;have hit2:h2'.IsTupleIter it t (i+1):=let ⟨o,a,b,c⟩:=hit';⟨o,tup2 _ _ a (.inr b),b,c⟩;have e1:more.drop i=(k,v)::more.drop (i+1):=by obtain⟨hlt',e⟩:=rS.mp hmi;rw[v7 hlt',e]
  have:=ih (i+1) {s with heap:=h2',toks:=s.toks+1} (yt kvs k v) cI hlt hit2 ht2 hd2 (hp'.keep λq o e c=>tup2 q o e (.inl c)) (jS (stored_length_le kvs k v) cI) λh3' tk hd3 hk3=>by refine hR h3' tk (by rw[e1];exact hd3) λb o n1 n2 e=>hk3 b o n1 n2 (hs2.extBut _ _ n1 (hs.extBut _ _ n2 e))
  exact this
theorem Up{t:bI}{more:bA (κ×bJ)}(hh:A.handled=bK)(ht:s.heap.get? t=bB ⟨.type "tuple",bK,.seq its n,sl⟩)(hp:jb knd s.heap its more)(hm:more.length<=1000)
 (h:∀h' tk,h'.DictOf knd s.heap.objs.size (yu [] more)->(∀b o,s.heap.get? b=bB o->h'.get? b=bB o)->Q (.ref s.heap.objs.size) {s with heap:=h',toks:=tk}):
 wpAny (cA prog w) A (call (.type "dict") [.ref t]) Q E s:=by
 refine callType_codes (Q₁:=λobj s₁=>obj= .ref s.heap.objs.size/\s₁={s with heap:=s.heap.push {cls:=.type "dict",data:=.dict #[]}}) F.kt_called_dict (F.kt_typeCall_dict_1 _) F.entry_dict_init (kt_code_dict_new _ ⟨rfl,rfl⟩) ?_;rintro obj s₁ ⟨rfl,rfl⟩;have hnew:(s.heap.push {cls:=.type "dict",data:=.dict #[]}).DictOf knd s.heap.objs.size []:=LU s.heap;have ht1:(s.heap.push {cls:=.type "dict",data:=.dict #[]}).get? t=bB ⟨.type "tuple",bK,.seq its n,sl⟩:=fC _ ht;have hT:({s with heap:=s.heap.push {cls:=.type "dict",data:=.dict #[]}}:bS).TypeIs (.ref t) "tuple" :=⟨_,ht1,rfl⟩;refine⟨hnew.typeIs,F.args_dict_init_2 _ _,?_⟩;unfold iy.«dict.__init__»;refine bV ?_;unfold XB;refine bV (wpAny_notOrdered_dict hnew.typeIs ?_);show wpAny _ _ (fE (s.heap.objs.size,[jT t])) _ _ _;refine dM ?_;show wpAny _ _ (K1 "dict.__init__" s.heap.objs.size (.ref t) [] .none) _ _ _;unfold K1;refine bV (qf hT ?_);rw[cK jB];refine bV (Um (s:={s with heap:=s.heap.push {cls:=.type "dict",data:=.dict #[]}}) ht1 hh λh1 tk1 k1=>?_);rw[cK (by rfl)];refine bV (qi ?_);have ht2:h1.IsTuple t its:=⟨_,k1 _ _ ht1,rfl,n,rfl⟩;refine bV (gi (s:={s with heap:=h1,toks:=tk1}) ht2 ?_);have k2:∀b o,s.heap.get? b=bB o->(h1.push {cls:=.type "tuple_iterator",data:=.fields #[.ref t,mV 0]}).get? b=bB o:=λb o e=>fC _ (k1 _ _ (fC _ e))
 refine dM ⟨DW uD _,?_⟩;refine Uo (more:=more) (its:=its) (t:=t) (it:=h1.objs.size) (d:=s.heap.objs.size) (knd:=knd) (A:=A.in1) hh hm its.size 0 _ [] rfl (mK _) ⟨_,lA _ rfl,rfl,rfl⟩ ⟨_,k2 _ _ ht,rfl,n,rfl⟩ ?_ (hp.keep λq o e _=>k2 q o e) (mK _) λh' tk hd hk=>?_
 .obtain⟨o,es,ep,e1,r⟩:=hnew;exact⟨o,es,ep,fC _ (k1 _ _ e1),r⟩
 .have lt:s.heap.objs.size<h1.objs.size:=let ⟨_,_,_,e1,_⟩:=hnew;fU (k1 _ _ e1);exact⟨rfl,h h' tk hd λb o e=>hk b o (gX (fU e)) (gX (Mo (fU e) lt)) (k2 b o e)⟩
end
section
open PySem PySem.Spec PyProof.Rows PySem.W L2
variable [fZ] [Pd]
noncomputable def yF(T:Tab)(k:Str)(d:D):Tab:=if(T.any λp=>cN (p.1=k))=bC then T.map (λp=>if p.1=k then(p.1,d)else p)else T++ [(k,d)]
section
variable{T:Tab}
def jN.any(h:jN K F T kvs)(k:Str):(kvs.any λkv=>cN (kv.1= .inr k))=T.any λp=>cN (p.1=k):=by
 unfold jN at h;induction h with
 |nil=>rfl| @cons p q ps qs h t ih=>rw[az,az,ih,h.1];congr 1;by_cases e:p.1=k<;>simp[e]
def jN.put(h:jN K F T kvs){k:Str}{d:D}(hd:bM K F d v):jN K F (yF T k d) (pV kvs (.inr k) v):=by
 unfold yF pV;rw[h.any k];split
 .rename_i z;clear z;unfold jN at h|-;induction h with
  |nil=>exact .nil| @cons p q ps qs h t ih=>
   rw[dY,dY];refine .cons ?_ ih;obtain⟨h1,h2⟩:=h;by_cases e:p.1=k
   .rw[cK e,cK (by rw[h1,e])];exact⟨h1,hd⟩
   .rw[dH e,dH (by rw[h1];exact Af e)];exact⟨h1,h2⟩
 .exact vD h (.cons ⟨rfl,hd⟩ .nil)
end
noncomputable def pairsOf:bA D->bQ Tab| []=>bB []| .t [.str k,v]::r=>(pairsOf r).map ((k,v):: ·)|_=>bK
def AU(T ps:Tab):Tab:=ps.foldl (λT p=>yF T p.1 p.2) T
def jN.merge{ps:Tab}{more:bA (dO×V)}(h:jN K F ps more):∀{T:Tab} {kvs:bA (dO×V)},jN K F T kvs->jN K F (AU T ps) (iG kvs more):=by
 unfold jN at h;induction h with
 |nil=>exact kX| @cons p q ps qs h t ih=>intro T kvs d;have h1:=d.put (k:=p.1) h.2;rw[<-h.1]at h1;exact ih h1
theorem Ic:∀{ds:bA D} {xs:bA V} {ps:Tab},pairsOf ds=some ps->DatL K F ds xs->∃kvs,jN K F ps kvs/\kD (λ(x:V) (kv:dO×V)=>∃b,x= .ref b/\jH K F b [kV kv.1,kv.2]) xs kvs
 | [],xs,ps,h,l=>by simp only[DatL]at l;subst l;cases h;exact⟨[],.nil,.nil⟩|d::ds,xs,ps,h,l=>by
  unfold pairsOf at h;split at h
  .rename_i e1;exact dD e1 cO
  .rename_i k v r e;cases e;cases hr:pairsOf ds with|none=>rw[hr]at h;cases h|some T=>rw[hr]at h;cases h;simp only[DatL]at l;obtain⟨x,xs,rfl,hd,hl⟩:=l;obtain⟨kvs,h1,h2⟩:=Ic hr hl;simp only[bM]at hd;obtain⟨b,ys,rfl,hb,hy⟩:=hd;simp only[DatL,bM]at hy;obtain⟨_,_,rfl,⟨rfl,_⟩,y,_,rfl,hy,rfl⟩:=hy;exact⟨(.inr k,y)::kvs,.cons ⟨rfl,hy⟩ h1,.cons ⟨b,rfl,hb⟩ h2⟩
  .cases h
noncomputable def tDrop(T:Tab)(k:Str):Tab:=T.filter λp=>cN (p.1≠k)
def jN.drop{T:Tab}(h:jN K F T kvs)(k:Str):jN K F (tDrop T k) (vC kvs (.inr k)):=by
 unfold jN at h;induction h with
 |nil=>exact .nil| @cons p q ps qs h t ih=>
  by_cases e:p.1=k
  .have e1:tDrop (p::ps) k=tDrop ps k:=by simp[tDrop,pQ,e]
   rw[e1,Qf (by rw[h.1,e])];exact ih
  .have e1:tDrop (p::ps) k=p::tDrop ps k:=by simp[tDrop,pQ,e]
   rw[e1,Qg (by rw[h.1];exact Af e)];exact .cons h ih
section
variable{value:Expr}{g:ME}{p2 pos':dJ}
def Uq:jE X (.type "dict") λvs H Q=>∃a kvs,vs= [.ref a]/\H a=bB (.dK kvs)/\ ∀p,H p=bK->Q (.ref p) (upd H p (.dK kvs)):=by
 intro pc s Y H xs us Q I r h;obtain⟨a,kvs,rfl,e,q⟩:=h;cases r with
 |cons h1 t=>cases t;cases h1;exact Qd I (.inl e) λp s' hp I'=>⟨.ref p,_,I',rfl,q p hp⟩
def Ur(hc:X.calm=bC):jE X (.type "dict") λvs H Q=>∃a xs kvs,vs= [.ref a]/\jH X.K H a xs/\kD (λ(x:V) (kv:dO×V)=>∃b,x= .ref b/\jH X.K H b [kV kv.1,kv.2]) xs kvs/\kvs.length<=1000/\ ∀l,H l=bK->Q (.ref l) (upd H l (.dK (iG [] kvs))):=by
 intro pc s Y H xs us Q I r h;obtain⟨a,xs,kvs,rfl,hq,hp,hl,q⟩:=h;obtain⟨u,rfl,ru⟩:=pG r;cases ru;obtain⟨its,rv,⟨o,ho,⟨hcl,hdn⟩,n,hdat⟩,hz⟩:=I.tupleN hq
 have key:∀(xs:bA V) (kvs:bA (dO×V)) (its:bA bJ),kD (λ(x:V) (kv:dO×V)=>∃b,x= .ref b/\jH X.K H b [kV kv.1,kv.2]) xs kvs->cW xs its->
  ∃more,KV kvs more/\its.length=more.length/\ ∀(j:bD) k v,more[j]? =bB (k,v)->∃p ky,its[j]? =bB (.ref p)/\s.heap.IsTuple p #[ky,v]/\(jX X.prog X.w).is k ky=bC:=by
  intro xs kvs its hp;induction hp generalizing its with
  |nil=>intro rv;cases rv;exact⟨[],.nil,rfl,λj k v e=>by simp at e⟩
  | @cons x kv xs kvs h t ih=>
   intro rv;cases rv with
   | @cons _ w0 _ its r1 r2=>
    obtain⟨more,m1,m2,m3⟩:=ih its r2;obtain⟨b,rfl,hb⟩:=h;cases r1;obtain⟨jts,rj,pj,_⟩:=I.tuple hb;cases rj with
    | @cons _ ky _ _ k1 k2=>
     cases k2 with
     | @cons _ w1 _ _ k3 k4=>
      cases k4;refine⟨(kv.1,w1)::more,.cons ⟨rfl,k3⟩ m1,by simp[m2],λj k v e=>?_⟩;cases j with
      |zero=>cases e;exact⟨b,ky,rfl,pj,ei k1⟩|succ j=>exact m3 j k v e
 obtain⟨more,m1,m2,m3⟩:=key xs kvs its hp rv;have ho':s.heap.get? a=bB ⟨.type "tuple",bK,.seq its.toArray n,o.slots⟩:=by rw[ho];cases o;simp only at hcl hdn hdat;subst hcl hdn hdat;rfl
 have hml:=m1.length;refine Up (knd:=jX X.prog X.w) (more:=more) (I.ok.hd hc) ho' ⟨by rw[gQ];exact m2,λj k v e=>let ⟨p,ky,g1,g2⟩:=m3 j k v e;⟨p,ky,by rw[List.getElem?_toArray];exact g1,g2⟩⟩ cI λh' tk dd kp=>?_
 have hz':=sR;refine⟨.ref s.heap.objs.size,_,I.laid (t':=tk) kp (cZ _) (su (kvs:=iG [] kvs) (vs:=yu [] more) (by have:=FX kvs [];simp only[lQ,xi]at this;lia) ?_ (KV.merge m1 .nil) dd),rfl,q _ (I.hok.fresh (cZ _))⟩;have:=I.big;exact lE.mpr (gt this)
def bp:D->bP Ob
 | .dct ks vs=>.ok (.tab (ks.zip vs))| .t ds=>match pairsOf ds with
  |some ps=>if ps.length<=1000 then .ok (.tab (AU [] ps))else .bad|none=>.bad
 |_=>.bad
def Us(hc:X.calm=bC):jE X (.type "dict") λvs H Q=>∃F d v,vs= [v]/\bT F H/\bM X.K F d v/\vS X.K F H (bp d) Q:=by
 intro pc s Y H xs us Q I r h;obtain⟨F,d,v,rfl,sb,dv,q⟩:=h;unfold bp at q;split at q
 .simp only[bM]at dv;obtain⟨a,kvs,rfl,h1,h2,h3⟩:=dv;exact Uq pc s Y H _ us Q I r ⟨a,kvs,rfl,sb _ _ h1,λp hp=>m8 q sb ⟨kvs,rfl,Ag h2 h3⟩ hp⟩
 .rename_i ds;split at q
  .rename_i ps hps;split at q
   .rename_i hl;simp only[bM]at dv;obtain⟨a,xs,rfl,hq,dl⟩:=dv;obtain⟨kvs,k1,k2⟩:=Ic hps dl;exact Ur hc pc s Y H _ us Q I r ⟨a,xs,kvs,rfl,bT.seqT sb hq,Paired.mapP k2 λx kv qz=>(by obtain⟨b,e1,e2⟩:=qz;exact⟨b,e1,bT.seqT sb e2⟩),by rw[<-k1.length];exact hl,λl hl=>m8 q sb ⟨_,rfl,jN.merge k1 .nil⟩ hl⟩
   .cases q
  .cases q
 .cases q
def wO(f:ME):MN:=λO=>(f O).bind bp
def Ie(hc:X.calm=bC)(hg:X.env.scope.names.lookup ("dict" :Str)=bB .globalImplicit)(hm:X.mg "dict" =bK)(hs:gE e=bH)(he:IE X e f):IN X (.Call (.Name "dict" p) [e] [] pos) (wO f):=
 gN (si (Us hc) hg hm XJ (nT he sW (gC hs)) jB jB (gC hs) (mN bO)) λY H Q qz=>by obtain⟨O,F,E,q⟩:=qz;exact⟨O,F,E,eQ q λd v F1 H1 g1 d1 q=>⟨F1,d,v,rfl,g1.sub,d1,q⟩⟩
def ny(s:Ob):bP D:=match s.dat with|some d=>.ok d|none=>.bad
def eX(g:MN):ME:=λO=>(g O).bind ny
def Ut{gn:MN}(h:IN X e gn):IE X e (eX gn):=gN h λY H Q ⟨O,F,E,q⟩=>⟨O,F,E,by
 unfold eX at q;revert q;cases gn O with
 |bad=>exact kX|ok s=>
  intro q l F' H' g hl r;have q:fX (bM X.K) F H (ny s) Q:=q;unfold ny at q;split at q
  .rename_i d hd;obtain⟨o,e1,k⟩:=r.o;have sF:bT F' (upd F' l o):=nU r.n _;refine q _ (upd F' l o) H' ⟨g.same,g.more,λt=>⟨(g.tk t).1,(g.tk t).2.upd l (vF k).1⟩,g.fs.trans sF,λb u e=>?_,λb hb n=>?_⟩ (Hx hd k sF gY)
   .by_cases z:b=l
    .subst z;rw[gY]at e;cases e;exact e1
    .rw[fH z]at e;exact g.sub b u e
   .rw[fH (λz=>n (by rw[z];exact hl))];exact g.new b hb n
  .exact q.elim⟩
def Ig{b:bU}{T:Tab}(E:hV X.K F H O Y)(hi:O[i]? =bB (.obj b (.tab T))):∃a kvs,Y[i]? =bB (bB (.ref a))/\H a=bB (.dK kvs)/\F a=bK/\jN X.K F T kvs:=by obtain⟨_,h1,a,rfl,_,n,_,h2,kvs,rfl,h3⟩:=E.at_ i _ hi;exact⟨a,kvs,h1,h2,n,h3⟩
def Ih{a:bI}(h:H a=bB (.dK kvs)):zL H H' a:=λu u' e _ dx l k z=>by rw[h]at e;cases e;cases z
def nz(i:bD)(dv dk:D):MS:=λO=>match O[i]?,dk with|some (.obj p (.tab T)),.str k=>if T.length<cJ then .ok (.nx (O.set i (.dic p (yF T k dv))))else .bad|_,_=>.bad
def nJ(i:bD)(f g:ME):MS:=λO=>(g O).bind λdv=>(f O).bind λdk=>nz i dv dk O
def Uu(hu:X.A.units+1<lD)(hv:jZ X.N X.env.scope i x)(he:IE X e f)(hw:IE X value g)(hs:xZ value=bH):IS X (.Assign [.Subscript (.Name x p) e pos'] value pos) (nJ i f g):=λFa Ha=>
 mC (P6 hu (qG hv.n hv.v hv.d hv.c) he hw (yA hs)) λE Y H ⟨O,F,S,q⟩=>⟨O,F,S.env,iP S q λdv v F1 H1 S1 g1 d1 q=>by
 cases hf:f O with
 |bad=>rw[hf]at q;cases q|ok dk=>
  rw[hf]at q;replace q:kF X Fa Ha (nz i dv dk O) E:=q;unfold nz at q;split at q
  .rename_i b T k hi;split at q
   .rename_i hz;obtain⟨a,kvs,z1,y1,y2,y3⟩:=Ig S1.env hi;refine⟨.ref a,z1,O,F1,S1.env,?_⟩;rw[hf];intro v2 F2 H2 g2 d2;simp only[bM]at d2;obtain⟨rfl,_⟩:=d2;have a2:H2 a=bB (.dK kvs):=g2.same _ _ rfl y1;have f2:F2 a=bK:=g2.new a y2 (by rw[y1];simp);refine⟨a,_,rfl,ly.k (k:=.inr k) (v:=v) a2 (by rw[<-y3.length];exact hz),?_⟩;exact q Y F2 _ ((S1.grow g2).step hi z1 (Ih a2) (tq g2.sub f2 _) ⟨f2,_,gY,_,rfl,(y3.mono g2.fs).put (d1.mono g2.fs)⟩)
   .cases q
  .exact q.elim⟩
def uE(dk:D):bQ Slot->bP (D×Ob)
 |some (.obj _ (.tab T))=>match dk with
  | .str k=>(match mL T k with
   |some d=>.ok (d,.tab (tDrop T k))
   |none=>.bad)
  |_=>.bad
 |_=>.bad
def eY(i:bD)(f:ME):MX:=λO=>(f O).bind λdk=>uE dk O[i]?
def Uv(hv:jZ X.N X.env.scope i x)(he:IE X e f)(hm:M1 X (.Name x p) "pop" ap e cp):IX X i (.Call (.Attribute (.Name x p) "pop" ap) [e] [] cp) (eY i f):=
 gN (Qc (qG hv.n hv.v hv.d hv.c) he hm) λY H Q qz=>by
 obtain⟨O,F,a,b,s,E,hi,h1,q⟩:=qz;cases s with
 |tab T=>
  obtain⟨a',kvs,z1,y1,y2,y3⟩:=Ig E hi;rw[h1]at z1;cases z1;refine⟨.ref a,h1,a,rfl,.inl ⟨kvs,.inl y1⟩,O,F,E,nh (E.ob hi h1) q λdk v F1 H1 g1 d1 q=>?_⟩;rw[hi]at q;unfold uE at q;dsimp only at q;split at q
  .rename_i k;simp only[bM]at d1;obtain⟨rfl,_⟩:=d1;have a1:H1 a=bB (.dK kvs):=g1.same _ _ rfl y1;have f1:F1 a=bK:=g1.new a y2 (by rw[y1];simp);rcases y3.val k with⟨h1,h2⟩|⟨d,v',h1,h2,h3⟩
   .rw[h1]at q;cases q
   .rw[h1]at q;exact⟨kvs,.inr k,v',a1,rfl,h2,q v' F1 _ (Ih a1) (tq g1.sub f1 _) ⟨f1,_,gY,_,rfl,(y3.mono g1.fs).drop k⟩ (h3.mono g1.fs)⟩
  .cases q
 |_=>exfalso;unfold eY at q;rw[hi]at q;revert q;cases f O<;>exact kX
noncomputable def jc(i:bD):MS:=λO=>match O[i]? with|some (.obj false s)=>.ok (.rn s)|_=>.bad
def Uw(hv:jZ X.N X.env.scope i x):IS X (.Return (bB (.Name x p)) pos) (jc i):=λFa Ha=>mC (y7 (qG hv.n hv.v hv.d hv.c)) λE Y H qz=>by
 obtain⟨O,F,S,q⟩:=qz;unfold jc at q;split at q
 .rename_i s hi;obtain⟨_,z1,a,rfl,_,r⟩:=S.env.at_ i _ hi;exact⟨.ref a,z1,q a F H S.gr (S.frh i _ _ a hi z1) r⟩
 .cases q
noncomputable def uF:bP D->bP Ob| .ok (.dct ks vs)=>.ok (.tab (ks.zip vs))|_=>.bad
def eZ(K:cD)(m:bA D->bP D):Sp:=λvs H Q _=>∃F ds,pH F H/\bT F H/\DatL K F ds vs/\vS K F H (uF (m ds)) Q
structure AV(P:fM)(w:cF)(K:cD)(mg:Str->bQ bJ)(base:cB)(k:bD)(x:Str)(m:bA D->bP D):Prop where
 ex:∃(f:bI) (fd:gJ) (ps:bA Str),dZ P w K mg base fF k f fd ps (eZ K m)/\mg x=bB (.ref f)/\lY K (.ref f)=bC/\lH K fd ps []
def e5(m:bA D->bP D)(fa:MA):MN:=λO=>(fa O).bind λds=>uF (m ds)
def Ux(C:AV X.prog X.w X.K X.mg X.base k x m)(hr:fY k X.A)(hg:X.env.scope.names.lookup x=bB .globalImplicit)(hd:(x==("__debug__" :Str))=bH)(hn:fG (e::es)=bC)(ha:IA X (e::es) fa):IN X (.Call (.Name x p) (e::es) [] pos) (e5 m fa):=by
 obtain⟨f,fd,ps,F,hm,hk,hb⟩:=C.ex;have h1:gE e=bH/\fG es=bC:=by unfold fG at hn;rw[lS,dB]at hn;exact⟨by simpa using hn.1,hn.2⟩
 exact gN (sh (E:=E0) F hr hg hm hk hb .nil xL ha hd (gC h1.1) (mN h1.2)) λY H Q qz=>by obtain⟨O,F,E,q⟩:=qz;exact⟨O,F,E,eQ q λds vs F1 H1 g1 d1 q=>⟨F1,ds,(E.grow g1).tb,g1.sub,by rw[kK];exact d1,q⟩⟩
end
def bq(T:Tab):(T.map (·.1)).zip (T.map (·.2))=T:=by
 induction T with
 |nil=>rfl|cons p T ih=>rw[dY,dY,List.zip_cons_cons,ih]
noncomputable def uG:Fl->bP D| .rn (.tab T)=>.ok (dR T)|_=>.bad
def jd(k n:bD)(g:MS)(ds:bA D):bP D:=if ds.length=k then(g (zO n ds)).bind uG else .bad
def n6(n:bD)(d:D)(O:cS):bP D:=match O[n]? with|some (.obj true (.tab T))=>.ok (.t [d,dR T])|_=>.bad
noncomputable def br(n:bD):Fl->bP D| .rr d O=>n6 n d O| .nx O=>n6 n .n O|_=>.bad
noncomputable def bt(pos np n:bD)(g:MS):bA D->bP D| .dct ks vs::ds=>if ds.length+1=np then(g (rG n (zW pos ds (.tab (ks.zip vs))))).bind (br pos)else .bad|_=>.bad
theorem Uy{pos np:bD}{g:MS}(ds:bA D)(s:Ob)(r:D×Ob)(h:pX (bt pos np n g) ds s= .ok r):ds.length+1=np/\ ∃fl,g (rG n (zW pos ds s))= .ok fl/\AQ pos s r fl:=by
 unfold pX at h;cases s with
 |tab T=>
  have h:Ob.dec (.tab T) (if ds.length+1=np then(g (rG n (zW pos ds (.tab ((T.map (·.1)).zip (T.map (·.2))))))).bind (br pos)else .bad)= .ok r:=h;rw[bq]at h;split at h
  .rename_i hl;refine⟨hl,?_⟩;cases hg:g (rG n (zW pos ds (.tab T)))with
   |bad=>rw[hg]at h;cases h|ok fl=>
    rw[hg]at h;refine⟨fl,rfl,?_⟩;have key:∀d O,Ob.dec (.tab T) (n6 pos d O)= .ok r->r.1=d/\ ∃U,O[pos]? =bB (.obj bC (.tab U))/\r.2= .tab U:=λd O z=>by
     unfold n6 at z;split at z
     .rename_i U hi;have z:bP.ok (d,Ob.tab ((U.map (·.1)).zip (U.map (·.2))))= .ok r:=z;rw[bq]at z;cases z;exact⟨rfl,U,hi,rfl⟩
     .cases z
    cases fl with
    |rr d O=>obtain⟨e1,U,e2,e3⟩:=key d O h;exact⟨O,_,.inl (by rw[e1]),e2,.inl e3.symm⟩|nx O=>obtain⟨e1,U,e2,e3⟩:=key .n O h;exact⟨O,_,.inr ⟨rfl,e1⟩,e2,.inl e3.symm⟩|_=>cases h
  .cases h
 |row ws k=>cases h|l xs=>exfalso;revert h;show Ob.dec (.l xs) _=_->_;unfold Ob.dec;intro h;split at h<;>cases h;all_goals (rename_i z _;cases z)
theorem Uz{w:cF}{st:dN}{f:bI}{g:MS}(F:hO K x qual st f fd)(S:lU N ps (dA st))
 (hbody:∀(_:Pd) (cdv:bJ) (A:gK) (outer:bA jG) (s:bS) (H:Hp) (E:XK),fY k (A.deeper (qD qual (dA st) s.heap.objs.size f cdv))->
   mF (rY fF P w K mg base N qual (dA st) f cdv A outer s H E).nox (kM st) g):dZ P w K mg base fF (k+1) f fd ps (eZ K (jd ps.length N.length g)):=by
 refine F.ok S (λvs H Q E h=>?_) (λcdv A outer s H vs Q E hr h=>?_)
 .obtain⟨F,ds,_,_,r,q⟩:=h;unfold jd at q;split at q
  .rename_i e;rw[<-r.length];exact e
  .cases q
 .obtain⟨F,ds,ti,s',r,q⟩:=h
  letI:Pd:=zJ
  refine⟨_,hbody zJ cdv A outer s H E hr F H,zO N.length ds,F,Gk ti s' r,?_⟩;unfold jd at q;split at q
  .revert q;cases g (zO N.length ds)with
   |ok fl=>
    intro q;cases fl with
    |rn s=>
     cases s with
     |tab T=>have q:vS K F H (.ok (.tab ((T.map (·.1)).zip (T.map (·.2))))) Q:=q;rw[bq]at q;exact λa F' H' g hl r=>q a F' H' g hl r|_=>exact q.elim
    |_=>exact q.elim
   |bad=>exact kX
  .cases q
end
section
variable [fZ] [Pd]
structure Ga where
 N:bA Str
 nm:bA (Str×qC)
 fs:bA (Str×(bA D->bP D))
 cs:bA (Str×D)
 ts:bA (Str×bA (Str×D))
 bs:bA Str
 cp:bA ((bD×bD)×bA Str)
 rs:bA (Str×bD×(bA D->bP D))
 ms:bA (Str×(bA D->bP D))
 ns:bA (Str×(bA D->bP D))
 mc:bA Str
 ri:bQ bD
 rr:bU
 nw:bU
 vw:bA Str
 ow:bA Str
 fz:bA (bD×bD)
structure gL(k:bD)(Z:Ga)(X:Cx):Prop where
 hN:X.N=Z.N
 hS:X.env.scope.names=Z.nm
 hk:X.env.scope.kind= .function
 nd:X.N.Nodup
 cm:X.calm=bC
 fs:∀x m,Z.fs.lookup x=bB m->xY X.prog X.w X.K X.mg X.base k x m
 cs:∀x d,Z.cs.lookup x=bB d->xX X.K X.mg x d
 ts:∀x t,Z.ts.lookup x=bB t->bf X.w X.K X.mg x t
 bs:∀x,Z.bs.contains x=bC->X.mg x=bK
 rm:fY k X.A
 rs:∀x q,Z.rs.lookup x=bB q->AO X.prog X.w X.K X.mg X.base k x q.1 q.2
 ms:∀x m,Z.ms.lookup x=bB m->bh X.prog X.w X.K X.mg X.base k x m
 ns:∀x m,Z.ns.lookup x=bB m->AV X.prog X.w X.K X.mg X.base k x m
 mc:∀x,Z.mc.contains x=bC->eW X.K/\ ∃j,k=j+1/\AS X.prog X.w X.K X.mg X.base j x
noncomputable def ob{α β:Type}(o:bQ α)(f:α->bQ β):bQ β:=match o with|some a=>f a|none=>none
noncomputable def og{α:Type}(c:bU)(o:bQ α):bQ α:=match c with|true=>o|false=>bK
def bX{o:bQ α}{f:α->bQ β}{b:β}(h:ob o f=some b):∃a,o=some a/\f a=some b:=by
 cases o with
 |none=>cases h|some a=>exact⟨a,rfl,h⟩
def gG{c:bU}{o:bQ α}{b:α}(h:og c o=bB b):c=true/\o=bB b:=by
 cases c with
 |false=>cases h|true=>exact⟨rfl,h⟩
def je(x:Str):bA Str->bQ bD
 | []=>bK|y::r=>match y==x with|true=>bB 0|false=>ob (je x r) λi=>bB (i+1)
theorem AW:∀{l:bA Str} {i:bD},je x l=bB i->l[i]? =bB x
 | [],_,h=>by cases h|y::r,i,h=>by
  unfold je at h;split at h
  .rename_i e;cases h;rw[dW e];rfl
  .obtain⟨j,hj,e⟩:=bX h;cases e;rw[Dn];exact AW hj
noncomputable def vk:bQ qC->bU|some .local=>bC|some .cell=>bC|some .free=>bC|_=>bH
def wP(Z:Ga)(x:Str):bQ bD:=og (vk (Z.nm.lookup x)&&(!(x==("__debug__" :Str))&& !(x==("__classdict__" :Str)))) (je x Z.N)
noncomputable def gl(Z:Ga)(x:Str):bU:=(match Z.nm.lookup x with
 |some .globalImplicit=>bC
 |_=>bH)&& !(x==("__debug__" :Str))
section
variable{Z:Ga}
def wQ(G:gL k Z X)(h:wP Z x=some i):jZ X.N X.env.scope i x:=by
 obtain⟨h1,h2⟩:=gG h;rw[dB,dB,j5,j5]at h1;refine⟨by rw[G.hN];exact AW h2,?_,h1.2.1,h1.2.2⟩;rw[G.hS];have hv:=h1.1;revert hv;cases Z.nm.lookup x with
 |none=>exact λz=>by cases z|some q=>cases q<;>intro z<;>first|exact .inl bO|exact .inr (.inl bO)|exact .inr (.inr bO)|cases z
def wR(G:gL k Z X)(h:gl Z x=bC):X.env.scope.names.lookup x=bB .globalImplicit/\(x==("__debug__" :Str))=bH:=by
 unfold gl at h;rw[dB,j5]at h;refine⟨?_,h.2⟩;rw[G.hS];have hv:=h.1;split at hv
 .rename_i e;exact e
 .cases hv
end
structure Rc where
 E:Ga->Expr->bQ ME
 T:Ga->Expr->bQ MT
structure kB(k:bD)(r:Rc):Prop where
 E:∀{Z X e f},gL k Z X->r.E Z e=bB f->IE X e f
 T:∀{Z X e f},gL k Z X->r.T Z e=bB f->IT X e f
noncomputable def Ii:aF->bQ (D->D->bP D)| .Add=>bB bZ| .Sub=>bB sC| .Mult=>bB kY| .FloorDiv=>bB jC| .Mod=>bB dS| .Pow=>bB Gs|_=>bK
noncomputable def n8:xJ->bQ (D->D->bP D)| .Eq=>bB cY| .NotEq=>bB kH| .Lt=>bB xS| .LtE=>bB lV| .Gt=>bB nV| .In=>bB (dU bH)| .NotIn=>bB (dU bC)| .Is=>bB (jQ bH)| .IsNot=>bB (jQ bC)|_=>bK
def AX(x:Str):bQ (bA D->bP D):=
 if x== "abs" then bB Az else if x== "len" then bB fS else if x== "all" then bB a8 else if x== "min" then bB iU else if x== "max" then bB iV else
 if x== "int" then bB yE else if x== "list" then bB sD else if x== "tuple" then bB lK else if x== "str" then bB vI else bK
noncomputable def AY(x:Str):bQ lB:=
 if x== "int" then bB "int" else if x== "bool" then bB "bool" else if x== "str" then bB "str" else if x== "tuple" then bB "tuple" else if x== "list" then bB "list" else bK
def AZ(x:Str):bQ (Str->bA D->bP D):=
 if x== "find" then bB As else if x== "split" then bB eF else if x== "startswith" then bB vK else if x== "join" then bB eU else bK
section
variable{Z:Ga}{m:D->D->bP D}
def UA{op:aF}(h:Ii op=bB m):dQ X (mU op) (rD X m):=by
 cases op<;>cases h
 .exact Gr
 .exact QT
 .exact QY
 .exact QV
 .exact QW
 .exact QU
def e6(hr:fY k X.A)(h:n8 op=bB m):dQ X (hJ op) (rD X m):=by
 cases op<;>cases h
 .exact Q5 (ui hr)
 .exact R7 (ui hr)
 .exact Q1
 .exact Q2
 .exact Gw
 .exact Sb
 .exact Se
 .exact RT (G1 hr)
 .exact RU (G1 hr)
def UB{m:bA D->bP D}(hc:X.calm=bC)(h:AX x=bB m):(∃id,jE X (.builtin id) (sZ X m)/\qT x=bB (.builtin id))\/ ∃id,jE X (.type id) (sZ X m)/\qT x=bB (.type id):=by
 unfold AX at h;split at h
 .rename_i e;cases dW e;cases h;exact .inl ⟨_,R5,XO⟩
 split at h
 .rename_i e;cases dW e;cases h;exact .inl ⟨_,Ah,w8⟩
 split at h
 .rename_i e;cases dW e;cases h;exact .inl ⟨_,RM hc,XQ⟩
 split at h
 .rename_i e;cases dW e;cases h;exact .inl ⟨_,Tf hc,XR⟩
 split at h
 .rename_i e;cases dW e;cases h;exact .inl ⟨_,Th hc,XS⟩
 split at h
 .rename_i e;cases dW e;cases h;exact .inr ⟨_,Uk,Lc⟩
 split at h
 .rename_i e;cases dW e;cases h;exact .inr ⟨_,GH,Dt⟩
 split at h
 .rename_i e;cases dW e;cases h;exact .inr ⟨_,GI,ph⟩
 split at h
 .rename_i e;cases dW e;cases h;exact .inr ⟨_,R6,Ld⟩
 cases h
def UC{T:lB}(h:AY x=bB T):sG X.K T/\qT x=bB (.type T)/\(x==("__name__" :Str))=bH:=by
 unfold AY at h;split at h
 .rename_i e;cases dW e;cases h;exact⟨RE _,Lc,tY⟩
 split at h
 .rename_i e;cases dW e;cases h;exact⟨RF _,XM,tY⟩
 split at h
 .rename_i e;cases dW e;cases h;exact⟨RG _,Ld,tY⟩
 split at h
 .rename_i e;cases dW e;cases h;exact⟨Aq _,ph,tY⟩
 split at h
 .rename_i e;cases dW e;cases h;exact⟨RH _,Dt,tY⟩
 cases h
def UD{m:Str->bA D->bP D}(h:AZ x=bB m):∃id,Eh "str" x id/\yr (.builtin id)=fE (.type "method_descriptor")/\aR X id (eD X m):=by
 unfold AZ at h;split at h
 .rename_i e;cases dW e;cases h;exact⟨_,PySem.F.slot_str_find,PySem.F.type_str_find,RP⟩
 split at h
 .rename_i e;cases dW e;cases h;exact⟨_,pi,K6,G0⟩
 split at h
 .rename_i e;cases dW e;cases h;exact⟨_,PySem.F.slot_str_startswith,PySem.F.type_str_startswith,RQ⟩
 split at h
 .rename_i e;cases dW e;cases h;exact⟨_,PySem.F.slot_str_join,PySem.F.type_str_join,TR⟩
 cases h
end
end
variable{Z:Ga}
section
variable [fZ] [Pd]
noncomputable def rA(r:Rc)(Z:Ga):bA Expr->bQ MA| []=>bB fP|e::es=>og (!gE e) (ob (r.E Z e) λf=>ob (rA r Z es) λg=>bB (aC f g))
def rV(r:Rc)(Z:Ga)(op:BoolOp):bA Expr->bQ ME
 | []=>bK| [a]=>r.E Z a|a::b::rest=>ob (r.E Z a) λf=>ob (rV r Z op (b::rest)) λg=>match op with| .And=>bB (mE f g)| .Or=>bB (Gf f g)
def rW(r:Rc)(Z:Ga)(op:BoolOp):bA Expr->bQ MT
 | []=>bK| [a]=>r.T Z a|a::b::rest=>ob (r.T Z a) λf=>ob (rW r Z op (b::rest)) λg=>match op with| .And=>bB (mZ f g)| .Or=>bB (kO f g)
noncomputable def rO(r:Rc)(Z:Ga):bQ Expr->bQ MO|none=>some zR|some e=>ob (r.E Z e) λf=>some (xV f)
noncomputable def uH(Z:Ga):Expr->bQ (bA (Str×D))| .Name x _=>og (gl Z x) (Z.ts.lookup x)|_=>bK
def cM(r:Rc)(Z:Ga)(a:Expr):bA xJ->bA Expr->bQ ME
 | [op],[b]=>og (!tQ op b) (match uH Z b with
  |some t=>match op with
   | .In=>ob (r.E Z a) λf=>some (m1 (yC t bH) f)| .NotIn=>ob (r.E Z a) λf=>some (m1 (yC t bC) f)|_=>none
  |none=>ob (n8 op) λm=>ob (r.E Z a) λf=>ob (r.E Z b) λg=>some (m2 m f g))
 | [op,op'],[b,c]=>og (!qo [op,op'] [b,c]) (ob (n8 op) λm=>ob (n8 op') λm'=>ob (r.E Z a) λf=>ob (r.E Z b) λg=>ob (r.E Z c) λh=>some (qI m m' f g h))|_,_=>none
def sE(r:Rc)(Z:Ga)(a:Expr):Expr->bQ ME
 | .Slice lo hi none _=>ob (r.E Z a) λf=>ob (rO r Z lo) λl=>ob (rO r Z hi) λu=>some (xW f l u)
 |b=>og (um b) (match uH Z a with
  |some t=>ob (r.E Z b) λf=>some (m1 (yD t) f)
  |none=>ob (r.E Z a) λf=>ob (r.E Z b) λg=>some (m2 cV f g))
def blt(Z:Ga)(x:Str):bU:=gl Z x&&(Z.bs.contains x&& !(x==("__name__" :Str)))
def rL(r:Rc)(Z:Ga)(tp:bU)(iter:Expr):bQ ML:=match iter with
 | .Call (.Name x p) args [] q=>
  if x== "range" then(match args with
   | [a]=>og (blt Z "range" && !gE a) (ob (r.E Z a) λf=>bB (kG f))
   |_=>bK)
  else if x== "zip" then(match args with
   | [a,b]=>og (tp&&(blt Z "zip" &&fG [a,b])) (ob (r.E Z a) λf=>ob (r.E Z b) λg=>bB (eP f g))
   |_=>bK)
  else if x== "enumerate" then(match args with
   | [a]=>og (tp&&(blt Z "enumerate" && !gE a)) (ob (r.E Z a) λf=>bB (m5 f))
   |_=>bK)
  else ob (r.E Z iter) λf=>bB (fA f)
 |_=>ob (r.E Z iter) λf=>bB (fA f)
section
variable{r:Rc}
def nt{b:bU}(h:(!b)=bC):b=bH:=by cases b;rfl;cases h
theorem wS(R:kB k r)(G:gL k Z X):∀{es fa},rA r Z es=bB fa->IA X es fa| [],_,h=>by cases h;exact pI|e::es,_,h=>by obtain⟨h0,h⟩:=gG h;obtain⟨f,h1,h⟩:=bX h;obtain⟨g,h2,h⟩:=bX h;cases h;exact mH (nt h0) (R.E G h1) (wS R G h2)
theorem A0(R:kB k r)(G:gL k Z X){op:BoolOp}:∀{es f},rV r Z op es=bB f->IE X (.BoolOp op es pos) f
 | [],_,h=>by cases h| [a],_,h=>Gg (R.E G h)|a::b::rest,_,h=>by
  obtain⟨f,h1,h⟩:=bX h;obtain⟨g,h2,h⟩:=bX h;cases op with
  |And=>cases h;exact Gh (R.E G h1) (A0 R G h2)|Or=>cases h;exact QB (R.E G h1) (A0 R G h2)
theorem A1(R:kB k r)(G:gL k Z X){op:BoolOp}:∀{es f},rW r Z op es=bB f->IW X (.BoolOp op es pos) f
 | [],_,h=>by cases h| [a],_,h=>by
  cases op with
  |And=>exact Qz (R.T G h)|Or=>exact iN (R.T G h)
 |a::b::rest,_,h=>by
  obtain⟨f,h1,h⟩:=bX h;obtain⟨g,h2,h⟩:=bX h;cases op with
  |And=>cases h;exact QA (R.T G h1) (A1 R G h2)|Or=>cases h;exact iO (R.T G h1) (A1 R G h2)
def Ij(R:kB k r)(G:gL k Z X){o:bQ Expr}{f:MO}(h:rO r Z o=some f):mo X o f:=by
 cases o with
 |none=>cases h;exact RB|some e=>obtain⟨f,h1,h⟩:=bX h;cases h;exact RC (R.E G h1)
def Ik(G:gL k Z X){t:bA (Str×D)}(h:uH Z e=bB t):∃x p,e= .Name x p/\bf X.w X.K X.mg x t/\X.env.scope.names.lookup x=bB .globalImplicit/\(x==("__debug__" :Str))=bH:=by
 unfold uH at h;split at h
 .obtain⟨h1,h2⟩:=gG h;exact⟨_,_,rfl,G.ts _ _ h2,wR G h1⟩
 .cases h
def Il(R:kB k r)(G:gL k Z X){a:Expr}{ops:bA xJ}{bs:bA Expr}(h:cM r Z a ops bs=bB f):IE X (.Compare a ops bs pos) f/\IT X (.Compare a ops bs pos) (mB f):=by
 unfold cM at h;split at h
 .replace h:=gG h;obtain⟨h0,h⟩:=h;have h0:=nt h0;split at h
  .rename_i ht;obtain⟨x,p,rfl,C,hg,hd⟩:=Ik G ht;split at h
   .obtain⟨f,h1,h⟩:=bX h;cases h;exact⟨Hn (pS ⟨rfl,rfl⟩) C hg hd h0 (R.E G h1),Ho (pS ⟨rfl,rfl⟩) C hg hd h0 (R.E G h1)⟩
   .obtain⟨f,h1,h⟩:=bX h;cases h;exact⟨Hn (ku ⟨rfl,rfl⟩) C hg hd h0 (R.E G h1),Ho (ku ⟨rfl,rfl⟩) C hg hd h0 (R.E G h1)⟩
   .cases h
  .obtain⟨m,hm,h⟩:=bX h;obtain⟨f,h1,h⟩:=bX h;obtain⟨g,h2,h⟩:=bX h;cases h;exact⟨QQ (e6 G.rm hm) (R.E G h1) (R.E G h2) h0,Gq (e6 G.rm hm) (R.E G h1) (R.E G h2) h0⟩
 .obtain⟨h0,h⟩:=gG h;obtain⟨m,hm,h⟩:=bX h;obtain⟨m',hm',h⟩:=bX h;obtain⟨f,h1,h⟩:=bX h;obtain⟨g,h2,h⟩:=bX h;obtain⟨c,h3,h⟩:=bX h;cases h;exact⟨Q3 (e6 G.rm hm) (e6 G.rm hm') (R.E G h1) (R.E G h2) (R.E G h3) (nt h0),Q4 (e6 G.rm hm) (e6 G.rm hm') (R.E G h1) (R.E G h2) (R.E G h3) (nt h0)⟩
 .cases h
def UE(R:kB k r)(G:gL k Z X){a b:Expr}(h:sE r Z a b=bB f):IE X (.Subscript a b pos) f:=by
 unfold sE at h;split at h
 .obtain⟨f,h1,h⟩:=bX h;obtain⟨l,h2,h⟩:=bX h;obtain⟨u,h3,h⟩:=bX h;cases h;exact RD (R.E G h1) (Ij R G h2) (Ij R G h3)
 .obtain⟨h0,h⟩:=gG h;split at h
  .rename_i ht;obtain⟨f,h1,h⟩:=bX h;cases h;obtain⟨x,p,rfl,C,hg,hd⟩:=Ik G ht;exact SF C hg hd h0 (R.E G h1)
  .obtain⟨f,h1,h⟩:=bX h;obtain⟨g,h2,h⟩:=bX h;cases h;exact vL (by have:=ui G.rm;lia) h0 (R.E G h1) (R.E G h2)
def wT(G:gL k Z X)(h:blt Z x=bC):X.env.scope.names.lookup x=bB .globalImplicit/\X.mg x=bK/\(x==("__debug__" :Str))=bH/\(x==("__name__" :Str))=bH:=by unfold blt at h;rw[dB,dB]at h;exact⟨(wR G h.1).1,G.bs _ h.2.1,(wR G h.1).2,nt h.2.2⟩
def n9(R:kB k r)(G:gL k Z X)(ht:tp=bC->∃es j p,tg= .Tuple es j p)(h:rL r Z tp iter=bB fl):II X tg iter fl:=by
 unfold rL at h;split at h
 .split at h
  .rename_i e;cases dW e;split at h
   .obtain⟨h0,h⟩:=gG h;obtain⟨f,h1,h⟩:=bX h;cases h;rw[dB]at h0;obtain⟨g1,g2,_⟩:=wT G h0.1;exact RY g1 g2 (nt h0.2) (R.E G h1)
   .cases h
  split at h
  .rename_i e;cases dW e;split at h
   .obtain⟨h0,h⟩:=gG h;obtain⟨f,h1,h⟩:=bX h;obtain⟨g,h2,h⟩:=bX h;cases h;rw[dB,dB]at h0;obtain⟨es,j,p,rfl⟩:=ht h0.1;obtain⟨g1,g2,_⟩:=wT G h0.2.1;exact SW g1 g2 h0.2.2 (R.E G h1) (R.E G h2)
   .cases h
  split at h
  .rename_i e;cases dW e;split at h
   .obtain⟨h0,h⟩:=gG h;obtain⟨f,h1,h⟩:=bX h;cases h;rw[dB,dB]at h0;obtain⟨es,j,p,rfl⟩:=ht h0.1;obtain⟨g1,g2,_⟩:=wT G h0.2.1;exact Te g1 g2 (nt h0.2.2) (R.E G h1)
   .cases h
  obtain⟨f,h1,h⟩:=bX h;cases h;exact ug (R.E G h1)
 .obtain⟨f,h1,h⟩:=bX h;cases h;exact ug (R.E G h1)
end
noncomputable def Im:Expr->bU| .Call _ _ _ _=>bH|_=>bC
def base_of{o:Expr}{nm:Str}{w:pE bJ}(h:Im o=bC):yT o nm env w=w:=by
 cases o<;>first
  | (exact yS h)
  |rfl
noncomputable def A3:Expr->bQ (Str×Expr)| .Call (.Name y _) [a] [] _=>bB (y,a)|_=>bK
def UF{q:Str×Expr}(h:A3 e=bB q):∃p r,e= .Call (.Name q.1 p) [q.2] [] r:=by unfold A3 at h;split at h<;>cases h;exact⟨_,_,rfl⟩
noncomputable def A4(x:Str):bA Expr->bQ Expr| [a]=>ob (A3 a) λq=>og ((x== "len")&&(q.1== "set")) (bB q.2)|_=>bK
def UG(h:A4 x args=bB e):x="len" /\ ∃p q,args= [.Call (.Name "set" p) [e] [] q]:=by
 unfold A4 at h;split at h
 .obtain⟨q,hq,h⟩:=bX h;obtain⟨_,_,rfl⟩:=UF hq;obtain⟨h0,h⟩:=gG h;cases h;rw[dB]at h0;exact⟨dW h0.1,_,_,by rw[dW h0.2]⟩
 .cases h
def A5(r:Rc)(Z:Ga)(x:Str)(e:Expr)(es:bA Expr):bQ ME:=match Z.fs.lookup x with
 |some m=>og (gl Z x&&fG (e::es)) (ob (rA r Z (e::es)) λfa=>some (mA m fa))|none=>match A4 x (e::es)with
  |some a=>og (blt Z "len" &&(blt Z "set" && !gE a)) (ob (r.E Z a) λf=>some (m1 iW f))
  |none=>if x== "isinstance" then(match es with
   | [.Name t _]=>ob (AY t) λT=>og (blt Z "isinstance" &&(blt Z t&& !gE e)) (ob (r.E Z e) λf=>some (m1 (nD T) f))
   |_=>none)
   else if x== "dict" then(match es with
    | []=>og (blt Z "dict" && !gE e) (ob (r.E Z e) λf=>some (eX (wO f)))
    |_=>none)
   else ob (AX x) λm=>og (blt Z x&&fG (e::es)) (ob (rA r Z (e::es)) λfa=>some (mA m fa))
def A6(r:Rc)(Z:Ga)(fn:Expr)(args:bA Expr)(kw:bA tV)(pos:dJ):bQ ME:=match fn with
 | .Name x _=>(match kw,args with
  | [],e::es=>A5 r Z x e es
  |_,_=>bK)
 | .Attribute o nm ap=>(match kw,args with
  | [],[]=>(match o with
   | .Name y _=>og ((ap.endLine==pos.line)&& !(nm== "taken")) (ob (Z.ms.lookup nm) λm=>ob (wP Z y) λi=>bB (mP i m))
   |_=>bK)
  | [],e::es=>ob (AZ nm) λm=>og (Im o&&((ap.endLine==pos.line)&&(fG (e::es)&&rg (e::es).length 30))) (ob (r.E Z o) λf=>ob (rA r Z (e::es)) λfa=>bB (vJ m f fa))
  |_,_=>bK)
 |_=>bK
section
variable{r:Rc}
def UH(R:kB k r)(G:gL k Z X)(h:A5 r Z x e es=bB f):IE X (.Call (.Name x p) (e::es) [] pos) f:=by
 unfold A5 at h;split at h
 .rename_i m hm;replace h:=gG h;obtain⟨h0,h⟩:=h;obtain⟨fa,h1,h⟩:=bX h;cases h;rw[dB]at h0;obtain⟨g1,g2⟩:=wR G h0.1;exact wL (G.fs _ _ hm) G.rm g1 h0.2 g2 (wS R G h1)
 .split at h
  .rename_i a ha;replace h:=gG h;obtain⟨h0,h⟩:=h;obtain⟨fa,h1,h⟩:=bX h;cases h;rw[dB,dB]at h0;obtain⟨rfl,q1,q2,e1⟩:=UG ha;cases e1;obtain⟨g1,g2,_⟩:=wT G h0.1;obtain⟨g3,g4,_⟩:=wT G h0.2.1;exact Tx G.cm (nt h0.2.2) g1 g2 g3 g4 (R.E G h1)
  .split at h
   .rename_i ex;cases dW ex;split at h
    .obtain⟨T,hT,h⟩:=bX h;replace h:=gG h;obtain⟨h0,h⟩:=h;obtain⟨fa,h1,h⟩:=bX h;cases h;rw[dB,dB]at h0;obtain⟨t1,t2,t3⟩:=UC (X:=X) hT;obtain⟨g1,g2,_⟩:=wT G h0.1;obtain⟨g3,g4,g5,_⟩:=wT G h0.2.1;exact Ax t1 (nt h0.2.2) g1 g2 g3 g4 t2 g5 t3 (R.E G h1)
    .cases h
   split at h
   .rename_i ex;cases dW ex;split at h
    .replace h:=gG h;obtain⟨h0,h⟩:=h;obtain⟨f,h1,h⟩:=bX h;cases h;rw[dB]at h0;obtain⟨g1,g2,_⟩:=wT G h0.1;exact Ut (Ie G.cm g1 g2 (nt h0.2) (R.E G h1))
    .cases h
   .obtain⟨m,hm,h⟩:=bX h;replace h:=gG h;obtain⟨h0,h⟩:=h;obtain⟨fa,h1,h⟩:=bX h;cases h;rw[dB]at h0;obtain⟨g1,g2,g3,g4⟩:=wT G h0.1;rcases UB (X:=X) G.cm hm with⟨id,c1,c2⟩|⟨id,c1,c2⟩
    .exact Aw c1 mj g1 g2 c2 h0.2 g3 g4 (wS R G h1)
    .exact G6 c1 mj g1 g2 c2 h0.2 g3 g4 (wS R G h1)
def UI(R:kB k r)(G:gL k Z X){fn:Expr}{kw:bA tV}(h:A6 r Z fn args kw pos=bB f):IE X (.Call fn args kw pos) f:=by
 unfold A6 at h;split at h
 .split at h
  .exact UH R G h
  .cases h
 .split at h
  .split at h
   .replace h:=gG h;obtain⟨h0,h⟩:=h;obtain⟨m,h1,h⟩:=bX h;obtain⟨i,h2,h⟩:=bX h;cases h;exact T8 (G.ms _ _ h1) G.rm (wQ G h2) ((dB _ _).mp h0).1
   .cases h
  .obtain⟨m,hm,h⟩:=bX h;replace h:=gG h;obtain⟨h0,h⟩:=h;obtain⟨fo,h1,h⟩:=bX h;obtain⟨fa,h2,h⟩:=bX h;cases h;rw[dB,dB,dB]at h0;obtain⟨id,m1,m2,m3⟩:=UD (X:=X) hm;exact G7 m1 m2 m3 h0.2.2.1 h0.2.2.2 h0.2.1 (base_of h0.1) (R.E G h1) (wS R G h2)
  .cases h
 .cases h
end
noncomputable def A7(names outer:bA (Str×qC)):bA (Str×qC):=names.map λ(n,k)=>if(k==qS&&outer.lookup n==bB .cell)then(n,xf)else(n,k)
def jf(Z:Ga)(scope:kW)(os caps:bA Str):Ga:={Z with N:=os++caps,nm:=A7 scope.names Z.nm}
noncomputable def isFn(scope:kW):bU:=match scope.kind with| .function=>bC|_=>bH
def oh(Z:Ga)(scope:kW)(os caps:bA Str)(js:bA bD):bU:=
 isFn scope&&((scope.names.all λy=>cN (y.2≠ .cell))&&((scope.names.all λy=>cN (y.2= .local->scope.names.lookup y.1=bB .local))&&((os.all λx=>cN (scope.names.lookup x=bB .local))&&
 ((scope.names.all λy=>cN (y.2= .free->Z.nm.lookup y.1=bB .cell\/Z.nm.lookup y.1=bB .free))&&(cN ((os++caps).Nodup)&&(cN (caps.length=js.length)&&((caps.zip js).all λq=>cN (Z.N[q.2]? =bB q.1)&&cN (scope.names.lookup q.1=bB .free))))))))
noncomputable def bu(N:bA Str):bA Str->bA bD| []=>[]|x::r=>((je x N).getD 0)::bu N r
noncomputable def uI(r:Rc)(Z:Ga):bA Expr->bQ MT| []=>bB λ_=>.ok bC| [c]=>r.T Z c|_=>bK
structure CQ where
 js:bA bD
 fl:ML
 P:MT
 G:ME
inductive UJ where
 |one (x:Str) (p:dJ)
 |two (x y:Str)
noncomputable def e9:Expr->bQ UJ| .Name x p=>bB (.one x p)| .Tuple [.Name x _,.Name y _] _ _=>bB (.two x y)|_=>bK
def A8{t:Expr}(h:e9 t=bB (.one x p)):t= .Name x p:=by unfold e9 at h;split at h<;>cases h;rfl
def A9{t:Expr}(h:e9 t=bB (.two x y)):∃p q k r,t= .Tuple [.Name x p,.Name y q] k r:=by unfold e9 at h;split at h<;>cases h;exact⟨_,_,_,_,rfl⟩
def uJ(r:Rc)(Z:Ga)(elt:Expr)(gens:bA Comprehension)(scope:kW)(pos:dJ):bQ CQ:=ob (Z.cp.lookup (pos.line,pos.col)) λcaps=>match gens with
 | [⟨t,iter,ifs,0⟩]=>(match e9 t with
  |some (.one x _)=>og (oh Z scope [x] caps (bu Z.N caps)&&eK iter) (ob (rL r Z bH iter) λfl=>ob (uI r (jf Z scope [x] caps) ifs) λp=>ob (r.E (jf Z scope [x] caps) elt) λg=>some ⟨bu Z.N caps,fl,p,g⟩)|some (.two x y)=>og (oh Z scope [x,y] caps (bu Z.N caps)&&eK iter) (ob (rL r Z bC iter) λfl=>ob (uI r (jf Z scope [x,y] caps) ifs) λp=>ob (r.E (jf Z scope [x,y] caps) elt) λg=>some ⟨bu Z.N caps,fl,kI p,kI g⟩)
  |none=>none)
 |_=>none
section
variable{r:Rc}{js:bA bD}
def Ba(G:gL k Z X)(h:oh Z scope os caps js=bC):qK X scope os caps js:=by
 unfold oh at h;simp only[dB]at h;obtain⟨h1,h2,h3,h4,h5,h6,h7,h8⟩:=h;have hk:scope.kind= .function:=by
  unfold isFn at h1;split at h1
  .rename_i e;exact e
  .cases h1
 refine G2 (N:=Z.N) (sc:=X.env.scope) G.hN bO hk h2 h3 h4 ?_ (mJ h6) (mJ h7) h8;rw[G.hS];exact h5
def oi(G:gL k Z X)(S:qK X scope os caps js)(C:bI)(fp:bA bI)(s:bS)(H:Hp)(E:bJ->bS->Prop):gL k (jf Z scope os caps) (mG X (os++caps) scope C fp s H E):=by refine⟨rfl,?_,S.kind,S.nd,G.cm,G.fs,G.cs,G.ts,G.bs,G.rm,G.rs,G.ms,G.ns,G.mc⟩;show(re scope X.env).names=A7 scope.names Z.nm;unfold re A7 MH;rw[G.hk,G.hS];simp
def Io(R:kB k r)(G:gL k Z X){p:MT}(h:uI r Z ifs=bB p):xU X ifs p:=by
 unfold uI at h;split at h
 .cases h;exact Av
 .exact RV (R.T G h)
 .cases h
def Ip(R:kB k r)(G:gL k Z X){q:CQ}(h:uJ r Z elt gens scope pos=bB q):∃tg iter ifs os caps sp gg p g,gens= [⟨tg,iter,ifs,0⟩]/\qK X scope os caps q.js/\eC X scope tg os caps sp gg q.P q.G p g/\II X tg iter q.fl/\
 (∀C fp s H E,xU (mG X (os++caps) scope C fp s H E) ifs p)/\(∀C fp s H E,IE (mG X (os++caps) scope C fp s H E) elt g)/\eK iter=bC:=by
 unfold uJ at h;replace h:=bX h;obtain⟨caps,hc,h⟩:=h;split at h
 .split at h
  .rename_i ht;cases A8 ht;replace h:=gG h;obtain⟨h0,h⟩:=h;obtain⟨fl,h1,h⟩:=bX h;obtain⟨p,h2,h⟩:=bX h;obtain⟨g,h3,h⟩:=bX h;cases h;rw[dB]at h0;have S:=Ba G h0.1;exact⟨_,_,_,_,caps,_,_,p,g,rfl,S,Ap S,n9 R G (λz=>by cases z) h1,λC fp s H E=>Io R (oi G S C fp s H E) h2,λC fp s H E=>R.E (oi G S C fp s H E) h3,h0.2⟩
  .rename_i ht;obtain⟨_,_,_,_,rfl⟩:=A9 ht;replace h:=gG h;obtain⟨h0,h⟩:=h;obtain⟨fl,h1,h⟩:=bX h;obtain⟨p,h2,h⟩:=bX h;obtain⟨g,h3,h⟩:=bX h;cases h;rw[dB]at h0;have S:=Ba G h0.1;exact⟨_,_,_,_,caps,_,_,p,g,rfl,S,S4 S G.cm,n9 R G (λ_=>⟨_,_,_,rfl⟩) h1,λC fp s H E=>Io R (oi G S C fp s H E) h2,λC fp s H E=>R.E (oi G S C fp s H E) h3,h0.2⟩
  .cases h
 .cases h
end
def eE(r:Rc)(Z:Ga):Expr->bQ ME
 | .Constant c _ _=>match c with
  | .none=>some (kc .n)| .bool b=>some (kc (.b b))| .int i=>some (kc (.int i))| .str x=>og (Nat.ble x.length cJ) (some (kc (.str x)))|_=>none
 | .Name x _=>match wP Z x with
  |some i=>some (gv i)|none=>og (gl Z x) (ob (Z.cs.lookup x) λd=>some (kc d))
 | .BinOp a op b _=>ob (Ii op) λm=>ob (r.E Z a) λf=>ob (r.E Z b) λg=>some (m2 m f g)| .UnaryOp op a _=>match op with
  | .USub=>ob (r.E Z a) λf=>some (m1 ml f)| .Not=>ob (r.E Z a) λf=>some (mf f)|_=>none
 | .BoolOp op vs _=>rV r Z op vs| .IfExp c a b _=>ob (r.T Z c) λt=>ob (r.E Z a) λf=>ob (r.E Z b) λg=>some (wJ t f g)| .Compare a ops bs _=>cM r Z a ops bs| .List es _=>ob (rA r Z es) λfa=>some (mA hU fa)| .Tuple es _ _=>ob (rA r Z es) λfa=>some (mA cP fa)| .Subscript a s _=>sE r Z a s| .ListComp elt gens scope pos=>ob (uJ r Z elt gens scope pos) λq=>some (gO q.js q.fl q.P q.G)| .Call fn args kw pos=>A6 r Z fn args kw pos
 | .Attribute o nm _=>(match o with
  | .Name y _=>og (Z.mc.contains "WordRow") (ob (wP Z y) λi=>if nm== "words" then some (bi i)else if nm== "place" then some (bj i)else none)
  |_=>none)
 |_=>none
def eT(r:Rc)(Z:Ga)(e:Expr):bQ MT:=match e with| .BoolOp op vs _=>rW r Z op vs| .UnaryOp .Not a _=>ob (r.T Z a) λf=>bB (gU f)| .Compare a ops bs _=>ob (cM r Z a ops bs) λf=>bB (mB f)|e=>og (Ay e) (ob (r.E Z e) λf=>bB (mT f))
noncomputable def rc:bD->Rc|0=>⟨λ_ _=>bK,λ_ _=>bK⟩|n+1=>⟨eE (rc n),eT (rc n)⟩
section
variable{r:Rc}
def UK(R:kB k r)(G:gL k Z X)(h:eE r Z e=bB f):IE X e f:=by
 unfold eE at h;cases e with
 |Constant c _ _=>
  dsimp only at h;split at h
  .cases h;exact Qk
  .cases h;exact zM
  .cases h;exact sA
  .obtain⟨h0,h⟩:=gG h;cases h;exact G5 h0
  .cases h
 |Name x _=>
  dsimp only at h;split at h
  .rename_i hi;cases h;exact jU (wQ G hi)
  .replace h:=gG h;obtain⟨h0,h⟩:=h;obtain⟨d,h1,h⟩:=bX h;cases h;exact eJ (wR G h0).1 (G.cs _ _ h1) (wR G h0).2
 |BinOp a op b _=>obtain⟨m,hm,h⟩:=bX h;obtain⟨f,h1,h⟩:=bX h;obtain⟨g,h2,h⟩:=bX h;cases h;exact Gp (UA hm) (R.E G h1) (R.E G h2)|UnaryOp op a _=>
  dsimp only at h;split at h
  .obtain⟨f,h1,h⟩:=bX h;cases h;exact Q0 (R.E G h1)
  .obtain⟨f,h1,h⟩:=bX h;cases h;exact QC (R.E G h1)
  .cases h
 |BoolOp op vs _=>exact A0 R G h|IfExp c a b _=>obtain⟨t,h0,h⟩:=bX h;obtain⟨f,h1,h⟩:=bX h;obtain⟨g,h2,h⟩:=bX h;cases h;exact QD (R.T G h0) (R.E G h1) (R.E G h2)|Compare a ops bs _=>exact(Il R G h).1|List es _=>obtain⟨fa,h1,h⟩:=bX h;cases h;exact Qs (wS R G h1)|Tuple es _ _=>obtain⟨fa,h1,h⟩:=bX h;cases h;exact Qr (wS R G h1)|Subscript a s _=>exact UE R G h|ListComp elt gens scope pos=>obtain⟨q,h1,h⟩:=bX h;cases h;obtain⟨tg,iter,ifs,os,caps,sp,gg,p,g,rfl,S,T,hi,hp,hg,ho⟩:=Ip R G h1;exact Ao S T G.cm hi hp hg (ba ho)|Call fn args kw pos=>exact UI R G h|Attribute o nm _=>
  dsimp only at h;split at h
  .replace h:=gG h;obtain⟨h0,h⟩:=h;replace h:=bX h;obtain⟨i,h1,h⟩:=h;split at h
   .rename_i en;cases dW en;cases h;exact T5 (G.mc _ h0).1 (wQ G h1)
   split at h
   .rename_i en;cases dW en;cases h;exact T6 (G.mc _ h0).1 (wQ G h1)
   cases h
  .cases h
 |_=>cases h
def UL(R:kB k r)(G:gL k Z X){f:MT}(h:eT r Z e=bB f):IT X e f:=by
 unfold eT at h;split at h
 .exact IW.it (A1 R G h)
 .obtain⟨f,h1,h⟩:=bX h;cases h;exact vH (R.T G h1)
 .obtain⟨f,h1,h⟩:=bX h;cases h;exact(Il R G h1).2
 .replace h:=gG h;obtain⟨h0,h⟩:=h;obtain⟨f,h1,h⟩:=bX h;cases h;exact vM h0 (R.E G h1)
theorem Bb:∀n,kB k (rc n)|0=>⟨λ_ h=>(by cases h),λ_ h=>(by cases h)⟩|n+1=>⟨λG h=>UK (Bb n) G h,λG h=>UL (Bb n) G h⟩
end
structure Bc(X:Cx):Prop where
 fn:∀x,X.fn x=bC
 po:kf (cA X.prog X.w) X.A X.env X.xe
noncomputable def lk:bQ qC->bU|some .local=>bC|some .cell=>bC|_=>bH
def zY(Z:Ga)(x:Str):bQ bD:=og (lk (Z.nm.lookup x)) (je x Z.N)
noncomputable def UM:Expr->bU| .Subscript _ _ _=>bC| .Call _ _ _ _=>bC|_=>bH
noncomputable def Be(Z:Ga)(x:Str)(p:dJ)(scope:kW)(cp:dJ):bU:=(Z.nm.lookup x==bB .local)&&(p.line==cp.line)&& !(scope.names.any λ(n,k)=>n==x&&(k== .local||k== .cell))
def nC(r:Rc)(Z:Ga)(x:Str)(e:Expr)(es:bA Expr):bQ MN:=match Z.ns.lookup x with
 |some m=>og (gl Z x&&fG (e::es)) (ob (rA r Z (e::es)) λfa=>some (e5 m fa))|none=>match es with
  | []=>if Z.mc.contains x then og (gl Z x&& !gE e) (ob (r.E Z e) λf=>some (nv f))
    else og (x== "dict" &&(blt Z "dict" && !gE e)) (ob (r.E Z e) λf=>some (wO f))
  |_=>none
def nE(r:Rc)(Z:Ga):bD->Expr->bQ MN
 |0,_=>bK|n+1,e=>match e with
  | .List es _=>ob (rA r Z es) λfa=>bB (bg fa)
  | .BinOp a op b _=>(match op with
   | .Add=>ob (r.E Z a) λf=>ob (r.E Z b) λg=>bB (m9 f g)
   |_=>bK)
  | .Dict ks vs _=>(match ks,vs with
   | [],[]=>bB iX
   |_,_=>bK)
  | .IfExp c a b _=>ob (r.T Z c) λt=>ob (nE r Z n a) λf=>ob (nE r Z n b) λg=>bB (eR t f g)
  | .Call fn args kw _=>(match fn,args,kw with
   | .Name x _,a::es,[]=>nC r Z x a es
   |_,_,_=>bK)
  |_=>bK
def xA(r:Rc)(Z:Ga)(i:bD)(rec:Expr->bQ MX):bA Expr->bQ sK
 | []=>none| [e]=>og (!gE e) (ob (rec e) λg=>some (sL g))
 |e::e2::es=>og (!gE e) (ob (xA r Z i rec (e2::es)) λga=>match r.E Z e with
  |some f=>some (sM f ga)
  |none=>ob (rec e) λg=>some (i8 i g ga))
def uK(Z:Ga)(y:Str)(i:bD):bU:=match wP Z y with|some j=>j==i|none=>bH
def uL(r:Rc)(Z:Ga)(i:bD):bD->bA Expr->bQ MA
 |_,[]=>bK
 |0,a::es=>(match a with
  | .Name y _=>og (uK Z y i) (rA r Z es)
  |_=>bK)
 |n+1,a::es=>og (!gE a) (ob (r.E Z a) λf=>ob (uL r Z i n es) λfa=>bB (aC f fa))
def xN(r:Rc)(Z:Ga)(i:bD)(rec:Expr->bQ MX)(x:Str)(args:bA Expr):bQ MX:=match args with
 | []=>none|a::es=>match Z.rs.lookup x with
  |some q=>og (gl Z x&&fG (a::es)) (ob (uL r Z i q.1 (a::es)) λfa=>some (fV i q.2 fa))
  |none=>og (x== "tuple" &&(blt Z "tuple" && !gE a)) (match es with
   | []=>ob (rec a) λg=>some (sO lK (sL g))
   |_=>none)
def xC(r:Rc)(Z:Ga)(i:bD)(rec:Expr->bQ MX)(fn:Expr)(args:bA Expr)(pos:dJ):bQ MX:=match fn with
 | .Name x _=>xN r Z i rec x args
 | .Attribute (.Name y _) nm ap=>og ((ap.endLine==pos.line)&&uK Z y i) (match args with
  | []=>ob (Z.ms.lookup nm) λm=>bB (jL i m fP)
  |e::es=>if nm== "pop" then og (!gE e) (match es with
   | []=>ob (r.E Z e) λf=>bB (eY i f)
   |_=>bK)
   else ob (Z.ms.lookup nm) λm=>og (fG (e::es)&&rg (e::es).length 30) (ob (rA r Z (e::es)) λfa=>bB (jL i m fa)))
 |_=>bK
noncomputable def uM(i:bD):bA bD->bQ bD| []=>bK|j::js=>if j==i then bB 0 else ob (uM i js) λm=>bB (m+1)
def xM(r:Rc)(rec:Ga->bD->Expr->bQ MX)(Z:Ga)(i:bD)(e:Expr):bQ MX:=match e with
 | .IfExp c a b _=>ob (r.T Z c) λt=>ob (rec Z i a) λg=>ob (rec Z i b) λh=>bB (eV t g h)| .Tuple es _ _=>ob (xA r Z i (rec Z i) es) λga=>bB (sO cP ga)
 | .Call fn args kw pos=>(match kw with
  | []=>xC r Z i (rec Z i) fn args pos
  |_=>bK)
 | .ListComp elt gens scope pos=>ob (Z.cp.lookup (pos.line,pos.col)) λcaps=>(match gens with
  | [⟨.Name x _,iter,[],0⟩]=>ob (uM i (bu Z.N caps)) λii=>og (oh Z scope [x] caps (bu Z.N caps)&&eK iter) (ob (rL r Z bH iter) λfl=>ob (rec (jf Z scope [x] caps) (ii+1) elt) λg=>bB (ja i (bu Z.N caps) fl g))
  |_=>bK)
 |_=>bK
def xE(r:Rc):bD->Ga->bD->Expr->bQ MX
 |0,_,_,_=>none|n+1,Z,i,e=>match r.E Z e with|some f=>some (xP i f)|none=>xM r (xE r n) Z i e
def xR(r:Rc)(Z:Ga)(k:bD->MX->MS)(e:Expr):bQ MS:=ob Z.ri λi=>ob (xE r 20 Z i e) λg=>bB (k i g)
def Bf(r:Rc)(Z:Ga)(i:bD)(x:Str)(p:dJ)(e:Expr):bQ MS:=match e with
 | .ListComp elt gens scope pos=>ob (uJ r Z elt gens scope pos) λq=>match Be Z x p scope pos with
  |true=>some (qL i q.js q.fl q.P q.G)|false=>some (cR i (gO q.js q.fl q.P q.G))
 |e=>og (!xZ e) (match Z.ow.contains x,e with
  |true,.List [] _=>some (pW i)|true,e=>ob (nE r Z 3 e) λf=>some (nH i f)
  |false,e=>(match r.E Z e with
   |some f=>some (cR i f)
   |none=>xR r Z (λri g=>kP ri i g) e))
noncomputable def Bg(Z:Ga)(t:MT):bA Str->bQ MT| []=>bB t|x::xs=>ob (wP Z x) λi=>ob (Bg Z t xs) λu=>bB (gZ i u)
noncomputable def yG:MS:=λ_=>.bad
def Bh(r:Rc)(Z:Ga)(i:bD)(nm:Str)(a:Expr):bQ MS:=
 if nm== "append" then(match r.E Z a with
  |some f=>some (tB i f)
  |none=>xR r Z (λri g=>nX ri i g) a)
 else og (nm== "extend") (ob (r.E Z a) λf=>some (kA i f))
def Bi(r:Rc)(Z:Ga)(e:Expr):bQ MS:=match Z.nw with
 |true=>(match e with
  | .Name x _=>ob (wP Z x) λi=>bB (jc i)
  |_=>bK)
 |false=>(match Z.rr with
  |true=>xR r Z gP e
  |false=>ob (r.E Z e) λf=>bB (bW f))
def Bj(r:Rc)(Z:Ga)(blk:bA dN->bQ MS)(c:Expr)(a b:bA dN):bQ MS:=match c,b with| .Compare e [op] [d] _,[]=>og (!tQ op d) (ob Z.ri λi=>ob (xE r 20 Z i e) λg=>ob (n8 op) λm=>ob (r.E Z d) λf=>ob (blk a) λu=>bB (iY i g m f u))|_,_=>bK
def sS(r:Rc)(Z:Ga)(blk:bA dN->bQ MS)(st:dN):bQ MS:=match st with
 | .Return (some e) _=>Bi r Z e
 | .If c a b _=>(match r.T Z c with
  |some t=>ob (Bg Z t Z.vw) λt=>ob (blk a) λu=>ob (blk b) λv=>some (bY t u v)
  |none=>Bj r Z blk c a b)
 | .Assign [t] e _=>(match e9 t with
  |some (.one x p)=>ob (zY Z x) λi=>Bf r Z i x p e|some (.two x y)=>ob (zY Z x) λi=>ob (zY Z y) λj=>og (UM e) (ob (r.E Z e) λf=>some (bc i j f))
  |none=>(match t with
   | .Subscript (.Name x _) d _=>og (!xZ e) (ob (wP Z x) λi=>ob (r.E Z d) λf=>ob (r.E Z e) λg=>some (nJ i f g))
   |_=>none))
 | .For t iter body [] _=>(match e9 t with
  |some (.one x _)=>ob (zY Z x) λi=>og (eK iter) (ob (rL r Z false iter) λfl=>ob (blk body) λu=>some (jP i fl u))|some (.two x y)=>ob (zY Z x) λi=>ob (zY Z y) λj=>og (eK iter) (ob (rL r Z true iter) λfl=>ob (blk body) λu=>some (vQ i j fl u))
  |none=>none)
 | .Expr e _=>(match e with
  | .Call (.Attribute (.Name x _) nm ap) [a] [] cp=>(match Z.ow.contains x with
   |true=>og ((ap.endLine==cp.line)&& !gE a) (ob (wP Z x) λi=>Bh r Z i nm a)
   |false=>xR r Z lO e)
  |e=>og (!xZ e) (match r.E Z e with
   |some f=>some (eA f)
   |none=>xR r Z lO e))
 | .AugAssign t .Add e _=>(match t with
  | .Name x _=>ob (zY Z x) λi=>ob (r.E Z e) λf=>some (eS i f)
  | .Attribute (.Name y _) nm _=>og (Z.mc.contains "WordRow" &&nm== "place") (ob (wP Z y) λi=>(match e with
   | .Constant (.int n) _ _=>some (iZ i n)
   |_=>none))
  |_=>none)
 | .While c body [] _=>ob (r.T Z c) λt=>ob (blk body) λu=>some (zX t u)| .Raise _ _ _=>some yG| .Pass _=>some cE|_=>none
def tE(r:Rc)(Z:Ga):bD->bA dN->bQ MS
 |0,_=>none|n+1,[]=>some cE|n+1,[s]=>sS r Z (tE r Z n) s|n+1,s::t::rest=>ob (sS r Z (tE r Z n) s) λa=>ob (tE r Z n (t::rest)) λb=>match Z.fz.lookup t.pos.line with|some i=>some (bL a (bL (jV i) b))|none=>some (bL a b)
section
variable{r:Rc}
def fb(G:gL k Z X)(h:zY Z x=some i):X.N[i]? =some x/\Loc X.env.scope x:=by
 obtain⟨h1,h2⟩:=gG h;refine⟨by rw[G.hN];exact AW h2,?_⟩;unfold L2.Loc;rw[G.hS];revert h1;cases Z.nm.lookup x with
 |none=>exact λz=>by cases z|some q=>cases q<;>intro z<;>first|exact .inl bO|exact .inr bO|cases z
def Ir(G:gL k Z X){l:bD}:aE (.ListComp elt gens scope cp) (bB (.Name x p)) l X.env=fE (Be Z x p scope cp):=by show fE (X.env.blockKind== .function&&X.env.kindOf x==bB .local&&p.line==cp.line&& !(scope.names.any λ(n,k)=>n==x&&(k== .local||k== .cell)))=_;unfold Be Env.blockKind MH;rw[G.hk,G.hS];rfl
def UN(R:kB k r)(G:gL k Z X){f:MN}(h:nC r Z x e es=bB f):IN X (.Call (.Name x p) (e::es) [] pos) f:=by
 unfold nC at h;split at h
 .rename_i m hm;replace h:=gG h;obtain⟨h0,h⟩:=h;obtain⟨fa,h1,h⟩:=bX h;cases h;rw[dB]at h0;obtain⟨g1,g2⟩:=wR G h0.1;exact Ux (G.ns _ _ hm) G.rm g1 g2 h0.2 (wS R G h1)
 .split at h
  .split at h
   .rename_i hm;replace h:=gG h;obtain⟨h0,h⟩:=h;obtain⟨f,h1,h⟩:=bX h;cases h;rw[dB]at h0;obtain⟨_,j,rfl,C⟩:=G.mc _ hm;exact Uj C G.rm (wR G h0.1).1 (wR G h0.1).2 (nt h0.2) (R.E G h1)
   .replace h:=gG h;obtain⟨h0,h⟩:=h;obtain⟨f,h1,h⟩:=bX h;cases h;rw[dB,dB]at h0;rw[dW h0.1];obtain⟨g1,g2,_⟩:=wT G h0.2.1;exact Ie G.cm g1 g2 (nt h0.2.2) (R.E G h1)
  .cases h
theorem Bk(R:kB k r)(G:gL k Z X):∀{n:bD} {e:Expr} {f:MN},nE r Z n e=bB f->IN X e f
 |0,_,_,h=>by cases h|n+1,e,_,h=>by
  unfold nE at h;split at h
  .obtain⟨fa,h1,h⟩:=bX h;cases h;exact TC (wS R G h1)
  .split at h
   .obtain⟨f,h1,h⟩:=bX h;obtain⟨g,h2,h⟩:=bX h;cases h;exact TF (R.E G h1) (R.E G h2)
   .cases h
  .split at h
   .cases h;exact TH
   .cases h
  .obtain⟨t,h0,h⟩:=bX h;obtain⟨f,h1,h⟩:=bX h;obtain⟨g,h2,h⟩:=bX h;cases h;exact TJ (R.T G h0) (Bk R G h1) (Bk R G h2)
  .split at h
   .exact UN R G h
   .cases h
  .cases h
theorem Bl(R:kB k r)(G:gL k Z X){rec:Expr->bQ MX}(B:∀{e g},rec e=bB g->IX X i e g):∀{es ga},xA r Z i rec es=bB ga->bn X i es ga
 | [],_,h=>by cases h| [e],_,h=>by obtain⟨h0,h⟩:=gG h;obtain⟨g,h1,h⟩:=bX h;cases h;exact HV (nt h0) (B h1)|e::e2::es,_,h=>by
  replace h:=gG h;obtain⟨h0,h⟩:=h;replace h:=bX h;obtain⟨ga,h2,h⟩:=h;split at h
  .rename_i h1;cases h;exact Ub (nt h0) (R.E G h1) (Bl R G B h2)
  .obtain⟨g,h1,h⟩:=bX h;cases h;exact Uc (nt h0) (B h1) (Bl R G B h2)
theorem Iu:∀{js:bA bD} {ii:bD},uM i js=bB ii->js[ii]? =bB i
 | [],_,h=>by cases h|j::js,ii,h=>by
  unfold uM at h;split at h
  .rename_i e;cases h;rw[dW e];rfl
  .obtain⟨m0,h1,h⟩:=bX h;cases h;rw[Dn];exact Iu h1
def uN(G:gL k Z X)(h:uK Z y i=bC):jZ X.N X.env.scope i y:=by
 unfold uK at h;split at h
 .rename_i e;cases dW h;exact wQ G e
 .cases h
theorem Iv(R:kB k r)(G:gL k Z X):∀{n:bD} {es:bA Expr} {fa:MA},uL r Z i n es=bB fa->nj X i n es fa
 |0,[],_,h=>by cases h|_+1,[],_,h=>by cases h|0,a::es,_,h=>by
  unfold uL at h;split at h
  .obtain⟨h0,h⟩:=gG h;exact T1 (uN G h0) (wS R G h)
  .cases h
 |n+1,a::es,_,h=>by obtain⟨h0,h⟩:=gG h;obtain⟨f,h1,h⟩:=bX h;obtain⟨fa,h2,h⟩:=bX h;cases h;exact T2 (nt h0) (R.E G h1) (Iv R G h2)
def UO(R:kB k r)(G:gL k Z X){rec:Expr->bQ MX}(B:∀{e g},rec e=bB g->IX X i e g){g:MX}(h:xN r Z i rec x args=bB g):IX X i (.Call (.Name x p) args [] pos) g:=by
 unfold xN at h;split at h
 .cases h
 .split at h
  .rename_i q hm;replace h:=gG h;obtain⟨h0,h⟩:=h;obtain⟨fa,h1,h⟩:=bX h;cases h;rw[dB]at h0;exact T3 (G.rs _ _ hm) G.rm (wR G h0.1).1 (wR G h0.1).2 h0.2 (Iv R G h1)
  .replace h:=gG h;obtain⟨h0,h⟩:=h;rw[dB,dB]at h0;cases dW h0.1;split at h
   .obtain⟨g,h1,h⟩:=bX h;cases h;obtain⟨g1,g2,g3,g4⟩:=wT G h0.2.1;have hs:=nt h0.2.2;exact Ud GI g1 g2 ph (by simp[fG,hs]) g3 g4 (HV hs (B h1))
   .cases h
def UP{a:Expr}(hs:gE a=bH)(hl:(ap.endLine==pos.line)=bC):M1 X (.Name x p) "pop" ap a pos:=
 ⟨rfl,by rw[eI (show fG [a]=bC by simp[fG,hs])];rfl,hl,by rw[gC hs];rfl⟩
def UQ(R:kB k r)(G:gL k Z X){rec:Expr->bQ MX}(B:∀{e g},rec e=bB g->IX X i e g){fn:Expr}{g:MX}(h:xC r Z i rec fn args pos=bB g):IX X i (.Call fn args [] pos) g:=by
 unfold xC at h;split at h
 .exact UO R G B h
 .replace h:=gG h;obtain⟨h0,h⟩:=h;rw[dB]at h0;split at h
  .obtain⟨m,hm,h⟩:=bX h;cases h;exact HR (G.ms _ _ hm) G.rm (uN G h0.2) h0.1
  .split at h
   .rename_i en;cases dW en;replace h:=gG h;obtain⟨h2,h⟩:=h;split at h
    .obtain⟨f,h1,h⟩:=bX h;cases h;exact Uv (uN G h0.2) (R.E G h1) (UP (nt h2) h0.1)
    .cases h
   .obtain⟨m,hm,h⟩:=bX h;replace h:=gG h;obtain⟨h2,h⟩:=h;obtain⟨fa,h1,h⟩:=bX h;cases h;rw[dB]at h2;exact T4 (G.ms _ _ hm) G.rm (uN G h0.2) h0.1 h2.2 h2.1 (wS R G h1)
 .cases h
def UR(R:kB k r){rec:Ga->bD->Expr->bQ MX}(B:∀{Z X i e g},gL k Z X->rec Z i e=bB g->IX X i e g)(G:gL k Z X){g:MX}(h:xM r rec Z i e=bB g):IX X i e g:=by
 unfold xM at h;split at h
 .obtain⟨t,h0,h⟩:=bX h;obtain⟨f,h1,h⟩:=bX h;obtain⟨g,h2,h⟩:=bX h;cases h;exact TZ (R.T G h0) (B G h1) (B G h2)
 .obtain⟨ga,h1,h⟩:=bX h;cases h;exact ix_tup (Bl R G (B G) h1)
 .split at h
  .exact UQ R G (B G) h
  .cases h
 .replace h:=bX h;obtain⟨caps,hc,h⟩:=h;split at h
  .obtain⟨ii,h1,h⟩:=bX h;replace h:=gG h;obtain⟨h0,h⟩:=h;obtain⟨fl,h2,h⟩:=bX h;obtain⟨g,h3,h⟩:=bX h;cases h;rw[dB]at h0;have S:=Ba G h0.1;exact Uh S G.cm (n9 R G (λz=>by cases z) h2) (Iu h1) (λC fp s H E=>B (oi G S C fp s H E) h3) (ba h0.2)
  .cases h
 .cases h
theorem Bm(R:kB k r):∀(n:bD) {Z:Ga} {X:Cx} {i:bD} {e:Expr} {g:MX},gL k Z X->xE r n Z i e=bB g->IX X i e g
 |0,_,_,_,_,_,_,h=>by cases h|n+1,_,_,_,_,_,G,h=>by
  unfold xE at h;split at h
  .rename_i hf;cases h;exact TY (R.E G hf)
  .exact UR R (Bm R n) G h
def oj(R:kB k r)(G:gL k Z X){c:bD->MX->MS}(h:xR r Z c e=bB u):∃i g,IX X i e g/\c i g=u:=by obtain⟨i,h1,h⟩:=bX h;obtain⟨g,h2,h⟩:=bX h;cases h;exact⟨i,g,Bm R 20 G h2,rfl⟩
def US(R:kB k r)(G:gL k Z X)(Za:Bc X)(hi:zY Z x=bB i)(h:Bf r Z i x p e=bB u):IS X (.Assign [.Name x p] e pos) u:=by
 obtain⟨l1,l2⟩:=fb G hi;have hf:X.fn x=bC\/X.env.scope.names.lookup x=bB .local:=.inl (Za.fn x);unfold Bf at h;split at h
 .replace h:=bX h;obtain⟨q,h1,h⟩:=h;obtain⟨tg,iter,ifs,os,caps,sp,gg,p',g,rfl,S,T,hit,hp,hg,ho⟩:=Ip R G h1;split at h
  .rename_i hs;cases h;exact Rr S T G.cm hit hp hg G.nd l1 l2 (by rw[Ir G,hs]) (ba ho) hf
  .rename_i hs;cases h;exact Tz G.nd l1 l2 (by rw[Ir G,hs]) hf (Ao S T G.cm hit hp hg (ba ho))
 .replace h:=gG h;obtain⟨h0,h⟩:=h;split at h
  .cases h;exact S8 G.nd l1 l2 hf
  .obtain⟨f,h1,h⟩:=bX h;cases h;exact TK G.nd l1 l2 (nt h0) hf (Bk R G h1)
  .split at h
   .rename_i h1;cases h;exact RZ G.nd l1 l2 (nt h0) hf (R.E G h1)
   .obtain⟨ri,g,h1,rfl⟩:=oj R G h;exact TV G.nd l1 l2 (nt h0) hf h1
theorem Iw(G:gL k Z X)(ht:IT X e t):∀{l:bA Str} {u:MT},Bg Z t l=bB u->IT X e u| [],_,h=>by cases h;exact ht|x::xs,_,h=>by obtain⟨i,_,h⟩:=bX h;obtain⟨u,h1,h⟩:=bX h;cases h;exact S6 (Iw G ht h1)
def UT(R:kB k r)(G:gL k Z X){nm:Str}{a:Expr}{q:dJ}(hi:wP Z x=bB i)(h0:(ap.endLine==cp.line)=bC)(hs:gE a=bH)(h:Bh r Z i nm a=bB u):IS X (.Expr (.Call (.Attribute (.Name x q) nm ap) [a] [] cp) pos) u:=by
 unfold Bh at h;split at h
 .rename_i en;cases dW en;split at h
  .rename_i h1;cases h;exact S9 (wQ G hi) hs h0 rfl (R.E G h1)
  .obtain⟨ri,g,h1,rfl⟩:=oj R G h;exact TX (wQ G hi) hs h0 rfl h1
 .replace h:=gG h;obtain⟨en,h⟩:=h;cases dW en;obtain⟨f,h1,h⟩:=bX h;cases h;exact TN (wQ G hi) hs h0 (R.E G h1)
def UU(R:kB k r)(G:gL k Z X)(h:Bi r Z e=bB u):IS X (.Return (bB e) pos) u:=by
 unfold Bi at h;split at h
 .split at h
  .obtain⟨i,hi,h⟩:=bX h;cases h;exact Uw (wQ G hi)
  .cases h
 .split at h
  .obtain⟨ri,g,h1,rfl⟩:=oj R G h;exact TU h1
  .obtain⟨f,h1,h⟩:=bX h;cases h;exact sB (R.E G h1)
def UV(R:kB k r)(G:gL k Z X)(B:∀{l u},blk l=bB u->mF X l u){c:Expr}{a b:bA dN}(h:Bj r Z blk c a b=bB u):IS X (.If c a b pos) u:=by
 unfold Bj at h;split at h
 .replace h:=gG h;obtain⟨h0,h⟩:=h;obtain⟨i,_,h⟩:=bX h;obtain⟨g,h1,h⟩:=bX h;obtain⟨m,hm,h⟩:=bX h;obtain⟨f,h2,h⟩:=bX h;obtain⟨u,h3,h⟩:=bX h;cases h;exact TW (e6 G.rm hm) (Bm R 20 G h1) (R.E G h2) (nt h0) (B h3)
 .cases h
def Ix(R:kB k r)(G:gL k Z X)(Za:Bc X)(B:∀{l u},blk l=some u->mF X l u){st:dN}(h:sS r Z blk st=some u):IS X st u:=by
 unfold sS at h;cases st with
 |Return o _=>
  cases o with
  |some e=>exact UU R G h|none=>cases h
 |If _ _ _ _=>
  dsimp only at h;split at h
  .rename_i h0;obtain⟨t,h9,h⟩:=bX h;obtain⟨u,h1,h⟩:=bX h;obtain⟨v,h2,h⟩:=bX h;cases h;exact aX (Iw G (R.T G h0) h9) (B h1) (B h2)
  .exact UV R G B h
 |Assign ts e _=>
  rcases ts with _|⟨t,_|⟨_,_⟩⟩
  .cases h
  .dsimp only at h;split at h
   .rename_i ht;cases A8 ht;obtain⟨i,h1,h⟩:=bX h;exact US R G Za h1 h
   .rename_i ht;obtain⟨_,_,_,_,rfl⟩:=A9 ht;obtain⟨i,hi,h⟩:=bX h;obtain⟨j,hj,h⟩:=bX h;replace h:=gG h;obtain⟨h0,h⟩:=h;obtain⟨f,h1,h⟩:=bX h;cases h;obtain⟨a1,a2⟩:=fb G hi;obtain⟨b1,b2⟩:=fb G hj;refine Sa G.cm G.nd a1 a2 b1 b2 (.inl (Za.fn _)) (.inl (Za.fn _)) ?_ ?_ (R.E G h1)
    .cases e<;>first| (exact yS h0)|rfl
    .cases e<;>first| (exact yS h0)|rfl
   .split at h
    .replace h:=gG h;obtain⟨h0,h⟩:=h;obtain⟨i,hi,h⟩:=bX h;obtain⟨f,h1,h⟩:=bX h;obtain⟨g,h2,h⟩:=bX h;cases h;exact Uu (by have:=ui G.rm;lia) (wQ G hi) (R.E G h1) (R.E G h2) (nt h0)
    .cases h
  .cases h
 |For t iter body o _=>
  cases o with
  |nil=>
   dsimp only at h;split at h
   .rename_i ht;cases A8 ht;obtain⟨i,hi,h⟩:=bX h;replace h:=gG h;obtain⟨h0,h⟩:=h;obtain⟨fl,h1,h⟩:=bX h;obtain⟨u,h2,h⟩:=bX h;cases h;obtain⟨a1,a2⟩:=fb G hi;exact GK G.cm Za.po (n9 R G (λz=>by cases z) h1) (dm G.nd a1 a2 (.inl (Za.fn _))) (B h2) (ba h0)
   .rename_i ht;obtain⟨_,_,_,_,rfl⟩:=A9 ht;obtain⟨i,hi,h⟩:=bX h;obtain⟨j,hj,h⟩:=bX h;replace h:=gG h;obtain⟨h0,h⟩:=h;obtain⟨fl,h1,h⟩:=bX h;obtain⟨u,h2,h⟩:=bX h;cases h;obtain⟨a1,a2⟩:=fb G hi;obtain⟨b1,b2⟩:=fb G hj;exact SZ G.cm Za.po (n9 R G (λ_=>⟨_,_,_,rfl⟩) h1) (Hw G.cm G.nd a1 a2 b1 b2 (.inl (Za.fn _)) (.inl (Za.fn _))) (B h2) (ba h0)
   .cases h
  |cons _ _=>cases h
 |Expr e _=>
  dsimp only at h;split at h
  .split at h
   .replace h:=gG h;obtain⟨h0,h⟩:=h;replace h:=bX h;obtain⟨i,hi,h⟩:=h;rw[dB]at h0;exact UT R G hi h0.1 (nt h0.2) h
   .obtain⟨ri,g,h1,rfl⟩:=oj R G h;exact HN rfl h1
  .replace h:=gG h;obtain⟨h0,h⟩:=h;split at h
   .rename_i h1;cases h;exact R3 (nt h0) (R.E G h1)
   .obtain⟨ri,g,h1,rfl⟩:=oj R G h;exact HN (nt h0) h1
 |AugAssign t op e _=>
  cases op with
  |Add=>
   dsimp only at h;split at h
   .obtain⟨i,hi,h⟩:=bX h;obtain⟨f,h1,h⟩:=bX h;cases h;obtain⟨a1,a2⟩:=fb G hi;exact TQ G.nd a1 a2 (.inl (Za.fn _)) (R.E G h1)
   .replace h:=gG h;obtain⟨h0,h⟩:=h;replace h:=bX h;obtain⟨i,hi,h⟩:=h;rw[dB]at h0;split at h
    .cases h;cases dW h0.2;exact T9 (G.mc _ h0.1).1 (wQ G hi)
    .cases h
   .cases h
  |_=>cases h
 |While _ _ o _=>
  cases o with
  |nil=>obtain⟨t,h0,h⟩:=bX h;obtain⟨u,h1,h⟩:=bX h;cases h;exact Ua Za.po (R.T G h0) (B h1)|cons _ _=>cases h
 |Raise _ _ _=>cases h;exact λFa Ha pc s Y H E I qz=>by obtain⟨O,F,S,q⟩:=qz;cases q|Pass _=>cases h;exact QE|_=>cases h
theorem uO(R:kB k r)(G:gL k Z X)(Za:Bc X):∀(n:bD) {l:bA dN} {u:MS},tE r Z n l=bB u->mF X l u
 |0,_,_,h=>by cases h|n+1,[],_,h=>by cases h;exact aW|n+1,[s],_,h=>rE (Ix R G Za (uO R G Za n) h)|n+1,s::t::rest,_,h=>by
  obtain⟨a,h1,h⟩:=bX h;obtain⟨b,h2,h⟩:=bX h;have i1:=Ix R G Za (uO R G Za n) h1;have i2:=uO R G Za n h2;split at h
  .cases h;exact zN i1 (S5 i2)
  .cases h;exact zN i1 i2
end
structure uP where
 fs:bA (Str×(bA D->bP D))
 cs:bA (Str×D)
 ts:bA (Str×bA (Str×D))
 bs:bA Str
 rs:bA (Str×bD×(bA D->bP D))
 ms:bA (Str×(bA D->bP D))
 ns:bA (Str×(bA D->bP D))
 mc:bA Str
structure fc(P:fM)(w:cF)(K:cD)(mg:Str->bQ bJ)(base:cB)(k:bD)(A:uP):Prop where
 fs:∀x m,A.fs.lookup x=bB m->xY P w K mg base k x m
 cs:∀x d,A.cs.lookup x=bB d->xX K mg x d
 ts:∀x t,A.ts.lookup x=bB t->bf w K mg x t
 bs:∀x,A.bs.contains x=bC->mg x=bK
 rs:∀x q,A.rs.lookup x=bB q->AO P w K mg base k x q.1 q.2
 ms:∀x m,A.ms.lookup x=bB m->bh P w K mg base k x m
 ns:∀x m,A.ns.lookup x=bB m->AV P w K mg base k x m
 mc:∀x,A.mc.contains x=bC->eW K/\ ∃j,k=j+1/\AS P w K mg base j x
structure vT where
 cp:bA ((bD×bD)×bA Str):=[]
 ow:bA Str:=[]
 fz:bA (bD×bD):=[]
 vw:bA Str:=[]
 ri:bQ bD:=bK
def vT.ga(L:vT)(N:bA Str)(nm:bA (Str×qC))(A:uP)(rr nw:bU):Ga:=⟨N,nm,A.fs,A.cs,A.ts,A.bs,L.cp,A.rs,A.ms,A.ns,A.mc,L.ri,rr,nw,L.vw,L.ow,L.fz⟩
section
variable{w:cF}{st:dN}{f:bI}{A:uP}
def UW{cdv:bJ}{Ar:gK}{outer:bA jG}{E:XK}(S:lU N ps (dA st))(T:fc P w K mg base k A)(hr:fY k (Ar.deeper (qD qual (dA st) s.heap.objs.size f cdv)))(L:vT)(rr nw:bU):
 gL k (L.ga N (dA st).names A rr nw) (rY fF P w K mg base N qual (dA st) f cdv Ar outer s H E).nox:=
 ⟨rfl,rfl,S.kind,S.nd,rfl,T.fs,T.cs,T.ts,T.bs,hr,T.rs,T.ms,T.ns,T.mc⟩
def uQ{rr nw:bU}(S:lU N ps (dA st))(T:fc P w K mg base k A)(L:vT)(h:tE (rc 40) (L.ga N (dA st).names A rr nw) 60 (kM st)=bB u):∀(_:Pd) (cdv:bJ) (Ar:gK) (outer:bA jG) (s:bS) (H:Hp) (E:XK),fY k (Ar.deeper (qD qual (dA st) s.heap.objs.size f cdv))->
 mF (rY fF P w K mg base N qual (dA st) f cdv Ar outer s H E).nox (kM st) u:=
 λpd cdv Ar outer s H E hr=>uO (k:=k) (Bb 40) (UW S T hr L rr nw) ⟨λ_=>rfl,LZ⟩ 60 h
def UX(F:hO K x qual st f fd)(S:lU N ps (dA st))(T:fc P w K mg base k A)(L:vT)(h:tE (rc 40) (L.ga N (dA st).names A bH bH) 60 (kM st)=bB u):dZ P w K mg base fF (k+1) f fd ps (pJ K (dG ps.length N.length u)):=
 t9 F S (uQ S T L h)
def UY(F:hO K x qual st f fd)(S:lU N ps (dA st))(T:fc P w K mg base k A)(L:vT)(h:tE (rc 40) (L.ga N (dA st).names A bH bC) 60 (kM st)=bB u):dZ P w K mg base fF (k+1) f fd ps (eZ K (jd ps.length N.length u)):=
 Uz F S (uQ S T L h)
def UZ(F:hO K x qual st f fd)(S:lU N ps (dA st))(T:fc P w K mg base k A)(L:vT)(h:tE (rc 40) (L.ga N (dA st).names A bC bH) 60 (kM st)=bB u):dZ P w K mg base fF (k+1) f fd ps (wN K 0 (pX (nI ps.length N.length u))):=
 HS F S Ue (uQ S T L h)
def U0(F:hO K x qual st f fd)(S:lU N ps (dA st))(T:fc P w K mg base k A)(L:vT)(h:tE (rc 40) (L.ga N (dA st).names A bC bH) 60 (kM st)=bB u):dZ P w K mg base fF (k+1) f fd ps (wN K n (pX (bt n ps.length N.length u))):=
 HS F S Uy (uQ S T L h)
end
noncomputable abbrev kv{α:Type}(x:Str)(a:α):Str×α:=(x,a)
def Iy{P:Str->α->Prop}:∀x m,([]:bA (Str×α)).lookup x=bB m->P x m:=λ_ _ h=>by cases h
def rM{P:Str->α->Prop}{a:α}{l:bA (Str×α)}(h:P y a)(t:∀x m,l.lookup x=bB m->P x m):∀x m,((y,a)::l).lookup x=bB m->P x m:=λx m e=>by
 rw[lF]at e;split at e
 .rename_i q;cases e;rw[dW q];exact h
 .exact t x m e
end
section
section
variable{K':cD}{C f:bI}{r:bQ bJ}
abbrev zZ(K K':cD):Prop:=∀b o,K.lookup b=bB o->o.data≠ .fields #[]->K'.lookup b=bB o
def U1(M:zZ K K'){a:bI}(h:lC K a x=bB r):lC K' a x=bB r:=by
 unfold lC at h|-;split at h
 .rename_i e;rw[M _ _ e λz=>by cases z];exact h
 .cases h
def Iz(M:zZ K K'){c:bJ}(h:EB K x c=bB r):EB K' x c=bB r:=by
 cases c with
 |ref a=>
  unfold EB at h|-;dsimp only at h|-;split at h
  .rename_i e;rw[M _ _ e λz=>by cases z];exact U1 M h
  .cases h
 |_=>exact h
theorem IB(M:zZ K K'):∀{l:bA bJ},Eo K x l=bB r->Eo K' x l=bB r
 | [],h=>h|c::l,h=>by
  unfold Eo at h|-;split at h
  .rename_i e;rw[Iz M e];exact h
  .rename_i e;rw[Iz M e];exact IB M h
  .cases h
def fe(M:zZ K K'){t:bJ}(h:pD K t x=bB r):pD K' t x=bB r:=by
 cases t with
 |ref a=>
  unfold pD at h|-;dsimp only at h|-;split at h
  .rename_i e;rw[M _ _ e λz=>by cases z];exact IB M h
  .cases h
 |_=>exact h
def qH.up(M:zZ K K')(c:qH K C):qH K' C:=by
 have e:∃oc od cd sl,K.lookup C=bB ⟨oc,od,.cls cd,sl⟩:=by
  have:=c.hd;unfold gx rh at this;split at this
  .rename_i e;exact⟨_,_,_,_,e⟩
  .cases this
 obtain⟨oc,od,cd,sl,e⟩:=e;have e':=M _ _ e λz=>by cases z
 have h1:=c.hd;have h2:=c.po;have h3:=c.pg;unfold gx rh at h1;unfold qh rh at h2;unfold g7 at h3;rw[e]at h1 h2;rw[dB,qW,qW]at h3;refine⟨?_,?_,?_,fe M c.sa⟩
 .unfold g7;rw[dB,qW,qW];exact⟨fe M h3.1,fe M h3.2⟩
 .unfold gx rh;rw[e'];exact h1
 .unfold qh rh;rw[e'];exact h2
def IC(M:zZ K K')(h1:aL K (.ref f)=bC)(h2:lY K (.ref f)=bC){d:gJ}(e:K.lookup f=bB ⟨oc,od,.func d,sl⟩):aL K' (.ref f)=bC/\lY K' (.ref f)=bC:=by
 have e':=M _ _ e λz=>by cases z
 unfold aL kl at h1|-;unfold lY at h2|-;dsimp only at h1|-;rw[e]at h1;rw[e'];exact⟨h1,rfl⟩
def Mk.up(M:zZ K K')(m:qq K C=bC)(i:pD K (.ref C) "__init__" =bB (bB (.ref f)))(h1:aL K (.ref f)=bC)(h2:lY K (.ref f)=bC){d:gJ}(e:K.lookup f=bB ⟨oc,od,.func d,sl⟩)
 {oe:bQ bI} {cd:ClassData} (hc:K.lookup C=bB ⟨.type "type",oe,.cls cd,sm⟩) (hk:lY K (.ref C)=bC):Mk K' C f:=by
 have hc':=M _ _ hc λz=>by cases z
 have t:kl K (.ref C)=bB (.type "type"):=by unfold kl;dsimp only;rw[hc];rfl
 have t':kl K' (.ref C)=bB (.type "type"):=by unfold kl;dsimp only;rw[hc'];rfl
 have hs:∀y,xk K' (.ref C) y=xk K (.ref C) y:=λy=>by unfold xk;rw[t,t'];rfl
 have hi:∀y,EA K' (.ref C) y=EA K (.ref C) y:=λy=>by unfold EA;rw[t,t'];rfl
 refine⟨?_,fe M i,(IC M h1 h2 e).1,?_⟩
 .unfold qq at m|-;rw[hc]at m;rw[hc'];simp only[hs,hi];exact m
 .unfold lY at hk|-;dsimp only at hk|-;rw[hc]at hk;rw[hc'];simp only[hs];exact hk
end
variable [fZ] [Pd]
def U2{w:cF}{f:bI}(h:∀ds,m ds= .bad):dZ P w K mg base fF n f fd ps (wN K j (pX m)):=by
 have z:∀vs H Q E,¬ wN K j (pX m) vs H Q E:=λvs H Q E h'=>by obtain⟨F,a,s,ds,pre,post,_,_,_,_,_,_,q⟩:=h';unfold pX at q;rw[h]at q;cases s<;>exact q
 exact⟨λvs H Q E q=>dD q (z vs H Q E),λA outer s H args us vs Q E hr e0 hb r q=>dD q (z _ _ _ _)⟩
def U3{w:cF}{f:bI}(h:∀ds,m ds= .bad):dZ P w K mg base fF n f fd ps (eZ K m):=by
 have z:∀vs H Q E,¬ eZ K m vs H Q E:=λvs H Q E h'=>by obtain⟨F,ds,_,_,_,q⟩:=h';rw[h]at q;exact q
 exact⟨λvs H Q E q=>dD q (z vs H Q E),λA outer s H args us vs Q E hr e0 hb r q=>dD q (z _ _ _ _)⟩
end
end R
section
open PySem PySem.Spec PyProof.Rows L2 R
open R.D renaming str->bE,int->bF
local macro_rules| `($i:num ^^^ $k:num)=> `(m2 cV (gv $i) (kc (.int $k)))
local macro_rules| `(.($k:num))=> `(kc (.int $k))
local macro_rules| `(.($k:str))=> `(kc (.str $k))
local macro_rules| `(@$k:num)=> `(gv $k)
local macro_rules (kind:= «term{_}»)| `({$x:term,*})=>do
 let r:Lean.Term <-x.getElems.foldrM (λx (r:Lean.Term)=> `(aC $x $r)) (<- `(fP))
 return r
local macro_rules| `(#[$xs,*])=>do
 if xs.getElems.isEmpty then Lean.Macro.throwUnsupported
 let ys <-xs.getElems.mapM λ(x:Lean.Term)=>match x with
  | `(())=> `(.no)
  | `(.row $_ $_ $_)=>pure x
  |_=> `(.val $x)
 `([$ys,*])
namespace Jm
section
variable [fZ] [Pd]
noncomputable def cU(i:bD):dN:=vy.main.body.getD i (.Pass ⟨0,0,0,0⟩)
noncomputable def U4(s:dN):bA dN:=match s with| .ClassDef _ _ _ b _ _ _ _ _ _ _=>b|_=>[]
def om(i j:bD):dN:=(U4 (cU i)).getD j (.Pass ⟨0,0,0,0⟩)
abbrev s4:dN:=cU 19
noncomputable abbrev N4:bA Str:=["thing","most","holds","item"]
abbrev s5:dN:=cU 20
noncomputable abbrev N5:bA Str:=["thing","most"]
abbrev s9:dN:=cU 24
noncomputable abbrev N9:bA Str:=["thing","around"]
abbrev lP:dN:=cU 26
noncomputable abbrev ID:bA Str:=["thing","around"]
abbrev rN:dN:=cU 31
noncomputable abbrev Bn:bA Str:=["thing"]
abbrev Bo:dN:=cU 33
noncomputable abbrev IG:bA Str:=["thing"]
abbrev oo:dN:=om 55 0
noncomputable def jg:D:=.int 999999
def ab:bA Str:=["face","unit","take","from","word","deed","with","own","do","done","let","be","if","then","else","while","give","tell","get","new","hand","to","await","call","and","end"]
def Bp:D:=.t (ab.map .str)
noncomputable def fg:D:=.int 12
noncomputable def oq:D:=.int 6
noncomputable def Br:D:=.int 8
noncomputable def Bs:D:=.int 6
noncomputable def ot:D:=.int 4
noncomputable def ou:D:=.int 4
noncomputable def Bt:D:=.int 8
noncomputable def ox:D:=.int 6
noncomputable def fh:bA Str:=["WORD","DEED"]
def ae:D:=.t (fh.map .str)
noncomputable def oy:bA Str:=["WORD","DEED","EXPRESSION","PARTS","BLOCK"]
def tG:D:=.t (oy.map .str)
noncomputable def fj:bA Str:=["+","-","*","<","="]
def oz:D:=.t (fj.map .str)
def qP:bA (Str×D):=[("let",.t [.str "WORD",.str "be",.str "EXPRESSION"]),("if",.t [.str "EXPRESSION",.str "then",.str "BLOCK",.str "else",.str "BLOCK"]),("while",.t [.str "EXPRESSION",.str "do",.str "BLOCK"]),("do",.t [.str "DEED",.str "PARTS"]),("give",.t [.str "EXPRESSION"]),("tell",.t [.str "EXPRESSION"]),("get",.t [.str "WORD"]),("new",.t [.str "WORD",.str "deed",.str "DEED"]),("hand",.t [.str "WORD",.str "to",.str "EXPRESSION"]),("await",.t [.str "WORD",.str "and",.str "WORD"])]
noncomputable def yH:D:=.t [.str "WORD",.int 0]
inductive Fn where
 |q0|q1|q2|q3|q4|q5|q6|q7|q8|q9|q10|q11|q12|q13|q14|q15|q16|q17|q18|q19|q20|q21|q22|q23|q24|q25|q26|q27|q28|q29|q30|q31|q32|read|q34|q35|q36|q37|q38|q39|q40|q41|q42|q43|q44|q45|q46|q47|q48|q49|q50|q51|q52|q53|q54|q55|q56|q57|q58|q59|q60|q61|q62|q63|q64|q65|q66|q67|q68|q69|q70|q71|q72|q73|law|q75|q76|skip|q78
noncomputable abbrev CT:=Fn->bA D->bP D
def Bu(C C':CT):MS:=bW (mE (m1 (nD "int") @0) (mf (m1 (nD "bool") @0)))
def Bv(C C':CT):MS:=bW (mE (mA (C .q0) {@0}) (qI lV lV (m1 ml (kc jg)) @0 (kc jg)))
def Bw(C C':CT):MS:=bL (bY (kO (gU (mT (m1 (nD "str") @0))) (gU (mB (qI lV lV .(1) (mA fS {@0}) (kc Br))))) (bW (kc (.b bH))) (cE)) (bW (mE (mA a8 {(gO [] (fA @0) (λ_=>.ok bC) (qI lV lV .("a") @0 .("z")))}) (m2 (dU bC) @0 (kc Bp))))
def Bx(C C':CT):MS:=bW (mE (m1 (nD "tuple") @0) (m2 cY (mA fS {@0}) @1))
def fk(C:CT)(v:V)(cl:bA (bI×HO))(m:bA D->bP D):MS:=bL (bY (kO (gU (mT (m1 (nD "tuple") @0))) (mB (m2 nV (mA fS {@0}) @1))) (bW (kc (.b bH))) (cE)) (bL (jP 3 (fA @0) (bY (gU (mT (be 2 v cl m {@3}))) (bW (kc (.b bH))) (cE))) (bW (kc (.b bC))))
def uR(C C':CT):MS:=bW (mA (lN (C' .q2)) {@0,@1})
def By(C C':CT):MS:=bW (m2 cY (m1 iW @0) (mA fS {@0}))
def Bz(C C':CT):MS:=bL (bY (mZ (mT (m1 (nD "tuple") @0)) (mZ (mB (m2 nV (mA fS {@0}) .(0))) (mT (m1 (nD "str") (0^^^0))))) (bW (0^^^0)) (cE)) (bW .(""))
def BA(C C':CT):MS:=bL (cR 2 (mA (C .q7) {@0})) (bL (bY (mB (m2 nV @1 (kc fg))) (bW (kc (.b bH))) (cE)) (bL (bY (mB (m2 cY @2 .("number"))) (bW (mE (mA (C .q3) {@0,.(2)}) (mA (C .q1) {0^^^1}))) (cE)) (bL (bY (mB (m2 cY @2 .("name"))) (bW (mE (mA (C .q3) {@0,.(2)}) (mA (C .q2) {0^^^1}))) (cE)) (bL (bY (mB (m2 cY @2 .("call"))) (bW (mE (mA (C .q3) {@0,.(3)}) (mE (mA (C .q2) {0^^^1}) (mA (C .q9) {0^^^2,(m2 bZ @1 .(1))})))) (cE)) (bL (bY (kO (mB (m2 (dU bC) @2 (kc oz))) (gU (mT (mA (C .q3) {@0,.(3)})))) (bW (kc (.b bH))) (cE)) (bW (mE (mA (C .q8) {0^^^1,(m2 bZ @1 .(1))}) (mA (C .q8) {0^^^2,(m2 bZ @1 .(1))}))))))))
def uS(C C':CT):MS:=bW (iR @0 (kc ou) 1 λi=>lN (sI i (mA (C' .q8) {@0,@1})))
def BB(C C':CT):MS:=bW (mA (C .q11) {@0,.(0)})
def uT(C C':CT):MS:=bL (bY (gU (mT (m1 (nD "tuple") @0))) (bW (kc (.b bH))) (cE)) (bW (iR @0 (mA fS {@0}) 1 λi=>lN (sI i (mA (C' .q12) {@0,@1}))))
def BC(C C':CT):MS:=bL (cR 2 (mA (C .q7) {@0})) (bL (bY (kO (mB (m2 nV @1 (kc fg))) (mB (m1 (yC qP bC) @2))) (bW (kc (.b bH))) (cE)) (bL (cR 3 (mA (C .q13) {@2})) (bL (bY (mB (m2 kH (mA fS {@0}) (m2 bZ (mA fS {@3}) .(1)))) (bW (kc (.b bH))) (cE)) (bL (vQ 4 5 (eP @3 (xW @0 (xV .(1)) (zR))) (bY (gU (mT (mA (C .q14) {@4,@5,(m2 bZ @1 .(1))}))) (bW (kc (.b bH))) (cE))) (bW (kc (.b bC)))))))
def BD(C C':CT):MS:=bW (gO [] (fA (m1 (yD qP) @0)) (mB (m2 (dU bH) @0 (kc tG))) @0)
def BE(C C':CT):MS:=bL (bY (mB (m2 (dU bH) @0 (kc ae))) (bW (mA (C .q2) {@1})) (cE)) (bL (bY (mB (m2 cY @0 .("EXPRESSION"))) (bW (mA (C .q8) {@1,@2})) (cE)) (bL (bY (mB (m2 cY @0 .("PARTS"))) (bW (mA (C .q9) {@1,@2})) (cE)) (bW (mA (C .q11) {@1,@2}))))
def BF(C C':CT):MS:=bL (bY (kO (gU (mT (mA (C .q3) {@0,.(4)}))) (gU (mT (mA (C .q2) {0^^^0})))) (bW (kc (.b bH))) (cE)) (bL (bY (kO (gU (mT (mA (C .q5) {0^^^1,(kc ot)}))) (gU (mT (mA (C .q5) {0^^^2,(kc Bs)})))) (bW (kc (.b bH))) (cE)) (bW (mE (mA (C .q6) {(m2 bZ (0^^^1) (0^^^2))}) (mA (C .q10) {0^^^3}))))
def jh(C C':CT):MS:=bL (bY (kO (gU (mT (mA (C .q3) {@0,.(3)}))) (gU (mT (mA (C .q2) {0^^^0})))) (bW (kc (.b bH))) (cE)) (bL (bY (kO (gU (mT (mA (C .q5) {0^^^1,(kc ox)}))) (gU (mT (mA (lN (C' .q17)) {0^^^2,(kc oq)})))) (bW (kc (.b bH))) (cE)) (bW (mA (C .q6) {(m2 bZ (mA sD {0^^^1}) (gO [] (fA (0^^^2)) (λ_=>.ok bC) (0^^^0)))})))
def BG(C C':CT):MS:=bW (mE (mA (C .q3) {@0,.(2)}) (mE (mA (C .q2) {0^^^0}) (mE (mA (C .q0) {0^^^1}) (qI lV lV .(0) (0^^^1) (kc ot)))))
def uU(C C':CT):MS:=bL (bY (kO (gU (mT (mA (C .q3) {@0,.(5)}))) (gU (mT (mA (C .q2) {0^^^0})))) (bW (kc (.b bH))) (cE)) (bL (bY (kO (gU (mT (mA (lN (C' .q19)) {0^^^1,(kc Bt)}))) (gU (mT (mA (C .q5) {0^^^2,(kc ox)})))) (bW (kc (.b bH))) (cE)) (bW (mE (mA (lN (C' .q15)) {0^^^3,(kc oq)}) (mA (C .q10) {0^^^4}))))
def BH(C C':CT):MS:=bW (mE (mA (C .q3) {@0,.(2)}) (mE (mA (C .q2) {0^^^0}) (mA (C .q2) {0^^^1})))
def BI(C C':CT):MS:=bL (nH 3 (e5 (C .q21) {@2})) (bL (kP 3 4 (fV 3 (C .q22) {@0,@1})) (bL (bY (mB (m2 (jQ bH) @4 (kc .n))) (kP 3 4 (fV 3 (C .q23) {@0})) (cE)) (bL (bY (mB (m2 (jQ bH) @4 (kc .n))) (kP 3 4 (fV 3 (C .q24) {@0,@2})) (cE)) (bL (jV 3) (bL (bY (mB (m2 (jQ bH) @4 (kc .n))) (cR 4 (mA (C .q25) {@0,@3})) (cE)) (bW @4))))))
def oA(C C':CT):MS:=bL (nH 1 (iX)) (bL (bY (mB (m2 (jQ bC) @0 (kc .n))) (bL (jP 2 (fA (0^^^1)) (nJ 1 @2 (kc yH))) (jP 3 (fA (0^^^2)) (nJ 1 (3^^^0) (mA cP {.("DEED"),3^^^1})))) (cE)) (jc 1))
def uV(C C':CT):MS:=bL (vQ 3 4 (fA (0^^^1)) (bL (bY (gZ 2 (kO (mB (m2 cY @3 (0^^^0))) (mB (m2 (dU bC) @3 @1)))) (gP 2 (xP 2 (mA cP {.("noface"),@3}))) (cE)) (bL (nH 5 (e5 (C .q21) {(m2 cV @1 @3)})) (bL (jV 5) (bL (bY (gZ 2 (mB (m2 (dU bC) @4 @5))) (gP 2 (xP 2 (mA cP {.("nottold"),@4}))) (cE)) (bL (bY (gZ 2 (mB (m2 (dU bH) @4 @2))) (gP 2 (xP 2 (mA cP {.("twice"),@4}))) (cE)) (nJ 2 @4 (m2 cV @5 @4)))))))) (gP 2 (xP 2 (kc .n)))
def uW(C C':CT):MS:=bL (jP 2 (fA (0^^^2)) (bL (bY (gZ 1 (mB (m2 (dU bH) @2 @1))) (gP 1 (xP 1 (mA cP {.("twice"),@2}))) (cE)) (nJ 1 @2 (kc yH)))) (gP 1 (xP 1 (kc .n)))
def uX(C C':CT):MS:=bL (nH 3 (eR (mB (m2 (jQ bH) @1 (kc .n))) (iX) (wO (1^^^2)))) (bL (jP 4 (fA (0^^^3)) (bL (cR 5 (4^^^0)) (bL (cR 6 (mA fS {4^^^1})) (bL (bY (gZ 3 (gZ 2 (mB (m2 (dU bH) @5 @3)))) (iY 3 (eY 3 @5) kH @6 (gP 3 (xP 3 (mA cP {.("count"),@5})))) (bY (gZ 3 (gZ 2 (mB (m2 (dU bH) @5 @2)))) (gP 3 (xP 3 (mA cP {.("twice"),@5}))) (cE))) (nJ 2 @5 (mA cP {.("DEED"),@6})))))) (bL (bY (gZ 3 (gZ 2 (mB (m2 nV (mA fS {@3}) .(0))))) (gP 3 (xP 3 (mA cP {.("lacks"),(m2 cV (mA sD {@3}) .(0))}))) (cE)) (gP 3 (xP 3 (kc .n)))))
def BJ(C C':CT):MS:=bL (jP 2 (fA (0^^^3)) (bL (nH 3 (wO @1)) (bL (jP 4 (fA (m2 bZ (2^^^1) (2^^^2))) (nJ 3 @4 (kc yH))) (bL (jV 3) (bL (cR 5 (mA (C .q26) {2^^^3,@3})) (bY (mB (m2 (jQ bC) @5 (kc .n))) (bW @5) (cE))))))) (bW (mA (C .q26) {0^^^4,@1}))
def BK(C C':CT):MS:=bL (jP 2 (fA (mA (C .q28) {@0})) (bL (cR 3 (mA (C .q27) {@2,@1})) (bY (mB (m2 (jQ bC) @3 (kc .n))) (bW @3) (cE)))) (bW (kc .n))
def fm(C C':CT):MS:=bL (cR 2 (0^^^1)) (bL (bY (mB (m2 (dU bC) @2 @1)) (bW (mA cP {.("unknown"),@2})) (cE)) (bL (cR 3 (m2 cV @1 @2)) (bL (bY (mB (m2 cY (0^^^0) .("COUNT"))) (bW (wJ (mB (m2 kH (3^^^1) (0^^^2))) (mA cP {.("count"),@2}) (kc .n))) (cE)) (bW (wJ (mB (m2 kH (3^^^0) (0^^^0))) (mA cP {.("sort"),@2}) (kc .n))))))
def BL(C C':CT):MS:=bL (pW 1) (bL (jP 2 (fA @0) (kA 1 (mA (C .q29) {@2}))) (bL (jV 1) (bW @1)))
def BM(C C':CT):MS:=bL (pW 1) (bL (vQ 2 3 (eP (mA (C .q13) {0^^^0}) (xW @0 (xV .(1)) (zR))) (kA 1 (mA (C .q30) {@2,@3}))) (bL (bY (mB (m2 cY (0^^^0) .("do"))) (tB 1 (mA cP {.("COUNT"),0^^^1,(mA fS {0^^^2})})) (cE)) (bL (bY (mB (m2 cY (0^^^0) .("new"))) (tB 1 (mA cP {.("COUNT"),0^^^2,.(0)})) (cE)) (bL (jV 1) (bW @1)))))
def BN(C C':CT):MS:=bL (bY (mB (m2 (dU bH) @0 (kc ae))) (bW (mA hU {(mA cP {@0,@1,.(0)})})) (cE)) (bL (bY (mB (m2 cY @0 .("EXPRESSION"))) (bW (mA (C .q31) {@1})) (cE)) (bL (bY (mB (m2 cY @0 .("PARTS"))) (bW (mA (C .q32) {@1})) (cE)) (bW (mA (C .q28) {@1}))))
def BO(C C':CT):MS:=bL (cR 1 (0^^^0)) (bL (bY (mB (m2 cY @1 .("number"))) (bW (mA hU (fP))) (cE)) (bL (bY (mB (m2 cY @1 .("name"))) (bW (mA hU {(mA cP {.("WORD"),0^^^1,.(0)})})) (cE)) (bL (bY (mB (m2 cY @1 .("call"))) (bL (cR 2 (0^^^1)) (bL (cR 3 (0^^^2)) (bW (m2 bZ (m2 bZ (mA hU {(mA cP {.("DEED"),@2,.(0)})}) (mA (C .q32) {@3})) (mA hU {(mA cP {.("COUNT"),@2,(mA fS {@3})})}))))) (cE)) (bW (mA (C .q32) {(xW @0 (xV .(1)) (zR))})))))
def BP(C C':CT):MS:=bL (pW 1) (bL (jP 2 (fA @0) (kA 1 (mA (C .q31) {@2}))) (bL (jV 1) (bW @1)))
def oB(C C':CT):MS:=bL (nH 1 (nv @0)) (bL (kP 1 2 (eV (mB (m2 cY (mP 1 (C .q75)) .("face"))) (fV 1 (C .q34) (fP)) (fV 1 (C .q35) (fP)))) (bL (bY (gU (mT (mP 1 (C .q78)))) (yG) (cE)) (bL (bY (mZ (gU (mT (mA (C .q16) {@2}))) (gU (mT (mA (C .q18) {@2})))) (yG) (cE)) (bW @2))))
def BQ(C C':CT):MS:=bL (lO 0 (jL 0 (C .skip) {.("face")})) (bL (kP 0 1 (fV 0 (C .q46) (fP))) (bL (kP 0 2 (fV 0 (C .q37) (fP))) (bL (pW 3) (bL (zX (mB (m2 cY (mP 0 (C .q75)) .("deed"))) (bL (lO 0 (jL 0 (C .skip) {.("deed")})) (bL (kP 0 4 (fV 0 (C .q46) (fP))) (nX 0 3 (sO cP (sM @4 (sL (fV 0 (C .q47) (fP))))))))) (bL (jV 3) (bL (lO 0 (jL 0 (C .skip) {.("done")})) (gP 0 (xP 0 (mA cP {@1,@2,(mA lK {@3})})))))))))
def BR(C C':CT):MS:=bL (lO 0 (jL 0 (C .skip) {.("unit")})) (bL (kP 0 1 (fV 0 (C .q46) (fP))) (bL (pW 2) (bL (zX (mB (m2 cY (mP 0 (C .q75)) .("take"))) (nX 0 2 (fV 0 (C .q36) (fP)))) (bL (jV 2) (bL (kP 0 3 (fV 0 (C .q37) (fP))) (bL (pW 4) (bL (zX (mB (m2 cY (mP 0 (C .q75)) .("deed"))) (nX 0 4 (fV 0 (C .q38) (fP)))) (bL (jV 4) (bL (lO 0 (jL 0 (C .skip) {.("do")})) (bL (kP 0 5 (fV 0 (C .q40) {.(0)})) (bL (lO 0 (jL 0 (C .skip) {.("done")})) (gP 0 (xP 0 (mA cP {@1,(mA lK {@2}),@3,(mA lK {@4}),@5}))))))))))))))
def BS(C C':CT):MS:=bL (lO 0 (jL 0 (C .skip) {.("take")})) (bL (kP 0 1 (fV 0 (C .q46) (fP))) (bL (lO 0 (jL 0 (C .skip) {.("from")})) (gP 0 (sO cP (i8 0 (fV 0 (C .q46) (fP)) (sL (xP 0 @1)))))))
def BU(C C':CT):MS:=bL (pW 1) (bL (zX (mB (m2 cY (mP 0 (C .q75)) .("word"))) (bL (lO 0 (jL 0 (C .skip) {.("word")})) (nX 0 1 (fV 0 (C .q46) (fP))))) (bL (jV 1) (gP 0 (xP 0 (mA lK {@1})))))
def BV(C C':CT):MS:=bL (lO 0 (jL 0 (C .skip) {.("deed")})) (bL (kP 0 1 (fV 0 (C .q46) (fP))) (bL (lO 0 (jL 0 (C .skip) {.("with")})) (bL (kP 0 2 (fV 0 (C .q39) {.("own")})) (bL (kP 0 3 (fV 0 (C .q39) {.("do")})) (gP 0 (sO cP (sM @1 (sM @2 (sM @3 (sL (fV 0 (C .q40) {.(0)})))))))))))
def BW(C C':CT):MS:=bL (pW 2) (bL (zX (mB (m2 kH (mP 0 (C .q75)) @1)) (nX 0 2 (fV 0 (C .q46) (fP)))) (bL (jV 2) (bL (lO 0 (jL 0 (C .skip) {@1})) (gP 0 (xP 0 (mA lK {@2}))))))
def BX(C C':CT):MS:=bL (pW 2) (bL (zX (mB (m2 kH (mP 0 (C .q75)) .("end"))) (nX 0 2 (fV 0 (C .q41) {@1}))) (bL (jV 2) (bL (lO 0 (jL 0 (C .skip) {.("end")})) (gP 0 (xP 0 (mA lK {@2}))))))
def BY(C C':CT):MS:=bL (eA (mA (C .q44) {@1})) (bL (kP 0 2 (jL 0 (C .q76) (fP))) (bL (bY (mB (m1 (yC qP bC) @2)) (yG) (cE)) (bL (nH 3 (bg {@2})) (bL (jP 4 (fA (m1 (yD qP) @2)) (bY (mB (m2 (dU bH) @4 (kc tG))) (nX 0 3 (fV 0 (C .q42) {@4,(m2 bZ @1 .(1))})) (lO 0 (jL 0 (C .skip) {@4})))) (bL (jV 3) (gP 0 (xP 0 (mA lK {@3}))))))))
def BZ(C C':CT):MS:=bL (bY (mB (m2 (dU bH) @1 (kc ae))) (gP 0 (fV 0 (C .q46) (fP))) (cE)) (bL (bY (mB (m2 cY @1 .("EXPRESSION"))) (gP 0 (fV 0 (C .q43) {@2})) (cE)) (bL (bY (mB (m2 cY @1 .("PARTS"))) (gP 0 (fV 0 (C .q45) {@2})) (cE)) (gP 0 (fV 0 (C .q40) {@2}))))
def B0(C C':CT):MS:=bL (eA (mA (C .q44) {@1})) (bL (cR 2 (mP 0 (C .q75))) (bL (bY (mT (mA (C .q2) {@2})) (gP 0 (sO cP (sM .("name") (sL (fV 0 (C .q46) (fP)))))) (cE)) (bL (bY (mB (m2 cY @2 .("call"))) (bL (lO 0 (jL 0 (C .skip) {.("call")})) (bL (kP 0 3 (fV 0 (C .q46) (fP))) (gP 0 (sO cP (sM .("call") (sM @3 (sL (fV 0 (C .q45) {(m2 bZ @1 .(1))})))))))) (cE)) (bL (bY (mB (m2 (dU bH) @2 (kc oz))) (bL (lO 0 (jL 0 (C .skip) {@2})) (bL (kP 0 4 (fV 0 (C .q43) {(m2 bZ @1 .(1))})) (bL (kP 0 5 (fV 0 (C .q43) {(m2 bZ @1 .(1))})) (gP 0 (xP 0 (mA cP {@2,@4,@5})))))) (cE)) (gP 0 (sO cP (sM .("number") (sL (fV 0 (C .q47) (fP))))))))))
def B1(C C':CT):MS:=bY (mB (m2 nV @0 (kc fg))) (yG) (cE)
def B2(C C':CT):MS:=bL (kP 0 2 (fV 0 (C .q47) (fP))) (bL (bY (gU (mB (qI lV lV .(0) @2 (kc ou)))) (yG) (cE)) (gP 0 (sO lK (sL (ja 0 [0,1] (kG @2) (fV 1 (C .q43) {@2}))))))
def B3(C C':CT):MS:=bL (kP 0 1 (jL 0 (C .q76) (fP))) (bL (bY (gU (mT (mA (C .q2) {@1}))) (yG) (cE)) (gP 0 (xP 0 @1)))
def B4(C C':CT):MS:=bL (kP 0 1 (jL 0 (C .q76) (fP))) (bL (cR 2 (wJ (mT (vJ vK @1 {.("-")})) (xW @1 (xV .(1)) (zR)) @1)) (bL (bY (kO (gU (mT (mA (C .q48) {@2}))) (mZ (mT (vJ vK @2 {.("0")})) (mB (m2 kH @1 .("0"))))) (yG) (cE)) (gP 0 (xP 0 (mA yE {@1})))))
def B5(C C':CT):MS:=bL (bY (gU (mB (qI lV lV .(1) (mA fS {@0}) (mA fS {(mA vI {(kc jg)})})))) (bW (kc (.b bH))) (cE)) (bW (mA a8 {(gO [] (fA @0) (λ_=>.ok bC) (qI lV lV .("0") @0 .("9")))}))
def oC(C C':CT):MS:=bL (bY (mT (mA (C .q16) {@0})) (bW (vJ eU .(" ") {(mA (C .q50) {@0})})) (cE)) (bL (bY (mT (mA (C .q18) {@0})) (bW (vJ eU .(" ") {(mA (C .q51) {@0})})) (cE)) (yG))
def B6(C C':CT):MS:=bL (nH 1 (m9 (mA hU {.("face"),0^^^0}) (mA (C .q52) {0^^^1}))) (bL (jP 2 (fA (0^^^2)) (kA 1 (mA hU {.("deed"),2^^^0,(mA vI {2^^^1})}))) (bL (jV 1) (bW (m2 bZ @1 (mA hU {.("done")})))))
def B7(C C':CT):MS:=bL (nH 1 (bg {.("unit"),0^^^0})) (bL (jP 2 (fA (0^^^1)) (kA 1 (mA hU {.("take"),2^^^1,.("from"),2^^^0}))) (bL (kA 1 (mA (C .q52) {0^^^2})) (bL (jP 3 (fA (0^^^3)) (kA 1 (mA (C .q53) {@3}))) (bL (jV 1) (bW (m2 bZ (m2 bZ (m2 bZ @1 (mA hU {.("do")})) (mA (C .q54) {0^^^4})) (mA hU {.("done")})))))))
def B8(C C':CT):MS:=bL (pW 1) (bL (jP 2 (fA @0) (kA 1 (mA hU {.("word"),@2}))) (bL (jV 1) (bW @1)))
def B9(C C':CT):MS:=bW (m2 bZ (m2 bZ (m2 bZ (m2 bZ (m2 bZ (mA hU {.("deed"),0^^^0,.("with")}) (mA sD {0^^^1})) (mA hU {.("own")})) (mA sD {0^^^2})) (mA hU {.("do")})) (mA (C .q54) {0^^^3}))
def Ca(C C':CT):MS:=bL (pW 1) (bL (jP 2 (fA @0) (kA 1 (mA (C .q55) {@2}))) (bL (jV 1) (bW (m2 bZ @1 (mA hU {.("end")})))))
def Cb(C C':CT):MS:=bL (nH 1 (bg {0^^^0})) (bL (cR 2 .(1)) (bL (jP 3 (fA (m1 (yD qP) (0^^^0))) (bY (mB (m2 (dU bH) @3 (kc tG))) (bL (kA 1 (mA (C .q56) {@3,(m2 cV @0 @2)})) (eS 2 .(1))) (tB 1 @3))) (bL (jV 1) (bW @1))))
def Cd(C C':CT):MS:=bL (bY (mB (m2 (dU bH) @0 (kc ae))) (bW (mA hU {@1})) (cE)) (bL (bY (mB (m2 cY @0 .("EXPRESSION"))) (bW (mA (C .q57) {@1})) (cE)) (bL (bY (mB (m2 cY @0 .("PARTS"))) (bW (mA (C .q58) {@1})) (cE)) (bW (mA (C .q54) {@1}))))
def Ce(C C':CT):MS:=bL (cR 1 (0^^^0)) (bL (bY (mB (m2 cY @1 .("number"))) (bW (mA hU {(mA vI {0^^^1})})) (cE)) (bL (bY (mB (m2 cY @1 .("name"))) (bW (mA hU {0^^^1})) (cE)) (bL (bY (mB (m2 cY @1 .("call"))) (bW (m2 bZ (mA hU {.("call"),0^^^1}) (mA (C .q58) {0^^^2}))) (cE)) (bW (m2 bZ (m2 bZ (mA hU {@1}) (mA (C .q57) {0^^^1})) (mA (C .q57) {0^^^2}))))))
def Cf(C C':CT):MS:=bL (nH 1 (bg {(mA vI {(mA fS {@0})})})) (bL (jP 2 (fA @0) (kA 1 (mA (C .q57) {@2}))) (bL (jV 1) (bW @1)))
def Cg(C C':CT):MS:=bL (bY (mB (m2 xS @1 (mA fS {@0}))) (bW (m2 cV @0 @1)) (cE)) (bW .(0))
def Ch(C C':CT):MS:=bL (cR 2 (m2 dS (m2 kY (m2 bZ (m2 bZ (mA (C .q59) {@0,@1}) (m2 kY .(7919) @1)) .(1)) .(48271)) .(2147483647))) (bW (m2 dS (m2 bZ (m2 bZ (m2 kY @2 @2) (m2 kY .(7) @2)) @1) .(2147483629)))
def Ci(C C':CT):MS:=bL (cR 2 (m2 dS (m2 kY (m2 bZ (m2 bZ @0 (m2 kY .(104729) @1)) .(17)) .(69621)) .(2147483647))) (bW (m2 dS (m2 bZ (m2 bZ (m2 kY @2 @2) (m2 kY .(3) @2)) @1) .(2147483629)))
def Cj(C C':CT):MS:=bL (cR 1 .("abcdefghijklmnopqrstuvwxyz")) (bL (cR 2 .("")) (bL (jP 3 (kG (m2 dS @0 .(7))) (cR 2 (m2 bZ @2 (m2 cV @1 (m2 dS (m2 jC @0 (m2 bZ .(7) (m2 kY .(26) @3))) .(26)))))) (bW @2)))
def Ck(C C':CT):MS:=bL (bY (mB (m2 cY (m2 dS @0 .(9)) .(4))) (bW (m2 sC (m2 dS (m2 jC @0 .(9)) .(1999999)) .(999999))) (cE)) (bW (m2 sC (m2 dS (m2 jC @0 .(9)) .(14)) .(4)))
def Cm(C C':CT):MS:=bL (cR 4 (m2 dS @0 .(9))) (bL (bY (kO (mB (m2 cY @3 .(0))) (mB (m2 xS @4 .(2)))) (bW (mA cP {.("number"),(mA (C .q63) {(m2 jC @0 .(9))})})) (cE)) (bL (bY (mB (m2 xS @4 .(5))) (bW (mA cP {.("name"),(m2 cV @1 (m2 dS (m2 jC @0 .(9)) (mA fS {@1})))})) (cE)) (bL (bY (mZ (mB (m2 cY @4 .(5))) (mB (m2 nV (mA fS {@2}) .(0)))) (bL (bc 5 6 (m2 cV @2 (m2 dS (m2 jC @0 .(9)) (mA fS {@2})))) (bL (qL 7 [1,2,0,3] (kG @6) (λ_=>.ok bC) (mA (C .q64) {(mA (C .q61) {@3,@0}),@1,@2,(m2 sC @4 .(1))})) (bW (mA cP {.("call"),@5,(mA lK {@7})})))) (cE)) (bL (cR 8 (mA (C .q64) {(mA (C .q61) {@0,.(5)}),@1,@2,(m2 sC @3 .(1))})) (bL (cR 9 (mA (C .q64) {(mA (C .q61) {@0,.(6)}),@1,@2,(m2 sC @3 .(1))})) (bW (mA cP {(m2 cV .("+-*<=") (m2 dS (m2 jC @0 .(9)) .(5))),@8,@9})))))))
def Co(C C':CT):MS:=bL (cR 4 (m2 cV @1 (m2 dS (m2 jC @0 .(16)) (mA fS {@1})))) (bL (cR 5 (mA (C .q64) {(mA (C .q61) {@0,.(1)}),@1,@2,.(2)})) (bL (cR 6 (m2 dS @0 .(16))) (bL (bY (mB (m2 xS @6 .(4))) (bW (mA cP {.("let"),@4,@5})) (cE)) (bL (bY (mB (m2 xS @6 .(6))) (bW (mA cP {.("tell"),@5})) (cE)) (bL (bY (mB (m2 cY @6 .(6))) (bW (mA cP {.("get"),@4})) (cE)) (bL (bY (mB (m2 cY @6 .(7))) (bW (mA cP {.("give"),@5})) (cE)) (bL (bY (mZ (mB (m2 cY @6 .(8))) (mB (m2 nV (mA fS {@3}) .(0)))) (bW (mA cP {.("new"),@4,(m2 cV @3 (m2 dS (m2 jC @0 .(256)) (mA fS {@3})))})) (cE)) (bL (bY (mB (m2 cY @6 .(9))) (bW (mA cP {.("hand"),@4,@5})) (cE)) (bL (bY (mB (m2 cY @6 .(10))) (bW (mA cP {.("hand"),@4,(mA cP {.("number"),(m2 bZ .(1) (m2 dS (m2 jC @0 .(256)) .(4)))})})) (cE)) (bL (bY (mB (m2 cY @6 .(11))) (bW (mA cP {.("await"),@4,(m2 cV @1 (m2 dS (m2 jC @0 .(256)) (mA fS {@1})))})) (cE)) (bL (bY (mB (m2 nV (mA fS {@2}) .(0))) (bL (bc 7 8 (m2 cV @2 (m2 dS (m2 jC @0 .(256)) (mA fS {@2})))) (bL (qL 9 [1,2,0] (kG @8) (λ_=>.ok bC) (mA (C .q64) {(mA (C .q61) {@3,(m2 bZ @0 .(2))}),@1,@2,.(1)})) (bW (mA cP {.("do"),@7,(mA lK {@9})})))) (cE)) (bW (mA cP {.("tell"),@5})))))))))))))
def Cp(C C':CT):MS:=bL (cR 5 (m2 dS @0 .(12))) (bL (bY (kO (mB (m2 cY @4 .(0))) (mB (m2 xS @5 .(9)))) (bW (mA (C .q65) {(m2 jC @0 .(12)),@1,@2,@3})) (cE)) (bL (cR 6 (mA (C .q64) {(mA (C .q61) {@0,.(1)}),@1,@2,.(2)})) (bL (cR 7 (mA (C .q67) {(mA (C .q61) {@0,.(2)}),(m2 dS (m2 jC @0 .(12)) .(4)),@1,@2,@3,(m2 sC @4 .(1))})) (bL (bY (mB (m2 cY @5 .(9))) (bW (mA cP {.("while"),@6,@7})) (cE)) (bL (bY (mB (m2 cY @5 .(10))) (bL (cR 8 (m2 cV @1 (m2 dS (m2 jC @0 .(48)) (mA fS {@1})))) (bL (cR 6 (mA cP {.("<"),(mA cP {.("name"),@8}),(mA cP {.("number"),(m2 dS (m2 jC @0 .(960)) .(9))})})) (bW (mA cP {.("while"),@6,(m2 bZ @7 (mA cP {(mA cP {.("let"),@8,(mA cP {.("+"),(mA cP {.("name"),@8}),(mA cP {.("number"),.(1)})})})}))})))) (cE)) (bW (mA cP {.("if"),@6,@7,(mA (C .q67) {(mA (C .q61) {@0,.(3)}),(m2 dS (m2 jC @0 .(48)) .(3)),@1,@2,@3,(m2 sC @4 .(1))})})))))))
def uY(C C':CT):MS:=bL (qL 6 [2,3,4,5,0] (kG @1) (λ_=>.ok bC) (mA (C .q66) {(mA (C .q61) {@5,@0}),@1,@2,@3,@4})) (bW (mA lK {@6}))
def Cq(C C':CT):MS:=bL (cR 3 .("abcdefghijklmnopqrstuvwxyz")) (bW (m2 bZ (m2 bZ (m2 bZ (xW (mA (C .q62) {@0}) (zR) (xV .(5))) (m2 cV @3 @1)) (m2 cV @3 @2)) .("z")))
def Cr(C C':CT):MS:=bL (cR 2 (mA (C .q60) {@0,.(0)})) (bL (cR 3 (mA (C .q60) {@0,(m2 bZ .(1) @1)})) (bL (bY (mB (m2 cY (m2 dS @3 .(6)) .(5))) (bW (kc .n)) (cE)) (bL (qL 4 [2,1] (kG (m2 dS @3 .(4))) (λ_=>.ok bC) (mA (C .q68) {@1,@2,@0})) (bL (qL 5 [2,1,3] (kG (m2 dS (m2 jC @3 .(6)) .(3))) (λ_=>.ok bC) (mA cP {(mA (C .q68) {@1,@2,(m2 bZ .(10) @0)}),(m2 dS (mA (C .q61) {@3,@0}) .(4))})) (bW (mA cP {(mA (C .q68) {@2,@1,.(25)}),(mA lK {@4}),(mA lK {@5})}))))))
def Cs(C C':CT):MS:=bL (pW 3) (bL (jP 4 (kG (m2 dS @2 .(7))) (bL (cR 5 (m2 cV @0 (m2 dS (mA (C .q61) {@2,@4}) (mA fS {@0})))) (bY (gZ 3 (mZ (mB (m2 (jQ bC) @5 (kc .n))) (mB (m2 kH (5^^^0) @1)))) (bL (cR 6 (m2 bZ (mA sD {5^^^1}) (gO [] (fA (5^^^2)) (kI (λ_=>.ok bC)) (kI @0)))) (bY (gZ 3 (mB (m2 nV (mA fS {@6}) .(0)))) (bL (cR 7 (mA cP {5^^^0,(m2 cV @6 (m2 dS (m2 jC (mA (C .q61) {@2,@4}) .(7)) (mA fS {@6})))})) (bY (gZ 3 (mB (m2 (dU bC) @7 @3))) (tB 3 @7) (cE))) (cE))) (cE)))) (bL (jV 3) (bW @3)))
def Ct(C C':CT):MS:=bL (cR 2 (mA hU (fP))) (bL (cR 3 (mA hU (fP))) (bL (vQ 4 5 (fA @1) (jP 6 (fA @0) (bY (mZ (mB (m2 (jQ bC) @6 (kc .n))) (mB (m2 cY (6^^^0) @4))) (bL (cR 2 (m2 bZ @2 (gO [5] (fA (6^^^1)) (mB (m2 cY @0 @1)) @0))) (cR 3 (m2 bZ @3 (gO [5] (fA (6^^^2)) (mB (m2 cY (0^^^0) @1)) @0)))) (cE)))) (bW (mA cP {@2,@3}))))
def Cu(C C':CT):MS:=bL (cR 4 (mA (C .q60) {@0,.(0)})) (bL (cR 5 (mA (C .q60) {@0,(m2 bZ .(5) @2)})) (bL (cR 6 (mA (C .q68) {@4,@2,.(25)})) (bL (cR 7 (mA (C .q70) {@1,@6,(m2 jC @5 .(3))})) (bL (bc 8 9 (mA (C .q71) {@1,@7})) (bL (qL 10 [4,2] (kG (m2 bZ .(1) (m2 dS @5 .(3)))) (λ_=>.ok bC) (mA (C .q68) {@1,@2,(m2 bZ .(5) @0)})) (bL (qL 11 [4,2,5] (kG (m2 dS (m2 jC @5 .(21)) .(3))) (λ_=>.ok bC) (mA cP {(mA (C .q68) {@1,@2,(m2 bZ .(13) @0)}),(m2 dS (mA (C .q61) {@3,@0}) .(4))})) (bL (bY (mB (m2 (jQ bC) (m2 cV @1 @2) (kc .n))) (bL (cR 8 (m2 bZ @8 (mA sD {(m2 cV (m2 cV @1 @2) .(1))}))) (cR 11 (m2 bZ (mA sD {(m2 cV (m2 cV @1 @2) .(2))}) @11))) (cE)) (bL (cR 8 (m2 bZ @8 @10)) (bL (cR 9 (m2 bZ @9 @11)) (bL (pW 12) (bL (vQ 13 14 (m5 @11) (bL (qL 15 [4,2] (kG (14^^^1)) (λ_=>.ok bC) (mA (C .q68) {@1,@2,(m2 bZ .(16) @0)})) (bL (cR 16 (gO [] (fA @9) (kI (mB (m2 cY @1 .(0)))) (kI @0))) (bL (cR 17 (mA (C .q67) {(mA (C .q61) {@5,(m2 bZ .(20) @13)}),(m2 bZ .(1) (m2 dS @5 .(4))),(m2 bZ @8 @15),@9,@16,.(2)})) (tB 12 (mA cP {14^^^0,(mA lK {@15}),(mA cP (fP)),@17})))))) (bL (jV 12) (bL (cR 16 (gO [] (fA @9) (kI (mB (m2 cY @1 .(0)))) (kI @0))) (bL (qL 17 [8,9,16,0,2] (kG @3) (λ_=>.ok bC) (mA (C .q66) {(mA (C .q60) {@4,(m2 bZ (m2 bZ .(9) @5) (m2 kY .(4) @0))}),@1,@2,@3,.(2)})) (bW (mA cP {@6,(mA lK {@7}),(mA lK {@10}),(mA lK {@12}),(mA lK {@17})}))))))))))))))))
def Cv(C C':CT):MS:=bL (cR 1 (m2 jC (mA (C .q60) {@0,.(0)}) .(7))) (bL (cR 2 (m2 bZ (m2 bZ .(1) (m2 dS @1 .(4))) (m2 kY .(4) (mA yE {(m2 cY (m2 dS (m2 jC @1 .(4)) .(6)) .(1))})))) (bL (cR 3 (gO [0] (kG @2) (λ_=>.ok bC) (mA (C .q69) {@1,@0}))) (bL (cR 4 (mA iU {.(9),(mA iV {.(1),(m2 jC (m2 sC (mA fS {@0}) .(9)) .(4))})})) (bW (gO [3,0,4] (kG @2) (λ_=>.ok bC) (mA cP {(m2 cV @1 @0),(mA (C .q72) {@2,@1,@0,@3})}))))))
def Cw(C C':CT):MS:=bL (cR 1 (mA (C .q73) {@0})) (bL (nH 2 (iX)) (bL (vQ 3 4 (fA @1) (bY (gZ 2 (mB (m2 (jQ bC) @3 (kc .n)))) (bL (nJ 2 (3^^^0) (mA (C .read) {(mA (C .q49) {@3})})) (bY (gZ 2 (mB (m2 kH (m2 cV @2 (3^^^0)) @3))) (bW (kc (.b bH))) (cE))) (cE))) (bL (jV 2) (bL (vQ 3 4 (fA @1) (bL (bY (gZ 2 (mB (m2 (jQ bC) (mA (C .q20) {@4,(eX (wO @2)),@3}) (kc .n)))) (bW (kc (.b bH))) (cE)) (bL (cR 5 (mA (C .read) {(mA (C .q49) {@4})})) (bY (gZ 2 (kO (mB (m2 kH @5 @4)) (mB (m2 (jQ bC) (mA (C .q20) {@5,@2,@3}) (kc .n))))) (bW (kc (.b bH))) (cE))))) (bW (kc (.b bC)))))))
def Cy(C C':CT):MS:=gP 0 (xP 0 (wJ (mB (m2 xS (bj 0) (mA fS {(bi 0)}))) (m2 cV (bi 0) (bj 0)) .("")))
def Cz(C C':CT):MS:=bL (cR 1 (mP 0 (C .q75))) (bL (iZ 0 1) (gP 0 (xP 0 @1)))
def CA(C C':CT):MS:=bL (kP 0 2 (jL 0 (C .q76) (fP))) (bY (mB (m2 kH @2 @1)) (yG) (cE))
def CC(C C':CT):MS:=gP 0 (xP 0 (m2 cY (bj 0) (mA fS {(bi 0)})))
noncomputable def Bd(C C':CT):CT| .q0=>dG 1 1 (Bu C C')| .q1=>dG 1 1 (Bv C C')| .q2=>dG 1 1 (Bw C C')| .q3=>dG 2 2 (Bx C C')| .q5=>dG 2 2 (uR C C')| .q6=>dG 1 1 (By C C')| .q7=>dG 1 1 (Bz C C')| .q8=>dG 2 3 (BA C C')| .q9=>dG 2 2 (uS C C')| .q10=>dG 1 1 (BB C C')| .q11=>dG 2 2 (uT C C')| .q12=>dG 2 6 (BC C C')| .q13=>dG 1 1 (BD C C')| .q14=>dG 3 3 (BE C C')| .q15=>dG 1 1 (BF C C')| .q16=>dG 1 1 (jh C C')| .q17=>dG 1 1 (BG C C')| .q18=>dG 1 1 (uU C C')| .q19=>dG 1 1 (BH C C')| .q20=>dG 3 5 (BI C C')| .q21=>jd 1 4 (oA C C')| .q22=>bt 2 3 6 (uV C C')| .q23=>bt 1 2 3 (uW C C')| .q24=>bt 2 3 7 (uX C C')| .q25=>dG 2 6 (BJ C C')| .q26=>dG 2 4 (BK C C')| .q27=>dG 2 4 (fm C C')| .q28=>dG 1 3 (BL C C')| .q29=>dG 1 4 (BM C C')| .q30=>dG 2 2 (BN C C')| .q31=>dG 1 4 (BO C C')| .q32=>dG 1 3 (BP C C')| .read=>dG 1 3 (oB C C')| .q34=>nI 1 5 (BQ C C')| .q35=>nI 1 6 (BR C C')| .q36=>nI 1 2 (BS C C')| .q37=>nI 1 2 (BU C C')| .q38=>nI 1 4 (BV C C')| .q39=>nI 2 3 (BW C C')| .q40=>nI 2 3 (BX C C')| .q41=>nI 2 5 (BY C C')| .q42=>nI 3 3 (BZ C C')| .q43=>nI 2 6 (B0 C C')| .q44=>dG 1 1 (B1 C C')| .q45=>nI 2 3 (B2 C C')| .q46=>nI 1 2 (B3 C C')| .q47=>nI 1 3 (B4 C C')| .q48=>dG 1 1 (B5 C C')| .q49=>dG 1 1 (oC C C')| .q50=>dG 1 3 (B6 C C')| .q51=>dG 1 4 (B7 C C')| .q52=>dG 1 3 (B8 C C')| .q53=>dG 1 1 (B9 C C')| .q54=>dG 1 3 (Ca C C')| .q55=>dG 1 4 (Cb C C')| .q56=>dG 2 2 (Cd C C')| .q57=>dG 1 2 (Ce C C')| .q58=>dG 1 3 (Cf C C')| .q59=>dG 2 2 (Cg C C')| .q60=>dG 2 3 (Ch C C')| .q61=>dG 2 3 (Ci C C')| .q62=>dG 1 4 (Cj C C')| .q63=>dG 1 1 (Ck C C')| .q64=>dG 4 10 (Cm C C')| .q65=>dG 4 10 (Co C C')| .q66=>dG 5 9 (Cp C C')| .q67=>dG 6 7 (uY C C')| .q68=>dG 3 4 (Cq C C')| .q69=>dG 2 6 (Cr C C')| .q70=>dG 3 8 (Cs C C')| .q71=>dG 2 7 (Ct C C')| .q72=>dG 4 18 (Cu C C')| .q73=>dG 1 5 (Cv C C')| .law=>dG 1 6 (Cw C C')| .q75=>nI 1 1 (Cy C C')| .q76=>nI 1 2 (Cz C C')| .skip=>nI 2 3 (CA C C')| .q78=>nI 1 1 (CC C C')|_=>λ_=>.bad
noncomputable def Ph:bD->CT|n+3=>Bd (Ph (n+2)) (Ph n)|_=>λ_ _=>.bad
noncomputable def tb:Fn->Str×dN×bD×bA Str| .q0=>("is_whole",cU 15,1,["thing"])| .q1=>("is_number",cU 16,1,["thing"])| .q2=>("is_name",cU 17,1,["thing"])| .q3=>("is_row",cU 18,2,["thing","length"])| .q4=>("is_row_of",cU 19,3,["thing","most","holds","item"])| .q5=>("is_row_of_names",cU 20,2,["thing","most"])| .q6=>("all_unlike",cU 21,1,["names"])| .q7=>("first_word",cU 22,1,["thing"])| .q8=>("is_expression_within",cU 23,2,["thing","around","word"])| .q9=>("are_parts_within",cU 24,2,["thing","around"])| .q10=>("is_block",cU 25,1,["thing"])| .q11=>("is_block_within",cU 26,2,["thing","around"])| .q12=>("is_statement_within",cU 27,2,["thing","around","word","sorts","sort","part"])| .q13=>("part_sorts_of",cU 28,1,["word"])| .q14=>("is_part_within",cU 29,3,["sort","part","around"])| .q15=>("is_deed",cU 30,1,["thing"])| .q16=>("is_face",cU 31,1,["thing"])| .q17=>("is_told_deed",cU 32,1,["thing"])| .q18=>("is_unit",cU 33,1,["thing"])| .q19=>("is_take",cU 34,1,["thing"])| .q20=>("fault_of",cU 37,3,["unit","faces","face","top","fault"])| .q21=>("meanings_told",cU 38,1,["face","meanings","name","told"])| .q22=>("fault_of_takes",cU 39,3,["unit","faces","top","source","name","told"])| .q23=>("fault_of_words",cU 40,2,["unit","top","name"])| .q24=>("fault_of_deeds",cU 41,3,["unit","face","top","awaited","deed","name","count"])| .q25=>("fault_of_blocks",cU 42,2,["unit","top","deed","meanings","name","fault"])| .q26=>("fault_of_block",cU 43,2,["block","meanings","use","fault"])| .q27=>("fault_of_use",cU 44,2,["use","meanings","name","meaning"])| .q28=>("uses_of_block",cU 45,1,["block","uses","statement"])| .q29=>("uses_of_statement",cU 46,1,["statement","uses","sort","part"])| .q30=>("uses_of_part",cU 47,2,["sort","part"])| .q31=>("uses_of_expression",cU 48,1,["expression","word","name","parts"])| .q32=>("uses_of_parts",cU 49,1,["parts","uses","part"])| .read=>("read",cU 56,1,["text","row","thing"])| .q34=>("read_face",cU 57,1,["row","name","words","deeds","told"])| .q35=>("read_unit",cU 58,1,["row","name","takes","words","deeds","block"])| .q36=>("read_take",cU 59,1,["row","name"])| .q37=>("read_declared",cU 60,1,["row","names"])| .q38=>("read_deed",cU 61,1,["row","name","params","owns"])| .q39=>("read_names_until",cU 62,2,["row","kept_word","names"])| .q40=>("read_block",cU 63,2,["row","around","statements"])| .q41=>("read_statement",cU 64,2,["row","around","word","parts","step"])| .q42=>("read_part",cU 65,3,["row","sort","around"])| .q43=>("read_expression",cU 66,2,["row","around","word","name","left","right"])| .q44=>("refuse_too_deep",cU 67,1,["around"])| .q45=>("read_parts",cU 68,2,["row","around","count"])| .q46=>("read_name",cU 69,1,["row","word"])| .q47=>("read_number",cU 70,1,["row","word","figures"])| .q48=>("are_figures",cU 71,1,["text"])| .q49=>("written",cU 73,1,["thing"])| .q50=>("face_words",cU 74,1,["face","words","told"])| .q51=>("unit_words",cU 75,1,["unit","words","take","deed"])| .q52=>("declared_words",cU 76,1,["names","words","name"])| .q53=>("deed_words",cU 77,1,["deed"])| .q54=>("block_words",cU 78,1,["block","words","statement"])| .q55=>("statement_words",cU 79,1,["statement","words","place","step"])| .q56=>("part_words",cU 80,2,["sort","part"])| .q57=>("expression_words",cU 81,1,["expression","word"])| .q58=>("counted_words",cU 82,1,["parts","words","part"])| .q59=>("_law_cell_at",cU 84,2,["_law_script","_law_k"])| .q60=>("_law_mixed",cU 85,2,["_law_script","_law_k","_law_drawn_here"])| .q61=>("_law_drawn",cU 86,2,["_law_number","_law_k","_law_drawn_here"])| .q62=>("_law_stem",cU 87,1,["_law_number","_law_letters","_law_found","_law_k"])| .q63=>("_law_value",cU 88,1,["_law_number"])| .q64=>("_law_expression",cU 89,4,["_law_number","_law_names","_law_deeds","_law_deep","_law_kind","_law_name","_law_count","_law_parts","_law_left","_law_right"])| .q65=>("_law_short",cU 90,4,["_law_number","_law_names","_law_deeds","_law_plain","_law_name","_law_drawn_here","_law_kind","_law_called","_law_count","_law_parts"])| .q66=>("_law_statement",cU 91,5,["_law_number","_law_names","_law_deeds","_law_plain","_law_deep","_law_kind","_law_asked","_law_one","_law_name"])| .q67=>("_law_block",cU 92,6,["_law_number","_law_size","_law_names","_law_deeds","_law_plain","_law_deep","_law_parts"])| .q68=>("_law_said",cU 93,3,["_law_stem_here","_law_unit","_law_k","_law_letters"])| .q69=>("_law_told",cU 94,2,["_law_script","_law_unit","_law_stem_here","_law_number","_law_words","_law_deeds"])| .q70=>("_law_takes",cU 95,3,["_law_faces","_law_name","_law_number","_law_found","_law_k","_law_face","_law_some","_law_pair"])| .q71=>("_law_sorts",cU 96,2,["_law_faces","_law_takes_here","_law_words","_law_deeds","_law_source","_law_name","_law_face"])| .q72=>("_law_member",cU 97,4,["_law_script","_law_faces","_law_unit","_law_size","_law_stem_here","_law_number","_law_name","_law_takes_here","_law_words","_law_deeds","_law_own","_law_heads","_law_made","_law_k","_law_head","_law_params","_law_plain","_law_block_here"])| .q73=>("_law_set",cU 98,1,["_law_script","_law_many","_law_count","_law_faces","_law_size"])| .law=>("law",cU 99,1,["_law_script","_law_made","_law_faces","_law_face","_law_unit","_law_again"])| .q75=>("ahead",om 55 1,1,["self"])| .q76=>("taken",om 55 2,1,["self","word"])| .skip=>("skip",om 55 3,2,["self","kept_word","word"])| .q78=>("is_over",om 55 4,1,["self"])
abbrev nm(f:Fn):Str:=(tb f).1
abbrev st(f:Fn):dN:=(tb f).2.1
abbrev nl(f:Fn):bA Str:=(tb f).2.2.2
abbrev pl(f:Fn):bA Str:=(nl f).take (tb f).2.2.1
noncomputable def oE:bA Fn:=[.q0,.q1,.q2,.q3,.q5,.q6,.q7,.q8,.q9,.q10,.q11,.q12,.q13,.q14,.q15,.q16,.q17,.q18,.q19,.q20,.q25,.q26,.q27,.q28,.q29,.q30,.q31,.q32,.read,.q44,.q48,.q49,.q50,.q51,.q52,.q53,.q54,.q55,.q56,.q57,.q58,.q59,.q60,.q61,.q62,.q63,.q64,.q65,.q66,.q67,.q68,.q69,.q70,.q71,.q72,.q73,.law]
noncomputable def IH:bA (Fn×bD):=[(.q34,0),(.q35,0),(.q36,0),(.q37,0),(.q38,0),(.q39,0),(.q40,0),(.q41,0),(.q42,0),(.q43,0),(.q45,0),(.q46,0),(.q47,0),(.q22,2),(.q23,1),(.q24,2)]
noncomputable def uZ:bA Fn:=[.q75,.q76,.skip,.q78]
noncomputable def IJ:bA Fn:=[.q21]
abbrev tL(C:CT)(l:bA Fn):bA (Str×(bA D->bP D)):=l.map λf=>(nm f,C f)
def CD:bA (Str×D):=[kv "GREATEST_NUMBER" jg,kv "KEPT_WORDS" Bp,kv "MOST_AROUND" fg,kv "MOST_DEEDS" oq,kv "MOST_LETTERS" Br,kv "MOST_OWNS" Bs,kv "MOST_PARAMS" ot,kv "MOST_PARTS" ou,kv "MOST_TAKES" Bt,kv "MOST_WORDS" ox,kv "NAME_SORTS" ae,kv "PART_SORTS" tG,kv "SIGNS" oz,kv "WORD" yH]
def IK:bA (Str×bA (Str×D)):=[kv "STATEMENT_FORMS" qP]
noncomputable def bsL:bA Str:=["all","bool","dict","enumerate","int","isinstance","len","list","max","min","range","set","str","tuple","zip"]
def u4:bA ((bD×bD)×bA Str):=[((23,15),[]),((74,11),[]),((94,39),[]),((351,17),["row","around"]),((366,15),[]),((460,21),["_law_names","_law_deeds","_law_number","_law_deep"]),((487,21),["_law_names","_law_deeds","_law_number"]),((504,17),["_law_names","_law_deeds","_law_plain","_law_deep","_law_number"]),((514,17),["_law_stem_here","_law_unit"]),((515,17),["_law_stem_here","_law_unit","_law_number"]),((522,45),[]),((534,42),["_law_name"]),((535,42),["_law_name"]),((543,15),["_law_stem_here","_law_unit"]),((544,17),["_law_stem_here","_law_unit","_law_number"]),((552,22),["_law_stem_here","_law_unit"]),((553,21),[]),((556,17),[]),((557,22),["_law_words","_law_deeds","_law_plain","_law_script","_law_unit"]),((562,17),["_law_script"]),((564,11),["_law_faces","_law_script","_law_size"])]
def tA(C:CT):uP:=⟨tL C oE,CD,IK,bsL,IH.map λq=>(nm q.1,q.2,C q.1),tL C uZ,tL C IJ,["WordRow"]⟩
theorem oG{α β:Type}{n:α->Str}{v:α->β}:∀{l:bA α} {x:Str} {m:β},(l.map λa=>(n a,v a)).lookup x=bB m->∃a,a∈l/\n a=x/\v a=m
 | [],_,_,h=>by cases h|a::l,x,m,h=>by
  rw[dY,lF]at h;split at h
  .rename_i q;exact⟨a,fW,(dW q).symm,jJ h⟩
  .obtain⟨b,h1,h2⟩:=oG h;exact⟨b,gI _ h1,h2⟩
structure Tab(P:fM)(w:cF)(K:cD)(mg:Str->bQ bJ)(base:cB)(n:bD)(C:CT):Prop where
 k:fc P w K mg base n (tA C)
 h4:∃f fd,hO K "is_row_of" "is_row_of" s4 f fd/\mg "is_row_of" =bB (.ref f)/\lH K fd ["thing","most","holds"] []
variable{P:fM}{w:cF}{K:cD}{mg:Str->bQ bJ}{base:cB}{n:bD}{C:CT}
theorem Tab.c(T:Tab P w K mg base n C)(f:Fn)(h:(tL C oE).lookup (nm f)=bB (C f):=by kernel_rfl):xY P w K mg base n (nm f) (C f):=T.k.fs _ _ h
structure af(P:fM)(w:cF)(K:cD)(mg:Str->bQ bJ)(base:cB)(n:bD)(C:CT):Prop where
 k:∀x m,(tL C oE).lookup x=bB m->xY P w K mg base n x m
theorem af.c(T:af P w K mg base n C)(f:Fn)(h:(tL C oE).lookup (nm f)=bB (C f):=by kernel_rfl):xY P w K mg base n (nm f) (C f):=T.k _ _ h
theorem Tab.b(T:Tab P w K mg base n C)(x:Str)(h:bsL.contains x=bC:=by kernel_rfl):mg x=bK:=T.k.bs x h
theorem Tab.g(T:Tab P w K mg base n C)(x:Str){d:D}(h:CD.lookup x=bB d:=by kernel_rfl):xX K mg x d:=T.k.cs x d h
abbrev Sc(f:Fn):Prop:=lU (nl f) (pl f) (dA (st f))
theorem rk(f:Fn)(L:vT:={}){a:bI}{fd:gJ}{u:MS}{q:Str}(F:hO K (nm f) q (st f) a fd)(T:Tab P w K mg base n C)(sc:Sc f:=by exact⟨rfl,rfl,rfl,by decide+kernel,rfl,by decide+kernel,by decide+kernel⟩)
 (h:tE (rc 40) ({L with cp:=u4}.ga (nl f) (dA (st f)).names (tA C) bH bH) 60 (kM (st f))=bB u:=by kernel_rfl):dZ P w K mg base fF (n+1) a fd (pl f) (pJ K (dG (pl f).length (nl f).length u)):=UX F sc T.k _ h
theorem U5(f:Fn)(L:vT:={}){a:bI}{fd:gJ}{u:MS}{q:Str}(F:hO K (nm f) q (st f) a fd)(T:Tab P w K mg base n C)(sc:Sc f:=by exact⟨rfl,rfl,rfl,by decide+kernel,rfl,by decide+kernel,by decide+kernel⟩)
 (h:tE (rc 40) ({L with cp:=u4}.ga (nl f) (dA (st f)).names (tA C) bH bC) 60 (kM (st f))=bB u:=by kernel_rfl):dZ P w K mg base fF (n+1) a fd (pl f) (eZ K (jd (pl f).length (nl f).length u)):=UY F sc T.k _ h
theorem pZ(f:Fn)(L:vT:={}){a:bI}{fd:gJ}{u:MS}{q:Str}(F:hO K (nm f) q (st f) a fd)(T:Tab P w K mg base n C)(sc:Sc f:=by exact⟨rfl,rfl,rfl,by decide+kernel,rfl,by decide+kernel,by decide+kernel⟩)
 (h:tE (rc 40) ({L with cp:=u4}.ga (nl f) (dA (st f)).names (tA C) bC bH) 60 (kM (st f))=bB u:=by kernel_rfl):dZ P w K mg base fF (n+1) a fd (pl f) (wN K 0 (pX (nI (pl f).length (nl f).length u))):=UZ F sc T.k _ h
theorem CF(f:Fn)(m:bD)(L:vT:={}){a:bI}{fd:gJ}{u:MS}{q:Str}(F:hO K (nm f) q (st f) a fd)(T:Tab P w K mg base n C)(sc:Sc f:=by exact⟨rfl,rfl,rfl,by decide+kernel,rfl,by decide+kernel,by decide+kernel⟩)
 (h:tE (rc 40) ({L with cp:=u4}.ga (nl f) (dA (st f)).names (tA C) bC bH) 60 (kM (st f))=bB u:=by kernel_rfl):dZ P w K mg base fF (n+1) a fd (pl f) (wN K m (pX (bt m (pl f).length (nl f).length u))):=U0 F sc T.k _ h
end
section
variable [fZ] [Pd]
theorem U6(v:V)(cl:bA (bI×HO))(m:bA D->bP D)(t o x:D):bY (gU (mT (be 2 v cl m {@3}))) (bW (kc (.b bH))) (cE) [.val t,.val o,.is v cl,.val x]=
 ((m [x]).bind vG).bind λb=>if b=bC then .ok (.nx [.val t,.val o,.is v cl,.val x])else .ok (.rt (.b bH)):=by
 have e:be 2 v cl m {@3} [.val t,.val o,.is v cl,.val x]=m [x]:=by have hc:([.val t,.val o,.is v cl,.val x]:cS)[2]? =bB (.is v cl):=rfl;unfold be;rw[cK hc];rfl
 have et:mT (be 2 v cl m {@3}) [.val t,.val o,.is v cl,.val x]=(m [x]).bind vG:=by unfold mT;rw[e]
 unfold bY gU;rw[et];cases(m [x]).bind vG with
 |ok b=>cases b<;>rfl|bad=>rfl
theorem IL(v:V)(cl:bA (bI×HO))(m:bA D->bP D)(t o:D):∀(xs:bA D) (sl:Slot),
 ((gD 3 (bY (gU (mT (be 2 v cl m {@3}))) (bW (kc (.b false))) (cE)) xs [.val t,.val o,.is v cl,sl]).bind (t7 (bW (kc (.b true))))).bind rF=eM m xs
 | [],sl=>rfl|x::r,sl=>by
  rw[gD];show(bP.bind (bP.bind (bP.bind (bY _ _ _ [.val t,.val o,.is v cl,.val x]) _) _) _)=_;rw[U6,eM];cases m [x]with
  |bad=>rfl|ok d=>
   show(bP.bind (bP.bind (bP.bind (bP.bind (vG d) _) _) _) _)=bP.bind (vG d) _;cases vG d with
   |bad=>rfl|ok b=>
    cases b with
    |false=>rfl|true=>exact IL v cl m t o r (.val x)
theorem U7(C:CT)(v:V)(cl:bA (bI×HO))(m:bA D->bP D)(ds:bA D):lN m ds= .bad\/iQ 3 4 v cl (fk C v cl m) ds=lN m ds:=by
 unfold lN;split
 .rename_i xs most;right;show((fk C v cl m) [.val (.t xs),.val (.int most),.is v cl,.no]).bind rF=_;unfold fk;by_cases h:most<(xs.length:bG)
  .rw[cK h];simp[bL,bY,kO,gU,mT,mB,m1,m2,gv,kc,nD,mq,bP.bind,vG,mA,aC,fP,fS,nV,sY,h,bW,t7,rF]
  .rw[dH h];have s1:bY (kO (gU (mT (m1 (nD "tuple") @0))) (mB (m2 nV (mA fS {@0}) @1))) (bW (kc (.b bH))) (cE) [.val (.t xs),.val (.int most),.is v cl,.no]= .ok (.nx [.val (.t xs),.val (.int most),.is v cl,.no]):=by
    simp[bY,kO,gU,mT,mB,m1,m2,gv,kc,nD,mq,bP.bind,vG,mA,aC,fP,fS,nV,sY,h,cE]
   show bP.bind (bP.bind (bY _ _ _ [.val (.t xs),.val (.int most),.is v cl,.no]) _) _=_;rw[s1];exact IL v cl m (.t xs) (.int most) xs .no
 .exact .inl bO
 .rename_i d i hd;right;show((fk C v cl m) [.val d,.val (.int i),.is v cl,.no]).bind rF=_;unfold fk;cases d with|t xs=>exact dD bO (hd xs)|_=>simp[bL,bY,kO,gU,mT,mB,m1,m2,gv,kc,nD,mq,bP.bind,vG,bW,t7,rF]
 .exact .inl bO
theorem oH{K:cD}{C:CT}{v:V}{cl:bA (bI×HO)}{m:bA D->bP D}{vs:bA V}{H:Hp}{Q:VK}{E:XK}(h:vO K v cl (lN m) vs H Q E):vO K v cl (iQ 3 4 v cl (fk C v cl m)) vs H Q E:=by
 obtain⟨F,ds,vs0,h1,h2,h3,h4,h5,h6⟩:=h;refine⟨F,ds,vs0,h1,h2,h3,h4,h5,?_⟩;rcases U7 C v cl m ds with z|z
 .rw[z]at h6;cases h6
 .rw[z];exact h6
section
variable{P:fM}{w:cF}{K:cD}{mg:Str->bQ bJ}{base:cB}{f:bI}{fd:gJ}{n:bD}{C C':CT}
theorem IM:lU N4 ["thing","most","holds"] (dA s4):=⟨rfl,rfl,rfl,by decide+kernel,rfl,by decide+kernel,by decide+kernel⟩
theorem CG:jZ N4 (dA s4) 0 "thing" :=⟨rfl,pS (by kernel_rfl),(by kernel_rfl),(by kernel_rfl)⟩
theorem U8:jZ N4 (dA s4) 1 "most" :=⟨rfl,pS (by kernel_rfl),(by kernel_rfl),(by kernel_rfl)⟩
theorem U9:jZ N4 (dA s4) 2 "holds" :=⟨rfl,pS (by kernel_rfl),(by kernel_rfl),(by kernel_rfl)⟩
theorem Va:jZ N4 (dA s4) 3 "item" :=⟨rfl,pS (by kernel_rfl),(by kernel_rfl),(by kernel_rfl)⟩
theorem oI{n0:bD}{C0:CT}{v:V}{cl:bA (bI×HO)}{m:bA D->bP D}(F:hO K "is_row_of" "is_row_of" s4 f fd)(TT:Tab P w K mg base n0 C0)(CB:vN P w K mg base n v cl m):dZ P w K mg base fF (n+1) f fd ["thing","most","holds"] (vO K v cl (iQ 3 4 v cl (fk C v cl m))):=by
 refine Sm F IM (by decide) ?_;intro _ cdv A outer s H E hr;refine zN ?_ ?_
 .refine aX ?_ ?_ ?_
  .refine IW.it ?_;refine iO ?_ ?_
   .refine vH ?_;refine vM ?_ ?_
    .rfl
    .refine Ax (Aq _) ?_ (by kernel_rfl) (TT.b "isinstance") (by kernel_rfl) (TT.b "tuple") ph ?_ ?_ ?_
     .rfl
     .kernel_rfl
     .kernel_rfl
     .exact jU CG
   .refine iN ?_;refine Gq Gw ?_ ?_ (OB _)
    .refine Aw Ah mj (by kernel_rfl) (TT.b "len") w8 ?_ ?_ ?_ ?_
     .rfl
     .kernel_rfl
     .kernel_rfl
     .refine mH ?_ ?_ ?_
      .rfl
      .exact jU CG
      .exact pI
    .exact jU U8
  .refine rE ?_;refine sB ?_;exact zM
  .exact aW
 .refine zN ?_ ?_
  .refine GK bO LZ ?_ (dm (i:=3) IM.nd ?_ (pS ?_) (.inl bO)) ?_ (ba ?_)
   .refine ug ?_;exact jU CG
   .rfl
   .kernel_rfl
   .refine rE ?_;refine aX ?_ ?_ ?_
    .refine vH ?_;refine vM ?_ ?_
     .rfl
     .refine Sj CB hr U9 ?_ ?_
      .rfl
      .refine mH ?_ ?_ ?_
       .rfl
       .exact jU Va
       .exact pI
    .refine rE ?_;refine sB ?_;exact zM
    .exact aW
   .rfl
  .refine rE ?_;refine sB ?_;exact zM
theorem Vb:lU N5 ["thing","most"] (dA s5):=⟨rfl,rfl,rfl,by decide+kernel,rfl,by decide+kernel,by decide+kernel⟩
theorem Vc:jZ N5 (dA s5) 0 "thing" :=⟨rfl,pS (by kernel_rfl),(by kernel_rfl),(by kernel_rfl)⟩
theorem Vd:jZ N5 (dA s5) 1 "most" :=⟨rfl,pS (by kernel_rfl),(by kernel_rfl),(by kernel_rfl)⟩
theorem Ve(F:hO K "is_row_of_names" "is_row_of_names" s5 f fd)(TB:∀b:cB,Tab P w K mg b (n+2) C)(T0:∀b:cB,af P w K mg b n C'):dZ P w K mg base fF (n+3) f fd ["thing","most"] (pJ K (dG 2 2 (uR C C'))):=by
 have TT:=TB base;obtain⟨fR,fdR,FR,hmR,hbR⟩:=TT.h4;have hrow:∀(base':cB) (v:V) (cl:bA (bI×HO)) (m:bA D->bP D),vN P w K mg base' (n+1) v cl m->dZ P w K mg base' fF (n+2) fR fdR ["thing","most","holds"] (vO K v cl (lN m)):=λbase' v cl m CB=>(oI (C:=C) FR (TB base') CB).imp λvs H Q E h=>oH h
 obtain⟨fN_is_name,hmN_is_name,CB_is_name⟩:=uv ((T0 base).c .q2);have hrow_is_name:=hrow base _ _ _ (uC CB_is_name (gy n));refine t9 F Vb ?_;intro _ cdv A outer s H E hr;refine rE ?_;refine sB ?_;refine uw hrow_is_name hr hmR FR.kp hbR hmN_is_name (by kernel_rfl) (by kernel_rfl) ?_ ?_ ?_ ?_ ?_
 .rfl
 .kernel_rfl
 .kernel_rfl
 .exact jU Vc
 .exact jU Vd
theorem Vf:lU N9 ["thing","around"] (dA s9):=⟨rfl,rfl,rfl,by decide+kernel,rfl,by decide+kernel,by decide+kernel⟩
theorem Vg:jZ N9 (dA s9) 0 "thing" :=⟨rfl,pS (by kernel_rfl),(by kernel_rfl),(by kernel_rfl)⟩
theorem Vh:(dA s9).names.lookup ("MOST_PARTS" :Str)=bB .globalImplicit:=by kernel_rfl
theorem Vi:(dA s9).names.lookup ("is_row_of" :Str)=bB .globalImplicit:=by kernel_rfl
abbrev u5:dJ:=HI (kM s9)
abbrev Vj:kW:=HJ (dA s9) (kM s9)
theorem Vk:my "part" "around" Vj:=HK bO bO bO (by decide+kernel) (by kernel_rfl) (by kernel_rfl) (by decide+kernel)
theorem Vl(F:hO K "are_parts_within" "are_parts_within" s9 f fd)(TB:∀b:cB,Tab P w K mg b (n+2) C)(T0:∀b:cB,af P w K mg b n C')(LM:ur K mg fd u5 "are_parts_within.<locals>.<lambda>"):dZ P w K mg base fF (n+3) f fd ["thing","around"] (pJ K (dG 2 2 (uS C C'))):=by
 have TT:=TB base;obtain⟨fR,fdR,FR,hmR,hbR⟩:=TT.h4;have hrow:∀(base':cB) (v:V) (cl:bA (bI×HO)) (m:bA D->bP D),vN P w K mg base' (n+1) v cl m->dZ P w K mg base' fF (n+2) fR fdR ["thing","most","holds"] (vO K v cl (lN m)):=λbase' v cl m CB=>(oI (C:=C) FR (TB base') CB).imp λvs H Q E h=>oH h
 obtain⟨c,Pt,hcd0,hLt,hbs⟩:=LM.ex;refine Ac F Vf ?_;intro _ cdv A outer s H E hcdv hr;refine rE ?_;refine sB ?_;refine Hg (n:=n) (kr:=n+2) (M:=lN) (px:="part") (y:="around") (j:=1) (lq:="are_parts_within.<locals>.<lambda>") (c:=c) (Pt:=Pt) (f:=fR) (fd:=fdR) (ps:=["thing","most","holds"]) hrow hr Vi hmR FR.kp hbR ?_ ?_ ?_ ?_ ?_ ?_ ?_ hLt ?_ (λhk=>(hbs _ hk).1) ?_ (λhk=>(hbs _ hk).2) ?_ ?_ ?_ Vk ?_ ?_
 .kernel_rfl
 .rfl
 .exact jU Vg
 .refine eJ Vh (TT.g "MOST_PARTS") ?_;kernel_rfl
 .rfl
 .kernel_rfl
 .rfl
 .exact hcdv.symm.trans hcd0
 .kernel_rfl
 .rfl
 .intro cells;rfl
 .decide+kernel
 .intro clos pm cd ct us hl;match us,hl with| [_],_=>rfl
 .intro _ bs2 aa cd2 clos A2 outer2 s2 H2 hr2;refine wL ((T0 bs2).c .q8) hr2 ?_ ?_ ?_ ?_
  .kernel_rfl
  .rfl
  .kernel_rfl
  .refine mH ?_ ?_ ?_
   .rfl
   .refine jU ⟨rfl,pS ?_,?_,?_⟩
    .kernel_rfl
    .kernel_rfl
    .kernel_rfl
   .refine mH ?_ ?_ ?_
    .rfl
    .refine jU ⟨rfl,ku (ku ?_),?_,?_⟩
     .kernel_rfl
     .kernel_rfl
     .kernel_rfl
    .exact pI
theorem Vm:lU ID ["thing","around"] (dA lP):=⟨rfl,rfl,rfl,by decide+kernel,rfl,by decide+kernel,by decide+kernel⟩
theorem CH:jZ ID (dA lP) 0 "thing" :=⟨rfl,pS (by kernel_rfl),(by kernel_rfl),(by kernel_rfl)⟩
theorem Vn:(dA lP).names.lookup ("is_row_of" :Str)=bB .globalImplicit:=by kernel_rfl
theorem Vo:(dA lP).names.lookup ("isinstance" :Str)=bB .globalImplicit:=by kernel_rfl
theorem Vp:(dA lP).names.lookup ("len" :Str)=bB .globalImplicit:=by kernel_rfl
theorem Vq:(dA lP).names.lookup ("tuple" :Str)=bB .globalImplicit:=by kernel_rfl
abbrev u6:dJ:=HI (kM lP)
abbrev Vr:kW:=HJ (dA lP) (kM lP)
theorem Vs:my "statement" "around" Vr:=HK bO bO bO (by decide+kernel) (by kernel_rfl) (by kernel_rfl) (by decide+kernel)
theorem Vt(F:hO K "is_block_within" "is_block_within" lP f fd)(TB:∀b:cB,Tab P w K mg b (n+2) C)(T0:∀b:cB,af P w K mg b n C')(LM:ur K mg fd u6 "is_block_within.<locals>.<lambda>"):dZ P w K mg base fF (n+3) f fd ["thing","around"] (pJ K (dG 2 2 (uT C C'))):=by
 have TT:=TB base;obtain⟨fR,fdR,FR,hmR,hbR⟩:=TT.h4;have hrow:∀(base':cB) (v:V) (cl:bA (bI×HO)) (m:bA D->bP D),vN P w K mg base' (n+1) v cl m->dZ P w K mg base' fF (n+2) fR fdR ["thing","most","holds"] (vO K v cl (lN m)):=λbase' v cl m CB=>(oI (C:=C) FR (TB base') CB).imp λvs H Q E h=>oH h
 obtain⟨c,Pt,hcd0,hLt,hbs⟩:=LM.ex;refine Ac F Vm ?_;intro _ cdv A outer s H E hcdv hr;refine zN ?_ ?_
 .refine aX ?_ ?_ ?_
  .refine vH ?_;refine vM ?_ ?_
   .rfl
   .refine Ax (Aq _) ?_ Vo (TT.b "isinstance") Vq (TT.b "tuple") ph ?_ ?_ ?_
    .rfl
    .kernel_rfl
    .kernel_rfl
    .exact jU CH
  .refine rE ?_;refine sB ?_;exact zM
  .exact aW
 .refine rE ?_;refine sB ?_;refine Hg (n:=n) (kr:=n+2) (M:=lN) (px:="statement") (y:="around") (j:=1) (lq:="is_block_within.<locals>.<lambda>") (c:=c) (Pt:=Pt) (f:=fR) (fd:=fdR) (ps:=["thing","most","holds"]) hrow hr Vn hmR FR.kp hbR ?_ ?_ ?_ ?_ ?_ ?_ ?_ hLt ?_ (λhk=>(hbs _ hk).1) ?_ (λhk=>(hbs _ hk).2) ?_ ?_ ?_ Vs ?_ ?_
  .kernel_rfl
  .rfl
  .exact jU CH
  .refine Aw Ah mj Vp (TT.b "len") w8 ?_ ?_ ?_ ?_
   .rfl
   .kernel_rfl
   .kernel_rfl
   .refine mH ?_ ?_ ?_
    .rfl
    .exact jU CH
    .exact pI
  .rfl
  .kernel_rfl
  .rfl
  .exact hcdv.symm.trans hcd0
  .kernel_rfl
  .rfl
  .intro cells;rfl
  .decide+kernel
  .intro clos pm cd ct us hl;match us,hl with| [_],_=>rfl
  .intro _ bs2 aa cd2 clos A2 outer2 s2 H2 hr2;refine wL ((T0 bs2).c .q12) hr2 ?_ ?_ ?_ ?_
   .kernel_rfl
   .rfl
   .kernel_rfl
   .refine mH ?_ ?_ ?_
    .rfl
    .refine jU ⟨rfl,pS ?_,?_,?_⟩
     .kernel_rfl
     .kernel_rfl
     .kernel_rfl
    .refine mH ?_ ?_ ?_
     .rfl
     .refine jU ⟨rfl,ku (ku ?_),?_,?_⟩
      .kernel_rfl
      .kernel_rfl
      .kernel_rfl
     .exact pI
theorem Vu:lU Bn ["thing"] (dA rN):=⟨rfl,rfl,rfl,by decide+kernel,rfl,by decide+kernel,by decide+kernel⟩
theorem ji:jZ Bn (dA rN) 0 "thing" :=⟨rfl,pS (by kernel_rfl),(by kernel_rfl),(by kernel_rfl)⟩
theorem Vv(F:hO K "is_face" "is_face" rN f fd)(TB:∀b:cB,Tab P w K mg b (n+2) C)(T0:∀b:cB,af P w K mg b n C'):dZ P w K mg base fF (n+3) f fd ["thing"] (pJ K (dG 1 1 (jh C C'))):=by
 have TT:=TB base;obtain⟨fR,fdR,FR,hmR,hbR⟩:=TT.h4;have hrow:∀(base':cB) (v:V) (cl:bA (bI×HO)) (m:bA D->bP D),vN P w K mg base' (n+1) v cl m->dZ P w K mg base' fF (n+2) fR fdR ["thing","most","holds"] (vO K v cl (lN m)):=λbase' v cl m CB=>(oI (C:=C) FR (TB base') CB).imp λvs H Q E h=>oH h
 obtain⟨fN_is_told_deed,hmN_is_told_deed,CB_is_told_deed⟩:=uv ((T0 base).c .q17);have hrow_is_told_deed:=hrow base _ _ _ (uC CB_is_told_deed (gy n));refine t9 F Vu ?_;intro _ cdv A outer s H E hr;refine zN ?_ ?_
 .refine aX ?_ ?_ ?_
  .refine IW.it ?_;refine iO ?_ ?_
   .refine vH ?_;refine vM ?_ ?_
    .rfl
    .refine wL (TT.c .q3) hr (by kernel_rfl) ?_ ?_ ?_
     .rfl
     .kernel_rfl
     .refine mH ?_ ?_ ?_
      .rfl
      .exact jU ji
      .refine mH ?_ ?_ ?_
       .rfl
       .exact sA
       .exact pI
   .refine iN ?_;refine vH ?_;refine vM ?_ ?_
    .rfl
    .refine wL (TT.c .q2) hr (by kernel_rfl) ?_ ?_ ?_
     .rfl
     .kernel_rfl
     .refine mH ?_ ?_ ?_
      .rfl
      .refine vL (wK hr) ?_ ?_ ?_
       .rfl
       .exact jU ji
       .exact sA
      .exact pI
  .refine rE ?_;refine sB ?_;exact zM
  .exact aW
 .refine zN ?_ ?_
  .refine aX ?_ ?_ ?_
   .refine IW.it ?_;refine iO ?_ ?_
    .refine vH ?_;refine vM ?_ ?_
     .rfl
     .refine wL (TT.c .q5) hr (by kernel_rfl) ?_ ?_ ?_
      .rfl
      .kernel_rfl
      .refine mH ?_ ?_ ?_
       .rfl
       .refine vL (wK hr) ?_ ?_ ?_
        .rfl
        .exact jU ji
        .exact sA
       .refine mH ?_ ?_ ?_
        .rfl
        .refine eJ (by kernel_rfl) (TT.g "MOST_WORDS") ?_;kernel_rfl
        .exact pI
    .refine iN ?_;refine vH ?_;refine vM ?_ ?_
     .rfl
     .refine uw hrow_is_told_deed hr hmR FR.kp hbR hmN_is_told_deed (by kernel_rfl) (by kernel_rfl) ?_ ?_ ?_ ?_ ?_
      .rfl
      .kernel_rfl
      .kernel_rfl
      .refine vL (wK hr) ?_ ?_ ?_
       .rfl
       .exact jU ji
       .exact sA
      .refine eJ (by kernel_rfl) (TT.g "MOST_DEEDS") ?_;kernel_rfl
   .refine rE ?_;refine sB ?_;exact zM
   .exact aW
  .refine rE ?_;refine sB ?_;refine wL (TT.c .q6) hr (by kernel_rfl) ?_ ?_ ?_
   .rfl
   .kernel_rfl
   .refine mH ?_ ?_ ?_
    .rfl
    .refine Gp Gr ?_ ?_
     .refine G6 GH mj (by kernel_rfl) (TT.b "list") Dt ?_ ?_ ?_ ?_
      .rfl
      .kernel_rfl
      .kernel_rfl
      .refine mH ?_ ?_ ?_
       .rfl
       .refine vL (wK hr) ?_ ?_ ?_
        .rfl
        .exact jU ji
        .exact sA
       .exact pI
     .refine Rs (G2 (os:=["told"]) (caps:=[]) (js:=[]) (N:=Bn) (sc:=dA rN) bO bO bO ?_ ?_ ?_ ?_ ?_ bO ?_) bO ?_ ?_ ?_ (ba ?_)
      .decide+kernel
      .decide+kernel
      .decide+kernel
      .decide+kernel
      .decide+kernel
      .decide+kernel
      .refine ug ?_;refine vL (wK hr) ?_ ?_ ?_
       .rfl
       .exact jU ji
       .exact sA
      .intro Cc fp ss HH EE;exact Av
      .intro Cc fp ss HH EE;refine vL (wK hr) ?_ ?_ ?_
       .rfl
       .refine jU ⟨rfl,pS ?_,?_,?_⟩
        .kernel_rfl
        .kernel_rfl
        .kernel_rfl
       .exact sA
      .rfl
    .exact pI
theorem Vx:lU IG ["thing"] (dA Bo):=⟨rfl,rfl,rfl,by decide+kernel,rfl,by decide+kernel,by decide+kernel⟩
theorem jj:jZ IG (dA Bo) 0 "thing" :=⟨rfl,pS (by kernel_rfl),(by kernel_rfl),(by kernel_rfl)⟩
theorem Vy(F:hO K "is_unit" "is_unit" Bo f fd)(TB:∀b:cB,Tab P w K mg b (n+2) C)(T0:∀b:cB,af P w K mg b n C'):dZ P w K mg base fF (n+3) f fd ["thing"] (pJ K (dG 1 1 (uU C C'))):=by
 have TT:=TB base;obtain⟨fR,fdR,FR,hmR,hbR⟩:=TT.h4;have hrow:∀(base':cB) (v:V) (cl:bA (bI×HO)) (m:bA D->bP D),vN P w K mg base' (n+1) v cl m->dZ P w K mg base' fF (n+2) fR fdR ["thing","most","holds"] (vO K v cl (lN m)):=λbase' v cl m CB=>(oI (C:=C) FR (TB base') CB).imp λvs H Q E h=>oH h
 obtain⟨fN_is_deed,hmN_is_deed,CB_is_deed⟩:=uv ((T0 base).c .q15);have hrow_is_deed:=hrow base _ _ _ (uC CB_is_deed (gy n));obtain⟨fN_is_take,hmN_is_take,CB_is_take⟩:=uv ((T0 base).c .q19);have hrow_is_take:=hrow base _ _ _ (uC CB_is_take (gy n));refine t9 F Vx ?_;intro _ cdv A outer s H E hr;refine zN ?_ ?_
 .refine aX ?_ ?_ ?_
  .refine IW.it ?_;refine iO ?_ ?_
   .refine vH ?_;refine vM ?_ ?_
    .rfl
    .refine wL (TT.c .q3) hr (by kernel_rfl) ?_ ?_ ?_
     .rfl
     .kernel_rfl
     .refine mH ?_ ?_ ?_
      .rfl
      .exact jU jj
      .refine mH ?_ ?_ ?_
       .rfl
       .exact sA
       .exact pI
   .refine iN ?_;refine vH ?_;refine vM ?_ ?_
    .rfl
    .refine wL (TT.c .q2) hr (by kernel_rfl) ?_ ?_ ?_
     .rfl
     .kernel_rfl
     .refine mH ?_ ?_ ?_
      .rfl
      .refine vL (wK hr) ?_ ?_ ?_
       .rfl
       .exact jU jj
       .exact sA
      .exact pI
  .refine rE ?_;refine sB ?_;exact zM
  .exact aW
 .refine zN ?_ ?_
  .refine aX ?_ ?_ ?_
   .refine IW.it ?_;refine iO ?_ ?_
    .refine vH ?_;refine vM ?_ ?_
     .rfl
     .refine uw hrow_is_take hr hmR FR.kp hbR hmN_is_take (by kernel_rfl) (by kernel_rfl) ?_ ?_ ?_ ?_ ?_
      .rfl
      .kernel_rfl
      .kernel_rfl
      .refine vL (wK hr) ?_ ?_ ?_
       .rfl
       .exact jU jj
       .exact sA
      .refine eJ (by kernel_rfl) (TT.g "MOST_TAKES") ?_;kernel_rfl
    .refine iN ?_;refine vH ?_;refine vM ?_ ?_
     .rfl
     .refine wL (TT.c .q5) hr (by kernel_rfl) ?_ ?_ ?_
      .rfl
      .kernel_rfl
      .refine mH ?_ ?_ ?_
       .rfl
       .refine vL (wK hr) ?_ ?_ ?_
        .rfl
        .exact jU jj
        .exact sA
       .refine mH ?_ ?_ ?_
        .rfl
        .refine eJ (by kernel_rfl) (TT.g "MOST_WORDS") ?_;kernel_rfl
        .exact pI
   .refine rE ?_;refine sB ?_;exact zM
   .exact aW
  .refine rE ?_;refine sB ?_;refine Gh ?_ ?_
   .refine uw hrow_is_deed hr hmR FR.kp hbR hmN_is_deed (by kernel_rfl) (by kernel_rfl) ?_ ?_ ?_ ?_ ?_
    .rfl
    .kernel_rfl
    .kernel_rfl
    .refine vL (wK hr) ?_ ?_ ?_
     .rfl
     .exact jU jj
     .exact sA
    .refine eJ (by kernel_rfl) (TT.g "MOST_DEEDS") ?_;kernel_rfl
   .refine Gg ?_;refine wL (TT.c .q10) hr (by kernel_rfl) ?_ ?_ ?_
    .rfl
    .kernel_rfl
    .refine mH ?_ ?_ ?_
     .rfl
     .refine vL (wK hr) ?_ ?_ ?_
      .rfl
      .exact jU jj
      .exact sA
     .exact pI
end
class Ok{α:Type}(r:bP α)(a:sT α):Prop where
 e:r= .ok a
class hG(O:cS)(i:bD)(s:sT Slot):Prop where
 e:O[i]? =bB s
class jW(O:cS)(i:bD)(s:Slot)(ρ':sT cS):Prop where
 e:O.set i s=ρ'
class Bq(a b:Str)(v:sT bU):Prop where
 e:(a==b)=v
class jI(a b:bG)(v:sT bU):Prop where
 e:cN (a<b)=v
class Iq(a b:bG)(v:sT bU):Prop where
 e:(a==b)=v
class Sz(n:bD):Prop where
 e:n<=cJ
section
variable{O ρ':cS}{s t:Slot}{i j n:bD}{f g h:ME}{x y z d:D}{b c v:bU}{fa:MA}{ds es xs:bA D}{m:bA D->bP D}{p q:MT}{A B:MS}{fl:Fl}{w u:Str}{k l:bG}{R:Ob}
instance:hG (s::O) 0 s:=⟨rfl⟩
instance [q:hG O i s]:hG (t::O) (i+1) s:=⟨q.e⟩
instance:jW (t::O) 0 s (s::O):=⟨rfl⟩
instance [q:jW O i s ρ']:jW (t::O) (i+1) s (t::ρ'):=⟨by rw[List.set_cons_succ,q.e]⟩
instance bindI {α β:Type} {r:bP α} {a:α} {k:α->bP β} {e:β} [q:Ok r a] [o:Ok (k a) e]:Ok (r.bind k) e:=⟨by rw[q.e];exact o.e⟩
instance:Ok (kc d O) d:=⟨rfl⟩
instance [q:hG O i (.val d)]:Ok (gv i O) d:=⟨by unfold gv;rw[q.e]⟩
instance m1I {m:D->bP D} [q:Ok (f O) x] [o:Ok (m x) z]:Ok (m1 m f O) z:=⟨by unfold m1;rw[q.e];exact o.e⟩
instance m2I {m:D->D->bP D} [q:Ok (f O) x] [r:Ok (g O) y] [o:Ok (m x y) z]:Ok (m2 m f g O) z:=⟨by unfold m2;rw[q.e,r.e];exact o.e⟩
instance:Ok (fP O) []:=⟨rfl⟩
instance [q:Ok (f O) x] [r:Ok (fa O) xs]:Ok (aC f fa O) (x::xs):=⟨by unfold aC;rw[q.e,r.e];rfl⟩
instance mAI [q:Ok (fa O) xs] [o:Ok (m xs) z]:Ok (mA m fa O) z:=⟨by unfold mA;rw[q.e];exact o.e⟩
instance [q:Ok (f O) (.b b)]:Ok (mB f O) b:=⟨by unfold mB;rw[q.e];rfl⟩
instance [q:Ok (f O) (.b b)]:Ok (mT f O) b:=⟨by unfold mT;rw[q.e];rfl⟩
instance [q:Ok (p O) bC]:Ok (gU p O) bH:=⟨by unfold gU;rw[q.e];rfl⟩
instance [q:Ok (p O) bH]:Ok (gU p O) bC:=⟨by unfold gU;rw[q.e];rfl⟩
instance [o:Ok (p O) bC]:Ok (kO p q O) bC:=⟨by unfold kO;rw[o.e];rfl⟩
instance [o:Ok (p O) bH] [r:Ok (q O) b]:Ok (kO p q O) b:=⟨by unfold kO;rw[o.e];exact r.e⟩
instance [o:Ok (p O) bH]:Ok (mZ p q O) bH:=⟨by unfold mZ;rw[o.e];rfl⟩
instance [o:Ok (p O) bC] [r:Ok (q O) b]:Ok (mZ p q O) b:=⟨by unfold mZ;rw[o.e];exact r.e⟩
instance [o:Ok (f O) (.b bC)] [r:Ok (g O) x]:Ok (mE f g O) x:=⟨by unfold mE;rw[o.e];exact r.e⟩
instance [o:Ok (f O) (.b bH)]:Ok (mE f g O) (.b bH):=⟨by unfold mE;rw[o.e];rfl⟩
instance [o:Ok (p O) bC] [r:Ok (f O) x]:Ok (wJ p f g O) x:=⟨by unfold wJ;rw[o.e];exact r.e⟩
instance [o:Ok (p O) bH] [r:Ok (g O) x]:Ok (wJ p f g O) x:=⟨by unfold wJ;rw[o.e];exact r.e⟩
theorem jk{xs:bA D}(i:bD)(x:D)(h:xs[i]? =bB x):cV (.t xs) (bF (i:bG))= .ok x:=by have e:mY xs (i:bG)=bB x:=du h;simp only[cV,e]
instance [q:Bq w u v]:Ok (cY (bE w) (bE u)) (.b v):=⟨by rw[<-q.e];simp[cY,gT,jO]⟩
instance [q:Iq k l v]:Ok (cY (bF k) (bF l)) (.b v):=⟨by rw[<-q.e];simp[cY,gT,jO]⟩
instance [q:Bq w u bC]:Ok (kH (bE w) (bE u)) (.b bH):=⟨kT (λv=>bP.ok (D.b !v)) q.e⟩
instance [q:Bq w u bH]:Ok (kH (bE w) (bE u)) (.b bC):=⟨kT (λv=>bP.ok (D.b !v)) q.e⟩
instance [q:Iq k l bC]:Ok (kH (bF k) (bF l)) (.b bH):=⟨kT (λv=>bP.ok (D.b !v)) q.e⟩
instance [q:jI l k v]:Ok (nV (bF k) (bF l)) (.b v):=⟨kT (λv=>bP.ok (D.b v)) q.e⟩
instance [q:jI k l v]:Ok (xS (bF k) (bF l)) (.b v):=⟨kT (λv=>bP.ok (D.b v)) q.e⟩
instance [q:jI l k bH]:Ok (lV (bF k) (bF l)) (.b bC):=⟨kT (λv=>bP.ok (D.b v)) (mQ (Int.not_lt.mp (of_decide_eq_false q.e)))⟩
instance:Ok (bZ (bF k) (bF l)) (bF (k+l)):=⟨rfl⟩
instance:Ok (sC (bF k) (bF l)) (bF (k-l)):=⟨rfl⟩
instance [q:Sz (ds.length+es.length)]:Ok (bZ (.t ds) (.t es)) (.t (ds++es)):=⟨cK q.e⟩
instance:Ok (fS [.t ds]) (bF ds.length):=⟨rfl⟩
instance:Ok (fS [.l ds]) (bF ds.length):=⟨rfl⟩
instance:Ok (sD [.t ds]) (.l ds):=⟨rfl⟩
instance:Ok (lK [.l ds]) (.t ds):=⟨rfl⟩
instance:Ok (eB (.t ds)) ds:=⟨rfl⟩
instance:Ok (eB (.l ds)) ds:=⟨rfl⟩
instance:Ok (cV (.t (d::ds)) (bF 0)) d:=⟨jk 0 d bO⟩
instance:Ok (cV (.t (x::d::ds)) (bF 1)) d:=⟨jk 1 d bO⟩
instance:Ok (cV (.t (x::y::d::ds)) (bF 2)) d:=⟨jk 2 d bO⟩
instance:Ok (cV (.t (x::y::z::d::ds)) (bF 3)) d:=⟨jk 3 d bO⟩
instance {a:D}:Ok (cV (.t (a::x::y::z::d::ds)) (bF 4)) d:=⟨jk 4 d bO⟩
theorem qQ{n:bD}(h:n<=1000000):n<=cJ:=by have:=sR;lia
theorem jl{n:bD}(h:ds.length=n)(l:n<=9):cP ds= .ok (.t ds):=cK (qQ (by lia))
theorem oJ{n:bD}(h:ds.length=n)(l:n<=9):hU ds= .ok (.l ds):=cK (qQ (by lia))
instance:Ok (cP [x]) (.t [x]):=⟨jl (n:=1) bO (by decide)⟩
instance:Ok (cP [x,y]) (.t [x,y]):=⟨jl (n:=2) bO (by decide)⟩
instance:Ok (cP [x,y,z]) (.t [x,y,z]):=⟨jl (n:=3) bO (by decide)⟩
instance {a:D}:Ok (cP [x,y,z,a]) (.t [x,y,z,a]):=⟨jl (n:=4) bO (by decide)⟩
instance {a e:D}:Ok (cP [x,y,z,a,e]) (.t [x,y,z,a,e]):=⟨jl (n:=5) bO (by decide)⟩
instance:Ok (cP []) (.t []):=⟨jl (n:=0) bO (by decide)⟩
instance:Ok (hU []) (.l []):=⟨oJ (n:=0) bO (by decide)⟩
instance:Ok (hU [x]) (.l [x]):=⟨oJ (n:=1) bO (by decide)⟩
instance:Ok (hU [x,y]) (.l [x,y]):=⟨oJ (n:=2) bO (by decide)⟩
instance:Ok (hU [x,y,z]) (.l [x,y,z]):=⟨oJ (n:=3) bO (by decide)⟩
instance {a:D}:Ok (hU [x,y,z,a]) (.l [x,y,z,a]):=⟨oJ (n:=4) bO (by decide)⟩
instance:Ok (jQ bC .n .n) (.b bH):=⟨rfl⟩
instance:Ok (jQ bH .n .n) (.b bC):=⟨rfl⟩
instance:Ok (jQ bC (.t ds) .n) (.b bC):=⟨rfl⟩
instance:Ok (jQ bH (.t ds) .n) (.b bH):=⟨rfl⟩
instance:Ok (nD "tuple" (.t ds)) (.b bC):=⟨rfl⟩
instance [q:Ok (f O) d] [o:Ok (eB d) ds]:Ok (fA f O) ds:=⟨by unfold fA;rw[q.e];exact o.e⟩
instance:Ok (cE O) (.nx O):=⟨rfl⟩
instance [q:Ok (A O) (.nx ρ')] [o:Ok (B ρ') fl]:Ok (bL A B O) fl:=⟨by unfold bL;rw[q.e];exact o.e⟩
instance [q:Ok (A O) (.rt d)]:Ok (bL A B O) (.rt d):=⟨by unfold bL;rw[q.e];rfl⟩
instance [q:Ok (f O) d]:Ok (bW f O) (.rt d):=⟨by unfold bW;rw[q.e];rfl⟩
instance [q:Ok (f O) d]:Ok (eA f O) (.nx O):=⟨by unfold eA;rw[q.e];rfl⟩
instance [q:Ok (f O) d] [o:jW O i (.val d) ρ']:Ok (cR i f O) (.nx ρ'):=⟨by unfold cR;rw[q.e, <-o.e];rfl⟩
instance [o:Ok (p O) bC] [r:Ok (A O) fl]:Ok (bY p A B O) fl:=⟨by unfold bY;rw[o.e];exact r.e⟩
instance [o:Ok (p O) bH] [r:Ok (B O) fl]:Ok (bY p A B O) fl:=⟨by unfold bY;rw[o.e];exact r.e⟩
instance:Ok (rF (.rt d)) d:=⟨rfl⟩
end
instance {w:Str}:Bq w w bC:=⟨vW w⟩
class Fu(P:bD->CT):Prop where
 e:∀n,P (n+3)=Bd (P (n+2)) (P n)
theorem fJ{P:bD->CT} [F:Fu P]{n:bD}{f:Fn}{ds:bA D}{g:MS}{O:cS}{d:D}(h:Bd (P (n+2)) (P n) f ds=(g O).bind rF) [q:Ok (g O) (.rt d)]:Ok (P (n+3) f ds) d:=⟨by rw[F.e,h,q.e];rfl⟩
end
section
variable [fZ] [Pd]{P:bD->CT} [Fu P]
section
variable{O ρ':cS}{s t:Slot}{i j n:bD}{f g h:ME}{x y z d:D}{b c v:bU}{fa:MA}{ds es xs:bA D}{m m':D->D->bP D}{p q:MT}{A B:MS}{fl:Fl}{w u:Str}{k l:bG}
instance [o:Ok (f O) x] [r:Ok (g O) y] [e:Ok (m x y) (.b bC)] [a:Ok (h O) z] [c:Ok (m' y z) d]:Ok (qI m m' f g h O) d:=⟨by unfold qI;rw[o.e,r.e];simp only[bP.bind,e.e,sY,a.e,c.e,qX]⟩
instance [o:Ok (f O) (.b bH)]:Ok (mf f O) (.b bC):=⟨by unfold mf;rw[o.e];rfl⟩
instance:Ok (fS [bE w]) (bF w.length):=⟨rfl⟩
instance:Ok (nD "str" (bE w)) (.b bC):=⟨rfl⟩
instance:Ok (nD "int" (bF k)) (.b bC):=⟨rfl⟩
instance:Ok (nD "bool" (bF k)) (.b bH):=⟨rfl⟩
instance:Ok (ml (bF k)) (bF (-k)):=⟨rfl⟩
end
theorem IP(a b:bD):([a]< [b]) ↔ a<b:=by rw[List.cons_lt_cons_iff];simp
noncomputable def qA(a b c:bD):bU:=cN (a<=c)&&cN (c<=b)
section
variable{s t:Str}{a b:bD}
abbrev jm(s t:Str):ME:=qI lV lV (kc (bE s)) @0 (kc (bE t))
theorem Vz(hs:s.cps.toList= [a])(ht:t.cps.toList= [b])(c:bD):jm s t #[bE ⟨[c].toArray⟩]= .ok (.b (qA a b c)):=by
 have e1:lV (bE s) (bE ⟨[c].toArray⟩)= .ok (.b (cN (a<=c))):=by
  unfold lV;simp only[hs];rw[show cN (([c]:bA bD)< [a])=cN (c<a)from LQ.mpr (IP c a)];by_cases q:c<a
  .rw[mQ q,jD (by lia)];rfl
  .rw[jD q,mQ (by lia)];rfl
 have e2:lV (bE ⟨[c].toArray⟩) (bE t)= .ok (.b (cN (c<=b))):=by
  unfold lV;simp only[ht];rw[show cN (([b]:bA bD)< [c])=cN (b<c)from LQ.mpr (IP b c)];by_cases q:b<c
  .rw[mQ q,jD (by lia)];rfl
  .rw[jD q,mQ (by lia)];rfl
 unfold qA;by_cases h:a<=c<;>simp[qI,kc,gv,bP.bind,e1,e2,sY,h]
theorem IQ(hs:s.cps.toList= [a])(ht:t.cps.toList= [b]):∀cs:bA bD,hX (λ_=>.ok bC) (jm s t) [] (cs.map λc=>bE ⟨[c].toArray⟩)= .ok ((cs.map (qA a b)).map .b)| []=>rfl|c::cs=>by rw[dY,hX];show(bP.bind (jm s t #[bE ⟨[c].toArray⟩]) _)=_;rw[Vz hs ht];show(bP.bind (hX _ _ [] (cs.map λc=>bE ⟨[c].toArray⟩)) _)=_;rw[IQ hs ht cs];rfl
theorem IR:∀cs:bA bU,a0 (cs.map .b)= .ok cs| []=>rfl|c::cs=>by rw[dY,a0,IR cs];rfl
theorem IU(hs:s.cps.toList= [a])(ht:t.cps.toList= [b]){z:Str}(hz:z.length<=1000):Ok (mA a8 {(gO [] (fA @0) (λ_=>.ok bC) (jm s t))} #[bE z]) (.b (z.cps.toList.all (qA a b))):=by
 have h1:gO [] (fA @0) (λ_=>.ok bC) (jm s t) #[bE z]= .ok (.l ((z.cps.toList.map (qA a b)).map .b)):=by show(if(aY z).length<=cJ then(hX _ _ _ (aY z)).bind _ else .bad)=_;rw[cK (qQ (by unfold aY;rw[cG];exact jS hz (by decide)))];show((hX _ _ [] (z.cps.toList.map λc=>bE ⟨[c].toArray⟩)).bind _)=_;rw[IQ hs ht];rfl
 have h2:Ok (a8 [.l ((z.cps.toList.map (qA a b)).map .b)]) (.b (z.cps.toList.all (qA a b))):=⟨by simp only[a8];rw[IR];show bP.ok (D.b ((z.cps.toList.map (qA a b)).all id))=_;rw[D3];rfl⟩;have h1:Ok (gO [] (fA @0) (λ_=>.ok bC) (jm s t) #[bE z]) _:=⟨h1⟩
 infer_instance
end
theorem oK:∀ts:bA Str,depL (ts.map bE)=0| []=>rfl|t::ts=>by rw[dY,depL,oK ts];rfl
theorem IV(z:Str):∀ts:bA Str,zP (bE z) (ts.map bE)=ts.any (· ==z)| []=>rfl|t::ts=>by show(jO (bE t) (bE z)||zP (bE z) (ts.map bE))=_;rw[IV z ts,az,jO]
theorem u7(neg:bU)(z:Str)(ts:bA Str):dU neg (bE z) (.t (ts.map bE))= .ok (.b (if neg then !ts.any (· ==z)else ts.any (· ==z))):=by simp only[dU];rw[cK ⟨by rw[oK];decide,by simp[gT]⟩,IV]
theorem wU{z:Str}{ts:bA Str}{b:bU}(h:ts.any (· ==z)=b):Ok (dU bH (bE z) (.t (ts.map bE))) (.b b):=⟨by rw[u7,h];rfl⟩
def sP(z:Str):bU:=z.cps.toList.all (qA 97 122)
def yI(z:Str):bU:=sP z&& !ab.any (· ==z)
class Nm(z:Str):Prop where
 l:1<=z.length/\z.length<=8
 e:yI z=bC
class Wl(z:Str):Prop where
 l:1<=z.length/\z.length<=8
theorem IY{n:bD}{z:Str} [W:Wl z]:Ok (P (n+3) .q2 [bE z]) (.b (yI z)):=by
 have:=W.l;have i1:jI z.length 1 false:=⟨jD (by lia)⟩;have i2:jI 8 z.length false:=⟨jD (by lia)⟩;have h1:=IU (s:="a") (t:="z") (a:=97) (b:=122) (by decide+kernel) (by decide+kernel) (z:=z) (by lia);have h2:Ok (dU true (bE z) (.t (ab.map bE))) _:=⟨u7 true z ab⟩;refine fJ (g:=Bw (P (n+2)) (P n)) (O:=[_]) bO (q:=?_);unfold Bw Br Bp yI sP;cases hA:z.cps.toList.all (qA 97 122)with
 |true=>rw[hA]at h1;exact inferInstance|false=>rw[hA]at h1;exact inferInstance
instance {z:Str} [N:Nm z]:Wl z:=⟨N.l⟩
instance {n:bD} {z:Str} [N:Nm z]:Ok (P (n+3) .q2 [bE z]) (.b bC):=⟨by have:=(IY (P:=P) (n:=n) (z:=z)).e;rwa [N.e]at this⟩
class u8(z:Str):Prop where
 l:1<=z.length/\z.length<=8
 e:yI z=bH
instance {n:bD} {z:Str} [N:u8 z]:Ok (P (n+3) .q2 [bE z]) (.b bH):=⟨by have:Wl z:=⟨N.l⟩;have:=(IY (P:=P) (n:=n) (z:=z)).e;rwa [N.e]at this⟩
class oM(v:bG):Prop where
 e: -999999<=v/\v<=999999
instance {n:bD} {k:bG}:Ok (P (n+3) .q0 [bF k]) (.b bC):=by
 refine fJ (g:=Bu (P (n+2)) (P n)) (O:= #[bF k]) bO (q:=?_);unfold Bu
 infer_instance
instance {n:bD} {v:bG} [N:oM v]:Ok (P (n+4) .q1 [bF v]) (.b bC):=by
 have:=N.e;have i1:jI v (-999999) bH:=⟨jD (by lia)⟩;have i2:jI 999999 v bH:=⟨jD (by lia)⟩;refine fJ (g:=Bv (P (n+3)) (P (n+1))) (O:=[_]) bO (q:=?_);unfold Bv jg
 infer_instance
class Ln(ds:bA D)(k:bG)(b:sT bU):Prop where
 e:((ds.length:bG)==k)=b
instance isrow {n:bD} {k:bG} {ds:bA D} {b:bU} [L:Ln ds k b]:Ok (P (n+3) .q3 [.t ds,bF k]) (.b b):=by
 have:Iq (ds.length:bG) k b:=⟨L.e⟩;refine fJ (g:=Bx (P (n+2)) (P n)) (O:= #[.t ds,bF k]) bO (q:=?_);unfold Bx
 infer_instance
instance {a b:D}:Ln [a,b] 2 bC:=⟨rfl⟩
instance {a b c:D}:Ln [a,b,c] 3 bC:=⟨rfl⟩
instance {a b c d:D}:Ln [a,b,c,d] 4 bC:=⟨rfl⟩
instance {a b c d e:D}:Ln [a,b,c,d,e] 5 bC:=⟨rfl⟩
instance {a b c d e:D}:Ln [a,b,c,d,e] 3 bH:=⟨rfl⟩
instance {n:bD} {w:Str} {ds:bA D}:Ok (P (n+3) .q7 [.t (bE w::ds)]) (bE w):=by
 have:jI 0 ((bE w::ds).length:bG) bC:=⟨mQ (by rw[dC];lia)⟩;refine fJ (g:=Bz (P (n+2)) (P n)) (O:=[_]) bO (q:=?_);unfold Bz
 infer_instance
noncomputable abbrev iS(i:bG):Str:=yV (qt i)
noncomputable abbrev u3(s x:Str)(n:bG):D:=.t [bE s,bE x,bF n]
structure Cn where
 ws:bA Str
 ds:bA (Str×bD)
 ks:bA Str
structure Cn.ok(c:Cn):Prop where
 w:∀z∈c.ws,Nm z
 d:∀p∈c.ds,Nm p.1/\p.2<=4
noncomputable abbrev Rl:=D->bA Str->bA D->Prop
inductive FP(R:Rl):bA D->bA Str->bA D->Prop
 |nil:FP R [] [] []
 |cons {x l u xs l' u':_}:R x l u->FP R xs l' u'->FP R (x::xs) (l++l') (u++u')
def fq(w:Str):bU:=fj.any (· ==w)
inductive oN(c:Cn)(R:Rl):Rl
 |num {v:bG}:oM v->oN c R (.t [bE "number",bF v]) [iS v] []
 |nam {z:Str}:z∈c.ws->oN c R (.t [bE "name",bE z]) [z] [u3 "WORD" z 0]
 |call {z:Str} {xs l u:_}:(z,xs.length)∈c.ds->FP R xs l u->oN c R (.t [bE "call",bE z,.t xs]) ("call" ::z::iS xs.length::l) (u3 "DEED" z 0::(u++ [u3 "COUNT" z xs.length]))
 |bin {s:Str} {a b l u l' u':_}:fq s=bC->R a l u->R b l' u'->oN c R (.t [bE s,a,b]) (s::(l++l')) (u++u')
noncomputable def FE(c:Cn):bD->Rl|0=>λ_ _ _=>jF|m+1=>oN c (FE c m)
def pK(s:Str):bU:=oy.any (· ==s)
inductive qB(c:Cn)(R:Rl):Str->Rl
 |word {z:Str}:z∈c.ws->qB c R "WORD" (bE z) [z] [u3 "WORD" z 0]
 |deed {z:Str} {k:_}:(z,k)∈c.ds->qB c R "DEED" (bE z) [z] [u3 "DEED" z 0]
 |expr {e l u:_}:FE c 3 e l u->qB c R "EXPRESSION" e l u
 |parts {xs l u:_}:xs.length<=4->FP (FE c 3) xs l u->qB c R "PARTS" (.t xs) (iS xs.length::l) u
 |block {xs l u:_}:xs.length<=4->FP R xs l u->qB c R "BLOCK" (.t xs) (l++ [yV "end"]) u
inductive FF(c:Cn)(R:Rl):bA Str->bA D->bA Str->bA D->Prop
 |nil:FF c R [] [] [] []
 |part {s x l u f xs l' u':_}:qB c R s x l u->FF c R f xs l' u'->FF c R (s::f) (x::xs) (l++l') (u++u')
 |kept {s f xs l u:_}:pK s=bH->FF c R f xs l u->FF c R (s::f) xs (s::l) u
inductive Tl(c:Cn):Str->bA D->bA D->Prop
 |dos {z:Str} {ys:_}:(z,ys.length)∈c.ds->Tl c "do" [bE z,.t ys] [u3 "COUNT" z ys.length]
 |new {y:_} {z:Str}:(z,0)∈c.ds->Tl c "new" [y,bE z] [u3 "COUNT" z 0]
 |other {w:Str} {xs:_}:(w== "do")=bH->(w== "new")=bH->Tl c w xs []
inductive IZ(c:Cn)(R:Rl):Rl
 |mk {w:Str} {f xs l u v:_}:qP.lookup w=bB (.t (f.map bE))->FF c R f xs l u->Tl c w xs v->IZ c R (.t (bE w::xs)) (w::l) (u++v)
noncomputable def FS(c:Cn):bD->Rl|0=>λ_ _ _=>jF|m+1=>IZ c (FS c m)
theorem FP.all{R:Rl}{xs l u:_}(h:FP R xs l u):∀x∈xs,∃l u,R x l u:=by
 induction h with
 |nil=>exact λx hx=>by cases hx|cons h _ ih=>
  intro x hx;rcases kS.mp hx with rfl|hx
  .exact⟨_,_,h⟩
  .exact ih x hx
theorem oO{c:Cn}{R:Rl}{s x l u:_}(h:qB c R s x l u):pK s=bC:=by cases h<;>decide+kernel
theorem Ja{c:Cn}{R:Rl}{f xs l u:_}(h:FF c R f xs l u):(f.filter pK).length=xs.length:=by
 induction h with
 |nil=>rfl|part h _ ih=>rw[pQ,cK (oO h),dC,dC,ih]|kept h _ ih=>rw[pQ,h];exact ih
section
variable{O ρ' ρ1 ρ2 ρ3:cS}{i j:bD}{f g:ME}{x y z d:D}{ds xs:bA D}{A B:MS}{fl:Fl}{k:bG}{m:bA D->bP D}
theorem Jb:∀{xs:bA D},(∀x∈xs,Ok (m [x]) (.b bC))->Ok (eM m xs) (.b bC)| [],_=>⟨rfl⟩|x::r,h=>⟨by unfold eM;rw[(h x fW).e];exact(Jb λy hy=>h y (gI _ hy)).e⟩
theorem jo(h:∀x∈xs,Ok (m [x]) (.b bC))(hk:(xs.length:bG)<=k):Ok (lN m [.t xs,bF k]) (.b bC):=⟨by show(if k<(xs.length:bG)then bP.ok (D.b bH)else eM m xs)=_;rw[dH (by lia)];exact(Jb h).e⟩
instance [q:Ok (f O) x] [r:Ok (g O) y] [o:hG O j (.val (bF k))] {M:bG->bA D->bP D} {b:bU} [e:Ok (M k [x,y]) (.b b)]:Ok (iR f g j M O) (.b b):=⟨by unfold iR uq;rw[q.e,r.e,o.e];show(bP.bind (M k [x,y]) AC)=_;rw[e.e];rfl⟩
instance {d e:D} {a b:bQ bG} {l u:MO} [q:Ok (f O) d] [r:Ok (l O) a] [o:Ok (u O) b] [p:Ok (aZ d a b) e]:Ok (xW f l u O) e:=⟨by unfold xW;rw[q.e,r.e,o.e];exact p.e⟩
instance:Ok (zR O) bK:=⟨rfl⟩
instance [q:Ok (f O) (bF k)]:Ok (xV f O) (bB k):=⟨by unfold xV;rw[q.e];rfl⟩
instance cut1:Ok (aZ (.t (d::ds)) (bB 1) bK) (.t ds):=⟨by show bP.ok (D.t (qM (d::ds) (bB 1) bK))=_;unfold qM HT.sIx;simp⟩
instance [q:Ok (f O) (.l ds)] [r:Ok (g O) (.t xs)]:Ok (eP f g O) (pairD ds xs):=⟨by unfold eP;rw[q.e,r.e];rfl⟩
instance {fl':ML} [q:Ok (fl' O) ds] [r:Ok (gD i A ds O) fl]:Ok (jP i fl' A O) fl:=⟨by unfold jP;rw[q.e];exact r.e⟩
instance {fl':ML} [q:Ok (fl' O) ds] [r:Ok (jK i j A ds O) fl]:Ok (vQ i j fl' A O) fl:=⟨by unfold vQ;rw[q.e];exact r.e⟩
instance:Ok (gD i A [] O) (.nx O):=⟨by unfold gD;rfl⟩
instance:Ok (jK i j A [] O) (.nx O):=⟨by unfold jK;rfl⟩
instance [q:jW O i (.val x) ρ1] [r:Ok (A ρ1) (.nx ρ2)] [o:Ok (gD i A ds ρ2) fl]:Ok (gD i A (x::ds) O) fl:=⟨by unfold gD;rw[q.e,r.e];exact o.e⟩
instance [q:jW O i (.val x) ρ1] [p:jW ρ1 j (.val y) ρ2] [r:Ok (A ρ2) (.nx ρ3)] [o:Ok (jK i j A ds ρ3) fl]:Ok (jK i j A (.t [x,y]::ds) O) fl:=⟨by unfold jK;dsimp only;rw[q.e,p.e,r.e];exact o.e⟩
end
section
variable{c:Cn}{R:Rl}{n m:bD}{a:bG}{d x:D}{xs ds:bA D}{s w:Str}{l f:bA Str}{u:bA D}
instance:Bq "name" "number" bH:=⟨by decide+kernel⟩
instance:Bq "call" "number" bH:=⟨by decide+kernel⟩
instance:Bq "call" "name" bH:=⟨by decide+kernel⟩
theorem Jc(h:∀x∈xs,Ok (P n .q8 [x,bF a]) (.b bC))(hl:xs.length<=4):Ok (P (n+3) .q9 [.t xs,bF a]) (.b bC):=by
 have:Ok (lN (sI a (mA (P n .q8) {@0,@1})) [.t xs,bF 4]) (.b bC):=jo (λx hx=>by have:=h x hx;exact(inferInstance:Ok (mA (P n .q8) {@0,@1} #[x,bF a]) _)) (by lia);refine fJ (g:=uS (P (n+2)) (P n)) (O:= #[.t xs,bF a]) bO (q:=?_);unfold uS ou
 infer_instance
class Sg(s:Str):Prop where
 e:fq s=bC
theorem fu(h:fq s=bC):s="+" \/s="-" \/s="*" \/s="<" \/s="=" :=by obtain⟨t,ht,e⟩:=aw.mp h;cases dW e;simpa[fj]using ht
instance [h:Sg s]:Bq s "number" bH:=⟨by rcases fu h.e with rfl|rfl|rfl|rfl|rfl<;>decide+kernel⟩
instance [h:Sg s]:Bq s "name" bH:=⟨by rcases fu h.e with rfl|rfl|rfl|rfl|rfl<;>decide+kernel⟩
instance [h:Sg s]:Bq s "call" bH:=⟨by rcases fu h.e with rfl|rfl|rfl|rfl|rfl<;>decide+kernel⟩
instance [h:Sg s]:Ok (dU bC (bE s) (.t (fj.map bE))) (.b bH):=⟨by rw[u7];have:=h.e;unfold fq at this;rw[this];rfl⟩
theorem oP(hc:c.ok):∀(m n:bD) (a:bG) {d l u:_},FE c m d l u->a+m<=13->Ok (P (n+4*m+1) .q8 [d,bF a]) (.b bC)
 |0,_,_,_,_,_,h,_=>h.elim|m+1,n,a,d,l,u,h,ha=>by
  rw[show n+4*(m+1)+1=(n+4*m+2)+3 from by lia];have i0:jI 12 a bH:=⟨jD (by lia)⟩;have go:∀d,Ok (BA (P (n+4*m+4)) (P (n+4*m+2)) #[d,bF a,()]) (.rt (.b bC))->Ok (P (n+4*m+2+3) .q8 [d,bF a]) (.b bC):=λd q=>fJ (q:=q) bO
  apply go;unfold BA fg oz;cases h with
  |num h=>infer_instance|nam h=>have:=hc.w _ h;infer_instance|call h hp=>
   obtain⟨_,h4⟩:=hc.d _ h;have:=Jc (n:=n+4*m+1) (a:=a+1) (λx hx=>by obtain⟨_,_,h⟩:=hp.all x hx;exact oP hc m n (a+1) h (by lia)) h4
   infer_instance
  |bin h h1 h2=>
   have:Sg _:=⟨h⟩;have i1:=oP hc m (n+3) (a+1) h1 (by lia);have i2:=oP hc m (n+3) (a+1) h2 (by lia);rw[show n+3+4*m+1=n+4*m+4 from by lia]at i1 i2
   infer_instance
end
section
variable{c:Cn}{R:Rl}{n m:bD}{a:bG}{d x:D}{xs ds:bA D}{s w:Str}{l f:bA Str}{u:bA D}{O:cS}
instance [h:Ok (gO js fl p g O) d] {i:bD} {ρ':cS} [o:jW O i (.val d) ρ']:Ok (qL i js fl p g O) (.nx ρ'):=by unfold qL;infer_instance
theorem bv{js:bA bD}{fl:ML}{p:MT}{g:ME}{ys:bA D} [h:Ok (fl O) xs](hl:xs.length<=1000000)(q:Ok (hX p g (lL js O) xs) ys):Ok (gO js fl p g O) (.l ys):=⟨by unfold gO;rw[h.e];show(if xs.length<=cJ then _ else _)=_;rw[cK (qQ hl),q.e];rfl⟩
class Sf(w:Str)(f:sT (bA Str)):Prop where
 e:qP.lookup w=bB (.t (f.map bE))
instance [h:Sf w f]:Ok (yD qP (bE w)) (.t (f.map bE)):=⟨by unfold yD;dsimp only;rw[h.e]⟩
instance [h:Sf w f]:Ok (yC qP bC (bE w)) (.b bH):=⟨by unfold yC;dsimp only;rw[h.e];rfl⟩
instance:Ok (dU bH (bE s) (.t (oy.map bE))) (.b (pK s)):=⟨u7 bH s oy⟩
theorem Jd:∀f:bA Str,Ok (hX (mB (m2 (dU false) @0 (kc tG))) @0 [] (f.map bE)) ((f.filter pK).map bE)
 | []=>⟨rfl⟩
 |s::f=>⟨by
  have h:=(Jd f).e;have q:Ok (mB (m2 (dU false) @0 (kc tG)) #[bE s]) (pK s):=by unfold tG;infer_instance
  rw[dY,hX,q.e,pQ];cases pK s with
  |true=>show(bP.bind (hX _ _ _ _) _)=_;rw[h];rfl
  |false=>exact h⟩
theorem Je(h:qP.lookup w=bB (.t (f.map bE))):f.length<=5:=by
 have k:(qP.all λp=>match p.2 with| .t l=>cN (l.length<=5)|_=>bH)=bC:=by decide+kernel
 have:∀l:bA (Str×D),l.lookup w=bB (.t (f.map bE))->(l.all λp=>match p.2 with| .t l=>cN (l.length<=5)|_=>bH)=bC->f.length<=5:=by
  intro l;induction l with
  |nil=>exact λh=>by cases h|cons p l ih=>
   intro h k;rw[lS,dB]at k;rw[lF]at h;split at h
   .have e:=jJ h;have k:=k.1;rw[e]at k;have:=mJ k
    rwa [cG]at this
   .exact ih h k.2
 exact this _ h k
instance sorts_is [h:Sf w f]:Ok (P (n+3) .q13 [bE w]) (.l ((f.filter pK).map bE)):=by
 have k:=Je h.e;have:=bv (O:= #[bE w]) (js:=[]) (fl:=fA (m1 (yD qP) @0)) (xs:=f.map bE) (by rw[cG];lia) (Jd f);refine fJ (g:=BD (P (n+2)) (P n)) (O:= #[bE w]) bO (q:=?_);unfold BD
 infer_instance
instance:Ok (dU bH (bE "WORD") (.t (fh.map bE))) (.b bC):=wU (by decide+kernel)
instance:Ok (dU bH (bE "DEED") (.t (fh.map bE))) (.b bC):=wU (by decide+kernel)
instance:Ok (dU bH (bE "EXPRESSION") (.t (fh.map bE))) (.b bH):=wU (by decide+kernel)
instance:Ok (dU bH (bE "PARTS") (.t (fh.map bE))) (.b bH):=wU (by decide+kernel)
instance:Ok (dU bH (bE "BLOCK") (.t (fh.map bE))) (.b bH):=wU (by decide+kernel)
instance:Bq "PARTS" "EXPRESSION" bH:=⟨by decide+kernel⟩
instance:Bq "BLOCK" "EXPRESSION" bH:=⟨by decide+kernel⟩
instance:Bq "BLOCK" "PARTS" bH:=⟨by decide+kernel⟩
theorem Jf(h:∀x∈xs,Ok (P n .q12 [x,bF a]) (.b bC)):Ok (P (n+3) .q11 [.t xs,bF a]) (.b bC):=by
 have:Ok (lN (sI a (mA (P n .q12) {@0,@1})) [.t xs,bF xs.length]) (.b bC):=jo (λx hx=>by have:=h x hx;exact(inferInstance:Ok (mA (P n .q12) {@0,@1} #[x,bF a]) _)) (Int.le_refl _);refine fJ (g:=uT (P (n+2)) (P n)) (O:= #[.t xs,bF a]) bO (q:=?_);unfold uT
 infer_instance
theorem VA(hc:c.ok)(ha:a<=10)(hR:∀x l u,R x l u->Ok (P (n+13) .q12 [x,bF a]) (.b bC))(h:qB c R s x l u):Ok (P (n+17) .q14 [bE s,x,bF a]) (.b bC):=by
 refine fJ (g:=BE (P (n+16)) (P (n+14))) (O:= #[bE s,x,bF a]) bO (q:=?_);unfold BE ae;cases h with
 |word h=>have:=hc.w _ h;infer_instance|deed h=>have:=(hc.d _ h).1;infer_instance|expr h=>have:=oP (P:=P) hc 3 (n+3) a h (by lia);infer_instance|parts h4 h=>have:=Jc (P:=P) (n:=n+13) (a:=a) (λx hx=>by obtain⟨_,_,h⟩:=h.all x hx;exact oP hc 3 n a h (by lia)) h4;infer_instance|block _ h=>have:=Jf (P:=P) (n:=n+13) (a:=a) (λx hx=>by obtain⟨_,_,h⟩:=h.all x hx;exact hR _ _ _ h);infer_instance
abbrev Jg(C:CT):MS:=bY (gU (mT (mA (C .q14) {@4,@5,(m2 bZ @1 .(1))}))) (bW (kc (.b bH))) (cE)
theorem VB{C:CT}{X Ya Za:Slot}(hp:∀s x l u,qB c R s x l u->Ok (C .q14 [bE s,x,bF (a+1)]) (.b bC))(h:FF c R f xs l u):∀p q,∃p' q',Ok (jK 4 5 (Jg C) (pairD ((f.filter pK).map bE) xs) [X,.val (bF a),Ya,Za,p,q]) (.nx [X,.val (bF a),Ya,Za,p',q']):=by
 induction h with
 |nil=>exact λp q=>⟨p,q,⟨rfl⟩⟩|kept h _ ih=>rw[pQ,h];exact ih| @part s x _ _ f xs _ _ h _ ih=>intro p q;rw[pQ,cK (oO h)];obtain⟨p',q',i⟩:=ih (.val (bE s)) (.val x);have:=hp _ _ _ _ h;exact⟨p',q',(inferInstance:Ok (jK 4 5 (Jg C) (.t [bE s,x]::pairD ((f.filter pK).map bE) xs) _) _)⟩
theorem Jh(hc:c.ok):∀(m n:bD) (a:bG) {d l u:_},FS c m d l u->a+m<=10->Ok (P (n+5*m+13) .q12 [d,bF a]) (.b bC)
 |0,_,_,_,_,_,h,_=>h.elim|m+1,n,a,_,_,_,.mk (w:=w) (f:=f) (xs:=xs) hw hf _,ha=>by
  have i0:jI 12 a bH:=⟨jD (by lia)⟩;have i1:Sf w f:=⟨hw⟩;have i2:Iq ((bE w::xs).length:bG) ((((f.filter pK).map bE).length:bG)+1) bC:=⟨by rw[cG,Ja hf,dC];exact vW _⟩;obtain⟨p',q',i⟩:=VB (C:=P (n+5*m+17)) (a:=a) (X:=.val (.t (bE w::xs))) (Ya:=.val (bE w)) (Za:=.val (.l ((f.filter pK).map bE))) (λs x l u h=>VA (n:=n+5*m) hc (by lia) (λx l u h=>Jh hc m n (a+1) h (by lia)) h) hf .no .no;refine fJ (n:=n+5*m+15) (g:=BC (P (n+5*m+17)) (P (n+5*m+15))) (O:= #[.t (bE w::xs),bF a,(),(),(),()]) bO (q:=?_);unfold BC fg
  infer_instance
theorem Ji(hc:c.ok)(h:FP (FS c m) xs l u)(hm:m<=10):Ok (P (n+5*m+17) .q10 [.t xs]) (.b bC):=by
 have:=Jf (P:=P) (n:=n+5*m+13) (a:=0) (λx hx=>by obtain⟨_,_,h⟩:=h.all x hx;exact Jh hc m n 0 h (by lia));refine fJ (n:=n+5*m+14) (g:=BB (P (n+5*m+16)) (P (n+5*m+14))) (O:= #[.t xs]) bO (q:=?_);unfold BB
 infer_instance
end
noncomputable abbrev dP(p:Str×bD):D:=.t [bE p.1,bF p.2]
noncomputable abbrev p2(p:Str×Str):D:=.t [bE p.1,bE p.2]
noncomputable abbrev kw(s:lB):Str:=yV s
def gH(ws:bA Str):bA Str:=ws.flatMap λz=>[kw "word",z]
def tH(ds:bA (Str×bD)):bA Str:=ds.flatMap λp=>[kw "deed",p.1,iS p.2]
def kZ(tk:bA (Str×Str)):bA Str:=tk.flatMap λt=>[kw "take",t.2,kw "from",t.1]
inductive FD(c:Cn):Rl
 |mk {z:Str} {ps xs l u:_}:Nm z->(∀p∈ps,Nm p)->ps.Nodup->ps.length<=4->FP (FS ⟨c.ws++ps,c.ds,c.ks⟩ 3) xs l u->xs.length<=4->(∀p∈ps,p∉c.ks)->FD c (.t [bE z,.t (ps.map bE),.t [],.t xs]) (kw "deed" ::z::kw "with" ::(ps++(kw "own" ::kw "do" ::(l++ [kw "end"])))) [dP (z,ps.length)]
structure Fc where
 nm:Str
 ws:bA Str
 ds:bA (Str×bD)
def Fc.d(f:Fc):D:=.t [bE f.nm,.t (f.ws.map bE),.t (f.ds.map dP)]
def Fc.w(f:Fc):bA Str:=kw "face" ::f.nm::(gH f.ws++(tH f.ds++ [kw "done"]))
structure Fc.ok(f:Fc):Prop where
 n:Nm f.nm
 w:∀z∈f.ws,Nm z
 d:∀p∈f.ds,Nm p.1/\p.2<=4
 u:(f.ws++f.ds.map (·.1)).Nodup
 lw:f.ws.length<=6
 ld:f.ds.length<=6
inductive FU(c:Cn):D->bA Str->Prop
 |mk {z:Str} {tk ow dds l ks xs l' u:_}:Nm z->(∀t∈tk,Nm t.1/\Nm t.2)->tk.length<=8->(∀z∈ow,Nm z)->ow.length<=6->FP (FD c) dds l ks->dds.length<=6->FP (FS c 3) xs l' u->xs.length<=9->FU c (.t [bE z,.t (tk.map p2),.t (ow.map bE),.t dds,.t xs]) (kw "unit" ::z::(kZ tk++(gH ow++(l++(kw "do" ::(l'++ [kw "end",kw "done"]))))))
section
variable{c:Cn}{n m:bD}{z:Str}{zs ws:bA Str}{xs:bA D}{f:Fc}{d:D}{l:bA Str}
theorem va{k:bD}(h:∀z∈zs,Nm z)(hl:zs.length<=k):Ok (P (n+6) .q5 [.t (zs.map bE),bF k]) (.b bC):=by
 have:Ok (lN (P (n+3) .q2) [.t (zs.map bE),bF k]) (.b bC):=jo (λx hx=>by obtain⟨z,hz,rfl⟩:=jA.mp hx;have:=h z hz;infer_instance) (by rw[cG];lia);refine fJ (g:=uR (P (n+5)) (P (n+3))) (O:= #[.t (zs.map bE),bF k]) rfl (q:=?_);unfold uR
 infer_instance
theorem Jj:∀(zs acc:bA Str),zs.Nodup->(∀z∈zs,z∉acc)->zs.foldl vR acc=acc++zs
 | [],acc,_,_=>by simp|z::zs,acc,h,k=>by
  have h:=cf.mp h;have e:vR acc z=acc++ [z]:=by unfold vR;rw[dH];intro q;obtain⟨y,hy,e⟩:=aw.mp q;exact k z fW (dW e▸hy)
  rw[pz,e,Jj zs _ h.2 λy hy q=>by
   rcases jR.mp q with q|q
   .exact k y (gI _ hy) q
   .exact h.1 (tP.mp q▸hy)]
  simp
theorem Jk(zs:bA Str):zU (zs.map bE)=bB zs:=by
 induction zs with
 |nil=>rfl|cons z zs ih=>rw[dY,zU,ih];rfl
theorem Jl{q:bA D->D}(hq:q= .t\/q= .l)(h:zs.Nodup)(hl:zs.length<=900):Ok (P (n+3) .q6 [q (zs.map bE)]) (.b bC):=by
 have e:Ok (iW (q (zs.map bE))) (bF zs.length):=⟨by rcases hq with rfl|rfl<;>(simp only[iW,m7,Jk,m6];rw[Jj zs [] h (λ_ _ q=>by cases q)];simp;lia)⟩;have e2:Ok (fS [q (zs.map bE)]) (bF zs.length):=⟨by rcases hq with rfl|rfl<;>simp[fS]⟩;have:Iq (zs.length:bG) zs.length bC:=⟨vW _⟩;refine fJ (g:=By (P (n+2)) (P n)) (O:= #[q (zs.map bE)]) rfl (q:=?_);unfold By
 infer_instance
theorem Cn.ok.put(hc:c.ok)(h:∀p∈zs,Nm p):Cn.ok ⟨c.ws++zs,c.ds,c.ks⟩:=⟨λz hz=>(jR.mp hz).elim (hc.w z) (h z),hc.d⟩
theorem VC{x:D}{u:bA D}(hc:c.ok)(h:FD c x l u):Ok (P (n+33) .q15 [x]) (.b bC):=by
 cases h with
 | @mk z ps xs l u h1 h2 h3 h4 h5 h6 _=>
  have i1:=va (P:=P) (n:=n+26) (k:=4) h2 h4;have i2:Ok (P (n+32) .q5 [.t [],bF 6]) (.b bC):=va (n:=n+26) (zs:=[]) (k:=6) (λ_ h=>by cases h) (by decide);have i3:=Jl (P:=P) (n:=n+29) (.inl bO) h3 (by lia);have i4:=Ji (P:=P) (n:=n) (hc.put h2) h5 (by decide);have i5:Ok (bZ (.t (ps.map bE)) (.t [])) (.t (ps.map bE)):=⟨by show(if _ then _ else _)=_;rw[cK (qQ (by rw[cG,lQ];lia)),kK]⟩;refine fJ (n:=n+30) (g:=BF (P (n+32)) (P (n+30))) (O:= #[.t [bE z,.t (ps.map bE),.t [],.t xs]]) bO (q:=?_);unfold BF ot Bs
  infer_instance
theorem VD{p:Str×bD}(h:Nm p.1/\p.2<=4):Ok (P (n+4) .q17 [dP p]) (.b bC):=by
 have:=h.1;have i1:jI p.2 0 bH:=⟨jD (by lia)⟩;have i2:jI 4 p.2 bH:=⟨jD (by lia)⟩;refine fJ (n:=n+1) (g:=BG (P (n+3)) (P (n+1))) (O:= #[dP p]) bO (q:=?_);unfold BG ot
 infer_instance
theorem VE{t:Str×Str}(h:Nm t.1/\Nm t.2):Ok (P (n+4) .q19 [p2 t]) (.b bC):=by
 have:=h.1;have:=h.2;refine fJ (n:=n+1) (g:=BH (P (n+3)) (P (n+1))) (O:= #[p2 t]) bO (q:=?_);unfold BH
 infer_instance
theorem Jn{g:ME}{rest:cS}{h:D->D}:∀{xs:bA D},(∀x∈xs,Ok (g (.val x::rest)) (h x))->Ok (hX (λ_=>.ok bC) g rest xs) (xs.map h)| [],_=>⟨rfl⟩|x::xs,k=>⟨by rw[hX];show(bP.bind (g (.val x::rest)) _)=_;rw[(k x fW).e];show(bP.bind (hX _ _ _ xs) _)=_;rw[(Jn λy hy=>k y (gI _ hy)).e];rfl⟩
noncomputable def hdD:D->D| .t (x::_)=>x|_=>.n
theorem VF(h:f.ok):Ok (P (n+9) .q16 [f.d]) (.b bC):=by
 have:=h.n;have i1:=va (P:=P) (n:=n+2) (k:=6) h.w h.lw;have i2:Ok (lN (P (n+6) .q17) [.t (f.ds.map dP),bF 6]) (.b bC):=jo (λx hx=>by obtain⟨p,hp,rfl⟩:=jA.mp hx;exact VD (n:=n+2) (h.d p hp)) (by rw[cG];have:=h.ld;lia);have i3:Ok (gO [] (fA (0^^^2)) (λ_=>.ok bC) (0^^^0) #[f.d]) (.l ((f.ds.map (·.1)).map bE)):=by
  have k:Ok (fA (0^^^2) #[f.d]) (f.ds.map dP):=by unfold Fc.d;infer_instance
  have:=Jn (g:=m2 cV @0 .(0)) (rest:=[]) (h:=hdD) (xs:=f.ds.map dP) (λx hx=>by obtain⟨p,hp,rfl⟩:=jA.mp hx;exact(inferInstance:Ok (m2 cV @0 .(0) #[dP p]) (bE p.1)));rw[show(f.ds.map (·.1)).map bE=(f.ds.map dP).map hdD from by rw[mS,mS];rfl];exact bv (by rw[cG];have:=h.ld;lia) this
 have i4:Ok (bZ (.l (f.ws.map bE)) (.l ((f.ds.map (·.1)).map bE))) (.l ((f.ws++f.ds.map (·.1)).map bE)):=⟨by show(if _ then _ else _)=_;rw[cK (qQ (by have:=h.lw;have:=h.ld;simp only[cG];lia)),lR]⟩;have i5:=Jl (P:=P) (n:=n+5) (.inr rfl) h.u (by have:=h.lw;have:=h.ld;simp only[cH,cG];lia);refine fJ (n:=n+6) (g:=jh (P (n+8)) (P (n+6))) (O:= #[f.d]) rfl (q:=?_);unfold jh ox oq;unfold Fc.d at i3|-
 infer_instance
theorem VG(hc:c.ok)(h:FU c d l):Ok (P (n+36) .q18 [d]) (.b bC)/\Ok (P (n+36) .q16 [d]) (.b bH):=by
 cases h with
 | @mk z tk ow dds l ks xs l' u h1 h2 h3 h4 h5 h6 h7 h8 h9=>
  have i1:Ok (lN (P (n+33) .q19) [.t (tk.map p2),bF 8]) (.b bC):=jo (λx hx=>by obtain⟨p,hp,rfl⟩:=jA.mp hx;exact VE (n:=n+29) (h2 p hp)) (by rw[cG];lia);have i2:=va (P:=P) (n:=n+29) (k:=6) h4 h5;have i3:Ok (lN (P (n+33) .q15) [.t dds,bF 6]) (.b bC):=jo (λx hx=>by obtain⟨_,_,h⟩:=h6.all x hx;exact VC hc h) (by lia);have i4:=Ji (P:=P) (n:=n+3) hc h8 (by decide);constructor
  .refine fJ (n:=n+33) (g:=uU (P (n+35)) (P (n+33))) (O:= #[_]) rfl (q:=?_);unfold uU Bt ox oq
   infer_instance
  .refine fJ (n:=n+33) (g:=jh (P (n+35)) (P (n+33))) (O:= #[_]) rfl (q:=?_);unfold jh
   infer_instance
end
class Od(s:Ob)(d:sT D):Prop where
 e:s.dat=bB d
section
variable{O ρ':cS}{i j:bD}{f g:ME}{x y d:D}{ds es xs:bA D}{fl:Fl}{k l:bG}{fa:MA}{s:Ob}{h:MN}
instance:Od (.l ds) (.l ds):=⟨rfl⟩
instance {T:R.Tab}:Od (.tab T) (dR T):=⟨rfl⟩
instance [o:jW O i (.own []) ρ']:Ok (pW i O) (.nx ρ'):=⟨by unfold pW;rw[o.e]⟩
instance [q:Ok (f O) (.l es)] [r:hG O i (.own ds)] [z:Sz (ds.length+es.length)] [o:jW O i (.own (ds++es)) ρ']:Ok (kA i f O) (.nx ρ'):=⟨by unfold kA;rw[q.e];show nc i O (.l es)=_;unfold nc;rw[r.e];dsimp only;rw[cK z.e,o.e]⟩
instance [q:Ok (f O) d] [r:hG O i (.own ds)] [z:Sz (ds.length+1)] [o:jW O i (.own (ds++ [d])) ρ']:Ok (tB i f O) (.nx ρ'):=⟨by unfold tB;rw[r.e];dsimp only;rw[q.e];show(if _ then _ else _)=_;rw[cK (show ds.length<cJ from z.e),o.e]⟩
instance [r:hG O i (.obj bH s)] [q:Od s d] [o:jW O i (.val d) ρ']:Ok (jV i O) (.nx ρ'):=⟨by unfold jV;rw[r.e];dsimp only;rw[q.e];dsimp only;rw[o.e]⟩
instance [q:Ok (h O) s] [o:jW O i (.obj bH s) ρ']:Ok (nH i h O) (.nx ρ'):=⟨by unfold nH;rw[q.e, <-o.e];rfl⟩
instance [q:Ok (fa O) ds] [z:Sz ds.length]:Ok (bg fa O) (.l ds):=⟨by unfold bg;rw[q.e];exact cK z.e⟩
instance [q:Ok (f O) (.l ds)] [r:Ok (g O) (.l es)] [z:Sz (ds.length+es.length)]:Ok (m9 f g O) (.l (ds++es)):=⟨by unfold m9;rw[q.e,r.e];exact cK z.e⟩
instance [q:Ok (f O) (bF l)] [r:hG O i (.val (bF k))] [o:jW O i (.val (bF (k+l))) ρ']:Ok (eS i f O) (.nx ρ'):=⟨by unfold eS;rw[q.e];show ng i O (bF l)=_;unfold ng;rw[r.e];dsimp only;rw[o.e]⟩
instance:Sz ([x]:bA D).length:=⟨qQ (by show 1<=_;decide)⟩
instance:Sz ([x,y]:bA D).length:=⟨qQ (by show 2<=_;decide)⟩
theorem CI(h:k.natAbs<10000000):Ok (vI [bF k]) (bE (iS k)):=⟨by unfold vI;dsimp only;rw[cK (by lia)]⟩
end
noncomputable abbrev oW:bA Str->bA D->bA D:=λl _=>l.map bE
noncomputable abbrev oU:bA Str->bA D->bA D:=λ_ u=>u
class Ou(o:bA Str->bA D->bA D):Prop where
 a:∀l l' u u',o (l++l') (u++u')=o l u++o l' u'
 z:o [] []= []
instance:Ou oW:=⟨λ_ _ _ _=>lR,rfl⟩
instance:Ou oU:=⟨λ_ _ _ _=>rfl,rfl⟩
theorem bw{R:Rl}{o:bA Str->bA D->bA D} [Oa:Ou o]{r:bA D->Slot->cS}{i:bD}{A:MS}{xs l u:_}(hr:∀acc s x,(r acc s).set i (.val x)=r acc (.val x))(hA:∀x l u acc,R x l u->acc.length+(o l u).length<=1000000->Ok (A (r acc (.val x))) (.nx (r (acc++o l u) (.val x))))(h:FP R xs l u):∀acc s,acc.length+(o l u).length<=1000000->∃s',Ok (gD i A xs (r acc s)) (.nx (r (acc++o l u) s')):=by
 induction h with
 |nil=>exact λacc s _=>⟨s,by rw[Oa.z,kK];infer_instance⟩| @cons x l u xs l' u' h _ ih=>intro acc s k;rw[Oa.a,cH]at k;have:=hA _ _ _ acc h (by lia);obtain⟨s',q⟩:=ih (acc++o l u) (.val x) (by rw[cH];lia);rw[Oa.a, <-pP];have:jW (r acc s) i (.val x) (r acc (.val x)):=⟨hr _ _ _⟩;exact⟨s',inferInstance⟩
section
variable{c:Cn}{R:Rl}{n m:bD}{d x:D}{xs ds:bA D}{s w:Str}{l l' f:bA Str}{u:bA D}
theorem kC{a b:bD}(h:a+b<=1000000):Sz (a+b):=⟨qQ h⟩
theorem lm{l:bA Str}:(l.map bE).length=l.length:=cG ..
theorem Jo(h:FP R xs l u)(hR:∀x l u,R x l u->l.length<=1000000->Ok (P (n+2) .q57 [x]) (.l (l.map bE)))(hl:l.length+1<=1000000)(hx:xs.length<=4):Ok (P (n+3) .q58 [.t xs]) (.l ((iS xs.length::l).map bE)):=by
 have:=CI (k:=xs.length) (by lia)
 obtain⟨s',q⟩:=bw (o:=oW) (r:=λacc s=>[.val (.t xs),.own acc,s]) (i:=2) (A:=kA 1 (mA (P (n+2) .q57) {@2})) (λ_ _ _=>rfl) (λx l u acc h k=>by
  have:=hR _ _ _ h (by rw[lm]at k;lia);have:=kC k
  infer_instance) h [bE (iS xs.length)] .no (by rw[lm];show 1+_<=_;lia)
 refine fJ (g:=Cf (P (n+2)) (P n)) (O:= #[.t xs,(),()]) bO (q:=?_);unfold Cf
 infer_instance
theorem pM{a b:bA D}{l l':bA Str}(ha:a=l.map bE)(hb:b=l'.map bE)(h:(l++l').length<=1000000):Ok (bZ (.l a) (.l b)) (.l ((l++l').map bE)):=⟨by subst ha hb;show(if _ then _ else _)=_;rw[cK (qQ (by rw[lm,lm, <-cH];exact h)),lR]⟩
theorem oQ(hc:c.ok):∀(m n:bD) {d l u:_},FE c m d l u->l.length<=1000000->Ok (P (n+2*m+2) .q57 [d]) (.l (l.map bE))
 |0,_,_,_,_,h,_=>h.elim|m+1,n,d,l,u,h,hl=>by
  have go:∀d l,Ok (Ce (P (n+2*m+3)) (P (n+2*m+1)) #[d,()]) (.rt (.l l))->Ok (P (n+2*m+1+3) .q57 [d]) (.l l):=λd l q=>fJ (q:=q) bO
  apply go;unfold Ce;cases h with
  | @num v h=>have:=CI (k:=v) (by have:=h.e;lia);infer_instance|nam h=>infer_instance| @call z xs l u h hp=>
   obtain⟨_,h4⟩:=hc.d _ h;have hl:l.length+3<=1000000:=hl;have:=Jo (P:=P) (n:=n+2*m) hp (λx l u h k=>oQ hc m n h k) (by lia) h4;have:Ok (bZ (.l [bE "call",bE z]) (.l ((iS xs.length::l).map bE))) (.l ((kw "call" ::z::iS xs.length::l).map bE)):=pM (l:=[kw "call",z]) bO bO hl
   infer_instance
  | @bin s a b l u l' u' h h1 h2=>
   have hl:(l++l').length+1<=1000000:=hl;rw[cH]at hl;have:Sg _:=⟨h⟩;have i1:=oQ hc m (n+1) h1 (by lia);have i2:=oQ hc m (n+1) h2 (by lia);rw[show n+1+2*m+2=n+2*m+3 from by lia]at i1 i2;have j1:Ok (bZ (.l [bE s]) (.l (l.map bE))) (.l ((s::l).map bE)):=pM (l:=[s]) bO bO (by show l.length+1<=_;lia);have j2:Ok (bZ (.l ((s::l).map bE)) (.l (l'.map bE))) (.l ((s::(l++l')).map bE)):=pM (l:=s::l) bO bO (by show(l++l').length+1<=_;rw[cH];lia)
   infer_instance
theorem CJ(h:FP R xs l u)(hR:∀x l u,R x l u->l.length<=1000000->Ok (P (n+2) .q55 [x]) (.l (l.map bE)))(hl:l.length+1<=1000000):Ok (P (n+3) .q54 [.t xs]) (.l ((l++ [kw "end"]).map bE)):=by
 obtain⟨s',q⟩:=bw (o:=oW) (r:=λacc s=>[.val (.t xs),.own acc,s]) (i:=2) (A:=kA 1 (mA (P (n+2) .q55) {@2})) (λ_ _ _=>rfl) (λx l u acc h k=>by
  have:=hR _ _ _ h (by rw[lm]at k;lia);have:=kC k
  infer_instance) h [] .no (by rw[lm];show 0+_<=_;lia)
 replace q:Ok (gD 2 _ xs [.val (.t xs),.own [],.no]) (.nx [.val (.t xs),.own (l.map bE),s']):=q;have j2:Ok (bZ (.l (l.map bE)) (.l [bE "end"])) (.l ((l++ [kw "end"]).map bE)):=pM (l':=[kw "end"]) bO bO (by rw[cH];exact hl);refine fJ (g:=Ca (P (n+2)) (P n)) (O:= #[.t xs,(),()]) bO (q:=?_);unfold Ca
 infer_instance
theorem VH(hc:c.ok)(hR:∀x l u,R x l u->l.length<=1000000->Ok (P (n+9) .q55 [x]) (.l (l.map bE)))(h:qB c R s x l u)(hl:l.length<=1000000):Ok (P (n+11) .q56 [bE s,x]) (.l (l.map bE)):=by
 refine fJ (n:=n+8) (g:=Cd (P (n+10)) (P (n+8))) (O:= #[bE s,x]) bO (q:=?_);unfold Cd ae;cases h with
 |word h=>infer_instance|deed h=>infer_instance|expr h=>have:=oQ (P:=P) hc 3 (n+2) h hl;infer_instance|parts h4 h=>have:=Jo (P:=P) (n:=n+7) h (λx l u h k=>oQ hc 3 (n+1) h k) hl h4;infer_instance|block _ h=>have:=CJ (P:=P) (n:=n+7) h hR (by rw[cH]at hl;exact hl);infer_instance
abbrev wB(C:CT):MS:=bY (mB (m2 (dU bH) @3 (kc tG))) (bL (kA 1 (mA (C .q56) {@3,(m2 cV @0 @2)})) (eS 2 .(1))) (tB 1 @3)
theorem VI{C:CT}{ts:bA D}(hp:∀s x l u,qB c R s x l u->l.length<=1000000->Ok (C .q56 [bE s,x]) (.l (l.map bE)))(h:FF c R f xs l u):∀(p:bD) acc s,ts.drop p=xs->acc.length+l.length<=1000000->∃k s',Ok (gD 3 (wB C) (f.map bE) [.val (.t ts),.own acc,.val (bF p),s]) (.nx [.val (.t ts),.own (acc++l.map bE),k,s']):=by
 induction h with
 |nil=>exact λp acc s _ _=>⟨_,s,by rw[vY,kK];exact⟨rfl⟩⟩| @kept s f xs l u h _ ih=>
  intro p acc s4 hd k;rw[dC]at k;obtain⟨k',s',q⟩:=ih p (acc++ [bE s]) (.val (bE s)) hd (by rw[cH];show acc.length+1+_<=_;lia);have:=kC (a:=acc.length) (b:=1) (by lia);have i1:Ok (dU bH (bE s) tG) (.b bH):=wU h;refine⟨k',s',?_⟩;rw[dY,dY,show acc++(bE s::l.map bE)=acc++ [bE s]++l.map bE from by simp]
  infer_instance
 | @part s x l u f xs l' u' h _ ih=>
  intro p acc s4 hd k;rw[cH]at k;have:=hp _ _ _ _ h (by lia);obtain⟨k',s',q⟩:=ih (p+1) (acc++l.map bE) (.val (bE s)) (by rw[<-DO,hd];rfl) (by rw[cH,lm];lia);rw[show((p+1:bD):bG)=(p:bG)+1 from bO]at q;have:=kC (a:=acc.length) (b:=(l.map bE).length) (by rw[lm];lia);have i1:Ok (dU bH (bE s) tG) (.b bC):=wU (oO h);have i2:Ok (cV (.t ts) (bF p)) x:=⟨jk p x (by have:=Ly (xs:=ts) (i:=p) (j:=0);rw[hd]at this;simpa using this.symm)⟩;refine⟨k',s',?_⟩;rw[dY,lR, <-pP]
  infer_instance
theorem CK(hc:c.ok):∀(m n:bD) {d l u:_},FS c m d l u->l.length<=1000000->Ok (P (n+3*m+9) .q55 [d]) (.l (l.map bE))
 |0,_,_,_,_,h,_=>h.elim|m+1,n,_,_,_,.mk (w:=w) (f:=f) (xs:=xs) (l:=l) hw hf _,hl=>by
  have hl:l.length+1<=1000000:=hl;have i1:Sf w f:=⟨hw⟩;obtain⟨k',s',i⟩:=VI (C:=P (n+3*m+11)) (ts:=bE w::xs) (λs x l u h k=>VH (n:=n+3*m) hc (λx l u h k=>CK hc m n h k) h k) hf 1 [bE w] .no bO (by show 1+_<=_;lia);refine fJ (n:=n+3*m+9) (g:=Cb (P (n+3*m+11)) (P (n+3*m+9))) (O:= #[.t (bE w::xs),(),(),()]) bO (q:=?_);unfold Cb
  infer_instance
end
noncomputable def Mp{α:Type}(Q:α->Prop)(f:α->D)(g:α->bA Str):Rl:=λx l u=>∃a,Q a/\x=f a/\l=g a/\u= []
theorem bx{α:Type}{Q:α->Prop}{f:α->D}{g:α->bA Str}:∀{l:bA α},(∀a∈l,Q a)->FP (Mp Q f g) (l.map f) (l.flatMap g) []| [],_=>.nil|a::l,h=>by rw[wo];exact FP.cons (u:=[]) ⟨a,h a fW,rfl,rfl,rfl⟩ (bx λb hb=>h b (gI _ hb))
section
variable{c:Cn}{R:Rl}{n m:bD}{d x:D}{xs ds:bA D}{s w:Str}{l l' zs:bA Str}{u:bA D}{f:Fc}
theorem Jp(hl:(gH zs).length<=1000000):Ok (P (n+3) .q52 [.t (zs.map bE)]) (.l ((gH zs).map bE)):=by
 obtain⟨s',q⟩:=bw (o:=oW) (r:=λacc s=>[.val (.t (zs.map bE)),.own acc,s]) (i:=2) (A:=kA 1 (mA hU {.("word"),@2})) (λ_ _ _=>rfl) (λx l u acc h k=>by obtain⟨z,_,rfl,rfl,rfl⟩:=h;have:Sz (acc.length+ [bE (kw "word"),bE z].length):=kC k;exact(inferInstance:Ok (kA 1 (mA hU {.("word"),@2}) [.val (.t (zs.map bE)),.own acc,.val (bE z)]) (.nx [.val (.t (zs.map bE)),.own (acc++ [bE "word",bE z]),.val (bE z)]))) (bx (Q:=λ_=>wE) (f:=bE) (g:=λz=>[kw "word",z]) (l:=zs) λ_ _=>trivial) [] .no (by rw[lm];show 0+(gH zs).length<=_;lia);replace q:Ok (gD 2 _ (zs.map bE) [.val (.t (zs.map bE)),.own [],.no]) (.nx [.val (.t (zs.map bE)),.own ((gH zs).map bE),s']):=q;refine fJ (g:=B8 (P (n+2)) (P n)) (O:= #[.t (zs.map bE),(),()]) rfl (q:=?_);unfold B8
 infer_instance
theorem VJ(hc:c.ok)(h:FD c x l u)(hl:l.length<=1000000):Ok (P (n+22) .q53 [x]) (.l (l.map bE)):=by
 cases h with
 | @mk z ps xs l u h1 h2 h3 h4 h5 h6 _=>
  have hl:(ps++(kw "own" ::kw "do" ::(l++ [kw "end"]))).length+3<=1000000:=hl;simp only[cH,dC,lQ]at hl;have i0:=CJ (P:=P) (n:=n+18) h5 (λx l u h k=>CK (hc.put h2) 3 (n+2) h k) (by lia);have i1:Ok (bZ (.l [bE "deed",bE z,bE "with"]) (.l (ps.map bE))) _:=pM (l:=[kw "deed",z,kw "with"]) bO bO (by simp only[cH,dC,lQ];lia);have i2:Ok (bZ (.l (([kw "deed",z,kw "with"]++ps).map bE)) (.l [bE "own"])) _:=pM (l':=[kw "own"]) bO bO (by simp only[cH,dC,lQ];lia);have i3:Ok (bZ (.l (([kw "deed",z,kw "with"]++ps++ [kw "own"]).map bE)) (.l [])) _:=pM (l':=[]) bO bO (by simp only[cH,dC,lQ];lia);have i4:Ok (bZ (.l (([kw "deed",z,kw "with"]++ps++ [kw "own"]++ []).map bE)) (.l [bE "do"])) _:=pM (l':=[kw "do"]) bO bO (by simp only[cH,dC,lQ];lia);have i5:Ok (bZ (.l (([kw "deed",z,kw "with"]++ps++ [kw "own"]++ []++ [kw "do"]).map bE)) (.l ((l++ [kw "end"]).map bE))) _:=pM bO bO (by simp only[cH,dC,lQ];lia);rw[show kw "deed" ::z::kw "with" ::(ps++(kw "own" ::kw "do" ::(l++ [kw "end"])))= [kw "deed",z,kw "with"]++ps++ [kw "own"]++ []++ [kw "do"]++(l++ [kw "end"])from by simp];refine fJ (n:=n+19) (g:=B9 (P (n+21)) (P (n+19))) (O:= #[_]) bO (q:=?_);unfold B9
  infer_instance
theorem VL(h:f.ok)(hl:f.w.length<=1000000):Ok (P (n+4) .q50 [f.d]) (.l (f.w.map bE)):=by
 have hl:(gH f.ws++(tH f.ds++ [kw "done"])).length+2<=1000000:=hl;rw[cH,cH,pk]at hl;have i0:=Jp (P:=P) (n:=n) (zs:=f.ws) (by lia);have i1:Sz ([bE (kw "face"),bE f.nm].length+((gH f.ws).map bE).length):=kC (by rw[lm];show 2+_<=_;lia);obtain⟨s',q⟩:=bw (o:=oW) (r:=λacc s=>[.val f.d,.own acc,s]) (i:=2) (A:=kA 1 (mA hU {.("deed"),2^^^0,(mA vI {2^^^1})})) (λ_ _ _=>rfl) (λx l u acc h k=>by obtain⟨p,hp,rfl,rfl,rfl⟩:=h;have:Sz (acc.length+ [bE (kw "deed"),bE p.1,bE (iS p.2)].length):=kC k;have:=CI (k:=p.2) (by lia);exact(inferInstance:Ok (kA 1 (mA hU {.("deed"),2^^^0,(mA vI {2^^^1})}) [.val f.d,.own acc,.val (dP p)]) (.nx [.val f.d,.own (acc++ [bE "deed",bE p.1,bE (iS p.2)]),.val (dP p)]))) (bx (Q:=λp=>p.2<=4) (f:=dP) (g:=λp=>[kw "deed",p.1,iS p.2]) (l:=f.ds) λp hp=>(h.d p hp).2) ([bE (kw "face"),bE f.nm]++(gH f.ws).map bE) .no (by rw[lm,cH,lm];show 2+(gH f.ws).length+(tH f.ds).length<=_;lia);have i2:Ok (bZ (.l ([bE (kw "face"),bE f.nm]++(gH f.ws).map bE++(tH f.ds).map bE)) (.l [bE "done"])) _:=pM (l:=[kw "face",f.nm]++gH f.ws++tH f.ds) (l':=[kw "done"]) (by simp) rfl (by simp only[cH,dC,lQ];lia);rw[show f.w= [kw "face",f.nm]++gH f.ws++tH f.ds++ [kw "done"]from by unfold Fc.w;simp];refine fJ (n:=n+1) (g:=B6 (P (n+3)) (P (n+1))) (O:= #[f.d,(),()]) rfl (q:=?_);replace q:Ok (gD 2 _ (f.ds.map dP) [.val f.d,.own ([bE (kw "face"),bE f.nm]++(gH f.ws).map bE),.no]) (.nx [.val f.d,.own ([bE (kw "face"),bE f.nm]++(gH f.ws).map bE++(tH f.ds).map bE),s']):=q;unfold B6;unfold Fc.d at q|-
 infer_instance
theorem VM(hc:c.ok)(h:FU c d l)(hl:l.length<=1000000):Ok (P (n+23) .q51 [d]) (.l (l.map bE)):=by
 cases h with
 | @mk z tk ow dds l ks xs l' u h1 h2 h3 h4 h5 h6 h7 h8 h9=>
  have hl:(kZ tk++(gH ow++(l++(kw "do" ::(l'++ [kw "end",kw "done"]))))).length+2<=1000000:=hl;simp only[cH,dC,lQ]at hl;have i0:=Jp (P:=P) (n:=n+19) (zs:=ow) (by lia);generalize hd:D.t [bE z,.t (tk.map p2),.t (ow.map bE),.t dds,.t xs]=d;obtain⟨s1,q1⟩:=bw (o:=oW) (r:=λacc s=>[.val d,.own acc,s,.no]) (i:=2) (A:=kA 1 (mA hU {.("take"),2^^^1,.("from"),2^^^0})) (λ_ _ _=>rfl) (λx l u acc h k=>by obtain⟨p,hp,rfl,rfl,rfl⟩:=h;have:Sz (acc.length+ [bE (kw "take"),bE p.2,bE (kw "from"),bE p.1].length):=kC k;exact(inferInstance:Ok (kA 1 (mA hU {.("take"),2^^^1,.("from"),2^^^0}) [.val d,.own acc,.val (p2 p),.no]) (.nx [.val d,.own (acc++ [bE "take",bE p.2,bE "from",bE p.1]),.val (p2 p),.no]))) (bx (Q:=λ_=>wE) (f:=p2) (g:=λt=>[kw "take",t.2,kw "from",t.1]) (l:=tk) λp hp=>trivial) [bE "unit",bE z] .no (by rw[lm];show 2+(kZ tk).length<=_;lia);replace q1:Ok (gD 2 _ (tk.map p2) [.val d,.own [bE "unit",bE z],.no,.no]) (.nx [.val d,.own ([bE "unit",bE z]++(kZ tk).map bE),s1,.no]):=q1
  obtain⟨s2,q2⟩:=bw (o:=oW) (r:=λacc s=>[.val d,.own acc,s1,s]) (i:=3) (A:=kA 1 (mA (P (n+22) .q53) {@3})) (λ_ _ _=>rfl) (λx l u acc h k=>by
   have:=VJ (P:=P) (n:=n) hc h (by rw[lm]at k;lia);have:=kC k
   infer_instance) h6 ([bE "unit",bE z]++(kZ tk).map bE++(gH ow).map bE) .no (by rw[lm,cH,cH,lm,lm];show 2+_+_+_<=_;lia)
  replace q2:Ok (gD 3 _ dds [.val d,.own ([bE "unit",bE z]++(kZ tk).map bE++(gH ow).map bE),s1,.no]) (.nx [.val d,.own ([bE "unit",bE z]++(kZ tk).map bE++(gH ow).map bE++l.map bE),s1,s2]):=q2;have i1:Sz (([bE "unit",bE z]++(kZ tk).map bE).length+((gH ow).map bE).length):=kC (by rw[lm,cH,lm];show 2+_+_<=_;lia);have i2:=CJ (P:=P) (n:=n+19) h8 (λx l u h k=>CK hc 3 (n+3) h k) (by lia);have j1:Ok (bZ (.l ([bE "unit",bE z]++(kZ tk).map bE++(gH ow).map bE++l.map bE)) (.l [bE "do"])) _:=pM (l:=[kw "unit",z]++kZ tk++gH ow++l) (l':=[kw "do"]) (by simp) rfl (by simp only[cH,dC,lQ];lia);have j2:Ok (bZ (.l (([kw "unit",z]++kZ tk++gH ow++l++ [kw "do"]).map bE)) (.l ((l'++ [kw "end"]).map bE))) _:=pM rfl rfl (by simp only[cH,dC,lQ];lia);have j3:Ok (bZ (.l (([kw "unit",z]++kZ tk++gH ow++l++ [kw "do"]++(l'++ [kw "end"])).map bE)) (.l [bE "done"])) _:=pM (l':=[kw "done"]) rfl rfl (by simp only[cH,dC,lQ];lia);rw[show kw "unit" ::z::(kZ tk++(gH ow++(l++(kw "do" ::(l'++ [kw "end",kw "done"])))))= [kw "unit",z]++kZ tk++gH ow++l++ [kw "do"]++(l'++ [kw "end"])++ [kw "done"]from by simp];refine fJ (n:=n+20) (g:=B7 (P (n+22)) (P (n+20))) (O:= #[d,(),(),()]) rfl (q:=?_);unfold B7;subst hd
  infer_instance
end
noncomputable abbrev Ls(z:Str):bA bD:=z.cps.toList
theorem fv(a b:Str):Ls (a++b)=Ls a++Ls b:=by show(a.cps++b.cps).toList=_;rw[DA]
theorem Jq{a b:Str}(h:Ls a=Ls b):a=b:=by obtain⟨⟨x⟩⟩:=a;obtain⟨⟨y⟩⟩:=b;cases(show x=y from h);rfl
theorem rP(z:Str):(Ls z).length=z.length:=rfl
noncomputable def pN:bA Str->bA bD| []=>[]|h::t=>32::(Ls h++pN t)
noncomputable def tl:bA Str->bA bD| []=>[]|h::t=>Ls h++pN t
theorem Jr{a:bA Str}(h:a≠ []):32::tl a=pN a:=by
 cases a with
 |nil=>exact dD bO h|cons x r=>rfl
theorem CL:∀ws:bA Str,Ls (km " " ws)=tl ws:=λws=>by unfold km;rw[KJ];exact go ws
where
 go:∀ws:List Str,Ls (Str.join " " ws)=tl ws
  | []=>rfl| [x]=>by simp[Str.join,tl,pN]|x::y::r=>by have ih:=go (y::r);show Ls (x++(" " :Str)++Str.join " " (y::r))=_;rw[fv,fv,ih];show(Ls x++ [32])++_=Ls x++(32::_);simp[tl,pN]
theorem Js(sep:Str):∀(ws:bA Str) (k:bD),ws.foldl (λa w=>a+w.length+sep.length) k=k+(ws.map λw=>w.length+sep.length).sum| [],k=>by simp|w::r,k=>by rw[pz,Js sep r];simp only[dY,qb];lia
theorem VN(sep:Str)(ws:bA Str)(h:(ws.map λw=>w.length+sep.length).sum<=cJ):JoinOk sep ws=bC:=by unfold JoinOk;rw[List.foldl_toArray,Js];show(!cN (_>cJ))=bC;rw[jD (by lia)];rfl
theorem Jt:∀ws:bA Str,(pN ws).length=(ws.map λw=>w.length+1).sum| []=>rfl|w::r=>by simp only[pN,dC,cH,dY,qb,Jt r,rP];lia
theorem VO(ws:bA Str):(tl ws).length<=(pN ws).length:=by
 cases ws with
 |nil=>exact cZ _|cons w r=>simp only[tl,pN,dC,cH];lia
def Nb(ws:bA Str):Prop:=∀w∈ws,32∉Ls w
theorem Ju:∀(a b:bA bD) (s t:bA bD),32∉a->32∉b->(s= []\/ ∃s',s=32::s')->(t= []\/ ∃t',t=32::t')->a++s=b++t->a=b/\s=t
 | [],[],s,t,_,_,_,_,e=>⟨rfl,e⟩| [],y::b,s,t,_,hb,hs,_,e=>by
  rcases hs with rfl|⟨s',rfl⟩
  .cases e
  .cases e;exact dD fW hb
 |x::a,[],s,t,ha,_,_,ht,e=>by
  rcases ht with rfl|⟨t',rfl⟩
  .cases e
  .cases e;exact dD fW ha
 |x::a,y::b,s,t,ha,hb,hs,ht,e=>by rw[wq,wq,p0]at e;obtain⟨h1,h2⟩:=Ju a b s t (λz=>ha (gI _ z)) (λz=>hb (gI _ z)) hs ht e.2;exact⟨by rw[e.1,h1],h2⟩
theorem Jv(A:bA Str):pN A= []\/ ∃s',pN A=32::s':=by cases A<;>first|exact .inl bO|exact .inr ⟨_,rfl⟩
theorem Jw:∀(A B:bA Str),Nb A->Nb B->pN A=pN B->A=B| [],[],_,_,_=>rfl| [],_::_,_,_,e=>by cases e|_::_,[],_,_,e=>by cases e|a::A,b::B,ha,hb,e=>by have e':Ls a++pN A=Ls b++pN B:=(DX e).2;obtain⟨h1,h2⟩:=Ju _ _ _ _ (ha a fW) (hb b fW) (Jv A) (Jv B) e';rw[Jq h1,Jw A B (λw hw=>ha w (gI _ hw)) (λw hw=>hb w (gI _ hw)) h2]
theorem VP{A B:bA Str}(hA:A≠ [])(hB:B≠ [])(ha:Nb A)(hb:Nb B)(e:tl A=tl B):A=B:=Jw A B ha hb (by rw[<-Jr hA, <-Jr hB,e])
theorem VQ{t:Str}{B:bA Str}(hB:B≠ [])(hb:Nb B)(e:Ls t=tl B):wC t " " =B:=by
 have one:(" " :Str)=⟨[32].toArray⟩:=by decide+kernel
 refine VP (λz=>?_) hB (λw hw=>?_) hb ?_
 .have:=XN t " ";rw[z]at this;simp at this
 .rw[one]at hw;exact XC t 32 w hw
 .rw[<-e, <-CL];unfold km;rw[KJ,XD]
class At(ws:bA D)(k:bD)(l:sT (bA Str)):Prop where
 e:∃r,ws.drop k=l.map bE++r
class Hd(ws:bA D)(k:bD)(w:sT Str):Prop where
 e:ws[k]? =bB (bE w)
section
variable{ws ds es:bA D}{k k':bD}{i j n:bD}{w z:Str}{l l':bA Str}{O ρ' ρ1 ρ2:cS}{d x:D}{f:ME}{fa:MA}{g h:MX}{m:bA D->bP D}{a a':bG}{p:bU}{s s':Ob}{A B:MS}{fl:Fl}{T T':R.Tab}{ga:sK}{t:MT}
instance [q:At ws k (w::l)]:Hd ws k w:=⟨by obtain⟨r,e⟩:=q.e;have:=Ly (xs:=ws) (i:=k) (j:=0);rw[e]at this;simpa using this.symm⟩
instance [q:At ws k (w::l)]:At ws (k+1) l:=⟨by obtain⟨r,e⟩:=q.e;exact⟨r,by rw[<-DO,e];rfl⟩⟩
instance at_right [q:At ws k (l++l')]:At ws (k+l.length) l':=⟨by obtain⟨r,e⟩:=q.e;exact⟨r,by rw[<-DO,e,lR,pP];exact LY (cG ..)⟩⟩
theorem At.left(q:At ws k (l++l')):At ws k l:=⟨by obtain⟨r,e⟩:=q.e;exact⟨l'.map bE++r,by rw[e,lR,pP]⟩⟩
instance [o:hG O i (.row p ws a)] [q:Ok (fa O) ds] [r:Ok (m (.l ws::bF a::ds)) (.t [d,bF a'])]:Ok (fV i m fa O) (d,.row ws a'):=⟨by unfold fV;rw[o.e];dsimp only;rw[q.e];show Ob.dec _ (m (.l ws::bF a::ds))=_;rw[r.e];rfl⟩
instance [o:hG O i (.row p ws a)] [q:Ok (fa O) ds] [r:Ok (m (.l ws::bF a::ds)) (.t [d,bF a'])]:Ok (jL i m fa O) (d,.row ws a'):=⟨by unfold jL;rw[o.e];dsimp only;rw[q.e];show Ob.dec _ (m (.l ws::bF a::ds))=_;rw[r.e];rfl⟩
instance [o:hG O i (.row p ws a)] [r:Ok (m [.l ws,bF a]) (.t [d,bF a])]:Ok (mP i m O) d:=⟨by unfold mP;rw[o.e];dsimp only;rw[r.e];exact cK bO⟩
instance [o:hG O i (.row p ws a)]:Ok (bi i O) (.l ws):=⟨by unfold bi;rw[o.e]⟩
instance [o:hG O i (.row p ws a)]:Ok (bj i O) (bF a):=⟨by unfold bj;rw[o.e]⟩
instance [o:hG O i (.row p ws a)] [r:jW O i (.row p ws (a+a')) ρ']:Ok (iZ i a' O) (.nx ρ'):=⟨by unfold iZ;rw[o.e];dsimp only;rw[r.e]⟩
instance [q:Ok (f O) d] [o:hG O i (.obj p s)]:Ok (xP i f O) (d,s):=⟨by unfold xP;rw[q.e];show(match O[i]? with|some (.obj _ s)=>bP.ok (d,s)|_=>.bad)=_;rw[o.e]⟩
instance [q:Ok (t O) bC] [r:Ok (g O) (d,s)]:Ok (eV t g h O) (d,s):=⟨by unfold eV;rw[q.e];exact r.e⟩
instance [q:Ok (t O) bH] [r:Ok (h O) (d,s)]:Ok (eV t g h O) (d,s):=⟨by unfold eV;rw[q.e];exact r.e⟩
theorem oR{kk:D->MS}(o:hG O i (.obj p s))(q:Ok (g O) (d,s'))(r:jW O i (.obj p s') ρ1):zV i g kk O=kk d ρ1:=by unfold zV;rw[o.e];dsimp only;rw[q.e, <-r.e];rfl
instance [o:hG O i (.obj p s)] [q:Ok (g O) (d,s')] [r:jW O i (.obj p s') ρ1]:Ok (lO i g O) (.nx ρ1):=⟨by unfold lO;rw[oR o q r]⟩
instance [o:hG O i (.obj p s)] [q:Ok (g O) (d,s')] [r:jW O i (.obj p s') ρ1] [u:jW ρ1 j (.val d) ρ2]:Ok (kP i j g O) (.nx ρ2):=⟨by unfold kP;rw[oR o q r,u.e]⟩
instance [o:hG O i (.obj p s)] [q:Ok (g O) (d,s')] [r:jW O i (.obj p s') ρ1]:Ok (gP i g O) (.rr d ρ1):=⟨by unfold gP;rw[oR o q r]⟩
instance [v:hG O j (.own es)] [o:hG O i (.obj p s)] [q:Ok (g O) (d,s')] [r:jW O i (.obj p s') ρ1] [b:hG ρ1 j (.own ds)] [z:Sz (ds.length+1)] [u:jW ρ1 j (.own (ds++ [d])) ρ2]:Ok (nX i j g O) (.nx ρ2):=⟨by unfold nX;rw[v.e];dsimp only;rw[oR o q r,b.e];dsimp only;rw[cK (show ds.length<cJ from z.e),u.e]⟩
instance [q:Ok (g O) (d,s)]:Ok (sL g O) ([d],s):=⟨by unfold sL;rw[q.e];rfl⟩
instance [q:Ok (f O) d] [r:Ok (ga O) (ds,s)]:Ok (sM f ga O) (d::ds,s):=⟨by unfold sM;rw[q.e,r.e];rfl⟩
instance [o:hG O i (.obj p s)] [q:Ok (g O) (d,s')] [u:jW O i (.obj p s') ρ1] {s'':Ob} [r:Ok (ga ρ1) (ds,s'')]:Ok (i8 i g ga O) (d::ds,s''):=⟨by unfold i8;rw[o.e];dsimp only;rw[q.e];show bP.bind (ga (O.set i (.obj p s'))) _=_;rw[u.e,r.e];rfl⟩
instance [q:Ok (ga O) (ds,s)] [r:Ok (m ds) d]:Ok (sO m ga O) (d,s):=⟨by unfold sO;rw[q.e];show bP.bind (m ds) _=_;rw[r.e];rfl⟩
instance [q:Ok (A O) (.rr d ρ')]:Ok (bL A B O) (.rr d ρ'):=⟨by unfold bL;rw[q.e];rfl⟩
instance [r:hG O 0 (.row bC ws a)]:Ok (lW (.rr d O)) (.t [d,bF a]):=⟨by unfold lW i9;dsimp only;rw[r.e]⟩
instance [r:hG O 0 (.row bC ws a)]:Ok (lW (.nx O)) (.t [.n,bF a]):=⟨by unfold lW i9;dsimp only;rw[r.e]⟩
theorem kQ{c:Fn}{X:bP D}(e:Bd (P (n+2)) (P n) c ds=X)(q:Ok X d):Ok (P (n+3) c ds) d:=⟨by rw[Fu.e (P:=P),e,q.e]⟩
instance {d:D} {z:Str} {m:Str->bA D->bP D} [q:Ok (f O) (bE z)] [r:Ok (fa O) ds] [o:Ok (m z ds) d]:Ok (vJ m f fa O) d:=⟨by unfold vJ;rw[q.e];show bP.bind (fa O) _=_;rw[r.e];exact o.e⟩
instance [h:Hd ws k w]:Ok (P (n+3) .q75 [.l ws,bF k]) (.t [bE w,bF k]):=by
 have i1:jI k ws.length bC:=⟨mQ (by have:=(rS.mp h.e).1;lia)⟩;have i2:Ok (cV (.l ws) (bF k)) (bE w):=⟨by have e:mY ws (k:bG)=bB (bE w):=du h.e;simp only[cV,e]⟩;refine kQ (n:=n) (X:=(Cy (P (n+2)) (P n) [.row bC ws k]).bind lW) bO ?_;unfold Cy
 infer_instance
instance [h:Hd ws k w]:Ok (P (n+4) .q76 [.l ws,bF k]) (.t [bE w,bF ((k+1:bD):bG)]):=by
 refine kQ (n:=n+1) (X:=(Cz (P (n+3)) (P (n+1)) [.row bC ws k,.no]).bind lW) bO ?_;show Ok _ (D.t [_,bF ((k:bG)+1)]);unfold Cz
 infer_instance
instance [h:Hd ws k w]:Ok (P (n+5) .skip [.l ws,bF k,bE w]) (.t [.n,bF ((k+1:bD):bG)]):=by
 refine kQ (n:=n+2) (X:=(CA (P (n+4)) (P (n+2)) #[.row bC ws k,bE w,()]).bind lW) bO ?_;unfold CA
 infer_instance
theorem Jx(h:ws.length=k):Ok (P (n+3) .q78 [.l ws,bF k]) (.t [.b bC,bF k]):=by
 have:Iq (k:bG) (ws.length:bG) bC:=⟨by rw[h];exact vW _⟩;refine kQ (n:=n) (X:=(CC (P (n+2)) (P n) [.row bC ws k]).bind lW) bO ?_;unfold CC
 infer_instance
instance [h:Hd ws k w] [N:Nm w]:Ok (P (n+5) .q46 [.l ws,bF k]) (.t [bE w,bF ((k+1:bD):bG)]):=by
 refine kQ (n:=n+2) (X:=(B3 (P (n+4)) (P (n+2)) [.row bC ws k,.no]).bind lW) bO ?_;unfold B3
 infer_instance
end
noncomputable abbrev dg(m:bD):bA bD:=(gw 10 m).map MI
theorem oS(m:bD):XG (dg m):=λc hc=>by obtain⟨ch,hch,e⟩:=jA.mp hc;have r:=XE (Nat.isDigit_of_mem_toDigits (by decide) (by decide) hch);rw[<-e];exact r
theorem Jy{m:bD}(h:m<1000000):(dg m).length<=6/\1<=(dg m).length:=by rw[cG];exact⟨PySem.toDigits_len_pow (by decide) (by decide) h,PySem.toDigits_len_ge 10 m⟩
theorem dc:∀d:bD,d<10->0<d->49<=(Ml d).toNat:=by decide
theorem Jz(m:bD)(h:0<m):∃c r,dg m=c::r/\49<=c:=by
 induction m using Nat.strongRecOn with
 |_ m ih=>
  by_cases h10:m<10
  .refine⟨(Ml m).toNat,[],?_,dc m h10 h⟩;show(gw 10 m).map _=_;rw[Nat.toDigits_of_lt_base h10];rfl
  .have hm:m%10<10:=Nat.mod_lt m (by decide);have t:gw 10 (m/10)++gw 10 (m%10)=gw 10 (10*(m/10)+m%10):=Nat.toDigits_append_toDigits (by decide) (by lia) hm;rw[Nat.div_add_mod]at t;obtain⟨c,r,e,hc⟩:=ih (m/10) (by lia) (by lia);refine⟨c,r++(gw 10 (m%10)).map MI,?_,hc⟩;show(gw 10 m).map _=_;rw[<-t,lR];exact kT (· ++_) e
theorem VR(m:bD):Ls (iS (-((m+1:bD):bG)))=45::dg (m+1):=by show(yV (qt (-((m+1:bD):bG)))).cps.toList=_;rw[signs_ofString];have e:qt (-((m+1:bD):bG))="-" ++Nat.repr (m+1):=rfl;rw[e,String.toList_append,lR,Nat.toList_repr];rfl
theorem VS(m:bD):Ls (iS ((m:bD):bG))=dg m:=W.KIN.signs_num m
theorem VT{z:Str}{c:bD}{r:bA bD}(h:Ls z=c::r)(b:bD):w5 z ⟨[b].toArray⟩=(c==b):=by obtain⟨⟨x⟩⟩:=z;cases(show x=c::r from h);unfold w5 XH;show(cN (0+1<=(c::r).length)&&((c::r).toArray.extract 0 (0+1)== [b].toArray))=_;rw[mQ (by simp),aA];simp
theorem VU{z:Str}{c:bD}{r:bA bD}(h:Ls z=c::r):nB z (bB 1) bK=⟨r.toArray⟩:=by
 unfold nB;rw[show z.cps.toList=c::r from h];unfold qM;rw[HT.sIx_none,show(1:bG)=((1:bD):bG)from bO,HT.sIx_nat,show rX 1 (c::r).length=1 by simp];have e:((c::r).drop 1).take ((c::r).length-1)=r:=by simp
 rw[e]
section
variable{n k:bD}{i v:bG}{F:Str}{ws:bA D}
theorem VV(h1:1<=F.length)(h6:F.length<=6)(h:(Ls F).all (qA 48 57)=bC):Ok (P (n+3) .q48 [bE F]) (.b bC):=by
 have i1:jI F.length 1 bH:=⟨jD (by lia)⟩;have i2:jI 6 F.length bH:=⟨jD (by lia)⟩;have i3:Ok (mA fS {(mA vI {(kc jg)})} #[bE F]) (bF 6):=⟨by kernel_rfl⟩;have i4:=IU (s:="0") (t:="9") (a:=48) (b:=57) (by decide+kernel) (by decide+kernel) (z:=F) (by lia);rw[h]at i4;refine fJ (g:=B5 (P (n+2)) (P n)) (O:= #[bE F]) bO (q:=?_);unfold B5
 infer_instance
theorem JA(m:bD):(dg m).all (qA 48 57)=bC:=qR.mpr λc hc=>by have:=oS m c hc;unfold qA;rw[mQ this.1,mQ this.2];rfl
structure Nt(i:bG):Prop where
 l:1<=(iS i).length/\(iS i).length<=7
 b:32∉Ls (iS i)
 n:yI (iS i)=bH
 c:(iS i==kw "call")=bH
 s:fq (iS i)=bH
 r:∀{P:bD->CT} [Fu P] (n k:bD) (ws:bA D),Hd ws k (iS i)->Ok (P (n+5) .q47 [.l ws,bF k]) (.t [bF i,bF ((k+1:bD):bG)])
theorem JB{X:Slot} [h:Hd ws k (iS i)](h1:Ok (wJ (mT (vJ vK @1 {.("-")})) (xW @1 (xV .(1)) (zR)) @1 #[.row bC ws ((k+1:bD):bG),bE (iS i),()]) (bE F))(l1:1<=F.length)(l6:F.length<=6)(hf:(Ls F).all (qA 48 57)=bC)
 (h3:Ok (mZ (mT (vJ vK @2 {.("0")})) (mB (m2 kH @1 .("0"))) #[.row bC ws ((k+1:bD):bG),bE (iS i),bE F]) bH) (h4:Mg (iS i)=bB i) (h5:(iS i).length<=7):Ok (P (n+5) .q47 [.l ws,bF k]) (.t [bF i,bF ((k+1:bD):bG)]):=by
 have:=VV (P:=P) (n:=n+1) l1 l6 hf;have:Ok (yE [bE (iS i)]) (bF i):=⟨by unfold yE;dsimp only;rw[h4];exact cK (by lia)⟩;refine kQ (n:=n+2) (X:=(B4 (P (n+4)) (P (n+2)) [.row bC ws k,.no,.no]).bind lW) bO ?_;unfold B4
 infer_instance
theorem vb{z:Str}{c b:bD}{r:bA bD}{p:Str}(h:Ls z=c::r)(hp:p=⟨[b].toArray⟩):Ok (vK z [bE p]) (.b (c==b)):=⟨by subst hp;show bP.ok (D.b (w5 z _))=_;rw[VT h]⟩
theorem VW{z:Str}{c:bD}{r:bA bD}(h:Ls z=c::r)(hc:c<97):yI z=bH:=by unfold yI sP;rw[show z.cps.toList=c::r from h,lS];unfold qA;rw[jD (by lia)];rfl
theorem JC{c:bD}{r:bA bD}(e:Ls (iS i)=c::r)(hc:(48<=c/\c<=57)\/(c=45/\r≠ []))(hl:(Ls (iS i)).length<=7)(hb:∀x∈Ls (iS i),x≠32)
 (hr:∀{P:bD->CT} [Fu P] (n k:bD) (ws:bA D),Hd ws k (iS i)->Ok (P (n+5) .q47 [.l ws,bF k]) (.t [bF i,bF ((k+1:bD):bG)])):Nt i:=by
 refine⟨⟨by rw[<-rP,e];simp,hl⟩,λh=>hb 32 h bO,VW e (by lia),?_,?_,hr⟩
 .refine lE.mpr λz=>?_
  rw[z]at e;have:Ls (kw "call")= [99,97,108,108]:=by decide+kernel
  rw[this]at e;cases e;lia
 .cases q:fq (iS i)with
  |false=>rfl|true=>
   exfalso;have l:Ls "+" = [43]/\Ls "-" = [45]/\Ls "*" = [42]/\Ls "<" = [60]/\Ls "=" = [61]:=by decide+kernel
   obtain⟨l1,l2,l3,l4,l5⟩:=l;rcases fu q with z|z|z|z|z
   .rw[z,l1]at e;cases e;lia
   .rw[z,l2]at e;cases e;rcases hc with h|⟨_,h⟩;lia;exact h bO
   .rw[z,l3]at e;cases e;lia
   .rw[z,l4]at e;cases e;lia
   .rw[z,l5]at e;cases e;lia
theorem vd(N:oM i):Nt i:=by
 have hi:=N.e;have one:("-" :Str)=⟨[45].toArray⟩:=by decide+kernel
 have zer:("0" :Str)=⟨[48].toArray⟩:=by decide+kernel
 rcases Int.lt_or_le i 0 with hneg|hpos
 .obtain⟨m,rfl⟩:∃m:bD,i= -((m+1:bD):bG):=⟨(-i).toNat-1,by lia⟩;have hx:=VR m;obtain⟨l6,l1⟩:=Jy (m:=m+1) (by lia);obtain⟨c,r,e,hc⟩:=Jz (m+1) (by lia);refine JC hx (.inr ⟨rfl,by rw[e];simp⟩) (by rw[hx,dC];lia) (λx h=>?_) λn k ws h=>?_
  .rw[hx]at h;rcases kS.mp h with rfl|h
   .decide
   .have:=oS _ _ h;lia
  .have l:(iS (-((m+1:bD):bG))).length=(dg (m+1)).length+1:=by rw[<-rP,hx,dC]
   have i1:Ok (vK (iS (-((m+1:bD):bG))) [bE "-"]) (.b true):=vb hx one;have i2:Ok (aZ (bE (iS (-((m+1:bD):bG)))) (bB 1) bK) (bE ⟨(dg (m+1)).toArray⟩):=⟨by show bP.ok (bE (nB _ _ _))=_;rw[VU hx]⟩;have i3:Ok (vK ⟨(dg (m+1)).toArray⟩ [bE "0"]) (.b false):=by have:=vb (z:=⟨(dg (m+1)).toArray⟩) (c:=c) (r:=r) e zer;rwa [show(c==48)=false from lE.mpr (by lia)]at this
   exact JB (X:=.no) (F:=⟨(dg (m+1)).toArray⟩) inferInstance (by show 1<=(dg (m+1)).toArray.size;rw[gQ];exact l1) (by show(dg (m+1)).toArray.size<=6;rw[gQ];exact l6) (JA _) inferInstance (by rw[PySem.intText_neg hx (oS _) (by intro z;rw[z]at l1;simp at l1) (by lia),W.KIN.val_back]) (by rw[<-rP,hx,dC];lia)
 .obtain⟨m,rfl⟩:=ge hpos;have hx:=VS m;obtain⟨l6,l1⟩:=Jy (m:=m) (by lia);have hd:∃c r,dg m=c::r/\48<=c/\c<=57:=by
   cases q:dg m with
   |nil=>rw[q]at l1;simp at l1|cons c r=>exact⟨c,r,rfl,oS m c (by rw[q];exact fW)⟩
  obtain⟨c,r,e,hc⟩:=hd;refine JC (hx.trans e) (.inl hc) (by rw[hx];lia) (λx h=>?_) λn k ws h=>?_
  .rw[hx]at h;have:=oS _ _ h;lia
  .have i1:Ok (vK (iS m) [bE "-"]) (.b false):=by have:=vb (hx.trans e) one;rwa [show(c==45)=false from lE.mpr (by lia)]at this
   have i2:=vb (hx.trans e) zer;have i3:Ok (mZ (mT (vJ vK @2 {.("0")})) (mB (m2 kH @1 .("0"))) #[.row true ws ((k+1:bD):bG),bE (iS m),bE (iS m)]) false:=by
    by_cases hm:m=0
    .subst hm;have:Bq (iS ((0:bD):bG)) "0" true:=⟨by decide+kernel⟩;cases q:(c==48)with|true=>rw[q]at i2;infer_instance|false=>rw[q]at i2;infer_instance
    .obtain⟨c',r',e',hc'⟩:=Jz m (by lia);rw[e]at e';cases e';rw[show(c==48)=false from lE.mpr (by lia)]at i2
     infer_instance
   have l:(iS (m:bG)).length=(dg m).length:=by rw[<-rP,hx]
   exact JB (X:=.no) (F:=iS m) inferInstance (by lia) (by lia) (by rw[hx];exact JA m) i3 (W.KIN.num_reads (by lia) (by lia)) (by lia)
end
section
variable{c:Cn}{R:Rl}{n m k:bD}{a:bG}{d x:D}{xs ds ws:bA D}{s w:Str}{l l' f zs:bA Str}{u:bA D}{O ρ':cS}{i:bD}
instance [h:Sg s]:u8 s:=⟨by rcases fu h.e with rfl|rfl|rfl|rfl|rfl<;>decide+kernel,by rcases fu h.e with rfl|rfl|rfl|rfl|rfl<;>decide+kernel⟩
instance:u8 "call" :=⟨by decide+kernel,by decide+kernel⟩
instance [h:Sg s]:Ok (dU bH (bE s) (.t (fj.map bE))) (.b bC):=wU h.e
theorem yJ{r:bP D}{k k':bD}(h:Ok r (.t [d,bF k]))(e:k=k'):Ok r (.t [d,bF k']):=e▸h
instance [h:jI 12 a bH]:Ok (P (n+3) .q44 [bF a]) .n:=by
 refine kQ (X:=(B1 (P (n+2)) (P n) #[bF a]).bind rF) bO ?_;unfold B1 fg;have:Ok (rF (.nx #[bF a])) .n:=⟨rfl⟩
 infer_instance
theorem VX{g:MX}{X:Slot}(hg:∀x l u it (k:bD),R x l u->At ws k l->Ok (g [.val it,.row bC ws k,X]) (x,.row ws ((k+l.length:bD):bG)))(h:FP R xs l u):∀(its:bA D) (k:bD),its.length=xs.length->At ws k l->rJ (λ_=>.ok bC) (λY _=>g Y) (λs=>[.obj bC s,X]) its (.row ws k)= .ok (xs,.row ws ((k+l.length:bD):bG)):=by
 induction h with
 |nil=>
  intro its k e _;cases its with
  |nil=>rfl|cons _ _=>cases e
 | @cons x l u xs l' u' h _ ih=>
  intro its k e q;cases its with
  |nil=>cases e|cons it its=>have:=hg _ _ _ it k h q.left;rw[rJ];show bP.bind (g [.val it,.row bC ws k,X]) _=_;rw[this.e];show bP.bind (rJ _ _ _ its (Ob.row ws ((k+l.length:bD):bG))) _=_;rw[ih its (k+l.length) (Mt e) inferInstance,cH,DY];rfl
theorem VY{js:bA bD}{fl:ML}{g:MX}{p:bU}{r:bA D×Ob} [o:hG O i (.row p ws a)] [q:Ok (fl O) ds](hl:ds.length<=1000000)(e:nu i p js g O ds (.row ws a)= .ok r):Ok (ja i js fl g O) (.l r.1,r.2):=⟨by unfold ja;rw[o.e];dsimp only;rw[q.e];show(if ds.length<=cJ then _ else _)=_;rw[cK (qQ hl),e];rfl⟩
theorem oT{f:ME} [q:Ok (f O) (bF n)](h:n<=1000000):Ok (kG f O) (_root_.R.upTo 0 n):=⟨by
 have e:zQ (bF n)= .ok (_root_.R.upTo 0 n):=by unfold zQ;dsimp only;rw[cK (by lia),wm]
 unfold kG;rw[q.e, <-e,bP.bind]⟩
theorem bz{lo:bG}{m:bD}:(_root_.R.upTo lo m).length=m:=by unfold _root_.R.upTo;rw[cG,vV]
theorem JD(hR:∀x l u (k:bD),R x l u->At ws k l->Ok (P (n+5) .q43 [.l ws,bF k,bF a]) (.t [x,bF ((k+l.length:bD):bG)]))(h:FP R xs l u)(h4:xs.length<=4)(q:At ws k (iS xs.length::l)):Ok (P (n+6) .q45 [.l ws,bF k,bF a]) (.t [.t xs,bF ((k+1+l.length:bD):bG)]):=by
 have i0:=(vd (i:=xs.length) ⟨by lia,by lia⟩).r (P:=P) n k ws inferInstance;have i1:jI xs.length 0 bH:=⟨jD (by lia)⟩;have i2:jI 4 xs.length bH:=⟨jD (by lia)⟩;have e:=VX (g:=fV 1 (P (n+5) .q43) {@2}) (X:=.val (bF a)) (λx l u it k h q=>by have:=hR _ _ _ k h q;infer_instance) h (_root_.R.upTo 0 xs.length) (k+1) bz inferInstance;have:=oT (f:=gv 2) (O:= #[.row bC ws ((k+1:bD):bG),bF a,bF xs.length]) (n:=xs.length) (by lia);have i3:=VY (i:=0) (p:=bC) (js:=[0,1]) (fl:=kG @2) (O:= #[.row bC ws ((k+1:bD):bG),bF a,bF xs.length]) (by rw[bz];lia) e;refine kQ (n:=n+3) (X:=(B2 (P (n+5)) (P (n+3)) #[.row bC ws k,bF a,()]).bind lW) bO ?_;unfold B2 ou
 infer_instance
theorem oV(hc:c.ok):∀(m n:bD) (a:bG) {ws d l u:_} (k:bD),FE c m d l u->a+m<=13->At ws k l->Ok (P (n+2*m+5) .q43 [.l ws,bF k,bF a]) (.t [d,bF ((k+l.length:bD):bG)])
 |0,_,_,_,_,_,_,_,h,_,_=>h.elim|m+1,n,a,ws,d,l,u,k,h,ha,q=>by
  have i0:jI 12 a bH:=⟨jD (by lia)⟩;have go:∀d r,Ok ((B0 (P (n+2*m+6)) (P (n+2*m+4)) #[.row bC ws k,bF a,(),(),(),()]).bind lW) (.t [d,bF ((r:bD):bG)])->r=k+l.length->Ok (P (n+2*m+4+3) .q43 [.l ws,bF k,bF a]) (.t [d,bF ((k+l.length:bD):bG)]):=λd r q e=>yJ (kQ (P:=P) (n:=n+2*m+4) bO q) e
  unfold B0 oz at go;cases h with
  | @num v h=>have t:=vd h;have:=t.r (P:=P) (n+2*m+1) k ws inferInstance;have:u8 (iS v):=⟨⟨t.l.1,by have:=t.l.2;lia⟩,t.n⟩;have:Bq (iS v) "call" bH:=⟨t.c⟩;have:Ok (dU bH (bE (iS v)) (.t (fj.map bE))) (.b bH):=wU t.s;exact go _ _ inferInstance bO|nam h=>have:=hc.w _ h;exact go _ _ inferInstance bO| @call z xs l u h hp=>obtain⟨_,h4⟩:=hc.d _ h;have:=JD (P:=P) (n:=n+2*m) (a:=a+1) (k:=k+1+1) (ws:=ws) (λx l u k h q=>oV hc m n (a+1) k h (by lia) q) hp h4 inferInstance;exact go _ _ inferInstance (by simp only[dC];lia)| @bin s x y l u l' u' h h1 h2=>have:Sg _:=⟨h⟩;have:At ws (k+1) (l++l'):=inferInstance;have i1:=oV hc m (n+1) (a+1) (k+1) h1 (by lia) this.left;have i2:=oV hc m (n+1) (a+1) (ws:=ws) (k+1+l.length) h2 (by lia) inferInstance;rw[show n+1+2*m+5=n+2*m+6 from by lia]at i1 i2;exact go _ _ inferInstance (by simp only[dC,cH];lia)
end
section
variable{c:Cn}{R:Rl}{n m k:bD}{a:bG}{d x:D}{xs ds ws:bA D}{s w z:Str}{l l' f zs:bA Str}{u:bA D}{O ρ':cS}{i:bD}
theorem jp{t:MT}{A:MS}{r:bD->bA D->Slot->cS}{e:Str}(stop:∀k acc s,Hd ws k e->Ok (t (r k acc s)) bH)(go:∀x l u k acc s,R x l u->At ws k l->Sz (acc.length+1)->Ok (t (r k acc s)) bC/\ ∃s',Ok (A (r k acc s)) (.nx (r (k+l.length) (acc++ [x]) s')))
 (h:FP R xs l u):∀n k acc s,xs.length<n->acc.length+xs.length<=1000000->At ws k (l++ [e])->∃s',Ok (pY t A n (r k acc s)) (.nx (r (k+l.length) (acc++xs) s')):=by
 induction h with
 |nil=>intro n k acc s hn _ q;have q:At ws k [e]:=q;obtain⟨n,rfl⟩:∃j,n=j+1:=⟨n-1,by lia⟩;exact⟨s,⟨by unfold pY;rw[(stop k acc s inferInstance).e,kK];rfl⟩⟩
 | @cons x l u xs l' u' h _ ih=>intro n k acc s hn hz q;obtain⟨n,rfl⟩:∃j,n=j+1:=⟨n-1,by lia⟩;rw[dC]at hn hz;rw[pP]at q;obtain⟨h1,s1,h2⟩:=go x l u k acc s h q.left (kC (by lia));obtain⟨s',h3⟩:=ih n (k+l.length) (acc++ [x]) s1 (by lia) (by rw[cH];show _+1+_<=_;lia) inferInstance;refine⟨s',⟨?_⟩⟩;unfold pY;rw[h1.e];show bP.bind (A (r k acc s)) _=_;rw[h2.e];show pY t A n (r (k+l.length) (acc++ [x]) s1)=_;rw[h3.e,cH,DY,pP];rfl
instance {t:MT} {A:MS} {fl:Fl} [q:Ok (pY t A 33554432 O) fl]:Ok (zX t A O) fl:=⟨q.e⟩
theorem VZ(hR:∀x l u,R x l u->l≠ [])(h:FP R xs l u):xs.length<=l.length:=by
 induction h with
 |nil=>exact cZ _|cons h _ ih=>have:=List.length_pos_iff.mpr (hR _ _ _ h);rw[dC,cH];lia
theorem V0 [N:Nm z](h:ab.any (· ==w)=bC):(z==w)=bH:=by
 refine lE.mpr λe=>?_
 have:=N.e;unfold yI at this;rw[e,h]at this;simp at this
theorem V1(h:qP.lookup w=bB d):(w==kw "end")=bH:=by
 refine lE.mpr λe=>?_
 have:(qP.lookup (kw "end")).isNone=bC:=by decide+kernel
 rw[<-e,h]at this;cases this
theorem JE{N:bD}(h:FP R xs l u):l.length<=N->FP (λx l u=>R x l u/\l.length<=N) xs l u:=by
 induction h with
 |nil=>exact λ_=>.nil|cons h _ ih=>exact λk=>by rw[cH]at k;exact .cons ⟨h,by lia⟩ (ih (by lia))
theorem CM(hR:∀x l u (k:bD),R x l u->l.length<=1000000->At ws k l->Ok (P (n+2+3) .q41 [.l ws,bF k,bF a]) (.t [x,bF ((k+l.length:bD):bG)]))(hw:∀x l u,R x l u->∃w r,l=w::r/\(w==kw "end")=bH)(h:FP R xs l u)(hl:l.length<=1000000)(q:At ws k (l++ [kw "end"])):Ok (P (n+6) .q40 [.l ws,bF k,bF a]) (.t [.t xs,bF ((k+(l++ [kw "end"]).length:bD):bG)]):=by
 have hx:xs.length<=l.length:=VZ (λx l u h=>by obtain⟨_,_,rfl,_⟩:=hw _ _ _ h;simp) h;obtain⟨s',i⟩:=jp (ws:=ws) (t:=mB (m2 kH (mP 0 (P (n+5) .q75)) .("end"))) (A:=nX 0 2 (fV 0 (P (n+5) .q41) {@1})) (r:=λk acc s=>[.row bC ws k,.val (bF a),.own acc]) (e:=kw "end") (λk acc s h=>inferInstance) (λx l u k acc s h q z=>by obtain⟨w,r,e,hw⟩:=hw _ _ _ h.1;have i1:=hR _ _ _ k h.1 h.2 q;rw[e]at q;have:Bq w "end" bH:=⟨hw⟩;exact⟨inferInstance,s,inferInstance⟩) (JE h hl) 33554432 k [] .no (by lia) (by show 0+_<=_;lia) q;replace i:Ok (pY _ _ 33554432 [.row bC ws k,.val (bF a),.own []]) (.nx [.row bC ws ((k+l.length:bD):bG),.val (bF a),.own xs]):=i;refine yJ (k:=k+l.length+1) (kQ (n:=n+3) (X:=(BX (P (n+5)) (P (n+3)) #[.row bC ws k,bF a,()]).bind lW) rfl ?_) (by rw[cH];rfl);unfold BX
 infer_instance
theorem V2(hc:c.ok)(ha:a<=10)(hR:∀x l u (k:bD),R x l u->l.length<=1000000->At ws k l->Ok (P (n+11) .q41 [.l ws,bF k,bF a]) (.t [x,bF ((k+l.length:bD):bG)]))(hw:∀x l u,R x l u->∃w r,l=w::r/\(w==kw "end")=bH)(h:qB c R s x l u)(hl:l.length<=1000000)(q:At ws k l):Ok (P (n+13) .q42 [.l ws,bF k,bE s,bF a]) (.t [x,bF ((k+l.length:bD):bG)]):=by
 refine kQ (n:=n+10) (X:=(BZ (P (n+12)) (P (n+10)) #[.row bC ws k,bE s,bF a]).bind lW) bO ?_;unfold BZ ae;cases h with
 |word h=>have:=hc.w _ h;exact yJ (k:=k+1) inferInstance bO|deed h=>have:=(hc.d _ h).1;exact yJ (k:=k+1) inferInstance bO|expr h=>have:=oV (P:=P) hc 3 (n+1) a k h (by lia) q;infer_instance| @parts xs l u h4 h=>have:=JD (P:=P) (n:=n+6) (k:=k) (a:=a) (λx l u k h q=>oV hc 3 n a k h (by lia) q) h h4 q;exact yJ (k:=k+1+l.length) inferInstance (by rw[dC];lia)|block _ h=>have:=CM (P:=P) (n:=n+6) (k:=k) (a:=a) hR hw h (by rw[cH]at hl;lia) q;infer_instance
abbrev rB(C:CT):MS:=bY (mB (m2 (dU bH) @4 (kc tG))) (nX 0 3 (fV 0 (C .q42) {@4,(m2 bZ @1 .(1))})) (lO 0 (jL 0 (C .skip) {@4}))
theorem V3{W:Slot}(hp:∀s x l u (k:bD),qB c R s x l u->l.length<=1000000->At ws k l->Ok (P (n+5) .q42 [.l ws,bF k,bE s,bF (a+1)]) (.t [x,bF ((k+l.length:bD):bG)]))(h:FF c R f xs l u):∀(k:bD) acc s,l.length<=1000000->acc.length+xs.length<=1000->At ws k l->∃s',Ok (gD 4 (rB (P (n+5))) (f.map bE) [.row bC ws k,.val (bF a),W,.own acc,s]) (.nx [.row bC ws ((k+l.length:bD):bG),.val (bF a),W,.own (acc++xs),s']):=by
 induction h with
 |nil=>exact λk acc s _ _ _=>⟨s,by rw[kK];exact⟨rfl⟩⟩| @kept s f xs l u h _ ih=>intro k acc s4 hl hz q;rw[dC]at hl;obtain⟨s',i⟩:=ih (k+1) acc (.val (bE s)) (by lia) hz inferInstance;have i1:Ok (dU bH (bE s) tG) (.b bH):=wU h;rw[show k+1+l.length=k+(s::l).length from by rw[dC];lia]at i;exact⟨s',(inferInstance:Ok (gD 4 (rB (P (n+5))) (bE s::f.map bE) _) _)⟩
 | @part s x l u f xs l' u' h _ ih=>intro k acc s4 hl hz q;rw[cH]at hl;rw[dC]at hz;have:=hp _ _ _ _ k h (by lia) q.left;obtain⟨s',i⟩:=ih (k+l.length) (acc++ [x]) (.val (bE s)) (by lia) (by rw[cH];show _+1+_<=_;lia) inferInstance;have i1:Ok (dU bH (bE s) tG) (.b bC):=wU (oO h);have:=kC (a:=acc.length) (b:=1) (by lia);rw[DY, <-cH,pP]at i;exact⟨s',(inferInstance:Ok (gD 4 (rB (P (n+5))) (bE s::f.map bE) _) _)⟩
theorem CN(h:FS c m x l u):∃w r,l=w::r/\(w==kw "end")=bH:=by
 cases m with
 |zero=>exact h.elim|succ m=>cases h with|mk hw _ _=>exact⟨_,_,rfl,V1 hw⟩
theorem CO(hc:c.ok):∀(m n:bD) (a:bG) {ws d l u:_} (k:bD),FS c m d l u->a+m<=10->l.length<=1000000->At ws k l->Ok (P (n+3*m+11) .q41 [.l ws,bF k,bF a]) (.t [d,bF ((k+l.length:bD):bG)])
 |0,_,_,_,_,_,_,_,h,_,_,_=>h.elim|m+1,n,a,ws,_,_,_,k,.mk (w:=w) (f:=f) (xs:=xs) (l:=l) hw hf _,ha,hl,q=>by
  have hl:l.length+1<=1000000:=hl;have i0:jI 12 a bH:=⟨jD (by lia)⟩;have i1:Sf w f:=⟨hw⟩;have:=Je hw;have:=Ja hf;have:=we pK f;obtain⟨s',i⟩:=V3 (P:=P) (n:=n+3*m+8) (ws:=ws) (a:=a) (W:=.val (bE w)) (λs x l u k h z q=>V2 (n:=n+3*m) hc (by lia) (λx l u k h z q=>CO hc m n (a+1) k h (by lia) z q) (λx l u h=>CN h) h z q) hf (k+1) [bE w] .no (by lia) (by show 1+_<=_;lia) inferInstance;refine yJ (k:=k+1+l.length) (kQ (n:=n+3*m+11) (X:=(BY (P (n+3*m+13)) (P (n+3*m+11)) #[.row bC ws k,bF a,(),(),()]).bind lW) bO ?_) (by rw[dC];lia);unfold BY
  infer_instance
end
section
variable{c:Cn}{R:Rl}{n m k:bD}{a:bG}{d x:D}{xs ds ws:bA D}{s w z e t:Str}{l l' r zs:bA Str}{u:bA D}{O ρ':cS}{i:bD}{f:Fc}
theorem At.first(q:At ws k (l++(e::r))):At ws k (l++ [e]):=At.left (l':=r) (by rwa [pP])
theorem CP:∀zs:bA Str,zs.flatMap (λz=>[z])=zs| []=>rfl|z::zs=>by rw[wo,CP zs];rfl
theorem JF(hz:∀z∈zs,Nm z)(hw:ab.any (· ==w)=bC)(hl:zs.length<=1000)(q:At ws k (zs++(w::r))):Ok (P (n+6) .q39 [.l ws,bF k,bE w]) (.t [.t (zs.map bE),bF ((k+zs.length+1:bD):bG)]):=by
 obtain⟨s',i⟩:=jp (ws:=ws) (t:=mB (m2 kH (mP 0 (P (n+5) .q75)) @1)) (A:=nX 0 2 (fV 0 (P (n+5) .q46) (fP))) (r:=λk acc s=>[.row bC ws k,.val (bE w),.own acc]) (e:=w) (λk acc s h=>inferInstance) (λx l u k acc s h q y=>by obtain⟨z,N,rfl,rfl,rfl⟩:=h;have:Bq z w bH:=⟨V0 hw⟩;exact⟨inferInstance,s,inferInstance⟩) (bx (f:=bE) (g:=λz=>[z]) hz) 33554432 k [] .no (by rw[cG];lia) (by rw[cG];show 0+_<=_;lia) (by rw[CP];exact q.first);rw[CP]at i;replace i:Ok (pY _ _ 33554432 [.row bC ws k,.val (bE w),.own []]) (.nx [.row bC ws ((k+zs.length:bD):bG),.val (bE w),.own (zs.map bE)]):=i;refine kQ (n:=n+3) (X:=(BW (P (n+5)) (P (n+3)) #[.row bC ws k,bE w,()]).bind lW) rfl ?_;unfold BW
 infer_instance
theorem JG(hz:∀z∈zs,Nm z)(he:(e==kw "word")=bH)(hl:zs.length<=1000)(q:At ws k (gH zs++(e::r))):Ok (P (n+6) .q37 [.l ws,bF k]) (.t [.t (zs.map bE),bF ((k+(gH zs).length:bD):bG)]):=by
 have:Bq e "word" bH:=⟨he⟩;obtain⟨s',i⟩:=jp (ws:=ws) (t:=mB (m2 cY (mP 0 (P (n+5) .q75)) .("word"))) (A:=bL (lO 0 (jL 0 (P (n+5) .skip) {.("word")})) (nX 0 1 (fV 0 (P (n+5) .q46) (fP)))) (r:=λk acc s=>[.row bC ws k,.own acc]) (e:=e) (λk acc s h=>inferInstance) (λx l u k acc s h q y=>by obtain⟨z,N,rfl,rfl,rfl⟩:=h;exact⟨inferInstance,s,(inferInstance:Ok _ (Fl.nx [.row bC ws ((k+1+1:bD):bG),.own (acc++ [bE z])]))⟩) (bx (f:=bE) (g:=λz=>[kw "word",z]) hz) 33554432 k [] .no (by rw[cG];lia) (by rw[cG];show 0+_<=_;lia) q.first
 replace i:Ok (pY _ _ 33554432 [.row bC ws k,.own []]) (.nx [.row bC ws ((k+(gH zs).length:bD):bG),.own (zs.map bE)]):=i;refine kQ (n:=n+3) (X:=(BU (P (n+5)) (P (n+3)) [.row bC ws k,.no]).bind lW) rfl ?_;unfold BU
 infer_instance
theorem V4{p:Str×Str}(h:Nm p.1/\Nm p.2)(q:At ws k [kw "take",p.2,kw "from",p.1]):Ok (P (n+6) .q36 [.l ws,bF k]) (.t [p2 p,bF ((k+4:bD):bG)]):=by
 have:=h.1;have:=h.2;refine yJ (k:=k+1+1+1+1) (kQ (n:=n+3) (X:=(BS (P (n+5)) (P (n+3)) [.row bC ws k,.no]).bind lW) bO ?_) bO;unfold BS
 infer_instance
theorem V5(hc:c.ok)(h:FD c x l u)(hl:l.length<=1000000)(q:At ws k l):Ok (P (n+22) .q38 [.l ws,bF k]) (.t [x,bF ((k+l.length:bD):bG)]):=by
 cases h with
 | @mk z ps xs l u h1 h2 h3 h4 h5 h6 _=>have i1:=JF (P:=P) (n:=n+15) (k:=k+1+1+1) (ws:=ws) h2 (w:=kw "own") (by decide+kernel) (by lia) inferInstance;have i2:=JF (P:=P) (n:=n+15) (k:=k+1+1+1+ps.length+1) (ws:=ws) (zs:=[]) (w:=kw "do") (r:=l++ [kw "end"]) (λ_ h=>by cases h) (by decide+kernel) (by decide) (by show At ws _ (kw "do" ::(l++ [kw "end"]));infer_instance);replace i2:Ok (P (n+21) .q39 [.l ws,bF ((k+1+1+1+ps.length+1:bD):bG),bE "do"]) (.t [.t [],bF ((k+1+1+1+ps.length+1+1:bD):bG)]):=i2;have hl:(ps++(kw "own" ::kw "do" ::(l++ [kw "end"]))).length+3<=1000000:=hl;simp only[cH,dC,lQ]at hl;have i3:=CM (P:=P) (n:=n+15) (a:=0) (k:=k+1+1+1+ps.length+1+1) (ws:=ws) (λx l u k h z q=>CO (hc.put h2) 3 n 0 k h (by lia) z q) (λx l u h=>CN h) h5 (by lia) inferInstance;refine yJ (kQ (n:=n+19) (X:=(BV (P (n+21)) (P (n+19)) [.row bC ws k,.no,.no,.no]).bind lW) bO (by unfold BV;infer_instance)) (by simp only[dC,cH];lia)
theorem JH{α:Type}{g:α->bA Str}{b:Str}(hg:∀x,∃r,g x=b::r)(ys:bA α):∃e r,ys.flatMap g++(w::l)=e::r/\(e=b\/e=w):=by
 cases ys with
 |nil=>exact⟨w,l,rfl,.inr bO⟩|cons y ys=>obtain⟨r,h⟩:=hg y;exact⟨b,_,by rw[wo,h];rfl,.inl bO⟩
theorem V6(h:f.ok)(q:At ws k f.w):Ok (P (n+7) .q34 [.l ws,bF k]) (.t [f.d,bF ((k+f.w.length:bD):bG)]):=by unfold Fc.w at q;have:=h.n;have q1:At ws (k+1+1) (gH f.ws++(tH f.ds++ [kw "done"])):=inferInstance;obtain⟨e,r,e1,e2⟩:=JH (w:=kw "done") (l:=[]) (g:=λp:Str×bD=>[kw "deed",p.1,iS p.2]) (b:=kw "deed") (λ_=>⟨_,rfl⟩) f.ds;have i1:=JG (P:=P) (n:=n) (ws:=ws) (k:=k+1+1) (e:=e) (r:=r) h.w (by rcases e2 with rfl|rfl<;>decide+kernel) (by have:=h.lw;lia) (by rw[<-e1];exact q1);have b1:Bq "done" "deed" bH:=⟨by decide+kernel⟩;obtain⟨s',i⟩:=jp (ws:=ws) (t:=mB (m2 cY (mP 0 (P (n+6) .q75)) .("deed"))) (A:=bL (lO 0 (jL 0 (P (n+6) .skip) {.("deed")})) (bL (kP 0 4 (fV 0 (P (n+6) .q46) (fP))) (nX 0 3 (sO cP (sM @4 (sL (fV 0 (P (n+6) .q47) (fP)))))))) (r:=λk acc s=>[.row bC ws k,.val (bE f.nm),.val (.t (f.ws.map bE)),.own acc,s]) (e:=kw "done") (λk acc s h=>inferInstance) (λx l u k acc s h q y=>by obtain⟨p,N,rfl,rfl,rfl⟩:=h;have:=N.1;have:=(vd (i:=p.2) ⟨by lia,by lia⟩).r (P:=P) (n+1) (k+1+1) ws inferInstance;exact⟨inferInstance,.val (bE p.1),(inferInstance:Ok _ (Fl.nx [.row bC ws ((k+1+1+1:bD):bG),.val (bE f.nm),.val (.t (f.ws.map bE)),.own (acc++ [dP p]),.val (bE p.1)]))⟩) (bx (f:=dP) (g:=λp=>[kw "deed",p.1,iS p.2]) h.d) 33554432 (k+1+1+(gH f.ws).length) [] .no (by rw[cG];have:=h.ld;lia) (by rw[cG];have:=h.ld;show 0+_<=_;lia) (inferInstance:At ws (k+1+1+(gH f.ws).length) (tH f.ds++ [kw "done"]));replace i:Ok (pY _ _ 33554432 [.row bC ws ((k+1+1+(gH f.ws).length:bD):bG),.val (bE f.nm),.val (.t (f.ws.map bE)),.own [],.no]) (.nx [.row bC ws ((k+1+1+(gH f.ws).length+(tH f.ds).length:bD):bG),.val (bE f.nm),.val (.t (f.ws.map bE)),.own (f.ds.map dP),s']):=i;refine yJ (kQ (n:=n+4) (X:=(BQ (P (n+6)) (P (n+4)) [.row bC ws k,.no,.no,.no,.no]).bind lW) rfl (by unfold BQ Fc.d;infer_instance)) (by unfold Fc.w;simp only[dC,cH,lQ];lia)
theorem V7(hc:c.ok)(h:FU c d l)(hl:l.length<=1000000)(q:At ws k l):Ok (P (n+23) .q35 [.l ws,bF k]) (.t [d,bF ((k+l.length:bD):bG)]):=by
 cases h with
 | @mk z tk ow dds l ks xs l' u h1 h2 h3 h4 h5 h6 h7 h8 h9=>
  have hl:(kZ tk++(gH ow++(l++(kw "do" ::(l'++ [kw "end",kw "done"]))))).length+2<=1000000:=hl;simp only[cH,dC,lQ]at hl;have q1:At ws (k+1+1) (kZ tk++(gH ow++(l++(kw "do" ::(l'++ [kw "end",kw "done"]))))):=inferInstance;have e3:∃e r,l++(kw "do" ::(l'++ [kw "end",kw "done"]))=e::r/\(e=kw "deed" \/e=kw "do"):=by
   cases h6 with
   |nil=>exact⟨_,_,rfl,.inr rfl⟩|cons h _=>cases h;exact⟨_,_,rfl,.inl rfl⟩
  obtain⟨e,r,e1,e2⟩:=e3;obtain⟨g,r',g1,g2⟩:=JH (w:=e) (l:=r) (g:=λz:Str=>[kw "word",z]) (b:=kw "word") (λ_=>⟨_,rfl⟩) ow;have b0:(g==kw "take")=bH:=by rcases g2 with rfl|rfl;decide+kernel;rcases e2 with rfl|rfl<;>decide+kernel
  have b1:Bq g "take" bH:=⟨b0⟩;obtain⟨s1,i1⟩:=jp (ws:=ws) (t:=mB (m2 cY (mP 0 (P (n+22) .q75)) .("take"))) (A:=nX 0 2 (fV 0 (P (n+22) .q36) (fP))) (r:=λk acc s=>[.row bC ws k,.val (bE z),.own acc,.no,.no,.no]) (e:=g) (λk acc s h=>inferInstance) (λx l u k acc s h q y=>by obtain⟨p,N,rfl,rfl,rfl⟩:=h;have:=V4 (P:=P) (n:=n+16) N q;exact⟨inferInstance,s,(inferInstance:Ok _ (Fl.nx [.row bC ws ((k+4:bD):bG),.val (bE z),.own (acc++ [p2 p]),.no,.no,.no]))⟩) (bx (f:=p2) (g:=λt=>[kw "take",t.2,kw "from",t.1]) h2) 33554432 (k+1+1) [] .no (by rw[cG];lia) (by rw[cG];show 0+_<=_;lia) (At.first (r:=r') (by rw[<-g1, <-e1];exact q1));replace i1:Ok (pY _ _ 33554432 [.row bC ws ((k+1+1:bD):bG),.val (bE z),.own [],.no,.no,.no]) (.nx [.row bC ws ((k+1+1+(kZ tk).length:bD):bG),.val (bE z),.own (tk.map p2),.no,.no,.no]):=i1;have i2:=JG (P:=P) (n:=n+16) (ws:=ws) (k:=k+1+1+(kZ tk).length) (e:=e) (r:=r) h4 (by rcases e2 with rfl|rfl<;>decide+kernel) (by lia) (by rw[<-e1];infer_instance);have b2:Bq "do" "deed" bH:=⟨by decide+kernel⟩;have q3:At ws (k+1+1+(kZ tk).length+(gH ow).length) (l++(kw "do" ::(l'++ [kw "end",kw "done"]))):=inferInstance
  obtain⟨s2,i3⟩:=jp (ws:=ws) (t:=mB (m2 cY (mP 0 (P (n+22) .q75)) .("deed"))) (A:=nX 0 4 (fV 0 (P (n+22) .q38) (fP))) (r:=λk acc s=>[.row bC ws k,.val (bE z),.val (.l (tk.map p2)),.val (.t (ow.map bE)),.own acc,.no]) (e:=kw "do") (λk acc s h=>inferInstance) (λx l u k acc s h q y=>by
   have:=V5 (P:=P) (n:=n) hc h.1 h.2 q;have:Hd ws k (kw "deed"):=by cases h.1;infer_instance
   exact⟨inferInstance,s,inferInstance⟩) (JE h6 (N:=1000000) (by lia)) 33554432 (k+1+1+(kZ tk).length+(gH ow).length) [] .no (by lia) (by show 0+_<=_;lia) q3.first
  replace i3:Ok (pY _ _ 33554432 [.row bC ws ((k+1+1+(kZ tk).length+(gH ow).length:bD):bG),.val (bE z),.val (.l (tk.map p2)),.val (.t (ow.map bE)),.own [],.no]) (.nx [.row bC ws ((k+1+1+(kZ tk).length+(gH ow).length+l.length:bD):bG),.val (bE z),.val (.l (tk.map p2)),.val (.t (ow.map bE)),.own dds,.no]):=i3;have e4:l'++ [kw "end",kw "done"]=(l'++ [kw "end"])++ [kw "done"]:=by simp
  have q4:At ws (k+1+1+(kZ tk).length+(gH ow).length+l.length+1) ((l'++ [kw "end"])++ [kw "done"]):=e4▸inferInstance;have i4:=CM (P:=P) (n:=n+16) (a:=0) (k:=k+1+1+(kZ tk).length+(gH ow).length+l.length+1) (ws:=ws) (λx l u k h z q=>CO hc 3 (n+1) 0 k h (by lia) z q) (λx l u h=>CN h) h8 (by lia) q4.left;refine yJ (kQ (n:=n+20) (X:=(BR (P (n+22)) (P (n+20)) [.row bC ws k,.no,.no,.no,.no,.no]).bind lW) rfl (by unfold BR;infer_instance)) (by simp only[dC,cH,lQ];lia)
end
inductive fw(c:Cn):D->Prop
 |word {z:Str}:z∈c.ws->fw c (u3 "WORD" z 0)
 |deed {z:Str} {k:_}:(z,k)∈c.ds->fw c (u3 "DEED" z 0)
 |count {z:Str} {k:_}:(z,k)∈c.ds->fw c (u3 "COUNT" z k)
def nK(w:Str):bU:=cN (w.length<=8)&& !(Ls w).contains 32
structure Gd(c:Cn)(N:bD)(a:bA Str)(b:bA D):Prop where
 l:a.length<=N
 u:b.length<=N
 w:∀w∈a,nK w=bC
 y:∀y∈b,fw c y
section
variable{c:Cn}{R:Rl}{N M m:bD}{l l' f:bA Str}{u u':bA D}{w s z:Str}{x d:D}{xs:bA D}
theorem Gd.app(h:Gd c N l u)(k:Gd c M l' u'):Gd c (N+M) (l++l') (u++u'):=
 ⟨by rw[cH];exact Mh h.l k.l,by rw[cH];exact Mh h.u k.u,λw hw=>(jR.mp hw).elim (h.w w) (k.w w),λy hy=>(jR.mp hy).elim (h.y y) (k.y y)⟩
theorem Gd.nil:Gd c 0 [] []:=⟨cZ _,cZ _,λ_ h=>(nomatch h),λ_ h=>(nomatch h)⟩
theorem Gd.wd(h:nK w=bC):Gd c 1 [w] []:=⟨cZ _,mK _,λx hx=>by rw[tP.mp hx];exact h,λ_ h=>(nomatch h)⟩
theorem Gd.use(h:fw c x):Gd c 1 [] [x]:=⟨mK _,cZ _,λ_ h=>(nomatch h),λy hy=>by rw[tP.mp hy];exact h⟩
theorem Gd.le(h:Gd c N l u)(k:N<=M):Gd c M l u:=⟨jS h.l k,jS h.u k,h.w,h.y⟩
theorem Gd.wu(h:nK w=bC)(k:fw c x):Gd c 1 [w] [x]:=⟨cZ _,cZ _,(Gd.wd (c:=c) h).w,(Gd.use k).y⟩
theorem tJ(N:Nm z):nK z=true:=by
 unfold nK;rw[mQ N.l.2,aA];cases q:(Ls z).contains 32 with
 |false=>rfl|true=>have:=N.e;unfold yI sP at this;rw[dB]at this;have:=qR.mp this.1 32 (ca.mp q);cases this
theorem ve{i:bG}(h:oM i):nK (iS i)=true:=by
 have t:=vd h;unfold nK;rw[mQ (by have:=t.l.2;lia),aA];cases q:(Ls (iS i)).contains 32 with
 |false=>rfl|true=>exact dD (ca.mp q) t.b
theorem jq(hR:∀x l u,R x l u->Gd c N l u)(h:FP R xs l u):Gd c (xs.length*N) l u:=by
 induction h with
 |nil=>exact Gd.nil.le (mK _)|cons h _ ih=>rw[dC,Mq,Ms];exact(hR _ _ _ h).app ih
noncomputable def eN:bD->bD|0=>0|m+1=>3+4*eN m
theorem oX(hc:c.ok):∀(m:bD) {d l u:_},FE c m d l u->Gd c (eN m) l u
 |0,_,_,_,h=>h.elim|m+1,_,_,_,.num h=>(Gd.wd (ve h)).le (by unfold eN;lia)|m+1,_,_,_,.nam h=>(Gd.wu (tJ (hc.w _ h)) (.word h)).le (by unfold eN;lia)|m+1,_,_,_,.call (xs:=xs) h hp=>by
  have h4:xs.length<=4:=(hc.d _ h).2;have h1:=jq (λx l u h=>oX hc m h) hp;have h2:=(((Gd.wu (c:=c) (w:=kw "call") (by decide+kernel) (.deed h)).app ((Gd.wd (c:=c) (tJ (hc.d _ h).1)).app (Gd.wd (ve (i:=xs.length) ⟨by lia,by lia⟩)))).app h1).app (Gd.use (.count h));refine⟨?_,?_,λw hw=>h2.w w ?_,λy hy=>h2.y y ?_⟩
  .have:=h1.l;have:=gh (eN m) h4;simp only[dC];unfold eN;lia
  .have:=h1.u;have:=gh (eN m) h4;simp only[dC,cH,lQ];unfold eN;lia
  .simpa using hw
  .simpa using hy
 |m+1,_,_,_,.bin (s:=s) h h1 h2=>by have h3:=(Gd.wd (c:=c) (show nK s=bC by rcases fu h with rfl|rfl|rfl|rfl|rfl<;>decide+kernel)).app ((oX hc m h1).app (oX hc m h2));exact h3.le (by show _<=3+4*eN m;lia)
noncomputable def sN(s:Str):bD:=if s== "EXPRESSION" then 63 else if s== "PARTS" then 253 else 1
noncomputable def bN(s:Str):bD:=if s== "BLOCK" then 1 else 0
theorem V8(hc:c.ok)(hR:∀x l u,R x l u->Gd c N l u)(h:qB c R s x l u):Gd c (sN s+bN s*(4*N)) l u:=by
 cases h with
 |word h=>exact(Gd.wu (tJ (hc.w _ h)) (.word h)).le (by rw[show sN _=1 from by decide+kernel];lia)|deed h=>exact(Gd.wu (tJ (hc.d _ h).1) (.deed h)).le (by rw[show sN _=1 from by decide+kernel];lia)|expr h=>exact(oX hc 3 h).le (by rw[show sN _=63 from by decide+kernel,show eN 3=63 from bO];lia)|parts h4 h=>exact((Gd.wd (c:=c) (ve ⟨by lia,by lia⟩)).app (jq (λx l u h=>oX hc 3 h) h)).le (by rw[show sN _=253 from by decide+kernel,show eN 3=63 from bO];lia)| @block xs l u h4 h=>have h1:=(jq hR h).app (Gd.wd (c:=c) (w:=kw "end") (by decide+kernel));rw[kK]at h1;have:=gh N h4;exact h1.le (by rw[show sN _=1 from by decide+kernel,show bN _=1 from by decide+kernel];lia)
theorem V9(hc:c.ok)(hR:∀x l u,R x l u->Gd c N l u)(h:FF c R f xs l u):(∀s∈f,pK s=bH->nK s=bC)->Gd c ((f.map sN).sum+(f.map bN).sum*(4*N)) l u:=by
 induction h with
 |nil=>exact λ_=>Gd.nil.le (mK _)| @kept s f xs l u h _ ih=>
  intro k;refine((Gd.wd (k s fW h)).app (ih λt ht=>k t (gI _ ht))).le ?_;have:1<=sN s:=by unfold sN;split;lia;split<;>lia
  simp only[dY,qb,MC];lia
 | @part s x l u f xs l' u' h _ ih=>intro k;refine((V8 hc hR h).app (ih λt ht=>k t (gI _ ht))).le ?_;simp only[dY,qb,MC];lia
def JI(p:Str×D):bU:=match p.2 with
 | .t l=>nK p.1&&l.all λx=>match x with
  |bE s=>pK s||nK s|_=>bH
 |_=>bH
def JJ(p:Str×D):bU:=match p.2 with| .t l=>cN ((l.map λx=>match x with|bE s=>sN s|_=>0).sum<=254)&&cN ((l.map λx=>match x with|bE s=>bN s|_=>0).sum<=2)|_=>bH
theorem CS{p:Str×D->bU}:∀{t:bA (Str×D)},t.all p=bC->t.lookup w=bB d->p (w,d)=bC
 | [],_,h=>by cases h|q::t,k,h=>by
  rw[lS,dB]at k;rw[lF]at h;split at h
  .rename_i e;rw[dW e, <-jJ h];exact k.1
  .exact CS k.2 h
noncomputable def kN:bD->bD|0=>0|m+1=>256+8*kN m
theorem vf(hc:c.ok):∀(m:bD) {d l u:_},FS c m d l u->Gd c (kN m) l u
 |0,_,_,_,h=>h.elim|m+1,_,_,_,.mk (w:=w) (f:=f) (v:=v) hw hf ht=>by
  have h1:=CS (p:=JI) (by decide+kernel) hw;have h2:=CS (p:=JJ) (by decide+kernel) hw;unfold JI at h1;unfold JJ at h2;dsimp only at h1 h2;rw[dB]at h1 h2;have e:∀g:Str->bD,((f.map bE).map λx=>match x with|bE s=>g s|_=>0).sum=(f.map g).sum:=λg=>by rw[mS];rfl
  rw[e,e]at h2;have h3:=V9 hc (λx l u h=>vf hc m h) hf λs hs hp=>by have:=qR.mp h1.2 (bE s) (jA.mpr ⟨s,hs,rfl⟩);dsimp only at this;rw[hp]at this;exact this
  have h4:Gd c 1 [] v:=by
   cases ht with
   |dos h=>exact Gd.use (.count h)|new h=>exact Gd.use (.count h)|other _ _=>exact Gd.nil.le (by decide)
  have h5:=((Gd.wd (c:=c) h1.1).app h3).app h4;rw[kK]at h5;have a1:=mJ h2.1;have a2:=gh (4*kN m) (mJ h2.2);exact h5.le (by show _<=256+8*kN m;lia)
end
section
variable{c:Cn}{n k:bD}{l:bA Str}{d:D}{f:Fc}{t:Str}{O:cS}{g:ME}{ws:bA D}
theorem CU:∀{l:bA Str},(∀w∈l,nK w=bC)->(pN l).length<=9*l.length
 | [],_=>cZ _|w::l,h=>by
  have h1:=h w fW;unfold nK at h1;rw[dB]at h1;have:=mJ h1.1;have:=CU λx hx=>h x (gI _ hx)
  have:=rP w;simp only[pN,dC,cH];lia
noncomputable abbrev jn(l:bA Str):Str:=km " " l
theorem JK:(jn l).length<=(pN l).length:=by rw[show(jn l).length=(tl l).length from by rw[<-CL l];rfl];exact VO l
theorem JL(hw:∀w∈l,nK w=bC)(hl:l.length<=1000000):Ok (eU " " [.l (l.map bE)]) (bE (jn l)):=⟨by have h1:=CU hw;have hs:=sR;simp only[eU,Jk];exact cK ⟨VN _ _ (by show(l.map λw=>w.length+1).sum<=_;rw[<-Jt];lia),jS JK (by lia)⟩⟩
theorem JM(hw:∀w∈l,nK w=bC)(hl:l.length<=1000000)(hn:l≠ []):Ok (bo (bE (jn l))) (l.map bE):=⟨by
 have h1:=CU hw;have hs:=sR;have h2:=JK (l:=l);have e:wC (jn l) " " =l:=VQ hn (λw h k=>by have:=hw w h;unfold nK at this;rw[dB,ca.mpr k]at this;cases this.2) (CL l);have:eF (jn l) [bE " "]= .ok (.l (l.map bE)):=by unfold eF;dsimp only;rw[cK ⟨by decide+kernel,by lia⟩,e]
 unfold bo;dsimp only;rw[this]⟩
instance [q:Ok (g O) d] [r:Ok (bo d) ws]:Ok (nv g O) (.row ws ((0:bD):bG)):=⟨by unfold nv;rw[q.e];show bP.bind (bo d) _=_;rw[r.e];rfl⟩
theorem CV:At (l.map bE) 0 l:=⟨[],by simp⟩
theorem oY{α:Type}{g:α->bA Str}{k:bD}(hg:∀x,(g x).length=k):∀l:bA α,(l.flatMap g).length=k*l.length| []=>rfl|x::l=>by rw[wo,cH,oY hg l,hg,dC,Mr];lia
theorem Wa(h:f.ok):(∀w∈f.w,nK w=bC)/\f.w.length<=100:=by
 constructor
 .intro w hw;unfold Fc.w gH tH at hw;simp only[kS,jR,LR,ax,aI]at hw;rcases hw with rfl|rfl|⟨z,hz,rfl|rfl⟩|⟨p,hp,rfl|rfl|rfl⟩|rfl
  .decide+kernel
  .exact tJ h.n
  .decide+kernel
  .exact tJ (h.w _ hz)
  .decide+kernel
  .exact tJ (h.d _ hp).1
  .exact ve ⟨by lia,by have:=(h.d _ hp).2;lia⟩
  .decide+kernel
 .have:=h.lw;have:=h.ld;unfold Fc.w gH tH;simp only[dC,cH,oY (g:=λz:Str=>[kw "word",z]) (k:=2) λ_=>rfl,oY (g:=λp:Str×bD=>[kw "deed",p.1,iS p.2]) (k:=3) λ_=>rfl,lQ];lia
theorem Wb(hc:c.ok){x:D}{u:bA D}(h:FD c x l u):(∀w∈l,nK w=bC)/\l.length<=74765:=by
 cases h with
 | @mk z ps xs l u h1 h2 h3 h4 h5 h6 _=>
  have g:=jq (λx l u h=>vf (hc.put h2) 3 h) h5;have:=gh (kN 3) h6;have e:kN 3=18688:=rfl;constructor
  .intro w hw;simp only[kS,jR,ax,aI]at hw;rcases hw with rfl|rfl|rfl|hw|rfl|rfl|hw|rfl
   .decide+kernel
   .exact tJ h1
   .decide+kernel
   .exact tJ (h2 _ hw)
   .decide+kernel
   .decide+kernel
   .exact g.w _ hw
   .decide+kernel
  .have:=g.l;simp only[dC,cH,lQ];lia
theorem Wc(hc:c.ok){xs u:bA D}(h:FP (FD c) xs l u):(∀w∈l,nK w=bC)/\l.length<=xs.length*74765:=by
 induction h with
 |nil=>exact⟨λ_ h=>(nomatch h),mK _⟩|cons h _ ih=>obtain⟨a,b⟩:=Wb hc h;exact⟨λw hw=>(jR.mp hw).elim (a w) (ih.1 w),by rw[cH,dC];have:=ih.2;lia⟩
theorem Wd(hc:c.ok)(h:FU c d l):(∀w∈l,nK w=bC)/\l.length<=1000000:=by
 cases h with
 | @mk z tk ow dds l ks xs l' u h1 h2 h3 h4 h5 h6 h7 h8 h9=>
  obtain⟨a,b⟩:=Wc hc h6;have g:=jq (λx l u h=>vf hc 3 h) h8;have:=gh (kN 3) h9;have e:kN 3=18688:=rfl;constructor
  .intro w hw;unfold kZ gH at hw;simp only[kS,jR,LR,ax,aI]at hw;rcases hw with rfl|rfl|⟨p,hp,rfl|rfl|rfl|rfl⟩|⟨y,hy,rfl|rfl⟩|hw|rfl|hw|rfl|rfl
   .decide+kernel
   .exact tJ h1
   .decide+kernel
   .exact tJ (h2 _ hp).2
   .decide+kernel
   .exact tJ (h2 _ hp).1
   .decide+kernel
   .exact tJ (h4 _ hy)
   .exact a _ hw
   .decide+kernel
   .exact g.w _ hw
   .decide+kernel
   .decide+kernel
  .have:=g.l;unfold kZ gH;simp only[dC,cH,lQ,oY (g:=λt:Str×Str=>[kw "take",t.2,kw "from",t.1]) (k:=4) λ_=>rfl,oY (g:=λz:Str=>[kw "word",z]) (k:=2) λ_=>rfl];lia
theorem We(h:f.ok):Ok (P (n+10) .q49 [f.d]) (bE (jn f.w))/\Ok (P (n+10) .read [bE (jn f.w)]) f.d:=by
 obtain⟨g1,g2⟩:=Wa h;have i1:=VF (P:=P) (n:=n) h;have i2:=VL (P:=P) (n:=n+5) h (by lia);have i3:=JL g1 (by lia);have i4:=JM g1 (by lia) (by unfold Fc.w;simp);have q:At (f.w.map bE) 0 (kw "face" ::f.nm::(gH f.ws++(tH f.ds++ [kw "done"]))):=CV;have i5:=V6 (P:=P) (n:=n+2) (k:=0) h CV;have i6:=Jx (P:=P) (n:=n+6) (ws:=f.w.map bE) (k:=0+f.w.length) (by simp);constructor
 .refine kQ (n:=n+7) (X:=(oC (P (n+9)) (P (n+7)) #[f.d]).bind rF) bO ?_;unfold oC
  infer_instance
 .refine kQ (n:=n+7) (X:=(oB (P (n+9)) (P (n+7)) #[bE (jn f.w),(),()]).bind rF) bO ?_;unfold oB
  infer_instance
theorem Wf(hc:c.ok)(h:FU c d l):Ok (P (n+37) .q49 [d]) (bE (jn l))/\Ok (P (n+37) .read [bE (jn l)]) d:=by
 have hg:=Wd hc h;obtain⟨i1,i2⟩:=VG (P:=P) (n:=n) hc h;have i3:=VM (P:=P) (n:=n+13) hc h hg.2;have i4:=JL hg.1 hg.2;have i5:=JM hg.1 hg.2 (by cases h;simp);have i6:=V7 (P:=P) (n:=n+13) (k:=0) hc h hg.2 CV;have i7:=Jx (P:=P) (n:=n+33) (ws:=l.map bE) (k:=0+l.length) (by simp);have b:Bq "unit" "face" bH:=⟨by decide+kernel⟩;have q:Hd (l.map bE) 0 (kw "unit"):=by cases h;exact⟨rfl⟩
 constructor
 .refine kQ (n:=n+34) (X:=(oC (P (n+36)) (P (n+34)) #[d]).bind rF) bO ?_;unfold oC
  infer_instance
 .refine kQ (n:=n+34) (X:=(oB (P (n+36)) (P (n+34)) #[bE (jn l),(),()]).bind rF) bO ?_;unfold oB
  infer_instance
end
section
variable{c:Cn}{R:Rl}{n m:bD}{d x:D}{xs ds:bA D}{s w:Str}{l l' f:bA Str}{u v:bA D}
theorem JN{a b:bA D}(h:(a++b).length<=1000000):Ok (bZ (.l a) (.l b)) (.l (a++b)):=⟨cK (qQ (by rw[<-cH];exact h))⟩
theorem CW(h:FP R xs l u)(hR:∀x l u,R x l u->u.length<=1000000->Ok (P (n+2) .q31 [x]) (.l u))(hl:u.length<=1000000):Ok (P (n+3) .q32 [.t xs]) (.l u):=by
 obtain⟨s',q⟩:=bw (o:=oU) (r:=λacc s=>[.val (.t xs),.own acc,s]) (i:=2) (A:=kA 1 (mA (P (n+2) .q31) {@2})) (λ_ _ _=>rfl) (λx l u acc h k=>by
  have k:acc.length+u.length<=1000000:=k;have:=hR _ _ _ h (by lia);have:=kC k
  infer_instance) h [] .no (by show 0+u.length<=_;lia)
 replace q:Ok (gD 2 _ xs [.val (.t xs),.own [],.no]) (.nx [.val (.t xs),.own u,s']):=q;refine fJ (g:=BP (P (n+2)) (P n)) (O:= #[.t xs,(),()]) bO (q:=?_);unfold BP
 infer_instance
theorem vg:∀(m n:bD) {d l u:_},FE c m d l u->u.length<=1000000->Ok (P (n+2*m+2) .q31 [d]) (.l u)
 |0,_,_,_,_,h,_=>h.elim|m+1,n,d,l,u,h,hl=>by
  have go:∀d l,Ok (BO (P (n+2*m+3)) (P (n+2*m+1)) #[d,(),(),()]) (.rt (.l l))->Ok (P (n+2*m+1+3) .q31 [d]) (.l l):=λd l q=>fJ (q:=q) bO
  apply go;unfold BO;cases h with
  |num h=>infer_instance|nam h=>infer_instance| @call z xs l u h hp=>
   have hl:(u++ [u3 "COUNT" z xs.length]).length+1<=1000000:=hl;rw[cH,pk]at hl;have:=CW (P:=P) (n:=n+2*m) hp (λx l u h k=>vg m n h k) (by lia);have i1:Ok (bZ (.l [u3 "DEED" z 0]) (.l u)) (.l ([u3 "DEED" z 0]++u)):=JN (by rw[cH,pk];lia);have i2:Ok (bZ (.l ([u3 "DEED" z 0]++u)) (.l [u3 "COUNT" z xs.length])) (.l (u3 "DEED" z 0::(u++ [u3 "COUNT" z xs.length]))):=JN (a:=[u3 "DEED" z 0]++u) (by simp only[cH,pk];lia)
   infer_instance
  | @bin s a b l u l' u' h h1 h2=>
   have:Sg _:=⟨h⟩;have i1:=CW (P:=P) (n:=n+2*m) (FP.cons h1 (FP.cons h2 .nil)) (λx l u h k=>vg m n h k) (by rw[kK];exact hl);rw[kK]at i1
   infer_instance
theorem JO(h:FP R xs l u)(hR:∀x l u,R x l u->u.length<=1000000->Ok (P (n+2) .q29 [x]) (.l u))(hl:u.length<=1000000):Ok (P (n+3) .q28 [.t xs]) (.l u):=by
 obtain⟨s',q⟩:=bw (o:=oU) (r:=λacc s=>[.val (.t xs),.own acc,s]) (i:=2) (A:=kA 1 (mA (P (n+2) .q29) {@2})) (λ_ _ _=>rfl) (λx l u acc h k=>by
  have k:acc.length+u.length<=1000000:=k;have:=hR _ _ _ h (by lia);have:=kC k
  infer_instance) h [] .no (by show 0+u.length<=_;lia)
 replace q:Ok (gD 2 _ xs [.val (.t xs),.own [],.no]) (.nx [.val (.t xs),.own u,s']):=q;refine fJ (g:=BL (P (n+2)) (P n)) (O:= #[.t xs,(),()]) bO (q:=?_);unfold BL
 infer_instance
theorem Wg(hR:∀x l u,R x l u->u.length<=1000000->Ok (P (n+9) .q29 [x]) (.l u))(h:qB c R s x l u)(hl:u.length<=1000000):Ok (P (n+11) .q30 [bE s,x]) (.l u):=by
 refine fJ (n:=n+8) (g:=BN (P (n+10)) (P (n+8))) (O:= #[bE s,x]) bO (q:=?_);unfold BN ae;cases h with
 |word h=>infer_instance|deed h=>infer_instance|expr h=>have:=vg (P:=P) 3 (n+2) h hl;infer_instance|parts h4 h=>have:=CW (P:=P) (n:=n+7) h (λx l u h k=>vg 3 (n+1) h k) hl;infer_instance|block _ h=>have:=JO (P:=P) (n:=n+7) h hR hl;infer_instance
abbrev uB(C:CT):MS:=kA 1 (mA (C .q30) {@2,@3})
theorem Wh{C:CT}{X:Slot}(hp:∀s x l u,qB c R s x l u->u.length<=1000000->Ok (C .q30 [bE s,x]) (.l u))(h:FF c R f xs l u):∀acc p q,acc.length+u.length<=1000000->∃p' q',Ok (jK 2 3 (uB C) (pairD ((f.filter pK).map bE) xs) [X,.own acc,p,q]) (.nx [X,.own (acc++u),p',q']):=by
 induction h with
 |nil=>exact λacc p q _=>⟨p,q,by rw[kK];exact⟨rfl⟩⟩|kept h _ ih=>rw[pQ,h];exact ih| @part s x l u f xs l' u' h _ ih=>intro acc p q k;rw[cH]at k;rw[pQ,cK (oO h)];have:=hp _ _ _ _ h (by lia);obtain⟨p',q',i⟩:=ih (acc++u) (.val (bE s)) (.val x) (by rw[cH];lia);have:=kC (a:=acc.length) (b:=u.length) (by lia);rw[pP]at i;exact⟨p',q',(inferInstance:Ok (jK 2 3 (uB C) (.t [bE s,x]::pairD ((f.filter pK).map bE) xs) _) _)⟩
theorem JP:∀(m n:bD) {d l u:_},FS c m d l u->u.length<=1000000->Ok (P (n+3*m+9) .q29 [d]) (.l u)
 |0,_,_,_,_,h,_=>h.elim|m+1,n,_,_,_,.mk (w:=w) (f:=f) (xs:=xs) (u:=u) (v:=v) hw hf ht,hl=>by
  rw[cH]at hl;have i1:Sf w f:=⟨hw⟩;obtain⟨p',q',i⟩:=Wh (C:=P (n+3*m+11)) (X:=.val (.t (bE w::xs))) (λs x l u h k=>Wg (n:=n+3*m) (λx l u h k=>JP m n h k) h k) hf [] .no .no (by show 0+_<=_;lia);replace i:Ok (jK 2 3 _ (pairD ((f.filter pK).map bE) xs) [.val (.t (bE w::xs)),.own [],.no,.no]) (.nx [.val (.t (bE w::xs)),.own u,p',q']):=i;refine fJ (n:=n+3*m+9) (g:=BM (P (n+3*m+11)) (P (n+3*m+9))) (O:= #[.t (bE w::xs),(),(),()]) bO (q:=?_);unfold BM;have b1:Bq "do" "new" bH:=⟨by decide+kernel⟩;have b2:Bq "new" "do" bH:=⟨by decide+kernel⟩;cases ht with
  |dos h=>have:=kC (a:=u.length) (b:=1) hl;infer_instance|new h=>have:=kC (a:=u.length) (b:=1) hl;infer_instance|other h1 h2=>have:Bq w "do" bH:=⟨h1⟩;have:Bq w "new" bH:=⟨h2⟩;rw[kK];infer_instance
end
class Tg(T:R.Tab)(k:Str)(d:sT D):Prop where
 e:mL T k=bB d
class Tn(T:R.Tab)(k:Str):Prop where
 e:k∉T.map (·.1)
class Pt(T:R.Tab)(k:Str)(v:D)(T':sT R.Tab):Prop where
 e:yF T k v=T'
section
variable{O ρ' ρ1 ρ2:cS}{i j n:bD}{f g:ME}{x y d e:D}{ds es xs:bA D}{k z:Str}{T T':R.Tab}{p b:bU}{s s':Ob}{t:MT}{fa:MA}{m:bA D->bP D}{h:MX}{A:MS}{a:bG}{gn hn:MN}
theorem ag:∀{T:R.Tab},(T.map (·.1)).Nodup->(k,d)∈T->mL T k=bB d
 | [],_,h=>by cases h|q::T,n,h=>by
  rw[dY,cf]at n;unfold mL;rw[wX];rcases kS.mp h with rfl|h
  .simp
  .have: ¬ q.1=k:=λe=>n.1 (jA.mpr ⟨_,h,e.symm⟩)
   rw[jD this];exact ag n.2 h
theorem JQ(h:mL T k=some d):k∈T.map (·.1):=by
 unfold mL at h;cases q:T.find? (λp=>cN (p.1=k))with
 |none=>rw[q]at h;cases h|some r=>
  have:r.1=k:=by simpa using List.find?_some q
  exact jA.mpr ⟨r,List.mem_of_find?_eq_some q,this⟩
instance [q:Tg T k d]:Ok (cV (dR T) (bE k)) d:=⟨by unfold dR cV;dsimp only;rw[bq,q.e]⟩
instance [q:Tg T k d]:Ok (dU bC (bE k) (dR T)) (.b bH):=⟨by unfold dR dU;dsimp only;rw[ca.mpr (JQ q.e)];rfl⟩
instance [q:Tg T k d]:Ok (dU bH (bE k) (dR T)) (.b bC):=⟨by unfold dR dU;dsimp only;rw[ca.mpr (JQ q.e)];rfl⟩
instance [q:Tn T k]:Ok (dU false (bE k) (dR T)) (.b false):=⟨by
 unfold dR dU;dsimp only
 rw[show(T.map (·.1)).contains k=false from by
  cases h:(T.map (·.1)).contains k with
  |false=>rfl
  |true=>exact dD (ca.mp h) q.e];rfl⟩
theorem JR(h:k∉T.map (·.1)):yF T k d=T++ [(k,d)]:=by unfold yF;rw[dH];intro q;obtain⟨r,h1,h2⟩:=aw.mp q;exact h (jA.mpr ⟨r,h1,mJ h2⟩)
instance [q:Tn T k]:Pt T k d (T++ [(k,d)]):=⟨JR q.e⟩
theorem Wi(n:(T.map (·.1)).Nodup)(h:(k,d)∈T):yF T k d=T:=by
 unfold yF;rw[cK (aw.mpr ⟨_,h,mQ bO⟩)];refine(Lr λr hr=>?_).trans (D8 _);by_cases e:r.1=k
 .rw[cK e];have h1:=ag n h;have h2:=ag n (show(k,r.2)∈T by rw[<-e];exact hr);rw[h1]at h2;rw[jJ h2];rfl
 .rw[dH e];rfl
instance [q:Ok (g O) e] [r:Ok (f O) (bE k)] [o:hG O i (.dic p T)] [z:Sz (T.length+1)] [u:Pt T k e T'] [v:jW O i (.dic p T') ρ']:Ok (nJ i f g O) (.nx ρ'):=⟨by unfold nJ;rw[q.e];show bP.bind (f O) _=_;rw[r.e];show nz i e (bE k) O=_;unfold nz;rw[o.e];dsimp only;rw[cK (show T.length<cJ from z.e),u.e,v.e]⟩
instance [o:hG O i (.obj p s)] [q:Od s d] [u:jW O i (.val d) ρ'] [r:Ok (t ρ') b]:Ok (gZ i t O) b:=⟨by unfold gZ;rw[o.e];dsimp only;rw[q.e];dsimp only;rw[u.e];exact r.e⟩
instance [o:hG O i (.val d)] [r:Ok (t O) b]:Ok (gZ i t O) b:=⟨by unfold gZ;rw[o.e];exact r.e⟩
instance [o:hG O i (.dic p T)] [q:Ok (fa O) ds] [r:Ok (m (dR T::ds)) (.t [d,dR T'])]:Ok (fV i m fa O) (d,.tab T'):=⟨by unfold fV;rw[o.e];dsimp only;rw[q.e];show Ob.dec _ (m (dR T::ds))=_;rw[r.e];show bP.ok (d,Ob.tab ((T'.map (·.1)).zip (T'.map (·.2))))=_;rw[bq]⟩
instance [o:hG O n (.dic bC T)]:Ok (br n (.rr d O)) (.t [d,dR T]):=⟨by unfold br n6;dsimp only;rw[o.e]⟩
instance [q:Ok (f O) (bE k)] [o:hG O i (.dic p T)] [r:Tg T k d]:Ok (eY i f O) (d,.tab (tDrop T k)):=⟨by unfold eY;rw[q.e];show uE (bE k) O[i]? =_;rw[o.e];unfold uE;dsimp only;rw[r.e]⟩
instance {m:D->D->bP D} [o:hG O i (.obj p s)] [q:Ok (h O) (d,s')] [u:jW O i (.obj p s') ρ1] [r:Ok (f ρ1) e] [v:Ok (m d e) (.b bH)]:Ok (iY i h m f A O) (.nx ρ1):=⟨by unfold iY;rw[oR o q u,r.e];simp only[bP.bind,v.e,sY];rfl⟩
instance:Ok (iX O) (.tab []):=⟨rfl⟩
instance [q:Ok (t O) bC] [r:Ok (gn O) s]:Ok (eR t gn hn O) s:=⟨by unfold eR;rw[q.e];exact r.e⟩
instance [q:Ok (t O) bH] [r:Ok (hn O) s]:Ok (eR t gn hn O) s:=⟨by unfold eR;rw[q.e];exact r.e⟩
instance [q:Ok (f O) d] [r:Ok (bp d) s]:Ok (wO f O) s:=⟨by unfold wO;rw[q.e];exact r.e⟩
instance:Ok (bp (dR T)) (.tab T):=⟨by unfold dR bp;dsimp only;rw[bq]⟩
instance [q:Ok (fa O) ds] [r:Ok (m ds) (dR T)]:Ok (e5 m fa O) (.tab T):=⟨by unfold e5;rw[q.e];show uF (m ds)=_;rw[r.e];unfold dR uF;dsimp only;rw[bq]⟩
instance [q:Ok (gn O) s] [r:Od s d]:Ok (eX gn O) d:=⟨by unfold eX;rw[q.e];show ny s=_;unfold ny;rw[r.e]⟩
instance [o:hG O i (.obj bH s)]:Ok (jc i O) (.rn s):=⟨by unfold jc;rw[o.e]⟩
instance:Ok (uG (.rn (.tab T))) (dR T):=⟨rfl⟩
instance:Ok (fS [dR T]) (bF T.length):=⟨by unfold dR fS;dsimp only;rw[cG]⟩
end
abbrev mW:D:=yH
noncomputable abbrev mD(k:bD):D:=.t [bE "DEED",bF k]
structure Tq(T:R.Tab)(c:Cn):Prop where
 n:(T.map (·.1)).Nodup
 w:∀z∈c.ws,(z,mW)∈T
 d:∀p∈c.ds,(p.1,mD p.2)∈T
section
variable{c:Cn}{n:bD}{T:R.Tab}{y:D}{xs u:bA D}{l:bA Str}
theorem Wj(q:Tq T c)(h:fw c y):Ok (P (n+3) .q27 [y,dR T]) .n:=by
 have b1:Bq "WORD" "COUNT" bH:=⟨by decide+kernel⟩;have b2:Bq "DEED" "COUNT" bH:=⟨by decide+kernel⟩;cases h with
 | @word z h=>
  have:Tg T z (.t [bE "WORD",bF 0]):=⟨ag q.n (q.w _ h)⟩;refine fJ (g:=fm (P (n+2)) (P n)) (O:= #[u3 "WORD" z 0,dR T,(),()]) bO (q:=?_);unfold fm
  infer_instance
 | @deed z k h=>
  have:Tg T z (mD k):=⟨ag q.n (q.d _ h)⟩;refine fJ (g:=fm (P (n+2)) (P n)) (O:= #[u3 "DEED" z 0,dR T,(),()]) bO (q:=?_);unfold fm
  infer_instance
 | @count z k h=>
  have:Tg T z (mD k):=⟨ag q.n (q.d _ h)⟩;have:Iq (k:bG) k bC:=⟨vW _⟩;refine fJ (g:=fm (P (n+2)) (P n)) (O:= #[u3 "COUNT" z k,dR T,(),()]) bO (q:=?_);unfold fm
  infer_instance
abbrev fB(C:CT):MS:=bL (cR 3 (mA (C .q27) {@2,@1})) (bY (mB (m2 (jQ bC) @3 (kc .n))) (bW @3) (cE))
theorem JS{C:CT}{X:Slot}:∀{u:bA D},(∀y∈u,Ok (C .q27 [y,dR T]) .n)->∀p q,∃p' q',Ok (gD 2 (fB C) u [X,.val (dR T),p,q]) (.nx [X,.val (dR T),p',q'])| [],_,p,q=>⟨p,q,inferInstance⟩|y::u,h,p,q=>by have:=h y fW;obtain⟨p',q',i⟩:=JS (X:=X) (λx hx=>h x (gI _ hx)) (.val y) (.val .n);exact⟨p',q',inferInstance⟩
theorem JT(hc:c.ok)(q:Tq T c)(h:FP (FS c 3) xs l u)(hx:xs.length<=9):Ok (P (n+22) .q26 [.t xs,dR T]) .n:=by
 have g:=jq (λx l u h=>vf hc 3 h) h;have:=gh (kN 3) hx;have e:kN 3=18688:=rfl;have i1:=JO (P:=P) (n:=n+18) h (λx l u h k=>JP 3 (n+2) h k) (by have:=g.u;lia);obtain⟨p',q',i⟩:=JS (C:=P (n+21)) (T:=T) (X:=.val (.t xs)) (λy hy=>Wj (n:=n+18) q (g.y y hy)) .no .no;refine fJ (n:=n+19) (g:=BK (P (n+21)) (P (n+19))) (O:= #[.t xs,dR T,(),()]) bO (q:=?_);unfold BK
 infer_instance
theorem oZ{α:Type}{A:MS}{k:α->Str}{v d:α->D}{i:bD}{r:R.Tab->Slot->cS}(hr:∀T s x,(r T s).set i (.val x)=r T (.val x))(hA:∀a T,Tn T (k a)->Sz (T.length+1)->Ok (A (r T (.val (d a)))) (.nx (r (T++ [(k a,v a)]) (.val (d a))))):∀(l:bA α) (T:R.Tab) (s:Slot),(T.map (·.1)++l.map k).Nodup->T.length+l.length<=1000->∃s',Ok (gD i A (l.map d) (r T s)) (.nx (r (T++l.map λa=>(k a,v a)) s'))
 | [],T,s,_,_=>⟨s,by rw[vY,vY,kK];infer_instance⟩|a::l,T,s,h,hl=>by
  rw[dY]at h;rw[dC]at hl;have h1:k a∉T.map (·.1):=λq=>(pC.mp h).2.2 _ q _ fW bO
  have i1:=hA a T ⟨h1⟩ (kC (by lia));obtain⟨s',i2⟩:=oZ hr hA l (T++ [(k a,v a)]) (.val (d a)) (by rw[lR,pP];exact h) (by rw[cH];show _+1+_<=_;lia);have:jW (r T s) i (.val (d a)) (r T (.val (d a))):=⟨hr _ _ _⟩;refine⟨s',?_⟩;rw[dY,dY,show T++((k a,v a)::l.map λa=>(k a,v a))=T++ [(k a,v a)]++l.map λa=>(k a,v a)from by simp]
  infer_instance
end
section
variable{c:Cn}{n:bD}{T W F:R.Tab}{x y:D}{xs u dds ys:bA D}{l ow:bA Str}{f:Fc}{i:bD}{A:MS}{O ρ1:cS}{fl:Fl}{un:Str}
theorem Wk(hc:c.ok)(q:Tq T c)(hk:∀z∈T.map (·.1),z∈c.ks)(ht:T.length<=900)(h:FD c x l u){X:Slot}:∀s3 s4 s5,∃s3' s4' s5',Ok ((bL (nH 3 (wO @1)) (bL (jP 4 (fA (m2 bZ (2^^^1) (2^^^2))) (nJ 3 @4 (kc yH))) (bL (jV 3) (bL (cR 5 (mA (P (n+22) .q26) {2^^^3,@3})) (bY (mB (m2 (jQ bC) @5 (kc .n))) (bW @5) (cE)))))) [X,.val (dR T),.val x,s3,s4,s5]) (.nx [X,.val (dR T),.val x,s3',s4',s5']):=by
 intro s3 s4 s5;cases h with
 | @mk z ps xs l u h1 h2 h3 h4 h5 h6 h7=>
  have hn:(T.map (·.1)++ps.map λz=>z).Nodup:=by rw[qg];exact pC.mpr ⟨q.n,h3,λa ha b hb e=>h7 b hb (e▸hk a ha)⟩
  obtain⟨s',i⟩:=oZ (A:=nJ 3 @4 (kc yH)) (k:=λz:Str=>z) (v:=λ_=>mW) (d:=bE) (i:=4) (r:=λT' s=>[X,.val (dR T),.val (.t [bE z,.t (ps.map bE),.t [],.t xs]),.dic bH T',s,s5]) (λ_ _ _=>rfl) (λa T h1 h2=>inferInstance) ps T s4 hn (by lia);replace i:Ok (gD 4 _ (ps.map bE) [X,.val (dR T),.val (.t [bE z,.t (ps.map bE),.t [],.t xs]),.dic bH T,s4,s5]) (.nx [X,.val (dR T),.val (.t [bE z,.t (ps.map bE),.t [],.t xs]),.dic bH (T++ps.map λa=>(a,mW)),s',s5]):=i;have i5:Ok (bZ (.t (ps.map bE)) (.t [])) (.t (ps.map bE)):=⟨by show(if _ then _ else _)=_;rw[cK (qQ (by rw[cG,lQ];lia)),kK]⟩
  have i6:=JT (P:=P) (n:=n) (T:=T++ps.map λa=>(a,mW)) (hc.put h2) ⟨by rw[lR,mS];exact hn,λz hz=>by
   rcases jR.mp hz with hz|hz
   .exact pA _ (q.w z hz)
   .exact pO _ (jA.mpr ⟨z,hz,rfl⟩),λp hp=>pA _ (q.d p hp)⟩ h5 (by lia)
  exact⟨_,_,_,inferInstance⟩
theorem Wm(hc:c.ok)(q:Tq T c)(hk:∀z∈T.map (·.1),z∈c.ks)(ht:T.length<=900){X:Slot}(h:FP (FD c) dds l u):∀s2 s3 s4 s5,∃s2' s3' s4' s5',Ok (gD 2 (bL (nH 3 (wO @1)) (bL (jP 4 (fA (m2 bZ (2^^^1) (2^^^2))) (nJ 3 @4 (kc yH))) (bL (jV 3) (bL (cR 5 (mA (P (n+22) .q26) {2^^^3,@3})) (bY (mB (m2 (jQ bC) @5 (kc .n))) (bW @5) (cE)))))) dds [X,.val (dR T),s2,s3,s4,s5]) (.nx [X,.val (dR T),s2',s3',s4',s5']):=by
 induction h with
 |nil=>exact λs2 s3 s4 s5=>⟨s2,s3,s4,s5,inferInstance⟩| @cons x l u xs l' u' h _ ih=>intro s2 s3 s4 s5;obtain⟨a3,a4,a5,i1⟩:=Wk (P:=P) (n:=n) (X:=X) hc q hk ht h s3 s4 s5;obtain⟨b2,b3,b4,b5,i2⟩:=ih (.val x) a3 a4 a5;exact⟨b2,b3,b4,b5,inferInstance⟩
theorem Wn(hc:c.ok)(q:Tq T c)(hk:∀z∈T.map (·.1),z∈c.ks)(ht:T.length<=900){z tk wd:D}{l':bA Str}{u':bA D}(h:FP (FD c) dds l u)(hb:FP (FS c 3) xs l' u')(hx:xs.length<=9):Ok (P (n+23) .q25 [.t [z,tk,wd,.t dds,.t xs],dR T]) .n:=by
 obtain⟨b2,b3,b4,b5,i2⟩:=Wm (P:=P) (n:=n) (X:=.val (.t [z,tk,wd,.t dds,.t xs])) hc q hk ht h .no .no .no .no;have:=JT (P:=P) (n:=n) hc q hb hx;refine fJ (n:=n+20) (g:=BJ (P (n+22)) (P (n+20))) (O:= #[.t [z,tk,wd,.t dds,.t xs],dR T,(),(),(),()]) bO (q:=?_);unfold BJ
 infer_instance
def tK(f:Fc):R.Tab:=f.ws.map (λz=>(z,mW))++f.ds.map λp=>(p.1,mD p.2)
theorem JU:(tK f).map (·.1)=f.ws++f.ds.map (·.1):=by unfold tK;rw[lR,mS,mS];show f.ws.map id++_=_;rw[D8];rfl
theorem JV(h:f.ok):Ok (P (n+3) .q21 [f.d]) (dR (tK f)):=by
 have hw:=h.lw;have hd:=h.ld;have hu:=h.u;obtain⟨s2,i1⟩:=oZ (A:=nJ 1 @2 (kc yH)) (k:=λz:Str=>z) (v:=λ_=>mW) (d:=bE) (i:=2) (r:=λT' s=>[.val f.d,.dic bH T',s,.no]) (λ_ _ _=>rfl) (λa T h1 h2=>inferInstance) f.ws [] .no (by rw[qg];exact(pC.mp hu).1) (by show 0+_<=_;lia);replace i1:Ok (gD 2 _ (f.ws.map bE) [.val f.d,.dic bH [],.no,.no]) (.nx [.val f.d,.dic bH (f.ws.map λz=>(z,mW)),s2,.no]):=i1;obtain⟨s3,i2⟩:=oZ (A:=nJ 1 (3^^^0) (mA cP {.("DEED"),3^^^1})) (k:=λp:Str×bD=>p.1) (v:=λp=>mD p.2) (d:=dP) (i:=3) (r:=λT' s=>[.val f.d,.dic bH T',s2,s]) (λ_ _ _=>rfl) (λa T h1 h2=>inferInstance) f.ds (f.ws.map λz=>(z,mW)) .no (by rw[mS];show(f.ws.map id++_).Nodup;rw[D8];exact hu) (by rw[cG];lia);replace i2:Ok (gD 3 _ (f.ds.map dP) [.val f.d,.dic bH (f.ws.map λz=>(z,mW)),s2,.no]) (.nx [.val f.d,.dic bH (tK f),s2,s3]):=i2;refine kQ (X:=(oA (P (n+2)) (P n) #[f.d,(),(),()]).bind uG) bO ?_;unfold oA;unfold Fc.d at i1 i2|-
 infer_instance
theorem Wo:Ok (P (n+3) .q21 [.n]) (dR []):=by
 refine kQ (X:=(oA (P (n+2)) (P n) #[.n,(),(),()]).bind uG) bO ?_;unfold oA
 infer_instance
structure vh(un:Str)(F:R.Tab)(t:Str×Str)(v:D):Prop where
 n:(t.1==un)=bH
 g:∃g:Fc,g.ok/\mL F t.1=bB g.d/\mL (tK g) t.2=bB v
abbrev Wp(C:CT):MS:=bL (bY (gZ 2 (kO (mB (m2 cY @3 (0^^^0))) (mB (m2 (dU bC) @3 @1)))) (gP 2 (xP 2 (mA cP {.("noface"),@3}))) (cE)) (bL (nH 5 (e5 (C .q21) {(m2 cV @1 @3)})) (bL (jV 5) (bL (bY (gZ 2 (mB (m2 (dU bC) @4 @5))) (gP 2 (xP 2 (mA cP {.("nottold"),@4}))) (cE)) (bL (bY (gZ 2 (mB (m2 (dU bH) @4 @2))) (gP 2 (xP 2 (mA cP {.("twice"),@4}))) (cE)) (nJ 2 @4 (m2 cV @5 @4))))))
theorem JW{r:bA D}:∀(tk:bA ((Str×Str)×D)) (T:R.Tab) (a b e:Slot),(∀t∈tk,vh un F t.1 t.2)->(T.map (·.1)++tk.map (·.1.2)).Nodup->T.length+tk.length<=900->∃a' b' e',Ok (jK 3 4 (Wp (P (n+3))) (tk.map λt=>p2 t.1) [.val (.t (bE un::r)),.val (dR F),.dic bC T,a,b,e]) (.nx [.val (.t (bE un::r)),.val (dR F),.dic bC (T++tk.map λt=>(t.1.2,t.2)),a',b',e'])
 | [],T,a,b,e,_,_,_=>⟨a,b,e,by rw[vY,vY,kK];infer_instance⟩|t::tk,T,a,b,e,h,hn,hl=>by
  rw[dY]at hn;rw[dC]at hl;obtain⟨n1,g,g1,g2,g3⟩:=h t fW;have:Bq t.1.1 un bH:=⟨n1⟩;have:Tg F t.1.1 g.d:=⟨g2⟩;have:Tg (tK g) t.1.2 t.2:=⟨g3⟩;have:Tn T t.1.2:=⟨λq=>(pC.mp hn).2.2 _ q _ fW bO⟩;have:=JV (P:=P) (n:=n) g1;have:=kC (a:=T.length) (b:=1) (by lia);obtain⟨a',b',e',i⟩:=JW (r:=r) tk (T++ [(t.1.2,t.2)]) (.val (bE t.1.1)) (.val (bE t.1.2)) (.val (dR (tK g))) (λx hx=>h x (gI _ hx)) (by rw[lR,pP];exact hn) (by rw[cH];show _+1+_<=_;lia);refine⟨a',b',e',?_⟩;rw[dY,dY,show T++((t.1.2,t.2)::tk.map λt=>(t.1.2,t.2))=T++ [(t.1.2,t.2)]++tk.map λt=>(t.1.2,t.2)from by simp]
  infer_instance
end
section
variable{c:Cn}{n:bD}{T W F:R.Tab}{x y d:D}{xs u dds ys d1 d2:bA D}{l ow:bA Str}{f:Fc}{i:bD}{A:MS}{O ρ1:cS}{fl:Fl}{un:Str}{qs:bA (Str×bD)}{p:Str×bD}
theorem CY{j k m:bD}{g:MS}{ds:bA D}(h:ds.length+1=k):bt j k m g (dR T::ds)=(g (rG m (zW j ds (.tab T)))).bind (br j):=by unfold dR bt;dsimp only;rw[bq,cK h]
theorem Wq{r:bA D}(tk:bA ((Str×Str)×D))(h:∀t∈tk,vh un F t.1 t.2)(hn:(T.map (·.1)++tk.map (·.1.2)).Nodup)(hl:T.length+tk.length<=900):Ok (P (n+4) .q22 [dR T,.t (bE un:: .t (tk.map λt=>p2 t.1)::r),dR F]) (.t [.n,dR (T++tk.map λt=>(t.1.2,t.2))]):=by
 obtain⟨a,b,e,i⟩:=JW (P:=P) (n:=n) (un:=un) (F:=F) (r:=.t (tk.map λt=>p2 t.1)::r) tk T .no .no .no h hn hl;refine kQ (n:=n+1) (X:=(uV (P (n+3)) (P (n+1)) [.val (.t (bE un:: .t (tk.map λt=>p2 t.1)::r)),.val (dR F),.dic bC T,.no,.no,.no]).bind (br 2)) (CY (j:=2) (k:=3) (m:=6) (g:=uV (P (n+3)) (P (n+1))) (ds:=[_,_]) bO) ?_;unfold uV
 infer_instance
theorem Wr{a b:D}{r:bA D}(hn:(T.map (·.1)++ow).Nodup)(hl:T.length+ow.length<=900):Ok (P (n+3) .q23 [dR T,.t (a::b:: .t (ow.map bE)::r)]) (.t [.n,dR (T++ow.map λz=>(z,mW))]):=by
 obtain⟨s',i⟩:=oZ (A:=bL (bY (gZ 1 (mB (m2 (dU bH) @2 @1))) (gP 1 (xP 1 (mA cP {.("twice"),@2}))) (cE)) (nJ 1 @2 (kc yH))) (k:=λz:Str=>z) (v:=λ_=>mW) (d:=bE) (i:=2) (r:=λT' s=>[.val (.t (a::b:: .t (ow.map bE)::r)),.dic bC T',s]) (λ_ _ _=>rfl) (λa T h1 h2=>inferInstance) ow T .no (by rw[qg];exact hn) (by lia);refine kQ (n:=n) (X:=(uW (P (n+2)) (P n) [.val (.t (a::b:: .t (ow.map bE)::r)),.dic bC T,.no]).bind (br 1)) (CY (j:=1) (k:=2) (m:=3) (g:=uW (P (n+2)) (P n)) (ds:=[_]) bO) ?_;unfold uW
 infer_instance
inductive yK:bA D->bA (Str×bD)->Prop
 |nil:yK [] []
 |cons {z:Str} {ps r xs qs:_}:yK xs qs->yK (.t (bE z:: .t ps::r)::xs) ((z,ps.length)::qs)
theorem Ws(h:FP (FD c) dds l u):∀qs,u=qs.map dP->yK dds qs:=by
 induction h with
 |nil=>intro qs e;cases qs with
  |nil=>exact .nil|cons _ _=>cases e
 |cons h _ ih=>
  intro qs e;cases h with
  | @mk z ps xs l u h1 h2 h3 h4 h5 h6 h7=>
   cases qs with
   |nil=>cases e|cons q qs=>
    have e1:=(DX e).1;have e2:=(DX e).2;have a1:z=q.1:=by injection e1 with e1;injection e1 with e1 _;injection e1
    have a2:ps.length=q.2:=by injection e1 with e1;injection e1 with _ e1;injection e1 with e1 _;injection e1 with e1;exact DZ e1
    have:q=(z,(ps.map bE).length):=by rw[cG,a1,a2]
    rw[this];exact .cons (ih qs e2)
theorem Wu{q1 q2:bA (Str×bD)}:∀{dds:_},yK dds (q1++q2)->∃d1 d2,dds=d1++d2/\yK d1 q1/\yK d2 q2:=by
 induction q1 with
 |nil=>exact λ{dds} h=>⟨[],dds,rfl,.nil,h⟩|cons q q1 ih=>
  intro dds h;rw[wq]at h;cases h with
  |cons h=>obtain⟨a,b,rfl,h1,h2⟩:=ih h;exact⟨_::a,b,rfl,.cons h1,h2⟩
abbrev o1(C:CT):MS:=bL (cR 5 (4^^^0)) (bL (cR 6 (mA fS {4^^^1})) (bL (bY (gZ 3 (gZ 2 (mB (m2 (dU bH) @5 @3)))) (iY 3 (eY 3 @5) kH @6 (gP 3 (xP 3 (mA cP {.("count"),@5})))) (bY (gZ 3 (gZ 2 (mB (m2 (dU bH) @5 @2)))) (gP 3 (xP 3 (mA cP {.("twice"),@5}))) (cE))) (nJ 2 @5 (mA cP {.("DEED"),@6}))))
noncomputable def wA(qs:bA (Str×bD)):R.Tab:=qs.map λp=>(p.1,bF p.2)
theorem Wv{C:CT}{X Ya:Slot}(hT:(T.map (·.1)).Nodup)(ht:T.length<=900)(h:yK dds qs):(qs.map (·.1)).Nodup->(∀p∈qs,(p.1,mD p.2)∈T)->∀a b e,∃a' b' e',∀fl,Ok (gD 4 (o1 C) ys [X,Ya,.dic bC T,.dic bH [],a',b',e']) fl->Ok (gD 4 (o1 C) (dds++ys) [X,Ya,.dic bC T,.dic bH (wA qs),a,b,e]) fl:=by
 induction h with
 |nil=>exact λ_ _ a b e=>⟨a,b,e,λ_ h=>h⟩| @cons z ps r xs qs h ih=>
  intro hn hm a b e;rw[dY,cf]at hn;have i0:Tg (wA ((z,ps.length)::qs)) z (bF ps.length):=⟨by unfold wA mL;simp⟩;have i1:Pt T z (mD ps.length) T:=⟨Wi hT (hm _ fW)⟩;have i2:Iq (ps.length:bG) ps.length bC:=⟨vW _⟩;have i3:_root_.R.tDrop (wA ((z,ps.length)::qs)) z=wA qs:=by
   unfold _root_.R.tDrop wA;rw[dY,pQ,dH (by simp)];refine List.filter_eq_self.mpr λp hp=>?_
   obtain⟨q,hq,rfl⟩:=jA.mp hp;exact mQ λe=>hn.1 (jA.mpr ⟨q,hq,e⟩)
  have:=kC (a:=T.length) (b:=1) (by lia);obtain⟨a',b',e',i⟩:=ih hn.2 (λp hp=>hm p (gI _ hp)) (.val (.t (bE z:: .t ps::r))) (.val (bE z)) (.val (bF ps.length));rw[<-i3]at i;refine⟨a',b',e',λfl h=>?_⟩;have:=i fl h;rw[wq]
  infer_instance
theorem Ww{C:CT}{X Ya:Slot}(h:yK dds qs):∀(T:R.Tab) a b e,(T.map (·.1)++qs.map (·.1)).Nodup->T.length+qs.length<=900->∃a' b' e',Ok (gD 4 (o1 C) dds [X,Ya,.dic bC T,.dic bH [],a,b,e]) (.nx [X,Ya,.dic bC (T++qs.map λp=>(p.1,mD p.2)),.dic bH [],a',b',e']):=by
 induction h with
 |nil=>exact λT a b e _ _=>⟨a,b,e,by rw[vY,kK];infer_instance⟩| @cons z ps r xs qs h ih=>
  intro T a b e hn hl;rw[dY]at hn;rw[dC]at hl;have i0:Tn ([]:R.Tab) z:=⟨λh=>by cases h⟩;have i1:Tn T z:=⟨λq=>(pC.mp hn).2.2 _ q _ fW bO⟩;have:=kC (a:=T.length) (b:=1) (by lia);obtain⟨a',b',e',i⟩:=ih (T++ [(z,mD ps.length)]) (.val (.t (bE z:: .t ps::r))) (.val (bE z)) (.val (bF ps.length)) (by rw[lR,pP];exact hn) (by rw[cH];show _+1+_<=_;lia);refine⟨a',b',e',?_⟩;rw[dY,show T++((z,mD ps.length)::qs.map λp=>(p.1,mD p.2))=T++ [(z,mD ps.length)]++qs.map λp=>(p.1,mD p.2)from by simp]
  infer_instance
noncomputable def oF:bQ Fc->D|some f=>f.d|none=>.n
noncomputable def dF:bQ Fc->bA (Str×bD)|some f=>f.ds|none=>[]
noncomputable def tF:bQ Fc->R.Tab|some f=>tK f|none=>[]
theorem JX:∀(qs:bA (Str×bD)) (T:R.Tab),(T.map (·.1)++qs.map (·.1)).Nodup->(wA qs).foldl (λT p=>yF T p.1 p.2) T=T++wA qs| [],T,_=>by unfold wA;simp|p::qs,T,h=>by rw[dY]at h;have:=JX qs (T++ [(p.1,bF p.2)]) (by rw[lR,pP];exact h);unfold wA at this|-;rw[dY,pz,JR λq=>(pC.mp h).2.2 _ q _ fW bO,this];simp
theorem JY:∀qs:bA (Str×bD),pairsOf (qs.map dP)=bB (wA qs)| []=>rfl|p::qs=>by rw[dY,_root_.R.pairsOf,JY qs];rfl
theorem Wx{f:bQ Fc}{hs:bA (Str×bD)}{a b e:D}{r:bA D}(h:yK dds (dF f++hs))(hT:(T.map (·.1)++hs.map (·.1)).Nodup)(ht:T.length+hs.length<=900)(hf:((dF f).map (·.1)).Nodup)(hl:(dF f).length<=6)(hm:∀p∈dF f,(p.1,mD p.2)∈T):Ok (P (n+3) .q24 [dR T,.t (a::b::e:: .t dds::r),oF f]) (.t [.n,dR (T++hs.map λp=>(p.1,mD p.2))]):=by
 obtain⟨d1,d2,rfl,h1,h2⟩:=Wu h;have i0:jI 0 (([]:R.Tab).length:bG) bH:=⟨rfl⟩;obtain⟨a1,b1,e1,i1⟩:=Wv (C:=P (n+2)) (ys:=d2) (X:=.val (.t (a::b::e:: .t (d1++d2)::r))) (Ya:=.val (oF f)) (pC.mp hT).1 (by lia) h1 hf hm .no .no .no;obtain⟨a2,b2,e2,i2⟩:=Ww (C:=P (n+2)) (X:=.val (.t (a::b::e:: .t (d1++d2)::r))) (Ya:=.val (oF f)) h2 T a1 b1 e1 hT ht;have i3:=i1 _ i2;refine kQ (n:=n) (X:=(uX (P (n+2)) (P n) [.val (.t (a::b::e:: .t (d1++d2)::r)),.val (oF f),.dic bC T,.no,.no,.no,.no]).bind (br 2)) (CY (j:=2) (k:=3) (m:=7) (g:=uX (P (n+2)) (P n)) (ds:=[_,_]) rfl) ?_;unfold uX;cases f with
 |none=>replace i3:Ok (gD 4 (o1 (P (n+2))) (d1++d2) [_,.val .n,.dic bC T,.dic bH [],.no,.no,.no]) _:=i3;simp only[oF];exact inferInstance|some f=>have i4:Ok (bp (.t (f.ds.map dP))) (.tab (wA f.ds)):=⟨by unfold bp;dsimp only;rw[JY];dsimp only;rw[cK (by unfold wA;rw[cG];have:f.ds.length<=6:=hl;lia)];unfold AU;rw[JX f.ds [] hf];rfl⟩;replace i3:Ok (gD 4 (o1 (P (n+2))) (d1++d2) [_,.val f.d,.dic bC T,.dic bH (wA f.ds),.no,.no,.no]) _:=i3;simp only[oF];unfold Fc.d at i3|-;exact inferInstance
end
section
variable{c:Cn}{n:bD}{F:R.Tab}{xs u dds:bA D}{l l' ow:bA Str}{un:Str}{hs:bA (Str×bD)}{f:bQ Fc}{tk:bA ((Str×Str)×D)}
abbrev f6(f:bQ Fc)(tk:bA ((Str×Str)×D))(ow:bA Str)(hs:bA (Str×bD)):R.Tab:=tF f++(tk.map λt=>(t.1.2,t.2))++(ow.map λz=>(z,mW))++hs.map λp=>(p.1,mD p.2)
theorem Wy(hf:∀g,f=some g->g.ok)(hc:c.ok)(ht:∀t∈tk,vh un F t.1 t.2)(hT:Tq (f6 f tk ow hs) c)(hk:∀z∈(f6 f tk ow hs).map (·.1),z∈c.ks)(hl:(f6 f tk ow hs).length<=900)(hd:FP (FD c) dds l ((dF f++hs).map dP))(hb:FP (FS c 3) xs l' u)(hx:xs.length<=9):
 Ok (P (n+24) .q20 [.t [bE un,.t (tk.map λt=>p2 t.1),.t (ow.map bE),.t dds,.t xs],dR F,oF f]) .n:=by
 have nd:=hT.n;have e3:(hs.map λp=>(p.1,mD p.2)).map (·.1)=hs.map (·.1):=by rw[mS];rfl
 have e2:(ow.map λz=>(z,mW)).map (·.1)=ow:=by rw[mS];exact qg ow
 have e1:(tk.map λt=>(t.1.2,t.2)).map (·.1)=tk.map (·.1.2):=by rw[mS];rfl
 rw[lR,e3]at nd;have nd2:=(pC.mp nd).1;rw[lR,e2]at nd2;have nd1:=(pC.mp nd2).1;rw[lR,e1]at nd1;simp only[cH,cG]at hl;have i1:Ok (P (n+23) .q21 [oF f]) (dR (tF f)):=by
  cases f with
  |none=>exact Wo (n:=n+20)|some g=>exact JV (n:=n+20) (hf g bO)
 have i2:=Wq (P:=P) (n:=n+19) (r:=[.t (ow.map bE),.t dds,.t xs]) tk ht nd1 (by lia);have i3:=Wr (P:=P) (n:=n+20) (a:=bE un) (b:=.t (tk.map λt=>p2 t.1)) (r:=[.t dds,.t xs]) (T:=tF f++tk.map λt=>(t.1.2,t.2)) (ow:=ow) nd2 (by simp only[cH,cG];lia)
 have i4:=Wx (P:=P) (n:=n+20) (f:=f) (a:=bE un) (b:=.t (tk.map λt=>p2 t.1)) (e:=.t (ow.map bE)) (r:=[.t xs]) (T:=tF f++(tk.map λt=>(t.1.2,t.2))++ow.map λz=>(z,mW)) (Ws hd _ bO) nd (by simp only[cH,cG];lia) (by
  cases f with
  |none=>exact xa
  |some g=>exact(pC.mp (hf g bO).u).2.1) (by
  cases f with
  |none=>exact mK _
  |some g=>exact(hf g bO).ld) (λp hp=>by
  cases f with
  |none=>cases hp
  |some g=>exact pA _ (pA _ (pO _ (jA.mpr ⟨p,hp,rfl⟩))))
 have i5:=Wn (P:=P) (n:=n) (z:=bE un) (tk:=.t (tk.map λt=>p2 t.1)) (wd:=.t (ow.map bE)) hc hT hk (by simp only[cH,cG];lia) hd hb hx;refine fJ (n:=n+21) (g:=BI (P (n+23)) (P (n+21))) (O:= #[.t [bE un,.t (tk.map λt=>p2 t.1),.t (ow.map bE),.t dds,.t xs],dR F,oF f,(),()]) bO (q:=?_);unfold BI
 infer_instance
end
class Ps(l:bG):Prop where
 e:0<l/\l<1073741824
class Pm(l:bG):Prop where
 e:0<l
class Sl(l:bG):Prop where
 e:Ad l=bC
section
variable{a b k l:bG}{n i j:bD}{O ρ1 ρ2:cS}{f:ME}{x y d:D}{ns:bA bG}{z w:Str}{ds xs ys:bA D}
instance [h:Ps l]:Pm l:=⟨h.e.1⟩
instance [h:Pm l]:Ok (dS (bF k) (bF l)) (bF (k%l)):=⟨by have:=h.e;simp[dS,dI,this]⟩
instance [h:Ps l]:Ok (jC (bF k) (bF l)) (bF (k/l)):=⟨by have:=h.e;simp[jC,dI,this]⟩
instance [h:Sl k]:Ok (kY (bF k) (bF l)) (bF (k*l)):=⟨by unfold kY;dsimp only;rw[h.e];rfl⟩
theorem JZ [h:Sl l]:Ok (kY (bF k) (bF l)) (bF (k*l)):=⟨by unfold kY;dsimp only;rw[h.e,Bool.or_true];rfl⟩
theorem yL(h: -1000000000000<l)(h2:l<1000000000000):Sl l:=⟨mQ (by lia)⟩
instance:Ps 9:=⟨by decide⟩
instance:Ps 7:=⟨by decide⟩
instance:Ps 26:=⟨by decide⟩
instance:Ps 6:=⟨by decide⟩
instance:Ps 4:=⟨by decide⟩
instance:Ps 3:=⟨by decide⟩
instance:Ps 5:=⟨by decide⟩
instance:Ps 12:=⟨by decide⟩
instance:Ps 16:=⟨by decide⟩
instance:Ps 14:=⟨by decide⟩
instance:Ps 21:=⟨by decide⟩
instance:Ps 48:=⟨by decide⟩
instance:Ps 256:=⟨by decide⟩
instance:Ps 960:=⟨by decide⟩
instance:Ps 1999999:=⟨by decide⟩
instance:Pm 2147483647:=⟨by decide⟩
instance:Pm 2147483629:=⟨by decide⟩
instance:Sl 7919:=yL (by decide) (by decide)
instance:Sl 104729:=yL (by decide) (by decide)
instance:Sl 26:=yL (by decide) (by decide)
instance:Sl 7:=yL (by decide) (by decide)
instance:Sl 3:=yL (by decide) (by decide)
instance:Sl 4:=yL (by decide) (by decide)
instance:Ok (kY (bF k) (bF 48271)) (bF (k*48271)):=by have:Sl 48271:=yL (by decide) (by decide);exact JZ
instance:Ok (kY (bF k) (bF 69621)) (bF (k*69621)):=by have:Sl 69621:=yL (by decide) (by decide);exact JZ
instance [q:Ok (f O) (.t [x,y])] [r:jW O i (.val x) ρ1] [o:jW ρ1 j (.val y) ρ2]:Ok (bc i j f O) (.nx ρ2):=⟨by unfold bc;rw[q.e, <-o.e, <-r.e];rfl⟩
noncomputable def yM(ns:bA bG)(k:bD):bG:=ns.getD k 0
theorem Wz:Ok (P (n+3) .q59 [.l (ns.map bF),bF j]) (bF (yM ns j)):=by
 refine fJ (g:=Cg (P (n+2)) (P n)) (O:= #[.l (ns.map bF),bF j]) bO (q:=?_);unfold Cg;by_cases h:j<ns.length
 .have i1:jI j (ns.map bF).length bC:=⟨mQ (by rw[cG];lia)⟩;have i2:Ok (cV (.l (ns.map bF)) (bF j)) (bF (yM ns j)):=⟨by have e:mY (ns.map bF) (j:bG)=bB (bF (yM ns j)):=du (by unfold yM;simp[rR,h]);simp only[cV,e]⟩
  infer_instance
 .have i1:jI j (ns.map bF).length bH:=⟨jD (by rw[cG];lia)⟩;have:yM ns j=0:=by unfold yM;simp[rR,pv h]
  rw[this]
  infer_instance
noncomputable def vi(a b:bG)(k:bD):bG:=(a*a+b*a+k)%2147483629
def kR(ns:bA bG)(k:bD):bG:=vi ((yM ns k+7919*k+1)*48271%2147483647) 7 k
def gW(nb:bG)(k:bD):bG:=vi ((nb+104729*k+17)*69621%2147483647) 3 k
instance mix_is:Ok (P (n+4) .q60 [.l (ns.map bF),bF j]) (bF (kR ns j)):=by
 have:=Wz (P:=P) (n:=n) (ns:=ns) (j:=j);have:Sl ((yM ns j+7919*j+1)*48271%2147483647):=yL (by have:=wY ((yM ns j+7919*j+1)*48271) (by decide:(2147483647:bG)≠0);lia) (by have:=ao ((yM ns j+7919*j+1)*48271) (by decide:(0:bG)<2147483647);lia);refine fJ (n:=n+1) (g:=Ch (P (n+3)) (P (n+1))) (O:= #[.l (ns.map bF),bF j,()]) bO (q:=?_);unfold Ch kR vi
 infer_instance
instance drw_is:Ok (P (n+3) .q61 [bF a,bF j]) (bF (gW a j)):=by
 have:Sl ((a+104729*j+17)*69621%2147483647):=yL (by have:=wY ((a+104729*j+17)*69621) (by decide:(2147483647:bG)≠0);lia) (by have:=ao ((a+104729*j+17)*69621) (by decide:(0:bG)<2147483647);lia);refine fJ (g:=Ci (P (n+2)) (P n)) (O:= #[bF a,bF j,()]) bO (q:=?_);unfold Ci gW vi
 infer_instance
theorem WA:∃v,oM v/\Ok (P (n+3) .q63 [bF a]) (bF v):=by
 have go:∀d,Ok (Ck (P (n+2)) (P n) #[bF a]) (.rt d)->Ok (P (n+3) .q63 [bF a]) d:=λd q=>fJ (q:=q) bO
 unfold Ck at go;by_cases h:a%9=4
 .have:Iq (a%9) 4 bC:=⟨qW.mpr h⟩;exact⟨a/9%1999999-999999,⟨by lia,by lia⟩,go _ inferInstance⟩
 .have:Iq (a%9) 4 bH:=⟨lE.mpr h⟩;exact⟨a/9%14-4,⟨by lia,by lia⟩,go _ inferInstance⟩
theorem ah{α:Type}{g:α->D}{l:bA α}(h:0<l.length)(v:bG):∃x∈l,Ok (cV (.l (l.map g)) (bF (v%((l.map g).length:bG)))) (g x):=by
 have h1:0<=v%((l.map g).length:bG):=wY _ (by rw[cG];lia);have h2:v%((l.map g).length:bG)<((l.map g).length:bG):=ao _ (by rw[cG];lia);obtain⟨j,e⟩:=ge h1;rw[e]at h2|-;rw[cG]at h2;have hj:j<l.length:=by lia
 refine⟨l[j],List.getElem_mem hj,⟨?_⟩⟩;have e:mY (l.map g) (j:bG)=bB (g l[j]):=du (by simp[hj]);simp only[cV,e]
theorem J1{g:ME}{rest:cS}{Q:D->D->Prop}:∀{xs:bA D},(∀x∈xs,∃d,Ok (g (.val x::rest)) d/\Q x d)->∃ys,Ok (hX (λ_=>.ok bC) g rest xs) ys/\kD Q xs ys
 | [],_=>⟨[],⟨rfl⟩,.nil⟩|x::xs,h=>by
  obtain⟨d,h1,h2⟩:=h x fW;obtain⟨ys,h3,h4⟩:=J1 λy hy=>h y (gI _ hy)
  exact⟨d::ys,⟨by rw[hX];show bP.bind (g (.val x::rest)) _=_;rw[h1.e];show bP.bind (hX _ _ _ xs) _=_;rw[h3.e];rfl⟩,.cons h2 h4⟩
theorem WB{m:bD}(h:x∈R.upTo 0 m):∃k:bD,x=bF k/\k<m:=by unfold R.upTo at h;obtain⟨k,hk,e⟩:=jA.mp h;exact⟨k,by rw[<-e,D4],wZ.mp hk⟩
end
section
variable{c:Cn}{R:Rl}{n m:bD}{nb:bG}{xs ys:bA D}{e d:D}{l l':bA Str}{u u':bA D}{z y:Str}
theorem o3:∀{ys:bA D},(∀y∈ys,∃l u,R y l u)->∃l u,FP R ys l u
 | [],_=>⟨_,_,.nil⟩|y::ys,h=>by
  obtain⟨l,u,h1⟩:=h y fW;obtain⟨l',u',h2⟩:=o3 λz hz=>h z (gI _ hz)
  exact⟨_,_,.cons h1 h2⟩
theorem vm{Q:D->D->Prop}{xs ys:bA D}(h:kD Q xs ys):ys.length=xs.length/\ ∀y∈ys,∃x∈xs,Q x y:=by
 induction h with
 |nil=>exact⟨rfl,λy hy=>by cases hy⟩|cons h _ ih=>
  refine⟨by rw[dC,dC,ih.1],λy hy=>?_⟩;rcases kS.mp hy with rfl|hy
  .exact⟨_,fW,h⟩
  .obtain⟨x,hx,q⟩:=ih.2 y hy;exact⟨x,gI _ hx,q⟩
theorem jr{js:bA bD}{f g:ME}{O:cS}{k:bD}{Q:D->D->Prop} [q:Ok (f O) (bF k)](hk:k<=1000000)(h:∀j:bD,j<k->∃d,Ok (g (.val (bF j)::lL js O)) d/\Q (bF j) d):∃ys,Ok (gO js (kG f) (λ_=>.ok bC) g O) (.l ys)/\kD Q (_root_.R.upTo 0 k) ys:=by
 obtain⟨ys,h1,h2⟩:=J1 (g:=g) (rest:=lL js O) (Q:=Q) (xs:=_root_.R.upTo 0 k) λx hx=>by obtain⟨j,rfl,hj⟩:=WB hx;exact h j hj
 have:=oT (f:=f) (O:=O) (n:=k) hk;exact⟨ys,bv (by rw[bz];exact hk) h1,h2⟩
theorem rQ{a b:bG}(h:a=b):Iq a b bC:=⟨qW.mpr h⟩
theorem tM{a b:bG}(h:a≠b):Iq a b bH:=⟨lE.mpr h⟩
theorem ai{a b:bG}(h:a<b):jI a b bC:=⟨mQ h⟩
theorem aj{a b:bG}(h: ¬ a<b):jI a b bH:=⟨jD h⟩
theorem WC(v:bG):∃s,fq s=bC/\Ok (cV (bE "+-*<=") (bF (v%5))) (bE s):=by
 have h1:=wY v (by decide:(5:bG)≠0);have h2:=ao v (by decide:(0:bG)<5);rcases(by lia:v%5=0\/v%5=1\/v%5=2\/v%5=3\/v%5=4)with e|e|e|e|e<;>rw[e]
 .exact⟨"+",by decide+kernel,⟨by kernel_rfl⟩⟩
 .exact⟨"-",by decide+kernel,⟨by kernel_rfl⟩⟩
 .exact⟨"*",by decide+kernel,⟨by kernel_rfl⟩⟩
 .exact⟨"<",by decide+kernel,⟨by kernel_rfl⟩⟩
 .exact⟨"=",by decide+kernel,⟨by kernel_rfl⟩⟩
noncomputable abbrev nL(c:Cn):D:=.l (c.ws.map bE)
abbrev dL(c:Cn):D:=.l (c.ds.map dP)
theorem jt(hc:c.ok)(hw:0<c.ws.length):∀(m n:bD) (nb:bG),∃d,Ok (P (n+m+4) .q64 [bF nb,nL c,dL c,bF m]) d/\ ∃l u,FE c (m+1) d l u
 |m,n,nb=>by
  have go:∀d,Ok (Cm (P (n+m+3)) (P (n+m+1)) #[bF nb,nL c,dL c,bF m,(),(),(),(),(),()]) (.rt d)->Ok (P (n+m+1+3) .q64 [bF nb,nL c,dL c,bF m]) d:=λd q=>fJ (q:=q) rfl
  unfold Cm at go;obtain⟨v,v1,v2⟩:=WA (P:=P) (n:=n+m) (a:=nb/9);have p1:Pm ((c.ws.map bE).length:bG):=⟨by rw[cG];lia⟩;by_cases h0:m=0
  .have:Iq (m:bG) 0 bC:=rQ (by lia);exact⟨_,go _ inferInstance,_,_,.num v1⟩
  have i0:Iq (m:bG) 0 bH:=tM (by lia);by_cases h1:nb%9<2
  .have:=ai h1;exact⟨_,go _ inferInstance,_,_,.num v1⟩
  have i1:=aj h1;by_cases h2:nb%9<5
  .have:=ai h2;obtain⟨z,hz,q⟩:=ah (g:=bE) hw (nb/9);exact⟨_,go _ inferInstance,_,_,.nam hz⟩
  have i2:=aj h2;obtain⟨m,rfl⟩:∃j,m=j+1:=⟨m-1,by lia⟩;have em:((m+1:bD):bG)-1=m:=by lia
  by_cases h3:nb%9=5/\0<c.ds.length
  .have i3:=rQ h3.1;have i4:jI 0 ((c.ds.map dP).length:bG) bC:=ai (by rw[cG];have:=h3.2;lia);have p2:Pm ((c.ds.map dP).length:bG):=⟨by rw[cG];have:=h3.2;lia⟩;obtain⟨p,hp,q⟩:=ah (g:=dP) h3.2 (nb/9);have h4:=(hc.d _ hp).2;obtain⟨ys,j1,j2⟩:=jr (js:=[1,2,0,3]) (f:=gv 6) (g:=mA (P (n+m+4) .q64) {(mA (P (n+m+4) .q61) {@3,@0}),@1,@2,(m2 sC @4 .(1))}) (O:= #[bF nb,nL c,dL c,bF ((m+1:bD):bG),bF (nb%9),bE p.1,bF p.2,(),(),()]) (k:=p.2) (Q:=λ_ d=>∃l u,FE c (m+1) d l u) (by lia) λj hj=>by
    obtain⟨d,q1,q2⟩:=jt hc hw m n (gW nb j);rw[<-em]at q1;exact⟨d,(inferInstance:Ok (mA (P (n+m+4) .q64) {(mA (P (n+m+4) .q61) {@3,@0}),@1,@2,(m2 sC @4 .(1))} #[bF j,nL c,dL c,bF nb,bF ((m+1:bD):bG)]) d),q2⟩
   obtain⟨k1,k2⟩:=vm j2;obtain⟨l,u,hf⟩:=o3 (R:=FE c (m+1)) λy hy=>by obtain⟨_,_,q⟩:=k2 y hy;exact q
   rw[bz]at k1;exact⟨_,go _ inferInstance,_,_,.call (by rw[k1];exact hp) hf⟩
  .have i3:Ok (mZ (mB (m2 cY @4 .(5))) (mB (m2 nV (mA fS {@2}) .(0))) #[bF nb,nL c,dL c,bF ((m+1:bD):bG),bF (nb%9),(),(),(),(),()]) bH:=by
    by_cases h4:nb%9=5
    .have:=rQ h4;have:jI 0 ((c.ds.map dP).length:bG) bH:=aj (by rw[cG];lia)
     infer_instance
    .have:=tM h4
     infer_instance
   obtain⟨d1,a1,_,_,a2⟩:=jt hc hw m n (gW nb 5);obtain⟨d2,b1,_,_,b2⟩:=jt hc hw m n (gW nb 6);obtain⟨s,s1,s2⟩:=WC (nb/9);rw[<-em]at a1 b1;have c1:Ok (P (n+(m+1)+3) .q61 [bF nb,bF 5]) (bF (gW nb 5)):=drw_is (j:=5);have c2:Ok (P (n+(m+1)+3) .q61 [bF nb,bF 6]) (bF (gW nb 6)):=drw_is (j:=6);exact⟨_,go _ inferInstance,_,_,.bin s1 a2 b2⟩
termination_by m=>m
end
section
variable{c:Cn}{R:Rl}{n m:bD}{nb:bG}{xs ys:bA D}{e d:D}{l l':bA Str}{u u':bA D}{z y:Str}{pl:bA Str}
theorem WD{R':Rl}(h:∀x l u,R x l u->R' x l u)(k:FP R xs l u):FP R' xs l u:=by
 induction k with
 |nil=>exact .nil|cons a _ ih=>exact .cons (h _ _ _ a) ih
theorem WE(h:FP R xs l u)(k:R d l' u'):FP R (xs++ [d]) (l++l') (u++u'):=by
 induction h with
 |nil=>have:=FP.cons k .nil;rwa [kK,kK]at this|cons a _ ih=>rw[pP,pP];exact .cons a ih
theorem vn:∀(m:bD) {d l u:_},FE c m d l u->FE c (m+1) d l u|0,_,_,_,h=>h.elim|m+1,_,_,_,.num h=>.num h|m+1,_,_,_,.nam h=>.nam h|m+1,_,_,_,.call h k=>.call h (WD (λ_ _ _ h=>vn m h) k)|m+1,_,_,_,.bin h a b=>.bin h (vn m a) (vn m b)
abbrev Fs(c:Cn)(m:bD)(d:D):Prop:=∃l u,FS c (m+1) d l u
theorem b8{w:Str}{f:bA Str}(hw:qP.lookup w=bB (.t (f.map bE)))(h:FF c (FS c m) f xs l u)(h1:(w== "do")=bH)(h2:(w== "new")=bH):Fs c m (.t (bE w::xs)):=⟨_,_,.mk hw h (.other h1 h2)⟩
theorem J2(h:z∈c.ws)(k:FE c 3 e l u):Fs c m (.t [bE "let",bE z,e]):=b8 (f:=["WORD","be","EXPRESSION"]) (by kernel_rfl) (.part (.word h) (.kept (by decide+kernel) (.part (.expr k) .nil))) (by decide+kernel) (by decide+kernel)
theorem J3(h:z∈c.ws)(k:FE c 3 e l u):Fs c m (.t [bE "hand",bE z,e]):=b8 (f:=["WORD","to","EXPRESSION"]) (by kernel_rfl) (.part (.word h) (.kept (by decide+kernel) (.part (.expr k) .nil))) (by decide+kernel) (by decide+kernel)
theorem J4(k:FE c 3 e l u):Fs c m (.t [bE "tell",e]):=b8 (f:=["EXPRESSION"]) (by kernel_rfl) (.part (.expr k) .nil) (by decide+kernel) (by decide+kernel)
theorem WF(k:FE c 3 e l u):Fs c m (.t [bE "give",e]):=b8 (f:=["EXPRESSION"]) (by kernel_rfl) (.part (.expr k) .nil) (by decide+kernel) (by decide+kernel)
theorem WG(h:z∈c.ws):Fs c m (.t [bE "get",bE z]):=b8 (f:=["WORD"]) (by kernel_rfl) (.part (.word h) .nil) (by decide+kernel) (by decide+kernel)
theorem WH(h:z∈c.ws)(k:y∈c.ws):Fs c m (.t [bE "await",bE z,bE y]):=b8 (f:=["WORD","and","WORD"]) (by kernel_rfl) (.part (.word h) (.kept (by decide+kernel) (.part (.word k) .nil))) (by decide+kernel) (by decide+kernel)
theorem WI(h:z∈c.ws)(k:(y,0)∈c.ds):Fs c m (.t [bE "new",bE z,bE y]):=⟨_,_,.mk (f:=["WORD","deed","DEED"]) (by kernel_rfl) (.part (.word h) (.kept (by decide+kernel) (.part (.deed k) .nil))) (.new k)⟩
theorem WJ(h:(z,xs.length)∈c.ds)(h4:xs.length<=4)(k:FP (FE c 3) xs l u):Fs c m (.t [bE "do",bE z,.t xs]):=⟨_,_,.mk (f:=["DEED","PARTS"]) (by kernel_rfl) (.part (.deed h) (.part (.parts h4 k) .nil)) (.dos h)⟩
theorem J5(k:FE c 3 e l u)(h4:xs.length<=4)(h:FP (FS c m) xs l' u'):Fs c m (.t [bE "while",e,.t xs]):=b8 (f:=["EXPRESSION","do","BLOCK"]) (by kernel_rfl) (.part (.expr k) (.kept (by decide+kernel) (.part (.block h4 h) .nil))) (by decide+kernel) (by decide+kernel)
theorem WK{l2:bA Str}{u2:bA D}(k:FE c 3 e l u)(h4:xs.length<=4)(h:FP (FS c m) xs l' u')(h5:ys.length<=4)(h':FP (FS c m) ys l2 u2):Fs c m (.t [bE "if",e,.t xs,.t ys]):=b8 (f:=["EXPRESSION","then","BLOCK","else","BLOCK"]) (by kernel_rfl) (.part (.expr k) (.kept (by decide+kernel) (.part (.block h4 h) (.kept (by decide+kernel) (.part (.block h5 h') .nil))))) (by decide+kernel) (by decide+kernel)
abbrev pL(pl:bA Str):D:=.l (pl.map bE)
theorem WL(hc:c.ok)(hw:0<c.ws.length)(hp:∀z∈pl,(z,0)∈c.ds)(n:bD)(nb:bG):∃d,Ok (P (n+7) .q65 [bF nb,nL c,dL c,pL pl]) d/\ ∀m,Fs c m d:=by
 have go:∀d,Ok (Co (P (n+6)) (P (n+4)) #[bF nb,nL c,dL c,pL pl,(),(),(),(),(),()]) (.rt d)->Ok (P (n+4+3) .q65 [bF nb,nL c,dL c,pL pl]) d:=λd q=>fJ (q:=q) bO
 unfold Co at go;have p1:Pm ((c.ws.map bE).length:bG):=⟨by rw[cG];lia⟩;obtain⟨z,hz,q1⟩:=ah (g:=bE) hw (nb/16);obtain⟨e,e1,_,_,e2⟩:=jt (P:=P) hc hw 2 n (gW nb 1);replace e1:Ok (P (n+6) .q64 [bF (gW nb 1),nL c,dL c,bF 2]) e:=e1;have e0:Ok (P (n+6) .q61 [bF nb,bF 1]) (bF (gW nb 1)):=drw_is (j:=1);by_cases h1:nb%16<4
 .have:=ai h1;exact⟨_,go _ inferInstance,λm=>J2 hz e2⟩
 have:=aj h1;by_cases h2:nb%16<6
 .have:=ai h2;exact⟨_,go _ inferInstance,λm=>J4 e2⟩
 have:=aj h2;by_cases h3:nb%16=6
 .have:=rQ h3;exact⟨_,go _ inferInstance,λm=>WG hz⟩
 have:=tM h3;by_cases h4:nb%16=7
 .have:=rQ h4;exact⟨_,go _ inferInstance,λm=>WF e2⟩
 have:=tM h4;by_cases h5:nb%16=8/\0<pl.length
 .have:=rQ h5.1;have:jI 0 ((pl.map bE).length:bG) bC:=ai (by rw[cG];have:=h5.2;lia);have:Pm ((pl.map bE).length:bG):=⟨by rw[cG];have:=h5.2;lia⟩;obtain⟨y,hy,q2⟩:=ah (g:=bE) h5.2 (nb/256);exact⟨_,go _ inferInstance,λm=>WI hz (hp y hy)⟩
 have i5:Ok (mZ (mB (m2 cY @6 .(8))) (mB (m2 nV (mA fS {@3}) .(0))) #[bF nb,nL c,dL c,pL pl,bE z,e,bF (nb%16),(),(),()]) bH:=by
  by_cases h6:nb%16=8
  .have:=rQ h6;have:jI 0 ((pl.map bE).length:bG) bH:=aj (by rw[cG];lia)
   infer_instance
  .have:=tM h6
   infer_instance
 by_cases h6:nb%16=9
 .have:=rQ h6;exact⟨_,go _ inferInstance,λm=>J3 hz e2⟩
 have:=tM h6;by_cases h7:nb%16=10
 .have:=rQ h7;exact⟨_,go _ inferInstance,λm=>J3 hz (.num ⟨by lia,by lia⟩)⟩
 have:=tM h7;by_cases h8:nb%16=11
 .have:=rQ h8;obtain⟨y,hy,q2⟩:=ah (g:=bE) hw (nb/256);exact⟨_,go _ inferInstance,λm=>WH hz hy⟩
 have:=tM h8;by_cases h9:0<c.ds.length
 .have i4:jI 0 ((c.ds.map dP).length:bG) bC:=ai (by rw[cG];lia);have p2:Pm ((c.ds.map dP).length:bG):=⟨by rw[cG];lia⟩;obtain⟨p,hp,q⟩:=ah (g:=dP) h9 (nb/256);have h4:=(hc.d _ hp).2;obtain⟨ys,j1,j2⟩:=jr (js:=[1,2,0]) (f:=gv 8) (g:=mA (P (n+6) .q64) {(mA (P (n+6) .q61) {@3,(m2 bZ @0 .(2))}),@1,@2,.(1)}) (O:= #[bF nb,nL c,dL c,pL pl,bE z,e,bF (nb%16),bE p.1,bF p.2,()]) (k:=p.2) (Q:=λ_ d=>∃l u,FE c 3 d l u) (by lia) λj hj=>by
   obtain⟨d,q1,_,_,q2⟩:=jt (P:=P) hc hw 1 (n+1) (gW nb (j+2));replace q1:Ok (P (n+6) .q64 [bF (gW nb (j+2)),nL c,dL c,bF 1]) d:=q1;have q0:Ok (P (n+6) .q61 [bF nb,bF ((j:bG)+2)]) (bF (gW nb (j+2))):=drw_is (j:=j+2);exact⟨d,(inferInstance:Ok (mA (P (n+6) .q64) {(mA (P (n+6) .q61) {@3,(m2 bZ @0 .(2))}),@1,@2,.(1)} #[bF j,nL c,dL c,bF nb]) d),_,_,vn 2 q2⟩
  obtain⟨k1,k2⟩:=vm j2;obtain⟨l,u,hf⟩:=o3 (R:=FE c 3) λy hy=>by obtain⟨_,_,q⟩:=k2 y hy;exact q
  rw[bz]at k1;exact⟨_,go _ inferInstance,λm=>WJ (by rw[k1];exact hp) (by lia) hf⟩
 .have i4:jI 0 ((c.ds.map dP).length:bG) bH:=aj (by rw[cG];lia);exact⟨_,go _ inferInstance,λm=>J4 e2⟩
abbrev J6(C:CT):ME:=mA (C .q66) {(mA (C .q61) {@5,@0}),@1,@2,@3,@4}
theorem J7{k:bD}(hS:∀nb,∃d,Ok (P (n+8) .q66 [bF nb,nL c,dL c,pL pl,bF m]) d/\ ∃l u,R d l u)(hk:k<=4)(nb:bG):∃xs,Ok (P (n+9) .q67 [bF nb,bF k,nL c,dL c,pL pl,bF m]) (.t xs)/\xs.length=k/\ ∃l u,FP R xs l u:=by
 obtain⟨ys,j1,j2⟩:=jr (js:=[2,3,4,5,0]) (f:=gv 1) (g:=J6 (P (n+8))) (O:= #[bF nb,bF k,nL c,dL c,pL pl,bF m,()]) (k:=k) (Q:=λ_ d=>∃l u,R d l u) (by lia) λj hj=>by obtain⟨d,q1,q2⟩:=hS (gW nb j);exact⟨d,(inferInstance:Ok (J6 (P (n+8)) #[bF j,nL c,dL c,pL pl,bF m,bF nb]) d),q2⟩
 obtain⟨k1,k2⟩:=vm j2;rw[bz]at k1;refine⟨ys,?_,k1,o3 λy hy=>by obtain⟨_,_,q⟩:=k2 y hy;exact q⟩;refine fJ (n:=n+6) (g:=uY (P (n+8)) (P (n+6))) (O:= #[bF nb,bF k,nL c,dL c,pL pl,bF m,()]) (by show dG 6 7 (uY (P (n+8)) (P (n+6))) [_,_,_,_,_,_]=_;exact(cK bO).trans bO) (q:=?_);unfold uY
 infer_instance
theorem CZ(hc:c.ok)(hw:0<c.ws.length)(hp:∀z∈pl,(z,0)∈c.ds):∀(m n:bD) (nb:bG),∃d,Ok (P (n+2*m+8) .q66 [bF nb,nL c,dL c,pL pl,bF m]) d/\Fs c m d
 |m,n,nb=>by
  have go:∀d,Ok (Cp (P (n+2*m+7)) (P (n+2*m+5)) #[bF nb,nL c,dL c,pL pl,bF m,(),(),(),()]) (.rt d)->Ok (P (n+2*m+5+3) .q66 [bF nb,nL c,dL c,pL pl,bF m]) d:=λd q=>fJ (q:=q) rfl
  unfold Cp at go;obtain⟨s,s1,s2⟩:=WL (P:=P) hc hw hp (n+2*m) (nb/12);by_cases h0:m=0
  .have:Iq (m:bG) 0 bC:=rQ (by lia);exact⟨_,go _ inferInstance,s2 m⟩
  have i0:Iq (m:bG) 0 bH:=tM (by lia);by_cases h1:nb%12<9
  .have:=ai h1;exact⟨_,go _ inferInstance,s2 m⟩
  have i1:=aj h1;obtain⟨m,rfl⟩:∃j,m=j+1:=⟨m-1,by lia⟩;have em:((m+1:bD):bG)-1=m:=by lia
  have p1:Pm ((c.ws.map bE).length:bG):=⟨by rw[cG];lia⟩;obtain⟨e,e1,_,_,e2⟩:=jt (P:=P) hc hw 2 (n+2*m+3) (gW nb 1);replace e1:Ok (P (n+2*(m+1)+7) .q64 [bF (gW nb 1),nL c,dL c,bF 2]) e:=e1;have e0:Ok (P (n+2*(m+1)+7) .q61 [bF nb,bF 1]) (bF (gW nb 1)):=drw_is (j:=1);have e3:Ok (P (n+2*(m+1)+7) .q61 [bF nb,bF 2]) (bF (gW nb 2)):=drw_is (j:=2);have e4:Ok (P (n+2*(m+1)+7) .q61 [bF nb,bF 3]) (bF (gW nb 3)):=drw_is (j:=3);have bl:∀(k:bD) (nb:bG),k<=4->∃xs,Ok (P (n+2*(m+1)+7) .q67 [bF nb,bF k,nL c,dL c,pL pl,bF (((m+1:bD):bG)-1)]) (.t xs)/\xs.length=k/\ ∃l u,FP (FS c (m+1)) xs l u:=λk nb hk=>by rw[em];exact J7 (n:=n+2*m) (λnb=>CZ hc hw hp m n nb) hk nb
  obtain⟨k,hk⟩:=ge (wY (nb/12) (by decide:(4:bG)≠0));have hk4:k<4:=by have:=ao (nb/12) (by decide:(0:bG)<4);lia
  obtain⟨xs,x1,x2,_,_,x3⟩:=bl k (gW nb 2) (by lia);replace x1:Ok (P (n+2*(m+1)+7) .q67 [bF (gW nb 2),bF (nb/12%4),nL c,dL c,pL pl,bF (((m+1:bD):bG)-1)]) (.t xs):=by rw[hk];exact x1
  by_cases h2:nb%12=9
  .have:=rQ h2;exact⟨_,go _ inferInstance,J5 e2 (by lia) x3⟩
  have:=tM h2;by_cases h3:nb%12=10
  .have:=rQ h3;obtain⟨z,hz,q⟩:=ah (g:=bE) hw (nb/48);obtain⟨l1,u1,k1⟩:=J2 (m:=m) (c:=c) hz (.bin (s:="+") (by decide+kernel) (.nam hz) (.num (v:=1) ⟨by decide,by decide⟩));have sz:Sz (xs.length+ [D.t [bE "let",bE z,.t [bE "+",.t [bE "name",bE z],.t [bE "number",bF 1]]]].length):=kC (by show _+1<=_;lia);have f1:FP (FS c (m+1)) (xs++ [D.t [bE "let",bE z,.t [bE "+",.t [bE "name",bE z],.t [bE "number",bF 1]]]]) _ _:=WE x3 k1;exact⟨_,go _ inferInstance,J5 (.bin (s:="<") (by decide+kernel) (.nam hz) (.num ⟨by lia,by lia⟩)) (by rw[cH];show _+1<=4;lia) f1⟩
  have:=tM h3;obtain⟨k',hk'⟩:=ge (wY (nb/48) (by decide:(3:bG)≠0));have hk3:k'<3:=by have:=ao (nb/48) (by decide:(0:bG)<3);lia
  obtain⟨ys,y1,y2,_,_,y3⟩:=bl k' (gW nb 3) (by lia);replace y1:Ok (P (n+2*(m+1)+7) .q67 [bF (gW nb 3),bF (nb/48%3),nL c,dL c,pL pl,bF (((m+1:bD):bG)-1)]) (.t ys):=by rw[hk'];exact y1
  exact⟨_,go _ inferInstance,WK e2 (by lia) x3 (by lia) y3⟩
termination_by m=>m
end
noncomputable abbrev yN:Str:="abcdefghijklmnopqrstuvwxyz"
noncomputable def sd(z:Str)(i k:bD):Str:=⟨z.cps++ [97+i,97+k,122].toArray⟩
section
variable{z w:Str}{i j k l n:bD}{nb:bG}{O:cS}{d:D}
theorem C1(h:k<26):Ok (cV (bE yN) (bF k)) (bE ⟨[97+k].toArray⟩):=⟨by
 have e:∀k,k<26->yN.cps.toList[k]? =bB (97+k):=by decide+kernel
 have e:mY yN.cps.toList (k:bG)=bB (97+k):=du (e k h);simp only[cV,e]⟩
theorem vo:Ls (sd z i k)=Ls z++ [97+i,97+k,122]:=by unfold sd Ls;simp
theorem nM{a b:bD}(e:sd z i k=sd z a b):i=a/\k=b:=by
 have h:Ls (sd z i k)=Ls (sd z a b):=by rw[e]
 rw[vo,vo]at h;have:=List.append_cancel_left h;simp only[p0]at this
 lia
theorem WM(hz:sP z=true)(hl:z.length<=5)(hi:i<26)(hk:k<26):Nm (sd z i k):=by
 have e:=vo (z:=z) (i:=i) (k:=k);have l:(sd z i k).length=z.length+3:=by rw[<-rP,e,cH,rP];rfl
 refine⟨by lia,?_⟩;unfold yI;have h1:sP (sd z i k)=true:=by unfold sP at hz|-;show(Ls (sd z i k)).all _=true;rw[e,L0,show(Ls z).all _=true from hz];simp only[lS,Mu,qA,aA,DV];simp;lia
 rw[h1,aA,j5];cases q:ab.any (· ==sd z i k)with
 |false=>rfl|true=>
  exfalso;obtain⟨w,hw,q⟩:=aw.mp q;have c:(ab.all λw=>(Ls w).getLast? != bB 122)=true:=by decide+kernel
  have:=qR.mp c w hw;rw[dW q,e]at this;simp at this
instance [q:Sz (w.length+z.length)]:Ok (bZ (bE w) (bE z)) (bE (w++z)):=⟨cK q.e⟩
abbrev J8:MS:=cR 2 (m2 bZ @2 (m2 cV @1 (m2 dS (m2 jC @0 (m2 bZ .(7) (m2 kY .(26) @3))) .(26))))
theorem J9:∀(ks:bA bD) (z:Str) (s:Slot),(∀k∈ks,k<=6)->sP z=bC->z.length+ks.length<=100->∃z' s',Ok (gD 3 J8 (ks.map λk:bD=>bF (0+(k:bG))) [.val (bF nb),.val (bE yN),.val (bE z),s]) (.nx [.val (bF nb),.val (bE yN),.val (bE z'),s'])/\sP z'=bC/\z'.length=z.length+ks.length
 | [],z,s,_,h,_=>⟨z,s,by rw[vY];infer_instance,h,rfl⟩|k::ks,z,s,hk,h,hl=>by
  rw[dC]at hl;have h6:=hk k fW;obtain⟨c,hc⟩:=ge (wY (nb/(7+26*(0+(k:bG)))) (by decide:(26:bG)≠0));have hc2:c<26:=by have:=ao (nb/(7+26*(0+(k:bG)))) (by decide:(0:bG)<26);lia
  have i1:=C1 hc2;rw[<-hc]at i1;have:Ps (7+26*(0+(k:bG))):=⟨by lia⟩;have l1:(⟨[97+c].toArray⟩:Str).length=1:=rfl;have:Sz (z.length+(⟨[97+c].toArray⟩:Str).length):=kC (by rw[l1];lia);have e:Ls (z++⟨[97+c].toArray⟩)=Ls z++ [97+c]:=fv _ _;have l2:(z++(⟨[97+c].toArray⟩:Str)).length=z.length+1:=by rw[<-rP,e,cH,rP];rfl
  obtain⟨z',s',q1,q2,q3⟩:=J9 ks (z++⟨[97+c].toArray⟩) (.val (bF (0+(k:bG)))) (λk h=>hk k (gI _ h)) (by unfold sP at h|-;show(Ls (z++⟨[97+c].toArray⟩)).all _=bC;rw[e,L0,show(Ls z).all _=bC from h];simp only[lS,Mu,qA,aA,DV];simp;lia) (by lia);exact⟨z',s',by rw[dY];infer_instance,q2,by rw[q3,l2,dC];lia⟩
theorem WN(nb:bG):∃z,sP z=bC/\z.length<=6/\ ∀{P:bD->CT} [Fu P] (n:bD),Ok (P (n+3) .q62 [bF nb]) (bE z):=by
 obtain⟨k,hk⟩:=ge (wY nb (by decide:(7:bG)≠0));have hk2:k<7:=by have:=ao nb (by decide:(0:bG)<7);lia
 obtain⟨z,s',q1,q2,q3⟩:=J9 (nb:=nb) (kL k) "" .no (λj hj=>by have:=wZ.mp hj;lia) (by decide+kernel) (by rw[vV];show 0+_<=_;lia);rw[vV]at q3;have q3:z.length=0+k:=q3;refine⟨z,q2,by lia,λ{P} _ n=>?_⟩;have i1:Ok (gv 0 #[bF nb,bE yN,bE "",()]) (bF nb):=inferInstance;have i2:Ok (kG (m2 dS @0 .(7)) #[bF nb,bE yN,bE "",()]) (_root_.R.upTo 0 k):=by
  have:Ok (m2 dS @0 .(7) #[bF nb,bE yN,bE "",()]) (bF k):=by rw[<-hk];infer_instance
  exact oT (by lia)
 replace q1:Ok (gD 3 J8 (_root_.R.upTo 0 k) #[bF nb,bE yN,bE "",()]) (.nx [.val (bF nb),.val (bE yN),.val (bE z),s']):=q1;refine fJ (g:=Cj (P (n+2)) (P n)) (O:= #[bF nb,(),(),()]) bO (q:=?_);unfold Cj
 infer_instance
instance:Ok (aZ (bE w) bK (bB 5)) (bE (nB w bK (bB 5))):=⟨rfl⟩
class Sd(P:bD->CT)(st:bG)(z:sT Str):Prop where
 e:∀(n i k:bD),i<26->k<26->Ok (P (n+4) .q68 [bF st,bF i,bF k]) (bE (sd z i k))
theorem WO(nb:bG):∃z,sP z=bC/\z.length<=5/\ ∀{P:bD->CT} [Fu P],Sd P nb z:=by
 obtain⟨z,h1,h2,h3⟩:=WN nb;have e:Ls (nB z bK (bB 5))=(Ls z).take 5:=by unfold nB qM;show((Ls z).drop (HT.sIx _ 0 bK)).take _=_;rw[HT.sIx_none,show(5:bG)=((5:bD):bG)from bO,HT.sIx_nat];simp[List.take_eq_take_iff]
 refine⟨nB z bK (bB 5),?_,by rw[<-rP,e,gk];lia,λ{P} _=>⟨λn i k hi hk=>?_⟩⟩
 .unfold sP at h1|-;show(Ls _).all _=bC;rw[e];exact qR.mpr λx hx=>qR.mp h1 x (List.mem_of_mem_take hx)
 .have l0:(nB z bK (bB 5)).length<=5:=by rw[<-rP,e,gk];lia
  have a1:=C1 hi;have a2:=C1 hk;have a3:=h3 (P:=P) (n+0);have l1:∀c:bD,(⟨[c].toArray⟩:Str).length=1:=λ_=>rfl
  have la:∀a b:Str,(a++b).length=a.length+b.length:=λa b=>by rw[<-rP,fv,cH,rP,rP]
  have s1:Sz ((nB z bK (bB 5)).length+(⟨[97+i].toArray⟩:Str).length):=kC (by rw[l1];lia);have s2:Sz ((nB z bK (bB 5)++⟨[97+i].toArray⟩).length+(⟨[97+k].toArray⟩:Str).length):=kC (by rw[la,l1,l1];lia);have s3:Sz ((nB z bK (bB 5)++⟨[97+i].toArray⟩++⟨[97+k].toArray⟩).length+("z" :Str).length):=kC (by rw[la,la,l1,l1,show("z" :Str).length=1 from by decide+kernel];lia);rw[show sd (nB z bK (bB 5)) i k=nB z bK (bB 5)++⟨[97+i].toArray⟩++⟨[97+k].toArray⟩++ "z" from Jq (by rw[vo,fv,fv,fv,show Ls "z" = [122]from by decide+kernel,show Ls ⟨[97+i].toArray⟩= [97+i]from bO,show Ls ⟨[97+k].toArray⟩= [97+k]from bO];simp)];refine fJ (n:=n+1) (g:=Cq (P (n+3)) (P (n+1))) (O:= #[bF nb,bF i,bF k,()]) bO (q:=?_);unfold Cq
  infer_instance
end
section
variable{z:Str}{i j k n:bD}{nb:bG}{ns:bA bG}{O:cS}{d:D}{f:ME}{fs:bA (bQ Fc)}
theorem Ka{α:Type}{g:ME}{rest:cS}{dat val:α->D}:∀{xs:bA α},(∀x∈xs,Ok (g (.val (dat x)::rest)) (val x))->Ok (hX (λ_=>.ok bC) g rest (xs.map dat)) (xs.map val)| [],_=>⟨rfl⟩|x::xs,h=>⟨by rw[dY,hX];show bP.bind (g (.val (dat x)::rest)) _=_;rw[(h x fW).e];show bP.bind (hX _ _ _ (xs.map dat)) _=_;rw[(Ka λy hy=>h y (gI _ hy)).e];rfl⟩
theorem o4{js:bA bD}{g:ME}{v:bD->D} [q:Ok (f O) (bF k)](hk:k<=1000000)(h:∀j:bD,j<k->Ok (g (.val (bF j)::lL js O)) (v j)):Ok (gO js (kG f) (λ_=>.ok bC) g O) (.l ((kL k).map v)):=by
 have:=oT (f:=f) (O:=O) (n:=k) hk;refine bv (xs:=_root_.R.upTo 0 k) (by rw[bz];exact hk) ?_;exact Ka (dat:=λj:bD=>bF (0+(j:bG))) λj hj=>by
  have:=h j (wZ.mp hj)
  rwa [<-D4 (j:bG)]at this
theorem f7{v:bG}(m:bD)(hm:0<m):∃k:bD,v%(m:bG)=k/\k<m:=by obtain⟨k,hk⟩:=ge (wY v (by lia:(m:bG)≠0));exact⟨k,hk,by have:=ao v (by lia:(0:bG)<m);lia⟩
theorem o5{g:bD->Str}{a:bD}(h:∀x y,x<a->y<a->g x=g y->x=y):((kL a).map g).Nodup:=by rw[v5,LG];have:=List.nodup_range (n:=a);rw[v5]at this;exact KY (λ{x y} hx hy hxy e=>hxy (h x y (wZ.mp hx) (wZ.mp hy) e)) this
abbrev sQ(z:Str)(i a b:bD)(x:Str):Prop:=∃k,a<=k/\k<b/\x=sd z i k
structure yO(z:Str)(i:bD)(g:Fc):Prop where
 ok:g.ok
 n:g.nm=sd z i 25
 w:∀x∈g.ws,sQ z i 0 4 x
 d:∀p∈g.ds,sQ z i 10 13 p.1/\p.2<=3
 lw:g.ws.length<=3
 ld:g.ds.length<=2
structure wV(z:Str):Prop where
 l:sP z=bC
 n:z.length<=5
theorem wV.nm(h:wV z)(hi:i<26)(hk:k<26):Nm (sd z i k):=WM h.l h.n hi hk
theorem WP(Za:wV z)(S:Sd P (kR ns 0) z)(hi:i<8):∃f:bQ Fc,Ok (P (n+5) .q69 [.l (ns.map bF),bF i]) (oF f)/\ ∀g,f=bB g->yO z i g:=by
 have go:∀d,Ok (Cr (P (n+4)) (P (n+2)) #[.l (ns.map bF),bF i,(),(),(),()]) (.rt d)->Ok (P (n+2+3) .q69 [.l (ns.map bF),bF i]) d:=λd q=>fJ (q:=q) rfl
 unfold Cr at go;have i0:Ok (P (n+4) .q60 [.l (ns.map bF),bF 0]) (bF (kR ns 0)):=mix_is (j:=0);have i1:Ok (P (n+4) .q60 [.l (ns.map bF),bF (1+(i:bG))]) (bF (kR ns (1+i))):=mix_is (j:=1+i);generalize kR ns (1+i)=m at i1;by_cases h5:m%6=5
 .have:=rQ h5;exact⟨bK,go _ inferInstance,λg h=>by cases h⟩
 have:=tM h5;obtain⟨a,ha,ha4⟩:=f7 (v:=m) 4 (by decide);obtain⟨b,hb,hb3⟩:=f7 (v:=m/6) 3 (by decide);have q1:Ok (m2 dS @3 .(4) #[.l (ns.map bF),bF i,bF (kR ns 0),bF m,(),()]) (bF a):=by rw[<-ha];infer_instance
 have j1:=o4 (js:=[2,1]) (f:=m2 dS @3 .(4)) (g:=mA (P (n+4) .q68) {@1,@2,@0}) (O:= #[.l (ns.map bF),bF i,bF (kR ns 0),bF m,(),()]) (k:=a) (v:=λj=>bE (sd z i j)) (by lia) λj hj=>by have:=S.e n i j (by lia) (by lia);exact(inferInstance:Ok (mA (P (n+4) .q68) {@1,@2,@0} #[bF j,bF (kR ns 0),bF i]) _)
 have q2:Ok (m2 dS (m2 jC @3 .(6)) .(3) #[.l (ns.map bF),bF i,bF (kR ns 0),bF m,.l ((kL a).map λj=>bE (sd z i j)),()]) (bF b):=by rw[<-hb];infer_instance
 have j2:=o4 (js:=[2,1,3]) (f:=m2 dS (m2 jC @3 .(6)) .(3)) (g:=mA cP {(mA (P (n+4) .q68) {@1,@2,(m2 bZ .(10) @0)}),(m2 dS (mA (P (n+4) .q61) {@3,@0}) .(4))}) (O:= #[.l (ns.map bF),bF i,bF (kR ns 0),bF m,.l ((kL a).map λj=>bE (sd z i j)),()]) (k:=b) (v:=λj=>dP (sd z i (10+j),(gW m j%4).toNat)) (by lia) λj hj=>by have t1:Ok (P (n+4) .q68 [bF (kR ns 0),bF i,bF (10+(j:bG))]) (bE (sd z i (10+j))):=S.e n i (10+j) (by lia) (by lia);show Ok _ (D.t [bE (sd z i (10+j)),bF ((gW m j%4).toNat:bG)]);rw[DB (wY _ (by decide))];exact(inferInstance:Ok (mA cP {(mA (P (n+4) .q68) {@1,@2,(m2 bZ .(10) @0)}),(m2 dS (mA (P (n+4) .q61) {@3,@0}) .(4))} #[bF j,bF (kR ns 0),bF i,bF m]) _)
 have t25:Ok (P (n+4) .q68 [bF (kR ns 0),bF i,bF 25]) (bE (sd z i 25)):=S.e n i 25 (by lia) (by lia);let g:Fc:=⟨sd z i 25,(kL a).map (sd z i),(kL b).map λj=>(sd z i (10+j),(gW m j%4).toNat)⟩;refine⟨bB g,?_,λg' h=>?_⟩
 .have e:oF (bB g)= .t [bE (sd z i 25),.t ((kL a).map λj=>bE (sd z i j)),.t ((kL b).map λj=>dP (sd z i (10+j),(gW m j%4).toNat))]:=by
   show D.t [_,.t (((kL a).map (sd z i)).map bE),.t (((kL b).map _).map dP)]=_;rw[mS,mS];rfl
  rw[e];exact go _ inferInstance
 .cases h;have w1:∀x∈g.ws,sQ z i 0 4 x:=λx hx=>by obtain⟨j,hj,rfl⟩:=jA.mp hx;exact⟨j,by lia,by have:=wZ.mp hj;lia,rfl⟩
  have d1:∀p∈g.ds,sQ z i 10 13 p.1/\p.2<=3:=λp hp=>by obtain⟨j,hj,rfl⟩:=jA.mp hp;have:=wZ.mp hj;exact⟨⟨10+j,by lia,by lia,rfl⟩,by show(gW m j%4).toNat<=3;lia⟩
  have lw:g.ws.length<=3:=by show((kL a).map _).length<=3;rw[cG,vV];lia
  have ld:g.ds.length<=2:=by show((kL b).map _).length<=2;rw[cG,vV];lia
  refine⟨⟨Za.nm (by lia) (by decide),λx hx=>?_,λp hp=>?_,?_,by lia,by lia⟩,rfl,w1,d1,lw,ld⟩
  .obtain⟨k,_,_,rfl⟩:=w1 x hx;exact Za.nm (by lia) (by lia)
  .obtain⟨⟨k,_,_,e⟩,l⟩:=d1 p hp;rw[e];exact⟨Za.nm (by lia) (by lia),by lia⟩
  .refine pC.mpr ⟨o5 λx y _ _ e=>(nM e).2,?_,λx hx y hy e=>?_⟩
   .rw[show g.ds.map (·.1)=(kL b).map λj=>sd z i (10+j)from by show((kL b).map _).map _=_;rw[mS];rfl];exact o5 λx y _ _ e=>by have:=(nM e).2;lia
   .obtain⟨k,_,k1,e1⟩:=w1 x hx;obtain⟨p,hp,rfl⟩:=jA.mp hy;obtain⟨⟨k',k2,_,e2⟩,_⟩:=d1 p hp;rw[e1,e2]at e;have:=(nM e).2
    lia
end
section
variable{z nm:Str}{i j k n:bD}{nb:bG}{ns:bA bG}{O:cS}{d:D}{fs:bA (bQ Fc)}{g:Fc}{tk:bA (Str×Str)}{t:Str×Str}
theorem Kb:∀ds:bA (Str×bD),Ok (hX (kI (λ_=>.ok bC)) (kI @0) [] (ds.map dP)) ((ds.map (·.1)).map bE)| []=>⟨rfl⟩|p::ds=>⟨by rw[dY,hX];show bP.bind (hX _ _ _ (ds.map dP)) _=_;rw[(Kb ds).e];rfl⟩
theorem WQ{a b:Str×Str}:jO (p2 a) (p2 b)=(a==b):=by have:(a==b)=(a.1==b.1&&a.2==b.2):=rfl;rw[this];simp[jO,eqL]
theorem Kc:∀tk:bA (Str×Str),zP (p2 t) (tk.map p2)=tk.any (· ==t)| []=>rfl|a::tk=>by show(jO (p2 a) (p2 t)||zP (p2 t) (tk.map p2))=_;rw[Kc tk,WQ,az]
theorem C2:∀tk:bA (Str×Str),depL (tk.map p2)<=1
 | []=>by simp[depL]|a::tk=>by
  have:=C2 tk;rw[dY,depL];have:gT (p2 a)=1:=by simp[gT,depL]
  lia
theorem Kd{b:bU}(h:tk.any (· ==t)= !b):Ok (dU bC (p2 t) (.l (tk.map p2))) (.b b):=⟨by unfold dU;dsimp only;rw[cK ⟨by have:=C2 tk;lia,by simp[gT,depL]⟩,Kc,h];simp⟩
def Tk(fs:bA (bQ Fc))(nm:Str)(t:Str×Str):Prop:=∃g,bB g∈fs/\g.nm=t.1/\g.nm≠nm/\t.2∈g.ws++g.ds.map (·.1)
abbrev fL(fs:bA (bQ Fc)):D:=.l (fs.map oF)
abbrev vp(C:CT):MS:=bL (cR 5 (m2 cV @0 (m2 dS (mA (C .q61) {@2,@4}) (mA fS {@0})))) (bY (gZ 3 (mZ (mB (m2 (jQ bC) @5 (kc .n))) (mB (m2 kH (5^^^0) @1)))) (bL (cR 6 (m2 bZ (mA sD {5^^^1}) (gO [] (fA (5^^^2)) (kI (λ_=>.ok bC)) (kI @0)))) (bY (gZ 3 (mB (m2 nV (mA fS {@6}) .(0)))) (bL (cR 7 (mA cP {5^^^0,(m2 cV @6 (m2 dS (m2 jC (mA (C .q61) {@2,@4}) .(7)) (mA fS {@6})))})) (bY (gZ 3 (mB (m2 (dU bC) @7 @3))) (tB 3 @7) (cE))) (cE))) (cE))
theorem WR(hf:0<fs.length)(hg:∀g,some g∈fs->g.ok)(hl:tk.length<=100)(hn:tk.Nodup)(ht:∀t∈tk,Tk fs nm t)(s5 s6 s7:Slot):∃(tk':bA (Str×Str)) (s5' s6' s7':Slot),Ok (vp (P (n+3)) [.val (fL fs),.val (bE nm),.val (bF nb),.own (tk.map p2),.val (bF k),s5,s6,s7]) (.nx [.val (fL fs),.val (bE nm),.val (bF nb),.own (tk'.map p2),.val (bF k),s5',s6',s7'])/\tk'.Nodup/\(∀t∈tk',Tk fs nm t)/\tk'.length<=tk.length+1:=by
 have p1:Pm ((fs.map oF).length:bG):=⟨by rw[cG];lia⟩;obtain⟨f,hm,q1⟩:=ah (g:=oF) hf (gW nb k);cases f with
 |none=>replace q1:Ok (cV (fL fs) (bF (gW nb k%((fs.map oF).length:bG)))) .n:=q1;exact⟨tk,_,_,_,inferInstance,hn,ht,by lia⟩|some g=>
  have G:=hg g hm;have lw:=G.lw;have ld:=G.ld;replace q1:Ok (cV (fL fs) (bF (gW nb k%((fs.map oF).length:bG)))) (.t [bE g.nm,.t (g.ws.map bE),.t (g.ds.map dP)]):=q1;by_cases h1:g.nm=nm
  .have:Bq g.nm nm true:=⟨qW.mpr h1⟩;exact⟨tk,_,_,_,inferInstance,hn,ht,by lia⟩
  have b1:Bq g.nm nm false:=⟨lE.mpr h1⟩;have c1:∀(O:cS) [hG O 5 (.val (.t [bE g.nm,.t (g.ws.map bE),.t (g.ds.map dP)]))],Ok (gO [] (fA (5^^^2)) (kI (λ_=>.ok true)) (kI @0) O) (.l ((g.ds.map (·.1)).map bE)):=λO _=>bv (xs:=g.ds.map dP) (by rw[cG];lia) (Kb g.ds)
  have c2:Ok (bZ (.l (g.ws.map bE)) (.l ((g.ds.map (·.1)).map bE))) (.l ((g.ws++g.ds.map (·.1)).map bE)):=pM bO bO (by rw[cH,cG];lia);by_cases h2:0<(g.ws++g.ds.map (·.1)).length
  .have b2:jI 0 (((g.ws++g.ds.map (·.1)).map bE).length:bG) true:=ai (by rw[cG];lia);have p2':Pm (((g.ws++g.ds.map (·.1)).map bE).length:bG):=⟨by rw[cG];lia⟩;obtain⟨x,hx,q2⟩:=ah (g:=bE) h2 (gW nb k/7);have hT:Tk fs nm (g.nm,x):=⟨g,hm,rfl,h1,hx⟩;cases h3:tk.any (· ==(g.nm,x))with
   |true=>have i3:Ok (dU true (.t [bE g.nm,bE x]) (.l (tk.map p2))) (.b false):=Kd (t:=(g.nm,x)) h3;exact⟨tk,_,_,_,inferInstance,hn,ht,by lia⟩|false=>
    have i3:Ok (dU true (.t [bE g.nm,bE x]) (.l (tk.map p2))) (.b true):=Kd (t:=(g.nm,x)) h3;have sz:Sz ((tk.map p2).length+1):=kC (by rw[cG];lia);have i4:=(inferInstance:Ok (vp (P (n+3)) [.val (fL fs),.val (bE nm),.val (bF nb),.own (tk.map p2),.val (bF k),s5,s6,s7]) _);refine⟨tk++ [(g.nm,x)],_,_,_,by rw[lR];exact i4,?_,?_,by rw[cH];exact cZ _⟩
    .refine pC.mpr ⟨hn,by simp,λa ha b hb e=>?_⟩;rw[tP.mp hb]at e;have:=LA.mp h3 a ha;rw[e]at this;simp at this
    .intro t h;rcases jR.mp h with h|h
     .exact ht t h
     .rw[tP.mp h];exact hT
  .have b2:jI 0 (((g.ws++g.ds.map (·.1)).map bE).length:bG) false:=aj (by rw[cG];lia);exact⟨tk,_,_,_,inferInstance,hn,ht,by lia⟩
theorem WS(hf:0<fs.length)(hg:∀g,bB g∈fs->g.ok):∃tk:bA (Str×Str),Ok (P (n+4) .q70 [fL fs,bE nm,bF nb]) (.l (tk.map p2))/\tk.Nodup/\(∀t∈tk,Tk fs nm t)/\tk.length<=6:=by
 obtain⟨m,hm,hm7⟩:=f7 (v:=nb) 7 (by decide);have loop:∀(ks:bA bD) (tk:bA (Str×Str)) (s4 s5 s6 s7:Slot),tk.length+ks.length<=6->tk.Nodup->(∀t∈tk,Tk fs nm t)->∃(tk':bA (Str×Str)) (s4' s5' s6' s7':Slot),Ok (gD 4 (vp (P (n+3))) (ks.map λk:bD=>bF (0+(k:bG))) [.val (fL fs),.val (bE nm),.val (bF nb),.own (tk.map p2),s4,s5,s6,s7]) (.nx [.val (fL fs),.val (bE nm),.val (bF nb),.own (tk'.map p2),s4',s5',s6',s7'])/\tk'.Nodup/\(∀t∈tk',Tk fs nm t)/\tk'.length<=6:=by
  intro ks;induction ks with
  |nil=>exact λtk s4 s5 s6 s7 hl hn ht=>⟨tk,s4,s5,s6,s7,by rw[vY];infer_instance,hn,ht,by simpa using hl⟩|cons k ks ih=>intro tk s4 s5 s6 s7 hl hn ht;rw[dC]at hl;obtain⟨tk1,a5,a6,a7,q1,n1,t1,l1⟩:=WR (P:=P) (n:=n) (nb:=nb) (k:=k) hf hg (by lia) hn ht s5 s6 s7;obtain⟨tk2,b4,b5,b6,b7,q2,n2,t2,l2⟩:=ih tk1 (.val (bF k)) a5 a6 a7 (by lia) n1 t1;exact⟨tk2,b4,b5,b6,b7,by rw[dY,D4];infer_instance,n2,t2,l2⟩
 obtain⟨tk,s4,s5,s6,s7,q,h1,h2,h3⟩:=loop (kL m) [] .no .no .no .no (by rw[vV];show 0+_<=_;lia) xa (λt h=>by cases h);refine⟨tk,?_,h1,h2,h3⟩;replace q:Ok (gD 4 (vp (P (n+3))) (_root_.R.upTo 0 m) [.val (fL fs),.val (bE nm),.val (bF nb),.own [],.no,.no,.no,.no]) _:=q;have i2:Ok (kG (m2 dS @2 .(7)) [.val (fL fs),.val (bE nm),.val (bF nb),.own [],.no,.no,.no,.no]) (_root_.R.upTo 0 m):=by
  have:Ok (m2 dS @2 .(7) [.val (fL fs),.val (bE nm),.val (bF nb),.own [],.no,.no,.no,.no]) (bF m):=by rw[<-hm];infer_instance
  exact oT (by lia)
 refine fJ (n:=n+1) (g:=Cs (P (n+3)) (P (n+1))) (O:= #[fL fs,bE nm,bF nb,(),(),(),(),()]) bO (q:=?_);unfold Cs
 infer_instance
end
section
variable{z nm:Str}{n:bD}{O:cS}{fs:bA (bQ Fc)}{g:Fc}{tk:bA (Str×Str)}{t:Str×Str}{W:bA Str}{E:bA (Str×bD)}
theorem C3{α:Type}{dat:α->D}{p:MT}{rest:cS}{b:α->bU}:∀{xs:bA α},(∀x∈xs,Ok (p (.val (dat x)::rest)) (b x))->Ok (hX p @0 rest (xs.map dat)) ((xs.filter b).map dat)
 | [],_=>⟨rfl⟩
 |x::xs,h=>⟨by
  have ih:=(C3 λy hy=>h y (gI _ hy)).e;rw[dY,hX,(h x fW).e,pQ];cases b x with
  |true=>show bP.bind (hX _ _ _ (xs.map dat)) _=_;rw[ih];rfl
  |false=>exact ih⟩
abbrev eL(E:bA (Str×bD)):D:=.l (E.map dP)
def Wt(fs:bA (bQ Fc))(t:Str×Str)(x:Str):Prop:=x=t.2/\ ∃g,bB g∈fs/\g.nm=t.1/\x∈g.ws
def Et(fs:bA (bQ Fc))(t:Str×Str)(p:Str×bD):Prop:=p.1=t.2/\ ∃g,bB g∈fs/\g.nm=t.1/\p∈g.ds
abbrev f8:MS:=bY (mZ (mB (m2 (jQ bC) @6 (kc .n))) (mB (m2 cY (6^^^0) @4))) (bL (cR 2 (m2 bZ @2 (gO [5] (fA (6^^^1)) (mB (m2 cY @0 @1)) @0))) (cR 3 (m2 bZ @3 (gO [5] (fA (6^^^2)) (mB (m2 cY (0^^^0) @1)) @0)))) (cE)
theorem vq{F T:Slot}(hg:∀g,some g∈fs->g.ok):∀(gs:bA (bQ Fc)) (W:bA Str) (E:bA (Str×bD)) (s6:Slot),(∀f∈gs,f∈fs)->W.length+6*gs.length<=1000->E.length+6*gs.length<=1000->
 ∃(W':bA Str) (E':bA (Str×bD)) (s6':Slot),Ok (gD 6 f8 (gs.map oF) [F,T,.val (pL W),.val (eL E),.val (bE t.1),.val (bE t.2),s6]) (.nx [F,T,.val (pL W'),.val (eL E'),.val (bE t.1),.val (bE t.2),s6'])/\(∀x∈W',x∈W\/Wt fs t x)/\(∀p∈E',p∈E\/Et fs t p)/\W'.length<=W.length+6*gs.length/\E'.length<=E.length+6*gs.length
 | [],W,E,s6,_,_,_=>⟨W,E,s6,by rw[vY];infer_instance,λx h=>.inl h,λp h=>.inl h,by lia,by lia⟩|f::gs,W,E,s6,hm,l1,l2=>by
  rw[dC]at l1 l2|-;have hm':∀f∈gs,f∈fs:=λf h=>hm f (gI _ h)
  cases f with
  |none=>obtain⟨W',E',s',q,h1,h2,h3,h4⟩:=vq (F:=F) (T:=T) hg gs W E (.val .n) hm' (by lia) (by lia);exact⟨W',E',s',(inferInstance:Ok (gD 6 f8 (.n::gs.map oF) _) _),h1,h2,by lia,by lia⟩|some g=>
   have hin:some g∈fs:=hm _ fW;have G:=hg g hin;have lw:=G.lw;have ld:=G.ld;by_cases h0:g.nm=t.1
   .have b0:Bq g.nm t.1 bC:=⟨qW.mpr h0⟩;have f1:=we (λx=>x==t.2) g.ws;have f2:=we (λp:Str×bD=>p.1==t.2) g.ds;obtain⟨W',E',s',q,h1,h2,h3,h4⟩:=vq (F:=F) (T:=T) hg gs (W++g.ws.filter λx=>x==t.2) (E++g.ds.filter λp=>p.1==t.2) (.val (.t [bE g.nm,.t (g.ws.map bE),.t (g.ds.map dP)])) hm' (by rw[cH];lia) (by rw[cH];lia);rw[cH]at h3 h4;have c1:Ok (gO [5] (fA (6^^^1)) (mB (m2 cY @0 @1)) @0 [F,T,.val (pL W),.val (eL E),.val (bE t.1),.val (bE t.2),.val (.t [bE g.nm,.t (g.ws.map bE),.t (g.ds.map dP)])]) (.l ((g.ws.filter λx=>x==t.2).map bE)):=bv (xs:=g.ws.map bE) (by rw[cG];lia) (C3 (dat:=bE) (b:=λx=>x==t.2) λx _=>by have:Bq x t.2 (x==t.2):=⟨rfl⟩;exact(inferInstance:Ok (mB (m2 cY @0 @1) #[bE x,bE t.2]) _));have c2:Ok (gO [5] (fA (6^^^2)) (mB (m2 cY (0^^^0) @1)) @0 [F,T,.val (pL (W++g.ws.filter λx=>x==t.2)),.val (eL E),.val (bE t.1),.val (bE t.2),.val (.t [bE g.nm,.t (g.ws.map bE),.t (g.ds.map dP)])]) (.l ((g.ds.filter λp=>p.1==t.2).map dP)):=bv (xs:=g.ds.map dP) (by rw[cG];lia) (C3 (dat:=dP) (b:=λp=>p.1==t.2) λx _=>by have:Bq x.1 t.2 (x.1==t.2):=⟨rfl⟩;exact(inferInstance:Ok (mB (m2 cY (0^^^0) @1) #[dP x,bE t.2]) _));have c3:Ok (bZ (pL W) (.l ((g.ws.filter λx=>x==t.2).map bE))) (pL (W++g.ws.filter λx=>x==t.2)):=pM bO bO (by rw[cH];lia);have c4:Ok (bZ (eL E) (.l ((g.ds.filter λp=>p.1==t.2).map dP))) (eL (E++g.ds.filter λp=>p.1==t.2)):=⟨by show(if _ then _ else _)=_;rw[cK (qQ (by rw[cG,cG];lia)), <-lR]⟩;refine⟨W',E',s',(inferInstance:Ok (gD 6 f8 (.t [bE g.nm,.t (g.ws.map bE),.t (g.ds.map dP)]::gs.map oF) _) _),λx h=>?_,λp h=>?_,by lia,by lia⟩
    .rcases h1 x h with h|h
     .rcases jR.mp h with h|h
      .exact .inl h
      .have:=pw.mp h;exact .inr ⟨dW this.2,g,hin,h0,this.1⟩
     .exact .inr h
    .rcases h2 p h with h|h
     .rcases jR.mp h with h|h
      .exact .inl h
      .have:=pw.mp h;exact .inr ⟨dW this.2,g,hin,h0,this.1⟩
     .exact .inr h
   .have b0:Bq g.nm t.1 bH:=⟨lE.mpr h0⟩;obtain⟨W',E',s',q,h1,h2,h3,h4⟩:=vq (F:=F) (T:=T) hg gs W E (.val (.t [bE g.nm,.t (g.ws.map bE),.t (g.ds.map dP)])) hm' (by lia) (by lia);exact⟨W',E',s',(inferInstance:Ok (gD 6 f8 (.t [bE g.nm,.t (g.ws.map bE),.t (g.ds.map dP)]::gs.map oF) _) _),h1,h2,by lia,by lia⟩
theorem Ke{T:Slot}(hg:∀g,bB g∈fs->g.ok)(h8:fs.length<=8):∀(tk:bA (Str×Str)) (W:bA Str) (E:bA (Str×bD)) (a b e:Slot),W.length+48*tk.length<=900->E.length+48*tk.length<=900->
 ∃(W':bA Str) (E':bA (Str×bD)) (a' b' e':Slot),Ok (jK 4 5 (jP 6 (fA @0) f8) (tk.map p2) [.val (fL fs),T,.val (pL W),.val (eL E),a,b,e]) (.nx [.val (fL fs),T,.val (pL W'),.val (eL E'),a',b',e'])/\(∀x∈W',x∈W\/ ∃t∈tk,Wt fs t x)/\(∀p∈E',p∈E\/ ∃t∈tk,Et fs t p)/\W'.length<=W.length+48*tk.length/\E'.length<=E.length+48*tk.length
 | [],W,E,a,b,e,_,_=>⟨W,E,a,b,e,by rw[vY];infer_instance,λx h=>.inl h,λp h=>.inl h,by lia,by lia⟩|t::tk,W,E,a,b,e,l1,l2=>by
  rw[dC]at l1 l2|-;obtain⟨W1,E1,s6,q1,h1,h2,h3,h4⟩:=vq (t:=t) (F:=.val (fL fs)) (T:=T) hg fs W E e (λ_ h=>h) (by lia) (by lia);obtain⟨W2,E2,a',b',e',q2,k1,k2,k3,k4⟩:=Ke (T:=T) hg h8 tk W1 E1 (.val (bE t.1)) (.val (bE t.2)) s6 (by lia) (by lia);refine⟨W2,E2,a',b',e',(inferInstance:Ok (jK 4 5 (jP 6 (fA @0) f8) (.t [bE t.1,bE t.2]::tk.map p2) _) _),λx h=>?_,λp h=>?_,by lia,by lia⟩
  .rcases k1 x h with h|⟨s,hs,h⟩
   .rcases h1 x h with h|h
    .exact .inl h
    .exact .inr ⟨t,fW,h⟩
   .exact .inr ⟨s,gI _ hs,h⟩
  .rcases k2 p h with h|⟨s,hs,h⟩
   .rcases h2 p h with h|h
    .exact .inl h
    .exact .inr ⟨t,fW,h⟩
   .exact .inr ⟨s,gI _ hs,h⟩
theorem WT(hg:∀g,bB g∈fs->g.ok)(h8:fs.length<=8)(h6:tk.length<=6):∃(W:bA Str) (E:bA (Str×bD)),Ok (P (n+3) .q71 [fL fs,.l (tk.map p2)]) (.t [pL W,eL E])/\(∀x∈W,∃t∈tk,Wt fs t x)/\(∀p∈E,∃t∈tk,Et fs t p)/\W.length<=300/\E.length<=300:=by
 obtain⟨W,E,a,b,e,q,h1,h2,h3,h4⟩:=Ke (T:=.val (.l (tk.map p2))) hg h8 tk [] [] .no .no .no (by show 0+_<=_;lia) (by show 0+_<=_;lia);replace q:Ok (jK 4 5 (jP 6 (fA @0) f8) (tk.map p2) #[fL fs,.l (tk.map p2),.l [],.l [],(),(),()]) _:=q;replace h3:W.length<=0+48*tk.length:=h3;replace h4:E.length<=0+48*tk.length:=h4;refine⟨W,E,?_,λx h=>(h1 x h).elim (λh=>by cases h) id,λp h=>(h2 p h).elim (λh=>by cases h) id,by lia,by lia⟩;refine fJ (g:=Ct (P (n+2)) (P n)) (O:= #[fL fs,.l (tk.map p2),(),(),(),(),()]) bO (q:=?_);unfold Ct
 infer_instance
end
section
variable{z:Str}{i k n:bD}{m st:bG}{ns:bA bG}{fs:bA (bQ Fc)}{c:Cn}{p:Str×bD}{x:D}{l:bA Str}{u:bA D}{hs:bA (Str×bD)}
theorem Kf:∀ds:bA (Str×bD),Ok (hX (kI (mB (m2 cY @1 .(0)))) (kI @0) [] (ds.map dP)) (((ds.filter λp=>p.2==0).map (·.1)).map bE)
 | []=>⟨rfl⟩
 |p::ds=>⟨by
  have ih:=(Kf ds).e;rw[dY,hX];have e:kI (mB (m2 cY @1 .(0))) #[dP p]= .ok (p.2==0):=by have:Iq (p.2:bG) 0 (p.2==0):=⟨by cases h:p.2 with|zero=>rfl|succ k=>rw[show((k+1==0)=false)from bO];exact lE.mpr (by lia)⟩;exact(inferInstance:Ok (mB (m2 cY @1 .(0)) #[bE p.1,bF p.2]) _).e
  rw[e,pQ];cases p.2==0 with
  |true=>show bP.bind (hX _ _ _ (ds.map dP)) _=_;rw[ih];rfl
  |false=>exact ih⟩
noncomputable def ak(c:Cn):bA Str:=(c.ds.filter λp=>p.2==0).map (·.1)
theorem Kg:∀y∈ak c,(y,0)∈c.ds:=λy h=>by obtain⟨p,hp,rfl⟩:=jA.mp h;have:=pw.mp hp;rw[<-dW this.2];exact this.1
theorem Kh{O:cS} [g:hG O 9 (.val (dL c))](hl:c.ds.length<=1000):Ok (gO [] (fA @9) (kI (mB (m2 cY @1 .(0)))) (kI @0) O) (pL (ak c)):=bv (xs:=c.ds.map dP) (by rw[cG];lia) (Kf c.ds)
abbrev o6(C:CT):MS:=bL (qL 15 [4,2] (kG (14^^^1)) (λ_=>.ok bC) (mA (C .q68) {@1,@2,(m2 bZ .(16) @0)})) (bL (cR 16 (gO [] (fA @9) (kI (mB (m2 cY @1 .(0)))) (kI @0))) (bL (cR 17 (mA (C .q67) {(mA (C .q61) {@5,(m2 bZ .(20) @13)}),(m2 bZ .(1) (m2 dS @5 .(4))),(m2 bZ @8 @15),@9,@16,.(2)})) (tB 12 (mA cP {14^^^0,(mA lK {@15}),(mA cP (fP)),@17}))))
abbrev mR(s0 s1:Slot)(i:bD)(s3:Slot)(st m:bG)(s6 s7:Slot)(c:Cn)(s10 lP:Slot)(acc:bA D)(s13 s14 s15 rN s17:Slot):cS:=[s0,s1,.val (bF i),s3,.val (bF st),.val (bF m),s6,s7,.val (nL c),.val (dL c),s10,lP,.own acc,s13,s14,s15,rN,s17]
theorem WU(Za:wV z)(S:Sd P st z)(hc:c.ok)(hw:0<c.ws.length)(lw:c.ws.length<=500)(ld:c.ds.length<=500)(hi:i<8)(hk:∀k,16<=k->k<19->sd z i k∉c.ks)(hp:Nm p.1/\p.2<=3){acc:bA D}(ha:acc.length<=100)(s0 s1 s3 s6 s7 s10 lP s15 rN s17:Slot):
 ∃x s15' s16' s17',Ok (o6 (P (n+13)) (mR s0 s1 i s3 st m s6 s7 c s10 lP acc (.val (bF k)) (.val (dP p)) s15 rN s17)) (.nx (mR s0 s1 i s3 st m s6 s7 c s10 lP (acc++ [x]) (.val (bF k)) (.val (dP p)) s15' s16' s17'))/\ ∃l,FD c x l [dP p]:=by
 have i1:=o4 (js:=[4,2]) (f:=m2 cV @14 .(1)) (g:=mA (P (n+13) .q68) {@1,@2,(m2 bZ .(16) @0)}) (O:=mR s0 s1 i s3 st m s6 s7 c s10 lP acc (.val (bF k)) (.val (dP p)) s15 rN s17) (k:=p.2) (v:=λj=>bE (sd z i (16+j))) (by lia) λj hj=>by have:Ok (P (n+13) .q68 [bF st,bF i,bF (16+(j:bG))]) (bE (sd z i (16+j))):=S.e (n+9) i (16+j) (by lia) (by lia);exact(inferInstance:Ok (mA (P (n+13) .q68) {@1,@2,(m2 bZ .(16) @0)} #[bF j,bF st,bF i]) _)
 obtain⟨ps,hps⟩:∃ps:bA Str,ps=(kL p.2).map λj=>sd z i (16+j):=⟨_,rfl⟩
 have lp:ps.length=p.2:=by rw[hps,cG,vV]
 have pn:∀y∈ps,sQ z i 16 19 y:=λy hy=>by rw[hps]at hy;obtain⟨j,hj,rfl⟩:=jA.mp hy;have:=wZ.mp hj;exact⟨16+j,by lia,by lia,rfl⟩
 rw[show((kL p.2).map λj=>bE (sd z i (16+j)))=ps.map bE from by rw[hps,mS];rfl]at i1;have hN:∀y∈ps,Nm y:=λy hy=>by obtain⟨k,k1,k2,rfl⟩:=pn y hy;exact Za.nm (by lia) (by lia)
 obtain⟨a,ha4,hb4⟩:=f7 (v:=m) 4 (by decide);have i2:∀(O:cS) [hG O 9 (.val (dL c))],Ok (gO [] (fA @9) (kI (mB (m2 cY @1 .(0)))) (kI @0) O) (pL (ak c)):=λO _=>Kh (by lia)
 have i3:Ok (bZ (nL c) (.l (ps.map bE))) (nL ⟨c.ws++ps,c.ds,c.ks⟩):=pM (l:=c.ws) rfl rfl (by rw[cH];lia);obtain⟨xs,q1,q2,l,u,q3⟩:=J7 (P:=P) (n:=n+4) (c:=⟨c.ws++ps,c.ds,c.ks⟩) (pl:=ak c) (m:=2) (k:=1+a) (R:=FS ⟨c.ws++ps,c.ds,c.ks⟩ 3) (λnb=>CZ (hc.put hN) (by rw[cH];lia) Kg 2 n nb) (by lia) (gW m (20+k));have i4:Ok (P (n+13) .q61 [bF m,bF (20+(k:bG))]) (bF (gW m (20+k))):=drw_is (n:=n+10) (j:=20+k);replace q1:Ok (P (n+13) .q67 [bF (gW m (20+k)),bF (1+m%4),nL ⟨c.ws++ps,c.ds,c.ks⟩,dL c,pL (ak c),bF 2]) (.t xs):=by rw[show 1+m%4=((1+a:bD):bG)from by rw[show m%4=(a:bG)from ha4];rfl];exact q1
 have sz:=kC (a:=acc.length) (b:=1) (by lia);have fd:=FD.mk (c:=c) hp.1 hN (by rw[hps];exact o5 λx y _ _ e=>by have:=(nM e).2;lia) (by lia) q3 (by lia) (λy hy=>by obtain⟨k,k1,k2,rfl⟩:=pn y hy;exact hk k k1 k2);rw[lp]at fd;exact⟨.t [bE p.1,.t (ps.map bE),.t [],.t xs],_,_,_,(inferInstance:Ok (o6 (P (n+13)) _) _),_,fd⟩
theorem Ki(s m:bD):_root_.R.upTo (s:bG) (m+1)=bF s::_root_.R.upTo ((s+1:bD):bG) m:=by unfold _root_.R.upTo;rw[Dr,dY,mS];show bF ((s:bG)+((0:bD):bG))::_=_;rw[show(s:bG)+((0:bD):bG)=s from by lia];refine kT (bF s:: ·) (Lr λk _=>?_);show bF ((s:bG)+((k+1:bD):bG))=bF (((s+1:bD):bG)+k);rw[show(s:bG)+((k+1:bD):bG)=((s+1:bD):bG)+k from by lia]
theorem Kj(Za:wV z)(S:Sd P st z)(hc:c.ok)(hw:0<c.ws.length)(lw:c.ws.length<=500)(ld:c.ds.length<=500)(hi:i<8)(hk:∀k,16<=k->k<19->sd z i k∉c.ks){s0 s1 s3 s6 s7 s10 lP:Slot}:∀(qs:bA (Str×bD)) (acc:bA D) (k:bD) (s13 s14 s15 rN s17:Slot),(∀p∈qs,Nm p.1/\p.2<=3)->acc.length+qs.length<=100->
 ∃ys s13' s14' s15' s16' s17',Ok (jK 13 14 (o6 (P (n+13))) (_root_.R.pairD (_root_.R.upTo (k:bG) qs.length) (qs.map dP)) (mR s0 s1 i s3 st m s6 s7 c s10 lP acc s13 s14 s15 rN s17)) (.nx (mR s0 s1 i s3 st m s6 s7 c s10 lP (acc++ys) s13' s14' s15' s16' s17'))/\ys.length=qs.length/\ ∃l,FP (FD c) ys l (qs.map dP)
 | [],acc,k,s13,s14,s15,rN,s17,_,_=>⟨[],s13,s14,s15,rN,s17,by rw[kK];exact⟨rfl⟩,rfl,_,.nil⟩|p::qs,acc,k,s13,s14,s15,rN,s17,h,hl=>by
  rw[dC]at hl;obtain⟨x,a5,a6,a7,q1,l1,f1⟩:=WU (n:=n) (m:=m) (k:=k) (P:=P) Za S hc hw lw ld hi hk (h p fW) (acc:=acc) (by lia) s0 s1 s3 s6 s7 s10 lP s15 rN s17;obtain⟨ys,b3,b4,b5,b6,b7,q2,e2,l2,f2⟩:=Kj (s0:=s0) (s1:=s1) (s3:=s3) (s6:=s6) (s7:=s7) (s10:=s10) (lP:=lP) Za S hc hw lw ld hi hk qs (acc++ [x]) (k+1) (.val (bF k)) (.val (dP p)) a5 a6 a7 (λq hq=>h q (gI _ hq)) (by rw[cH];show _+1+_<=_;lia);refine⟨x::ys,b3,b4,b5,b6,b7,?_,by rw[dC,e2,dC],_,.cons f1 f2⟩;rw[dC,Ki,dY,show acc++x::ys=acc++ [x]++ys from by simp];show Ok (jK 13 14 (o6 (P (n+13))) (.t [bF k,dP p]::_root_.R.pairD (_root_.R.upTo ((k+1:bD):bG) qs.length) (qs.map dP)) _) _
  infer_instance
end
section
variable{z:Str}{i k n size:bD}{ns:bA bG}{fs:bA (bQ Fc)}{f:bQ Fc}{d:D}
noncomputable def wF:bQ Fc->bA Str|some f=>f.ws|none=>[]
structure Mb(z:Str)(fs:bA (bQ Fc))(i:bD)(f:bQ Fc)(c:Cn)(tk:bA (Str×Str))(own:bA Str)(hs:bA (Str×bD))(W:bA Str)(E:bA (Str×bD)):Prop where
 tn:tk.Nodup
 tt:∀t∈tk,Tk fs (sd z i 25) t
 tl:tk.length<=6
 ow:∀x∈own,sQ z i 5 8 x
 on:own.Nodup
 ol:0<own.length/\own.length<=3
 hh:∀p∈hs,sQ z i 13 16 p.1/\p.2<=3
 hn:(hs.map (·.1)).Nodup
 hl:hs.length<=2
 ww:∀x∈W,∃t∈tk,Wt fs t x
 ee:∀p∈E,∃t∈tk,Et fs t p
 cw:c.ws=W++wF f++own
 cd:c.ds=E++(dF f++hs)
 ck:c.ks=wF f++(dF f).map (·.1)++tk.map (·.2)++own++hs.map (·.1)
abbrev yP(z:Str)(i:bD)(tk:bA (Str×Str))(own:bA Str)(dds xs:bA D):D:=.t [bE (sd z i 25),.t (tk.map p2),.t (own.map bE),.t dds,.t xs]
structure nY(z:Str)(fs:bA (bQ Fc)):Prop where
 f:∀j g,fs[j]? =bB (bB g)->yO z j g
 l:fs.length<=8
theorem nY.mem(F:nY z fs){g:Fc}(h:bB g∈fs):∃j,j<8/\yO z j g:=by obtain⟨j,hj,e⟩:=Dx.mp h;exact⟨j,by have:=F.l;lia,F.f j g (by rw[nO hj,e])⟩
theorem yO.lies{g:Fc}(h:yO z k g){x:Str}(hx:x∈g.ws++g.ds.map (·.1)):sQ z k 0 13 x:=by
 rcases jR.mp hx with hx|hx
 .obtain⟨a,b,c,e⟩:=h.w x hx;exact⟨a,b,by lia,e⟩
 .obtain⟨p,hp,rfl⟩:=jA.mp hx;obtain⟨⟨a,b,c,e⟩,_⟩:=h.d p hp;exact⟨a,by lia,c,e⟩
theorem o7(F:nY z fs){t:Str×Str}(h:Tk fs (sd z i 25) t):∃j g,j<8/\j≠i/\bB g∈fs/\yO z j g/\g.nm=t.1/\t.2∈g.ws++g.ds.map (·.1)/\sQ z j 0 13 t.2:=by obtain⟨g,h1,h2,h3,h4⟩:=h;obtain⟨j,hj,A⟩:=F.mem h1;exact⟨j,g,hj,λe=>h3 (by rw[A.n,e]),h1,A,h2,h4,A.lies h4⟩
section
variable{c:Cn}{tk:bA (Str×Str)}{own W:bA Str}{hs E:bA (Str×bD)}
theorem o8(F:nY z fs)(hf:fs[i]? =some f):(∀x∈wF f,sQ z i 0 4 x)/\(∀p∈dF f,sQ z i 10 13 p.1/\p.2<=3)/\(wF f).length<=3/\(dF f).length<=2:=by
 cases f with
 |none=>exact⟨λx (h:x∈([]:bA Str))=>(nomatch h),λx (h:x∈([]:bA (Str×bD)))=>(nomatch h),mK _,mK _⟩|some g=>have A:=F.f i g hf;exact⟨A.w,A.d,A.lw,A.ld⟩
theorem Kk(Za:wV z)(F:nY z fs)(hf:fs[i]? =bB f)(hi:i<8)(M:Mb z fs i f c tk own hs W E):c.ok:=by
 obtain⟨a1,a2,_,_⟩:=o8 F hf;constructor
 .intro x hx;rw[M.cw]at hx;rcases jR.mp hx with hx|hx
  .rcases jR.mp hx with hx|hx
   .obtain⟨t,_,_,g,hg,_,hw⟩:=M.ww x hx;obtain⟨j,hj,A⟩:=F.mem hg;obtain⟨k,_,k2,rfl⟩:=A.w x hw;exact Za.nm (by lia) (by lia)
   .obtain⟨k,_,k2,rfl⟩:=a1 x hx;exact Za.nm (by lia) (by lia)
  .obtain⟨k,_,k2,rfl⟩:=M.ow x hx;exact Za.nm (by lia) (by lia)
 .intro p hp;rw[M.cd]at hp;rcases jR.mp hp with hp|hp
  .obtain⟨t,_,_,g,hg,_,hw⟩:=M.ee p hp;obtain⟨j,hj,A⟩:=F.mem hg;obtain⟨⟨k,_,k2,e⟩,l⟩:=A.d p hw;rw[e];exact⟨Za.nm (by lia) (by lia),by lia⟩
  .rcases jR.mp hp with hp|hp
   .obtain⟨⟨k,_,k2,e⟩,l⟩:=a2 p hp;rw[e];exact⟨Za.nm (by lia) (by lia),by lia⟩
   .obtain⟨⟨k,_,k2,e⟩,l⟩:=M.hh p hp;rw[e];exact⟨Za.nm (by lia) (by lia),by lia⟩
theorem WV(F:nY z fs)(hf:fs[i]? =bB f)(M:Mb z fs i f c tk own hs W E){k:bD}(h16:16<=k):sd z i k∉c.ks:=by
 obtain⟨a1,a2,_,_⟩:=o8 F hf;rw[M.ck];intro h;simp only[jR,jA]at h;rcases h with(((h|⟨p,h,e⟩)|⟨t,h,e⟩)|h)|⟨p,h,e⟩
 .obtain⟨j,_,_,e⟩:=a1 _ h;have:=(nM e).2;lia
 .obtain⟨⟨j,_,_,e'⟩,_⟩:=a2 p h;rw[e']at e;have:=(nM e).2;lia
 .obtain⟨j,g,_,hj,_,_,_,_,k',_,_,e'⟩:=o7 F (M.tt t h);rw[e']at e;exact hj (nM e).1
 .obtain⟨j,_,_,e⟩:=M.ow _ h;have:=(nM e).2;lia
 .obtain⟨⟨j,_,_,e'⟩,_⟩:=M.hh p h;rw[e']at e;have:=(nM e).2;lia
end
theorem WW(Za:wV z)(S:Sd P (kR ns 0) z)(F:nY z fs)(hf:fs[i]? =some f)(hz:size<=9):∃c tk own hs W E dds xs l l' u,Ok (P (n+14) .q72 [.l (ns.map bF),fL fs,bF i,bF size]) (yP z i tk own dds xs)/\Mb z fs i f c tk own hs W E/\FP (FD c) dds l ((dF f++hs).map dP)/\dds.length<=4/\FP (FS c 3) xs l' u/\xs.length<=9:=by
 have hi:i<fs.length:=(rS.mp hf).1;have h8:=F.l;have hg:∀g,some g∈fs->g.ok:=λg h=>by obtain⟨_,_,A⟩:=F.mem h;exact A.ok
 obtain⟨a1,a2,a3,a4⟩:=o8 F hf;have i0:Ok (P (n+13) .q60 [.l (ns.map bF),bF 0]) (bF (kR ns 0)):=mix_is (n:=n+9) (j:=0);have i1:Ok (P (n+13) .q60 [.l (ns.map bF),bF (5+(i:bG))]) (bF (kR ns (5+i))):=mix_is (n:=n+9) (j:=5+i);generalize kR ns (5+i)=m at i1;have i2:Ok (P (n+13) .q68 [bF (kR ns 0),bF i,bF 25]) (bE (sd z i 25)):=S.e (n+9) i 25 (by lia) (by lia);obtain⟨tk,t1,t2,t3,t4⟩:=WS (P:=P) (n:=n+9) (nm:=sd z i 25) (nb:=m/3) (by lia) hg;obtain⟨W,E,s1,s2,s3,s4,s5⟩:=WT (P:=P) (n:=n+10) (tk:=tk) hg h8 t4;generalize kR ns 0=st at S i0 i2;obtain⟨a,ha,ha3⟩:=f7 (v:=m) 3 (by decide);obtain⟨b,hb,hb3⟩:=f7 (v:=m/21) 3 (by decide);obtain⟨own,ho⟩:∃own:bA Str,own=(kL (1+a)).map λj=>sd z i (5+j):=⟨_,rfl⟩
 have j1:∀(r:cS),Ok (gO [4,2] (kG (m2 bZ .(1) (m2 dS @5 .(3)))) (λ_=>.ok bC) (mA (P (n+13) .q68) {@1,@2,(m2 bZ .(5) @0)}) (.val (.l (ns.map bF)):: .val (fL fs):: .val (bF i):: .val (bF size):: .val (bF st):: .val (bF m)::r)) (.l (own.map bE)):=λr=>by
  have q:Ok (m2 bZ .(1) (m2 dS @5 .(3)) (.val (.l (ns.map bF)):: .val (fL fs):: .val (bF i):: .val (bF size):: .val (bF st):: .val (bF m)::r)) (bF ((1+a:bD):bG)):=by rw[show((1+a:bD):bG)=1+m%3 from by rw[show m%3=(a:bG)from ha];rfl];infer_instance
  rw[ho,mS];exact o4 (k:=1+a) (v:=λj=>bE (sd z i (5+j))) (by lia) λj hj=>by have:Ok (P (n+13) .q68 [bF st,bF i,bF (5+(j:bG))]) (bE (sd z i (5+j))):=S.e (n+9) i (5+j) (by lia) (by lia);exact(inferInstance:Ok (mA (P (n+13) .q68) {@1,@2,(m2 bZ .(5) @0)} #[bF j,bF st,bF i]) _)
 obtain⟨hs,hh⟩:∃hs:bA (Str×bD),hs=(kL b).map λj=>(sd z i (13+j),(gW m j%4).toNat):=⟨_,rfl⟩
 have j2:∀(r:cS),Ok (gO [4,2,5] (kG (m2 dS (m2 jC @5 .(21)) .(3))) (λ_=>.ok bC) (mA cP {(mA (P (n+13) .q68) {@1,@2,(m2 bZ .(13) @0)}),(m2 dS (mA (P (n+13) .q61) {@3,@0}) .(4))}) (.val (.l (ns.map bF)):: .val (fL fs):: .val (bF i):: .val (bF size):: .val (bF st):: .val (bF m)::r)) (eL hs):=λr=>by
  have q:Ok (m2 dS (m2 jC @5 .(21)) .(3) (.val (.l (ns.map bF)):: .val (fL fs):: .val (bF i):: .val (bF size):: .val (bF st):: .val (bF m)::r)) (bF b):=by rw[<-hb];infer_instance
  rw[show eL hs= .l ((kL b).map λj=>dP (sd z i (13+j),(gW m j%4).toNat))from by rw[hh];show D.l (List.map _ (List.map _ _))=_;rw[mS];rfl];exact o4 (k:=b) (v:=λj=>dP (sd z i (13+j),(gW m j%4).toNat)) (by lia) λj hj=>by have t1:Ok (P (n+13) .q68 [bF st,bF i,bF (13+(j:bG))]) (bE (sd z i (13+j))):=S.e (n+9) i (13+j) (by lia) (by lia);show Ok _ (D.t [bE (sd z i (13+j)),bF ((gW m j%4).toNat:bG)]);rw[DB (wY _ (by decide))];exact(inferInstance:Ok (mA cP {(mA (P (n+13) .q68) {@1,@2,(m2 bZ .(13) @0)}),(m2 dS (mA (P (n+13) .q61) {@3,@0}) .(4))} #[bF j,bF st,bF i,bF m]) _)
 have ow:∀x∈own,sQ z i 5 8 x:=λx hx=>by rw[ho]at hx;obtain⟨j,hj,rfl⟩:=jA.mp hx;have:=wZ.mp hj;exact⟨5+j,by lia,by lia,rfl⟩
 have lo:own.length=1+a:=by rw[ho,cG,vV]
 have lh:hs.length=b:=by rw[hh,cG,vV]
 have hp:∀p∈hs,sQ z i 13 16 p.1/\p.2<=3:=λp h=>by rw[hh]at h;obtain⟨j,hj,rfl⟩:=jA.mp h;have:=wZ.mp hj;exact⟨⟨13+j,by lia,by lia,rfl⟩,by show(gW m j%4).toNat<=3;lia⟩
 obtain⟨c,hcw,hcd,hck⟩:∃c:Cn,c.ws=W++wF f++own/\c.ds=E++(dF f++hs)/\c.ks=wF f++(dF f).map (·.1)++tk.map (·.2)++own++hs.map (·.1):=⟨⟨_,_,_⟩,rfl,rfl,rfl⟩;have M:Mb z fs i f c tk own hs W E:=⟨t2,t3,t4,ow,by rw[ho];exact o5 λx y _ _ e=>by have:=(nM e).2;lia,by lia,hp,by rw[hh,mS];exact o5 λx y _ _ e=>by have:=(nM e).2;lia,by lia,s2,s3,hcw,hcd,hck⟩;have C:=Kk Za F hf (by lia) M;have lw:c.ws.length<=500:=by rw[hcw,cH,cH];lia
 have ld:c.ds.length<=500:=by rw[hcd,cH,cH];lia
 have hw:0<c.ws.length:=by rw[hcw,cH];lia
 have ix:Ok (cV (fL fs) (bF i)) (oF f):=⟨by have e:mY (fs.map oF) (i:bG)=some (oF f):=du (by rw[pB,hf];rfl);simp only[cV,e]⟩;have IF:Ok (bY (mB (m2 (jQ bC) (m2 cV @1 @2) (kc .n))) (bL (cR 8 (m2 bZ @8 (mA sD {(m2 cV (m2 cV @1 @2) .(1))}))) (cR 11 (m2 bZ (mA sD {(m2 cV (m2 cV @1 @2) .(2))}) @11))) (cE) #[.l (ns.map bF),fL fs,bF i,bF size,bF st,bF m,bE (sd z i 25),.l (tk.map p2),pL W,eL E,.l (own.map bE),eL hs,(),(),(),(),(),()]) (.nx #[.l (ns.map bF),fL fs,bF i,bF size,bF st,bF m,bE (sd z i 25),.l (tk.map p2),pL (W++wF f),eL E,.l (own.map bE),eL (dF f++hs),(),(),(),(),(),()]):=by
  cases f with
  |none=>
   replace ix:Ok (cV (fL fs) (bF i)) .n:=ix;rw[show W++wF none=W from kK W,show dF none++hs=hs from rfl]
   infer_instance
  |some g=>
   replace ix:Ok (cV (fL fs) (bF i)) (.t [bE g.nm,.t (g.ws.map bE),.t (g.ds.map dP)]):=ix;have a3:g.ws.length<=3:=a3;have a4:g.ds.length<=2:=a4;have c1:Ok (bZ (pL W) (.l (g.ws.map bE))) (pL (W++wF (some g))):=pM (l':=g.ws) rfl rfl (by rw[cH];lia);have c2:Ok (bZ (.l (g.ds.map dP)) (eL hs)) (eL (dF (some g)++hs)):=⟨by show(if _ then _ else _)=_;rw[cK (qQ (by rw[cG,cG];lia)), <-lR];rfl⟩
   infer_instance
 have k1:Ok (bZ (pL (W++wF f)) (.l (own.map bE))) (nL c):=by unfold nL;rw[hcw];exact pM (l:=W++wF f) rfl rfl (by rw[<-hcw];lia)
 have k2:Ok (bZ (eL E) (eL (dF f++hs))) (dL c):=by unfold dL;rw[hcd];exact⟨by show(if _ then _ else _)=_;rw[cK (qQ (by rw[cG,cG,cH];lia)), <-lR]⟩
 obtain⟨dds,b3,b4,b5,b6,b7,q1,q2,l,q3⟩:=Kj (P:=P) (n:=n) (m:=m) (s0:=.val (.l (ns.map bF))) (s1:=.val (fL fs)) (s3:=.val (bF size)) (s6:=.val (bE (sd z i 25))) (s7:=.val (.l (tk.map p2))) (s10:=.val (.l (own.map bE))) (lP:=.val (eL (dF f++hs))) Za S C hw lw ld (by lia) (λk h _=>WV F hf M h) (dF f++hs) [] 0 .no .no .no .no .no (λp h=>by
  rcases jR.mp h with h|h
  .obtain⟨⟨k,_,k2,e⟩,l⟩:=a2 p h;rw[e];exact⟨Za.nm (by lia) (by lia),l⟩
  .obtain⟨⟨k,_,k2,e⟩,l⟩:=hp p h;rw[e];exact⟨Za.nm (by lia) (by lia),l⟩) (by rw[cH];show 0+_<=_;lia)
 have EN:Ok (m5 @11 [.val (.l (ns.map bF)),.val (fL fs),.val (bF i),.val (bF size),.val (bF st),.val (bF m),.val (bE (sd z i 25)),.val (.l (tk.map p2)),.val (nL c),.val (dL c),.val (.l (own.map bE)),.val (eL (dF f++hs)),.own [],.no,.no,.no,.no,.no]) (_root_.R.pairD (_root_.R.upTo ((0:bD):bG) (dF f++hs).length) ((dF f++hs).map dP)):=⟨by show bP.ok (_root_.R.pairD (_root_.R.upTo 0 ((dF f++hs).map dP).length) ((dF f++hs).map dP))=_;rw[cG];rfl⟩;have PL:∀(O:cS) [hG O 9 (.val (dL c))],Ok (gO [] (fA @9) (kI (mB (m2 cY @1 .(0)))) (kI @0) O) (pL (ak c)):=λO _=>Kh (by lia)
 obtain⟨xs,x1,x2⟩:=jr (js:=[8,9,16,0,2]) (f:=gv 3) (g:=mA (P (n+13) .q66) {(mA (P (n+13) .q60) {@4,(m2 bZ (m2 bZ .(9) @5) (m2 kY .(4) @0))}),@1,@2,@3,.(2)}) (O:=[.val (.l (ns.map bF)),.val (fL fs),.val (bF i),.val (bF size),.val (bF st),.val (bF m),.val (bE (sd z i 25)),.val (.l (tk.map p2)),.val (nL c),.val (dL c),.val (.l (own.map bE)),.val (eL (dF f++hs)),.val (.l dds),b3,b4,b5,.val (pL (ak c)),b7]) (k:=size) (Q:=λ_ d=>∃l u,FS c 3 d l u) (by lia) λj hj=>by obtain⟨d,r1,r2⟩:=CZ (P:=P) C hw (Kg (c:=c)) 2 (n+1) (kR ns (9+i+4*j));replace r1:Ok (P (n+13) .q66 [bF (kR ns (9+i+4*j)),nL c,dL c,pL (ak c),bF 2]) d:=r1;have r0:Ok (P (n+13) .q60 [.l (ns.map bF),bF (9+(i:bG)+4*(j:bG))]) (bF (kR ns (9+i+4*j))):=mix_is (n:=n+9) (j:=9+i+4*j);exact⟨d,(inferInstance:Ok (mA (P (n+13) .q66) {(mA (P (n+13) .q60) {@4,(m2 bZ (m2 bZ .(9) @5) (m2 kY .(4) @0))}),@1,@2,@3,.(2)} #[bF j,nL c,dL c,pL (ak c),.l (ns.map bF),bF i]) d),r2⟩
 obtain⟨y1,y2⟩:=vm x2;rw[bz]at y1;obtain⟨l',u,y3⟩:=o3 (R:=FS c 3) λy hy=>by obtain⟨_,_,q⟩:=y2 y hy;exact q
 refine⟨c,tk,own,hs,W,E,dds,xs,l,l',u,?_,M,q3,by rw[q2,cH];lia,y3,by lia⟩;refine fJ (n:=n+11) (g:=Cu (P (n+13)) (P (n+11))) (O:= #[.l (ns.map bF),fL fs,bF i,bF size,(),(),(),(),(),(),(),(),(),(),(),(),(),()]) rfl (q:=?_);unfold Cu;replace q1:Ok (jK 13 14 (o6 (P (n+13))) _ [.val (.l (ns.map bF)),.val (fL fs),.val (bF i),.val (bF size),.val (bF st),.val (bF m),.val (bE (sd z i 25)),.val (.l (tk.map p2)),.val (nL c),.val (dL c),.val (.l (own.map bE)),.val (eL (dF f++hs)),.own [],.no,.no,.no,.no,.no]) (.nx [.val (.l (ns.map bF)),.val (fL fs),.val (bF i),.val (bF size),.val (bF st),.val (bF m),.val (bE (sd z i 25)),.val (.l (tk.map p2)),.val (nL c),.val (dL c),.val (.l (own.map bE)),.val (eL (dF f++hs)),.own dds,b3,b4,b5,b6,b7]):=q1
 infer_instance
end
section
variable{z:Str}{i k n size:bD}{ns:bA bG}{fs:bA (bQ Fc)}{f:bQ Fc}{d:D}{a b:bG}
instance:Ok (iV [bF a,bF b]) (bF (if b>a then b else a)):=⟨rfl⟩
instance:Ok (iU [bF a,bF b]) (bF (if b<a then b else a)):=⟨rfl⟩
instance:Ok (yE [.b bC]) (bF 1):=⟨rfl⟩
instance:Ok (yE [.b bH]) (bF 0):=⟨rfl⟩
def Pr(z:Str)(fs:bA (bQ Fc))(i:bD)(d:D):Prop:=∃f c tk own hs W E dds xs l l' u,fs[i]? =bB f/\d= .t [oF f,yP z i tk own dds xs]/\Mb z fs i f c tk own hs W E/\FP (FD c) dds l ((dF f++hs).map dP)/\dds.length<=4/\FP (FS c 3) xs l' u/\xs.length<=9
theorem C4{Q:D->D->Prop}:∀{k s:bD} {ys:bA D},kD Q (_root_.R.upTo (s:bG) k) ys->ys.length=k/\ ∀i y,ys[i]? =bB y->Q (bF ((s+i:bD):bG)) y
 |0,s,ys,h=>by cases h;exact⟨rfl,λi y h=>by cases h⟩|k+1,s,ys,h=>by
  rw[Ki]at h;cases h with
  |cons h t=>
   obtain⟨e,q⟩:=C4 t;refine⟨by rw[dC,e],λi y hy=>?_⟩;cases i with
   |zero=>cases hy;exact h|succ i=>
    have:=q i y hy
    rwa [show s+1+i=s+(i+1)from by lia]at this
theorem Kl:∀{ys:bA D} (s:bD),(∀i y,ys[i]? =bB y->∃f,y=oF f/\ ∀g,f=bB g->yO z (s+i) g)->∃fs:bA (bQ Fc),ys=fs.map oF/\ ∀(i:bD) g,fs[i]? =bB (bB g)->yO z (s+i) g
 | [],_,_=>⟨[],rfl,λi g h=>by cases h⟩|y::ys,s,h=>by
  obtain⟨f,rfl,hf⟩:=h 0 y rfl;obtain⟨fs,rfl,hs⟩:=Kl (s+1) λi y hy=>by
   have:=h (i+1) y hy
   rwa [show s+(i+1)=s+1+i from by lia]at this
  refine⟨f::fs,rfl,λi g hg=>?_⟩;cases i with
  |zero=>exact hf g (by cases hg;rfl)|succ i=>
   have:=hs i g hg
   rwa [show s+1+i=s+(i+1)from by lia]at this
theorem WX(Za:wV z)(S:Sd P (kR ns 0) z):∃fs ys,nY z fs/\Ok (P (n+15) .q73 [.l (ns.map bF)]) (.l ys)/\ys.length=fs.length/\ ∀i y,ys[i]? =bB y->Pr z fs i y:=by
 have i0:Ok (P (n+14) .q60 [.l (ns.map bF),bF 0]) (bF (kR ns 0)):=mix_is (n:=n+10) (j:=0);obtain⟨many,hm⟩:∃v,v=kR ns 0/7:=⟨_,rfl⟩;obtain⟨a,ha,ha4⟩:=f7 (v:=many) 4 (by decide);obtain⟨cnt,c1,c8,c2⟩:∃cnt:bD,1<=cnt/\cnt<=8/\Ok (m2 bZ (m2 bZ .(1) (m2 dS @1 .(4))) (m2 kY .(4) (mA yE {(m2 cY (m2 dS (m2 jC @1 .(4)) .(6)) .(1))})) #[.l (ns.map bF),bF many,(),(),()]) (bF cnt):=by
  by_cases h:many/4%6=1
  .have:=rQ h;refine⟨5+a,by lia,by lia,?_⟩;rw[show((5+a:bD):bG)=1+many%4+4*1 from by rw[show many%4=(a:bG)from ha];lia]
   infer_instance
  .have:=tM h;refine⟨1+a,by lia,by lia,?_⟩;rw[show((1+a:bD):bG)=1+many%4+4*0 from by rw[show many%4=(a:bG)from ha];lia]
   infer_instance
 obtain⟨fy,f1,f2⟩:=jr (js:=[0]) (f:=gv 2) (g:=mA (P (n+14) .q69) {@1,@0}) (O:= #[.l (ns.map bF),bF many,bF cnt,(),()]) (k:=cnt) (Q:=λx d=>∃j:bD,x=bF j/\ ∃f,d=oF f/\ ∀g,f=bB g->yO z j g) (by lia) λj hj=>by obtain⟨f,q1,q2⟩:=WP (P:=P) (n:=n+9) (i:=j) Za S (by lia);exact⟨oF f,(inferInstance:Ok (mA (P (n+14) .q69) {@1,@0} #[bF j,.l (ns.map bF)]) _),j,rfl,f,rfl,q2⟩
 obtain⟨e1,e2⟩:=C4 (s:=0) f2;obtain⟨fs,rfl,hF⟩:=Kl (z:=z) (ys:=fy) 0 λi y hy=>by
  obtain⟨j,ej,f,ef,q⟩:=e2 i y hy;have:(0+i:bD)=j:=by injection ej with ej;exact DZ ej
  rw[this];exact⟨f,ef,q⟩
 rw[cG]at e1;have F:nY z fs:=⟨λj g h=>by have:=hF j g h;rwa [xi]at this,by lia⟩;obtain⟨size,s9,s1⟩:∃size:bD,size<=9/\ ∀r:cS,Ok (mA iU {.(9),(mA iV {.(1),(m2 jC (m2 sC (mA fS {@0}) .(9)) .(4))})} (.val (.l (ns.map bF))::r)) (bF size):=by
  obtain⟨v,hv⟩:∃v:bG,v=(((ns.map bF).length:bG)-9)/4:=⟨_,rfl⟩;obtain⟨w,hw⟩:∃w:bG,w=if(if v>1 then v else 1)<9 then(if v>1 then v else 1)else 9:=⟨_,rfl⟩
  have w1:0<=w/\w<=9:=by rw[hw];split<;>split<;>lia
  refine⟨w.toNat,by lia,λr=>?_⟩;rw[DB w1.1,hw,hv]
  infer_instance
 obtain⟨ys,y1,y2⟩:=jr (js:=[3,0,4]) (f:=gv 2) (g:=mA cP {(m2 cV @1 @0),(mA (P (n+14) .q72) {@2,@1,@0,@3})}) (O:= #[.l (ns.map bF),bF many,bF cnt,fL fs,bF size]) (k:=cnt) (Q:=λx d=>∃j:bD,x=bF j/\Pr z fs j d) (by lia) λj hj=>by have hf:fs[j]? =bB fs[j]:=nO (by lia);obtain⟨c,tk,own,hs,W,E,dds,xs,l,l',u,q1,q2⟩:=WW (P:=P) (n:=n) (size:=size) Za S F hf s9;have ix:Ok (cV (fL fs) (bF j)) (oF fs[j]):=⟨by have e:mY (fs.map oF) (j:bG)=bB (oF fs[j]):=du (by rw[pB,hf];rfl);simp only[cV,e]⟩;exact⟨_,(inferInstance:Ok (mA cP {(m2 cV @1 @0),(mA (P (n+14) .q72) {@2,@1,@0,@3})} #[bF j,fL fs,.l (ns.map bF),bF size]) _),j,rfl,fs[j],c,tk,own,hs,W,E,dds,xs,l,l',u,hf,rfl,q2⟩
 obtain⟨g1,g2⟩:=C4 (s:=0) y2;refine⟨fs,ys,F,?_,by lia,λi y hy=>?_⟩
 .refine fJ (n:=n+12) (g:=Cv (P (n+14)) (P (n+12))) (O:= #[.l (ns.map bF),(),(),(),()]) rfl (q:=?_);unfold Cv;subst hm
  infer_instance
 .obtain⟨j,ej,q⟩:=g2 i y hy;have:(0+i:bD)=j:=by injection ej with ej;exact DZ ej
  rw[xi]at this;rw[this];exact q
end
section
variable{c:Cn}{R:Rl}{k m:bD}{d x:D}{xs ds:bA D}{s:Str}{l f:bA Str}{u:bA D}
theorem kJ(h:gT d<=k)(t:depL ds<=k):depL (d::ds)<=k:=by rw[depL];lia
theorem vU:depL []<=k:=by rw[depL];exact mK _
theorem tN:gT (bE s)<=k:=by simp[gT]
theorem nZ(h:depL ds<=k):gT (.t ds)<=k+1:=by rw[gT];lia
theorem ju(h:∀x l u,R x l u->gT x<=k)(f:FP R xs l u):depL xs<=k:=by
 induction f with
 |nil=>exact vU|cons a _ ih=>exact kJ (h _ _ _ a) ih
theorem o9:∀(m:bD) {d l u:_},FE c m d l u->gT d<=2*m|0,_,_,_,h=>h.elim|m+1,_,_,_,.num _=>nZ (k:=2*m+1) (kJ tN (kJ (by simp[gT]) vU))|m+1,_,_,_,.nam _=>nZ (k:=2*m+1) (kJ tN (kJ tN vU))|m+1,_,_,_,.call _ h=>nZ (k:=2*m+1) (kJ tN (kJ tN (kJ (nZ (ju (λ_ _ _ h=>o9 m h) h)) vU)))|m+1,_,_,_,.bin _ a b=>nZ (k:=2*m+1) (kJ tN (kJ (DG (o9 m a)) (kJ (DG (o9 m b)) vU)))
theorem WY(hk:6<=k)(h:∀x l u,R x l u->gT x<=k)(p:qB c R s x l u):gT x<=k+1:=by
 cases p with
 |word _=>exact tN|deed _=>exact tN|expr h=>have:=o9 3 h;lia|parts _ h=>exact nZ (ju (λ_ _ _ h=>jS (o9 3 h) hk) h)|block _ p=>exact nZ (ju h p)
theorem WZ(hk:6<=k)(h:∀x l u,R x l u->gT x<=k)(p:FF c R f xs l u):depL xs<=k+1:=by
 induction p with
 |nil=>exact vU|part a _ ih=>exact kJ (WY hk h a) ih|kept _ _ ih=>exact ih
theorem C5:∀(m:bD) {d l u:_},FS c m d l u->gT d<=2*m+6
 |0,_,_,_,h=>h.elim|m+1,_,_,_,.mk (w:=w) _ hf _=>by
  have:=nZ (kJ (tN (s:=w) (k:=2*m+6+1)) (WZ (k:=2*m+6) (by lia) (λ_ _ _ h=>C5 m h) hf))
  lia
theorem W0(h:FD c x l u):gT x<=15:=by
 cases h with
 | @mk z ps xs l u h1 h2 h3 h4 h5 h6 h7=>
  have e:depL (ps.map bE)<=12:=by rw[oK];exact mK _
  exact nZ (k:=14) (kJ tN (kJ (jS (nZ e) (by decide)) (kJ (jS (nZ (k:=0) vU) (by decide)) (kJ (jS (nZ (ju (k:=12) (λ_ _ _ h=>C5 3 h) h5)) (by decide)) vU))))
theorem Km(h:depL ds<=90):Ok (kH (.t ds) (.t ds)) (.b bH):=⟨by unfold kH;dsimp only;rw[cK ⟨h,h⟩,eqL_refl];rfl⟩
end
section
variable{z:Str}{i k n:bD}{fs gs:bA (bQ Fc)}{f:bQ Fc}{c:Cn}{tk:bA (Str×Str)}{own W:bA Str}{hs E:bA (Str×bD)}{t:Str×Str}{v:D}{g:Fc}
noncomputable def fT:bA (bQ Fc)->R.Tab| []=>[]|none::fs=>fT fs|some g::fs=>(g.nm,g.d)::fT fs
theorem C6:∀{fs:bA (bQ Fc)},some g∈fs->(g.nm,g.d)∈fT fs
 |none::fs,h=>C6 (fs:=fs) (by cases h;assumption)|some g'::fs,h=>by
  rcases kS.mp h with h|h
  .cases h;exact fW
  .exact gI _ (C6 h)
theorem Kn:∀{gs:bA (bQ Fc)} (s:bD),(∀j g,gs[j]? =some (some g)->g.nm=sd z (s+j) 25)->((fT gs).map (·.1)).Nodup/\(∀x∈(fT gs).map (·.1),∃j,s<=j/\x=sd z j 25)/\(fT gs).length<=gs.length
 | [],s,_=>⟨xa,λ_ h=>(nomatch h),cZ _⟩|f::gs,s,h=>by
  obtain⟨a,b,e⟩:=Kn (gs:=gs) (s+1) λj g hj=>by
   have:=h (j+1) g hj
   rwa [show s+(j+1)=s+1+j from by lia]at this
  have b':∀x∈(fT gs).map (·.1),∃j,s<=j/\x=sd z j 25:=λx hx=>by obtain⟨j,h1,h2⟩:=b x hx;exact⟨j,by lia,h2⟩
  cases f with
  |none=>exact⟨a,b',by rw[dC];exact DG e⟩|some g=>
   have hg:=h 0 g rfl;refine⟨cf.mpr ⟨λq=>?_,a⟩,λx hx=>?_,Nat.succ_le_succ e⟩
   .obtain⟨j,h1,h2⟩:=b _ q;have:=(nM (hg.symm.trans h2)).1
    lia
   .rcases kS.mp hx with rfl|hx
    .exact⟨s,cZ _,hg⟩
    .exact b' x hx
theorem nY.ix(F:nY z fs)(h:bB g∈fs):∃j,fs[j]? =bB (bB g)/\yO z j g:=by
 obtain⟨j,hj,e⟩:=Dx.mp h;have:fs[j]? =bB (bB g):=by rw[nO hj,e]
 exact⟨j,this,F.f j g this⟩
theorem nY.nd(F:nY z fs):((fT fs).map (·.1)).Nodup:=(Kn (z:=z) 0 λj g h=>by rw[xi];exact(F.f j g h).n).1
theorem nY.one(F:nY z fs){g':Fc}(h:bB g∈fs)(h':bB g'∈fs)(e:g.nm=g'.nm):g=g':=by obtain⟨j,a,A⟩:=F.ix h;obtain⟨j',b,B⟩:=F.ix h';rw[A.n,B.n]at e;rw[(nM e).1,b]at a;cases a;rfl
theorem Ko(G:g.ok){x:Str}{d:D}(h:(x,d)∈tK g):mL (tK g) x=bB d:=ag (by rw[JU];exact G.u) h
theorem Kp(G:g.ok){x:Str}(h:x∈g.ws):mL (tK g) x=bB mW:=Ko G (pA _ (jA.mpr ⟨x,h,rfl⟩))
theorem Kq(G:g.ok){p:Str×bD}(h:p∈g.ds):mL (tK g) p.1=bB (mD p.2):=Ko G (pO _ (jA.mpr ⟨p,h,rfl⟩))
structure Tv(fs:bA (bQ Fc))(un:Str)(t:Str×Str)(v:D):Prop where
 o:vh un (fT fs) t v
 w:∀x,Wt fs t x->v=mW
 d:∀p,Et fs t p->v=mD p.2
theorem W3(F:nY z fs){un:Str}(h:Tk fs un t):∃v,Tv fs un t v:=by
 obtain⟨g,h1,h2,h3,h4⟩:=h;have G:g.ok:=by obtain⟨_,_,A⟩:=F.ix h1;exact A.ok
 have gF:mL (fT fs) t.1=bB g.d:=by rw[<-h2];exact ag F.nd (C6 h1)
 have un':(t.1==un)=bH:=lE.mpr (h2▸h3);obtain⟨v,hv⟩:∃v,mL (tK g) t.2=bB v:=by
  rcases jR.mp h4 with h|h
  .exact⟨_,Kp G h⟩
  .obtain⟨p,hp,e⟩:=jA.mp h;exact⟨_,e▸Kq G hp⟩
 refine⟨v,⟨un',g,G,gF,hv⟩,λx ⟨e,g',a,b,hw⟩=>?_,λp ⟨e,g',a,b,hw⟩=>?_⟩
 .rw[<-F.one h1 a (h2.trans b.symm),e]at hw;exact jJ (hv.symm.trans (Kp G hw))
 .rw[<-F.one h1 a (h2.trans b.symm)]at hw;rw[<-e]at hv;exact jJ (hv.symm.trans (Kq G hw))
theorem Kr{α β:Type}{Q:α->β->Prop}:∀{l:bA α},(∀x∈l,∃v,Q x v)->∃l':bA (α×β),l=l'.map (·.1)/\ ∀p∈l',Q p.1 p.2
 | [],_=>⟨[],rfl,λ_ h=>(nomatch h)⟩|x::l,h=>by
  obtain⟨v,hv⟩:=h x fW;obtain⟨l',rfl,hl⟩:=Kr λy hy=>h y (gI _ hy)
  refine⟨(x,v)::l',rfl,λp hp=>?_⟩;rcases kS.mp hp with rfl|hp
  .exact hv
  .exact hl p hp
theorem W4:(tF f).map (·.1)=wF f++(dF f).map (·.1):=by
 cases f with
 |none=>rfl|some g=>exact JU
theorem W5{tk:bA ((Str×Str)×D)}:(f6 f tk own hs).map (·.1)=wF f++(dF f).map (·.1)++(tk.map (·.1)).map (·.2)++own++hs.map (·.1):=by simp only[lR,mS,W4];rw[show own.map ((λp:Str×D=>p.1) ∘ λz=>(z,mW))=own from qg own];rfl
theorem W6(F:nY z fs)(hf:fs[i]? =some f)(M:Mb z fs i f c tk own hs W E):c.ks.Nodup:=by
 obtain⟨a1,a2,_,_⟩:=o8 F hf;have s1:∀x∈wF f++(dF f).map (·.1),∃k,k<13/\(k<4\/10<=k)/\x=sd z i k:=λx hx=>by
  rcases jR.mp hx with hx|hx
  .obtain⟨k,_,h,e⟩:=a1 x hx;exact⟨k,by lia,.inl h,e⟩
  .obtain⟨p,hp,rfl⟩:=jA.mp hx;obtain⟨⟨k,h,h',e⟩,_⟩:=a2 p hp;exact⟨k,h',.inr h,e⟩
 have s2:∀x∈tk.map (·.2),∃j k,j≠i/\x=sd z j k:=λx hx=>by obtain⟨t,ht,rfl⟩:=jA.mp hx;obtain⟨j,g,_,hj,_,_,_,_,k,_,_,e⟩:=o7 F (M.tt t ht);exact⟨j,k,hj,e⟩
 have s3:=M.ow;have s4:∀x∈hs.map (·.1),sQ z i 13 16 x:=λx hx=>by obtain⟨p,hp,rfl⟩:=jA.mp hx;exact(M.hh p hp).1
 have n1:(wF f++(dF f).map (·.1)).Nodup:=by
  cases f with
  |none=>exact xa|some g=>exact(F.f i g hf).ok.u
 have n2:(tk.map (·.2)).Nodup:=by have:=M.tn;rw[v5]at this|-;rw[LG];refine KY (λ{x y} hx hy hxy e=>hxy ?_) this;obtain⟨j,g,_,_,_,A,e1,_,k,_,_,e2⟩:=o7 F (M.tt x hx);obtain⟨j',g',_,_,_,A',e1',_,k',_,_,e2'⟩:=o7 F (M.tt y hy);rw[e2,e2']at e;refine ij ?_ (by rw[e2,e2',e]);rw[<-e1, <-e1',A.n,A'.n,(nM e).1]
 rw[M.ck];refine pC.mpr ⟨pC.mpr ⟨pC.mpr ⟨n1,n2,λx hx y hy e=>?_⟩,M.on,λx hx y hy e=>?_⟩,M.hn,λx hx y hy e=>?_⟩
 .obtain⟨k,_,_,e1⟩:=s1 x hx;obtain⟨j,k',hj,e2⟩:=s2 y hy;rw[e1,e2]at e;exact hj (nM e).1.symm
 .obtain⟨k',h1,h2,e2⟩:=s3 y hy;rcases jR.mp hx with hx|hx
  .obtain⟨k,h3,h4,e1⟩:=s1 x hx;rw[e1,e2]at e;have:=(nM e).2;lia
  .obtain⟨j,k,hj,e1⟩:=s2 x hx;rw[e1,e2]at e;exact hj (nM e).1
 .obtain⟨k',h1,h2,e2⟩:=s4 y hy;rcases jR.mp hx with hx|hx
  .rcases jR.mp hx with hx|hx
   .obtain⟨k,h3,h4,e1⟩:=s1 x hx;rw[e1,e2]at e;have:=(nM e).2;lia
   .obtain⟨j,k,hj,e1⟩:=s2 x hx;rw[e1,e2]at e;exact hj (nM e).1
  .obtain⟨k,h3,h4,e1⟩:=s3 x hx;rw[e1,e2]at e;have:=(nM e).2;lia
theorem W7{dds xs u:bA D}{l l':bA Str}(Za:wV z)(F:nY z fs)(hf:fs[i]? =some f)(M:Mb z fs i f c tk own hs W E)(hd:FP (FD c) dds l ((dF f++hs).map dP))(h4:dds.length<=4)(hx:FP (FS c 3) xs l' u)(h9:xs.length<=9):
 Ok (P (n+39) .q20 [yP z i tk own dds xs,dR (fT fs),oF f]) .n/\(∃w,Ok (P (n+39) .q49 [yP z i tk own dds xs]) (bE w)/\Ok (P (n+39) .read [bE w]) (yP z i tk own dds xs))/\Ok (kH (yP z i tk own dds xs) (yP z i tk own dds xs)) (.b bH):=by
 have hi:i<8:=by have:=(rS.mp hf).1;have:=F.l;lia
 have C:=Kk Za F hf hi M;have K:=W6 F hf M;obtain⟨a1,a2,a3,a4⟩:=o8 F hf;obtain⟨tv,etk,hv⟩:=Kr λt ht=>W3 F (M.tt t ht)
 have hks:(f6 f tv own hs).map (·.1)=c.ks:=by rw[W5,M.ck,etk]
 have inv:∀{t:Str×Str},t∈tk->∃v,(t,v)∈tv/\Tv fs (sd z i 25) t v:=λ{t} ht=>by rw[etk]at ht;obtain⟨p,hp,rfl⟩:=jA.mp ht;exact⟨p.2,hp,hv p hp⟩
 have T:Tq (f6 f tv own hs) c:=⟨hks▸K,λx hx=>by
  rw[M.cw]at hx;rcases jR.mp hx with hx|hx
  .rcases jR.mp hx with hx|hx
   .obtain⟨t,ht,w⟩:=M.ww x hx;obtain⟨v,hv,V⟩:=inv ht;rw[w.1, <-V.w x w];exact pA _ (pA _ (pO _ (jA.mpr ⟨_,hv,rfl⟩)))
   .refine pA _ (pA _ (pA _ ?_));cases f with|none=>cases hx|some g=>exact pA _ (jA.mpr ⟨x,hx,rfl⟩)
  .exact pA _ (pO _ (jA.mpr ⟨x,hx,rfl⟩)),λp hp=>by
  rw[M.cd]at hp;rcases jR.mp hp with hp|hp
  .obtain⟨t,ht,w⟩:=M.ee p hp;obtain⟨v,hv,V⟩:=inv ht;rw[w.1, <-V.d p w];exact pA _ (pA _ (pO _ (jA.mpr ⟨_,hv,rfl⟩)))
  .rcases jR.mp hp with hp|hp
   .refine pA _ (pA _ (pA _ ?_));cases f with|none=>cases hp|some g=>exact pO _ (jA.mpr ⟨p,hp,rfl⟩)
   .exact pO _ (jA.mpr ⟨p,hp,rfl⟩)⟩
 have hl:(f6 f tv own hs).length<=900:=by rw[<-cG (f:=λp:Str×D=>p.1),hks,M.ck];have:=M.tl;have:=M.ol;have:=M.hl;simp only[cH,cG];lia
 have r1:=Wy (P:=P) (n:=n+15) (un:=sd z i 25) (F:=fT fs) (λg e=>(F.f i g (e▸hf)).ok) C (λp hp=>(hv p hp).o) T (λx hx=>hks▸hx) hl hd hx h9;rw[show(tv.map λt=>p2 t.1)=tk.map p2 from by rw[etk,mS];rfl]at r1;have U:FU c (yP z i tk own dds xs) _:=.mk (Za.nm (by lia) (by decide)) (λt ht=>by obtain⟨j,g,hj,_,_,A,e1,_,k,_,hk,e2⟩:=o7 F (M.tt t ht);rw[<-e1,A.n,e2];exact⟨Za.nm (by lia) (by decide),Za.nm (by lia) (by lia)⟩) (by have:=M.tl;lia) (λx hx=>by obtain⟨k,_,h,rfl⟩:=M.ow x hx;exact Za.nm (by lia) (by lia)) (by have:=M.ol;lia) hd (by lia) hx h9;obtain⟨r2,r3⟩:=Wf (P:=P) (n:=n+2) C U;refine⟨r1,⟨_,r2,r3⟩,Km ?_⟩;exact kJ tN (kJ (jS (nZ (C2 tk)) (by decide)) (kJ (jS (nZ (k:=0) (by rw[oK];exact cZ _)) (by decide)) (kJ (jS (nZ (ju (k:=15) (λ_ _ _ h=>W0 h) hd)) (by decide)) (kJ (jS (nZ (ju (k:=12) (λ_ _ _ h=>C5 3 h) hx)) (by decide)) vU))))
theorem Ks:∀ds:bA (Str×bD),depL (ds.map dP)<=1| []=>vU|p::ds=>kJ (nZ (k:=0) (kJ tN (kJ (by simp[gT]) vU))) (Ks ds)
abbrev C7(C:CT):MS:=bY (gZ 2 (mB (m2 (jQ bC) @3 (kc .n)))) (bL (nJ 2 (3^^^0) (mA (C .read) {(mA (C .q49) {@3})})) (bY (gZ 2 (mB (m2 kH (m2 cV @2 (3^^^0)) @3))) (bW (kc (.b bH))) (cE))) (cE)
abbrev W8(C:CT):MS:=bL (bY (gZ 2 (mB (m2 (jQ bC) (mA (C .q20) {@4,(eX (wO @2)),@3}) (kc .n)))) (bW (kc (.b bH))) (cE)) (bL (cR 5 (mA (C .read) {(mA (C .q49) {@4})})) (bY (gZ 2 (kO (mB (m2 kH @5 @4)) (mB (m2 (jQ bC) (mA (C .q20) {@5,@2,@3}) (kc .n))))) (bW (kc (.b bH))) (cE)))
theorem C8{X Ya:Slot}:∀{gs:bA (bQ Fc)} {ys:bA D} (T:R.Tab) (a b:Slot),ys.length=gs.length->(∀(j:bD) (y:D),ys[j]? =some y->∃f u,gs[j]? =some f/\y=D.t [oF f,u])->(∀g,some g∈gs->g.ok)->(T.map (·.1)++(fT gs).map (·.1)).Nodup->T.length+gs.length<=900->∃a' b',Ok (jK 3 4 (C7 (P (n+39))) ys [X,Ya,.dic bH T,a,b,.no]) (.nx [X,Ya,.dic bH (T++fT gs),a',b',.no])
 | [],ys,T,a,b,hl,_,_,_,_=>by
  cases ys with
  |nil=>exact⟨a,b,by rw[fT,kK];infer_instance⟩|cons _ _=>cases hl
 |f::gs,[],T,a,b,hl,_,_,_,_=>by cases hl|f::gs,y::ys,T,a,b,hl,hy,hg,hn,hm=>by
  obtain⟨f',u,e1,rfl⟩:=hy 0 y rfl;cases e1;rw[dC]at hm;have hl':ys.length=gs.length:=by simpa using hl
  have hy':∀(j:bD) (y:D),ys[j]? =some y->∃f u,gs[j]? =some f/\y=D.t [oF f,u]:=λj y h=>hy (j+1) y h
  have hg':∀g,some g∈gs->g.ok:=λg h=>hg g (gI _ h)
  cases f with
  |none=>obtain⟨a',b',q⟩:=C8 (X:=X) (Ya:=Ya) T (.val .n) (.val u) hl' hy' hg' hn (by lia);exact⟨a',b',(inferInstance:Ok (jK 3 4 (C7 (P (n+39))) (.t [.n,u]::ys) [X,Ya,.dic bH T,a,b,.no]) _)⟩|some g=>have G:=hg g fW;have hn':(T.map (·.1)++(g.nm::(fT gs).map (·.1))).Nodup:=hn;have i1:Tn T g.nm:=⟨λq=>(pC.mp hn').2.2 _ q _ fW rfl⟩;obtain⟨i2,i3⟩:=We (P:=P) (n:=n+29) G;have i4:Tg (T++ [(g.nm,g.d)]) g.nm g.d:=⟨ag (by rw[lR];exact pC.mpr ⟨(pC.mp hn').1,by simp,λx hx y hy e=>by rw[tP.mp hy]at e;have e:x=g.nm:=e;exact i1.e (e▸hx)⟩) (by simp)⟩;have i5:Ok (kH g.d g.d) (.b bH):=Km (kJ tN (kJ (jS (nZ (k:=0) (by rw[oK];exact cZ _)) (by decide)) (kJ (jS (nZ (Ks g.ds)) (by decide)) vU)));have i6:=kC (a:=T.length) (b:=1) (by lia);obtain⟨a',b',q⟩:=C8 (X:=X) (Ya:=Ya) (T++ [(g.nm,g.d)]) (.val g.d) (.val u) hl' hy' hg' (by rw[lR,pP];exact hn') (by rw[cH];show _+1+_<=_;lia);refine⟨a',b',?_⟩;rw[show T++fT (some g::gs)=T++ [(g.nm,g.d)]++fT gs from by rw[fT];simp];unfold Fc.d at i2 i3 i4 i5 q;exact(inferInstance:Ok (jK 3 4 (C7 (P (n+39))) (.t [.t [bE g.nm,.t (g.ws.map bE),.t (g.ds.map dP)],u]::ys) [X,Ya,.dic bH T,a,b,.no]) _)
theorem Kt{X Ya:Slot}(Za:wV z)(F:nY z fs):∀{ys:bA D} (a b e:Slot),(∀y∈ys,∃i,Pr z fs i y)->∃a' b' e',Ok (jK 3 4 (W8 (P (n+39))) ys [X,Ya,.val (dR (fT fs)),a,b,e]) (.nx [X,Ya,.val (dR (fT fs)),a',b',e'])
 | [],a,b,e,_=>⟨a,b,e,inferInstance⟩|y::ys,a,b,e,h=>by
  obtain⟨i,f,c,tk,own,hs,W,E,dds,xs,l,l',u,h1,rfl,M,h2,h3,h4,h5⟩:=h y fW;obtain⟨r1,⟨w,r2,r3⟩,r4⟩:=W7 (P:=P) (n:=n) Za F h1 M h2 h3 h4 h5;obtain⟨a',b',e',q⟩:=Kt (X:=X) (Ya:=Ya) Za F (.val (oF f)) (.val (yP z i tk own dds xs)) (.val (yP z i tk own dds xs)) λy hy=>h y (gI _ hy)
  exact⟨a',b',e',inferInstance⟩
theorem W9(ns:bA bG):Ok (P (n+40) .law [.l (ns.map bF)]) (.b bC):=by
 obtain⟨z,z1,z2,S⟩:=WO (kR ns 0);have Za:wV z:=⟨z1,z2⟩;obtain⟨fs,ys,F,i1,hl,hp⟩:=WX (P:=P) (n:=n+24) (ns:=ns) Za S;obtain⟨a,b,i2⟩:=C8 (P:=P) (n:=n) (X:=.val (.l (ns.map bF))) (Ya:=.val (.l ys)) (gs:=fs) (ys:=ys) [] .no .no hl (λj y h=>by obtain⟨f,c,tk,own,hs,W,E,dds,xs,l,l',u,h1,h2,_⟩:=hp j y h;exact⟨f,_,h1,h2⟩) (λg h=>by obtain⟨_,_,A⟩:=F.ix h;exact A.ok) F.nd (by have:=F.l;show 0+_<=_;lia);rw[LV]at i2;obtain⟨a',b',e',i3⟩:=Kt (P:=P) (n:=n) (X:=.val (.l (ns.map bF))) (Ya:=.val (.l ys)) Za F (ys:=ys) a b .no λy hy=>by obtain⟨j,hj,e⟩:=Dx.mp hy;exact⟨j,hp j y (by rw[nO hj,e])⟩
 refine fJ (n:=n+37) (g:=Cw (P (n+39)) (P (n+37))) (O:= #[.l (ns.map bF),(),(),(),(),()]) bO (q:=?_);unfold Cw
 infer_instance
end
instance:Fu Ph:=⟨λ_=>rfl⟩
theorem Xa(ns:bA bG):Ph 87 .law [.l (ns.map bF)]= .ok (.b bC):=(W9 (P:=Ph) (n:=47) ns).e
end
noncomputable def al:bA bJ->bA Str->bU| [],[]=>bC| .str x _::r,y::s=>x==y&&al r s|_,_=>bH
theorem Ku:∀{its:bA bJ} {ts:bA Str},al its ts=bC->cW (ts.map V.str) its| [],[],_=>.nil| .str x t::r,y::s,h=>by rw[al,dB]at h;have e:x=y:=dW h.1;subst e;exact .cons ⟨t,rfl⟩ (Ku h.2)
section
variable [fZ] [Pd]
theorem pe{K:cD}{mg:Str->bQ bJ}{x:Str}{p:bI}{sl:fQ (bQ bJ)}{its:fQ bJ}{n:bD}{ts:bA Str}(hm:mg x=bB (.ref p))(hk:K.lookup p=bB ⟨.type "tuple",bK,.seq its n,sl⟩)
 (hz:ts.length<=1000) (hl:(ts.all λt=>cN (t.length<=1000))=bC) (hv:al its.toList ts=bC):xX K mg x (.t (ts.map .str)):=
 RW (its:=its.toList) (n:=n) hm hk ⟨rfl,rfl⟩ (by simp) hz (λt ht=>small1000' (mJ (qR.mp hl t ht))) (Ku hv)
 where small1000' {n:bD} (h:n<=1000):n<=cJ:=qc (FT h)
noncomputable def vt:bA bJ->Str->bG->bU| [.str x _,.int j _],s,i=>x==s&&j==i|_,_,_=>bH
theorem Xb{K:cD}{mg:Str->bQ bJ}{x:Str}{p:bI}{sl:fQ (bQ bJ)}{its:fQ bJ}{n:bD}{s:Str}{i:bG}(hm:mg x=bB (.ref p))(hk:K.lookup p=bB ⟨.type "tuple",bK,.seq its n,sl⟩)(hs:s.length<=1000)(hv:vt its.toList s i=bC):xX K mg x (.t [.str s,.int i]):=by
 obtain⟨l⟩:=its;replace hv:vt l s i=bC:=hv;unfold vt at hv;split at hv
 .rename_i y t j u;rw[dB]at hv;cases dW hv.1;cases dW hv.2;refine⟨.ref p,.ref p,hm,rfl,λF=>?_⟩;have hz:=sR;simp only[bM];refine⟨p,[V.str s,V.int i],rfl,.inr ⟨_,_,_,hk,⟨rfl,rfl⟩,rfl,by show 2<=cJ;lia,.cons ⟨t,rfl⟩ (.cons ⟨u,rfl⟩ .nil)⟩,DatL.cons ?_ (DatL.cons ?_ DatL.nil)⟩
  .simp only[bM];exact⟨trivial,by lia⟩
  .simp only[bM]
 .cases hv
def pf(K:cD):bA xG->bA (Str×bA Str)->bU
 | [],[]=>bC
 |e::es,(x,ts)::r=>(match e.key with| .str y _=>y==x|_=>bH)&&(match e.val with
  | .ref p=>(match K.lookup p with|some ⟨.type "tuple",none,.seq its _,_⟩=>al its.toList ts|_=>bH)
  |_=>bH)&&pf K es r
 |_,_=>bH
theorem Kv{w:cF}{K:cD}{Ps:bA bI}{bm:bI}{ob:cQ}{h:cB}(U:nW K Ps bm ob h):∀{es:bA xG} {ft:bA (Str×bA Str)},pf K es ft=bC->es.map (·.hash)=(ft.map λp=>ra w p.1)->(ft.all λp=>cN (p.2.length<=1000)&&p.2.all λt=>cN (t.length<=1000))=bC->
 wM w (qN K Ps bm ob) es (ft.map λp=>(p.1,.t (p.2.map .str)))
 | [],[],_,_,_=>trivial| [],_::_,h,_,_=>by cases h|_::_,[],h,_,_=>by cases h|e::es,(x,ts)::r,h1,h2,h3=>by
  rw[pf,dB,dB]at h1;simp only[dY,p0]at h2;rw[lS,dB,dB,decide_eq_true_eq]at h3;refine⟨h2.1,?_,?_,Kv U h1.2 h2.2 h3.2⟩
  .have hk:=h1.1.1;split at hk
   .rename_i y t e1;exact⟨t,by rw[e1,dW hk]⟩
   .cases hk
  .have hv:=h1.1.2;split at hv
   .rename_i p e1;split at hv
    .rename_i its nn sl e2;rw[e1];refine⟨.ref p,rfl,λF=>?_⟩;have gc:=pe (mg:=λ_=>bB (.ref p)) (x:="x") bO (U.up e2 λz=>by cases z) h3.1.1 h3.1.2 hv;obtain⟨v,u,g1,g2,g3⟩:=gc.ex;cases g1;have:v= .ref p:=by
      cases v<;>first| (cases g2;rfl)| (obtain⟨_,z⟩:=g2;cases z)|cases g2
     subst this;exact g3 F
    .cases hv
   .cases hv
theorem Xc{w:cF}{K:cD}{mg:Str->bQ bJ}{Ps:bA bI}{bm:bI}{ob:cQ}{h:cB}{x:Str}{p:bI}{es:fQ xG}{ep:bD}{ft:bA (Str×bA Str)}(U:nW K Ps bm ob h)(hm:mg x=bB (.ref p))(hs:(p==qU)=bH)(hk:K.lookup p=bB ⟨.type "dict",bK,.dict es ep, #[]⟩)
 (h1:pf K es.toList ft=bC) (h2:es.toList.map (·.hash)=ft.map λp=>ra w p.1) (h3:(ft.all λp=>cN (p.2.length<=1000)&&p.2.all λt=>cN (t.length<=1000))=bC):bf w (qN K Ps bm ob) mg x (ft.map λp=>(p.1,.t (p.2.map .str))):=
 ⟨⟨p,es,ep,hm,hs,(U.up hk λz=>by cases z),Kv U h1 h2 h3⟩⟩
def Kw:bA (Str×bA Str):=[("let",["WORD","be","EXPRESSION"]),("if",["EXPRESSION","then","BLOCK","else","BLOCK"]),("while",["EXPRESSION","do","BLOCK"]),("do",["DEED","PARTS"]),("give",["EXPRESSION"]),("tell",["EXPRESSION"]),("get",["WORD"]),("new",["WORD","deed","DEED"]),("hand",["WORD","to","EXPRESSION"]),("await",["WORD","and","WORD"])]
variable{P:fM}{w:cF}{K:cD}{mg:Str->bQ bJ}{base:cB}
noncomputable def isM:Fn->bU| .q75=>bC| .q76=>bC| .skip=>bC| .q78=>bC|_=>bH
noncomputable def kd:Fn->bD| .q21=>1| .q22=>4| .q23=>3| .q24=>4| .q34=>2| .q35=>2| .q36=>2| .q37=>2| .q38=>2| .q39=>2| .q40=>2| .q41=>2| .q42=>2| .q43=>2| .q45=>2| .q46=>2| .q47=>2| .q75=>2| .q76=>2| .skip=>2| .q78=>2|_=>0
noncomputable def qn:Fn->Str| .q75=>"WordRow.ahead"| .q76=>"WordRow.taken"| .skip=>"WordRow.skip"| .q78=>"WordRow.is_over"|f=>nm f
abbrev Kx(K:cD)(r:bD)(m:bA D->bP D):Sp:=match r with|0=>pJ K m|1=>eZ K m|n+2=>wN K n (pX m)
abbrev yQ(P:fM)(w:cF)(K:cD)(mg:Str->bQ bJ)(base:cB)(t:Fn->bI×gJ)(n:bD)(C:CT):Prop:=∀f,dZ P w K mg base fF n (t f).1 (t f).2 (pl f) (Kx K (kd f) (C f))
structure vv(w:cF)(K:cD)(mg:Str->bQ bJ)(t:Fn->bI×gJ)(fI:bI)(dI:gJ):Prop where
 F:∀f,hO K (nm f) (qn f) (st f) (t f).1 (t f).2
 m:∀f,isM f=bH->mg (nm f)=bB (.ref (t f).1)
 e:∀f,isM f=bC->aO K fZ.rc (nm f) (t f).1
 u:∀f,lH K (t f).2 (pl f) []
 c:eW K
 i:hO K "__init__" "WordRow.__init__" oo fI dI
 ib:lH K dI ["self","text"] []
 ic:mg "WordRow" =bB (.ref fZ.rc)
 im:L2.Mk K fZ.rc fI
 L9:ur K mg (t .q9).2 u5 "are_parts_within.<locals>.<lambda>"
 L11:ur K mg (t .q11).2 u6 "is_block_within.<locals>.<lambda>"
 bs:∀x,bsL.contains x=bC->mg x=bK
 cs:∀x d,CD.lookup x=bB d->xX K mg x d
 ts:∀x t,IK.lookup x=bB t->bf w K mg x t
theorem vx{α:Type}{l:bA α}{g:α->Fn}{r:α->bD}{m:bU}(h:(l.all λf=>kd (g f)==r f&&isM (g f)==m)=bC):∀f∈l,kd (g f)=r f/\isM (g f)=m:=λf hf=>by have:=qR.mp h f hf;rw[dB,qW,qW]at this;exact this
theorem Ky:∀f∈oE,kd f=0/\isM f=bH:=vx (g:=id) (r:=λ_=>0) bO
theorem Kz:∀f∈IJ,kd f=1/\isM f=bH:=vx (g:=id) (r:=λ_=>1) bO
theorem KA:∀q∈IH,kd q.1=q.2+2/\isM q.1=bH:=vx (g:=λq:Fn×bD=>q.1) (r:=λq=>q.2+2) bO
theorem KB:∀f∈uZ,kd f=2/\isM f=bC:=vx (g:=id) (r:=λ_=>2) bO
theorem Xd:∀f∈uZ,(nm f==("words" :Str))=bH/\(nm f==("place" :Str))=bH:=by
 have h:((uZ).all λf=> !(nm f==("words" :Str))&& !(nm f==("place" :Str)))=bC:=by decide+kernel
 intro f hf;have:=qR.mp h f hf;rw[dB,j5,j5]at this;exact this
theorem yQ.a{t:Fn->bI×gJ}{n r:bD}{C:CT}(Oa:yQ P w K mg base t n C){f:Fn}{m:bU}(h:kd f=r/\isM f=m):dZ P w K mg base fF n (t f).1 (t f).2 (pl f) (Kx K r (C f)):=by have:=Oa f;rw[h.1]at this;exact this
theorem KC{t:Fn->bI×gJ}{fI:bI}{dI:gJ}{n:bD}{C:CT}(S:vv w K mg t fI dI)(Oa:yQ P w K mg base t n C):af P w K mg base n C:=
 ⟨λx m h=>by obtain⟨f,i,rfl,rfl⟩:=oG h;exact⟨⟨_,_,_,yQ.a Oa (Ky f i),S.m f (Ky f i).2,(S.F f).kp,S.u f⟩⟩⟩
theorem Xe{t:Fn->bI×gJ}{fI:bI}{dI:gJ}{n:bD}{C:CT}(S:vv w K mg t fI dI)(Oa:yQ P w K mg base t (n+2) C):Tab P w K mg base (n+2) C:=
 ⟨⟨(KC S Oa).k,S.cs,S.ts,S.bs,λx m h=>by
  obtain⟨f,i,rfl,rfl⟩:=oG h;exact⟨⟨_,_,_,yQ.a Oa (KA f i),S.m f.1 (KA f i).2,(S.F f.1).kp,S.u f.1⟩⟩,λx m h=>by
  obtain⟨f,i,rfl,rfl⟩:=oG h;exact⟨S.c.c,⟨_,_,_,yQ.a Oa (KB f i),S.e f (KB f i).2,S.u f⟩,Xd f i⟩,λx m h=>by
  obtain⟨f,i,rfl,rfl⟩:=oG h;exact⟨⟨_,_,_,yQ.a Oa (Kz f i),S.m f (Kz f i).2,(S.F f).kp,S.u f⟩⟩,λx h=>by
  rw[tP.mp (ca.mp h)];exact⟨S.c,n+1,rfl,⟨⟨_,_,_,Ui S.i ⟨rfl,rfl,rfl,by decide+kernel,rfl,by decide+kernel,by decide+kernel⟩ S.c (by rfl) ⟨rfl,pS (by kernel_rfl),(by kernel_rfl),(by kernel_rfl)⟩ ⟨rfl,pS (by kernel_rfl),(by kernel_rfl),(by kernel_rfl)⟩ (by rfl),S.ic,S.im,S.ib⟩⟩⟩⟩,⟨_,_,S.F .q4,S.m .q4 rfl,S.u .q4⟩⟩
theorem C9{t:Fn->bI×gJ}{n:bD}{C:CT}(h:∀f ds,C f ds= .bad):yQ P w K mg base t n C:=λf=>by
 generalize kd f=r
 match r with
 |0=>exact G3 (h f)|1=>exact U3 (h f)|n+2=>exact U2 (h f)
theorem Da{t:Fn->bI×gJ}{fI:bI}{dI:gJ}(S:vv w K mg t fI dI):∀(n:bD) (base:cB),yQ P w K mg base t n (Ph n)
 |0,_=>C9 λ_ _=>rfl|1,_=>C9 λ_ _=>rfl|2,_=>C9 λ_ _=>rfl|n+3,base=>λf=>by
  have T:∀b:cB,Tab P w K mg b (n+2) (Ph (n+2)):=λb=>Xe S (Da S (n+2) b)
  have T0:∀b:cB,af P w K mg b n (Ph n):=λb=>KC S (Da S n b)
  cases f with
  |q4=>exact G3 λ_=>rfl|q5=>exact Ve (S.F .q5) T T0|q16=>exact Vv (S.F .q16) T T0|q18=>exact Vy (S.F .q18) T T0|q9=>exact Vl (S.F .q9) T T0 S.L9|q11=>exact Vt (S.F .q11) T T0 S.L11|q20=>exact rk _ {ow:=["top"],fz:=[(114,3)],ri:=bB 3} (S.F _) (T base)|q21=>exact U5 _ {ow:=["meanings"]} (S.F _) (T base)|q22=>exact CF _ 2 {ow:=["told"],fz:=[(130,5)],vw:=["top"],ri:=bB 2} (S.F _) (T base)|q23=>exact CF _ 1 {vw:=["top"],ri:=bB 1} (S.F _) (T base)|q24=>exact CF _ 2 {ow:=["awaited"],vw:=["awaited","top"],ri:=bB 3} (S.F _) (T base)|q25=>exact rk _ {ow:=["meanings"],fz:=[(161,3)]} (S.F _) (T base)|q28=>exact rk _ {ow:=["uses"],fz:=[(183,1)]} (S.F _) (T base)|q29=>exact rk _ {ow:=["uses"],fz:=[(192,1)]} (S.F _) (T base)|q32=>exact rk _ {ow:=["uses"],fz:=[(216,1)]} (S.F _) (T base)|read=>exact rk _ {ow:=["row"],ri:=bB 1} (S.F _) (T base)|q34=>exact pZ _ {ow:=["deeds"],fz:=[(263,3)],ri:=bB 0} (S.F _) (T base)|q35=>exact pZ _ {ow:=["deeds","takes"],fz:=[(275,4),(271,2)],ri:=bB 0} (S.F _) (T base)|q36=>exact pZ _ {ri:=bB 0} (S.F _) (T base)|q37=>exact pZ _ {ow:=["names"],fz:=[(289,1)],ri:=bB 0} (S.F _) (T base)|q38=>exact pZ _ {ri:=bB 0} (S.F _) (T base)|q39=>exact pZ _ {ow:=["names"],fz:=[(301,2)],ri:=bB 0} (S.F _) (T base)|q40=>exact pZ _ {ow:=["statements"],fz:=[(307,2)],ri:=bB 0} (S.F _) (T base)|q41=>exact pZ _ {ow:=["parts"],fz:=[(320,3)],ri:=bB 0} (S.F _) (T base)|q42=>exact pZ _ {ri:=bB 0} (S.F _) (T base)|q43=>exact pZ _ {ri:=bB 0} (S.F _) (T base)|q45=>exact pZ _ {ri:=bB 0} (S.F _) (T base)|q46=>exact pZ _ {ri:=bB 0} (S.F _) (T base)|q47=>exact pZ _ {ri:=bB 0} (S.F _) (T base)|q50=>exact rk _ {ow:=["words"],fz:=[(378,1)]} (S.F _) (T base)|q51=>exact rk _ {ow:=["words"],fz:=[(386,1)]} (S.F _) (T base)|q52=>exact rk _ {ow:=["words"],fz:=[(391,1)]} (S.F _) (T base)|q54=>exact rk _ {ow:=["words"],fz:=[(398,1)]} (S.F _) (T base)|q55=>exact rk _ {ow:=["words"],fz:=[(408,1)]} (S.F _) (T base)|q58=>exact rk _ {ow:=["words"],fz:=[(430,1)]} (S.F _) (T base)|q70=>exact rk _ {ow:=["_law_found"],fz:=[(527,3)],vw:=["_law_found"]} (S.F _) (T base)|q72=>exact rk _ {ow:=["_law_made"],fz:=[(556,12)]} (S.F _) (T base)|law=>exact rk _ {ow:=["_law_faces"],fz:=[(573,2)],vw:=["_law_faces"]} (S.F _) (T base)|q75=>exact pZ _ {ri:=bB 0} (S.F _) (T base)|q76=>exact pZ _ {ri:=bB 0} (S.F _) (T base)|skip=>exact pZ _ {ri:=bB 0} (S.F _) (T base)|q78=>exact pZ _ {ri:=bB 0} (S.F _) (T base)|_=>exact rk _ {} (S.F _) (T base)
theorem un{α:Type}{n:bD}{l:bA α}(h:l.length=n+1):∃a r,l=a::r/\r.length=n:=by
 cases l with
 |nil=>cases h|cons a r=>exact⟨a,r,rfl,Mt h⟩
theorem KD{α:Type}{l:bA α}(h:l.length=1):∃a,l= [a]:=let ⟨a,_,e,h⟩:=un h;⟨a,wb.mp h▸e⟩
theorem Db{α:Type}{l:bA α}(h:l.length=2):∃a b,l= [a,b]:=let ⟨a,_,e,h⟩:=un h;let ⟨b,z⟩:=KD h;⟨a,b,z▸e⟩
theorem KE{α:Type}{l:bA α}(h:l.length=3):∃a b c,l= [a,b,c]:=let ⟨a,_,e,h⟩:=un h;let ⟨b,c,z⟩:=Db h;⟨a,b,c,z▸e⟩
theorem KF{α:Type}{l:bA α}(h:l.length=4):∃a b c d,l= [a,b,c,d]:=let ⟨a,_,e,h⟩:=un h;let ⟨b,c,d,z⟩:=KE h;⟨a,b,c,d,z▸e⟩
theorem KG{α:Type}{l:bA α}(h:l.length=5):∃a b c d k,l= [a,b,c,d,k]:=let ⟨a,_,e,h⟩:=un h;let ⟨b,c,d,k,z⟩:=KF h;⟨a,b,c,d,k,z▸e⟩
theorem Xf{α:Type}{l:bA α}(h:l.length=6):∃a b c d k g,l= [a,b,c,d,k,g]:=let ⟨a,_,e,h⟩:=un h;let ⟨b,c,d,k,g,z⟩:=KG h;⟨a,b,c,d,k,g,z▸e⟩
theorem Xg{f:Fn}{a:bI}{d:gJ}(F:hO K (nm f) (qn f) (st f) a d):lH K d (pl f) []:=hO.binds F λkV doc pm an cdv ct us hl=>by cases f<;>first| (obtain⟨_,rfl⟩:=KD hl;rfl)| (obtain⟨_,_,rfl⟩:=Db hl;rfl)| (obtain⟨_,_,_,rfl⟩:=KE hl;rfl)| (obtain⟨_,_,_,_,rfl⟩:=KF hl;rfl)| (obtain⟨_,_,_,_,_,rfl⟩:=KG hl;rfl)| (obtain⟨_,_,_,_,_,_,rfl⟩:=Xf hl;rfl)
theorem Xh{a:bI}{d:gJ}(F:hO K "__init__" "WordRow.__init__" oo a d):lH K d ["self","text"] []:=hO.binds F λkV doc pm an cdv ct us hl=>by obtain⟨_,_,rfl⟩:=Db hl;rfl
end
abbrev Fd(x q:Str)(s:dN)(kV dc pm:bJ)(an:bQ bI)(cd ct:bJ):gJ:=iz x q (lu s) (kM s) (dA s) .none kV dc pm an cd ct
abbrev Ob(oc:bJ)(od:bQ bI)(d:gJ)(sl:fQ (bQ bJ)):cQ:=⟨oc,od,.func d,sl⟩
abbrev Pa(K:cD)(C:bI)(m:bU)(x:Str)(f:bI):Prop:=match m with|false=>lC K gM x=bB (bB (.ref f))|true=>aO K C x f
abbrev Df(K:cD)(C:bI)(m:bU)(x q:Str)(s:dN):Prop:=∃p:bI×gJ,Pa K C m x p.1/\hO K x q s p.1 p.2
theorem dmk{K:cD}{C:bI}{x q:Str}{s:dN}{f:bI}{oc:bJ}{od an:bQ bI}{kV dc pm cd ct:bJ}{sl:fQ (bQ bJ)}(a:lC K gM x=bB (bB (.ref f)))(l:K.lookup f=bB (Ob oc od (Fd x q s kV dc pm an cd ct) sl))(c:aG K cd q=bC)(k:lY K (.ref f)=bC):Df K C bH x q s:=⟨(f,_),a,zo l c k⟩
theorem dmkM{K:cD}{C:bI}{x q:Str}{s:dN}{f:bI}{oc:bJ}{od an:bQ bI}{kV dc pm cd ct:bJ}{sl:fQ (bQ bJ)}(a:pD K (.ref C) x=bB (bB (.ref f)))(l:K.lookup f=bB (Ob oc od (Fd x q s kV dc pm an cd ct) sl))(c:aG K cd q=bC)(k:lY K (.ref f)=bC)(i:aL K (.ref f)=bC):Df K C bC x q s:=⟨(f,_),⟨a,i,k⟩,zo l c k⟩
theorem Xi{K K':cD}{C:bI}{x y q:Str}{s:dN}{f:bI}{d:gJ}(U:zZ K K')(m:aO K C y f)(F:hO K x q s f d):aO K' C y f:=by obtain⟨_,_,_,_,_,_,_,_,_,_,e,_⟩:=F.ex;have:=IC U m.fn m.kp e;exact⟨fe U m.at_,this.1,this.2⟩
theorem KH{K:cD}{x q:Str}{s:dN}{f g:bI}{d e:gJ}{oc:bJ}{od:bQ bI}{sl:fQ (bQ bJ)}(a:lC K gM x=bB (bB (.ref f)))(l:K.lookup f=bB (Ob oc od e sl))(h:lC K gM x=bB (bB (.ref g)))(F:hO K x q s g d):d=e:=by cases a.symm.trans h;obtain⟨_,_,_,_,_,_,_,_,_,r,k,_⟩:=F.ex;cases l.symm.trans k;exact r.symm▸rfl
theorem all_mk{l:qw}{C:bI}{w:cF}{K:cD}{h:cB}{mg:Str->bQ bJ}{fa:bI}(X:K.In h)(G:h.Ns gM mg)(hfa:mg "law" =bB (.ref fa))
 (hbm:∃bm ob,mg "__builtins__" =bB (.ref bm)/\bm≠xB/\h.get? bm=bB ob/\ob.cls= .type "module" /\ob.dict=bB xB/\ob.data= .plain)
 (cC:lC K gM "WordRow" =bB (bB (.ref C))) (cl:K.lookup C=bB ⟨.type "type",odC,.cls cdC,slC⟩) (cg:g7 K C Str.empty=bC) (ch:gx K C=bC) (co:qh K C=bC) (cs:pD K (.ref C) "__setattr__" =bB (bB (.builtin "object.__setattr__")))
 (cw:pD K (.ref C) "words" =bB bK) (cp:pD K (.ref C) "place" =bB bK) (cm:qq K C=bC) (ck:lY K (.ref C)=bC)
 (ia:pD K (.ref C) "__init__" =bB (bB (.ref fI))) (il:K.lookup fI=bB (Ob ocI odI (Fd "__init__" "WordRow.__init__" oo kVI dcI pmI anI cdI ctI) slI)) (ic:aG K cdI "WordRow.__init__" =bC) (ik:lY K (.ref fI)=bC) (ii:aL K (.ref fI)=bC)
 (D:∀f,Df K C (isM f) (nm f) (qn f) (st f))
 (a9:lC K gM "are_parts_within" =bB (bB (.ref f9))) (l9:K.lookup f9=bB (Ob oc9 od9 (Fd "are_parts_within" "are_parts_within" s9 kV9 dc9 pm9 an9 cd9 ct9) sl9))
 (a11:lC K gM "is_block_within" =bB (bB (.ref f11))) (l11:K.lookup f11=bB (Ob oc11 od11 (Fd "is_block_within" "is_block_within" lP kV11 dc11 pm11 an11 cd11 ct11) sl11))
 (v9:cd9= .ref ca9) (w9:K.lookup ca9=bB ⟨.type "code",oda9,.fields vs9,sla9⟩) (qa9:vs9[11]? =bB (.ref pt9)) (qb9:vs9.getD 18 .none= .str file9 tf9) (qc9:vs9.getD 7 .none= .int flags9 tg9) (qd9:vs9.getD 9 .none= .bool inF9) (qe9:vs9.getD 10 .none= .int text9 tt9) (x9:h.get? pt9=bB (aH #[]))
 (v11:cd11= .ref ca11) (w11:K.lookup ca11=bB ⟨.type "code",oda11,.fields vs11,sla11⟩) (qa11:vs11[11]? =bB (.ref pt11)) (qb11:vs11.getD 18 .none= .str file11 tf11) (qc11:vs11.getD 7 .none= .int flags11 tg11) (qd11:vs11.getD 9 .none= .bool inF11) (qe11:vs11.getD 10 .none= .int text11 tt11) (x11:h.get? pt11=bB (aH #[]))
 (ne9_11:pt9≠pt11)
 (Za:∀x∈bsL,lC K gM x=bB bK)
 (e_GREATEST_NUMBER:lC K gM "GREATEST_NUMBER" =bB (bB (.int (999999) i_GREATEST_NUMBER)))
 (e_KEPT_WORDS:lC K gM "KEPT_WORDS" =bB (bB (.ref p_KEPT_WORDS))) (l_KEPT_WORDS:K.lookup p_KEPT_WORDS=bB ⟨.type "tuple",bK,.seq its_KEPT_WORDS n_KEPT_WORDS,sl_KEPT_WORDS⟩) (t_KEPT_WORDS:al its_KEPT_WORDS.toList ab=bC)
 (e_MOST_AROUND:lC K gM "MOST_AROUND" =bB (bB (.int (12) i_MOST_AROUND)))
 (e_MOST_DEEDS:lC K gM "MOST_DEEDS" =bB (bB (.int (6) i_MOST_DEEDS)))
 (e_MOST_LETTERS:lC K gM "MOST_LETTERS" =bB (bB (.int (8) i_MOST_LETTERS)))
 (e_MOST_OWNS:lC K gM "MOST_OWNS" =bB (bB (.int (6) i_MOST_OWNS)))
 (e_MOST_PARAMS:lC K gM "MOST_PARAMS" =bB (bB (.int (4) i_MOST_PARAMS)))
 (e_MOST_PARTS:lC K gM "MOST_PARTS" =bB (bB (.int (4) i_MOST_PARTS)))
 (e_MOST_TAKES:lC K gM "MOST_TAKES" =bB (bB (.int (8) i_MOST_TAKES)))
 (e_MOST_WORDS:lC K gM "MOST_WORDS" =bB (bB (.int (6) i_MOST_WORDS)))
 (e_NAME_SORTS:lC K gM "NAME_SORTS" =bB (bB (.ref p_NAME_SORTS))) (l_NAME_SORTS:K.lookup p_NAME_SORTS=bB ⟨.type "tuple",bK,.seq its_NAME_SORTS n_NAME_SORTS,sl_NAME_SORTS⟩) (t_NAME_SORTS:al its_NAME_SORTS.toList fh=bC)
 (e_PART_SORTS:lC K gM "PART_SORTS" =bB (bB (.ref p_PART_SORTS))) (l_PART_SORTS:K.lookup p_PART_SORTS=bB ⟨.type "tuple",bK,.seq its_PART_SORTS n_PART_SORTS,sl_PART_SORTS⟩) (t_PART_SORTS:al its_PART_SORTS.toList oy=bC)
 (e_SIGNS:lC K gM "SIGNS" =bB (bB (.ref p_SIGNS))) (l_SIGNS:K.lookup p_SIGNS=bB ⟨.type "tuple",bK,.seq its_SIGNS n_SIGNS,sl_SIGNS⟩) (t_SIGNS:al its_SIGNS.toList fj=bC)
 (e_STATEMENT_FORMS:lC K gM "STATEMENT_FORMS" =bB (bB (.ref p_STATEMENT_FORMS))) (l_STATEMENT_FORMS:K.lookup p_STATEMENT_FORMS=bB ⟨.type "dict",bK,.dict es_STATEMENT_FORMS ep_STATEMENT_FORMS, #[]⟩) (t_STATEMENT_FORMS:pf K es_STATEMENT_FORMS.toList Kw=bC) (h_STATEMENT_FORMS:es_STATEMENT_FORMS.toList.map (·.hash)=Kw.map λp=>ra w p.1) (s_STATEMENT_FORMS:(p_STATEMENT_FORMS==qU)=bH)
 (e_WORD:lC K gM "WORD" =bB (bB (.ref p_WORD))) (l_WORD:K.lookup p_WORD=bB ⟨.type "tuple",bK,.seq its_WORD n_WORD,sl_WORD⟩) (t_WORD:vt its_WORD.toList "WORD" 0=bC)
 :∃(T:fZ) (K':cD) (fd:gJ),K'.In h/\(∀t∈T.L,(∃c,h.TableAt c t.1 #[])/\K'.lookup t.1=bK)/\(∀(s:bS) (u:bJ),kn s fd ⟨[u],[]⟩ [("_law_script",u)])/\
  ∀base:cB,K'.In base->base.Ns gM mg->dZ l.prog w K' mg base fF 87 fa fd ["_law_script"] (ul K'):=by
 obtain⟨t,ht⟩:=Classical.axiomOfChoice D;have e:=hfa.symm.trans (pR X G (ht .law).1);cases e;subst v9;subst v11;obtain⟨bm,ob,hm1,hm2,hm3,hm4,hm5,hm6⟩:=hbm
 have U:nW K [pt9,pt11] bm ob h:=⟨X,hm3,hm6,λP hP=>by
  simp only[kS,ax,aI]at hP;rcases hP with rfl|rfl
  .exact x9
  .exact x11⟩
 have hbg:bm≠gM:=λz=>by obtain⟨o,es,ep,e1,e2,_⟩:=G;rw[<-z,hm3]at e1;cases e1;rw[hm6]at e2;cases e2
 letI T:fZ:=⟨[(pt9,u5,"are_parts_within.<locals>.<lambda>"),(pt11,u6,"is_block_within.<locals>.<lambda>")],λt ht u hu e=>by simp only[kS,ax,aI]at ht hu;rcases ht with rfl|rfl<;>rcases hu with rfl|rfl<;>first|rfl|exact dD e (by assumption)|exact dD e.symm (by assumption),C⟩
 have hP9:pt9∈ [pt9,pt11]:=by simp
 have hP11:pt11∈ [pt9,pt11]:=by simp
 have M:zZ K (qN K [pt9,pt11] bm ob):=λb o e z=>U.up e z
 have FI:=zo (st:=oo) il ic ik;have S:vv w (qN K [pt9,pt11] bm ob) mg t fI (Fd "__init__" "WordRow.__init__" oo kVI dcI pmI anI cdI ctI):=by exact⟨λf=>U.fn (ht f).2,λf hf=>by have:=(ht f).1;rw[hf]at this;exact pR X G this,λf hf=>by have:=(ht f).1;rw[hf]at this;exact Xi M this (ht f).2,λf=>Xg (U.fn (ht f).2),⟨qH.up M ⟨cg,ch,co,cs⟩,fe M cw,fe M cp⟩,U.fn FI,Xh (U.fn FI),pR X G cC,R.Mk.up M cm ia ii ik il cl ck,⟨ca9,pt9,by rw[KH a9 l9 (ht .q9).1 (ht .q9).2],fW,λbase hb=>⟨U.hd (oc:=.none) hP9 w9 qa9 qb9 qc9 qd9 qe9 hb,bm,ob,hm1,hm2,hbg,U.ne hP9,hb _ _ U.at',hm4,hm5,hm6⟩⟩,⟨ca11,pt11,by rw[KH a11 l11 (ht .q11).1 (ht .q11).2],(gI _ fW),λbase hb=>⟨U.hd (oc:=.none) hP11 w11 qa11 qb11 qc11 qd11 qe11 hb,bm,ob,hm1,hm2,hbg,U.ne hP11,hb _ _ U.at',hm4,hm5,hm6⟩⟩,λx hx=>W.mg_none_of X G (Za x (ca.mp hx)),rM (zS (pR X G e_GREATEST_NUMBER)) (rM (pe (pR X G e_KEPT_WORDS) (U.up l_KEPT_WORDS λz=>by cases z) (by decide+kernel) (by decide+kernel) t_KEPT_WORDS) (rM (zS (pR X G e_MOST_AROUND)) (rM (zS (pR X G e_MOST_DEEDS)) (rM (zS (pR X G e_MOST_LETTERS)) (rM (zS (pR X G e_MOST_OWNS)) (rM (zS (pR X G e_MOST_PARAMS)) (rM (zS (pR X G e_MOST_PARTS)) (rM (zS (pR X G e_MOST_TAKES)) (rM (zS (pR X G e_MOST_WORDS)) (rM (pe (pR X G e_NAME_SORTS) (U.up l_NAME_SORTS λz=>by cases z) (by decide+kernel) (by decide+kernel) t_NAME_SORTS) (rM (pe (pR X G e_PART_SORTS) (U.up l_PART_SORTS λz=>by cases z) (by decide+kernel) (by decide+kernel) t_PART_SORTS) (rM (pe (pR X G e_SIGNS) (U.up l_SIGNS λz=>by cases z) (by decide+kernel) (by decide+kernel) t_SIGNS) (rM (Xb (pR X G e_WORD) (U.up l_WORD λz=>by cases z) (by decide+kernel) t_WORD) (Iy)))))))))))))),rM (Xc U (pR X G e_STATEMENT_FORMS) s_STATEMENT_FORMS l_STATEMENT_FORMS t_STATEMENT_FORMS h_STATEMENT_FORMS (by decide+kernel)) (Iy)⟩
 refine⟨T,qN K [pt9,pt11] bm ob,_,U.isIn,λt ht=>?_,λs v=>?_,λbase _ _=>RX (Da S 87 base .law) ?_⟩
 .have ht:t∈([(pt9,u5,"are_parts_within.<locals>.<lambda>"),(pt11,u6,"is_block_within.<locals>.<lambda>")]:bA (bI×dJ×Str)):=ht;simp only[kS,ax,aI]at ht;rcases ht with rfl|rfl
  .exact⟨⟨ca9,⟨⟨_,vs9,X _ _ w9,rfl,rfl,qa9⟩,x9⟩⟩,U.no hP9⟩
  .exact⟨⟨ca11,⟨⟨_,vs11,X _ _ w11,rfl,rfl,qa11⟩,x11⟩⟩,U.no hP11⟩
 .obtain⟨_,_,_,_,_,_,_,_,_,r,_⟩:=(ht .law).2.ex;show kn s (t .law).2 _ _;rw[r];exact .of_eq rfl
 .intro ns _;exact Xa ns
end Jm
end
section
open PySem PySem.W PyProof.Rows
set_option maxRecDepth 100000 in
set_option maxHeartbeats 0 in
theorem PySem.Challenge.cw_joinmill_k12_whole_fit_sets_holds : PySem.Challenge.rw_joinmill_k12_whole_fit_sets.Holds := by
 w_on;refine W.holds_law Jm.wsHd λsaid=>?_;refine Jm.hdHd rfl rfl rfl rfl (by assumption) (by decide+kernel) ⟨rfl,rfl,rfl,rfl,rfl,by decide+kernel⟩ ?_ ?_
 .w_witness2
 k_fill
 refine R.walk_ofU (l:=jv) (k:=87) (x:="_law_script") rfl rfl ⟨rfl,by decide,by decide⟩ (λw h Ya=>W.km_in_of Ya) (λw h Ya=>W.km_tabs_of Ya) ?F
 case F=>
  intro w mg fa h KX G hmg hT hbm
  refine' Jm.all_mk KX G hmg hbm ?cC ?cl ?cg ?ch ?co ?cs ?cw ?cp ?cm ?ck ?ia ?il ?ic ?ik ?ii ?D ?a9 ?l9 ?a11 ?l11 ?v9 ?w9 ?qa9 ?qb9 ?qc9 ?qd9 ?qe9 ?x9 ?v11 ?w11 ?qa11 ?qb11 ?qc11 ?qd11 ?qe11 ?x11 ?ne9_11 ?Za ?e_GREATEST_NUMBER ?e_KEPT_WORDS ?l_KEPT_WORDS ?t_KEPT_WORDS ?e_MOST_AROUND ?e_MOST_DEEDS ?e_MOST_LETTERS ?e_MOST_OWNS ?e_MOST_PARAMS ?e_MOST_PARTS ?e_MOST_TAKES ?e_MOST_WORDS ?e_NAME_SORTS ?l_NAME_SORTS ?t_NAME_SORTS ?e_PART_SORTS ?l_PART_SORTS ?t_PART_SORTS ?e_SIGNS ?l_SIGNS ?t_SIGNS ?e_STATEMENT_FORMS ?l_STATEMENT_FORMS ?t_STATEMENT_FORMS ?h_STATEMENT_FORMS ?s_STATEMENT_FORMS ?e_WORD ?l_WORD ?t_WORD
  case cC|cl|cg|ch|co|cs|cw|cp|cm|ck|ia|il|ic|ik|ii=>k_is
  case D=>
   intro f;cases f with
   |q75=>dsimp only[Jm.nm,Jm.st,Jm.tb,Jm.qn,Jm.isM];refine' Jm.dmkM ?a ?l ?c ?k ?i;(case a=>k_is);(case l=>k_is);(case c=>k_is);(case k=>k_is);(case i=>k_is)|q76=>dsimp only[Jm.nm,Jm.st,Jm.tb,Jm.qn,Jm.isM];refine' Jm.dmkM ?a ?l ?c ?k ?i;(case a=>k_is);(case l=>k_is);(case c=>k_is);(case k=>k_is);(case i=>k_is)|skip=>dsimp only[Jm.nm,Jm.st,Jm.tb,Jm.qn,Jm.isM];refine' Jm.dmkM ?a ?l ?c ?k ?i;(case a=>k_is);(case l=>k_is);(case c=>k_is);(case k=>k_is);(case i=>k_is)|q78=>dsimp only[Jm.nm,Jm.st,Jm.tb,Jm.qn,Jm.isM];refine' Jm.dmkM ?a ?l ?c ?k ?i;(case a=>k_is);(case l=>k_is);(case c=>k_is);(case k=>k_is);(case i=>k_is)|_=>dsimp only[Jm.nm,Jm.st,Jm.tb,Jm.qn,Jm.isM];refine' Jm.dmk ?a ?l ?c ?k;(case a=>k_is);(case l=>k_is);(case c=>k_is);(case k=>k_is)
  case a9|l9|a11|l11=>k_is
  case v9=>rfl
  case w9=>k_is
  case qa9|qb9|qc9|qd9|qe9=>rfl
  case x9=>exact hT _ (by decide)
  case v11=>rfl
  case w11=>k_is
  case qa11|qb11|qc11|qd11|qe11=>rfl
  case x11=>exact hT _ (by decide)
  case ne9_11=>decide
  case Za=>intro x hx;simp only[Jm.bsL,kS,ax,aI]at hx;rcases hx with rfl|rfl|rfl|rfl|rfl|rfl|rfl|rfl|rfl|rfl|rfl|rfl|rfl|rfl|rfl<;>k_is
  case e_GREATEST_NUMBER|e_KEPT_WORDS|l_KEPT_WORDS=>k_is
  case t_KEPT_WORDS=>rfl
  case e_MOST_AROUND|e_MOST_DEEDS|e_MOST_LETTERS|e_MOST_OWNS|e_MOST_PARAMS|e_MOST_PARTS|e_MOST_TAKES|e_MOST_WORDS|e_NAME_SORTS|l_NAME_SORTS=>k_is
  case t_NAME_SORTS=>rfl
  case e_PART_SORTS|l_PART_SORTS=>k_is
  case t_PART_SORTS=>rfl
  case e_SIGNS|l_SIGNS=>k_is
  case t_SIGNS=>rfl
  case e_STATEMENT_FORMS|l_STATEMENT_FORMS=>k_is
  case t_STATEMENT_FORMS=>kernel_rfl
  case h_STATEMENT_FORMS|s_STATEMENT_FORMS=>rfl
  case e_WORD|l_WORD=>k_is
  case t_WORD=>rfl
#print axioms PySem.Challenge.cw_joinmill_k12_whole_fit_sets_holds
end
