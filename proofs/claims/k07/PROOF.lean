import PyProof.Rows.All
import Wide.All
import OpenK.AllK
import Wide.FinOn
import Lean
import PyProof.EqAt
import PyProof.EqKinds
import PyProof.TupleCall
import PyProof.NeKinds
import PySem.Challenge.RW_layerdraw_k07_each_refusal_by_itself
set_option Elab.async false
set_option linter.all false
set_option maxRecDepth 100000
set_option maxHeartbeats 16000000
set_option genInjectivity false
set_option genSizeOf false
noncomputable section
theorem O.{u}{α:Sort u}{a:α}:a=a:=rfl
section
open PySem PySem.Spec PyProof.Rows
def mT:=@wpAny_bind
def Q3:=@List.length_map
def Q4:=@Heap.get?_push_of_some
def Q5:=@wpAny_pure
def Q6:=@Heap.lt_size
def Q7:=@Nat.le_refl
def Q8:=@List.map_append
def Q9:=@sizeLine_eq
def Ra:=@Heap.get?_push_size
def Rb:=@Nat.ne_of_lt
def Rc:=@List.mem_cons_of_mem
def Re:=@List.size_toArray
def Rf:=@List.getElem?_eq_getElem
def Rh:=@List.length_cons
def Ri:=@Heap.get?_update_other
def Rj:=@decide_eq_true
def Rk:=@Bool.false_ne_true
def Rl:=@List.getD_eq_getElem?_getD
def Rm:=@List.length_take
def Rn:=@Bool.and_eq_true
def Ro:=@List.length_append
def Rp:=@List.mem_of_getElem?
def Rq:=@Nat.lt_of_lt_of_le
def Rr:=@List.mem_cons_self
def Rs:=@decide_eq_false
def Rt:=@List.take_length
def Ru:=@Int.toNat_natCast
def Rv:=@of_decide_eq_true
def Rw:=@Heap.get?_update_self
def Rx:=@List.getElem?_map
def Ry:=@Nat.lt_irrefl
def Rz:=@List.mem_append_left
def RA:=@List.mem_append_right
def RB:=@wpAny_field
def RC:=@wpAny_holding
def RD:=@List.not_mem_nil
def RE:=@Heap.size_push
def RF:=@of_decide_eq_false
def RG:=@wpAny_callSpecial?_slot
def RH:=@Nat.le_add_right
def RI:=@decide_eq_true_iff
def RJ:=@Nat.le_succ
def RL:=@List.map_cons
def RM:=@List.filter_cons
def RN:=@Nat.le_succ_of_le
def RO:=@Bool.false_eq_true
def RP:=@wpAny_mono
def RQ:=@wpAny_Call_Name_kw
def RS:=@List.mem_cons
def RT:=@Nat.le_trans
def RU:=@wpAny_seqItems
def RV:=@wpAny_call_entry
def RW:=@wpAny_loadPart_at
def RX:=@List.take_of_length_le
def RY:=@Nat.zero_le
def RZ:=@List.length_replicate
def R0:=@Nat.lt_succ_of_lt
def R3:=@decide_eq_false_iff_not
def R4:=@wpAny_attempt
def R5:=@wpAny_isInstance
def R6:=@List.lookup_cons
def R7:=@wpAny_truthy_bool
def R8:=@wpAny_setField
def R9:=@Nat.le_of_lt
def Sa:=@Nat.ne_of_gt
def Sb:=@Nat.lt_succ_self
def Sc:=@Nat.lt_of_le_of_lt
def Sd:=@List.all_eq_true
def Sf:=@wpAny_updateSeq
def Sg:=@Nat.not_lt_zero
def Sh:=@List.replicate_succ
def Si:=@List.length_filter_le
def Sj:=@Bool.and_eq_false_iff
def Sk:=@wpAny_rule
def Sl:=@wpAny_call
def Sm:=@Nat.lt_or_ge
def Sn:=@List.append_assoc
def So:=@Bool.not_eq_true'
def Sq:=@decide_eq_true_eq
def Sr:=@List.foldl_append
def Ss:=@Nat.toDigits_of_lt_base
def Su:=@List.nodup_nil
def Sv:=@Int.emod_lt_of_pos
def Sw:=@wpAny_passesOwn
def Sx:=@List.append_nil
def Sy:=@wpAny_standAt
def Sz:=@wpAny_newObj_type
def SA:=@wpAny_pyIter_list
def SB:=@wpAny_letGo
def SC:=@wpAny_tryCatch
def SD:=@List.take_zero
def SE:=@List.length_drop
def SG:=@wpAny_typeOf
def SH:=@Bool.or_true
def SI:=@Array.length_toList
def SJ:=@Int.eq_ofNat_of_zero_le
def SK:=@List.any_cons
def SL:=@Bool.eq_iff_iff
def SM:=@List.find?_cons
def SN:=@List.forIn_cons
def SO:=@Bool.or_eq_true
def SQ:=@Int.emod_nonneg
def SR:=@wpAny_nextOf_list_item
def SS:=@List.flatten_cons
def SU:=@List.length_range
def SV:=@Bool.and_false
def SW:=@Array.getElem?_toList
def SX:=@List.all_map
def SY:=@Nat.toDigits_append_toDigits
def SZ:=@Option.bind_some
def S0:=@Nat.add_le_add_right
def S1:=@List.filterMap_cons
def S3:=@wpAny_isSubtype_exc
def S4:=@List.length_set
def S6:=@List.getElem?_zip_eq_some
def S7:=@List.length_zip
def S8:=@Nat.le_of_eq
def S9:=@wpAny_setField_rec
def Ta:=@Nat.eq_zero_or_pos
def Tb:=@List.filter_append
def Tc:=@Bool.not_eq_false'
def Td:=@List.getElem?_set_self
def Te:=@List.range_succ_eq_map
def Tf:=@Array.getElem?_eq_none
def Tg:=@Int.le_refl
def Th:=@List.all_cons
def Tj:=@Array.getElem?_setIfInBounds_ne
def Tl:=@List.getElem?_set_ne
def Tn:=@wpAny_execs_nil
def To:=@Option.map_some
def Tp:=@Nat.lt_trans
def Tq:=@wpAny_typeNameOfWhole_itemiter
def Tr:=@Heap.get?_push_cases
def Ts:=@Nat.min_eq_left
def Tu:=@List.map_map
def Tv:=@wpAny_typeNameOfWhole_keyiter
def Tw:=@wpAny_handleBy_cons
def Tz:=@List.getElem_of_mem
def TB:=@wpAny_loadPart
def TC:=@List.forIn_nil
def TD:=@wpAny_fieldsOf
def TF:=@List.contains_cons
def TH:=@List.idxOf_lt_length_of_mem
def TK:=@List.getElem?_append_right
def TL:=@List.nodup_iff_pairwise_ne
def TM:=@Option.isSome_map
def TN:=@wpAny_Call_method
def TQ:=@List.take_add_one
def TR:=@List.getElem?_append_left
def TU:=@wpAny_check_type_call_sub
def TV:=@wpAny_typeNameOf_itemiter
def TW:=@Array.getElem?_eq_getElem
def TX:=@Nat.succ_le_succ
def TY:=@wpAny_comprehension_free
def TZ:=@wpAny_typeNameOf_keyiter
def T0:=@wpAny_pyIter_zip
def T2:=@List.getElem_mem
def T3:=@Nat.zero_add
def T4:=@Nat.min_le_right
def T5:=@wpAny_pyNext_range_item
def T6:=@List.getElem?_replicate
def T7:=@wpAny_specialOf
def T8:=@List.of_mem_zip
def T9:=@wpAny_of_eq
def Ua:=@wpAny_pyNext_list_item
def Ub:=@wpAny_pyIter_rangeiter
def Uc:=@List.head?_eq_none_iff
def Ud:=@List.head?_eq_getElem?
def Ue:=@wpAny_isTrue_Compare1
def Uf:=@wpAny_pyIter_listiter
def Ug:=@List.length_singleton
def Uh:=@wpAny_pyNext_zip_item
def Ui:=@List.getElem?_eq_none
def Uj:=@wpAny_notOrdered_dict
def Uk:=@wpAny_check_new_subT
def Ul:=@Nat.pow_le_pow_right
def Um:=@Bool.false_or
def Uo:=@Bool.true_and
def Up:=@wpAny_dictSet_pairs
def Uq:=@Array.toList_append
def Ur:=@List.map_eq_nil_iff
def Us:=@wpAny_Constant_int
def Ut:=@wpAny_pyIter_range
def Uu:=@List.map_nil
def Uv:=@List.forIn_toArray
def Uw:=@List.map_set
def Ux:=@wpAny_assign_Name
def Uy:=@Heap.Ns1.of_empty
def Uz:=@wpAny_dictEntries
def UA:=@Nat.lt_of_succ_lt
def UB:=@wpAny_pyIter_enum
def UC:=@wpAny_Name
end
open Array renaming getElem?_eq_some_iff->Qcf,toList->QfN
open Bool renaming true->B',false->K',and_eq_true->Qfl,or_false->QfL,not_true->QfM,true_or->QfW
open Char renaming toNat->Xe
open False renaming elim->VL
open ForInStep renaming yield->Qa4
open Int.ofNat renaming inj->Qbc
open List renaming replicate->UX,mem_singleton->Vb,getElem?_eq_some_iff->VD,range->VH,mem_append->V9,mem_map->Wq,nodup_cons->XD,mem_iff_getElem?->X4,lookup->Y1,any_eq_true->Qaf,foldl->Qai,length_eq_zero_iff->Qch,drop->QcR,mem_filterMap->Qfe,nodup_append->Qfi,mem_flatMap->Qfk,range_succ->Qfs,nil_append->Qft,mem_filter->Qfu,length_nil->Qfv,foldl_cons->Qfw,filter_nil->Qfx,sum_cons->QfJ,map_drop->QfK
open List.Pairwise renaming nil->QnX
open List.cons renaming inj->Qag
open Nat renaming toDigits->Wr,digitChar->ZG,not_lt->Qbn,strongRecOn->QcD,min_eq_right->Qfr,div_add_mod->QfE,succ_mul->Qf9,mul_comm->Qga,add_comm->Qgb,mod_lt->Qgr
open Ne renaming symm->UM
open Option renaming some->f',none->i',isSome_iff_exists->Xj,map_eq_some_iff->Zq,bind_eq_some_iff->QeL,getD_none->Qfd
open Option.some renaming inj->VE,injEq->Qoo
open Or renaming inr->UK,inl->UL
open PyProof.Rows renaming AllBare->XO,envOfC->XR,Keyed->Ye,callWith_type1->Yo,slot_tuple_getitem->YY,IsTup->Zb,IntsAre->Qat,Constant_none->Qbl,tDigits_len_ge->Qca,subscriptTail->QcN,Subscript_->QcX,len_join_cons->Qes,subscriptTail_builtinR->Qfh,entry_tuple_getitem->QfD,args_tuple_getitem->QfI,slicePart_none->Qgq,kws_nil->Qof,kws_cons->Qog,digits10_le->Qoh,callWith_kw->Qoi,callWith_builtin1->Qoj
open PySem renaming Str->C',Addr->F',Value->L',wpAny->M',sizeLine->S',model->UD,Shared->UG,Stmt->US,starEach->UU,eval->UV,Expr->UY,Obj->UZ,Heap->U6,rawInt->Vp,backTo->Vq,pyNext->Vs,cLine->Vt,wpAny_bind->Vv,World->Vw,Pos->Vx,Program->Vz,Around->VQ,mainGlobals->VU,Tok->VY,Env->VZ,wpAny_pure->V1,argBest->V2,Sem->V3,bootBuiltins->V6,field->V7,sysModules->We,compareOp->Wh,codeAny->Wj,Flow->WG,FuncData->WO,IsPair->WQ,Scope->WR,NameKind->W3,Builtin->W4,keywordEach->Xd,backToKw->Xf,plainId_quiet->Xm,typeLookup->Xn,binaryOp->Xo,holding->Xp,getItem->Xq,stored->Xr,isSubtype_stop->XF,assignEach->XI,ZipApart->XM,IsPart->XQ,IsZip->XS,codeAny_builtin->X6,attributeBase->X7,call_meets->X9,intItems->X',valueAt->Ya,Keyword->Yb,numAt->Yc,atKey->Yd,codeAny_mono->Yv,isInstance->Yx,updateSeq->Yy,standAt->Yz,assign->YA,bindL->YB,bindC->YC,behindInMarks->Y0,sliceBounds->Y2,IsRangeIter->Y3,builtinsNs->Y4,tupleKind->Y5,seqItems?->Y6,getMethod->Y7,callerA->Y8,BindsTo->Y9,Paired->Y',Walks->Za,mem_of_lookup->Zs,codeAny_call_builtin->Zt,tupleKind_room_in1->Zz,call_meetsIn->ZH,swapsWith->ZK,getAttr?->ZL,isTrue->ZM,ExceptHandler->Qah,excClassObj->Qaj,typeIs_str->Qak,seqIndex?->Qal,noteFrame->Qam,PassesOwn->Qao,callWith->Qap,bindArgs->Qaq,getAttr->Qar,ItemsOf->Qas,slot_listiter_next->Qa5,getattributeRaised->Qa6,wpAny_newObj_type->Qa8,foldedSetIterable->Qa9,letOwnedTupleGo->Qbg,am_miss_of_fast->Qbh,firstArgMember->Qbj,callType_codes->Qbk,wpAny_typeOf->Qbm,subscripted->Qbo,setFlight->Qbp,raiseStmt->Qbq,getAttrBy->Qbr,setField->Qbs,entryFor->Qbt,Operator->Qbu,GenState->Qbv,codeAny_handlers_test->Qcn,sub_AttributeError->Qcx,Within->QcH,call->QcM,seqIndex_neg->QcO,wpAny_field->QcS,seqIndex_of->QcT,typeIs_int->QcU,getAttrBy?->QcV,PlainAttrs->QcW,cellsFrom->QcY,Arguments->QcZ,plainObj_wpAny_Assign_Attribute->QeD,codeAny_call_builtin_code->Qe1,wpAny_callSpecial?_slot->Qe7,codeAny_call_builtin_at->Qe8,codeAny_handlers_suite->Qff,unbindBehindTheSuite->Qfm,codeAny_exc_new_subT->Qfn,entry_listiter_next->Qfy,args_listiter_next->QfF,wpAny_sequenceKey->QfO,slot_list_getitem->QfP,wpAny_madeBy_exc->QfX,wpAny_lookBehind->QfY,wpAny_getItem_of->QfZ,wpAny_execs_cons->Qf0,wpAny_call_entry->Qf1,wpAny_Try_except->Qf2,pastItsLine_dict->Qf3,kt_code_dict_new->Qf4,entryFor_of_tree->Qf5,callGetattribute->Qf6,wpAny_dictEpoch->Qgc,getAttrByItsOwn->Qgd,codeAny_of_tree->Qge,wpAny_notIn_of->Qgi,recursionLimit->Qgj,fitsIndex_both->Qgk,entry_typeCall->Qgl,entryFor_alias->Qgm,boundAndCalled->Qgn,arm_exec_Raise->Qgo
open PySem.Around renaming under_plainId->Yp,under->QcF
open PySem.Builtin.Builtins renaming bindParams->Qen
open PySem.Builtin.Dict renaming updateFrom->QaU,selfAndRest->Qeu,pairItems->Qew
open PySem.Builtin.Dict_items renaming ownsTuple->Qem
open PySem.Builtin.List renaming listExtendWith->Yn,listTooLong->QaS,listSameRef->QaT,listItems->QaV,listFitsIndex->Qcb,listUpdate->Qev,listLengthHint->Qoe
open PySem.Builtin.Range renaming rangeFitsLong->Qep,rangeSize->Qet,small->QeA
open PySem.Builtin.Slice renaming slicePlaces->QaP,sliceAdjust->Qcc,sliceApplied->Qer,slicePartIndex->QnV,sliceFields->QnW
open PySem.Builtin.SmallTypes renaming nextOf->XB,ownedTupleIsFree->Zp
open PySem.Builtin.Str renaming occurrences->ZI,glued->Qon
open PySem.Builtin.Tuple renaming tupleExact->QaR,tupleItemsOf->Qeq
open PySem.Calls renaming spliced_cons->YW,spliced_nil->Zx,callWith_builtin->Qac,evalArgs_plain->Qa2,Name_function_global->Qce,loadGlobal_global->QeS
open PySem.Challenge renaming pw_layerdraw_k07_each_refusal_by_itself->QnJ
open PySem.CmpOp renaming NotIn->QfV,In->Qgp
open PySem.Code renaming quiet_builtin->Zu,isFrame->QcJ,frames->Qf8
open PySem.EntryCells renaming newEntry->QeK
open PySem.EqMixed renaming ne_str_int->QnN,ne_str_bool->QnO,ne_int_str->QnP,ne_bool_str->QnQ,eq_str_int->QnR,eq_str_bool->QnS,eq_int_str->QnT,eq_bool_str->QnU
open PySem.EqNone renaming ne_str_none->Qn0,ne_none_str->Qn1,ne_none_none->Qn2,ne_none_int->Qn3,ne_none_bool->Qn4,ne_int_none->Qn5,ne_bool_none->Qn6,eq_str_none->Qn7,eq_none_str->Qn8,eq_none_none->Qn9,eq_none_int->Qoa,eq_none_bool->Qob,eq_int_none->Qoc,eq_bool_none->Qod
open PySem.F renaming plainAttrs_list->V5,slot_list_append->Wo,type_list_append->Wy,plain_max_loop->Yr,slot_dict_get->Zr,slot_str_split->ZC,slot_zip_next->ZD,excBase_ValueError->QaQ,plainAttrs_dict->QaW,slot_list_getattribute->QaX,plainAttrs_str->QaY,entry_dict_get->QaZ,slot_zip_getattribute->Qa0,entry_max_loop->Qbb,slot_dict_itemiterator_next->Qcd,type_str_split->Qcg,plain_extend_loop->Qct,slot_list_insert->Qcv,args_str_split_2->Qcw,entry_str_split->QcA,args_zip_next_1->QcB,entry_zip_next->QcC,slot_dict_itemiterator_iter->Qeo,excAttr_ValueError->Qex,slot_dict_getitem->Qez,type_list_insert->QeB,slot_str_ascii_iterator_next->QeC,slot_dict_items->QeE,args_dict_get_3->QeF,args_dict_get_2->QeG,slot_dict_keyiterator_next->QeJ,type_dict_get->QeP,slot_dict_pop->QeQ,entry_bexc_ga->QeR,slot_tuple_iterator_next->QeT,slot_range_iterator_next->QeU,args_bexc_ga->QeV,slot_str_iterator_next->Qe0,slot_enumerate_next->Qfc,kt_typeCall_dict_1->Qfg,slot_list_extend->Qfo,args_list_init_2->Qfp,args_dict_init_2->Qfq,typeCall_list_1->QfA,entry_list_init->QfB,entry_dict_init->QfC,kt_called_dict->QfH,slot_list_pop->QfT,slot_int_rmul->QfU,called_list->Qgh
open PySem.Heap renaming ExtBut->Xc,SameBut->XH
open PySem.Heap.DictOf renaming new->Qcr
open PySem.Heap.IsSliceOf renaming new->QnK
open PySem.Heap.SameBut renaming update->Xa,refl->QnZ
open PySem.ItemsOf renaming nil->Qfz
open PySem.Moved renaming trans->QcL
open PySem.NameKind renaming free->Wp,cell->XG
open PySem.Obj renaming mapSeq->Wd,mapFields->Xl,data_mapFields->Zv,isFreed_of_fields->Qa1,cls_mapFields->Qfj
open PySem.Paired renaming length->Qbf,snoc->QfG
open PySem.PassesOwn renaming never->Wb,leaving->YX,looking->QeX
open PySem.PassesOwnAt renaming leaving->Qom
open PySem.SeqAt renaming EqAt->XT,notIn_listAt->Qe6
open PySem.SeqAt.EqAt renaming of_refs->QcI,same->QcQ,str_int->QeN,int_str->QeO,str_str->Qop,str_none->Qoq,str_bool->Qor,none_str->Qos,none_int->Qot,none_bool->Qou,int_none->Qov,int_int->Qow,int_bool->Qox,bool_str->Qoy,bool_none->Qoz,bool_int->QoA,bool_bool->QoB
open PySem.SeqAt.RcAt renaming lists_lengths->Qfb,tuples->Qf7,lists->Qgg
open PySem.Shared renaming TypeIs->Qbe
open PySem.Str renaming ofString->UI,empty->Vr,join->Qan,length->QcP,length_append->Qey,cps_append->QeI
open PySem.StrLaws renaming found_one->Qcq,glued_eq_join->QeM,join_split->QeZ
open PySem.Txt renaming split->VX,join->W2
open PySem.Value renaming ref->UQ,none->Vk,bool->W1,int->XJ,type->Yw,str->ZJ,builtin->Qbi,isStrOf->QcE,float->QcK,isInt->QfR,bytes->QfS
open PySem.W renaming Frag->R',kitOne->UE,mroIn->Vh,findIn->VT,typeIn->Wc,keepIn->WZ,kia_one->Xb,Looks->Xk,looks_findIn->XC,codeIn->XE,emptyDict->X5,fnOf->X8,callWith_K->Yq,instObj->Ys,InstAt->Yt,isFn->Yu,nsIn->YZ,hasDictIn->Zw,any_some->ZA,mg_of->ZF,looks_mroIn->Qad,codeHdIn->Qae,plainGet->Qa3,takerIn->Qa7,lookIn->Qba,clsIn->Qbd,OpenLaw->Qbw,methodCall_KW->Qci,plainGet_of->Qcj,looks_clsIn->Qck,callWith_K0->Qcl,check_slot->Qcm,specialIn->Qco,methodObj->Qcp,handedIn->Qcs,makesIn->Qcu,tabObj->Qcy,notCls->Qcz,cellsFrom_some->QeH,findObj_own->QeW,looks_find->QeY,set_plain->Qe2,plainOver->Qe3,kitx_list->Qe4,kitx_dict->Qe5,takesIn->Qe9,findObj->Qfa
open PySem.W.KIN renaming signs_num->Qok,call_num->Qol
open PySem.W.Looks renaming here->YV,of_pure->QnL,ld->QnM
open PySem.W.WData renaming int->Qgf
open PySem.W.WShape renaming has->QfQ
open PySem.Within renaming cons->QnY
open Sum renaming inr->UN,inl->U5
open Sum.inl renaming inj->QcG
open Sum.inr renaming inj->W0
open True renaming intro->Ws
def UF:=@if_neg
def UH:=@if_pos
def UR:=@absurd
def VO:=@if_false
def Wg:=@beq_iff_eq
def Wu:=@or_false
def Wv:=@congrArg
def WE:=@if_true
def Zy:=@beq_eq_false_iff_ne
def ZE:=@beq_self_eq_true
namespace L2
variable {A:Around}{E:Value→Shared→Prop}{G:Prop}{P prog:Program}{Q:Option Value→Shared→Prop}{R:Result→Shared→Prop}{a b e it t:Addr}{cs:List Addr}{env:Env}{h h':Heap}{i:Nat}{pos:Pos}{s:Shared}{vs:Array Value}{w:World}
open PySem PySem.Spec PyProof.Rows
theorem Xs {α:Sort _}{a b:α→Prop} (k:∀ x,a x→b x→G):(∃ x,a x∧b x)→G:=fun⟨x,h1,h2⟩=>k x h1 h2
theorem ex4 {α β:Sort _}{a b:α→β→Prop} (k:∀ x y,a x y→b x y→G):(∃ x y,a x y∧b x y)→G:=fun⟨x,y,h1,h2⟩=>k x y h1 h2
theorem U1 {α β:Sort _}{a b c:α→β→Prop} (k:∀ x y,a x y→b x y→c x y→G):(∃ x y,a x y∧b x y∧c x y)→G:=fun⟨x,y,h1,h2,h3⟩=>k x y h1 h2 h3
theorem Ms:Qbt table "proto.unchain"=f' W4.«proto.unchain»:=Qf5 (by kernel_rfl)
def XU (cs:List F') (j:Nat):L':=match cs[j]? with|none=>Vk|some b=>UQ b
def Vc (h:U6) (cs:List F'):Prop:=cs.Nodup∧∀ j a,cs[j]?=f' a→∃ o vs,h.get? a=f' o∧o.data=.fields vs∧vs[2]?=f' (XU cs (j + 1))
def Hd (A:VQ) (h:U6):Prop:=A.handled=i'∨∃ a cs,A.handled=f' (.ref a)∧Vc h (a::cs)
theorem Hd.keeps  (x:Hd A h) (k:∀ b o,h.get? b=f' o→h'.get? b=f' o):Hd A h':=by
 rcases x with e|⟨a,cs,e,nd,c⟩
 .exact .inl e
 .refine .inr ⟨a,cs,e,nd,fun j b hb=>?_⟩
  obtain⟨o,vs,ho,r⟩:=c j b hb
  exact⟨o,vs,k b o ho,r⟩
theorem Hd.but {oi:UZ} (x:Hd A h) (a7:h.get? it=f' oi) (wx:∀ vs,oi.data=.fields vs→vs.size<3∨vs[2]?≠f' Vk∧∀ b,vs[2]?≠f' (.ref b)) (k:∀ b o,b≠it→h.get? b=f' o→h'.get? b=f' o):Hd A h':=by
 rcases x with e|⟨a,cs,e,nd,c⟩
 .exact .inl e
 .refine .inr ⟨a,cs,e,nd,fun j b hb=>?_⟩
  obtain⟨o,vs,ho,hd,h2⟩:=c j b hb
  refine⟨o,vs,k b o (fun z=>?_) ho,hd,h2⟩
  subst z
  rw[a7] at ho
  cases ho
  rcases wx vs hd with q|⟨q1,q2⟩
  .have:=(Qcf.mp h2).1
   lia
  .unfold XU at h2
   cases hz:(a::cs)[j + 1]? with
   | none=>rw[hz] at h2;exact q1 h2
   | some y=>rw[hz] at h2;exact q2 y h2
theorem Oj  (c:Vc s.heap cs) (he:e∉cs) (hR:R (.ok (.ret .none)) s):∀ (n j i:Nat) (o sl:F') (tg:Bool),cs.length - j=n→cs[j]?=f' o→cs[i]?=f' sl→i≤j →
  Wj (UD prog w) A (.builtin "proto.unchain" ⟨[.ref e,.ref o,.ref sl,.bool tg],[]⟩) R s:=by
 intro n
 induction n with
 | zero=>
  intro j i o sl tg hn hj _ _
  have:=(VD.mp hj).1
  lia
 | succ n ih=>
  intro j i o sl tg hn hj hi QA
  obtain⟨oo,vs,ho,hd,h2⟩:=c.2 j o hj
  refine X6 Ms ?_
  unfold W4.«proto.unchain»
  refine mT (RB ho hd h2 ?_)
  cases hz:cs[j + 1]? with
  | none=>
   simp only[XU,hz]
   rw[UH (by rfl)]
   refine mT (Q5 (Q5 ?_))
   exact hR
  | some b=>
   simp only[XU,hz]
   have hb:b∈cs:=Rp hz
   have kz:b≠e:=fun z=>he (z ▸ hb)
   have Ji:b≠sl:=fun z=>by
    subst z
    have e1:=VD.mp hz
    have e2:=VD.mp hi
    have lt:i<j + 1:=by lia
    exact(List.pairwise_iff_getElem.mp c.1) i (j + 1) e2.1 e1.1 lt (e2.2.trans e1.2.symm)
   rw[UF (by simp),UF (by simpa using kz),UF (by simpa using Ji)]
   have Gm:∃ b',cs[i + 1]?=f' b':=by
    have e1:=(VD.mp hz).1
    exact⟨_,Rf (by lia)⟩
   obtain⟨b',mE⟩:=Gm
   cases tg with
   | false=>
    rw[UF (by simp)]
    refine mT (Q5 (Q5 ?_))
    exact(⟨Zu _ (by decide +kernel),ih (j + 1) i b sl B' (by lia) hz hi (by lia)⟩)
   | true=>
    rw[UH rfl]
    obtain⟨os,ws,kC,mq,fG⟩:=c.2 i sl hi
    simp only[XU,mE] at fG
    refine mT (RB kC mq fG (Q5 ?_))
    exact(⟨Zu _ (by decide +kernel),ih (j + 1) (i + 1) b b' K' (by lia) hz mE (by lia)⟩)
theorem tW {α:Type}{oe:UZ}{Q:α→UG→Prop} (hd:A.handled=i'∨∃ a cs,A.handled=f' (.ref a)∧Vc s.heap (a::cs)∧e∉a::cs) (he:s.heap.get? e=f' oe) (hf:oe.data=.fields vs) (h2:2<vs.size)
  (h:∀ h' o' i8,(∀ b o,b≠e→s.heap.get? b=f' o→h'.get? b=f' o)→h'.get? e=f' o'→o'.cls=oe.cls→o'.dict=oe.dict→o'.data=.fields i8→i8.size=vs.size→i8[1]?=vs[1]?→i8[2]?=(match A.handled with|none=>vs[2]?|some v=>f' v)→E (.ref e) { s with heap:=h' }) :
  M' (UD prog w) A (raiseNew (.ref e):V3 α) Q E s:=by
 unfold raiseNew
 refine mT (wpAny_handled ?_)
 rcases hd with hn|⟨a,cs,ha,c,cB⟩
 .rw[hn]
  exact mT (Q5 (wpAny_throw (h s.heap oe vs (fun _ _ _ q=>q) he O O hf O O (by rw[hn]))))
 .rw[ha]
  have GG:a≠e:=fun z=>cB (by simp[z])
  show M' _ _ (if (UQ a != UQ e)=B' then _ else _) _ _ s
  rw[UH (by simpa using GG)]
  refine mT (RC (wpAny_runValue (Oj c cB ?_ _ 0 0 a a K' O O O (Q7 _))))
  have up:=Zv hf (·.setIfInBounds 2 (UQ a))
  refine mT (show M' _ _ (Qbs (.ref e) 2 (.ref a)) _ _ s from R8 he hf h2 (wpAny_throw (h _ _ _ (fun b q hb hq=>(Ri _ _ (UM hb)).trans hq) (Rw _ he (Qa1 up)) (Qfj _ _) ?_ up (by simp) ?_ ?_)))
  .obtain⟨c1,d1,dt,sl⟩:=oe
   cases dt <;> rfl
  .rw[Tj (by decide)]
  .rw[ha];simp[h2]
theorem Vc.lt  (c:Vc h cs):∀ b∈cs,b<h.objs.size:=fun b hb=>by
 obtain⟨j,hj⟩:=X4.mp hb
 obtain⟨o,_,ho,_⟩:=c.2 j b hj
 exact Q6 ho
theorem Vc.mono  (c:Vc h cs) (k:∀ b o,b∈cs→h.get? b=f' o→h'.get? b=f' o):Vc h' cs:=⟨c.1,fun j a hj=>by
 obtain⟨o,vs,ho,r⟩:=c.2 j a hj
 exact⟨o,vs,k a o (Rp hj) ho,r⟩⟩
theorem me {α:Type}{Q:α→UG→Prop} (hd:Hd A s.heap)
  (h:∀ h' e,(∀ b o,s.heap.get? b=f' o→h'.get? b=f' o)→(∃ o',h'.get? e=f' o'∧o'.cls=.type "StopIteration")→E (.ref e) { s with heap:=h' }) :
  M' (UD prog w) A (newExc (.type "StopIteration") [] >>= fun e=>(raiseNew e:V3 α)) Q E s:=by
 refine mT ?_
 unfold newExc newTuple
 refine mT (Sz ?_ (by size_fits))
 refine mT (m:=Qbj _ _) (T9 (a:=Vk) (by first|rfl|(simp only[Qbj];rfl)) (Sz ?_ (by size_fits)))
 refine tW ?_ (Ra _ O) O (by simp;lia) fun h' o' i8 k' e' c' _ _ _ _ _=>
  h h' _ (fun b o q=>k' b o (Rb (by rw[RE];exact R0 (Q6 q))) (Q4 _ (Q4 _ q))) ⟨o',e',c'⟩
 rcases hd with hn|⟨a,cs,ha,c⟩
 .exact .inl hn
 .refine .inr ⟨a,cs,ha,c.mono fun b o _ q=>Q4 _ (Q4 _ q),fun z=>?_⟩
  have:=c.lt _ z
  rw[RE] at this
  exact UR (Rq this (RJ _)) (Ry _)
theorem Ed {l:F'} {items} (hd:Hd A s.heap) (a7:s.heap.IsListIter it l i) (hl:s.heap.IsList l items) (hx:items[i]?=i')
  (hQ:∀ h',Xc it s.heap h'→Q i' { s with heap:=h' }):M' (UD prog w) A (Vs (.ref it)) Q E s:=by
 obtain⟨o,ho,hc,aH⟩:=id a7
 obtain⟨ol,qD,_,nl,qS⟩:=hl
 unfold Vs
 refine mT (R4 (RG (name:=UI "__next__") a7.typeIs Qa5 (RV Qa5 a7.typeIs Qfy ?_ (QfF _))))
 refine(show M' _ _ (V7 (.ref it) 0 >>= _) _ _ s from mT (RB ho aH (x:=.ref l) O ?_))
 refine(show M' _ _ (if (UQ l == Vk)=B' then _ else _) _ _ s from ?_)
 rw[UF (by simp)]
 refine(show M' _ _ (V7 (.ref it) 1 >>= _) _ _ s from mT (RB ho aH (x:=.int i 0) O ?_))
 refine(show M' _ _ (Y6 (.ref l) >>= _) _ _ s from mT (RU qD qS ?_))
 simp only[Ru,hx]
 refine mT (Sk (mT (R8 ho aH (by simp) ?_)))
 have sb:XH it s.heap (s.heap.update it (Xl (·.setIfInBounds 0 Vk))):=Xa ..
 refine me (A:=A.in1) (hd.but ho (fun vs q=>.inl (by rw[aH] at q;cases q;simp)) sb.extBut) fun h' e k' ⟨o',e',c'⟩=>?_
 exact mT (R5 (T:="StopIteration") (b:=B') ⟨o',e',c'⟩ XF (Q5 (hQ h' fun b q hb hq=>k' b q (sb.extBut b q hb hq))))
theorem EE  {items} (hd:Hd A s.heap) (a7:s.heap.IsTupleIter it t i) (ht:s.heap.IsTuple t items) (hx:items[i]?=i')
  (hQ:∀ h',Xc it s.heap h'→Q i' { s with heap:=h' }):M' (UD prog w) A (Vs (.ref it)) Q E s:=by
 obtain⟨o,ho,hc,aH⟩:=id a7
 obtain⟨ol,qD,_,nl,qS⟩:=ht
 unfold Vs
 refine mT (R4 (RG (name:=UI "__next__") a7.typeIs QeT (RV QeT a7.typeIs F.entry_tuple_iterator_next ?_ (F.args_tuple_iterator_next_1 _))))
 refine(show M' _ _ (V7 (.ref it) 0 >>= _) _ _ s from mT (RB ho aH (x:=.ref t) O ?_))
 refine(show M' _ _ (if (UQ t == Vk)=B' then _ else _) _ _ s from ?_)
 rw[UF (by simp)]
 refine(show M' _ _ (V7 (.ref it) 1 >>= _) _ _ s from mT (RB ho aH (x:=.int i 0) O ?_))
 refine(show M' _ _ (Y6 (.ref t) >>= _) _ _ s from mT (RU qD qS ?_))
 simp only[Ru,hx]
 refine mT (Sk (mT (R8 ho aH (by simp) ?_)))
 have sb:XH it s.heap (s.heap.update it (Xl (·.setIfInBounds 0 Vk))):=Xa ..
 refine me (A:=A.in1) (hd.but ho (fun vs q=>.inl (by rw[aH] at q;cases q;simp)) sb.extBut) fun h' e k' ⟨o',e',c'⟩=>?_
 exact mT (R5 (T:="StopIteration") (b:=B') ⟨o',e',c'⟩ XF (Q5 (hQ h' fun b q hb hq=>k' b q (sb.extBut b q hb hq))))
theorem FJ {x left step:Int} (hd:Hd A s.heap) (a7:Y3 s.heap it x left step) (qC:left≤0)
  (hQ:∀ h',Xc it s.heap h'→Q i' { s with heap:=h' }):M' (UD prog w) A (Vs (.ref it)) Q E s:=by
 have hT:s.TypeIs (.ref it) "range_iterator":=⟨_,a7,O⟩
 unfold Vs
 refine mT (R4 (RG (name:=UI "__next__") hT QeU (RV QeU hT F.entry_range_iterator_next ?_ (F.args_range_iterator_next_1 _))))
 refine(show M' _ _ (V7 (.ref it) 0 >>= _) _ _ s from mT (RB a7 O (x:=Vp x) O ?_))
 refine(show M' _ _ (V7 (.ref it) 1 >>= _) _ _ s from mT (RB a7 O (x:=Vp left) O ?_))
 refine(show M' _ _ (V7 (.ref it) 2 >>= _) _ _ s from mT (RB a7 O (x:=Vp step) O ?_))
 refine(show M' _ _ (if left≤0 then _ else _) _ _ s from ?_)
 rw[UH qC]
 refine mT (Sk (mT ?_))
 refine me (A:=A.in1) hd fun h' e k' ⟨o',e',c'⟩=>?_
 exact mT (R5 (T:="StopIteration") (b:=B') ⟨o',e',c'⟩ XF (Q5 (hQ h' fun b q _ hq=>k' b q hq)))
theorem LM {items:Array L'}{Q:List L'→UG→Prop} (hd:Hd A s.heap) (ht:Zb s.heap t items)
  (hQ:∀ h',Xc s.heap.objs.size s.heap h'→Q items.toList { s with heap:=h' }):M' (UD prog w) A (unpackItems (.ref t) items.size i') Q E s:=by
 have bZ:t≠s.heap.objs.size:=by obtain⟨o,ho,_⟩:=ht;exact Rb (Q6 ho)
 unfold unpackItems
 refine mT ?_
 unfold notIterableAtAll
 refine mT (T7 ht.typeIs slot_tuple_iter.lookup (Q5 ?_))
 simp only[RO,VO]
 refine mT (RC (iter_tuple ht (mT (RC (draw_tuple bZ items.size 0 _ _ ⟨_,Ra _ O,O,O⟩ (ht.push _) (by lia) fun h₁ vG bQ=>?_)))))
 rw[show List.take items.size (QcR 0 items.toList)=items.toList by rw[List.drop_zero];exact RX (by simp)]
 rw[UF (by simp)]
 have GM:Zb h₁ t items:=(ht.push _).extBut bQ.extBut bZ
 have k₁:∀ b o,s.heap.get? b=f' o→h₁.get? b=f' o:=fun b o e=>bQ.extBut b o (Rb (Q6 e)) (Q4 _ e)
 refine mT (RC (EE (hd.keeps k₁) vG (show U6.IsTuple h₁ t items from GM) (by simp) fun h₂ Jg=>?_))
 simp only[Option.isSome_none,RO,VO]
 exact Q5 (hQ h₂ fun b o hb e=>Jg b o hb (k₁ b o e))
theorem Ni {kP:List UY} {x1}{items:Array L'}{Q:Unit→UG→Prop} (hd:Hd A s.heap) (ht:Zb s.heap t items) (hn:(XI kP env).length=items.size) (pH:(XI kP env).findIdx? (·.1)=i')
  (h:∀ h',Xc s.heap.objs.size s.heap h'→M' (UD prog w) A (assignInOrder ((XI kP env).map (·.2)) items.toList) Q E { s with heap:=h' }):M' (UD prog w) A (YA (.Tuple kP x1 pos) env (.ref t)) Q E s:=by
 rw[assign_Tuple]
 refine mT (Sy ?_)
 unfold unpack
 rw[hn,pH]
 exact mT (RC (LM hd ht h))
abbrev Key:=Sum Int C'
def lq:Key→L'→Bool
 | .inl k,v=>QfR k v
 | .inr x,v=>QcE x v
def ZN (w:Vw):Key→Int
 | .inl k=>hashInt k
 | .inr x=>hashStr w x
theorem kn:∀ {k:Key}{v:L'},lq k v=B'→(∃ i t,k=U5 i∧v=XJ i t)∨(∃ x t,k=UN x∧v=ZJ x t)
 | .inl i,v,h=>by
  obtain⟨t,e⟩:=L'.isInt_shape (k:=i) (v:=v) h
  exact .inl ⟨i,t,O,e⟩
 | .inr x,v,h=>by
  obtain⟨t,e⟩:=L'.isStrOf_shape (x:=x) (v:=v) h
  exact .inr ⟨x,t,O,e⟩
theorem Qw (i:Int) (t:VY):lq (.inl i) (.int i t)=B':=by simp[lq,QfR]
theorem Pe (x:C') (t:VY):lq (.inr x) (.str x t)=B':=by simp[lq,QcE]
theorem Qgs (a b:Int):decide ((U5 a:Key)=U5 b)=(a == b):=by
 by_cases e:a=b
 .subst e;simp
 .have h:¬ (U5 a:Key)=U5 b:=fun q=>e (QcG q)
  rw[Rs h]
  exact(Zy.mpr e).symm
theorem Qgt (a b:C'):decide ((UN a:Key)=UN b)=decide (a=b):=by
 by_cases e:a=b
 .subst e;simp
 .have h:¬ (UN a:Key)=UN b:=fun q=>e (W0 q)
  rw[Rs h,Rs e]
theorem Qgu (a:Int) (b:C'):decide ((U5 a:Key)=UN b)=K':=Rs (fun q=>nomatch q)
theorem Qgv (a:C') (b:Int):decide ((UN a:Key)=U5 b)=K':=Rs (fun q=>nomatch q)
def b9 (prog:Vz) (w:Vw):PySem.KeyKind prog w Key where
 is:=lq
 hash:=ZN w
 inj:=fun v a b ha hb=>by
  rcases kn ha with⟨i,t,rfl,rfl⟩|⟨x,t,rfl,rfl⟩
  .rcases kn hb with⟨j,u,rfl,e⟩|⟨y,u,rfl,e⟩
   .injection e with e1 _;rw[e1]
   .exact nomatch e
  .rcases kn hb with⟨j,u,rfl,e⟩|⟨y,u,rfl,e⟩
   .exact nomatch e
   .injection e with e1 _;rw[e1]
 byValue:=fun k v h=>by
  rcases kn h with⟨i,t,rfl,rfl⟩|⟨x,t,rfl,rfl⟩ <;> rfl
 pyHash:=fun hv h=>by
  rcases kn hv with⟨i,t,rfl,rfl⟩|⟨x,t,rfl,rfl⟩
  .exact wpAny_pyHash_int h
  .exact wpAny_pyHash_str h
 eqBool:=fun hu hv h=>by
  rcases kn hu with⟨i,t,rfl,rfl⟩|⟨x,t,rfl,rfl⟩
  .rcases kn hv with⟨j,u,rfl,rfl⟩|⟨y,u,rfl,rfl⟩
   .rw[Qgs] at h;exact wpAny_eqBool_int h
   .rw[Qgu] at h;exact QeO i t y u _ _ _ _ h
  .rcases kn hv with⟨j,u,rfl,rfl⟩|⟨y,u,rfl,rfl⟩
   .rw[Qgv] at h;exact QeN x t j u _ _ _ _ h
   .rw[Qgt] at h;exact wpAny_eqBool_str h
 «strs»:=fun k x t v h=>by
  rcases kn h with⟨i,u,rfl,e⟩|⟨y,u,rfl,e⟩
  .exact nomatch e
  .injection e with e1 _
   subst e1
   cases v <;> rfl
theorem KP (prog:Vz) (w:Vw) (i:Int) (t:VY):(b9 prog w).is (.inl i) (.int i t)=B':=Qw i t
theorem MB (prog:Vz) (w:Vw) (x:C') (t:VY):(b9 prog w).is (.inr x) (.str x t)=B':=Pe x t
set_option genInjectivity true
inductive V where
 | UO | bl (b:Bool) | int (i:Int) | str (x:C') | byt (b:Array UInt8) | Yf (b:UInt64) | ref (a:F') | ty (n:String)
 deriving DecidableEq
set_option genInjectivity false
def aD:V→L'→Prop
 | .UO,u=>u=Vk
 | .bl b,u=>u=W1 b
 | .int i,u=>∃ t,u=XJ i t
 | .str x,u=>∃ t,u=ZJ x t
 | .byt b,u=>∃ t,u=QfS b t
 | .Yf b,u=>∃ t,u=QcK b t
 | .ref a,u=>u=UQ a
 | .ty n,u=>u=Yw n
abbrev aB:List V→List L'→Prop:=Y' aD
theorem aB.length {xs:List V}{us:List L'} (r:aB xs us):xs.length=us.length:=Qbf r
theorem aB.get:∀ {xs:List V}{us:List L'}{i:Nat}{x:V},aB xs us→xs[i]?=f' x→∃ u,us[i]?=f' u∧aD x u
 | _,_,_,_,.nil,e=>by simp at e
 | _,_,0,_,.cons r _,e=>by simp at e;subst e;exact⟨_,O,r⟩
 | _,_,i + 1,x,.cons _ t,e=>by
  obtain⟨u,h1,h2⟩:=aB.get (i:=i) (x:=x) t (by simpa using e)
  exact⟨u,by simpa using h1,h2⟩
theorem aB.set {x:V}{u:L'} (r:aD x u):∀ {xs:List V}{us:List L'} (i:Nat),aB xs us→aB (xs.set i x) (us.set i u)
 | _,_,_,.nil=>.nil
 | _,_,0,.cons _ t=>.cons r t
 | _,_,i + 1,.cons q t=>.cons q (aB.set r i t)
theorem aB.append:∀ {xs ys:List V}{us ws:List L'},aB xs us→aB ys ws→aB (xs++ys) (us++ws)
 | _,_,_,_,.nil,s=>s
 | _,_,_,_,.cons r t,s=>.cons r (aB.append t s)
theorem aB.take:∀ {xs:List V}{us:List L'} (n:Nat),aB xs us→aB (xs.take n) (us.take n)
 | _,_,0,_=>.nil
 | _,_,_ + 1,.nil=>.nil
 | _,_,n + 1,.cons r t=>.cons r (aB.take n t)
theorem aB.drop:∀ {xs:List V}{us:List L'} (n:Nat),aB xs us→aB (xs.drop n) (us.drop n)
 | _,_,0,r=>r
 | _,_,_ + 1,.nil=>.nil
 | _,_,n + 1,.cons _ t=>aB.drop n t
def ee:Option V→Option L'→Prop
 | some v,f' u=>aD v u
 | none,i'=>True
 | _,_=>False
def KV {κ:Type}:List (κ×V)→List (κ×L')→Prop:=Y' fun(p:κ×V) (q:κ×L')=>p.1=q.1∧aD p.2 q.2
def kV:Key→V
 | .inl i=>.int i
 | .inr x=>.str x
inductive HO where
 | lst (xs:List V)
 | tup (xs:List V)
 | dK (kvs:List (Key×V)) | dT (kvs:List (List Key×V))
 | set (S:Int→Bool) (n:Nat)
 | ins (C dx:F') (fs:List (C'×V))
 | own (x:F')
 | xd (fs:List (C'×V))
 | met (f x:F')
 | W5 (lo hi:Int)
 | UT (o:UZ) (u:HO)
 | Wz (pos:Vx) (qual:C')
 | ext (φ:U6→Prop)
abbrev Hp:=F'→Option HO
def upd (H:Hp) (a:F') (o:HO):Hp:=fun b=>if b=a then f' o else H b
theorem ag {H:Hp}{o:HO}:upd H a o a=f' o:=by unfold upd;rw[UH rfl]
theorem aj {H:Hp}{o:HO} (h:b≠a):upd H a o b=H b:=by unfold upd;rw[UF h]
theorem bN {H:Hp}{o u:HO} (h:H a=f' o) (h':H b=f' u) (d:o≠u):a≠b:=by
 intro e;subst e;rw[h] at h';exact d (VE h')
theorem aq {H:Hp}{o:HO} (h:H a=f' o) (h':H b=i'):a≠b:=by
 intro e;subst e;rw[h] at h';cases h'
section
variable (P:Vz) (w:Vw)
def cS (H:Hp) (h:U6) (a:F'):HO→Prop
 | .lst xs=>xs.length≤S'∧∃ (ah:List L') (n:Nat),aB xs ah∧h.get? a=f' { cls:=.type "list",data:=.seq ah.toArray n }
 | .tup xs=>xs.length≤S'∧∃ ah:List L',aB xs ah∧Zb h a ah.toArray
 | .dK kvs=>kvs.length≤S'∧(a == We)=K'∧∃ vs,KV kvs vs∧h.DictOf (b9 P w) a vs
 | .dT kvs=>kvs.length≤S'∧(a == We)=K'∧∃ xs:List (List Key×F'×L'),
   Y' (fun(p:List Key×V) (q:List Key×F'×L')=>p.1=q.1∧H q.2.1=f' (.tup (p.1.map kV))∧aD p.2 q.2.2) kvs xs ∧
   ∃ o es ep,h.get? a=f' o∧o.ExactDict∧o.data=.dict es ep∧es.toList=xs.map (entryOfKey (Y5 (b9 P w)))∧(xs.map (·.1)).Nodup
 | .set S n=>h.SetOf (intKind P w) a S n
 | .ins C dx fs=>H dx=f' (.own a)∧fs.length≤1000∧dx≠a∧h.get? a=f' (Ys C dx) ∧
   ∃ mA,h.Ns1 dx mA∧(∀ f,ee (fs.lookup f) (mA f))∧QcH mA (fs.map (·.1))
 | .own _=>∃ o,h.get? a=f' o
 | .xd fs=>∃ mA,h.Ns1 a mA∧∀ f,ee (fs.lookup f) (mA f)
 | .W5 lo hi=>∃ t u v,h.get? a=f' { cls:=.type "range",data:=.fields #[.int lo t,.int hi u,.int 1 v] }
 | .UT o u=>h.get? a=f' o∧cS H h a u
 | .Wz pos qual=>h.get? a=f' { cls:=.none,data:=.fields #[] }∨∃ c oc vs t,H c=f' (.UT oc (.own a))∧oc.data=.fields vs∧vs[1]?=f' (.str qual t)∧h.get? a=f' { cls:=.none,data:=.fields #[Vp pos.line,Vp pos.col,.ref c] }
 | .met f x=>h.get? a=f' (Qcp (.ref f) (.ref x))
 | .ext φ=>φ h∧(∃ o,h.get? a=f' o)∧∀ h1 h2:U6,φ h1→(∀ o,h1.get? a=f' o→h2.get? a=f' o)→φ h2
def Vu (H:Hp) (h:U6):Prop:=∀ a o,H a=f' o→cS P w H h a o
end
section
variable {H H':Hp}{o:HO}
theorem cS.lt (x:cS P w H h a o):a<h.objs.size:=by
 cases o with
 | lst xs=>obtain⟨_,_,_,_,e⟩:=x;exact Q6 e
 | tup xs=>obtain⟨_,_,_,p⟩:=x;exact p.lt
 | dK kvs=>obtain⟨_,_,_,_,o,_,_,e,_⟩:=x;exact Q6 e
 | dT kvs=>obtain⟨_,_,_,_,o,_,_,e,_⟩:=x;exact Q6 e
 | set S n=>obtain⟨o,_,_,_,e,_⟩:=x;exact Q6 e
 | ins C dx fs=>obtain⟨_,_,_,e,_⟩:=x;exact Q6 e
 | own y=>obtain⟨_,e⟩:=x;exact Q6 e
 | xd fs=>obtain⟨_,⟨_,_,_,e,_⟩,_⟩:=x;exact Q6 e
 | W5 lo hi=>obtain⟨_,_,_,e⟩:=x;exact Q6 e
 | UT ob u=>obtain⟨e,_⟩:=x;exact Q6 e
 | Wz pos qual=>
  rcases x with e|⟨_,_,_,_,_,_,_,e⟩
  .exact Q6 e
  .exact Q6 e
 | met f y=>exact Q6 (show h.get? a=f' _ from x)
 | ext φ=>obtain⟨_,⟨_,e⟩,_⟩:=x;exact Q6 e
theorem Paired.Qbx {α β:Type}{F G:α→β→Prop}:∀ {l₁:List α}{l₂:List β},Y' F l₁ l₂→(∀ a b,F a b→G a b)→Y' G l₁ l₂
 | _,_,.nil,_=>.nil
 | _,_,.cons r t,f=>.cons (f _ _ r) (Paired.Qbx t f)
theorem cS.WS (x:cS P w H h a o) (k:∀ b u,(b=a∨H b=f' (.own a))→h.get? b=f' u→h'.get? b=f' u)
  (ho:∀ b,H b=f' (.own a)→H' b=f' (.own a)) (ht:∀ b xs,H b=f' (.tup xs)→H' b=f' (.tup xs)) (hf:∀ b ob,H b=f' (.UT ob (.own a))→H' b=f' (.UT ob (.own a)):=by exact fun _ _ q=>q):cS P w H' h' a o:=by
 induction o with
 | lst xs=>obtain⟨z,ah,n,r,e⟩:=x;exact⟨z,ah,n,r,k _ _ (.inl O) e⟩
 | tup xs=>obtain⟨z,ah,r,ob,e,c⟩:=x;exact⟨z,ah,r,ob,k _ _ (.inl O) e,c⟩
 | dK kvs=>obtain⟨z,y,vs,r,ob,es,ep,e,c⟩:=x;exact⟨z,y,vs,r,ob,es,ep,k _ _ (.inl O) e,c⟩
 | dT kvs=>
  obtain⟨z,y,xs,r,ob,es,ep,e,c⟩:=x
  exact⟨z,y,xs,Paired.Qbx r fun p q z=>⟨z.1,ht _ _ z.2.1,z.2.2⟩,ob,es,ep,k _ _ (.inl O) e,c⟩
 | set S n=>obtain⟨ob,es,ep,t,e,c⟩:=x;exact⟨ob,es,ep,t,k _ _ (.inl O) e,c⟩
 | ins C dx fs=>
  obtain⟨d,z,ne,e,mA,⟨od,es,ep,e2,c⟩,r⟩:=x
  exact⟨ho _ d,z,ne,k _ _ (.inl O) e,mA,⟨od,es,ep,k _ _ (.inr d) e2,c⟩,r⟩
 | own y=>obtain⟨ob,e⟩:=x;exact⟨ob,k _ _ (.inl O) e⟩
 | xd fs=>obtain⟨mA,⟨od,es,ep,e,c⟩,r⟩:=x;exact⟨mA,⟨od,es,ep,k _ _ (.inl O) e,c⟩,r⟩
 | W5 lo hi=>obtain⟨t,u,v,e⟩:=x;exact⟨t,u,v,k _ _ (.inl O) e⟩
 | UT ob u ih=>obtain⟨e,q⟩:=x;exact⟨k _ _ (.inl O) e,ih q⟩
 | Wz pos qual=>
  rcases x with e|⟨c,oc,vs,t,e1,e2,e3,e⟩
  .exact .inl (k a _ (.inl O) e)
  .exact .inr ⟨c,oc,vs,t,hf c oc e1,e2,e3,k a _ (.inl O) e⟩
 | met f y=>
  have e:h.get? a=f' (Qcp (.ref f) (.ref y)):=x
  show h'.get? a=f' (Qcp (.ref f) (.ref y))
  exact k a _ (.inl O) e
 | ext φ=>obtain⟨p,⟨o,e⟩,st⟩:=x;exact⟨st _ _ p fun o q=>k _ _ (.inl O) q,⟨o,k _ _ (.inl O) e⟩,st⟩
theorem Vu.lt (x:Vu P w H h) (e:H a=f' o):a<h.objs.size:=(x a o e).lt
theorem Vu.fresh (x:Vu P w H h) (e:h.objs.size≤a):H a=i':=by
 cases q:H a with
 | none=>rfl
 | some u=>exact UR (Rq (x.lt q) e) (Ry _)
theorem Vu.kept (x:Vu P w H h) (k:∀ b u,h.get? b=f' u→h'.get? b=f' u):Vu P w H h':=fun a o e=>
 (x a o e).WS (fun b u _ q=>k b u q) (fun _ q=>q) fun _ _ q=>q
theorem Vu.laid (x:Vu P w H h) (k:∀ b u,h.get? b=f' u→h'.get? b=f' u) (hp:h.objs.size≤a) (new:cS P w (upd H a o) h' a o):Vu P w (upd H a o) h':=fun b u e=>by
 have hn:=x.fresh hp
 by_cases hb:b=a
 .subst hb;rw[ag] at e;cases e;exact new
 .rw[aj hb] at e
  exact(x b u e).WS (fun c v _ q=>k c v q) (fun c q=>by rw[aj (aq q hn)];exact q) (fun c xs q=>by rw[aj (aq q hn)];exact q) fun c ob q=>by rw[aj (aq q hn)];exact q
end
def Rd (H:Hp) (a:F') (u:HO):Prop:=H a=f' u∨∃ o,H a=f' (.UT o u)
variable {H H':Hp}{M:Model}{N:List C'}{Q:L'→UG→Prop}{aa:List (F'×UZ)}{c e:UY}{ch:List F'}{d':Drawn}{g':Array Qbv}{o ob:UZ}{op:CmpOp}{s':UG}{t':Nat}{u:L'}{v:V}{x:C'}
theorem Rd.ok {u:HO} (r:Rd H a u) (x:Vu P w H h):cS P w H h a u:=by
 rcases r with r|⟨o,r⟩
 .exact x a u r
 .obtain⟨_,q⟩:=x a _ r
  exact q
def ZO:Option HO→Prop
 | some (.lst _)=>True
 | some (.dK _)=>True
 | some (.dT _)=>True
 | some (.set _ _)=>True
 | some (.ins _ _ _)=>True
 | some (.ext _)=>True
 | _=>False
section
variable {x e:F'}{o':HO}
theorem Vu.write (ok:Vu P w H h) (mu:ZO (H x)) (he:e=x∨H e=f' (.own x)) (k:∀ b u,b≠e→h.get? b=f' u→h'.get? b=f' u) (oj:∃ u,h'.get? e=f' u)
  (new:cS P w (upd H x o') h' x o'):Vu P w (upd H x o') h':=fun b u q=>by
 have qA:∀ c y,H c=f' (.own y)→c≠x:=fun c y r z=>by subst z;rw[r] at mu;exact mu
 have vN:∀ c xs,H c=f' (.tup xs)→c≠x:=fun c xs r z=>by subst z;rw[r] at mu;exact mu
 by_cases hb:b=x
 .subst hb;rw[ag] at q;cases q;exact new
 .rw[aj hb] at q
  by_cases kz:b=e
  .have q':H b=f' (.own x):=by
    rcases he with z|z
    .exact UR (kz.trans z) hb
    .rw[kz];exact z
   rw[q] at q';cases q'
   obtain⟨v,hv⟩:=oj
   exact⟨v,by rw[kz];exact hv⟩
  .refine(ok b u q).WS (fun c v hc r=>k c v ?_ r) (fun c r=>by rw[aj (qA c b r)];exact r) (fun c xs r=>by rw[aj (vN c xs r)];exact r) fun c ob r=>by rw[aj (fun z=>by subst z;rw[r] at mu;exact mu)];exact r
   rcases hc with rfl|hc
   .exact kz
   .rintro rfl
    rcases he with z|z
    .exact qA c b hc z
    .rw[hc] at z;cases z;exact hb rfl
end
structure Un (fs ex:List F') (H H':Hp) (h h':U6):Prop where
 keep:∀ b o,h.get? b=f' o→H b=i'→b∉fs→b∉ex→h'.get? b=f' o
 slot:∀ b o,h.get? b=f' o→H b=i'→b∈fs→b∉ex→∃ sl,h'.get? b=f' { o with slots:=sl }
 free:∀ b o,h.get? b=f' o→H b=i'→b∉ex→H' b=i'
 there:∀ b o,h.get? b=f' o→b∉ex→∃ o',h'.get? b=f' o'
 WT:∀ b xs,H b=f' (.tup xs)→H' b=f' (.tup xs)
 Ww:∀ b o u,H b=f' (.UT o u)→H' b=f' (.UT o u)
 WH:∀ b p q,H b=f' (.Wz p q)→H' b=f' (.Wz p q)
section
variable {fs GA ex AN:List F'}{H1 H2:Hp}{h1 h2:U6}{x e:F'}{o:HO}
theorem Un.any (u:Un fs ex H H1 h h1) (q:h.get? b=f' ob) (n:H b=i') (hx:b∉ex):∃ sl,h1.get? b=f' { ob with slots:=sl }:=by
 by_cases hb:b∈fs
 .exact u.slot b ob q n hb hx
 .exact⟨ob.slots,u.keep b ob q n hb hx⟩
theorem Un.trans (a:Un fs ex H H1 h h1) (b:Un fs ex H1 H2 h1 h2):Un fs ex H H2 h h2 where
 keep:=fun c ob q n hc hx=>b.keep c ob (a.keep c ob q n hc hx) (a.free c ob q n hx) hc hx
 slot:=fun c ob q n hc hx=>by
  obtain⟨sl,e1⟩:=a.slot c ob q n hc hx
  obtain⟨w9,e2⟩:=b.slot c _ e1 (a.free c ob q n hx) hc hx
  exact⟨w9,e2⟩
 free:=fun c ob q n hx=>by
  obtain⟨o',e1⟩:=a.there c ob q hx
  exact b.free c o' e1 (a.free c ob q n hx) hx
 there:=fun c ob q hx=>by
  obtain⟨o',e1⟩:=a.there c ob q hx
  exact b.there c o' e1 hx
 WT:=fun c xs q=>b.WT c xs (a.WT c xs q)
 Ww:=fun c ob xs q=>b.Ww c ob xs (a.Ww c ob xs q)
 WH:=fun c p q z=>b.WH c p q (a.WH c p q z)
theorem Un.kept (k:∀ b u,h.get? b=f' u→h'.get? b=f' u):Un fs ex H H h h':=
 ⟨fun b ob q _ _ _=>k b ob q,fun b ob q _ _ _=>⟨ob.slots,k b ob q⟩,fun _ _ _ n _=>n,fun b ob q _=>⟨ob,k b ob q⟩,fun _ _ q=>q,fun _ _ _ q=>q,fun _ _ _ q=>q⟩
theorem Un.refl:Un fs ex H H h h:=Un.kept fun _ _ q=>q
theorem Un.laid (k:∀ b u,h.get? b=f' u→h'.get? b=f' u) (hp:h.objs.size≤a) (hn:H a=i'):Un fs ex H (upd H a o) h h' where
 keep:=fun b u q _ _ _=>k b u q
 slot:=fun b u q _ _ _=>⟨u.slots,k b u q⟩
 free:=fun b u q n _=>by rw[aj (Rb (Rq (Q6 q) hp))];exact n
 there:=fun b u q _=>⟨u,k b u q⟩
 WT:=fun b xs q=>by rw[aj (aq q hn)];exact q
 Ww:=fun b u xs q=>by rw[aj (aq q hn)];exact q
 WH:=fun b p r q=>by rw[aj (aq q hn)];exact q
theorem Un.write (mu:ZO (H x)) (he:e=x∨H e=f' (.own x)) (k:∀ b u,b≠e→h.get? b=f' u→h'.get? b=f' u) (oj:∃ u,h'.get? e=f' u):Un fs ex H (upd H x o) h h':=by
 have hx:∀ b,H b=i'→b≠x:=fun b n z=>by subst z;rw[n] at mu;exact mu
 have hb:∀ b,H b=i'→b≠e:=fun b n z=>by
  subst z
  rcases he with r|r
  .exact hx b n r
  .rw[n] at r;cases r
 have hm:∀ b u,H b=f' u→¬ ZO (f' u)→b≠x:=fun b u q nm z=>by subst z;rw[q] at mu;exact nm mu
 refine⟨fun b u q n _ _=>k b u (hb b n) q,fun b u q n _ _=>⟨u.slots,k b u (hb b n) q⟩,fun b u q n _=>by rw[aj (hx b n)];exact n,fun b u q _=>?_,
  fun b xs q=>by rw[aj (hm b _ q fun z=>z)];exact q,fun b u xs q=>by rw[aj (hm b _ q fun z=>z)];exact q,fun b p r q=>by rw[aj (hm b _ q fun z=>z)];exact q⟩
 by_cases kz:b=e
 .subst kz;exact oj
 .exact⟨u,k b u kz q⟩
end
def trk (h:U6) (H:Hp):List F':=(VH h.objs.size).filter fun a=>(H a).isSome
def l8 (h:U6) (H:Hp):U6:=PySem.W.hideAll h (trk h H)
theorem OX (h:U6) (H:Hp):(l8 h H).objs.size=h.objs.size:=PySem.W.hideAll_size _ _
theorem zd  (e:h.get? b=f' o) (n:H b=i'):(l8 h H).get? b=f' o:=
 PySem.W.hideAll_get _ e fun hm=>by
  have q:(H b).isSome=B':=(Qfu.mp hm).2
  rw[n] at q;simp at q
theorem LX  (e:(l8 h H).get? b=f' o):h.get? b=f' o∧H b=i':=by
 have e':h.get? b=f' o:=PySem.W.of_hideAll (trk h H) e
 refine⟨e',?_⟩
 cases q:H b with
 | none=>rfl
 | some x=>
  have hm:b∈trk h H:=Qfu.mpr ⟨List.mem_range.mpr (Q6 e'),by simp[q]⟩
  have z:(l8 h H).get? b=i':=PySem.W.hideAll_none (trk h H) hm
  rw[z] at e;cases e
def Ps (g h:U6) (L:F'):List (F'×UZ):=(VH h.objs.size).filterMap fun a=>if a=L∨(g.get? a).isSome=B' then i' else(h.get? a).map fun o=>(a,o)
def bb (g h:U6) (L d:F'):List (F'×UZ):=(Ps g h L).filter fun p=>decide (p.1≠d)
structure Mod (K:R') (mg:C'→Option L') (base:U6):Prop where
 W6:K.In base
 glob:base.Ns VU mg
 blt:∃ mb,base.Ns Y4 mb∧∀ x:C',x≠"__name__"→mb x=V6 x
 nolimit:base.NoLimit
 bmain:∃ bm ob,mg "__builtins__"=f' (.ref bm)∧bm≠Y4∧base.get? bm=f' ob∧ob.cls=.type "module"∧ob.dict=f' Y4∧ob.data=.plain
structure Cx where
 prog:Vz
 w:Vw
 K:R'
 mg:C'→Option L'
 base:U6
 A:VQ
 N:List C'
 s₀:UG
 H₀:Hp
 env:VZ
 outer:List VZ
 stack:List VZ
 ex:List F'
 fn:C'→Bool
 calm:Bool
 pn:List (F'×UZ)
 xe:L'→UG→Prop
def VA (l:List VZ):List F':=l.filterMap (·.frame)
abbrev Cx.fs (X:Cx):List F':=VA X.outer
def Vis (sc:WR) (x:C'):Prop:=sc.names.lookup x=f' .local∨sc.names.lookup x=f' .cell∨sc.names.lookup x=f' .free
def Loc (sc:WR) (x:C'):Prop:=sc.names.lookup x=f' .local∨sc.names.lookup x=f' .cell
def Look (env:VZ) (h:U6) (m:C'→Option L') (x:C') (u:L'):Prop:=
 (env.kindOf x=f' .local∧m x=f' u)∨((env.kindOf x=f' .cell∨env.kindOf x=f' .free)∧∃ c,env.cells.lookup x=f' c∧h.IsCell c (f' u))
def jE (H:Hp) (cs:List F'):Prop:=cs.Nodup∧∀ j a,cs[j]?=f' a→∃ o u vs,H a=f' (.UT o u)∧o.data=.fields vs∧vs[2]?=f' (XU cs (j + 1))
def jF (A:VQ) (H:Hp):Prop:=A.handled=i'∨∃ a cs,A.handled=f' (.ref a)∧jE H (a::cs)
structure Cx.Ok (X:Cx):Prop where
 mod:Mod X.K X.mg X.base
 kind:X.env.scope.kind=.function
 glob:X.env.globals=VU
 blt:X.env.builtins=Y4
 above:X.s₀.heap.objs.size≤X.env.locals
 inj:∀ x y c,X.env.cells.lookup x=f' c→X.env.cells.lookup y=f' c→x=y
 has:∀ x,(X.env.kindOf x=f' .cell∨X.env.kindOf x=f' .free)→∃ c,X.env.cells.lookup x=f' c
 YD:∀ x c,X.fn x=B'→X.env.cells.lookup x=f' c→X.s₀.heap.objs.size≤c
 hd:jF X.A X.H₀
 frames:X.A.frames=f' X.stack
 YE:X.stack=X.outer∨(X.stack=X.env::X.outer∧X.env.frame=f' X.env.locals)
 ZP:∀ b∈X.ex,b≠X.env.locals∧∀ x c,X.env.cells.lookup x=f' c→c≠b
 bs:∀ b o,X.base.get? b=f' o→X.s₀.heap.get? b=f' o∧X.H₀ b=i'
 Xg:X.base.objs.size≤X.s₀.heap.objs.size
 Yg:∀ b o,X.base.get? b=f' o→b∉X.ex
 YF:∀ b∈X.ex,b∉X.fs
 WA:X.s₀.heap.FunFrames X.base X.outer
 Xt:∀ b∈X.fs,X.H₀ b=i'
structure Inv (X:Cx) (aa:List (F'×UZ)) (σ:List (Option V)) (H:Hp) (s:UG):Prop where
 ok:X.Ok
 os:s.os=X.s₀.os
 bare:XO s.gens
 base:Un X.fs X.ex X.H₀ H X.s₀.heap s.heap
 loc:∃ m,s.heap.Ns X.env.locals m∧∀ (i:Nat) (x:C') (v:V),X.N[i]?=f' x→σ[i]?=f' (f' v)→Vis X.env.scope x→∃ u,aD v u∧Look X.env s.heap m x u
 cell:∀ x c,X.env.cells.lookup x=f' c→∃ v,s.heap.IsCell c v
 free:H X.env.locals=i'
 V0:∀ x c,X.env.cells.lookup x=f' c→H c=i'
 pin:∀ p∈X.pn++aa,s.heap.get? p.1=f' p.2∧H p.1=i'∧p.1≠X.env.locals∧p.1∉X.fs∧∀ v,p.2.data≠.cell v
 UJ:Vu X.prog X.w H s.heap
 len:σ.length=X.N.length
section
variable {X:Cx}{σ:List (Option V)}
theorem Cx.Ok.Qgw (ok:X.Ok) (e:X.base.get? b=f' o):b∉X.fs:=fun hb=>by
 have:=(ok.WA.mem hb).1
 rw[e] at this;cases this
theorem Inv.bs (I:Inv X aa σ H s):∀ b o,X.base.get? b=f' o→s.heap.get? b=f' o∧H b=i':=fun b o e=>
 ⟨I.base.keep b o (I.ok.bs b o e).1 (I.ok.bs b o e).2 (I.ok.Qgw e) (I.ok.Yg b o e),I.base.free b o (I.ok.bs b o e).1 (I.ok.bs b o e).2 (I.ok.Yg b o e)⟩
theorem Inv.bk (I:Inv X aa σ H s):∀ b o,X.base.get? b=f' o→s.heap.get? b=f' o:=fun b o e=>(I.bs b o e).1
theorem Inv.mod (I:Inv X aa σ H s):Mod X.K X.mg X.base:=I.ok.mod
theorem Inv.U9 (I:Inv X aa σ H s):X.K.In s.heap:=I.ok.mod.W6.keeps I.bk
theorem jE.mono  (c:jE H cs) (k:∀ b o u,H b=f' (.UT o u)→H' b=f' (.UT o u)):jE H' cs:=⟨c.1,fun j a hj=>by
 obtain⟨o,u,vs,h,r⟩:=c.2 j a hj
 exact⟨o,u,vs,k a o u h,r⟩⟩
theorem jE.ZQ  (c:jE H cs) (k:Vu P w H h):Vc h cs:=⟨c.1,fun j a hj=>by
 obtain⟨o,u,vs,q,r⟩:=c.2 j a hj
 obtain⟨z,_⟩:=k a _ q
 exact⟨o,vs,z,r⟩⟩
theorem jE.ZR  (c:jE H cs) (hb:H b=i'):b∉cs:=fun z=>by
 obtain⟨j,hj⟩:=X4.mp z
 obtain⟨o,u,vs,q,_⟩:=c.2 j b hj
 rw[hb] at q;cases q
theorem jF.mono {A:VQ} (x:jF A H) (k:∀ b o u,H b=f' (.UT o u)→H' b=f' (.UT o u)):jF A H':=by
 rcases x with e|⟨a,cs,e,c⟩
 .exact .inl e
 .exact .inr ⟨a,cs,e,c.mono k⟩
theorem Inv.XW (I:Inv X aa σ H s):jF X.A H:=I.ok.hd.mono I.base.Ww
theorem jF.hd  (x:jF A H) (k:Vu P w H h):Hd A h:=by
 rcases x with e|⟨a,cs,e,c⟩
 .exact .inl e
 .exact .inr ⟨a,cs,e,c.ZQ k⟩
theorem jF.new {p:F'}{u:HO} (x:jF A H) (hn:H p=i'):jF A (upd H p u):=x.mono fun b o v q=>by rw[aj (aq q hn)];exact q
theorem Inv.hd (I:Inv X aa σ H s):Hd X.A s.heap:=I.XW.hd I.UJ
theorem Inv.lt (I:Inv X aa σ H s):X.env.locals<s.heap.objs.size:=let ⟨_,hn,_⟩:=I.loc;hn.lt
theorem Inv.sz (I:Inv X aa σ H s):X.s₀.heap.objs.size≤s.heap.objs.size:=RT I.ok.above (R9 I.lt)
theorem Inv.Qgx (I:Inv X aa σ H s) (h:s.heap.objs.size≤a):a∉X.fs:=fun hb=>by
 obtain⟨_,o,ho,_⟩:=I.ok.WA.mem hb
 exact UR (Rq (Q6 ho) (RT I.sz h)) (Ry _)
theorem Inv.XX (I:Inv X aa σ H s):∀ x c,X.env.cells.lookup x=f' c→c≠X.env.locals:=fun x c e z=>by
 obtain⟨v,o,ho,hd⟩:=I.cell x c e
 obtain⟨m,⟨o',es,ep,i6,cY,_⟩,_⟩:=I.loc
 rw[z,i6] at ho;cases ho;rw[cY] at hd;cases hd
theorem Inv.WA (I:Inv X aa σ H s):s.heap.FunFrames X.base X.outer:=by
 have all:∀ (l:List VZ),(∀ b∈VA l,b∈X.fs)→X.s₀.heap.FunFrames X.base l→s.heap.FunFrames X.base l:=by
  intro l
  induction l with
  | nil=>intro _ _;trivial
  | cons env r ih=>
   intro hs hl
   obtain⟨hk,⟨L,o,hf,hn,ho,hd⟩,hr⟩:=hl
   have hL:L∈X.fs:=hs L (by unfold VA;rw[S1,hf];exact Rr)
   obtain⟨sl,e⟩:=I.base.slot L o ho (I.ok.Xt L hL) hL fun z=>I.ok.YF L z hL
   exact⟨hk,⟨L,_,hf,hn,e,hd⟩,ih (fun b hb=>hs b (by unfold VA;rw[S1,hf];exact Rc _ hb)) hr⟩
 exact all X.outer (fun _ hb=>hb) I.ok.WA
theorem Inv.stack (I:Inv X aa σ H s):s.heap.FunFrames X.base X.stack:=by
 rcases I.ok.YE with e|⟨e,hf⟩
 .rw[e];exact I.WA
 .rw[e]
  obtain⟨m,hn,_⟩:=I.loc
  refine .cons (by rw[I.ok.kind];decide) hf hn ?_ I.WA
  exact U6.get?_none_of_le (RT I.ok.Xg I.ok.above)
theorem Inv.WU (I:Inv X aa σ H s):∀ b∈VA X.stack,b∈X.env.locals::X.fs:=fun b hb=>by
 rcases I.ok.YE with e|⟨e,hf⟩
 .rw[e] at hb;exact Rc _ hb
 .rw[e] at hb
  unfold VA at hb
  rw[S1,hf] at hb
  exact hb
theorem Inv.Qau (I:Inv X aa σ H s):∀ b∈VA X.stack,H b=i':=fun b hb=>by
 rcases RS.mp (I.WU b hb) with e|hb
 .rw[e];exact I.free
 .obtain⟨_,o,ho,_⟩:=I.ok.WA.mem hb
  exact I.base.free b o ho (I.ok.Xt b hb) fun z=>I.ok.YF b z hb
theorem Inv.step  (I:Inv X aa σ H s)
  (fg:∀ b∈ch,(b∈X.ex∨X.s₀.heap.objs.size≤b)∧b≠X.env.locals∧(∀ x c,X.env.cells.lookup x=f' c→c≠b)∧∀ p∈X.pn++aa,p.1≠b)
  (keep:∀ b o,b≠X.env.locals→b∉X.fs→b∉ch→s.heap.get? b=f' o→H b=i'→h'.get? b=f' o)
  (slot:∀ b o,b≠X.env.locals→b∈X.fs→b∉ch→s.heap.get? b=f' o→H b=i'→∃ sl,h'.get? b=f' { o with slots:=sl }) (free:∀ b o,b∉ch→s.heap.get? b=f' o→H b=i'→H' b=i')
  (there:∀ b o,b∉ch→s.heap.get? b=f' o→∃ o',h'.get? b=f' o')
  (WT:∀ b xs,H b=f' (.tup xs)→H' b=f' (.tup xs)) (Ww:∀ b o u,H b=f' (.UT o u)→H' b=f' (.UT o u)) (WH:∀ b p q,H b=f' (.Wz p q)→H' b=f' (.Wz p q))
  (ns:∀ m,s.heap.Ns X.env.locals m→h'.Ns X.env.locals m) (UJ:Vu X.prog X.w H' h') (hg:XO g') :
  Inv X aa σ H' { s with heap:=h',gens:=g',drawn:=d',toks:=t' }:=by
 have BR:∀ b o,X.s₀.heap.get? b=f' o→b≠X.env.locals:=fun b o e=>Rb (Rq (Q6 e) I.ok.above)
 have sH:∀ b o,X.s₀.heap.get? b=f' o→b∉X.ex→b∉ch:=fun b o e hx hb=>by
  rcases(fg b hb).1 with z|z
  .exact hx z
  .exact UR (Rq (Q6 e) z) (Ry _)
 have lQ:∀ x c,X.env.cells.lookup x=f' c→∀ v,s.heap.IsCell c v→h'.IsCell c v:=fun x c e v ⟨o,ho,hd⟩=>by
  have qJ:c∉ch:=fun z=>(fg c z).2.2.1 x c e rfl
  by_cases hc:c∈X.fs
  .obtain⟨sl,q⟩:=slot c o (I.XX x c e) hc qJ ho (I.V0 x c e)
   exact⟨_,q,hd⟩
  .exact⟨o,keep c o (I.XX x c e) hc qJ ho (I.V0 x c e),hd⟩
 refine⟨I.ok,I.os,hg,⟨fun b o e n hb hx=>?_,fun b o e n hb hx=>?_,fun b o e n hx=>?_,fun b o e hx=>?_,fun b xs e=>WT b xs (I.base.WT b xs e),fun b o xs e=>Ww b o xs (I.base.Ww b o xs e),fun b p q e=>WH b p q (I.base.WH b p q e)⟩,?_,fun x c e=>?_,?_,fun x c e=>?_,fun p hp=>?_,UJ,I.len⟩
 .exact keep b o (BR b o e) hb (sH b o e hx) (I.base.keep b o e n hb hx) (I.base.free b o e n hx)
 .obtain⟨sl,e1⟩:=I.base.slot b o e n hb hx
  obtain⟨w9,e2⟩:=slot b _ (BR b o e) hb (sH b o e hx) e1 (I.base.free b o e n hx)
  exact⟨w9,e2⟩
 .obtain⟨o',e1⟩:=I.base.there b o e hx
  exact free b o' (sH b o e hx) e1 (I.base.free b o e n hx)
 .obtain⟨o',e1⟩:=I.base.there b o e hx
  exact there b o' (sH b o e hx) e1
 .obtain⟨m,hn,hl⟩:=I.loc
  refine⟨m,ns m hn,fun i x v e1 e2 e3=>?_⟩
  obtain⟨u,r,l⟩:=hl i x v e1 e2 e3
  refine⟨u,r,?_⟩
  rcases l with l|⟨k,c,e,z⟩
  .exact .inl l
  .exact .inr ⟨k,c,e,lQ x c e _ z⟩
 .obtain⟨v,z⟩:=I.cell x c e
  exact⟨v,lQ x c e v z⟩
 .obtain⟨m,⟨o,_,_,ho,_⟩,_⟩:=I.loc
  exact free _ o (fun z=>(fg _ z).2.1 O) ho I.free
 .obtain⟨v,o,ho,hd⟩:=I.cell x c e
  exact free c o (fun z=>(fg c z).2.2.1 x c e O) ho (I.V0 x c e)
 .obtain⟨e,n,ne,nf,d⟩:=I.pin p hp
  have qJ:p.1∉ch:=fun z=>(fg p.1 z).2.2.2 p hp rfl
  exact⟨keep p.1 p.2 ne nf qJ e n,free p.1 p.2 qJ e n,ne,nf,d⟩
theorem Inv.un  (I:Inv X aa σ H s) (u:Un X.fs [] H H' s.heap h') (UJ:Vu X.prog X.w H' h'):Inv X aa σ H' { s with heap:=h',toks:=t' }:=by
 obtain⟨m,⟨o,es,ep,ho,r⟩,_⟩:=id I.loc
 obtain⟨sl,hL⟩:=u.any ho I.free (by simp)
 exact I.step (g':=s.gens) (d':=s.drawn) (ch:=[]) (fun _ z=>nomatch z) (fun b o _ hb _ e n=>u.keep b o e n hb (by simp)) (fun b o _ hb _ e n=>u.slot b o e n hb (by simp)) (fun b o _ e n=>u.free b o e n (by simp)) (fun b o _ e=>u.there b o e (by simp)) u.WT u.Ww u.WH (fun m' hm=>by
  obtain⟨o',iY,wH,i6,r'⟩:=hm
  rw[ho] at i6;cases i6
  exact⟨_,iY,wH,hL,r'⟩) UJ I.bare
theorem Inv.call  (I:Inv X aa σ H s) (u:Un (VA X.stack) ch H H' s.heap h') (UJ:Vu X.prog X.w H' h') (hg:XO g')
  (fg:∀ b∈ch,(b∈X.ex∨X.s₀.heap.objs.size≤b)∧b≠X.env.locals∧(∀ x c,X.env.cells.lookup x=f' c→c≠b)∧∀ p∈X.pn++aa,p.1≠b) :
  Inv X aa σ H' { s with heap:=h',gens:=g',drawn:=d',toks:=t' }:=by
 obtain⟨m,⟨o,es,ep,ho,r⟩,_⟩:=id I.loc
 obtain⟨sl,hL⟩:=u.any ho I.free fun z=>(fg _ z).2.1 rfl
 exact I.step (ch:=ch) fg (fun b o hL hb hc e n=>u.keep b o e n (fun z=>(RS.mp (I.WU b z)).elim hL hb) hc) (fun b o _ _ hc e n=>u.any e n hc) (fun b o hc e n=>u.free b o e n hc) (fun b o hc e=>u.there b o e hc) u.WT u.Ww u.WH (fun m' hm=>by
  obtain⟨o',iY,wH,i6,r'⟩:=hm
  rw[ho] at i6;cases i6
  exact⟨_,iY,wH,hL,r'⟩) UJ hg
theorem Inv.turned  (I:Inv X aa σ H s) (k:∀ b o,b≠it→s.heap.get? b=f' o→h'.get? b=f' o) (hn:H it=i') (hL:it≠X.env.locals)
  (h1:it∈X.ex∨X.s₀.heap.objs.size≤it) (h2:∀ x c,X.env.cells.lookup x=f' c→c≠it) (h3:∀ p∈X.pn++aa,p.1≠it):Inv X aa σ H { s with heap:=h',toks:=t' }:=by
 have zW:∀ b u,H b=f' u→b≠it:=fun b u e z=>by rw[z,hn] at e;cases e
 refine I.step (g':=s.gens) (d':=s.drawn) (ch:=[it]) (fun b hb=>?_) (fun b o _ _ hc e _=>k b o (fun z=>hc (by simp[z])) e) (fun b o _ _ hc e _=>⟨o.slots,k b o (fun z=>hc (by simp[z])) e⟩) (fun _ _ _ _ n=>n)
  (fun b o hc e=>⟨o,k b o (fun z=>hc (by simp[z])) e⟩) (fun _ _ e=>e) (fun _ _ _ e=>e) (fun _ _ _ e=>e) (fun m hm=>?_) (fun b u e=>?_) I.bare
 .have e:b=it:=by simpa using hb
  subst e
  exact⟨h1,hL,h2,h3⟩
 .obtain⟨o,es,ep,ho,r⟩:=hm
  exact⟨o,es,ep,k _ o (UM hL) ho,r⟩
 .refine(I.UJ b u e).WS (fun c v hc q=>k c v ?_ q) (fun _ q=>q) fun _ _ q=>q
  rcases hc with z|z
  .rw[z];exact zW b u e
  .exact zW c _ z
theorem Inv.tok (I:Inv X aa σ H s) (t:Nat):Inv X aa σ H { s with toks:=t }:=I.un (h':=s.heap) (t':=t) Un.refl I.UJ
theorem Inv.kept {t':Nat} (I:Inv X aa σ H s) (k:∀ b u,s.heap.get? b=f' u→h'.get? b=f' u):Inv X aa σ H { s with heap:=h',toks:=t' }:=I.un (Un.kept k) (I.UJ.kept k)
theorem Inv.laid {a:F'}{o:HO}{t':Nat} (I:Inv X aa σ H s) (k:∀ b u,s.heap.get? b=f' u→h'.get? b=f' u) (hp:s.heap.objs.size≤a) (new:cS X.prog X.w (upd H a o) h' a o) :
  Inv X aa σ (upd H a o) { s with heap:=h',toks:=t' }:=I.un (Un.laid k hp (I.UJ.fresh hp)) (I.UJ.laid k hp new)
theorem Inv.write {x e:F'}{o:HO}{t':Nat} (I:Inv X aa σ H s) (mu:ZO (H x)) (he:e=x∨H e=f' (.own x)) (k:∀ b u,b≠e→s.heap.get? b=f' u→h'.get? b=f' u) (oj:∃ u,h'.get? e=f' u)
  (new:cS X.prog X.w (upd H x o) h' x o):Inv X aa σ (upd H x o) { s with heap:=h',toks:=t' }:=I.un (Un.write mu he k oj) (I.UJ.write mu he k oj new)
theorem Inv.Qc0 {aY:List (F'×UZ)} (I:Inv X aa σ H s) (h:∀ p∈aY,s.heap.get? p.1=f' p.2∧H p.1=i'∧p.1≠X.env.locals∧p.1∉X.fs∧∀ v,p.2.data≠.cell v):Inv X aY σ H s:=
 ⟨I.ok,I.os,I.bare,I.base,I.loc,I.cell,I.free,I.V0,fun p hp=>(V9.mp hp).elim (fun z=>I.pin p (Rz _ z)) (h p),I.UJ,I.len⟩
theorem zO  (hN:N.Nodup){j:Nat} (a:N[i]?=f' x) (b:N[j]?=f' x):i=j:=by
 obtain⟨h1,e1⟩:=VD.mp a
 obtain⟨h2,e2⟩:=VD.mp b
 exact(List.getElem_inj hN).mp (e1.trans e2.symm)
theorem Dg {Q:Unit→UG→Prop} (I:Inv X aa σ H s) (hN:X.N.Nodup) (hi:X.N[i]?=f' x) (hx:Loc X.env.scope x) (r:aD v u)
  (h:∀ s',Inv X aa (σ.set i (f' v)) H s'→(∃ a,XH a s.heap s'.heap∧(a=X.env.locals∨X.env.cells.lookup x=f' a))→Q () s') (hf:X.fn x=B'∨X.env.scope.names.lookup x=f' .local:=by first|exact .inl rfl|exact .inr rfl|assumption):M' M A (storeName X.env x u) Q E s:=by
 obtain⟨m,hn,hl⟩:=id I.loc
 have mM:(X.env.scope.kind == .class || (X.env.scope.kind == .module && X.env.locals != X.env.globals))=K':=by rw[I.ok.kind];rfl
 have sR:i<σ.length:=by rw[I.len];exact(VD.mp hi).1
 have XX:=I.XX
 have hJ:∀ {a:F'}{h':U6},(∃ o,s.heap.get? a=f' o∧H a=i')→XH a s.heap h'→Vu X.prog X.w H h':=fun {a h'} ha hs b ob e=>by
  obtain⟨_,_,lI⟩:=ha
  refine(I.UJ b ob e).WS (fun c w' hc q=>(hs.2 c ?_).trans q) (fun _ q=>q) fun _ _ q=>q
  rintro rfl
  rcases hc with rfl|hc
  .rw[lI] at e;cases e
  .rw[lI] at hc;cases hc
 rcases hx with hk|hk
 .refine wpAny_storeName_local hk hn (fun h' xA hs=>?_) mM
  obtain⟨oL,_,_,AT,_⟩:=id hn
  refine h _ ⟨I.ok,I.os,I.bare,⟨fun b o e n hb hx=>?_,fun b o e n hb hx=>?_,I.base.free,fun b o e hx=>?_,I.base.WT,I.base.Ww,I.base.WH⟩,⟨_,xA,fun j y v' e1 e2 e3=>?_⟩,fun y c e=>?_,I.free,I.V0,fun p hp=>?_,hJ ⟨oL,AT,I.free⟩ hs,by simpa using I.len⟩ ⟨_,hs,.inl rfl⟩
  .exact(hs.2 b (Rb (Rq (Q6 e) I.ok.above))).trans (I.base.keep b o e n hb hx)
  .obtain⟨sl,e1⟩:=I.base.slot b o e n hb hx
   exact⟨sl,(hs.2 b (Rb (Rq (Q6 e) I.ok.above))).trans e1⟩
  .obtain⟨o',e1⟩:=I.base.there b o e hx
   exact⟨o',(hs.2 b (Rb (Rq (Q6 e) I.ok.above))).trans e1⟩
  .by_cases hj:j=i
   .subst hj
    rw[hi] at e1;cases e1
    rw[Td sR] at e2
    cases e2
    exact⟨u,r,.inl ⟨hk,by simp⟩⟩
   .rw[Tl (UM hj)] at e2
    obtain⟨u',r',q⟩:=hl j y v' e1 e2 e3
    refine⟨u',r',?_⟩
    rcases q with⟨k,e⟩|⟨k,c,e,z⟩
    .refine .inl ⟨k,?_⟩
     have:y≠x:=fun e=>hj (zO hN e1 (e ▸ hi))
     simp[this,e]
    .exact .inr ⟨k,c,e,z.sameBut hs (XX y c e)⟩
  .obtain⟨w',z⟩:=I.cell y c e
   exact⟨w',z.sameBut hs (XX y c e)⟩
  .obtain⟨e,n,ne,nf,d⟩:=I.pin p hp
   exact⟨(hs.2 p.1 ne).trans e,n,ne,nf,d⟩
 .have vt:X.fn x=B':=by
   rcases hf with z|z
   .exact z
   .rw[z] at hk;cases hk
  obtain⟨c,hc⟩:=I.ok.has x (.inl hk)
  obtain⟨w',z⟩:=I.cell x c hc
  refine wpAny_storeName_cell I.ok.kind hk hc z (fun h' jk hs=>?_)
  obtain⟨oc,Ak,vn⟩:=id z
  refine h { s with heap:=h' } ⟨I.ok,I.os,I.bare,⟨fun b o e n hb hx=>?_,fun b o e n hb hx=>?_,I.base.free,fun b o e hx=>?_,I.base.WT,I.base.Ww,I.base.WH⟩,⟨m,hn.sameBut hs (UM (XX x c hc)),fun j y v' e1 e2 e3=>?_⟩,fun y c' e=>?_,I.free,I.V0,fun p hp=>?_,hJ ⟨oc,Ak,I.V0 x c hc⟩ hs,by simpa using I.len⟩ ⟨c,hs,.inr hc⟩
  .exact(hs.2 b (Rb (Rq (Q6 e) (I.ok.YD x c vt hc)))).trans (I.base.keep b o e n hb hx)
  .obtain⟨sl,e1⟩:=I.base.slot b o e n hb hx
   exact⟨sl,(hs.2 b (Rb (Rq (Q6 e) (I.ok.YD x c vt hc)))).trans e1⟩
  .obtain⟨o',e1⟩:=I.base.there b o e hx
   exact⟨o',(hs.2 b (Rb (Rq (Q6 e) (I.ok.YD x c vt hc)))).trans e1⟩
  .by_cases hj:j=i
   .subst hj
    rw[hi] at e1;cases e1
    rw[Td sR] at e2
    cases e2
    exact⟨u,r,.inr ⟨.inl hk,c,hc,jk⟩⟩
   .rw[Tl (UM hj)] at e2
    obtain⟨u',r',q⟩:=hl j y v' e1 e2 e3
    refine⟨u',r',?_⟩
    rcases q with q|⟨k,c',e,z'⟩
    .exact .inl q
    .refine .inr ⟨k,c',e,z'.sameBut hs ?_⟩
     rintro rfl
     exact hj (zO hN e1 (I.ok.inj _ _ _ e hc ▸ hi))
  .by_cases AJ:c'=c
   .subst AJ;exact⟨_,jk⟩
   .obtain⟨w2,z2⟩:=I.cell y c' e
    exact⟨w2,z2.sameBut hs AJ⟩
  .obtain⟨e,n,ne,nf,d⟩:=I.pin p hp
   refine⟨(hs.2 p.1 ?_).trans e,n,ne,nf,d⟩
   intro q
   rw[q,Ak] at e
   have q':oc=p.2:=VE e
   exact d w' (by rw[← q'];exact vn)
theorem zL {Q:Unit→UG→Prop} (I:Inv X aa σ H s) (hN:X.N.Nodup) (hi:X.N[i]?=f' x) (hx:Loc X.env.scope x) (r:aD v u)
  (h:∀ s',Inv X aa (σ.set i (f' v)) H s'→Q () s') (hf:X.fn x=B'∨X.env.scope.names.lookup x=f' .local:=by first|exact .inl rfl|exact .inr rfl|assumption):M' M A (storeName X.env x u) Q E s:=
 Dg I hN hi hx r (fun s' I' _=>h s' I') hf
theorem Inv.Qc1  (I:Inv X aa σ H s) (ho:s'.os=s.os) (u:Un (VA X.stack) ch H H' s.heap s'.heap) (UJ:Vu X.prog X.w H' s'.heap) (hg:XO s'.gens)
  (fg:∀ b∈ch,(b∈X.ex∨X.s₀.heap.objs.size≤b)∧b≠X.env.locals∧(∀ x c,X.env.cells.lookup x=f' c→c≠b)∧∀ p∈X.pn++aa,p.1≠b):Inv X aa σ H' s':=by
 obtain⟨h',g',d',t',o'⟩:=s'
 have e:o'=s.os:=ho
 subst e
 exact I.call (g':=g') (t':=t') (d':=d') u UJ hg fg
end
abbrev XK:=L'→Option F'→Hp→Prop
abbrev St:=List (Option V)
abbrev VK:=V→Hp→Prop
abbrev TE:=St→Hp→VK→Prop
abbrev TT:=St→Hp→(Bool→Hp→Prop)→Prop
abbrev TA:=St→Hp→(List V→Hp→Prop)→Prop
structure fV where
 nx:St→Hp→Prop
 rt:VK
 bk:St→Hp→Prop:=fun _ _=>False
 ct:St→Hp→Prop:=fun _ _=>False
abbrev TS:=fV→St→Hp→Prop
def EP (X:Cx) (aa:List (F'×UZ)) (σ:St) (Q:VK) (u:L') (s':UG):Prop:=∃ v H',Inv X aa σ H' s'∧aD v u∧Q v H'
def TP (X:Cx) (aa:List (F'×UZ)) (σ:St) (Q:Bool→Hp→Prop) (b:Bool) (s':UG):Prop:=∃ H',Inv X aa σ H' s'∧Q b H'
def AP (X:Cx) (aa:List (F'×UZ)) (σ:St) (Q:List V→Hp→Prop) (us:List L') (s':UG):Prop:=∃ vs H',Inv X aa σ H' s'∧aB vs us∧Q vs H'
def SP (X:Cx) (aa:List (F'×UZ)) (D:fV) (f:WG) (s':UG):Prop:=
 match f with
 | .next=>∃ σ' H',Inv X aa σ' H' s'∧D.nx σ' H'
 | .brk=>∃ σ' H',Inv X aa σ' H' s'∧D.bk σ' H'
 | .cont=>∃ σ' H',Inv X aa σ' H' s'∧D.ct σ' H'
 | .ret u=>∃ v σ' H',Inv X aa σ' H' s'∧aD v u∧D.rt v H'
def PE (X:Cx) (e:UY) (t:TE):Prop:=
 ∀ (aa:List (F'×UZ)) (s:UG) (σ:St) (H:Hp) (Q:VK),Inv X aa σ H s→t σ H Q→M' (UD X.prog X.w) X.A (UV e X.env) (EP X aa σ Q) X.xe s
def PT (X:Cx) (e:UY) (t:TT):Prop:=
 ∀ (aa:List (F'×UZ)) (s:UG) (σ:St) (H:Hp) (Q:Bool→Hp→Prop),Inv X aa σ H s→t σ H Q→M' (UD X.prog X.w) X.A (ZM e X.env (UV e X.env)) (TP X aa σ Q) X.xe s
def PW (X:Cx) (e:UY) (t:TT):Prop:=
 ∀ (dE:V3 L') (aa:List (F'×UZ)) (s:UG) (σ:St) (H:Hp) (Q:Bool→Hp→Prop),Inv X aa σ H s→t σ H Q→M' (UD X.prog X.w) X.A (ZM e X.env dE) (TP X aa σ Q) X.xe s
theorem PW.pt {X:Cx}{t:TT} (h:PW X e t):PT X e t:=h _
def PA (X:Cx) (es:List UY) (t:TA):Prop:=
 ∀ (pos:Vx) (aa:List (F'×UZ)) (s:UG) (σ:St) (H:Hp) (Q:List V→Hp→Prop),Inv X aa σ H s→t σ H Q→M' (UD X.prog X.w) X.A (spliced (Vq pos (UU es X.env))) (AP X aa σ Q) X.xe s
def PS (X:Cx) (st:US) (t:TS):Prop:=
 ∀ (aa:List (F'×UZ)) (s:UG) (σ:St) (H:Hp) (D:fV),Inv X aa σ H s→t D σ H→M' (UD X.prog X.w) X.A (exec st X.env) (SP X aa D) X.xe s
def VR (X:Cx) (st:List US) (t:TS):Prop:=
 ∀ (aa:List (F'×UZ)) (s:UG) (σ:St) (H:Hp) (D:fV),Inv X aa σ H s→t D σ H→M' (UD X.prog X.w) X.A (execs st X.env) (SP X aa D) X.xe s
theorem UP {α:Type}{t:V3 α}{Q Q':α→UG→Prop} (h:M' M A t Q E s) (hQ:∀ a s,Q a s→Q' a s):M' M A t Q' E s:=RP h hQ fun _ _ x=>x
section
variable {X:Cx}
inductive Qgy (i:Nat) (σ:St) (H:Hp) (Q:VK):Prop where
 | mk (v:V) (h:σ[i]?=f' (f' v)) (k:Q v H)
def ZT (i:Nat):TE:=fun σ H Q=>Qgy i σ H Q
def tC (v:V):TE:=fun _ H Q=>Q v H
theorem Qgz  (hN:X.N[i]?=f' x) (hv:Vis X.env.scope x) (hd:(x == ("__debug__":C'))=K':=by decide) (g8:(x == ("__classdict__":C'))=K':=by decide):PE X (.Name x pos) (ZT i):=by
 intro aa s σ H Q I h
 obtain⟨v,e,h⟩:=h
 obtain⟨m,hn,hl⟩:=I.loc
 obtain⟨u,r,l⟩:=hl i x v hN e hv
 have aT:EP X aa σ Q u s:=⟨v,H,I,r,h⟩
 rcases l with⟨hk,hm⟩|⟨hk,c,hc,dG⟩
 .exact UC (wpAny_loadName_local I.ok.kind hk hn hm aT) hd
 .rcases hk with hk|hk
  .exact UC (wpAny_loadName_cell I.ok.kind hk hc dG aT) hd
  .exact UC (wpAny_loadName_free I.ok.kind hk hc dG aT g8) hd
theorem au {i j pos}:PE X (.Constant (.int i) j pos) (tC (.int i)):=fun _ _ _ H _ I h=>Us ⟨.int i,H,I.tok _,⟨_,O⟩,h⟩
theorem nH {b j pos}:PE X (.Constant (.bool b) j pos) (tC (.bl b)):=fun _ _ _ H _ I h=>Constant_bool ⟨.bl b,H,I,O,h⟩
theorem yj {j pos}:PE X (.Constant .none j pos) (tC .UO):=fun _ _ _ H _ I h=>Qbl ⟨.UO,H,I,O,h⟩
theorem bh {x j pos}:PE X (.Constant (.str x) j pos) (tC (.str x)):=fun _ _ _ H _ I h=>Calls.Constant_str ⟨.str x,H,I.tok _,⟨_,O⟩,h⟩
def Gl (X:Cx) (x:C'):Prop:=X.env.kindOf x=f' .globalImplicit
theorem lC {σ:St} (I:Inv X aa σ H s) (hg:Gl X x) (hm:X.mg x=f' u) (h:Q u s)
  (hd:(x == ("__debug__":C'))=K':=by decide):M' (UD X.prog X.w) X.A (UV (.Name x pos) X.env) Q E s:=
 Qce I.ok.kind hg (QeS (by rw[I.ok.glob];exact I.mod.glob.keeps I.bk) hm h) hd
theorem jM {σ:St} (I:Inv X aa σ H s) (hg:Gl X x) (hm:X.mg x=i') (hv:V6 x=f' u) (h:Q u s)
  (hn:x≠"__name__":=by decide) (hd:(x == ("__debug__":C'))=K':=by decide):M' (UD X.prog X.w) X.A (UV (.Name x pos) X.env) Q E s:=by
 obtain⟨mb,h1,h2⟩:=I.mod.blt
 exact Qce I.ok.kind hg (Calls.loadGlobal_builtin (by rw[I.ok.glob];exact I.mod.glob.keeps I.bk) hm (by rw[I.ok.blt];exact h1.keeps I.bk) ((h2 x hn).trans hv) h) hd
theorem yF  (hg:Gl X x) (hm:X.mg x=f' u) (r:aD v u) (hd:(x == ("__debug__":C'))=K':=by decide):PE X (.Name x pos) (tC v):=
 fun _ _ _ H _ I h=>lC I hg hm ⟨v,H,I,r,h⟩ hd
theorem Ks  (hg:Gl X x) (hm:X.mg x=i') (hv:V6 x=f' u) (r:aD v u) (hn:x≠"__name__":=by decide) (hd:(x == ("__debug__":C'))=K':=by decide):PE X (.Name x pos) (tC v):=
 fun _ _ _ H _ I h=>jM I hg hm hv ⟨v,H,I,r,h⟩ hn hd
variable {a b:UY}{ta tb:TE}
def PC (X:Cx) (op:CmpOp) (a b:UY) (t:TE):Prop:=
 ∀ (aa:List (F'×UZ)) (s:UG) (σ:St) (H:Hp) (Q:VK),Inv X aa σ H s→t σ H Q →
  M' (UD X.prog X.w) X.A (UV a X.env) (fun v s₁=>M' (UD X.prog X.w) X.A (UV b X.env) (fun u s₂=>M' (UD X.prog X.w) X.A (Wh op v u) (EP X aa σ Q) X.xe s₂) X.xe s₁) X.xe s
theorem Nw (b:UY) (h:op≠.In) (h2:op≠.NotIn):Y0 op b=K':=by
 have e1:(op == Qgp)=K':=by cases op <;> first|rfl|exact UR O h
 have e2:(op == QfV)=K':=by cases op <;> first|rfl|exact UR O h2
 cases b <;> simp[Y0,e1,e2]
def QgA (ta:TE):TE:=fun σ H Q=>ta σ H fun x H1=>Q (.bl (decide (x=.UO))) H1
def QgB (ta:TE):TE:=fun σ H Q=>ta σ H fun x H1=>Q (.bl (!decide (x=.UO))) H1
theorem aD.Qc2 {x:V}{v:L'} (r:aD x v):(v == Vk)=decide (x=.UO):=by
 cases x with
 | UO=>cases r;rfl
 | bl _=>cases r;rfl
 | int _=>obtain⟨t,rfl⟩:=r;rfl
 | str _=>obtain⟨t,rfl⟩:=r;rfl
 | byt _=>obtain⟨t,rfl⟩:=r;rfl
 | Yf _=>obtain⟨t,rfl⟩:=r;rfl
 | ref _=>cases r;rfl
 | ty _=>cases r;rfl
theorem uz {j bu} (ha:PE X a ta):PC X .Is a (.Constant .none j bu) (QgA ta):=by
 intro aa s σ H Q I h
 refine UP (ha aa s σ H _ I h) fun v s1=>L2.U1 fun x H1 I1 r1 q1=>?_
 exact Qbl (is_none_gen ⟨.bl _,H1,I1,by rw[r1.Qc2];rfl,q1⟩)
theorem Mq {j bu} (ha:PE X a ta):PC X .IsNot a (.Constant .none j bu) (QgB ta):=by
 intro aa s σ H Q I h
 refine UP (ha aa s σ H _ I h) fun v s1=>L2.U1 fun x H1 I1 r1 q1=>?_
 exact Qbl (isnot_none_gen ⟨.bl _,H1,I1,by rw[r1.Qc2];rfl,q1⟩)
def tB (t:TE):TT:=fun σ H Q=>t σ H fun x H1=>∃ c,x=.bl c∧Q c H1
theorem ko {t:TE} (h:PC X op a b t) (h1:Y0 op b=K':=by first|exact Nw _ (by decide) (by decide)|rfl):PT X (.Compare a [op] [b] pos) (tB t):=by
 intro aa s σ H Q I hw
 refine Ue (UP (h aa s σ H _ I hw) fun v s1 h1=>UP h1 fun u s2 h2=>UP h2 fun c s3=>L2.U1 fun x H1 I1 r1 q1=>?_) h1
 obtain⟨d,rfl,q⟩:=q1
 cases r1
 exact R7 ⟨H1,I1,q⟩
theorem eG {t:TE} (h:PE X e t) (he:∀ dE,ZM e X.env dE=(do let v ← dE;Yz e.pos;Xp [v] (truthy v)):=by intro _;rfl):PT X e (tB t):=by
 intro aa s σ H Q I hw
 refine isTrue_plain (UP (h aa s σ H _ I hw) fun v s1=>L2.U1 fun x H1 I1 r1 q1=>?_) (he _)
 obtain⟨d,rfl,q⟩:=q1
 cases r1
 exact R7 ⟨H1,I1,q⟩
variable {tA tu:TT}{bb:List UY}
def QgC (t u:TT):TT:=fun σ H Q=>t σ H fun c H1=>if c=B' then u σ H1 Q else Q K' H1
def tOr (t u:TT):TT:=fun σ H Q=>t σ H fun c H1=>if c=B' then Q B' H1 else u σ H1 Q
def QgD (t:TT):TT:=fun σ H Q=>t σ H fun c H1=>Q (!c) H1
theorem Ob (ha:PT X a tA):PW X (.BoolOp .And [a] pos) tA:=by
 intro wh aa s σ H Q I h
 refine isTrue_and (UP (ha aa s σ H Q I h) fun c s1 e=>?_)
 cases c with
 | true=>exact isTrue_and_nil e
 | false=>exact e
theorem kU (ha:PT X a tA):PW X (.BoolOp .Or [a] pos) tA:=by
 intro wh aa s σ H Q I h
 refine isTrue_or (UP (ha aa s σ H Q I h) fun c s1 e=>?_)
 cases c with
 | false=>exact isTrue_or_nil e
 | true=>exact e
theorem QgE (ha:PT X a tA) (hb:PW X (.BoolOp .And (b::bb) pos) tu):PW X (.BoolOp .And (a::b::bb) pos) (QgC tA tu):=by
 intro wh aa s σ H Q I h
 refine isTrue_and (UP (ha aa s σ H _ I h) fun c s1=>L2.Xs fun H1 I1 q1=>?_)
 cases c with
 | true=>exact hb wh aa s1 σ H1 Q I1 q1
 | false=>exact⟨H1,I1,q1⟩
theorem ig (ha:PT X a tA) (hb:PW X (.BoolOp .Or (b::bb) pos) tu):PW X (.BoolOp .Or (a::b::bb) pos) (tOr tA tu):=by
 intro wh aa s σ H Q I h
 refine isTrue_or (UP (ha aa s σ H _ I h) fun c s1=>L2.Xs fun H1 I1 q1=>?_)
 cases c with
 | true=>exact⟨H1,I1,q1⟩
 | false=>exact hb wh aa s1 σ H1 Q I1 q1
theorem gi (ha:PT X a tA):PT X (.UnaryOp .Not a pos) (QgD tA):=by
 intro aa s σ H Q I h
 exact isTrue_not (ha aa s σ H (fun c H1=>Q (!c) H1) I h)
def QgF (ta tb:TE):TE:=fun σ H Q=>ta σ H fun x H1=>∃ c,x=.bl c∧if c=B' then tb σ H1 Q else Q (.bl K') H1
def QgG (ta tb:TE):TE:=fun σ H Q=>ta σ H fun x H1=>∃ c,x=.bl c∧if c=B' then Q (.bl B') H1 else tb σ H1 Q
def QgH (ta:TE):TE:=fun σ H Q=>ta σ H fun x H1=>∃ c,x=.bl c∧Q (.bl (!c)) H1
theorem sv {op}{t:TE} (h:PE X a t):PE X (.BoolOp op [a] pos) t:=fun aa s σ H Q I hw=>BoolOp_one (h aa s σ H Q I hw)
theorem vd (ha:PE X a ta) (hb:PE X (.BoolOp .And (b::bb) pos) tb):PE X (.BoolOp .And (a::b::bb) pos) (QgF ta tb):=by
 intro aa s σ H Q I h
 refine BoolOp_and (UP (ha aa s σ H _ I h) fun v s1=>L2.U1 fun x H1 I1 r1 q1=>?_)
 obtain⟨c,rfl,q1⟩:=q1
 cases r1
 refine R7 ?_
 cases c with
 | true=>exact hb aa s1 σ H1 Q I1 q1
 | false=>exact⟨.bl K',H1,I1,O,q1⟩
theorem QgI (ha:PE X a ta) (hb:PE X (.BoolOp .Or (b::bb) pos) tb):PE X (.BoolOp .Or (a::b::bb) pos) (QgG ta tb):=by
 intro aa s σ H Q I h
 refine BoolOp_or (UP (ha aa s σ H _ I h) fun v s1=>L2.U1 fun x H1 I1 r1 q1=>?_)
 obtain⟨c,rfl,q1⟩:=q1
 cases r1
 refine R7 ?_
 cases c with
 | false=>exact hb aa s1 σ H1 Q I1 q1
 | true=>exact⟨.bl B',H1,I1,O,q1⟩
theorem QgJ (ha:PE X a ta):PE X (.UnaryOp .Not a pos) (QgH ta):=by
 intro aa s σ H Q I h
 refine UnaryOp_ (UP (ha aa s σ H _ I h) fun v s1=>L2.U1 fun x H1 I1 r1 q1=>?_)
 obtain⟨c,rfl,q1⟩:=q1
 cases r1
 exact not_of (R7 ⟨.bl (!c),H1,I1,O,q1⟩)
def tIf (t:TT) (ta tb:TE):TE:=fun σ H Q=>t σ H fun c H1=>if c=B' then ta σ H1 Q else tb σ H1 Q
theorem C5  (hc:PT X c tA) (ha:PE X a ta) (hb:PE X b tb):PE X (.IfExp c a b pos) (tIf tA ta tb):=by
 intro aa s σ H Q I h
 refine wpAny_IfExp (UP (hc aa s σ H _ I h) fun d s1=>L2.Xs fun H1 I1 q1=>?_)
 cases d with
 | true=>exact ha aa s1 σ H1 Q I1 q1
 | false=>exact hb aa s1 σ H1 Q I1 q1
end
def P' (K:R') (H:Hp) (a:F') (xs:List V):Prop:=
 Rd H a (.lst xs) ∨
  ∃ (o:UZ) (ah:Array L') (n:Nat),K.lookup a=f' o∧o.cls=.type "list"∧o.dict=i'∧o.data=.seq ah n∧ah.size≤S'∧aB xs ah.toList
def UW (K:R') (H:Hp) (a:F') (xs:List V):Prop:=
 Rd H a (.tup xs) ∨
  ∃ (o:UZ) (ah:Array L') (n:Nat),K.lookup a=f' o∧o.cls=.type "tuple"∧o.data=.seq ah n∧ah.size≤S'∧aB xs ah.toList
def QgK:L'→Option V
 | .none=>f' .UO
 | .bool b=>f' (.bl b)
 | .int i _=>f' (.int i)
 | .str x _=>f' (.str x)
 | .bytes b _=>f' (.byt b)
 | .float b _=>f' (.Yf b)
 | .ref a=>f' (.ref a)
 | .type n=>f' (.ty n)
 | _=>i'
variable {D:fV}{X:Cx}{body st:List US}{bu Zc:Vx}{es:List UY}{fp:List F'}{lo:Int}{n:Nat}{tb:TS}{tc:TT}{te tl:TE}{tg:UY}{xs:List V}{σ:St}
theorem aD.abs {x:V} (r:aD x u):QgK u=f' x:=by
 cases x with
 | UO=>cases r;rfl
 | bl _=>cases r;rfl
 | int _=>obtain⟨t,rfl⟩:=r;rfl
 | str _=>obtain⟨t,rfl⟩:=r;rfl
 | byt _=>obtain⟨t,rfl⟩:=r;rfl
 | Yf _=>obtain⟨t,rfl⟩:=r;rfl
 | ref _=>cases r;rfl
 | ty _=>cases r;rfl
theorem aD.inj {x y:V}{u:L'} (r:aD x u) (q:aD y u):x=y:=VE (r.abs.symm.trans q.abs)
theorem aB.inj:∀ {xs ys:List V}{us:List L'},aB xs us→aB ys us→xs=ys
 | _,_,_,.nil,.nil=>rfl
 | _,_,_,.cons r t,.cons r' t'=>by rw[r.inj r',aB.inj t t']
section
variable {ys:List V}
theorem P'.of {K:R'} (h:H a=f' (.lst xs)):P' K H a xs:=.inl (.inl h)
theorem UW.of {K:R'} (h:H a=f' (.tup xs)):UW K H a xs:=.inl (.inl h)
theorem Inv.list (I:Inv X aa σ H s) (h:P' X.K H a xs):∃ ah:List L',aB xs ah∧PlainL s.heap a ah.toArray∧xs.length≤S':=by
 rcases h with h|⟨o,ah,n,hk,hc,hd,hs,hz,r⟩
 .obtain⟨z,ah,n,r,e⟩:=h.ok I.UJ
  exact⟨ah,r,⟨_,n,e,O,O,O⟩,z⟩
 .refine⟨ah.toList,r,⟨o,n,I.U9 a o hk,hc,hd,by simpa using hs⟩,?_⟩
  have e:=r.length
  simp only[SI] at e
  lia
theorem Inv.tuple (I:Inv X aa σ H s) (h:UW X.K H a xs):∃ ah:List L',aB xs ah∧Zb s.heap a ah.toArray∧xs.length≤S':=by
 rcases h with h|⟨o,ah,n,hk,hc,hs,hz,r⟩
 .obtain⟨z,ah,r,p⟩:=h.ok I.UJ
  exact⟨ah,r,p,z⟩
 .refine⟨ah.toList,r,⟨o,I.U9 a o hk,hc,n,by simpa using hs⟩,?_⟩
  have e:=r.length
  simp only[SI] at e
  lia
theorem Inv.ZU (I:Inv X aa σ H s) (h:P' X.K H a xs) (h':P' X.K H a ys):xs=ys:=by
 obtain⟨ah,r,⟨o,n,e,_,_,d⟩,_⟩:=I.list h
 obtain⟨its',r',⟨o',n',e',_,_,d'⟩,_⟩:=I.list h'
 rw[e] at e';cases e'
 rw[d] at d'
 injection d' with d1 _
 have:ah=its':=by simpa using Wv QfN d1
 subst this
 exact r.inj r'
theorem Inv.QgL (I:Inv X aa σ H s) (h:UW X.K H a xs) (h':UW X.K H a ys):xs=ys:=by
 obtain⟨ah,r,⟨o,e,_,n,d⟩,_⟩:=I.tuple h
 obtain⟨its',r',⟨o',e',_,n',d'⟩,_⟩:=I.tuple h'
 rw[e] at e';cases e'
 rw[d] at d'
 injection d' with d1 _
 have:ah=its':=by simpa using Wv QfN d1
 subst this
 exact r.inj r'
end
abbrev Cx.wish (X:Cx) (E:L'→UG→Prop):Cx:={ X with xe:=E }
abbrev Cx.nox (X:Cx):Cx:=X.wish fun _ _=>False
theorem Cx.Ok.wish {X:Cx} (ok:X.Ok) (E:L'→UG→Prop):(X.wish E).Ok:=
 ⟨ok.mod,ok.kind,ok.glob,ok.blt,ok.above,ok.inj,ok.has,ok.YD,ok.hd,ok.frames,ok.YE,ok.ZP,ok.bs,ok.Xg,ok.Yg,ok.YF,ok.WA,ok.Xt⟩
theorem Cx.Ok.Yh  (ok:(X.wish E).Ok):X.Ok:=
 ⟨ok.mod,ok.kind,ok.glob,ok.blt,ok.above,ok.inj,ok.has,ok.YD,ok.hd,ok.frames,ok.YE,ok.ZP,ok.bs,ok.Xg,ok.Yg,ok.YF,ok.WA,ok.Xt⟩
theorem Inv.wish (I:Inv X aa σ H s) (E:L'→UG→Prop):Inv (X.wish E) aa σ H s:=⟨I.ok.wish E,I.os,I.bare,I.base,I.loc,I.cell,I.free,I.V0,I.pin,I.UJ,I.len⟩
theorem Inv.Yh (I:Inv (X.wish E) aa σ H s):Inv X aa σ H s:=⟨I.ok.Yh,I.os,I.bare,I.base,I.loc,I.cell,I.free,I.V0,I.pin,I.UJ,I.len⟩
theorem SP.Yh {D:fV}{f:WG}{s':UG} (h:SP (X.wish E) aa D f s'):SP X aa D f s':=by
 cases f with
 | next=>obtain⟨σ',H',I,q⟩:=h;exact⟨σ',H',I.Yh,q⟩
 | brk=>obtain⟨σ',H',I,q⟩:=h;exact⟨σ',H',I.Yh,q⟩
 | cont=>obtain⟨σ',H',I,q⟩:=h;exact⟨σ',H',I.Yh,q⟩
 | ret u=>obtain⟨v,σ',H',I,r,q⟩:=h;exact⟨v,σ',H',I.Yh,r,q⟩
theorem VR.nox {t:TS} (h:VR X.nox st t):VR X st t:=fun aa s σ H D I hw=>
 RP (h aa s σ H D (I.wish _) hw) (fun _ _ q=>q.Yh) fun _ _ z=>VL z
section
variable {st:US}{bb:List US}{t u:TS}
def QgM:TS:=fun D σ H=>D.nx σ H
def Qc3 (t u:TS):TS:=fun D σ H=>t { D with nx:=u D } σ H
theorem aQ:VR X [] QgM:=fun _ _ σ H _ I h=>Tn ⟨σ,H,I,h⟩
theorem ao (h1:PS X st t) (h2:VR X bb u):VR X (st::bb) (Qc3 t u):=by
 intro aa s σ H D I h
 refine Qf0 (UP (h1 aa s σ H { D with nx:=u D } I h) fun f s1 q=>?_)
 cases f with
 | next=>
  obtain⟨σ',H',I',q⟩:=q
  exact h2 aa s1 σ' H' D I' q
 | ret v=>exact q
 | brk=>exact q
 | cont=>exact q
theorem ak (h1:PS X st t):VR X [st] t:=by
 intro aa s σ H D I h
 refine Qf0 (UP (h1 aa s σ H D I h) fun f s1 q=>?_)
 cases f with
 | next=>exact Tn q
 | ret v=>exact q
 | brk=>exact q
 | cont=>exact q
theorem Inv.quiet  (I:Inv X aa σ H s):interactive X.env=K':=by simp[interactive,I.ok.kind]
def QgN (te:TE):TS:=fun D σ H=>te σ H fun _ H1=>D.nx σ H1
theorem bp (he:PE X e te) (hs:ZK e i' pos.line X.env=pure K':=by rfl):PS X (.Expr e pos) (QgN te):=by
 intro aa s σ H D I h
 exact wpAny_Expr_any (UP (he aa s σ H _ I h) fun v s1=>L2.U1 fun x H1 I1 r1 q1=>⟨σ,H1,I1,q1⟩) I.quiet hs
def QgO (te:TE):TS:=fun D σ H=>te σ H D.rt
theorem aN (he:PE X e te):PS X (.Return (f' e) pos) (QgO te):=by
 intro aa s σ H D I h
 exact wpAny_Return_some (UP (he aa s σ H _ I h) fun v s1=>L2.U1 fun x H1 I1 r1 q1=>⟨x,σ,H1,I1,r1,q1⟩)
def QgP:TS:=fun D _ H=>D.rt .UO H
theorem Np:PS X (.Return i' pos) QgP:=fun _ _ σ H _ I h=>wpAny_Return_none ⟨.UO,σ,H,I,O,h⟩
def Qc4 (c:TT) (t u:TS):TS:=fun D σ H=>c σ H fun b H1=>if b=B' then t D σ H1 else u D σ H1
theorem aU {a b:List US} (hc:PT X c tc) (ha:VR X a t) (hb:VR X b u):PS X (.If c a b pos) (Qc4 tc t u):=by
 intro aa s σ H D I h
 refine wpAny_If (UP (hc aa s σ H _ I h) fun d s1=>L2.Xs fun H1 I1 q1=>?_)
 cases d with
 | true=>exact ha aa s1 σ H1 D I1 q1
 | false=>exact hb aa s1 σ H1 D I1 q1
end
abbrev TG:=V→St→Hp→(St→Hp→Prop)→Prop
abbrev Yi:=List V→St→Hp→(St→Hp→Prop)→Prop
def PG (X:Cx) (cP:UY) (t:TG):Prop:=
 ∀ (aa:List (F'×UZ)) (s:UG) (σ:St) (H:Hp) (v:V) (u:L') (Q:St→Hp→Prop),Inv X aa σ H s→aD v u→t v σ H Q →
  M' (UD X.prog X.w) X.A (YA cP X.env u) (fun _ s'=>∃ σ' H',Inv X aa σ' H' s'∧Q σ' H') X.xe s
def ZV (X:Cx) (ts:List UY) (t:Yi):Prop:=
 ∀ (aa:List (F'×UZ)) (s:UG) (σ:St) (H:Hp) (vs:List V) (us:List L') (Q:St→Hp→Prop),Inv X aa σ H s→aB vs us→t vs σ H Q →
  M' (UD X.prog X.w) X.A (assignInOrder ((XI ts X.env).map (·.2)) us) (fun _ s'=>∃ σ' H',Inv X aa σ' H' s'∧Q σ' H') X.xe s
abbrev Qby:=V→V→V→Hp→(Hp→Prop)→Prop
def Qc5 (X:Cx) (t:Qby):Prop:=
 ∀ (aa:List (F'×UZ)) (s:UG) (σ:St) (H:Hp) (o i v:V) (ov iv u:L') (Q:Hp→Prop),Inv X aa σ H s→aD o ov→aD i iv→aD v u→t o i v H Q →
  M' (UD X.prog X.w) X.A (setItem ov iv u) (fun _ s'=>∃ H',Inv X aa σ H' s'∧Q H') X.xe s
abbrev TIp:=V→V→Hp→VK→Prop
def PIp (X:Cx) (op:Qbu) (t:TIp):Prop:=
 ∀ (aa:List (F'×UZ)) (s:UG) (σ:St) (H:Hp) (x y:V) (v u:L') (Q:VK),Inv X aa σ H s→aD x v→aD y u→t x y H Q →
  M' (UD X.prog X.w) X.A (inplaceOp op v u) (EP X aa σ Q) X.xe s
def bL (i:Nat):TG:=fun v σ H Q=>Q (σ.set i (f' v)) H
theorem aG  (hN:X.N.Nodup) (hi:X.N[i]?=f' x) (hx:Loc X.env.scope x) (hf:X.fn x=B'∨X.env.scope.names.lookup x=f' .local:=by first|exact .inl rfl|exact .inr rfl|assumption):PG X (.Name x pos) (bL i):=by
 intro aa s σ H v u Q I r h
 exact Ux (zL I hN hi hx r (fun s' I'=>⟨_,H,I',h⟩) hf)
def QgQ:Yi:=fun vs σ H Q=>vs=[]∧Q σ H
def QgR (t:TG) (u:Yi):Yi:=fun vs σ H Q=>∃ v r,vs=v::r∧t v σ H fun σ' H'=>u r σ' H' Q
theorem fu:ZV X [] QgQ:=by
 intro aa s σ H vs us Q I r h
 obtain⟨e,h⟩:=h
 subst e
 cases r
 exact assignInOrder_nil ⟨σ,H,I,h⟩
theorem bo {t:TG}{u:Yi} (h1:PG X e t) (h2:ZV X es u)
  (hs:(XI (e::es) X.env).map (·.2)=YA e X.env::(XI es X.env).map (·.2):=by rfl):ZV X (e::es) (QgR t u):=by
 intro aa s σ H vs us Q I r h
 obtain⟨v,vr,e1,h⟩:=h
 subst e1
 cases r with
 | cons r rr=>
  rw[hs]
  refine assignInOrder_cons (UP (h1 aa s σ H _ _ _ I r h) fun _ s1=>L2.ex4 fun σ1 H1 I1 q1=>?_)
  exact h2 aa s1 σ1 H1 _ _ Q I1 rr q1
def Qc6 (K:R') (n:Nat) (t:Yi):TG:=fun v σ H Q=>∃ a xs,v=.ref a∧UW K H a xs∧xs.length=n∧t xs σ H Q
theorem kj {k:Nat}{t:Yi} (hc:X.calm=B') (h:ZV X es t)
  (hn:(XI es X.env).length=n:=by rfl) (dU:(XI es X.env).findIdx? (·.1)=i':=by rfl):PG X (.Tuple es k pos) (Qc6 X.K n t):=by
 intro aa s σ H v u Q I r hw
 obtain⟨a,xs,e1,hq,hl,hw⟩:=hw
 subst e1
 cases r
 obtain⟨ah,rv,ht,hz⟩:=I.tuple hq
 refine Ni I.hd ht (by simp[hn,← hl,rv.length]) dU fun h' hx=>?_
 have I1:Inv X aa σ H { s with heap:=h' }:=I.kept (t':=s.toks) fun b o e=>hx b o (Rb (Q6 e)) e
 exact h aa _ σ H xs _ Q I1 (by simpa using rv) hw
def Qc7 (te:TE) (g:TG):TS:=fun D σ H=>te σ H fun x H1=>g x σ H1 D.nx
theorem aW  (hN:X.N.Nodup) (hi:X.N[i]?=f' x) (hx:Loc X.env.scope x) (he:PE X e te) (hs:ZK e (f' (.Name x bu)) pos.line X.env=pure K':=by rfl) (hf:X.fn x=B'∨X.env.scope.names.lookup x=f' .local:=by first|exact .inl rfl|exact .inr rfl|assumption) :
  PS X (.Assign [.Name x bu] e pos) (Qc7 te (bL i)):=by
 intro aa s σ H D I h
 refine wpAny_Assign_Name (UP (he aa s σ H _ I h) fun v s1=>L2.U1 fun y H1 I1 r1 q1=>?_) hs
 exact zL I1 hN hi hx r1 (fun s2 I2=>⟨_,H1,I2,q1⟩) hf
def QgS (to ti te:TE) (kO:V→V→Hp→VK→Prop) (sV:TIp) (ku:Qby):TS:=fun D σ H=>to σ H fun o H1=>ti σ H1 fun i H2=>kO o i H2 fun x H3=>te σ H3 fun y H4=>sV x y H4 fun z H5=>ku o i z H5 fun H6=>D.nx σ H6
def Qc8 (X:Cx) (t:V→V→Hp→VK→Prop):Prop:=
 ∀ (aa:List (F'×UZ)) (s:UG) (σ:St) (H:Hp) (o i:V) (ov iv:L') (Q:VK),Inv X aa σ H s→aD o ov→aD i iv→t o i H Q →
  M' (UD X.prog X.w) X.A (Xq ov iv) (EP X aa σ Q) X.xe s
theorem yM {o i:UY}{to ti:TE}{kO:V→V→Hp→VK→Prop}{sV:TIp}{ku:Qby}{op:Qbu} (ho:PE X o to) (hi:PE X i ti) (hg:Qc8 X kO) (he:PE X e te) (hp:PIp X op sV) (hs:Qc5 X ku)
  (ha:∀ ov iv new,augStore i ov iv new=(do Xp [new,ov,iv] (setItem ov iv new);release [new,ov,iv] [];pure .next):=by intros;rfl):PS X (.AugAssign (.Subscript o i Zc) op e pos) (QgS to ti te kO sV ku):=by
 intro aa s σ H D I h
 refine wpAny_AugAssign_SubscriptAny (UP (ho aa s σ H _ I h) fun ov s1=>L2.U1 fun x1 H1 I1 r1 q1=>?_) ha
 refine UP (hi aa s1 σ H1 _ I1 q1) fun iv s2=>L2.U1 fun x2 H2 I2 r2 q2=>?_
 refine UP (hg aa s2 σ H2 x1 x2 ov iv _ I2 r1 r2 q2) fun old s3=>L2.U1 fun x3 H3 I3 r3 q3=>?_
 refine UP (he aa s3 σ H3 _ I3 q3) fun v s4=>L2.U1 fun x4 H4 I4 r4 q4=>?_
 refine UP (hp aa s4 σ H4 x3 x4 old v _ I4 r3 r4 q4) fun new s5=>L2.U1 fun x5 H5 I5 r5 q5=>?_
 exact UP (hs aa s5 σ H5 x1 x2 x5 ov iv new _ I5 r1 r2 r5 q5) fun _ s6=>L2.Xs fun H6 I6 q6=>⟨σ,H6,I6,q6⟩
def ipI (f:Int→Int→Int):TIp:=fun x y H Q=>∃ i j,x=.int i∧y=.int j∧Q (.int (f i j)) H
theorem EO:PIp X .Add (ipI fun i j=>i + j):=by
 intro aa s σ H x y v u Q I r1 r2 h
 obtain⟨i,j,e1,e2,q⟩:=h
 subst e1;subst e2
 obtain⟨t,rfl⟩:=r1
 obtain⟨t',rfl⟩:=r2
 exact iadd_int ⟨.int _,H,I.tok _,⟨_,O⟩,q⟩
theorem QgT:PIp X .Sub (ipI fun i j=>i - j):=by
 intro aa s σ H x y v u Q I r1 r2 h
 obtain⟨i,j,e1,e2,q⟩:=h
 subst e1;subst e2
 obtain⟨t,rfl⟩:=r1
 obtain⟨t',rfl⟩:=r2
 exact isub_int ⟨.int _,H,I.tok _,⟨_,O⟩,q⟩
def QgU (c:TT) (tb:TS):TS:=fun D σ H=>∃ W:Nat→St→Hp→Prop,(∃ m,W m σ H)∧∀ m σ H,W m σ H →
 c σ H fun b H1=>if b=B' then ∃ N:St→Hp→Prop,(∀ σ' H',N σ' H'→∃ m',m'<m∧W m' σ' H')∧tb { D with nx:=N,ct:=N,bk:=D.nx } σ H1 else D.nx σ H1
theorem uj  (hp:Qao (UD X.prog X.w) X.A X.env X.xe) (hc:PT X c tc) (hb:VR X body tb):PS X (.While c body [] pos) (QgU tc tb):=by
 intro aa s σ H D I h
 obtain⟨W,⟨m0,w0⟩,gK⟩:=h
 refine wpAny_While (codeAny_whileLoop (fun n s'=>∃ σ' H',Inv X aa σ' H' s'∧W n σ' H') ?_ m0 ⟨σ,H,I,w0⟩)
 rintro n s1 ⟨σ1,H1,I1,w1⟩
 refine Sw hp (UP (hc aa s1 σ1 H1 _ I1 (gK n σ1 H1 w1)) fun b s2=>L2.Xs fun H2 I2 q2=>?_)
 cases b with
 | true=>
  obtain⟨N,hN,q2⟩:=q2
  rw[UH rfl]
  refine Sw hp (UP (hb aa s2 σ1 H2 _ I2 q2) fun f s3 q3=>?_)
  cases f with
  | next=>
   obtain⟨σ3,H3,I3,n3⟩:=q3
   obtain⟨m',hm,w3⟩:=hN σ3 H3 n3
   exact⟨m',hm,σ3,H3,I3,w3⟩
  | cont=>
   obtain⟨σ3,H3,I3,n3⟩:=q3
   obtain⟨m',hm,w3⟩:=hN σ3 H3 n3
   exact⟨m',hm,σ3,H3,I3,w3⟩
  | brk=>exact q3
  | ret v=>exact q3
 | false=>
  rw[UF Rk]
  exact Tn ⟨σ1,H2,I2,q2⟩
structure It where
 go:Nat→Hp→Prop
 ZW:Nat→Hp→V→Hp→Prop
 stop:Nat→Hp→Prop
def cJ (X:Cx) (aa:List (F'×UZ)) (H:Hp) (b:F'):Prop:=
 H b=i'∧b≠X.env.locals∧b∉X.fs∧(b∈X.ex∨X.s₀.heap.objs.size≤b)∧(∀ x c,X.env.cells.lookup x=f' c→c≠b)∧∀ p∈X.pn++aa,p.1≠b
theorem Inv.WI  (I:Inv X aa σ H s) (hb:s.heap.objs.size≤b) (hn:H' b=i'):cJ X aa H' b:=by
 refine⟨hn,Sa (Rq I.lt hb),I.Qgx hb,.inr (RT I.sz hb),fun x c e z=>?_,fun p hp z=>?_⟩
 .obtain⟨v,q⟩:=I.cell x c e
  exact UR (Rq q.lt (by rw[z];exact hb)) (Ry _)
 .exact UR (Rq (Q6 (I.pin p hp).1) (by rw[z];exact hb)) (Ry _)
structure lX (P:Vz) (w:Vw) (K:R') (tg:UY) (J:It) (fp:List F') (it:F') (tn:Nat→U6→Prop):Prop where
 mem:it∈fp
 obj:∀ i h,tn i h→∀ b∈fp,∃ o,h.get? b=f' o∧∀ v,o.data≠.cell v
 keep:∀ i h h',tn i h→(∀ b∈fp,∀ o,h.get? b=f' o→h'.get? b=f' o)→tn i h'
 item:∀ (X:Cx),X.prog=P→X.w=w→X.K=K→X.calm=B'→∀ (i:Nat) (aa:List (F'×UZ)) (s:UG) (σ:St) (H:Hp) (E:L'→UG→Prop),Inv X aa σ H s→(∀ b∈fp,cJ X aa H b)→tn i s.heap→J.go i H →
  M' (UD P w) X.A (Vs (.ref it)) (fun r s1=>∃ u,r=f' u ∧
   M' (UD P w) X.A (Qbg tg (.ref it) u) (fun _ s2=>∃ x H',Inv X aa σ H' s2∧aD x u∧J.ZW i H x H'∧tn (i + 1) s2.heap∧∀ b∈fp,H' b=i') E s1) E s
 done:∀ (X:Cx),X.prog=P→X.w=w→X.K=K→X.calm=B'→∀ (i:Nat) (aa:List (F'×UZ)) (s:UG) (σ:St) (H:Hp) (E:L'→UG→Prop),Inv X aa σ H s→(∀ b∈fp,cJ X aa H b)→tn i s.heap→J.stop i H →
  M' (UD P w) X.A (Vs (.ref it)) (fun r s1=>r=i'∧Inv X aa σ H s1) E s
 self:∀ (A:VQ) (i:Nat) (s:UG) (Q:L'→UG→Prop) (E:L'→UG→Prop),tn i s.heap→Q (.ref it) s→M' (UD P w) A (pyIter (.ref it)) Q E s
abbrev TI:=St→Hp→(It→Hp→Prop)→Prop
def PIE (X:Cx) (aa:List (F'×UZ)) (σ:St) (tg:UY) (R:It→Hp→Prop) (tD:L') (s2:UG):Prop:=
 ∃ (it:F') (fp:List F') (tn:Nat→U6→Prop) (J:It) (H':Hp),tD=.ref it∧Inv X aa σ H' s2∧lX X.prog X.w X.K tg J fp it tn∧tn 0 s2.heap∧(∀ b∈fp,cJ X aa H' b)∧R J H'
def PI (X:Cx) (tg iter:UY) (wi:TI):Prop:=
 ∀ (aa:List (F'×UZ)) (s:UG) (σ:St) (H:Hp) (R:It→Hp→Prop),Inv X aa σ H s→wi σ H R →
  M' (UD X.prog X.w) X.A (UV iter X.env) (fun v s1=>M' (UD X.prog X.w) X.A (pyIter v) (PIE X aa σ tg R) X.xe s1) X.xe s
theorem uu {n:String}{Q:Unit→UG→Prop} (ho:s.heap.get? it=f' o) (hc:o.cls=.type n) (hd:o.data=.fields vs)
    (hn:["enumerate","zip","dict_itemiterator","dict_reverseitemiterator","odict_iterator","itertools.zip_longest","itertools.pairwise"].contains n=K') (hQ:Q () s):M' M A (Qbg tg (.ref it) u) Q E s:=by
  unfold Qbg
  cases tg <;> first
    | exact Q5 hQ
    | (cases u <;> first
        | exact Q5 hQ
        | (refine mT (wpAny_load ho ?_)
           rw[hc,hd]
           show M' M A (if (["enumerate","zip","dict_itemiterator","dict_reverseitemiterator","odict_iterator","itertools.zip_longest","itertools.pairwise"].contains n && vs[0]? == f' (Vp _))=B' then _ else _) Q E s
           rw[UF (by intro h;rw[hn,Bool.false_and] at h;cases h)]
           exact Q5 hQ))
def Zd (K:R') (a:F'):It:=
 ⟨fun i H=>∃ xs x,P' K H a xs∧xs[i]?=f' x,fun i H x H'=>H'=H∧∀ xs,P' K H a xs→xs[i]?=f' x,fun i H=>∃ xs,P' K H a xs∧xs.length≤i⟩
def Ze (lo:Int) (n:Nat):It:=⟨fun i _=>i<n,fun i H x H'=>H'=H∧x=.int (lo + i),fun i _=>n≤i⟩
theorem NC {K:R'} (a it:F'):lX P w K tg (Zd K a) [it] it (fun i h=>h.IsListIter it a i) where
 mem:=by simp
 obj:=fun i h st b hb=>by
  have e:b=it:=by simpa using hb
  subst e
  obtain⟨o,e,c,d⟩:=st
  exact⟨o,e,fun v z=>by rw[d] at z;cases z⟩
 keep:=fun i h h' st k=>st.at fun o e=>k it (by simp) o e
 item:=by
  intro X hP hw hK hc i aa s σ H E I hf st hg
  subst hP hw hK
  obtain⟨xs,x,hq,hx⟩:=hg
  obtain⟨ah,rv,p,hz⟩:=I.list hq
  obtain⟨u,hu,ru⟩:=rv.get hx
  obtain⟨f0,f1,f2,f3,f4,f5⟩:=hf it (by simp)
  refine Ua st p.isList (x:=u) (by simpa using hu) fun h' g9 sb=>?_
  have I1:Inv X aa σ H { s with heap:=h' }:=I.turned (t':=s.toks) (fun b o hb e=>(sb.2 b hb).trans e) f0 f1 f3 f4 f5
  obtain⟨o,e,c,d⟩:=id g9
  exact⟨u,O,uu (s:={ s with heap:=h' }) e c d (by decide) ⟨x,H,I1,ru,⟨O,fun ys hy=>by rw[I.ZU hy hq];exact hx⟩,g9,fun b hb=>(hf b hb).1⟩⟩
 done:=by
  intro X hP hw hK hc i aa s σ H E I hf st hg
  subst hP hw hK
  obtain⟨xs,hq,hx⟩:=hg
  obtain⟨ah,rv,p,hz⟩:=I.list hq
  obtain⟨f0,f1,f2,f3,f4,f5⟩:=hf it (by simp)
  have hl:=rv.length
  exact Ed I.hd st p.isList (by simp;lia) fun h' eb=>⟨O,I.turned (t':=s.toks) (fun b o hb e=>eb b o hb e) f0 f1 f3 f4 f5⟩
 self:=fun _ _ _ _ _ st h=>Uf st h
theorem MV {K:R'} (it:F') (lo:Int) (n:Nat):lX P w K tg (Ze lo n) [it] it (fun i h=>Y3 h it (lo + (i:Nat) * 1) ((n:Int) - (i:Nat)) 1) where
 mem:=by simp
 obj:=fun i h st b hb=>by
  have e:b=it:=by simpa using hb
  subst e
  exact⟨_,st,fun v z=>by
   have z':Data.fields _=Data.cell v:=z
   cases z'⟩
 keep:=fun i h h' st k=>k it (by simp) _ st
 item:=by
  intro X hP hw hK hc i aa s σ H E I hf st hg
  subst hP hw hK
  obtain⟨f0,f1,f2,f3,f4,f5⟩:=hf it (by simp)
  refine T5 st (by have:i<n:=hg;lia) fun h' iX sb=>?_
  have g9:Y3 h' it (lo + ((i + 1:Nat):Int) * 1) ((n:Int) - ((i + 1:Nat):Int)) 1:=by
   rw[show lo + ((i + 1:Nat):Int) * 1=lo + (i:Int) * 1 + 1 by lia,show(n:Int) - ((i + 1:Nat):Int)=(n:Int) - (i:Int) - 1 by lia]
   exact iX
  have I1:Inv X aa σ H { s with heap:=h',toks:=s.toks + 1 }:=I.turned (fun b o hb e=>sb.extBut b o hb e) f0 f1 f3 f4 f5
  exact⟨_,O,uu (s:={ s with heap:=h',toks:=s.toks + 1 }) (n:="range_iterator") g9 O O (by decide) ⟨.int (lo + i),H,I1,⟨_,by rw[Int.mul_one]⟩,⟨O,O⟩,g9,fun b hb=>(hf b hb).1⟩⟩
 done:=by
  intro X hP hw hK hc i aa s σ H E I hf st hg
  subst hP hw hK
  obtain⟨f0,f1,f2,f3,f4,f5⟩:=hf it (by simp)
  exact FJ I.hd st (by have:n≤i:=hg;lia) fun h' eb=>⟨O,I.turned (t':=s.toks) (fun b o hb e=>eb b o hb e) f0 f1 f3 f4 f5⟩
 self:=fun _ _ _ _ _ st h=>Ub st h
def Qc9 (K:R') (tl:TE):TI:=fun σ H R=>tl σ H fun x H1=>∃ a,x=.ref a∧(∃ xs,P' K H1 a xs)∧R (Zd K a) H1
theorem bV {l:UY} (hl:PE X l tl):PI X tg l (Qc9 X.K tl):=by
 intro aa s σ H R I h
 refine UP (hl aa s σ H _ I h) fun v s1=>L2.U1 fun x H1 I1 r1 q1=>?_
 obtain⟨a,e,⟨xs,hq⟩,q⟩:=q1
 subst e
 cases r1
 obtain⟨ah,rv,p,hz⟩:=I1.list hq
 refine SA p.isList ?_
 refine⟨s1.heap.objs.size,[s1.heap.objs.size],_,_,H1,O,I1.kept (t':=s1.toks) fun b o e=>Q4 _ e,NC a _,⟨_,Ra _ O,O,O⟩,fun b hb=>?_,q⟩
 have e:b=s1.heap.objs.size:=by simpa using hb
 subst e
 exact I1.WI (Q7 _) (I1.UJ.fresh (Q7 _))
theorem Mj {R:It→Hp→Prop}{hi:Int}{t u v:VY}{tk:Nat} (I:Inv X aa σ H s) (h1:-(2 ^ 62)≤lo) (h2:lo<2 ^ 62) (h3:-(2 ^ 62)≤hi) (h4:hi<2 ^ 62)
  (q:R (Ze lo (hi - lo).toNat) H):M' (UD X.prog X.w) X.A (pyIter (.ref s.heap.objs.size)) (PIE X aa σ tg R) E { s with heap:=s.heap.push { cls:=.type "range",data:=.fields #[.int lo t,.int hi u,.int 1 v] },toks:=tk }:=by
 refine Ut (IsRange.new ..) (small_one h1 h2 h3 h4) ?_
 have I1:Inv X aa σ H { s with heap:=s.heap.push { cls:=.type "range",data:=.fields #[.int lo t,.int hi u,.int 1 v] },toks:=tk }:=I.kept fun b o e=>Q4 _ e
 refine⟨(s.heap.push { cls:=.type "range",data:=.fields #[.int lo t,.int hi u,.int 1 v] }).objs.size,[(s.heap.push { cls:=.type "range",data:=.fields #[.int lo t,.int hi u,.int 1 v] }).objs.size],_,_,H,O,
  I1.kept (t':=tk) fun b o e=>Q4 _ e,MV _ lo (hi - lo).toNat,?_,fun b hb=>?_,q⟩
 .have e1:lo + ((0:Nat):Int) * 1=lo:=by simp
  have e2:(((hi - lo).toNat:Nat):Int) - ((0:Nat):Int)=Qet lo hi 1:=by rw[rangeSize_one];split <;> lia
  show Y3 _ _ (lo + ((0:Nat):Int) * 1) ((((hi - lo).toNat:Nat):Int) - ((0:Nat):Int)) 1
  rw[e1,e2]
  exact Ra _ rfl
 .have e:b=(s.heap.push { cls:=.type "range",data:=.fields #[.int lo t,.int hi u,.int 1 v] }).objs.size:=by simpa using hb
  subst e
  exact I1.WI (Q7 _) (I1.UJ.fresh (Q7 _))
def QgV (ta:TA):TI:=fun σ H R=>ta σ H fun vs H1=>∃ j:Int,vs=[.int j]∧-(2 ^ 62)≤j∧j<2 ^ 62∧R (Ze 0 j.toNat) H1
theorem rY {a:UY}{ta:TA}{p:Vx} (hg:Gl X "range") (hm:X.mg "range"=i') (ha:PA X [a] ta) (hs:UU [a] X.env=[(K',UV a X.env)]:=by rfl):PI X tg (.Call (.Name "range" p) [a] [] pos) (QgV ta):=by
 intro aa s σ H R I h
 refine Call_ (jM I hg hm boot_range (Yo (UP (ha pos aa s σ H _ I h) fun us s1=>L2.U1 fun vs H1 I1 r1 q1=>?_) hs O))
 obtain⟨j,e,q1,q2,q⟩:=q1
 subst e
 cases r1 with
 | cons r rr=>
  cases rr
  obtain⟨t,rfl⟩:=r
  exact call_range_1 (Mj I1 (by lia) (by lia) q1 q2 (by simpa using q))
def Qda (wi:TI) (g:TG) (tb:TS):TS:=fun D σ H=>wi σ H fun J H1=>∃ W:Nat→Nat→St→Hp→Prop,(∃ m,W 0 m σ H1)∧∀ i m σ H,W i m σ H →
 (J.stop i H∧D.nx σ H)∨(J.go i H∧∃ N:St→Hp→Prop,(∀ σ' H',N σ' H'→∃ m',m'<m∧W (i + 1) m' σ' H')∧∀ x H',J.ZW i H x H'→g x σ H' fun σ2 H2=>tb { D with nx:=N,ct:=N,bk:=D.nx } σ2 H2)
def rF (fp:List F') (h:U6):List (F'×UZ):=fp.filterMap fun b=>(h.get? b).map fun o=>(b,o)
theorem tS  (hb:b∈fp) (e:h.get? b=f' o):(b,o)∈rF fp h:=Qfe.mpr ⟨b,hb,by rw[e];rfl⟩
theorem MP {p:F'×UZ} (hp:p∈rF fp h):p.1∈fp∧h.get? p.1=f' p.2:=by
 obtain⟨b,hb,e⟩:=Qfe.mp hp
 cases q:h.get? b with
 | none=>rw[q] at e;cases e
 | some o=>
  rw[q] at e
  have e':(b,o)=p:=VE e
  subst e'
  exact⟨hb,q⟩
theorem Inv.pinned  (I:Inv X aa σ H s) (hf:∀ b∈fp,cJ X aa H b) (ho:∀ b∈fp,∃ o,s.heap.get? b=f' o∧∀ v,o.data≠.cell v):Inv X (aa++rF fp s.heap) σ H s:=
 I.Qc0 fun p hp=>(V9.mp hp).elim (fun z=>I.pin p (RA _ z)) fun z=>by
  obtain⟨hb,e⟩:=MP z
  obtain⟨f0,f1,f2,_⟩:=hf p.1 hb
  obtain⟨o,e',d⟩:=ho p.1 hb
  rw[e] at e';cases e'
  exact⟨e,f0,f1,f2,d⟩
theorem Inv.Qav {pl:List (F'×UZ)} (I:Inv X (aa++pl) σ H s):Inv X aa σ H s:=I.Qc0 fun p hp=>I.pin p (RA _ (Rz _ hp))
theorem ei {iter:UY}{wi:TI}{g:TG} (hp:Qao (UD X.prog X.w) X.A X.env X.xe) (hc:X.calm=B') (hi:PI X tg iter wi) (hg:PG X tg g) (hb:VR X body tb)
  (hs:∀ x,Qa9 iter X.env x=pure x:=by intro _;rfl):PS X (.For tg iter body [] pos) (Qda wi g tb):=by
 intro aa s σ H D I h
 refine wpAny_For (UP (hi aa s σ H _ I h) fun v s1 h1=>UP h1 fun tD s2 h2=>?_) hs
 obtain⟨it,fp,tn,J,H2,e,I2,T,WJ,f2,W,⟨m0,w0⟩,gK⟩:=h2
 subst e
 have gW:∀ {H':Hp},(∀ b∈fp,H' b=i')→∀ b∈fp,cJ X aa H' b:=fun hn b hb=>⟨hn b hb,(f2 b hb).2⟩
 refine codeAny_forLoop_any (fun n s'=>∃ i σ' H',Inv X aa σ' H' s'∧tn i s'.heap∧(∀ b∈fp,H' b=i')∧W i n σ' H') ?_ m0 ⟨0,σ,H2,I2,WJ,fun b hb=>(f2 b hb).1,w0⟩
 rintro n s3 ⟨i,σ3,H3,I3,jY,qk,w3⟩
 rcases gK i n σ3 H3 w3 with⟨stop,qn⟩|⟨go,N,hN,step⟩
 .refine Sw hp (UP (T.done X O O O hc i aa s3 σ3 H3 X.xe I3 (gW qk) jY stop) fun r s4 ⟨hr,I4⟩=>?_)
  subst hr
  exact Tn ⟨σ3,H3,I4,qn⟩
 .refine Sw hp (UP (T.item X O O O hc i aa s3 σ3 H3 X.xe I3 (gW qk) jY go) fun r s4 ⟨u,hr,h4⟩=>?_)
  subst hr
  refine Sw hp (UP h4 fun _ s5=>L2.U1 fun x H5 I5 r5 aX=>?_)
  obtain⟨y5,fH,vP⟩:=aX
  have w4:=I5.pinned (gW vP) (T.obj _ _ fH)
  refine Sw hp (UP (hg _ s5 σ3 H5 x u _ w4 r5 (step x H5 y5)) fun _ s6=>L2.ex4 fun σ6 H6 I6 q6=>?_)
  refine Sw hp (UP (hb _ s6 σ6 H6 _ I6 q6) fun f s7 q7=>?_)
  have again:∀ {σ7:St}{H7:Hp},Inv X (aa++rF fp s5.heap) σ7 H7 s7→N σ7 H7→∃ m,m<n∧∃ i σ' H',Inv X aa σ' H' s7∧tn i s7.heap∧(∀ b∈fp,H' b=i')∧W i m σ' H':=fun {σ7 H7} I7 n7=>by
   obtain⟨m',hm,w7⟩:=hN σ7 H7 n7
   refine⟨m',hm,i + 1,σ7,H7,I7.Qav,T.keep _ _ _ fH fun b hb o e=>(I7.pin (b,o) (RA _ (RA _ (tS hb e)))).1,fun b hb=>?_,w7⟩
   obtain⟨o,e,d⟩:=T.obj _ _ fH b hb
   exact(I7.pin (b,o) (RA _ (RA _ (tS hb e)))).2.1
  cases f with
  | next=>obtain⟨σ7,H7,I7,n7⟩:=q7;exact again I7 n7
  | cont=>obtain⟨σ7,H7,I7,n7⟩:=q7;exact again I7 n7
  | brk=>obtain⟨σ7,H7,I7,q7⟩:=q7;exact⟨σ7,H7,I7.Qav,q7⟩
  | ret v=>obtain⟨x7,σ7,H7,I7,r7,q7⟩:=q7;exact⟨x7,σ7,H7,I7.Qav,r7,q7⟩
def WkW (J:It) (E:St→Hp→Prop) (B:(St→Hp→Prop)→V→St→Hp→Prop) (σ:St) (H:Hp):Prop:=∃ W:Nat→Nat→St→Hp→Prop,(∃ m,W 0 m σ H)∧∀ i m σ H,W i m σ H→(J.stop i H∧E σ H)∨(J.go i H∧∃ N:St→Hp→Prop,(∀ σ' H',N σ' H'→∃ m',m'<m∧W (i + 1) m' σ' H')∧∀ x H',J.ZW i H x H'→B N x σ H')
theorem XY {J:It}{E:St→Hp→Prop}{B:(St→Hp→Prop)→V→St→Hp→Prop} (Pv:Nat→St→Hp→Prop) (h0:Pv 0 σ H) (hg:∀ i σ H,i≤n→Pv i σ H→(i<n→J.go i H)∧(n≤i→J.stop i H)) (hs:∀ i x σ H H',i<n→Pv i σ H→J.ZW i H x H'→B (Pv (i + 1)) x σ H') (hd:∀ σ H,Pv n σ H→E σ H):WkW J E B σ H:=by
 refine⟨fun i m σ H=>m=n - i∧i≤n∧Pv i σ H,⟨n,by simp,RY _,h0⟩,?_⟩
 rintro i m σ H ⟨rfl,hi,p⟩
 obtain⟨q1,q2⟩:=hg i σ H hi p
 by_cases bZ:i<n
 .exact .inr ⟨q1 bZ,Pv (i + 1),fun σ' H' p'=>⟨n - (i + 1),by lia,O,bZ,p'⟩,fun x H' y=>hs i x σ H H' bZ p y⟩
 .have e:i=n:=by lia
  subst e
  exact .inl ⟨q2 (Q7 _),hd σ H p⟩
def Qaw (J:It) (D:fV) (g:TG) (tb:TS) (σ:St) (H:Hp):Prop:=WkW J D.nx (fun N x σ H'=>g x σ H' fun σ2 H2=>tb { D with nx:=N,ct:=N,bk:=D.nx } σ2 H2) σ H
theorem iN {K:R'}{g:TG} (Pv:Nat→St→Hp→Prop) (h0:Pv 0 σ H) (hl:∀ i σ H,i≤xs.length→Pv i σ H→P' K H a xs)
  (hs:∀ i x σ H,xs[i]?=f' x→Pv i σ H→g x σ H fun σ2 H2=>tb { D with nx:=Pv (i + 1),ct:=Pv (i + 1),bk:=D.nx } σ2 H2) (hd:∀ σ H,Pv xs.length σ H→D.nx σ H):Qaw (Zd K a) D g tb σ H:=
 XY (n:=xs.length) Pv h0 (fun i σ H hi p=>⟨fun h=>⟨xs,xs[i],hl i σ H hi p,by simp[h]⟩,fun h=>⟨xs,hl i σ H hi p,h⟩⟩) (fun i x σ H H' hi p y=>by
 obtain⟨rfl,y⟩:=y
 exact hs i x σ _ (y xs (hl i σ _ (R9 hi) p)) p) hd
theorem yg {g:TG} (Pv:Nat→St→Hp→Prop) (h0:Pv 0 σ H)
  (hs:∀ i σ H,i<n→Pv i σ H→g (.int (lo + i)) σ H fun σ2 H2=>tb { D with nx:=Pv (i + 1),ct:=Pv (i + 1),bk:=D.nx } σ2 H2) (hd:∀ σ H,Pv n σ H→D.nx σ H):Qaw (Ze lo n) D g tb σ H:=
 XY (n:=n) Pv h0 (fun _ _ _ _ _=>⟨id,id⟩) (fun i x σ H H' hi p y=>by
 obtain⟨rfl,rfl⟩:=y
 exact hs i σ _ hi p) hd
abbrev R2:=V→V→Hp→VK→Prop
def VF (X:Cx) (f:L'→L'→V3 L') (r:R2):Prop:=
 ∀ (aa:List (F'×UZ)) (s:UG) (σ:St) (H:Hp) (x y:V) (v u:L') (Q:VK),Inv X aa σ H s→aD x v→aD y u→r x y H Q →
  M' (UD X.prog X.w) X.A (f v u) (EP X aa σ Q) X.xe s
def UnR (X:Cx) (f:L'→V3 L') (r:V→Hp→VK→Prop):Prop:=
 ∀ (aa:List (F'×UZ)) (s:UG) (σ:St) (H:Hp) (x:V) (v:L') (Q:VK),Inv X aa σ H s→aD x v→r x H Q →
  M' (UD X.prog X.w) X.A (f v) (EP X aa σ Q) X.xe s
def fU (X:Cx) (f:L') (r:List V→Hp→VK→Prop):Prop:=
 ∀ (aa:List (F'×UZ)) (s:UG) (σ:St) (H:Hp) (xs:List V) (us:List L') (Q:VK),Inv X aa σ H s→aB xs us→r xs H Q →
  M' (UD X.prog X.w) X.A (call f us) (EP X aa σ Q) X.xe s
def QgW (X:Cx) (r:V→Hp→(Bool→Hp→Prop)→Prop):Prop:=
 ∀ (aa:List (F'×UZ)) (s:UG) (σ:St) (H:Hp) (x:V) (v:L') (Q:Bool→Hp→Prop),Inv X aa σ H s→aD x v→r x H Q →
  M' (UD X.prog X.w) X.A (truthy v) (TP X aa σ Q) X.xe s
def YG (r:R2) (ta tb:TE):TE:=fun σ H Q=>ta σ H fun x H1=>tb σ H1 fun y H2=>r x y H2 Q
def tUn (r:V→Hp→VK→Prop) (ta:TE):TE:=fun σ H Q=>ta σ H fun x H1=>r x H1 Q
def rI (C:Int→Int→Prop) (g:Int→Int→V):R2:=fun x y H Q=>∃ i j,x=.int i∧y=.int j∧C i j∧Q (g i j) H
def Yj (g:Int→Int→V):R2:=fun x y H Q=>∃ i j,x=.int i∧y=.int j∧Q (g i j) H
def rU (g:Int→V):V→Hp→VK→Prop:=fun x H Q=>∃ i,x=.int i∧Q (g i) H
variable {C dx:F'}{b kG:Bool}{f:L'→L'→V3 L'}{g:Int→Int→Int}{kw:List (C'×L')}{m name:C'}{mA:C'→Option L'}{o:Option L'}{pl:V3 Bool}{r:R2}{ta tb tc:TE}{us vs:List L'}{x y:V}
section
variable {a b:UY}
theorem Qbz (ha:PE X a ta) (hb:PE X b tb){R:V→V→Hp→Prop} (I:Inv X aa σ H s)
  (h:ta σ H fun x H1=>tb σ H1 fun y H2=>R x y H2)
  (hf:∀ v u s2 x y H2,Inv X aa σ H2 s2→aD x v→aD y u→R x y H2→M' (UD X.prog X.w) X.A (f v u) Q X.xe s2) :
  M' (UD X.prog X.w) X.A (UV a X.env) (fun v s₁=>M' (UD X.prog X.w) X.A (UV b X.env) (fun u s₂=>M' (UD X.prog X.w) X.A (f v u) Q X.xe s₂) X.xe s₁) X.xe s:=by
 refine UP (ha aa s σ H _ I h) fun v s1=>L2.U1 fun x H1 I1 r1 q1=>?_
 refine UP (hb aa s1 σ H1 _ I1 q1) fun u s2=>L2.U1 fun y H2 I2 r2 q2=>?_
 exact hf v u s2 x y H2 I2 r1 r2 q2
theorem br {op:Qbu} (ho:VF X (Xo op) r) (ha:PE X a ta) (hb:PE X b tb):PE X (.BinOp a op b pos) (YG r ta tb):=by
 intro aa s σ H Q I h
 exact wpAny_BinOp (Qbz ha hb I h fun v u s2 x y H2 I2 rx ry q=>ho aa s2 σ H2 x y v u Q I2 rx ry q)
theorem QgX {op:UnaryOp}{r:V→Hp→VK→Prop} (ho:UnR X (unaryOp op) r) (ha:PE X a ta):PE X (.UnaryOp op a pos) (tUn r ta):=by
 intro aa s σ H Q I h
 exact UnaryOp_ (UP (ha aa s σ H _ I h) fun v s1=>L2.U1 fun x H1 I1 r1 q1=>ho aa s1 σ H1 x v Q I1 r1 q1)
theorem opI {C:Int→Int→Prop}
  (rule:∀ (i j:Int) (t u:VY) (s:UG) (Q:L'→UG→Prop) (E:L'→UG→Prop),C i j→Q (.int (g i j) s.toks) { s with toks:=s.toks + 1 }→M' (UD X.prog X.w) X.A (f (.int i t) (.int j u)) Q E s) :
  VF X f (rI C fun i j=>.int (g i j)):=by
 intro aa s σ H x y v u Q I rx ry h
 obtain⟨i,j,rfl,rfl,hc,q⟩:=h
 obtain⟨t,rfl⟩:=rx
 obtain⟨t',rfl⟩:=ry
 exact rule i j t t' s _ _ hc ⟨.int (g i j),H,I.tok _,⟨_,O⟩,q⟩
theorem Qdb 
  (rule:∀ (i j:Int) (t u:VY) (s:UG) (Q:L'→UG→Prop) (E:L'→UG→Prop),Q (.int (g i j) s.toks) { s with toks:=s.toks + 1 }→M' (UD X.prog X.w) X.A (f (.int i t) (.int j u)) Q E s) :
  VF X f (Yj fun i j=>.int (g i j)):=by
 intro aa s σ H x y v u Q I rx ry h
 obtain⟨i,j,rfl,rfl,q⟩:=h
 obtain⟨t,rfl⟩:=rx
 obtain⟨t',rfl⟩:=ry
 exact rule i j t t' s _ _ ⟨.int (g i j),H,I.tok _,⟨_,O⟩,q⟩
theorem Qax {g:Int→Int→Bool}
  (rule:∀ (i j:Int) (t u:VY) (s:UG) (Q:L'→UG→Prop) (E:L'→UG→Prop),Q (.bool (g i j)) s→M' (UD X.prog X.w) X.A (f (.int i t) (.int j u)) Q E s) :
  VF X f (Yj fun i j=>.bl (g i j)):=by
 intro aa s σ H x y v u Q I rx ry h
 obtain⟨i,j,rfl,rfl,q⟩:=h
 obtain⟨t,rfl⟩:=rx
 obtain⟨t',rfl⟩:=ry
 exact rule i j t t' s _ _ ⟨.bl (g i j),H,I,O,q⟩
def QgY (i j:Int):Prop:=0<j∧j<1073741824
def QgZ (i j:Int):Prop:=0≤j∧j≤1000000∧i.natAbs<2 ^ 64
def QbA (i j:Int):Prop:=(-(2 ^ 64)<i∧i<2 ^ 64)∨(-(2 ^ 64)<j∧j<2 ^ 64)
theorem QbA.ok {i j:Int} (h:QbA i j):IntMulOk i j:=by
 rcases h with⟨h1,h2⟩|⟨h1,h2⟩
 .exact .of_left (intBits_le_64 h1 h2)
 .exact .of_right (intBits_le_64 h1 h2)
theorem nP:VF X (Xo .Add) (Yj fun i j=>.int (i + j)):=Qdb fun _ _ _ _ _ _ _ q=>add_int q
theorem jL:VF X (Xo .Sub) (Yj fun i j=>.int (i - j)):=Qdb fun _ _ _ _ _ _ _ q=>sub_int q
theorem rD:VF X (Xo .Mult) (rI QbA fun i j=>.int (i * j)):=opI fun _ _ _ _ _ _ _ hc q=>mul_int q hc.ok
theorem Po:VF X (Xo .FloorDiv) (rI QgY fun i j=>.int (i / j)):=opI fun i j _ _ _ _ _ hc q=>by
 have h1:(0:Int)<j:=hc.1
 have h2:j<1073741824:=hc.2
 exact floordiv_int (by lia) (by rw[Int.fdiv_eq_ediv_of_nonneg i (by lia)];exact q) (.inl (PyProof.noPylong_small (by lia)))
theorem km:VF X (Xo .Mod) (rI (fun _ j=>0<j) fun i j=>.int (i % j)):=opI fun i j _ _ _ _ _ hc q=>by
 have h1:(0:Int)<j:=hc
 exact mod_int' (by lia) (by rw[Int.fmod_eq_emod_of_nonneg i (by lia)];exact q)
theorem Fh:VF X (Xo .Pow) (rI QgZ fun i j=>.int (i ^ j.toNat)):=opI fun _ _ _ _ _ _ _ hc q=>pow_int_small hc.1 hc.2.1 hc.2.2 q
theorem unI {f:L'→V3 L'}{g:Int→Int}
  (rule:∀ (i:Int) (t:VY) (s:UG) (Q:L'→UG→Prop) (E:L'→UG→Prop),Q (.int (g i) s.toks) { s with toks:=s.toks + 1 }→M' (UD X.prog X.w) X.A (f (.int i t)) Q E s) :
  UnR X f (rU fun i=>.int (g i)):=by
 intro aa s σ H x v Q I rx h
 obtain⟨i,rfl,q⟩:=h
 obtain⟨t,rfl⟩:=rx
 exact rule i t s _ _ ⟨.int (g i),H,I.tok _,⟨_,O⟩,q⟩
theorem Qg0:UnR X (unaryOp .USub) (rU fun i=>.int (-i)):=unI fun _ _ _ _ _ q=>neg_int q
end
def Qdc:V→V→Bool
 | .UO,.UO=>B' | .UO,.int _=>B' | .int _,.UO=>B' | .UO,.bl _=>B' | .bl _,.UO=>B' | .UO,.str _=>B' | .str _,.UO=>B'
 | .int _,.int _=>B' | .bl _,.bl _=>B' | .str _,.str _=>B' | .byt _,.byt _=>B'
 | .int _,.str _=>B' | .str _,.int _=>B' | .bl _,.str _=>B' | .str _,.bl _=>B'
 | _,_=>K'
def rEq:R2:=fun x y H Q=>Qdc x y=B'∧Q (.bl (decide (x=y))) H
def rNe:R2:=fun x y H Q=>Qdc x y=B'∧Q (.bl (!decide (x=y))) H
theorem E4 {i j:Int}:decide (V.int i=V.int j)=(i == j):=by
 rw[SL]
 simp
theorem Fg {i j:Bool}:decide (V.bl i=V.bl j)=(i == j):=by
 rw[SL]
 simp
theorem Ep {i j:C'}:decide (V.str i=V.str j)=(i == j):=by
 rw[SL]
 simp
theorem Db {i j:Array UInt8}:decide (V.byt i=V.byt j)=(i.toList == j.toList):=by
 rw[SL]
 cases i
 cases j
 simp
section
variable {a b:UY}
theorem cv {Q:VK}{k k':Bool} (I:Inv X aa σ H s) (q:Q (.bl k) H) (e:k=k'):EP X aa σ Q (.bool k') s:=by
 subst e
 exact⟨.bl k,H,I,O,q⟩
theorem cG:VF X (Wh .Eq) rEq:=by
 intro aa s σ H x y v u Q I rx ry h
 obtain⟨hs,q⟩:=h
 cases x with
 | UO=>
  cases rx
  cases y with
  | UO=>cases ry;exact Qn9 (cv I q (by simp))
  | bl j=>cases ry;exact Qob (cv I q (by simp))
  | int j=>obtain⟨t',rfl⟩:=ry;exact Qoa (cv I q (by simp))
  | str j=>obtain⟨t',rfl⟩:=ry;exact Qn8 (cv I q (by simp))
  | _=>exact UR (show K'=B' from hs) Rk
 | bl i=>
  cases rx
  cases y with
  | UO=>cases ry;exact Qod (cv I q (by simp))
  | bl j=>cases ry;exact eq_bool (cv I q Fg)
  | str j=>obtain⟨t',rfl⟩:=ry;exact QnU (cv I q (by simp))
  | _=>exact UR (show K'=B' from hs) Rk
 | int i=>
  obtain⟨t,rfl⟩:=rx
  cases y with
  | UO=>cases ry;exact Qoc (cv I q (by simp))
  | int j=>obtain⟨t',rfl⟩:=ry;exact eq_int (cv I q E4)
  | str j=>obtain⟨t',rfl⟩:=ry;exact QnT (cv I q (by simp))
  | _=>exact UR (show K'=B' from hs) Rk
 | str i=>
  obtain⟨t,rfl⟩:=rx
  cases y with
  | UO=>cases ry;exact Qn7 (cv I q (by simp))
  | bl j=>cases ry;exact QnS (cv I q (by simp))
  | int j=>obtain⟨t',rfl⟩:=ry;exact QnR (cv I q (by simp))
  | str j=>obtain⟨t',rfl⟩:=ry;exact eq_str (cv I q Ep)
  | _=>exact UR (show K'=B' from hs) Rk
 | byt i=>
  obtain⟨t,rfl⟩:=rx
  cases y with
  | byt j=>obtain⟨t',rfl⟩:=ry;exact PySem.W.eq_bytes (cv I q Db)
  | _=>exact UR (show K'=B' from hs) Rk
 | _=>cases y <;> exact UR (show K'=B' from hs) Rk
theorem nN:VF X (Wh .NotEq) rNe:=by
 intro aa s σ H x y v u Q I rx ry h
 obtain⟨hs,q⟩:=h
 cases x with
 | UO=>
  cases rx
  cases y with
  | UO=>cases ry;exact Qn2 (cv I q (by simp))
  | bl j=>cases ry;exact Qn4 (cv I q (by simp))
  | int j=>obtain⟨t',rfl⟩:=ry;exact Qn3 (cv I q (by simp))
  | str j=>obtain⟨t',rfl⟩:=ry;exact Qn1 (cv I q (by simp))
  | _=>exact UR (show K'=B' from hs) Rk
 | bl i=>
  cases rx
  cases y with
  | UO=>cases ry;exact Qn6 (cv I q (by simp))
  | bl j=>cases ry;exact ne_bool (cv I q (Wv not Fg))
  | str j=>obtain⟨t',rfl⟩:=ry;exact QnQ (cv I q (by simp))
  | _=>exact UR (show K'=B' from hs) Rk
 | int i=>
  obtain⟨t,rfl⟩:=rx
  cases y with
  | UO=>cases ry;exact Qn5 (cv I q (by simp))
  | int j=>obtain⟨t',rfl⟩:=ry;exact ne_int (cv I q (Wv not E4))
  | str j=>obtain⟨t',rfl⟩:=ry;exact QnP (cv I q (by simp))
  | _=>exact UR (show K'=B' from hs) Rk
 | str i=>
  obtain⟨t,rfl⟩:=rx
  cases y with
  | UO=>cases ry;exact Qn0 (cv I q (by simp))
  | bl j=>cases ry;exact QnO (cv I q (by simp))
  | int j=>obtain⟨t',rfl⟩:=ry;exact QnN (cv I q (by simp))
  | str j=>obtain⟨t',rfl⟩:=ry;exact ne_str (cv I q (Wv not Ep))
  | _=>exact UR (show K'=B' from hs) Rk
 | byt i=>
  obtain⟨t,rfl⟩:=rx
  cases y with
  | byt j=>obtain⟨t',rfl⟩:=ry;exact PySem.W.ne_bytes (cv I q (Wv not Db))
  | _=>exact UR (show K'=B' from hs) Rk
 | _=>cases y <;> exact UR (show K'=B' from hs) Rk
theorem pD:VF X (Wh .Lt) (Yj fun i j=>.bl (decide (i<j))):=Qax fun _ _ _ _ _ _ _ q=>lt_int q
theorem Qdd:VF X (Wh .LtE) (Yj fun i j=>.bl (decide (i≤j))):=Qax fun _ _ _ _ _ _ _ q=>le_int q
theorem rW:VF X (Wh .Gt) (Yj fun i j=>.bl (decide (j<i))):=Qax fun _ _ _ _ _ _ _ q=>gt_int q
theorem o7:VF X (Wh .GtE) (Yj fun i j=>.bl (decide (j≤i))):=Qax fun _ _ _ _ _ _ _ q=>ge_int q
theorem Dp:VF X (Wh .In) (fun x y H Q=>∃ i j,x=.str i∧y=.str j∧Q (.bl (!(ZI j i 0 j.length 1).isEmpty)) H):=by
 intro aa s σ H x y v u Q I rx ry h
 obtain⟨i,j,rfl,rfl,q⟩:=h
 obtain⟨t,rfl⟩:=rx
 obtain⟨t',rfl⟩:=ry
 exact in_str (cv I q O)
theorem aZ (b:UY) (h:op≠.In:=by decide) (h2:op≠.NotIn:=by decide):Y0 op b=K':=by
 have e1:(op == Qgp)=K':=by cases op <;> first|rfl|exact UR O h
 have e2:(op == QfV)=K':=by cases op <;> first|rfl|exact UR O h2
 cases b <;> simp[Y0,e1,e2]
theorem kh  (ho:VF X (Wh op) r) (ha:PE X a ta) (hb:PE X b tb) (hm:Y0 op b=K'):PE X (.Compare a [op] [b] pos) (YG r ta tb):=by
 intro aa s σ H Q I h
 exact wpAny_Compare1 (Qbz ha hb I h fun v u s2 x y H2 I2 rx ry q=>ho aa s2 σ H2 x y v u Q I2 rx ry q) hm
def Qg1 (t:TE):TT:=fun σ H Q=>t σ H fun x H'=>∃ k,x=.bl k∧Q k H'
theorem bf  (ho:VF X (Wh op) r) (ha:PE X a ta) (hb:PE X b tb) (hm:Y0 op b=K'):PT X (.Compare a [op] [b] pos) (Qg1 (YG r ta tb)):=by
 intro aa s σ H Q I h
 refine Ue (UP (ha aa s σ H _ I h) fun v s1=>L2.U1 fun x H1 I1 r1 q1=>UP (hb aa s1 σ H1 _ I1 q1) fun u s2=>L2.U1 fun y H2 I2 r2 q2=>
  UP (ho aa s2 σ H2 x y v u _ I2 r1 r2 q2) fun c s3 ⟨z,H3,I3,r3,k,e,q3⟩=>?_) hm
 subst e
 cases r3
 exact R7 ⟨H3,I3,q3⟩
def QbB (K:R') (x:V) (H:Hp) (k:Bool):Prop:=
 match x with
 | .UO=>k=K'
 | .bl b=>k=b
 | .int i=>k=(i != 0)
 | .str y=>y.length≤S'∧k=((y.length:Int) != 0)
 | .byt y=>y.size≤S'∧k=((y.size:Int) != 0)
 | .ref p=>(∃ xs,P' K H p xs∧k=!xs.isEmpty)∨(∃ xs,UW K H p xs∧k=!xs.isEmpty)∨∃ kvs,H p=f' (.dK kvs)∧k=!kvs.isEmpty
 | _=>False
theorem Ox {κ:Type}{kvs:List (κ×V)}{vs:List (κ×L')} (r:KV kvs vs):(!vs.isEmpty)=!kvs.isEmpty:=by
 cases r <;> rfl
theorem Da {ah:List L'} (r:aB xs ah):(!ah.toArray.isEmpty)=!xs.isEmpty:=by
 cases r <;> simp
theorem mf:(S':Nat)<2 ^ 63:=by rw[Q9];decide
theorem DH:QgW X (fun x H Q=>∃ k,QbB X.K x H k∧Q k H):=by
 intro aa s σ H x v Q I rx h
 obtain⟨k,e,q⟩:=h
 have hl:=mf
 have hs:S'=16777216:=Q9
 cases x with
 | UO=>
  cases rx
  have e':k=K':=e
  subst e'
  exact truthy_none ⟨H,I,q⟩
 | bl b=>
  cases rx
  have e':k=b:=e
  subst e'
  exact R7 ⟨H,I,q⟩
 | int i=>
  obtain⟨t,rfl⟩:=rx
  have e':k=(i != 0):=e
  subst e'
  exact PySem.P.truthy_int ⟨H,I,q⟩
 | str y=>
  obtain⟨t,rfl⟩:=rx
  obtain⟨hy,e'⟩:y.length≤S'∧k=((y.length:Int) != 0):=e
  subst e'
  exact PySem.P.truthy_str (by lia) ⟨H,I.tok _,q⟩
 | byt y=>
  obtain⟨t,rfl⟩:=rx
  obtain⟨hy,e'⟩:y.size≤S'∧k=((y.size:Int) != 0):=e
  subst e'
  exact PySem.W.truthy_bytes (by lia) ⟨H,I.tok _,q⟩
 | ref p=>
  cases rx
  have e':(∃ xs,P' X.K H p xs∧k=!xs.isEmpty)∨(∃ xs,UW X.K H p xs∧k=!xs.isEmpty)∨∃ kvs,H p=f' (.dK kvs)∧k=!kvs.isEmpty:=e
  rcases e' with⟨xs,hx,e'⟩|⟨xs,hx,e'⟩|⟨kvs,hx,e'⟩
  .subst e'
   obtain⟨ah,r,pl,hz⟩:=I.list hx
   have av:=r.length
   exact wpAny_truthy_list pl.isList (by simp only[Re];lia) ⟨H,I.tok _,by rw[Da r];exact q⟩
  .subst e'
   obtain⟨ah,r,pl,hz⟩:=I.tuple hx
   have av:=r.length
   exact truthy_tuple pl (by simp only[Re];lia) ⟨H,I.tok _,by rw[Da r];exact q⟩
  .subst e'
   obtain⟨hz,hS,vs,r,m⟩:kvs.length≤S'∧(p == We)=K'∧∃ vs,KV kvs vs∧s.heap.DictOf (b9 X.prog X.w) p vs:=I.UJ p _ hx
   have av:kvs.length=vs.length:=Qbf r
   exact wpAny_truthy_dict hS m (by lia) ⟨H,I.tok _,by rw[Ox r];exact q⟩
 | _=>exact(show False from e).elim
theorem MC (ha:PE X a ta) (he:∀ dE,ZM a X.env dE=(do let v ← dE;Yz a.pos;Xp [v] (truthy v))) :
  PT X a (fun σ H Q=>ta σ H fun x H'=>∃ k,QbB X.K x H' k∧Q k H'):=by
 intro aa s σ H Q I h
 exact isTrue_plain (UP (ha aa s σ H _ I h) fun v s1=>L2.U1 fun x H1 I1 r1 q1=>DH aa s1 σ H1 x v Q I1 r1 q1) (he _)
theorem sA:VF X (Xo .Add) (fun x y H Q=>∃ i j,x=.str i∧y=.str j∧i.length + j.length≤S'∧Q (.str (i++j)) H):=by
 intro aa s σ H x y v u Q I rx ry h
 obtain⟨i,j,rfl,rfl,hz,q⟩:=h
 obtain⟨t,rfl⟩:=rx
 obtain⟨t',rfl⟩:=ry
 exact add_str (fun t' tk=>⟨.str (i++j),H,I.tok _,⟨_,O⟩,q⟩) hz
theorem gX  (r:aB [x] us):∃ u,us=[u]∧aD x u:=by
 cases r with
 | cons r1 r2=>cases r2;exact⟨_,O,r1⟩
theorem nJ  (r:aB [x,y] us):∃ u w',us=[u,w']∧aD x u∧aD y w':=by
 cases r with
 | cons r1 r2=>
  cases r2 with
  | cons r3 r4=>cases r4;exact⟨_,_,O,r1,r3⟩
theorem EV:fU X (.type "str") (fun xs H Q=>∃ i,xs=[.int i]∧i.natAbs.log2<1920∧Q (.str (toString i)) H):=by
 intro aa s σ H xs us Q I r h
 obtain⟨i,rfl,hz,q⟩:=h
 obtain⟨u,rfl,t,rfl⟩:=gX r
 exact PySem.P.str_of_int hz ⟨.str _,H,I.tok _,⟨_,O⟩,q⟩
end
structure nU (h:U6) (x dx C:F') (mA:C'→Option L'):Prop where
 obj:h.get? x=f' (Ys C dx)
 ns:h.Ns1 dx mA
 ne:dx≠x
theorem xS  (n:h.Ns1 dx mA):∃ od,h.get? dx=f' od∧∀ name,Qba name od=f' (mA name):=by
 obtain⟨o,es,ep,ho,hd,hk,_,hm⟩:=n
 refine⟨o,ho,fun name=>?_⟩
 have e:=hm name
 unfold nsFind findBy at e
 rw[← Array.find?_toList] at e
 unfold Qba
 rw[hd]
 dsimp only
 split
 .rename_i y q
  rw[q] at e
  exact Wv f' e
 .rename_i q
  rw[q] at e
  have a:es.toList.any (·.refKey)=K':=by
   rw[List.any_eq_false]
   intro y hy
   obtain⟨z,t,d7⟩:=hk y (Array.mem_toList_iff.mp hy)
   simp[DictEntry.refKey,d7]
  have a':¬ es.toList.any (·.refKey)=B':=by rw[a];exact Rk
  rw[UF a']
  exact Wv f' e
theorem nU.look {x:F'} (I:nU h x dx C mA):∃ od,Yt h x (Ys C dx) C (f' od)∧∀ name,Qba name od=f' (mA name):=
 let ⟨od,ho,hl⟩:=xS I.ns
 ⟨od,⟨I.obj,rfl,rfl,ho⟩,hl⟩
section
variable {K:R'}{x f:F'}{v:L'}
theorem Ko  (X:K.In s.heap) (I:nU s.heap x dx C mA) (hg:Qa3 K C name=B') (hh:Zw K C=B')
  (ha:VT K (.ref C) name=f' i') (hv:mA name=f' v) (cW:Qcs v=B') (h:Q v { s with toks:=s.toks + 1 }) :
  M' (UD prog w) A (Qar (.ref x) name kG) Q E s:=by
 obtain⟨od,J,hl⟩:=I.look
 exact PySem.W.get_value X J (Qcj hg).1 (QeW hh ha O (by rw[hl,hv])) cW h
theorem LU {Q:L'×List L'→UG→Prop} (X:K.In s.heap) (I:nU s.heap x dx C mA) (hg:Qa3 K C name=B')
  (hf:VT K (.ref C) name=f' (f' (.ref f))) (ht:Yu K (.ref f)=B') (hv:mA name=i') (h:Q (.ref f,[.ref x]) s) :
  M' (UD prog w) A (Y7 (.ref x) name pl) Q E s:=by
 obtain⟨od,J,hl⟩:=I.look
 exact PySem.W.method_fn X J (Qcj hg).1 (Qcj hg).2 hf (Wg.mp ht) (by show(Qba name od).map (·.isSome)=f' K';rw[hl,hv];rfl) h
theorem K0 {ns:List C'}{Q:Unit→UG→Prop} (X:K.In s.heap) (I:nU s.heap x dx C mA)
  (hs:VT K (.ref C) "__setattr__"=f' (f' (.builtin "object.__setattr__"))) (hp:Qe3 K C=B') (ht:Qa7 K C name=f' i') (hh:Zw K C=B')
  (hw:QcH mA ns) (hsz:ns.length≤S')
  (h:∀ h',nU h' x dx C (fun y=>if y=name then f' v else mA y)→XH dx s.heap h'→Q () { s with heap:=h',toks:=s.toks + 2 }) :
  M' (UD prog w) A (setAttr (.ref x) name v) Q E s:=by
 obtain⟨od,J,hl⟩:=I.look
 refine Qe2 X J hs (PySem.W.osa_open (s:={ s with toks:=s.toks + 1 }) (r:=i') X J hp ht fun b=>?_)
 obtain⟨cd,hc,cY⟩:=ZA hh
 have hx:s.heap.get? x=f' ⟨.ref C,f' dx,.plain,#[]⟩:=I.obj
 refine mT (Q5 (mT (mT (TB hx (mT (YV (s:={ s with toks:=s.toks + 1 }) (Qck X hc) ?_))))))
 rw[cY]
 refine Q5 (a:=f' dx) (mT (Q5 (mT ?_)))
 refine wpAny_nsSet1 (s:={ s with toks:=s.toks + 1 }) I.ns fun h' mI fG=>?_
 obtain⟨oD,Ii,Ge,vS,vD,jm⟩:=mI.count (QnY name v hw)
 refine mT (QfY vS (by rw[vD];exact Qf3 (RT jm (by rw[Rh];lia))) ?_)
 exact Q5 (h _ ⟨(fG.2 _ (UM I.ne)).trans I.obj,mI,I.ne⟩ fG)
theorem Qu  (X:K.In s.heap) (hm:Qcu K C=B')
  (hi:VT K (.ref C) "__init__"=f' (f' (.ref f))) (hf:Wc K (.ref f)=f' (.type "function"))
  (h:Wj (UD prog w) (A.under (.builtin "type.__call__" ⟨.ref C::vs,kw⟩)) (.call (.ref f) ⟨.ref (s.heap.objs.size + 1)::vs,kw⟩) (PySem.W.InitBack (s.heap.objs.size + 1) R)
   { s with heap:=(s.heap.push X5).push (Ys C s.heap.objs.size) }) :
  Wj (UD prog w) A (.call (.ref C) ⟨vs,kw⟩) R s:=by
 obtain⟨hh,g,d,t,os⟩:=s
 exact PySem.W.make_core (PySem.W.makes_of X hm) (XC X hi) (fun self=>PySem.W.bind_fn X self hf) (.inl O) h
end
def aS (f:C') (v:V):List (C'×V)→List (C'×V)
 | []=>[(f,v)]
 | (g,x)::r=>if g=f then(g,v)::r else(g,x)::aS f v r
theorem Do (f g:C') (v:V):∀ fs:List (C'×V),(aS f v fs).lookup g=if g=f then f' v else fs.lookup g
 | []=>by
  show Y1 g [(f,v)]=_
  by_cases h:g=f
  .have hb:(g == f)=B':=Wg.mpr h
   simp only[Y1,hb,UH h]
  .have hb:(g == f)=K':=Zy.mpr h
   simp only[Y1,hb,UF h]
 | (k,x)::r=>by
  have ih:=Do f g v r
  rw[show aS f v ((k,x)::r)=(if k=f then(k,v)::r else(k,x)::aS f v r) from rfl]
  by_cases hk:k=f
  .rw[UH hk]
   by_cases h:g=k
   .have hb:(g == k)=B':=Wg.mpr h
    simp only[Y1,hb,UH (h.trans hk)]
   .have hb:(g == k)=K':=Zy.mpr h
    simp only[Y1,hb,UF (fun e:g=f=>h (e.trans hk.symm))]
  .rw[UF hk]
   by_cases h:g=k
   .have hb:(g == k)=B':=Wg.mpr h
    simp only[Y1,hb,UF (fun e:g=f=>hk (h.symm.trans e))]
   .have hb:(g == k)=K':=Zy.mpr h
    simp only[Y1,hb]
    exact ih
theorem yE (f:C') (v:V):∀ fs:List (C'×V),f∈(aS f v fs).map (·.1)∧∀ g,g∈fs.map (·.1)→g∈(aS f v fs).map (·.1)
 | []=>⟨by simp[aS],fun g h=>by simp at h⟩
 | (k,x)::r=>by
  obtain⟨i1,i2⟩:=yE f v r
  rw[show aS f v ((k,x)::r)=(if k=f then(k,v)::r else(k,x)::aS f v r) from rfl]
  by_cases hk:k=f
  .rw[UH hk]
   subst hk
   exact⟨by simp,fun g h=>by simpa using h⟩
  .rw[UF hk]
   refine⟨?_,fun g h=>?_⟩
   .rw[RL]
    exact Rc _ i1
   .rw[RL] at h ⊢
    rcases RS.mp h with e|e
    .exact RS.mpr (.inl e)
    .exact Rc _ (i2 g e)
theorem ET (f:C') (v:V):∀ fs:List (C'×V),(aS f v fs).length≤fs.length + 1
 | []=>by simp[aS]
 | (k,x)::r=>by
  have ih:=ET f v r
  rw[show aS f v ((k,x)::r)=(if k=f then(k,v)::r else(k,x)::aS f v r) from rfl]
  by_cases hk:k=f
  .rw[UH hk,Rh,Rh];lia
  .rw[UF hk,Rh,Rh];lia
theorem ee.some_of  (r:ee (f' v) o):∃ u,o=f' u∧aD v u:=by
 cases o with
 | none=>exact(show False from r).elim
 | some u=>exact⟨u,O,r⟩
theorem ee.none_of  (r:ee i' o):o=i':=by
 cases o with
 | none=>rfl
 | some u=>exact(show False from r).elim
theorem Fo  (r:aD v u):Qcs u=B':=by
 cases v with
 | UO=>cases (show u=Vk from r);rfl
 | bl b=>cases (show u=W1 b from r);rfl
 | int i=>obtain⟨t,e⟩:=(show ∃ t,u=XJ i t from r);cases e;rfl
 | str x=>obtain⟨t,e⟩:=(show ∃ t,u=ZJ x t from r);cases e;rfl
 | byt b=>obtain⟨t,e⟩:=(show ∃ t,u=QfS b t from r);cases e;rfl
 | Yf b=>obtain⟨t,e⟩:=(show ∃ t,u=QcK b t from r);cases e;rfl
 | ref a=>cases (show u=UQ a from r);rfl
 | ty n=>cases (show u=Yw n from r);rfl
section
variable {fs GA:List (C'×V)}
theorem tP (UJ:Vu P w H h) (e:H a=f' (.ins C dx fs)):∃ mA,nU h a dx C mA∧(∀ f,ee (fs.lookup f) (mA f))∧QcH mA (fs.map (·.1))∧fs.length≤1000∧H dx=f' (.own a):=by
 obtain⟨d,z,ne,ob,mA,n,r,q⟩:=(show cS P w H h a (.ins C dx fs) from UJ a _ e)
 exact⟨mA,⟨ob,n,ne⟩,r,q,z,d⟩
end
structure V8 (K:R') (C:F'):Prop where
 pg:Qa3 K C Vr=B'
 hd:Zw K C=B'
 po:Qe3 K C=B'
 sa:VT K (.ref C) "__setattr__"=f' (f' (.builtin "object.__setattr__"))
theorem V8.get {K:R'}{C:F'} (c:V8 K C) (f:C'):Qa3 K C f=B':=c.pg
def zbj (K:R') (C:F') (f:C'):Prop:=VT K (.ref C) f=f' i'
theorem zbj.Qg2 {K:R'}{f:C'} (n:zbj K C f):Qa7 K C f=f' i':=by
 unfold Qa7
 rw[show VT K (.ref C) f=f' i' from n]
 rfl
structure Con (K:R') (C:F') (f:C') (v:V) (u:L'):Prop where
 at_:VT K (.ref C) f=f' (f' u)
 rel:aD v u
 get:Qco K u "__get__"=f' i'
 cp:PySem.W.copiedNames.contains f=K'
structure ZX (K:R') (C:F') (m:C') (f:F'):Prop where
 at_:VT K (.ref C) m=f' (f' (.ref f))
 fn:Yu K (.ref f)=B'
 kp:WZ K (.ref f)=B'
section
variable {fs:List (C'×V)}{f:C'}
theorem PM  (I:Inv X aa σ H s) (e:H a=f' (.ins C dx fs)) (c:V8 X.K C) (n:zbj X.K C f) (l:fs.lookup f=f' v)
  (h:∀ u s',Inv X aa σ H s'→aD v u→Q u s'):M' (UD X.prog X.w) A (Qar (.ref a) f b) Q E s:=by
 obtain⟨mA,U0,r,_,_,_⟩:=tP I.UJ e
 obtain⟨u,hu,ru⟩:=ee.some_of (v:=v) (o:=mA f) (by rw[← l];exact r f)
 exact Ko I.U9 U0 (c.get f) c.hd n hu (Fo ru) (h u _ (I.tok _) ru)
theorem zN {g:F'}{Q:L'×List L'→UG→Prop} (I:Inv X aa σ H s) (e:H a=f' (.ins C dx fs)) (c:V8 X.K C) (k:ZX X.K C m g) (l:fs.lookup m=i')
  (h:Q (.ref g,[.ref a]) s):M' (UD X.prog X.w) A (Y7 (.ref a) m pl) Q E s:=by
 obtain⟨mA,U0,r,_,_,_⟩:=tP I.UJ e
 have hn:mA m=i':=ee.none_of (by rw[← l];exact r m)
 exact LU I.U9 U0 (c.get m) k.at_ k.fn hn h
theorem PK {Q:Unit→UG→Prop} (I:Inv X aa σ H s) (e:H a=f' (.ins C dx fs)) (c:V8 X.K C) (n:zbj X.K C f) (hl:fs.length<1000) (ry:aD y u)
  (h:∀ s',Inv X aa σ (upd H a (.ins C dx (aS f y fs))) s'→Q () s'):M' (UD X.prog X.w) A (setAttr (.ref a) f u) Q E s:=by
 obtain⟨mA,U0,r,wi,_,ho⟩:=tP I.UJ e
 have hz:(fs.map (·.1)).length≤S':=by rw[Q3,Q9];lia
 refine K0 I.U9 U0 c.sa c.po n.Qg2 c.hd wi hz fun h' O' sb=>h _ ?_
 have hd:∃ o,h'.get? dx=f' o:=let ⟨o,_,_,e',_⟩:=O'.ns;⟨o,e'⟩
 refine I.write (x:=a) (e:=dx) (by rw[e];exact Ws) (.inr ho) (fun b q hb z=>(sb.2 b hb).trans z) hd ?_
 refine⟨by rw[aj U0.ne];exact ho,?_,U0.ne,O'.obj,_,O'.ns,fun g=>?_,fun g hg=>?_⟩
 .have:=ET f y fs;lia
 .show ee ((aS f y fs).lookup g) (if g=f then f' u else mA g)
  rw[Do]
  by_cases q:g=f
  .rw[UH q,UH q];exact ry
  .rw[UF q,UF q];exact r g
 .by_cases q:g=f
  .rw[q];exact(yE f y fs).1
  .refine(yE f y fs).2 g (wi g fun z=>hg ?_)
   show(if g=f then f' u else mA g)=i'
   rw[UF q];exact z
theorem Inv.made (I:Inv X aa σ H s):Inv X aa σ (upd (upd H s.heap.objs.size (.own (s.heap.objs.size + 1))) (s.heap.objs.size + 1) (.ins C s.heap.objs.size []))
  { s with heap:=(s.heap.push X5).push (Ys C s.heap.objs.size) }:=by
 have e1:(s.heap.push X5).get? s.heap.objs.size=f' X5:=Ra s.heap rfl
 have e2:((s.heap.push X5).push (Ys C s.heap.objs.size)).get? (s.heap.objs.size + 1)=f' (Ys C s.heap.objs.size):=by
  have:=Ra (s.heap.push X5) (o:=Ys C s.heap.objs.size) rfl
  rwa [RE] at this
 have e3:(s.heap.push X5).Ns s.heap.objs.size (fun _=>i'):=⟨X5,#[],_,e1,O,(fun e he=>UR he (by simp)),fun _=>O⟩
 have I1:=I.laid (a:=s.heap.objs.size) (o:=.own (s.heap.objs.size + 1)) (h':=s.heap.push X5) (t':=s.toks) (fun b u q=>Q4 _ q) (Q7 _) ⟨_,e1⟩
 refine I1.laid (a:=s.heap.objs.size + 1) (o:=.ins C s.heap.objs.size []) (t':=s.toks) (fun b u q=>Q4 _ q) (S8 (RE _ _)) ?_
 have ne:s.heap.objs.size≠s.heap.objs.size + 1:=Rb (Sb _)
 refine⟨by rw[aj ne,ag],RY _,ne,e2,fun _=>i',(Uy e3).at fun o q=>Q4 _ q,fun _=>Ws,fun y hy=>UR O hy⟩
theorem Ev {f:C'} (hb:X7 e f env (UV e env)=UV e env)
  (h:M' (UD prog w) A (UV e env) (fun o s₁=>M' (UD prog w) A (Qar o f B') Q E s₁) E s):M' (UD prog w) A (UV (.Attribute e f pos) env) Q E s:=
 Attribute_any_ h (by rw[arm_eval_Attribute,hb])
end
def Qg3 (K:R') (ta:TE) (f:C'):TE:=fun σ H Q=>ta σ H fun x H1=>∃ a C dx fs v,x=.ref a∧H1 a=f' (.ins C dx fs)∧V8 K C∧zbj K C f∧fs.lookup f=f' v∧Q v H1
def Qg4 (K:R') (ta tv:TE) (f:C'):TS:=fun D σ H=>tv σ H fun y H1=>ta σ H1 fun x H2=>∃ a C dx fs,x=.ref a∧H2 a=f' (.ins C dx fs)∧V8 K C∧zbj K C f∧fs.length<1000 ∧
 D.nx σ (upd H2 a (.ins C dx (aS f y fs)))
section
variable {o value:UY}{f:C'}{tv:TE}
theorem bA (he:PE X e ta) (hb:X7 e f X.env (UV e X.env)=UV e X.env):PE X (.Attribute e f pos) (Qg3 X.K ta f):=by
 intro aa s σ H Q I h
 refine Ev hb (UP (he aa s σ H _ I h) fun u s1=>L2.U1 fun x H1 I1 rx aX=>?_)
 obtain⟨a,C,dx,fs,v,ex,ea,c,n,l,q⟩:=aX
 subst ex
 obtain rfl:u=UQ a:=rx
 exact PM I1 ea c n l fun u' s2 I2 ru=>⟨v,H1,I2,ru,q⟩
theorem eA (ha:PE X o ta) (hv:PE X value tv) (hs:ZK value (f' (.Attribute o f bu)) pos.line X.env=pure K'):PS X (.Assign [.Attribute o f bu] value pos) (Qg4 X.K ta tv f):=by
 intro aa s σ H D I h
 refine QeD (UP (hv aa s σ H _ I h) fun u s1=>L2.U1 fun y H1 I1 ry q=>UP (ha aa s1 σ H1 _ I1 q) fun ov s2=>L2.U1 fun x H2 I2 rx aX=>?_) hs
 obtain⟨a,C,dx,fs,ex,ea,c,n,l,q2⟩:=aX
 subst ex
 obtain rfl:ov=UQ a:=rx
 exact PK I2 ea c n l ry fun s3 I3=>⟨σ,_,I3,q2⟩
end
section
variable {c:L'}
inductive iS (K:R') (H:Hp):V→L'→Prop where
 | UO:iS K H .UO (.type "NoneType")
 | bl (x:Bool):iS K H (.bl x) (.type "bool")
 | int (i:Int):iS K H (.int i) (.type "int")
 | str (x:C'):iS K H (.str x) (.type "str")
 | Yf (x:UInt64):iS K H (.Yf x) (.type "float")
 | lst {a:F'}{xs:List V} (e:H a=f' (.lst xs)):iS K H (.ref a) (.type "list")
 | UT {a:F'}{o:UZ}{xs:List V} (e:H a=f' (.UT o (.lst xs))):iS K H (.ref a) (.type "list")
 | tup {a:F'}{xs:List V} (e:H a=f' (.tup xs)):iS K H (.ref a) (.type "tuple")
 | dK {a:F'}{kvs:List (Key×V)} (e:H a=f' (.dK kvs)):iS K H (.ref a) (.type "dict")
 | dT {a:F'}{kvs:List (List Key×V)} (e:H a=f' (.dT kvs)):iS K H (.ref a) (.type "dict")
 | ins {a C dx:F'}{fs:List (C'×V)} (e:H a=f' (.ins C dx fs)) (cl:V8 K C) (ha:VT K (.ref C) "__class__"=f' (f' (.builtin "object.__class__")))
   (hn:Qco K (.builtin "object.__class__") "__get__"=f' (f' (.builtin "getset_descriptor.__get__"))) (htk:Qe9 K (.builtin "object.__class__")=f' B')
   (hm:Vh K C (.type "object")=f' B'):iS K H (.ref a) (.ref C)
theorem Kr {t:L'} (I:Inv X aa σ H s) (rx:aD x u) (ty:iS X.K H x t) (e:UE X.K t c=f' b) (h:∀ tk,Q (.bool b) { s with toks:=tk }) :
  M' (UD X.prog X.w) A (call (.builtin "isinstance") [u,c]) Q E s:=by
 cases ty with
 | UO=>cases (show u=Vk from rx);exact Xb PySem.W.kitx_none I.U9 Ws e (fun z=>nomatch z) h
 | bl y=>cases (show u=W1 y from rx);exact Xb PySem.W.kitx_bool I.U9 Ws e (fun z=>nomatch z) h
 | int i=>obtain⟨t,q⟩:=(show ∃ t,u=XJ i t from rx);cases q;exact Xb PySem.W.kitx_int I.U9 Ws e (fun z=>nomatch z) h
 | str y=>obtain⟨t,q⟩:=(show ∃ t,u=ZJ y t from rx);cases q;exact Xb PySem.W.kitx_str I.U9 Ws e (fun z=>nomatch z) h
 | Yf y=>obtain⟨t,q⟩:=(show ∃ t,u=QcK y t from rx);cases q;exact Xb PySem.W.kitx_float I.U9 Ws e (fun z=>nomatch z) h
 | @lst a xs ea=>
  cases (show u=UQ a from rx)
  obtain⟨_,_,n,_,h1⟩:=(show cS X.prog X.w H s.heap a (.lst xs) from I.UJ a _ ea)
  exact Xb Qe4 I.U9 ⟨_,h1,O⟩ e (fun z=>nomatch z) h
 | @UT a ob xs ea=>
  cases (show u=UQ a from rx)
  obtain⟨_,_,_,n,_,h1⟩:=(show cS X.prog X.w H s.heap a (.UT ob (.lst xs)) from I.UJ a _ ea)
  exact Xb Qe4 I.U9 ⟨_,h1,O⟩ e (fun z=>nomatch z) h
 | @tup a xs ea=>
  cases (show u=UQ a from rx)
  obtain⟨_,_,_,p⟩:=(show cS X.prog X.w H s.heap a (.tup xs) from I.UJ a _ ea)
  obtain⟨o,h1,h2,_⟩:=p
  exact Xb PySem.W.kitx_tuple I.U9 ⟨o,h1,h2⟩ e (fun z=>nomatch z) h
 | @dK a kvs ea=>
  cases (show u=UQ a from rx)
  obtain⟨_,_,vs,_,p⟩:=(show cS X.prog X.w H s.heap a (.dK kvs) from I.UJ a _ ea)
  obtain⟨o,es,ep,h1,h2,_⟩:=p
  exact Xb Qe5 I.U9 ⟨o,h1,h2.1⟩ e (fun z=>nomatch z) h
 | @dT a kvs ea=>
  cases (show u=UQ a from rx)
  obtain⟨_,_,xs,_,o,es,ep,h1,h2,_⟩:=(show cS X.prog X.w H s.heap a (.dT kvs) from I.UJ a _ ea)
  exact Xb Qe5 I.U9 ⟨o,h1,h2.1⟩ e (fun z=>nomatch z) h
 | @ins a C dx fs ea cl ha hn htk hm=>
  cases (show u=UQ a from rx)
  obtain⟨mA,U0,_⟩:=tP I.UJ ea
  obtain⟨od,J,_⟩:=U0.look
  exact Xb (PySem.W.kitx_own (cl.get _) cl.hd ha hn htk hm) I.U9 J e (fun z=>nomatch z) h
end
structure bw (k:Nat) (A:VQ):Prop where
 dp:A.depth + 3 * k + 5<Qgj
 un:A.units + 16 * k + 200<Vt
theorem bw.mono {j k:Nat} (r:bw k A) (h:j≤k):bw j A:=⟨by have:=r.dp;lia,by have:=r.un;lia⟩
theorem bw.deeper {k:Nat}{A:VQ} (r:bw (k + 1) A) (env:VZ):bw k (A.deeper env):=
 ⟨by have:=r.dp;show A.depth + 1 + 3 * k + 5<_;lia,by have:=r.un;show A.units + 3 + 16 * k + 200<_;lia⟩
theorem Qg:(A.under (.builtin "type.__call__" ⟨.ref C::us,kw⟩)).depth=A.depth + 1:=by
 first|rfl|simp[QcF,Code.weight,Code.isCreation,Code.isGuard,Code.isCaller,Qf8,QcJ,guardIds]
theorem LH:(A.under (.builtin "type.__call__" ⟨.ref C::us,kw⟩)).units=A.units + 1:=by
 first|rfl|simp[QcF,Code.cUnits,Qf8,QcJ]
theorem bw.make {k:Nat} (r:bw (k + 1) A) (C:F') (us:List L') (kw:List (C'×L')):bw k (A.under (.builtin "type.__call__" ⟨.ref C::us,kw⟩)):=
 ⟨by have:=r.dp;rw[Qg];lia,by have:=r.un;rw[LH];lia⟩
theorem bw.depth {k:Nat}{A:VQ} (r:bw k A):A.depth<Qgj:=by have:=r.dp;lia
theorem bw.units {k:Nat}{A:VQ} (r:bw k A):A.units + 64<Vt:=by have:=r.un;lia
def lV:TA:=fun _ H Q=>Q [] H
def Qde (ta:TE) (tr:TA):TA:=fun σ H Q=>ta σ H fun x H1=>tr σ H1 fun xs H2=>Q (x::xs) H2
section
variable {t:TA}
theorem ai:PA X [] lV:=fun _ _ _ _ H Q I h=>Zx ⟨[],H,I,.nil,h⟩
theorem af (ha:PE X e te) (hr:PA X es t) (hs:UU (e::es) X.env=(K',UV e X.env)::UU es X.env:=by rfl):PA X (e::es) (Qde te t):=by
 intro pos aa s σ H Q I h
 rw[hs]
 show M' _ _ (spliced ((K',UV e X.env)::Vq pos (UU es X.env))) _ _ s
 refine YW (UP (ha aa s σ H _ I h) fun u s1=>L2.U1 fun x H1 I1 r1 q1=>?_)
 exact UP (hr pos aa s1 σ H1 _ I1 q1) fun us s2 ⟨xs,H2,I2,r2,q2⟩=>⟨x::xs,H2,I2,.cons r1 r2,q2⟩
def Qdf (t:TA):TE:=fun σ H Q=>t σ H fun xs H1=>xs.length≤S'∧∀ p,H1 p=i'→Q (.ref p) (upd H1 p (.tup xs))
def QbC (t:TA):TE:=fun σ H Q=>t σ H fun xs H1=>xs.length≤S'∧∀ p,H1 p=i'→Q (.ref p) (upd H1 p (.lst xs))
theorem gk {x1} (h:PA X es t):PE X (.Tuple es x1 pos) (Qdf t):=by
 intro aa s σ H Q I hq
 refine wpAny_Tuple_spliced (UP (h pos aa s σ H _ I hq) fun us s1 ⟨xs,H1,I1,r,z,q⟩=>⟨by rw[← r.length];exact z,?_⟩)
 have hf:H1 s1.heap.objs.size=i':=I1.UJ.fresh (Q7 _)
 refine⟨.ref s1.heap.objs.size,upd H1 s1.heap.objs.size (.tup xs),I1.laid (t':=s1.toks) (fun b u e=>Q4 _ e) (Q7 _) ?_,O,q _ hf⟩
 exact⟨z,us,r,⟨_,Ra _ O,O,_,O⟩⟩
theorem bY (h:PA X es t):PE X (.List es pos) (QbC t):=by
 intro aa s σ H Q I hq
 refine wpAny_List_spliced (UP (h pos aa s σ H _ I hq) fun us s1 ⟨xs,H1,I1,r,z,q⟩=>⟨by rw[← r.length];exact z,?_⟩)
 have hf:H1 s1.heap.objs.size=i':=I1.UJ.fresh (Q7 _)
 refine⟨.ref s1.heap.objs.size,upd H1 s1.heap.objs.size (.lst xs),I1.laid (t':=s1.toks) (fun b u e=>Q4 _ e) (Q7 _) ?_,O,q _ hf⟩
 exact⟨z,us,0,r,Ra _ O⟩
end
abbrev Sp:=List V→Hp→VK→XK→Prop
abbrev W7:=List VZ→Hp→UG→XK→L'→UG→Prop
structure nQ (P:Vz) (w:Vw) (K:R') (mg:C'→Option L') (base:U6) (A:VQ) (outer:List VZ) (s:UG) (H:Hp):Prop where
 frames:A.frames=f' outer
 mod:Mod K mg base
 bs:∀ b o,base.get? b=f' o→s.heap.get? b=f' o∧H b=i'
 Xg:base.objs.size≤s.heap.objs.size
 WA:s.heap.FunFrames base outer
 Xt:∀ b∈VA outer,H b=i'
 UJ:Vu P w H s.heap
 bare:XO s.gens
 hd:jF A H
def CE (outer:List VZ) (P:Vz) (w:Vw) (H:Hp) (s:UG) (Q:VK) (u:L') (s':UG):Prop:=
 ∃ v H',s'.os=s.os∧XO s'.gens∧Un (VA outer) [] H H' s.heap s'.heap∧Vu P w H' s'.heap∧aD v u∧Q v H'
def CR (CX:W7) (outer:List VZ) (P:Vz) (w:Vw) (H:Hp) (s:UG) (Q:VK) (E:XK) (r:Result) (s':UG):Prop:=
 match r with
 | .ok (.ret u)=>CE outer P w H s Q u s'
 | .ok _=>False
 | .error e=>CX outer H s E e s'
variable {CX:W7}{E:XK}{Q:VK}{base:U6}{f:F'}{fd:WO}{mg:C'→Option L'}{outer:List VZ}{ps:List C'}{qual x:C'}{scope:WR}{sp:Sp}{t:TA}{vs:List V}
structure cE (P:Vz) (w:Vw) (K:R') (mg:C'→Option L') (base:U6) (CX:W7) (k:Nat) (f:F') (fd:WO) (ps:List C') (sp:Sp):Prop where
 len:∀ vs H Q E,sp vs H Q E→vs.length=ps.length
 run:∀ (A:VQ) (outer:List VZ) (s:UG) (H:Hp) (args:Args) (us:List L') (vs:List V) (Q:VK) (E:XK),bw k A→nQ P w K mg base A outer s H→Y9 s fd args (ps.zip us)→aB vs us→sp vs H Q E →
  Wj (UD P w) A (.call (.ref f) args) (CR CX outer P w H s Q E) s
theorem nQ.make {K:R'} (e:nQ P w K mg base A outer s H) (C:F') (us:List L') (kw:List (C'×L')) :
  nQ P w K mg base (A.under (.builtin "type.__call__" ⟨.ref C::us,kw⟩)) outer s H:=⟨by first|exact e.frames|(simpa [QcF,Code.envs,QcJ,pushEnvs] using e.frames),e.mod,e.bs,e.Xg,e.WA,e.Xt,e.UJ,e.bare,e.hd⟩
theorem Inv.Zf (I:Inv X aa σ H s):nQ X.prog X.w X.K X.mg X.base X.A X.stack s H:=
 ⟨I.ok.frames,I.ok.mod,I.bs,RT I.ok.Xg I.sz,I.stack,I.Qau,I.UJ,I.bare,I.XW⟩
theorem Inv.after  (I:Inv X aa σ H s) (h:CE X.stack X.prog X.w H s Q u s'):EP X aa σ Q u s':=by
 obtain⟨v,H',os,bare,un,UJ,r,q⟩:=h
 obtain⟨hh,g,d,t,tI⟩:=s'
 obtain rfl:tI=s.os:=os
 exact⟨v,H',I.call (h':=hh) (g':=g) (d':=d) (t':=t) (ch:=[]) un UJ bare (fun b z=>UR z (by simp)),r,q⟩
def Qdg (sp:Sp) (aI:List V) (E:XK) (t:TA):TE:=fun σ H Q=>t σ H fun vs H1=>sp (vs++aI) H1 Q E
def uP (C:F') (m:C') (sp:Sp) (aI:List V) (E:XK) (ta:TE) (t:TA):TE:=fun σ H Q=>ta σ H fun x H1=>∃ a dx fs,x=.ref a∧H1 a=f' (.ins C dx fs)∧fs.lookup m=i' ∧
 t σ H1 fun vs H2=>sp (x::(vs++aI)) H2 Q E
def uE (C:F') (sp:Sp) (aI:List V) (E:XK) (t:TA):TE:=fun σ H Q=>t σ H fun vs H1=>∀ x dx,H1 x=i'→H1 dx=i'→dx≠x →
 sp (.ref x::(vs++aI)) (upd (upd H1 dx (.own x)) x (.ins C dx [])) (fun v H2=>v=.UO∧Q (.ref x) H2) E
def dR (K:R') (fd:WO) (ps:List C') (ds:List L'):Prop:=
 ∀ (s:UG) (us:List L'),K.In s.heap→(us++ds).length=ps.length→Y9 s fd ⟨us,[]⟩ (ps.zip (us++ds))
theorem dR.all {K:R'} (h:∀ us:List L',us.length=ps.length→Qaq fd ⟨us,[]⟩=pure (ps.zip us)):dR K fd ps []:=fun s us _ hl=>by
 rw[Sx] at hl ⊢
 exact .of_eq (h us hl)
def lf (CX:W7) (X:Cx) (E:XK):Prop:=∀ (aa:List (F'×UZ)) (σ:St) (H:Hp) (s:UG) (e:L') (s':UG),Inv X aa σ H s→CX X.stack H s E e s'→X.xe e s'
section
variable {k:Nat}{aI:List V}{ds:List L'}{p aJ:Vx}{o:UY}
theorem x8  (F:cE X.prog X.w X.K X.mg X.base CX k f fd ps sp) (hr:bw k X.A) (hb:dR X.K fd ps ds) (hd:aB aI ds) (hx:lf CX X E)
  (I:Inv X aa σ H s) (r:aB vs us) (h:sp (vs++aI) H Q E):M' (UD X.prog X.w) X.A (call (.ref f) us) (EP X aa σ Q) X.xe s:=by
 have r2:aB (vs++aI) (us++ds):=r.append hd
 have hl:(us++ds).length=ps.length:=by rw[← r2.length];exact F.len _ _ _ _ h
 refine Sl (Yv (F.run X.A X.stack s H ⟨us,[]⟩ (us++ds) (vs++aI) Q E hr I.Zf (hb s us I.U9 hl) r2 h) fun r s' hq=>?_)
 cases r with
 | error e=>exact hx aa σ H s e s' I hq
 | ok fl=>
  cases fl with
  | ret u=>exact I.after hq
  | next=>exact VL hq
  | brk=>exact VL hq
  | cont=>exact VL hq
theorem Md (F:cE X.prog X.w X.K X.mg X.base CX k f fd ps sp) (hr:bw k X.A) (hg:Gl X x) (hm:X.mg x=f' (.ref f)) (hk:WZ X.K (.ref f)=B') (hb:dR X.K fd ps ds) (hd:aB aI ds) (hx:lf CX X E)
  (ha:PA X (e::es) t) (Vi:(x == ("__debug__":C'))=K':=by decide) (he:UU (e::es) X.env=(K',UV e X.env)::UU es X.env:=by rfl) (bJ:(Vq pos (UU es X.env)).any (·.1)=K':=by rfl) :
  PE X (.Call (.Name x p) (e::es) [] pos) (Qdg sp aI E t):=by
 intro aa s σ H Q I h
 refine RQ (lC I hg hm ?_ Vi)
 refine Yq (h₀:=X.base) I.ok.mod.W6 hk (UP (ha pos aa s σ H _ I h) fun us s1=>L2.U1 fun vs H1 I1 r q=>⟨I1.U9,?_⟩) he bJ
 exact x8 F hr hb hd hx I1 r q
theorem LV  (he:PE X o ta) (c:V8 X.K C) (hm:ZX X.K C m f) (F:cE X.prog X.w X.K X.mg X.base CX k f fd ps sp) (hr:bw k X.A) (hb:dR X.K fd ps ds) (hd:aB aI ds) (hx:lf CX X E) (ha:PA X (e::es) t)
  (dU:UU (e::es) X.env=(K',UV e X.env)::UU es X.env:=by rfl) (bJ:(Vq pos (UU es X.env)).any (·.1)=K':=by rfl)
  (ht:UV (.Call (.Attribute o m aJ) (e::es) [] pos) X.env=(do
   let ov ← UV o X.env
   Yz aJ.atName
   let (f,first) ← Xp [ov] (Y7 ov m pl)
   Qap pos f first (Vq pos (UU (e::es) X.env)) (Xf pos (Xd [] X.env))):=by rfl) :
  PE X (.Call (.Attribute o m aJ) (e::es) [] pos) (uP C m sp aI E ta t):=by
 intro aa s σ H Q I h
 refine Qci (pl:=pl) (UP (he aa s σ H _ I h) fun u s1=>L2.U1 fun x H1 I1 rx aX=>?_) ht
 obtain⟨a,dx,fs,ex,ea,l,q⟩:=aX
 subst ex
 obtain rfl:u=UQ a:=rx
 refine zN I1 ea c hm l ?_
 refine Yq (first:=[.ref a]) (h₀:=X.base) I.ok.mod.W6 hm.kp (UP (ha pos aa s1 σ H1 _ I1 q) fun us s2=>L2.U1 fun vs H2 I2 r q2=>⟨I2.U9,?_⟩) dU bJ
 exact x8 (us:=.ref a::us) (vs:=.ref a::vs) F hr hb hd hx I2 (.cons O r) q2
theorem Mw  (he:PE X o ta) (c:V8 X.K C) (hm:ZX X.K C m f) (F:cE X.prog X.w X.K X.mg X.base CX k f fd ps sp) (hr:bw k X.A) (hb:dR X.K fd ps ds) (hd:aB aI ds) (hx:lf CX X E)
  (ht:UV (.Call (.Attribute o m aJ) [] [] pos) X.env=(do
   let ov ← UV o X.env
   Yz aJ.atName
   let (f,first) ← Xp [ov] (Y7 ov m pl)
   Qap pos f first (Vq pos (UU [] X.env)) (Xf pos (Xd [] X.env))):=by rfl) :
  PE X (.Call (.Attribute o m aJ) [] [] pos) (uP C m sp aI E ta lV):=by
 intro aa s σ H Q I h
 refine Qci (pl:=pl) (UP (he aa s σ H _ I h) fun u s1=>L2.U1 fun x H1 I1 rx aX=>?_) ht
 obtain⟨a,dx,fs,ex,ea,l,q⟩:=aX
 subst ex
 obtain rfl:u=UQ a:=rx
 refine zN I1 ea c hm l ?_
 exact Qcl (first:=[.ref a]) I1.U9 hm.kp (x8 (us:=[.ref a]) (vs:=[.ref a]) F hr hb hd hx I1 (.cons O .nil) q)
structure Mk (K:R') (C f:F'):Prop where
 makes:Qcu K C=B'
 init:VT K (.ref C) "__init__"=f' (f' (.ref f))
 fn:Yu K (.ref f)=B'
 kp:WZ K (.ref C)=B'
theorem Cg  (M:Mk X.K C f) (F:cE X.prog X.w X.K X.mg X.base CX k f fd ps sp) (hr:bw (k + 1) X.A) (hb:dR X.K fd ps ds) (hd:aB aI ds)
  (hx:lf CX X E) (I:Inv X aa σ H s) (r:aB vs us)
  (h:∀ x dx,H x=i'→H dx=i'→dx≠x→sp (.ref x::(vs++aI)) (upd (upd H dx (.own x)) x (.ins C dx [])) (fun v H2=>v=.UO∧Q (.ref x) H2) E) :
  M' (UD X.prog X.w) X.A (call (.ref C) us) (EP X aa σ Q) X.xe s:=by
 have hq:=h (s.heap.objs.size + 1) s.heap.objs.size (I.UJ.fresh (RJ _)) (I.UJ.fresh (Q7 _)) (Rb (Sb _))
 have I2:=Inv.made (C:=C) I
 have r2:aB (V.ref (s.heap.objs.size + 1)::(vs++aI)) (UQ (s.heap.objs.size + 1)::(us++ds)):=.cons O (r.append hd)
 have hl:(UQ (s.heap.objs.size + 1)::us++ds).length=ps.length:=by
  have e:=r2.length
  rw[F.len _ _ _ _ hq] at e
  exact e.symm
 refine Sl (Qu (f:=f) I.U9 M.makes M.init (Wg.mp M.fn) (Yv (F.run _ X.stack _ _ ⟨UQ (s.heap.objs.size + 1)::us,[]⟩ (UQ (s.heap.objs.size + 1)::(us++ds)) _ _ E (hr.make C us [])
  (I2.Zf.make C us []) (hb _ (UQ (s.heap.objs.size + 1)::us) I2.U9 hl) r2 hq) fun r s' cO=>?_))
 cases r with
 | error e=>exact hx aa σ _ _ e s' I2 cO
 | ok fl=>
  cases fl with
  | ret u=>
   obtain⟨v,H',I3,rv,ev,q3⟩:=I2.after cO
   subst ev
   exact⟨rv,⟨V.ref (s.heap.objs.size + 1),H',I3,O,q3⟩⟩
  | next=>exact VL cO
  | brk=>exact VL cO
  | cont=>exact VL cO
theorem KF (M:Mk X.K C f) (F:cE X.prog X.w X.K X.mg X.base CX k f fd ps sp) (hr:bw (k + 1) X.A) (hg:Gl X x) (hm:X.mg x=f' (.ref C)) (hb:dR X.K fd ps ds) (hd:aB aI ds) (hx:lf CX X E)
  (ha:PA X (e::es) t) (Vi:(x == ("__debug__":C'))=K':=by decide) (he:UU (e::es) X.env=(K',UV e X.env)::UU es X.env:=by rfl) (bJ:(Vq pos (UU es X.env)).any (·.1)=K':=by rfl) :
  PE X (.Call (.Name x p) (e::es) [] pos) (uE C sp aI E t):=by
 intro aa s σ H Q I h
 refine RQ (lC I hg hm ?_ Vi)
 refine Yq (h₀:=X.base) I.ok.mod.W6 M.kp (UP (ha pos aa s σ H _ I h) fun us s1=>L2.U1 fun vs H1 I1 r q=>⟨I1.U9,?_⟩) he bJ
 exact Cg M F hr hb hd hx I1 r q
theorem P9 (M:Mk X.K C f) (F:cE X.prog X.w X.K X.mg X.base CX k f fd ps sp) (hr:bw (k + 1) X.A) (hg:Gl X x) (hm:X.mg x=f' (.ref C)) (hb:dR X.K fd ps ds) (hd:aB aI ds) (hx:lf CX X E)
  (Vi:(x == ("__debug__":C'))=K':=by decide):PE X (.Call (.Name x p) [] [] pos) (uE C sp aI E lV):=by
 intro aa s σ H Q I h
 refine RQ (lC I hg hm ?_ Vi)
 exact Qcl I.U9 M.kp (Cg (us:=[]) M F hr hb hd hx I .nil h)
end
section
variable {k:Nat}{ks:List C'}{p aJ jx:Vx}{o:UY}{Qx:List Yb}{tk:TA}{nm:Option C'}
structure KBinds (K:R') (fd:WO) (ps ks:List C') (g:List L'→List L'→List L') (gV:List V→List V→List V):Prop where
 to:∀ (s:UG) (us ws:List L'),K.In s.heap→(g us ws).length=ps.length→Y9 s fd ⟨us,ks.zip ws⟩ (ps.zip (g us ws))
 rel:∀ {vs:List V}{us:List L'}{zs:List V}{ws:List L'},aB vs us→aB zs ws→aB (gV vs zs) (g us ws)
variable {g:List L'→List L'→List L'}{gV:List V→List V→List V}
end
structure aL (N P:List C') (sc:WR):Prop where
 kind:sc.kind=.function
 co:sc.isCoroutine=K'
 gen:sc.isGenerator=K'
 nd:N.Nodup
 pre:N.take P.length=P
 par:∀ x∈P,sc.names.lookup x=f' .local∨sc.names.lookup x=f' .cell
 Qg5:∀ y∈sc.names,y.2≠.free
theorem Df {kindOf:C'→Option W3}{x:C'}:∀ {fE:List (C'×L')}{m:C'→Option L'},(∀ v,(x,v)∉fE)→YB kindOf fE m x=m x
 | [],_,_=>rfl
 | (n,v)::r,m,h=>by
  unfold YB
  rw[Df fun w hw=>h w (Rc _ hw)]
  split
  .have:x≠n:=by rintro rfl;exact h v Rr
   simp[this]
  .rfl
theorem E8 {kindOf:C'→Option W3}{x:C'}:∀ {fE:List (C'×L')}{m:C'→Option L'},(∀ v,(x,v)∉fE)→YC kindOf fE m x=m x
 | [],_,_=>rfl
 | (n,v)::r,m,h=>by
  unfold YC
  rw[E8 fun w hw=>h w (Rc _ hw)]
  split
  .rfl
  .have:x≠n:=by rintro rfl;exact h v Rr
   simp[this]
theorem E2 {kindOf:C'→Option W3}{x:C'}{v:L'}:∀ {P:List C'}{vs:List L'}{i:Nat}{m:C'→Option L'},P.Nodup→P[i]?=f' x→vs[i]?=f' v→kindOf x=f' .local →
  YB kindOf (P.zip vs) m x=f' v
 | [],_,_,_,_,h,_,_=>by simp at h
 | _::_,[],_,_,_,_,h,_=>by simp at h
 | p::P,w::vs,0,m,nd,h1,h2,hk=>by
  simp at h1 h2;subst h1;subst h2
  show YB kindOf ((p,w)::P.zip vs) m p=_
  unfold YB
  rw[Df fun v hv=>(XD.mp nd).1 (T8 hv).1,UH hk]
  simp
 | p::P,w::vs,i + 1,m,nd,h1,h2,hk=>by
  show YB kindOf ((p,w)::P.zip vs) m x=_
  unfold YB
  exact E2 (i:=i) (XD.mp nd).2 (by simpa using h1) (by simpa using h2) hk
theorem CT {kindOf:C'→Option W3}{x:C'}{v:L'}:∀ {P:List C'}{vs:List L'}{i:Nat}{m:C'→Option L'},P.Nodup→P[i]?=f' x→vs[i]?=f' v→kindOf x≠f' .local →
  YC kindOf (P.zip vs) m x=f' v
 | [],_,_,_,_,h,_,_=>by simp at h
 | _::_,[],_,_,_,_,h,_=>by simp at h
 | p::P,w::vs,0,m,nd,h1,h2,hk=>by
  simp at h1 h2;subst h1;subst h2
  show YC kindOf ((p,w)::P.zip vs) m p=_
  unfold YC
  rw[E8 fun v hv=>(XD.mp nd).1 (T8 hv).1,UF hk]
  simp
 | p::P,w::vs,i + 1,m,nd,h1,h2,hk=>by
  show YC kindOf ((p,w)::P.zip vs) m x=_
  unfold YC
  exact CT (i:=i) (XD.mp nd).2 (by simpa using h1) (by simpa using h2) hk
def start (N:List C') (vs:List V):St:=vs.map f'++UX (N.length - vs.length) i'
def kg (CX:W7) (P:Vz) (w:Vw) (K:R') (mg:C'→Option L') (base:U6) (N:List C') (qual:C') (scope:WR) (f:F') (cd:L') (A:VQ) (outer:List VZ) (s:UG) (H:Hp) (E:XK):Cx where
 prog:=P
 w:=w
 K:=K
 mg:=mg
 base:=base
 A:=A.deeper (XR qual scope s.heap.objs.size f cd)
 N:=N
 s₀:=s
 H₀:=H
 env:=XR qual scope s.heap.objs.size f cd
 outer:=outer
 stack:=XR qual scope s.heap.objs.size f cd::outer
 ex:=[]
 calm:=B'
 fn:=fun _=>B'
 pn:=[]
 xe:=fun e s'=>M' (UD P w) (A.deeper (XR qual scope s.heap.objs.size f cd)) (leaving (XR qual scope s.heap.objs.size f cd) e) (fun _ xh=>CX outer H s E e xh) (fun e' xh=>CX outer H s E e' xh) s'
theorem CD {sc:WR} (h:sc.names.lookup x=f' .cell):∃ c,(QcY n sc.names []).lookup x=f' c:=by
 have q:=QeH sc.names n [] (.inl h)
 exact Xj.mp q
theorem LW {K:R'}{cd:L'}{s1:UG}
  (S:aL N ps scope) (e0:nQ P w K mg base A outer s H) (hl:vs.length=ps.length) (r:aB vs us)
  (x:InCallC s s.heap.objs.size (YB (XR qual scope s.heap.objs.size f cd).kindOf (ps.zip us) fun _=>i') (QcY (s.heap.objs.size + 1) scope.names []) (YC (XR qual scope s.heap.objs.size f cd).kindOf (ps.zip us) fun _=>i') s1) :
  Inv (kg CX P w K mg base N qual scope f cd A outer s H E) [] (start N vs) H s1:=by
 have bJ:ps.length≤N.length:=by have:=Wv List.length S.pre;rw[Rm] at this;lia
 obtain⟨h1,tk,rfl,hk⟩:=x.done
 have xx:∀ b:F',b∉(kg CX P w K mg base N qual scope f cd A outer s H E).ex:=fun b z=>UR (show b∈([]:List F') from z) (by simp)
 refine⟨⟨e0.mod,S.kind,O,O,Q7 _,fun y z c h1 h2=>?_,fun y hy=>?_,fun y c _ h=>?_,e0.hd,VQ.frames_deeper e0.frames,.inr ⟨O,O⟩,fun b z=>UR z (xx b),e0.bs,e0.Xg,fun b _ _=>xx b,fun b z=>UR z (xx b),e0.WA,e0.Xt⟩,
  rfl,e0.bare,Un.kept hk,⟨_,x.toInCall.ns,fun i y v h1 h2 h3=>?_⟩,fun y c h=>⟨_,x.cell y c h⟩,e0.UJ.fresh (Q7 _),fun y c h=>?_,fun p hp=>UR (show p∈([]:List (F'×UZ)) from hp) (by simp),e0.UJ.kept hk,?_⟩
 .exact name_of_addr x.apart (Zs h1) (Zs h2)
 .have hy:scope.names.lookup y=f' .cell∨scope.names.lookup y=f' .free:=hy
  rcases hy with hy|hy
  .exact CD hy
  .exact UR O (S.Qg5 _ (Zs hy))
 .exact R9 (x.above y c (Zs h))
 .have hi:i<vs.length:=by
   unfold start at h2
   by_cases hi:i<vs.length
   .exact hi
   .rw[TK (by simpa using hi)] at h2
    rw[T6] at h2
    split at h2 <;> cases h2
  have ha:vs[i]?=f' v:=by
   unfold start at h2
   rw[TR (by simpa using hi),Rx] at h2
   cases e:vs[i]? with
   | none=>rw[e] at h2;cases h2
   | some a=>rw[e] at h2;cases h2;rfl
  obtain⟨u,hu,rv⟩:=r.get ha
  have hp:ps[i]?=f' y:=by
   rw[← S.pre,List.getElem?_take_of_lt (by lia)];exact h1
  have BN:ps.Nodup:=by rw[← S.pre];exact S.nd.sublist (List.take_sublist _ _)
  refine⟨u,rv,?_⟩
  rcases S.par y (Rp hp) with k|k
  .exact .inl ⟨k,E2 BN hp hu k⟩
  .obtain⟨c,e⟩:=CD (n:=s.heap.objs.size + 1) k
   refine .inr ⟨.inl k,c,e,?_⟩
   have q:=x.cell y c e
   rw[CT BN hp hu (by show scope.names.lookup y≠_;rw[k];decide)] at q
   exact q
 .exact e0.UJ.fresh (R9 (x.above y c (Zs h)))
 .unfold start
  show _=N.length
  rw[Ro,Q3,RZ]
  lia
theorem Qdh {K:R'}{k:Nat}{params:QcZ}{dV kV ce pm ay ct oc:L'}{an od:Option F'}
  {eS:Array (Option L')} (lk:K.lookup f=f' ⟨oc,od,.func (X8 name qual params body scope dV kV ce pm an ay ct),eS⟩) (g8:XE K ay qual=B') (S:aL N ps scope)
  (len:∀ vs H Q E,sp vs H Q E→vs.length=ps.length)
  (fO:∀ (A:VQ) (outer:List VZ) (s:UG) (H:Hp) (vs:List V) (Q:VK) (E:XK),bw k (A.deeper (XR qual scope s.heap.objs.size f ay))→sp vs H Q E →
   ∃ t,VR (kg CX P w K mg base N qual scope f ay A outer s H E) body t∧t { nx:=fun _ H'=>Q .UO H',rt:=Q } (start N vs) H) :
  cE P w K mg base CX (k + 1) f (X8 name qual params body scope dV kV ce pm an ay ct) ps sp:=by
 refine⟨len,fun A outer s H args us vs Q E hr e0 hb r jV=>?_⟩
 have hl:=len _ _ _ _ jV
 have KX:K.In s.heap:=e0.mod.W6.keeps fun b o e=>(e0.bs b o e).1
 have lim:s.heap.NoLimit:=e0.mod.nolimit.keeps fun b o e=>(e0.bs b o e).1
 have cC:∀ y∈ps.zip us,scope.names.lookup y.1=f' .local∨(scope.names.lookup y.1=f' .cell∧((QcY (s.heap.objs.size + 1) scope.names []).lookup y.1).isSome=B'):=fun⟨n,v⟩ hy=>by
  rcases S.par n (T8 hy).1 with q|q
  .exact .inl q
  .exact .inr ⟨q,QeH _ _ _ (.inl q)⟩
 refine codeAny_call_function hr.depth (KX _ _ lk) O S.co S.gen O (PySem.W.codeRec_of KX g8) (hb _ _ _ _ ?_)
 refine wpAny_newFunctionEnv_cells S.kind cC fun env he s1 x=>?_
 subst he
 refine⟨lim.keeps x.toInCall.keep,codeAny_func ?_⟩
 obtain⟨t,ht,hq⟩:=fO A outer s H vs Q E (hr.deeper _) jV
 have I:Inv (kg CX P w K mg base N qual scope f ay A outer s H E) [] (start N vs) H s1:=LW S e0 hl r x
 refine RP (ht [] s1 (start N vs) H _ I hq) (fun fl s' hs=>?_) fun e s' hs=>hs
 have aT:∀ {σ':St}{H':Hp}{v:V}{u:L'},Inv (kg CX P w K mg base N qual scope f ay A outer s H E) [] σ' H' s'→aD v u→Q v H'→CE outer P w H s Q u s':=
  fun {σ' H' v u} J rv q=>⟨v,H',J.os,J.bare,J.base,J.UJ,rv,q⟩
 cases fl with
 | ret u=>
  obtain⟨v,σ',H',J,rv,q⟩:=hs
  exact aT J rv q
 | next=>
  obtain⟨σ',H',J,q⟩:=hs
  exact aT (v:=V.UO) (u:=Vk) J O q
 | brk=>
  obtain⟨_,_,_,q⟩:=hs
  exact VL q
 | cont=>
  obtain⟨_,_,_,q⟩:=hs
  exact VL q
section
variable {p:Vx}{id T:String}{r:List V→Hp→VK→Prop}
def tCB (r:List V→Hp→VK→Prop) (t:TA):TE:=fun σ H Q=>t σ H fun vs H1=>r vs H1 Q
theorem bj (hc:fU X (.builtin id) r) (hg:Gl X x) (hm:X.mg x=i') (hv:V6 x=f' (.builtin id)) (ha:PA X (e::es) t) (hn:x≠"__name__":=by decide) (Vi:(x == ("__debug__":C'))=K':=by decide)
  (he:UU (e::es) X.env=(K',UV e X.env)::UU es X.env:=by rfl) (bJ:(Vq pos (UU es X.env)).any (·.1)=K':=by rfl):PE X (.Call (.Name x p) (e::es) [] pos) (tCB r t):=by
 intro aa s σ H Q I h
 refine RQ (jM I hg hm hv ?_ hn Vi)
 exact Qoj (UP (ha pos aa s σ H _ I h) fun us s1=>L2.U1 fun vs H1 I1 r1 q1=>hc aa s1 σ H1 vs us Q I1 r1 q1) he bJ
theorem mh (hc:fU X (.type T) r) (hg:Gl X x) (hm:X.mg x=i') (hv:V6 x=f' (.type T)) (ha:PA X (e::es) t) (hn:x≠"__name__":=by decide) (Vi:(x == ("__debug__":C'))=K':=by decide)
  (he:UU (e::es) X.env=(K',UV e X.env)::UU es X.env:=by rfl) (bJ:(Vq pos (UU es X.env)).any (·.1)=K':=by rfl):PE X (.Call (.Name x p) (e::es) [] pos) (tCB r t):=by
 intro aa s σ H Q I h
 refine RQ (jM I hg hm hv ?_ hn Vi)
 exact Yo (UP (ha pos aa s σ H _ I h) fun us s1=>L2.U1 fun vs H1 I1 r1 q1=>hc aa s1 σ H1 vs us Q I1 r1 q1) he bJ
end
end L2
namespace HT
variable {sl:Addr}
open PySem PyProof.Rows
section
open PySem.SeqAt
open PySem.AutoSeq1 (wpAny_loadPart')
open PySem.MeetsSeq PySem.MeetsSeq2 PySem.MeetsSeq3
end
section
variable {prog:Vz}{w:Vw}{A:VQ}{E:L'→UG→Prop}{s:UG}
def U3 (n d:Nat):Option Int→Nat
 | none=>d
 | some v=>if v<0 then(v + (n:Int)).toNat else min v.toNat n
theorem znw (n d:Nat):U3 n d i'=d:=rfl
theorem ziA (n d k:Nat):U3 n d (f' (k:Int))=min k n:=by
 show(if (k:Int)<0 then((k:Int) + (n:Int)).toNat else min (k:Int).toNat n)=min k n
 rw[UF (by lia),Int.toNat_natCast]
theorem Qg6 (n d:Nat) (hd:d≤n) (o:Option Int):U3 n d o≤n:=by
 cases o with
 | none=>exact hd
 | some v=>
  show(if v<0 then(v + (n:Int)).toNat else min v.toNat n)≤n
  by_cases hv:v<0
  .rw[UH hv];lia
  .rw[UF hv];exact Nat.min_le_right _ _
theorem C3 (v:Int) (n d:Nat):(if v<0 then max (v + (n:Int)) 0 else min v (n:Int))=((U3 n d (f' v):Nat):Int):=by
 show(if v<0 then max (v + (n:Int)) 0 else min v (n:Int))=(((if v<0 then(v + (n:Int)).toNat else min v.toNat n):Nat):Int)
 by_cases hv:v<0
 .simp only[UH hv];lia
 .simp only[UF hv];lia
theorem Qc (lo hi:Option Int) (n:Nat):Qcc lo hi 1 (n:Int)=(((U3 n 0 lo:Nat):Int),((U3 n n hi:Nat):Int)):=by
 have h1:¬ ((1:Int)<0):=by lia
 unfold Qcc
 simp only[h1,VO]
 refine Prod.ext ?_ ?_
 .cases lo with
  | none=>rfl
  | some v=>exact C3 v n 0
 .cases hi with
  | none=>rfl
  | some v=>exact C3 v n n
theorem Lu (i j:Nat):QaP (i:Int) (j:Int) 1=j - i:=by
 unfold QaP
 have h1:(1:Int) > 0:=by lia
 simp only[h1,WE,Int.ediv_one]
 split <;> lia
theorem Cb {v:L'}{o:Option Int}{Q:Option Int→UG→Prop} (p:XQ v o) (h:Q o s):M' (UD prog w) A (QnV v) Q E s:=by
 cases p with
 | none=>exact Qgq h
 | int i t=>exact slicePart_int h
theorem Du {vl vu:L'}{lo hi:Option Int}{n:Nat}{Q:Int×Int×Nat→UG→Prop} (hs:s.heap.IsSliceOf sl vl vu .none) (pl:XQ vl lo) (pu:XQ vu hi)
  (h:Q (((U3 n 0 lo:Nat):Int),1,U3 n n hi - U3 n 0 lo) s):M' (UD prog w) A (Qer (.ref sl) (pure (n:Int))) Q E s:=by
 obtain⟨os,kC,cU,mq⟩:=id hs
 unfold Qer QnW
 refine Vv (Vv (QcS kC mq (x:=vl) O (Vv (QcS kC mq (x:=vu) O (Vv (QcS kC mq (x:=.none) O (V1 ?_)))))))
 refine Vv (Qgq ?_)
 show M' _ _ (if ((1:Int) == 0)=B' then _ else _) _ _ s
 rw[UF (by decide)]
 refine Vv (Cb pl (Vv (Cb pu (Vv (V1 ?_)))))
 show M' _ _ (match Qcc lo hi 1 (n:Int) with|(lo,hi)=>pure (lo,(1:Int),QaP lo hi 1)) _ _ s
 rw[Qc lo hi n]
 show M' _ _ (pure (((U3 n 0 lo:Nat):Int),(1:Int),QaP ((U3 n 0 lo:Nat):Int) ((U3 n n hi:Nat):Int) 1)) _ _ s
 rw[Lu]
 exact V1 h
theorem Mu (xs:Array L') (i k:Nat):((VH k).filterMap fun(m:Nat)=>xs[((i:Int) + (m:Int) * 1).toNat]?).toArray=((xs.toList.drop i).take k).toArray:=by
 have e:(fun(m:Nat)=>xs[((i:Int) + (m:Int) * 1).toNat]?)=fun m=>xs[i + m]?:=by
  funext m
  have:((i:Int) + (m:Int) * 1).toNat=i + m:=by lia
  rw[this]
 rw[e]
 have:=pick_run xs i k
 rw[List.filterMap_map] at this
 have e2:((fun x=>xs[x]?) ∘ fun x=>i + x)=fun m=>xs[i + m]?:=rfl
 rw[e2] at this
 rw[this]
theorem zel {t:F'}{items:Array L'}{vl vu:L'}{lo hi:Option Int}{Q:L'→UG→Prop} (ht:Zb s.heap t items) (hs:s.heap.IsSliceOf sl vl vu .none) (pl:XQ vl lo) (pu:XQ vu hi)
  (hw:¬ (U3 items.size 0 lo=0∧U3 items.size items.size hi=items.size))
  (h:Q (.ref s.heap.objs.size) { s with heap:=s.heap.push { cls:=.type "tuple",data:=.seq ((items.toList.drop (U3 items.size 0 lo)).take (U3 items.size items.size hi - U3 items.size 0 lo)).toArray } })
  (hsz:items.size≤S'):M' (UD prog w) A (Xq (.ref t) (.ref sl)) Q E s:=by
 have hU:sizeOk (.seq ((items.toList.drop (U3 items.size 0 lo)).take (U3 items.size items.size hi - U3 items.size 0 lo)).toArray):=by
  show((items.toList.drop (U3 items.size 0 lo)).take (U3 items.size items.size hi - U3 items.size 0 lo)).toArray.size≤S'
  rw[List.size_toArray,List.length_take,List.length_drop,Array.length_toList]
  lia
 have hj:U3 items.size items.size hi≤items.size:=Qg6 _ _ (Nat.le_refl _) hi
 obtain⟨os,kC,cU,mq⟩:=id hs
 have wG:s.TypeIs (.ref sl) "slice":=⟨os,kC,cU⟩
 unfold Xq
 try with_reducible refine wpAny_holding ?_
 first|refine Vv (V1 ?_)|skip
 refine Vv (QfO ht.typeIs (by decide) ?_)
 refine Vv (Qe7 (name:=UI "__getitem__") ht.typeIs YY
  (Qf1 YY ht.typeIs QfD ?_ (QfI _ _)))
 show M' _ _ (Qeq (.ref t) >>= _) _ _ s
 refine Vv (tupleItemsOf_ ht ?_)
 refine Vv (Qbm wG ?_)
 rw[UH (by decide)]
 refine Vv (Du hs pl pu ?_)
 have wx:¬ ((((U3 items.size 0 lo:Nat):Int) == 0 && (1:Int) == 1 && (U3 items.size items.size hi - U3 items.size 0 lo) == items.size)=B'):=by
  intro q
  rw[Qfl,Qfl] at q
  have q1:((U3 items.size 0 lo:Nat):Int)=0:=eq_of_beq q.1.1
  have q2:U3 items.size items.size hi - U3 items.size 0 lo=items.size:=eq_of_beq q.2
  exact hw ⟨by lia,by lia⟩
 show M' _ _ (if (((U3 items.size 0 lo:Nat):Int) == 0 && (1:Int) == 1 && (U3 items.size items.size hi - U3 items.size 0 lo) == items.size)=B' then _ else _) _ _ s
 rw[UF wx,Mu]
 first
  | exact Vv (m:=QaR _) (Qa8 (V1 ⟨_,O,V1 h⟩) hU)
  | exact Vv (m:=QaR _) (Qa8 (Vv (V1 (V1 ⟨_,O,V1 h⟩))) hU)
  | exact Vv (Vv (m:=QaR _) (Qa8 (V1 (V1 ⟨_,O,V1 h⟩)) hU))
  | exact Vv (Vv (m:=QaR _) (Qa8 (V1 ⟨_,O,V1 h⟩) hU))
end
end HT
namespace L2
variable {A:Around}{E Q:Value→Shared→Prop}{H H':Hp}{P prog:Program}{T id:String}{X:Cx}{a b p:Addr}{aa:List (Addr×Obj)}{ah its' more:List Value}{e value:Expr}{h':Heap}{i:Int}{i9:List (TE×TE)}{kvs:List (List Key×V)}{n t':Nat}{o:Option V}{pos:Pos}{s:Shared}{u v:Value}{w:World}{x y:V}{xs:List (List Key×Addr×Value)}{σ:St}
open PySem PySem.Spec PyProof.Rows
abbrev TO:=St→Hp→(Option Int→Hp→Prop)→Prop
def PO (X:Cx) (e:Option UY) (t:TO):Prop:=
 ∀ (aa:List (F'×UZ)) (s:UG) (σ:St) (H:Hp) (Q:Option Int→Hp→Prop),Inv X aa σ H s→t σ H Q →
  M' (UD X.prog X.w) X.A (evalPart e X.env) (fun u s'=>∃ o H',Inv X aa σ H' s'∧XQ u o∧Q o H') X.xe s
def Nx:TO:=fun _ H Q=>Q i' H
def Qg7 (t:TE):TO:=fun σ H Q=>t σ H fun x H1=>∃ i,x=.int i∧Q (f' i) H1
section
variable {te:TE}{lo hi:Option UY}{tl th:TO}{p2:Vx}
theorem zj:PO X i' Nx:=by
 intro aa s σ H Q I h
 rw[evalPart_none]
 exact Q5 ⟨i',H,I,.none,h⟩
theorem sj (h:PE X e te):PO X (f' e) (Qg7 te):=by
 intro aa s σ H Q I hw
 rw[evalPart_some]
 refine UP (h aa s σ H _ I hw) fun u s1=>L2.U1 fun x H1 I1 r1 q1=>?_
 obtain⟨i,rfl,q⟩:=q1
 obtain⟨t,rfl⟩:=r1
 exact⟨f' i,H1,I1,.int i t,q⟩
def SlR (X:Cx) (r:V→Option Int→Option Int→Hp→VK→Prop):Prop:=
 ∀ (aa:List (F'×UZ)) (s:UG) (σ:St) (H:Hp) (x:V) (v vl vu:L') (lo hi:Option Int) (sl:F') (Q:VK),Inv X aa σ H s→aD x v→s.heap.IsSliceOf sl vl vu .none→XQ vl lo→XQ vu hi→r x lo hi H Q →
  ∃ T id,Xn (.type T) "__getitem__"=pure (f' (.builtin id))∧s.TypeIs v T∧M' (UD X.prog X.w) X.A (Xq v (.ref sl)) (EP X aa σ Q) X.xe s
def tSl (r:V→Option Int→Option Int→Hp→VK→Prop) (te:TE) (tl th:TO):TE:=fun σ H Q=>te σ H fun x H1=>tl σ H1 fun l H2=>th σ H2 fun u H3=>r x l u H3 Q
theorem uD {r:V→Option Int→Option Int→Hp→VK→Prop} (hr:SlR X r) (he:PE X e te) (hl:PO X lo tl) (hu:PO X hi th):PE X (.Subscript e (.Slice lo hi i' p2) pos) (tSl r te tl th):=by
 intro aa s σ H Q I h
 refine QcX (UP (he aa s σ H _ I h) fun v s1=>L2.U1 fun x H1 I1 r1 q1=>?_)
 refine wpAny_Slice (UP (hl aa s1 σ H1 _ I1 q1) fun vl s2 ⟨l,H2,I2,pl,q2⟩=>UP (hu aa s2 σ H2 _ I2 q2) fun vu s3=>L2.U1 fun u H3 I3 pu q3=>?_)
 rw[evalPart_none]
 refine Q5 ?_
 have I4:Inv X aa σ H3 { s3 with heap:=s3.heap.push { cls:=.type "slice",data:=.fields #[vl,vu,.none] } }:=I3.kept (t':=s3.toks) fun b ob q=>Q4 _ q
 obtain⟨T,id,hT,ht,hg⟩:=hr aa { s3 with heap:=s3.heap.push { cls:=.type "slice",data:=.fields #[vl,vu,.none] } } σ H3 x v vl vu l u s3.heap.objs.size Q I4 r1 (QnK ..) pl pu q3
 show M' (UD X.prog X.w) X.A (QcN e (.Slice lo hi i' p2) v (.ref s3.heap.objs.size)) (EP X aa σ Q) X.xe { s3 with heap:=s3.heap.push { cls:=.type "slice",data:=.fields #[vl,vu,.none] } }
 exact tail_any (ops:=[.ref s3.heap.objs.size,v]) ht hT hg (by with_unfolding_all rfl)
def iM (xs:List V) (lo hi:Option Int):List V:=(xs.drop (HT.U3 xs.length 0 lo)).take (HT.U3 xs.length xs.length hi - HT.U3 xs.length 0 lo)
theorem Ds (xs:List V) (lo hi:Option Int):(iM xs lo hi).length≤xs.length:=by
 unfold iM
 rw[Rm,SE]
 lia
def Qg8 (K:R'):V→Option Int→Option Int→Hp→VK→Prop:=fun x lo hi H Q=>∃ a xs,x=.ref a∧UW K H a xs ∧
 ¬ (HT.U3 xs.length 0 lo=0∧HT.U3 xs.length xs.length hi=xs.length)∧∀ p,H p=i'→Q (.ref p) (upd H p (.tup (iM xs lo hi)))
theorem Qg9:SlR X (Qg8 X.K):=by
 intro aa s σ H x v vl vu lo hi sl Q I rx hs pl pu h
 obtain⟨a,xs,rfl,hx,hw,q⟩:=h
 cases rx
 obtain⟨ah,r,ht,hz⟩:=I.tuple hx
 have av:ah.toArray.size=xs.length:=by rw[Re];exact r.length.symm
 refine⟨"tuple",_,YY.lookup,ht.typeIs,?_⟩
 refine HT.zel ht hs pl pu (by rw[av];exact hw) ?_ (by rw[av];exact hz)
 rw[av]
 refine⟨.ref s.heap.objs.size,_,I.laid (t':=s.toks) (o:=.tup (iM xs lo hi)) (fun b ob q=>Q4 _ q) (Q7 _) ?_,O,q _ (I.UJ.fresh (Q7 _))⟩
 exact⟨RT (Ds xs lo hi) hz,_,(r.drop (HT.U3 xs.length 0 lo)).take (HT.U3 xs.length xs.length hi - HT.U3 xs.length 0 lo),Zb.new _ _⟩
end
def Xu (n:Nat) (i:Int):Option Nat:=if 0≤i then(if i<n then f' i.toNat else i') else if -(n:Int)≤i then f' (i + n).toNat else i'
def VB {α:Type} (xs:List α) (i:Int):Option α:=(Xu xs.length i).bind fun j=>xs[j]?
theorem DA {j:Nat} (h:Xu n i=f' j):Qal i n=f' j∧j<n∧-(n:Int)≤i∧i<n:=by
 unfold Xu at h
 by_cases h0:0≤i
 .rw[UH h0] at h
  by_cases h1:i<n
  .rw[UH h1] at h
   have e:i.toNat=j:=VE h
   exact⟨by rw[QcT h0 h1,e],by lia,by lia,h1⟩
  .rw[UF h1] at h;cases h
 .rw[UF h0] at h
  by_cases h1:-(n:Int)≤i
  .rw[UH h1] at h
   have e:(i + n).toNat=j:=VE h
   exact⟨by rw[QcO (by lia) h1,e],by lia,h1,by lia⟩
  .rw[UF h1] at h;cases h
theorem yz {α:Type}{xs:List α}{v:α} (h:VB xs i=f' v):∃ j,Qal i xs.length=f' j∧xs[j]?=f' v∧j<xs.length∧-(xs.length:Int)≤i∧i<xs.length:=by
 unfold VB at h
 cases e:Xu xs.length i with
 | none=>rw[e] at h;cases h
 | some j=>
  rw[e] at h
  obtain⟨h1,h2,h3,h4⟩:=DA e
  exact⟨j,h1,h,h2,h3,h4⟩
def C7 (b:UY):Prop:=∀ o i,Qbo b K' o i=operate [o,i] (Xq o i)
def YH (X:Cx) (r:R2):Prop:=
 ∀ (value slice:UY) (aa:List (F'×UZ)) (s:UG) (σ:St) (H:Hp) (x y:V) (v u:L') (Q:VK),Inv X aa σ H s→aD x v→aD y u→r x y H Q →
  Qbo slice K' v u=operate [v,u] (Xq v u)→M' (UD X.prog X.w) X.A (QcN value slice v u) (EP X aa σ Q) X.xe s
def Zg (X:Cx) (id:String) (r:V→List V→Hp→VK→Prop):Prop:=
 ∀ (aa:List (F'×UZ)) (s:UG) (σ:St) (H:Hp) (x:V) (xs:List V) (v:L') (us:List L') (Q:VK),Inv X aa σ H s→aD x v→aB xs us→r x xs H Q →
  M' (UD X.prog X.w) X.A (call (.builtin id) (v::us)) (EP X aa σ Q) X.xe s
section
variable {a b:UY}{ta tb:TE}
theorem aK {r:R2} (hr:YH X r) (ha:PE X a ta) (hb:PE X b tb) (hs:C7 b):PE X (.Subscript a b pos) (YG r ta tb):=by
 intro aa s σ H Q I h
 exact QcX (Qbz ha hb I h fun v u s2 x y H2 I2 rx ry q=>hr a b aa s2 σ H2 x y v u Q I2 rx ry q (hs _ _))
def Qdi (K:R'):R2:=fun x y H Q=>∃ p xs i v,x=.ref p∧y=.int i∧P' K H p xs∧VB xs i=f' v∧Q v H
def QbD (K:R'):R2:=fun x y H Q=>∃ p xs i v,x=.ref p∧y=.int i∧UW K H p xs∧VB xs i=f' v∧Q v H
def Qha:R2:=fun x y H Q=>∃ z i c,x=.str z∧y=.int i∧z.length≤S'∧VB z.cps.toList i=f' c∧Q (.str ⟨#[c]⟩) H
theorem bB:YH X (Qdi X.K):=by
 intro value slice aa s σ H x y v u Q I rx ry h hs
 obtain⟨p,xs,i,z,rfl,rfl,hq,he,q⟩:=h
 cases rx
 obtain⟨t,rfl⟩:=ry
 obtain⟨ah,r,pl,hz⟩:=I.list hq
 obtain⟨j,h1,h2,h3,h4,h5⟩:=yz he
 obtain⟨w,ew,d8⟩:=r.get h2
 have hl:=r.length
 have hn:=mf
 have aT:EP X aa σ Q w s:=⟨z,H,I,d8,q⟩
 by_cases h0:0≤i
 .have hj:i.toNat=j:=by
   rw[QcT h0 h5] at h1
   exact VE h1
  exact item_listR pl.isList h0 (by lia) (by rw[hj];simpa using ew) aT hs
 .have hj:(i + (ah.toArray.size:Int)).toNat=j:=by
   rw[QcO (by lia) h4] at h1
   rw[Re,← hl]
   exact VE h1
  exact Qfh (x:=w) pl.isList.typeIs QfP.lookup
   (wpAny_getItem_list_neg (Q:=fun r s'=>r=w∧EP X aa σ Q r s') pl.isList (by lia) (by rw[Re] <;> lia) (by lia) (by rw[hj];simpa using ew) ⟨O,aT⟩) hs
theorem ff:YH X (QbD X.K):=by
 intro value slice aa s σ H x y v u Q I rx ry h hs
 obtain⟨p,xs,i,z,rfl,rfl,hq,he,q⟩:=h
 cases rx
 obtain⟨t,rfl⟩:=ry
 obtain⟨ah,r,pl,hz⟩:=I.tuple hq
 obtain⟨j,h1,h2,h3,h4,h5⟩:=yz he
 obtain⟨w,ew,d8⟩:=r.get h2
 have hl:=r.length
 have hn:=mf
 have aT:EP X aa σ Q w s:=⟨z,H,I,d8,q⟩
 exact Qfh (x:=w) pl.typeIs YY.lookup
  (getItem_tuple (j:=j) (Q:=fun r s'=>r=w∧EP X aa σ Q r s') pl (by lia) (by lia) (by rw[Re,← hl];exact h1) (by simpa using ew) ⟨O,aT⟩) hs
theorem Ec:YH X Qha:=by
 intro value slice aa s σ H x y v u Q I rx ry h hs
 obtain⟨z,i,c,rfl,rfl,hz,he,q⟩:=h
 obtain⟨t,rfl⟩:=rx
 obtain⟨t',rfl⟩:=ry
 obtain⟨j,h1,h2,h3,h4,h5⟩:=yz he
 have hl:z.cps.toList.length=z.length:=by simp[QcP]
 rw[hl] at h1 h4 h5
 have hn:=mf
 exact tail_any (Qak s z t) slot_str_getitem.lookup (getItem_str (c:=c) (by
  have e1:decide (i< -(2 ^ 63:Int))=K':=Rs (by lia)
  have e2:decide (i ≥ 2 ^ 63)=K':=Rs (by lia)
  rw[e1,e2,QfL]) (by rw[h1];simpa using h2) ⟨.str ⟨#[c]⟩,H,I.tok _,⟨_,O⟩,q⟩) hs
theorem PB (ah:List L') (n j:Nat) (u:L'):Wd (·.setIfInBounds j u) { cls:=.type "list",data:=.seq ah.toArray n }={ cls:=.type "list",data:=.seq (ah.set j u).toArray n }:=by
 simp[Wd]
theorem Inv.lst {aa:List (F'×UZ)}{σ:St}{H:Hp}{s:UG}{p:F'}{xs:List V} (I:Inv X aa σ H s) (h:H p=f' (.lst xs)) :
  ∃ (ah:List L') (n:Nat),aB xs ah∧s.heap.get? p=f' { cls:=.type "list",data:=.seq ah.toArray n }∧xs.length≤S':=by
 obtain⟨z,ah,n,r,e⟩:=I.UJ p _ h
 exact⟨ah,n,r,e,z⟩
theorem Inv.Qhb {xs ys:List V}{n':Nat}{f:UZ→UZ} (I:Inv X aa σ H s) (h:H p=f' (.lst xs))
  (ho:s.heap.get? p=f' { cls:=.type "list",data:=.seq ah.toArray n }) (hf:f { cls:=.type "list",data:=.seq ah.toArray n }={ cls:=.type "list",data:=.seq its'.toArray n' }) (r:aB ys its') (hz:ys.length≤S') (t:Nat) :
  Inv X aa σ (upd H p (.lst ys)) { s with heap:=s.heap.update p f,toks:=t }:=by
 have e:(s.heap.update p f).get? p=f' { cls:=.type "list",data:=.seq its'.toArray n' }:=by
  rw[Rw f ho (by rw[hf] <;> rfl),hf]
 refine I.write (x:=p) (e:=p) (by rw[h];trivial) (.inl rfl) (fun b u hb q=>(Ri _ _ (UM hb)).trans q) ⟨_,e⟩ ?_
 exact⟨hz,its',n',r,e⟩
def Qhc:V→V→V→Hp→(Hp→Prop)→Prop:=fun o i v H Q=>∃ p xs k j,o=.ref p∧i=.int k∧H p=f' (.lst xs)∧Xu xs.length k=f' j∧Q (upd H p (.lst (xs.set j v)))
theorem zR:Qc5 X Qhc:=by
 intro aa s σ H o i v ov iv u Q I ro ri rv h
 obtain⟨p,xs,k,j,rfl,rfl,hp,hj,q⟩:=h
 cases ro
 obtain⟨t,rfl⟩:=ri
 obtain⟨ah,n,r,ho,hz⟩:=I.lst hp
 obtain⟨h1,h2,h3,h4⟩:=DA hj
 have hl:=r.length
 have hn:=mf
 have I':Inv X aa σ (upd H p (.lst (xs.set j v))) { s with heap:=s.heap.update p (Wd (·.setIfInBounds j u)) }:=
  I.Qhb hp ho (PB ah n j u) (r.set rv j) (by rw[S4];exact hz) s.toks
 by_cases h0:0≤k
 .have hk:k.toNat=j:=by
   rw[QcT h0 h4] at h1
   exact VE h1
  exact PySem.W.ki_setAt ho h0 (by lia) (by rw[Re,← hl];exact h4) (by rw[hk];exact⟨_,I',q⟩)
 .have hk:(k + (ah.toArray.size:Int)).toNat=j:=by
   rw[QcO (by lia) h3] at h1
   rw[Re,← hl]
   exact VE h1
  exact PySem.W.ki_setBack ho (by lia) (by rw[Re,← hl];exact h3) (by lia) (by rw[hk];exact⟨_,I',q⟩)
theorem NZ (lo hi:Option Int) (n:Nat):(Y2 lo hi i' n).1=((HT.U3 n 0 lo:Nat):Int)∧(Y2 lo hi i' n).2.1=((HT.U3 n n hi:Nat):Int)∧(Y2 lo hi i' n).2.2=1:=by
 refine⟨?_,?_,O⟩
 .cases lo with
  | none=>simp[Y2,HT.U3]
  | some i=>
   simp only[Y2,HT.U3,Qfd,show(1:Int) > 0 by decide,WE]
   by_cases h:i<0
   .simp only[h,WE] <;> lia
   .simp only[h,VO] <;> lia
 .cases hi with
  | none=>simp[Y2,HT.U3]
  | some i=>
   simp only[Y2,HT.U3,Qfd,show(1:Int) > 0 by decide,WE]
   by_cases h:i<0
   .simp only[h,WE] <;> lia
   .simp only[h,VO] <;> lia
theorem O8 (ah:List L') (lo hi:Option Int):slicePick ah.toArray lo hi i'=((ah.drop (HT.U3 ah.length 0 lo)).take (HT.U3 ah.length ah.length hi - HT.U3 ah.length 0 lo)).toArray:=by
 obtain⟨h1,h2,h3⟩:=NZ lo hi ah.toArray.size
 unfold slicePick
 rw[h1,h2,h3]
 simp only[sliceRange_one,pick_run,Re] <;> rfl
def Qhd (K:R'):V→Option Int→Option Int→Hp→VK→Prop:=fun x lo hi H Q=>∃ a xs,x=.ref a∧P' K H a xs∧∀ p,H p=i'→Q (.ref p) (upd H p (.lst (iM xs lo hi)))
theorem yd:SlR X (Qhd X.K):=by
 intro aa s σ H x v vl vu lo hi sl Q I rx hs pl pu h
 obtain⟨a,xs,rfl,hx,q⟩:=h
 cases rx
 obtain⟨ah,r,ht,hz⟩:=I.list hx
 have av:=r.length
 refine⟨"list",_,QfP.lookup,ht.isList.typeIs,?_⟩
 refine wpAny_getItem_list_slice ht.isList hs pl pu .none (by simp) ?_ (by rw[Re] <;> lia)
 rw[O8,← av]
 refine⟨.ref s.heap.objs.size,_,I.laid (t':=s.toks) (o:=.lst (iM xs lo hi)) (fun b ob q=>Q4 _ q) (Q7 _) ?_,O,q _ (I.UJ.fresh (Q7 _))⟩
 exact⟨RT (Ds xs lo hi) hz,_,0,(r.drop (HT.U3 xs.length 0 lo)).take (HT.U3 xs.length xs.length hi - HT.U3 xs.length 0 lo),Ra _ O⟩
def jb:V→Bool
 | .UO=>B'
 | .bl _=>B'
 | .int _=>B'
 | .str _=>B'
 | _=>K'
def WK:V→V→Bool
 | .UO,.UO=>B'
 | .bl a,.bl b=>a == b
 | .bl a,.int b=>(if a then 1 else 0) == b
 | .int a,.bl b=>a == (if b then 1 else 0)
 | .int a,.int b=>a == b
 | .str a,.str b=>a == b
 | _,_=>K'
theorem fY  (ry:aD y u) (rx:aD x v) (fy:jb y=B') (fx:jb x=B'):XT A s u v (WK y x):=by
 cases y with
 | UO=>
  cases ry
  cases x with
  | UO=>cases rx;exact QcQ _
  | bl b=>cases rx;exact Qou b
  | int b=>obtain⟨t,rfl⟩:=rx;exact Qot b t
  | str b=>obtain⟨t,rfl⟩:=rx;exact Qos b t
  | _=>exact UR (show K'=B' from fx) Rk
 | bl a=>
  cases ry
  cases x with
  | UO=>cases rx;exact Qoz a
  | bl b=>cases rx;exact QoB a b
  | int b=>obtain⟨t,rfl⟩:=rx;exact QoA a b t
  | str b=>obtain⟨t,rfl⟩:=rx;exact Qoy a b t
  | _=>exact UR (show K'=B' from fx) Rk
 | int a=>
  obtain⟨t',rfl⟩:=ry
  cases x with
  | UO=>cases rx;exact Qov a t'
  | bl b=>cases rx;exact Qox a t' b
  | int b=>obtain⟨t,rfl⟩:=rx;exact Qow a t' b t
  | str b=>obtain⟨t,rfl⟩:=rx;exact QeO a t' b t
  | _=>exact UR (show K'=B' from fx) Rk
 | str a=>
  obtain⟨t',rfl⟩:=ry
  cases x with
  | UO=>cases rx;exact Qoq a t'
  | bl b=>cases rx;exact Qor a t' b
  | int b=>obtain⟨t,rfl⟩:=rx;exact QeN a t' b t
  | str b=>obtain⟨t,rfl⟩:=rx;exact Qop a t' b t
  | _=>exact UR (show K'=B' from fx) Rk
 | _=>exact UR (show K'=B' from fy) Rk
def WB (x:V) (u:L'):Bool:=match u with
 | .none=>WK .UO x
 | .bool b=>WK (.bl b) x
 | .int i _=>WK (.int i) x
 | .str z _=>WK (.str z) x
 | _=>K'
theorem Ck  (r:aD y u) (f:jb y=B'):WB x u=WK y x:=by
 cases y with
 | UO=>cases r;rfl
 | bl b=>cases r;rfl
 | int i=>obtain⟨t,rfl⟩:=r;rfl
 | str z=>obtain⟨t,rfl⟩:=r;rfl
 | _=>exact UR (show K'=B' from f) Rk
theorem rp {x:V}:∀ {xs:List V}{us:List L'},aB xs us→xs.all jb=B'→us.any (WB x)=xs.any fun y=>WK y x
 | _,_,.nil,_=>rfl
 | y::xs,u::us,.cons r t,f=>by
  rw[Th,Rn] at f
  rw[SK,SK,Ck r f.1,rp t f.2]
theorem rj {A:VQ}{s:UG}{x:V}{v:L'} (rx:aD x v) (fx:jb x=B'):∀ {xs:List V}{us:List L'},aB xs us→xs.all jb=B'→∀ u∈us,XT A s u v (WB x u)
 | _,_,.nil,_=>fun u hu=>by cases hu
 | y::xs,u::us,.cons r t,f=>fun u' hu=>by
  rw[Th,Rn] at f
  rcases RS.mp hu with rfl|hu
  .rw[Ck r f.1];exact fY r rx f.1 fx
  .exact rj rx fx t f.2 u' hu
def XZ (x:V) (xs:List V):Bool:=xs.any fun y=>WK y x
def rIn (K:R') (qU:Bool):R2:=fun x y H Q=>∃ p xs,y=.ref p∧(P' K H p xs∨UW K H p xs)∧jb x=B'∧xs.all jb=B'∧Q (.bl (if qU then !XZ x xs else XZ x xs)) H
theorem B7:VF X (Wh .In) (rIn X.K K'):=by
 intro aa s σ H x y v u Q I rx ry h
 obtain⟨p,xs,rfl,hq,fx,fs,q⟩:=h
 cases ry
 rcases hq with hq|hq
 .obtain⟨ah,r,pl,hz⟩:=I.list hq
  refine SeqAt.in_listAt (WB x) pl.isList (fun w hw=>rj rx fx r fs w (by simpa using hw)) ⟨.bl _,H,I,O,?_⟩
  rw[show ah.toArray.any (WB x)=ah.any (WB x) by simp,rp r fs]
  exact q
 .obtain⟨ah,r,pl,hz⟩:=I.tuple hq
  refine SeqAt.in_tupleAt (WB x) pl (fun w hw=>rj rx fx r fs w (by simpa using hw)) ⟨.bl _,H,I,O,?_⟩
  rw[show ah.toArray.any (WB x)=ah.any (WB x) by simp,rp r fs]
  exact q
theorem MN:VF X (Wh .NotIn) (rIn X.K B'):=by
 intro aa s σ H x y v u Q I rx ry h
 obtain⟨p,xs,rfl,hq,fx,fs,q⟩:=h
 cases ry
 rcases hq with hq|hq
 .obtain⟨ah,r,pl,hz⟩:=I.list hq
  refine Qe6 (WB x) pl.isList (fun w hw=>rj rx fx r fs w (by simpa using hw)) ⟨.bl _,H,I,O,?_⟩
  rw[show ah.toArray.any (WB x)=ah.any (WB x) by simp,rp r fs]
  exact q
 .obtain⟨ah,r,pl,hz⟩:=I.tuple hq
  refine SeqAt.notIn_tupleAt (WB x) pl (fun w hw=>rj rx fx r fs w (by simpa using hw)) ⟨.bl _,H,I,O,?_⟩
  rw[show ah.toArray.any (WB x)=ah.any (WB x) by simp,rp r fs]
  exact q
theorem eZ:fU X (.builtin "len") (fun xs H Q=>∃ p ys,xs=[.ref p]∧(P' X.K H p ys∨UW X.K H p ys)∧Q (.int ys.length) H):=by
 intro aa s σ H xs us Q I r h
 obtain⟨p,ys,rfl,hq,q⟩:=h
 obtain⟨u,rfl,rx⟩:=gX r
 cases rx
 have hn:=mf
 rcases hq with hq|hq
 .obtain⟨ah,r',pl,hz⟩:=I.list hq
  have av:=r'.length
  exact Calls.call_len_list pl.isList (by simp only[Re] <;> lia) ⟨.int ys.length,H,I.tok _,⟨s.toks + 1,by rw[Re,av]⟩,q⟩
 .obtain⟨ah,r',pl,hz⟩:=I.tuple hq
  have av:=r'.length
  exact len_tuple pl (by simp only[Re] <;> lia) ⟨.int ys.length,H,I.tok _,⟨s.toks + 1,by rw[Re,av]⟩,q⟩
theorem ue:fU X (.builtin "len") (fun xs H Q=>∃ z,xs=[.str z]∧z.length≤S'∧Q (.int z.length) H):=by
 intro aa s σ H xs us Q I r h
 obtain⟨z,rfl,hz,q⟩:=h
 obtain⟨u,rfl,t,rfl⟩:=gX r
 have hn:=mf
 exact len_str (by lia) ⟨.int z.length,H,I.tok _,⟨_,O⟩,q⟩
theorem EB:fU X (.type "list") (fun xs H Q=>∃ p ys,xs=[.ref p]∧(P' X.K H p ys∨UW X.K H p ys)∧∀ l,H l=i'→Q (.ref l) (upd H l (.lst ys))):=by
 intro aa s σ H xs us Q I r h
 obtain⟨p,ys,rfl,hq,q⟩:=h
 obtain⟨u,rfl,rx⟩:=gX r
 cases rx
 have aT:∀ (ah:List L'),aB ys ah→ys.length≤S'→∀ (h':U6) (c':Nat),(∀ b o',s.heap.get? b=f' o'→h'.get? b=f' o') →
   h'.get? s.heap.objs.size=f' { cls:=.type "list",dict:=i',data:=.seq ah.toArray c',slots:=#[] }→EP X aa σ Q (.ref s.heap.objs.size) { s with heap:=h' }:=fun ah r' hz h' c' kp e=>
  ⟨.ref s.heap.objs.size,_,I.laid (t':=s.toks) kp (Q7 _) (show cS X.prog X.w _ h' _ (.lst ys) from⟨hz,ah,c',r',e⟩),O,q _ (I.UJ.fresh (Q7 _))⟩
 rcases hq with hq|hq
 .obtain⟨ah,r',pl,hz⟩:=I.list hq
  have av:=r'.length
  obtain⟨o,ho,hc,n,hd⟩:=pl.isList
  exact call_list_seq p (.inl O) ho hc hd (fun h' c' kp e=>aT ah r' hz h' c' kp e) (by simp only[Re] <;> lia)
 .obtain⟨ah,r',pl,hz⟩:=I.tuple hq
  have av:=r'.length
  obtain⟨o,ho,hc,n,hd⟩:=pl
  exact call_list_seq p (.inr O) ho hc hd (fun h' c' kp e=>aT ah r' hz h' c' kp e) (by simp only[Re] <;> lia)
def tyV (K:R') (T:String) (x:V) (H:Hp):Prop:=match x with
 | .str _=>T="str"
 | .int _=>T="int"
 | .ref p=>(T="list"∧∃ xs,P' K H p xs)∨(T="tuple"∧∃ o,K.lookup p=f' o∧o.cls=.type "tuple"∧o.dict=i') ∨
   (T="dict"∧((∃ kvs,H p=f' (.dK kvs))∨∃ kvs,H p=f' (.dT kvs)))∨(T="set"∧∃ S n,H p=f' (.set S n))
 | _=>False
theorem ES  (I:Inv X aa σ H s) (r:aD x v) (ty:tyV X.K T x H) :
  s.TypeIs v T∧∀ a,v=.ref a→∃ ob,s.heap.get? a=f' ob∧ob.dict=i':=by
 cases x with
 | str z=>
  obtain⟨t,rfl⟩:=r
  cases (show T="str" from ty)
  exact⟨Qak s z t,fun _ e=>nomatch e⟩
 | int i=>
  obtain⟨t,rfl⟩:=r
  cases (show T="int" from ty)
  exact⟨QcU s i t,fun _ e=>nomatch e⟩
 | ref p=>
  cases r
  rcases ty with⟨rfl,xs,hq⟩|⟨rfl,o,hk,hc,hd⟩|⟨rfl,hk⟩|⟨rfl,S,n,hk⟩
  .obtain⟨ah,_,pl,_⟩:=I.list hq
   refine⟨pl.isList.typeIs,fun a e=>?_⟩
   cases e
   obtain⟨o,n,e,c,hd,_⟩:=pl
   exact⟨o,e,hd⟩
  .refine⟨⟨o,I.U9 p o hk,hc⟩,fun a e=>?_⟩
   cases e
   exact⟨o,I.U9 _ o hk,hd⟩
  .have z:∃ o,s.heap.get? p=f' o∧o.ExactDict:=by
    rcases hk with⟨kvs,hk⟩|⟨kvs,hk⟩
    .obtain⟨_,_,_,_,o,_,_,e,ex,_⟩:=I.UJ p _ hk
     exact⟨o,e,ex⟩
    .obtain⟨_,_,_,_,o,_,_,e,ex,_⟩:=I.UJ p _ hk
     exact⟨o,e,ex⟩
   obtain⟨o,e,ex⟩:=z
   refine⟨⟨o,e,ex.1⟩,fun a e2=>?_⟩
   cases e2
   exact⟨o,e,ex.2.1⟩
  .obtain⟨o,_,_,_,e,ex,_⟩:=I.UJ p _ hk
   refine⟨⟨o,e,ex.1⟩,fun a e2=>?_⟩
   cases e2
   exact⟨o,e,ex.2.1⟩
 | _=>exact VL ty
def Qhe (K:R') (T:String) (r:V→List V→Hp→VK→Prop) (to:TE):TE:=fun σ H Q=>to σ H fun x H1=>tyV K T x H1∧r x [] H1 Q
def tBM (K:R') (T:String) (r:V→List V→Hp→VK→Prop) (to:TE) (t:TA):TE:=fun σ H Q=>to σ H fun x H1=>tyV K T x H1∧t σ H1 fun xs H2=>r x xs H2 Q
variable {o:UY}{es:List UY}{to:TE}{t:TA}{name:C'}{aJ aw:Vx}{r:V→List V→Hp→VK→Prop}
theorem Qhf (pa:QcW T) (slot:Slot T name id) (qm:typeOf (.builtin id)=pure (.type "method_descriptor")) (hm:Zg X id r) (ho:PE X o to)
  (fK:X7 o name X.env (UV o X.env)=UV o X.env:=by rfl) (fP:(aJ.endLine == aw.line)=B':=by rfl):PE X (.Call (.Attribute o name aJ) [] [] aw) (Qhe X.K T r to):=by
 intro aa s σ H Q I h
 refine wpAny_Call_method0_late fK fP (UP (ho aa s σ H _ I h) fun v s1=>L2.U1 fun x H1 I1 r1 aX=>?_)
 obtain⟨ty,q1⟩:=aX
 obtain⟨h1,h2⟩:=ES I1 r1 ty
 exact⟨T,id,pa,slot,qm,h1,h2,Qac O (PySem.evalArgs_none (hm aa s1 σ H1 x [] v [] Q I1 r1 .nil q1))⟩
theorem ej (pa:QcW T) (slot:Slot T name id) (qm:typeOf (.builtin id)=pure (.type "method_descriptor")) (hm:Zg X id r) (ho:PE X o to) (ha:PA X (e::es) t)
  (fK:X7 o name X.env (UV o X.env)=UV o X.env:=by rfl)
  (mJ:((Vq aw (UU (e::es) X.env)).all (fun x=>!x.1) && (Xf aw (Xd [] X.env)).all (fun x=>x.1.isSome)
   && decide ((e::es).length + ([]:List Yb).length + (if ([]:List Yb).isEmpty then 0 else 1)<30))=B':=by rfl)
  (fP:(aJ.endLine == aw.line)=B':=by rfl) (hs:UU (e::es) X.env=(K',UV e X.env)::UU es X.env:=by rfl) (gH:(Vq aw (UU es X.env)).any (·.1)=K':=by rfl) :
  PE X (.Call (.Attribute o name aJ) (e::es) [] aw) (tBM X.K T r to t):=by
 intro aa s σ H Q I h
 refine wpAny_Call_method_late fK mJ fP O (UP (ho aa s σ H _ I h) fun v s1=>L2.U1 fun x H1 I1 r1 aX=>?_)
 obtain⟨ty,q1⟩:=aX
 obtain⟨h1,h2⟩:=ES I1 r1 ty
 refine⟨T,id,pa,slot,qm,h1,h2,?_⟩
 have hA:=ha aw aa s1 σ H1 _ I1 q1
 rw[hs] at hA ⊢
 refine Qac (by show(K' || (Vq aw (UU es X.env)).any (·.1))=K';rw[gH] <;> rfl) (Qa2 ?_)
 exact UP hA fun us s2=>L2.U1 fun vs H2 I2 r2 q2=>hm aa s2 σ H2 x vs v us Q I2 r1 r2 q2
end
def MtM (X:Cx) (id:String) (r:V→List V→Hp→VK→Prop):Prop:=
 ∀ (aa:List (F'×UZ)) (s:UG) (σ:St) (H:Hp) (x:V) (xs:List V) (v:L') (us:List L') (Q:VK),Inv X aa σ H s→aD x v→aB xs us→r x xs H Q →
  M' (UD X.prog X.w) X.A (call (.builtin id) (v::us)) (EP X aa σ Q) X.xe s
theorem aB.one:∀ {x:V}{us:List L'},aB [x] us→∃ u,us=[u]∧aD x u
 | _,_,.cons r .nil=>⟨_,O,r⟩
theorem aB.eraseIdx:∀ {xs:List V}{us:List L'} (i:Nat),aB xs us→aB (xs.eraseIdx i) (us.eraseIdx i)
 | _,_,_,.nil=>.nil
 | _,_,0,.cons _ t=>t
 | _,_,i + 1,.cons r t=>.cons r (aB.eraseIdx i t)
theorem aB.rep {xs:List V}{us:List L'} (h:aB xs us):∀ k:Nat,aB (UX k xs).flatten (UX k us).flatten
 | 0=>.nil
 | k + 1=>by
  rw[Sh,Sh,SS,SS]
  exact aB.append h (aB.rep h k)
theorem DU {α:Type}:∀ (l:List α) (i:Nat),(l.eraseIdx i).length≤l.length
 | [],_=>Q7 _
 | _::_,0=>RJ _
 | _::r,i + 1=>TX (DU r i)
theorem Fu (ah:List L'):∀ (k:Nat) (acc:List L'),
  Qai (fun x1 x2=>x1++x2) acc.toArray (UX k ah.toArray)=(acc++(UX k ah).flatten).toArray
 | 0,acc=>by simp
 | k + 1,acc=>by
  have e:acc.toArray++ah.toArray=(acc++ah).toArray:=by simp
  have e2:(acc++ah)++(UX k ah).flatten=acc++(UX (k + 1) ah).flatten:=by
   rw[Sh,SS,Sn]
  rw[← e2,← Fu ah k (acc++ah),← e,Sh,Qfw]
section
variable {l:F'}{xs ys zs:List V}
theorem Inv.Qay {f:Array L'→Array L'} (I:Inv X aa σ H s) (hH:H l=f' (.lst xs))
  (e:s.heap.get? l=f' { cls:=.type "list",data:=.seq ah.toArray n }) (hf:f ah.toArray=its'.toArray) (hv:aB ys its') (hz:ys.length≤S') :
  Inv X aa σ (upd H l (.lst ys)) { s with heap:=s.heap.update l (Wd f),toks:=t' }:=by
 have q:=PySem.IsL.update e f
 rw[hf] at q
 refine I.write (x:=l) (e:=l) (by rw[hH];exact trivial) (.inl O) (fun b' u hb hu=>(Ri s.heap (Wd f) (UM hb)).trans hu) ⟨_,q⟩ ?_
 exact⟨hz,its',_,hv,q⟩
theorem Inv.QbE  (I:Inv X aa σ H s) (hv:aB ys ah) (hz:ys.length≤S') :
  Inv X aa σ (upd H s.heap.objs.size (.lst ys)) { s with heap:=s.heap.push { cls:=.type "list",data:=.seq ah.toArray },toks:=t' }:=
 I.laid (fun _ _ q=>Q4 _ q) (Q7 _) ⟨hz,ah,0,hv,Ra _ O⟩
theorem Inv.fresh (I:Inv X aa σ H s):H s.heap.objs.size=i':=I.UJ.fresh (Q7 _)
theorem Inv.Yk (I:Inv X aa σ H s) (hH:H l=f' (.lst xs)):xs.length≤S'∧∃ (ah:List L') (n:Nat),aB xs ah∧xs.length=ah.length∧s.heap.get? l=f' { cls:=.type "list",data:=.seq ah.toArray n }:=by
 obtain⟨z,ah,n,r,e⟩:=I.UJ l _ hH
 exact⟨z,ah,n,r,r.length,e⟩
theorem C2  (h:n≤S'):QaS n=K':=by
 unfold QaS
 exact Rs (by lia)
end
def OL:V→List V→Hp→VK→Prop:=fun x vs H Q=>∃ l xs y,x=.ref l∧vs=[y]∧H l=f' (.lst xs)∧xs.length<S'∧Q .UO (upd H l (.lst (xs++[y])))
theorem fS:MtM X "list.append" OL:=by
 intro aa s σ H x vs v us Q I rx rv h
 obtain⟨l,xs,y,rfl,rfl,hH,hz,q⟩:=h
 cases rx
 obtain⟨u,rfl,ru⟩:=rv.one
 obtain⟨z,ah,n,r,hl,e⟩:=I.Yk hH
 refine X9 Wo ⟨_,e,O⟩ F.entry_list_append (F.args_list_append_2 _ _) (PySem.list_append l ah.toArray n u (by rw[Re];lia)) ⟨e,?_⟩
 refine⟨.UO,_,I.Qay (its':=ah++[u]) hH e (by simp) (r.append (.cons ru .nil)) ?_,O,q⟩
 rw[Ro,Ug]
 lia
def Qs:V→List V→Hp→VK→Prop:=fun x vs H Q=>∃ l b xs zs,x=.ref l∧vs=[.ref b]∧H l=f' (.lst xs)∧H b=f' (.lst zs)∧xs.length + zs.length≤S'∧Q .UO (upd H l (.lst (xs++zs)))
theorem Ph:MtM X "list.extend" Qs:=by
 intro aa s σ H x vs v us Q I rx rv h
 obtain⟨l,b,xs,zs,rfl,rfl,hH,hB,hz,q⟩:=h
 cases rx
 obtain⟨u,rfl,ru⟩:=rv.one
 cases ru
 obtain⟨z,ah,n,r,hl,e⟩:=I.Yk hH
 obtain⟨z2,gU,n2,r2,bO,e2⟩:=I.Yk hB
 have hsz:ah.toArray.size + gU.toArray.size≤S':=by rw[Re,Re];lia
 have jA:¬ (!ah.toArray.isEmpty && QaS (ah.toArray.size + gU.toArray.size))=B':=by
  rw[C2 hsz,SV]
  exact Rk
 refine X9 Qfo ⟨_,e,O⟩ F.entry_list_extend (F.args_list_extend_2 _ _)
  (AutoSeq1.list_extend_list_list_0 l ah.toArray n b gU.toArray n2 jA (by rw[Re];lia) (by lia)) ⟨e,e2,?_⟩
 refine⟨.UO,_,I.Qay (its':=ah++gU) hH e (by simp) (r.append r2) ?_,O,q⟩
 rw[Ro]
 lia
def Qhg:V→List V→Hp→VK→Prop:=fun x vs H Q=>∃ l xs i k y,x=.ref l∧vs=[.int i]∧H l=f' (.lst xs)∧-(2 ^ 63)≤i∧i<2 ^ 63∧Qal i xs.length=f' k∧xs[k]?=f' y∧Q y (upd H l (.lst (xs.eraseIdx k)))
theorem Ka:MtM X "list.pop" Qhg:=by
 intro aa s σ H x vs v us Q I rx rv h
 obtain⟨l,xs,i,k,y,rfl,rfl,hH,h1,h2,hk,hy,q⟩:=h
 cases rx
 obtain⟨u,rfl,ru⟩:=rv.one
 obtain⟨t,rfl⟩:=ru
 obtain⟨z,ah,n,r,hl,e⟩:=I.Yk hH
 obtain⟨w,hw,d8⟩:=r.get hy
 refine X9 QfT ⟨_,e,O⟩ F.entry_list_pop (F.args_list_pop_2 _ _)
  (MeetsSeq.list_pop_at l ah.toArray n i t k w (Qgk h1 h2) (by rw[Re,← hl];exact hk) (by rw[← SW];exact hw) (by rw[Re];lia)) ⟨e,?_⟩
 refine⟨y,_,I.Qay (its':=ah.eraseIdx k) hH e ?_ (r.eraseIdx k) ?_,d8,q⟩
 .show ah.toArray.eraseIdxIfInBounds k=(ah.eraseIdx k).toArray
  rw[List.eraseIdxIfInBounds_toArray]
 .have:=DU xs k
  lia
def Qhh:R2:=fun x y H Q=>∃ l b xs zs,x=.ref l∧y=.ref b∧H l=f' (.lst xs)∧H b=f' (.lst zs)∧xs.length + zs.length≤S'∧∀ p,H p=i'→Q (.ref p) (upd H p (.lst (xs++zs)))
theorem sf:VF X (Xo .Add) Qhh:=by
 intro aa s σ H x y v u Q I rx ry h
 obtain⟨l,b,xs,zs,rfl,rfl,hH,hB,hz,q⟩:=h
 cases rx
 cases ry
 obtain⟨z,ah,n,r,hl,e⟩:=I.Yk hH
 obtain⟨z2,gU,n2,r2,bO,e2⟩:=I.Yk hB
 refine PySem.P.add_list e e2 ?_ (by rw[Re,Re];lia)
 have ea:ah.toArray++gU.toArray=(ah++gU).toArray:=by simp
 rw[ea]
 exact⟨.ref _,_,I.QbE (t':=s.toks) (r.append r2) (by rw[Ro];lia),O,q _ I.fresh⟩
def Qhi:R2:=fun x y H Q=>∃ l k xs,x=.ref l∧y=.int k∧H l=f' (.lst xs)∧-(2 ^ 63)≤k∧k<2 ^ 63∧xs.length * k.toNat≤S' ∧
 ∀ p,H p=i'→Q (.ref p) (upd H p (.lst (UX k.toNat xs).flatten))
theorem JY {α:Type} (xs:List α) (k:Nat):(UX k xs).flatten.length=k * xs.length:=by
 induction k with
 | zero=>simp
 | succ k ih=>rw[Sh,SS,Ro,ih,Qf9,Qgb]
theorem uG:VF X (Xo .Mult) Qhi:=by
 intro aa s σ H x y v u Q I rx ry h
 obtain⟨l,k,xs,rfl,rfl,hH,h1,h2,hz,q⟩:=h
 cases rx
 obtain⟨t,rfl⟩:=ry
 obtain⟨z,ah,n,r,hl,e⟩:=I.Yk hH
 have av:ah.toArray.size * k.toNat≤S':=by rw[Re,← hl];exact hz
 have jy:¬ ah.toArray.size * k.toNat > (2 ^ 63 - 1) / 8:=by
  have:(S':Nat)≤(2 ^ 63 - 1) / 8:=by decide
  lia
 have wL:¬ (!Qcb k)=B':=by
  rw[Qgk h1 h2]
  exact Rk
 have jA:¬ QaS (ah.toArray.size * k.toNat)=B':=by
  rw[C2 av]
  exact Rk
 have de:Qai (fun x1 x2=>x1++x2) #[] (UX (if ah.toArray.isEmpty=B' then 0 else k.toNat) ah.toArray)=(UX k.toNat ah).flatten.toArray:=by
  have f0:∀ m:Nat,Qai (fun x1 x2=>x1++x2) #[] (UX m ah.toArray)=(UX m ah).flatten.toArray:=fun m=>by
   have:=Fu ah m []
   rw[Qft] at this
   exact this
  rw[f0]
  cases ah with
  | nil=>simp
  | cons a r'=>rw[UF (by simp)]
 refine wpAny_binaryOp_repeat_ref (T:="list") (U:="int") (by decide) ⟨_,e,O⟩ (fun s'=>QcU s' k t) noFill_list_mul F.fills_int_mul QfU repeat_list F.slot_int_index.lookup
  (X9 QfU (QcU s k t) F.entry_int_rmul (F.args_int_rmul_2 _ _) (int___rmul___int_list k t l ah.toArray n)
   ⟨e,rfl,⟨_,e,rfl⟩,X9 F.slot_list_mul ⟨_,e,rfl⟩ F.entry_list_mul (F.args_list_mul_2 _ _) (AutoListH.list___mul___list_int_3 l ah.toArray n k t wL jy jA) ⟨e,?_⟩⟩)
 rw[de]
 exact⟨.ref _,_,I.QbE (t':=s.toks) (r.rep k.toNat) (by rw[JY,Qga];exact hz),O,q _ I.fresh⟩
section
variable {κ:Type} [DecidableEq κ]
def a8 (kvs:List (κ×V)) (k:κ):Option V:=(kvs.find? fun kv=>decide (kv.1=k)).map (·.2)
def cg (kvs:List (κ×V)) (k:κ) (v:V):List (κ×V):=
 if (kvs.any fun kv=>decide (kv.1=k))=B' then kvs.map (fun kv=>if kv.1=k then(kv.1,v) else kv) else kvs++[(k,v)]
def iU (kvs:List (κ×V)) (k:κ):List (κ×V):=kvs.filter fun kv=>decide (kv.1≠k)
theorem di {p:κ×V}{r:List (κ×V)}{k:κ} (e:p.1=k):a8 (p::r) k=f' p.2:=by simp[a8,SM,e]
theorem cw {p:κ×V}{r:List (κ×V)}{k:κ} (e:¬ p.1=k):a8 (p::r) k=a8 r k:=by simp[a8,SM,e]
theorem sh (k:κ):∀ kvs:List (κ×V),(kvs.any fun kv=>decide (kv.1=k))=(a8 kvs k).isSome
 | []=>rfl
 | p::r=>by
  rw[SK]
  by_cases e:p.1=k
  .simp only[di e,Rj e,QfW,Option.isSome_some]
  .rw[cw e,Rs e,Um];exact sh k r
theorem B9 (k j:κ) (y:V):∀ kvs:List (κ×V),a8 (kvs.map fun kv=>if kv.1=k then(kv.1,y) else kv) j=(a8 kvs j).map fun x=>if j=k then y else x
 | []=>rfl
 | p::r=>by
  have ih:=B9 k j y r
  rw[RL]
  by_cases h:p.1=k
  .rw[UH h]
   by_cases e:p.1=j
   .rw[di (p:=(p.1,y)) e,di e,To,UH (e.symm.trans h)]
   .rw[cw (p:=(p.1,y)) e,cw e,ih]
  .rw[UF h]
   by_cases e:p.1=j
   .rw[di (p:=p) e,di e,To,UF (fun z=>h (e.trans z))]
   .rw[cw (p:=p) e,cw e,ih]
theorem r6 (k j:κ) (y:V):∀ kvs:List (κ×V),a8 kvs k=i'→a8 (kvs++[(k,y)]) j=if j=k then f' y else a8 kvs j
 | [],_=>by
  by_cases e:k=j
  .rw[UH e.symm];exact di (p:=(k,y)) e
  .rw[UF (fun z=>e z.symm)];exact cw (p:=(k,y)) e
 | p::r,hn=>by
  rw[List.cons_append]
  have hk:¬ p.1=k:=fun z=>by rw[di z] at hn;cases hn
  rw[cw hk] at hn
  have ih:=r6 k j y r hn
  by_cases e:p.1=j
  .rw[di e,di e,UF (fun z=>hk (e.trans z))]
  .rw[cw e,cw e,ih]
theorem tO (kvs:List (κ×V)) (k j:κ) (y:V):a8 (cg kvs k y) j=if j=k then f' y else a8 kvs j:=by
 unfold cg
 by_cases a:(kvs.any fun kv=>decide (kv.1=k))=B'
 .rw[UH a,B9]
  rw[sh] at a
  by_cases e:j=k
  .obtain⟨x,hx⟩:=Xj.mp a
   rw[UH e,e,hx,To,UH rfl]
  .rw[UF e]
   cases a8 kvs j with
   | none=>rfl
   | some x=>rw[To,UF e]
 .rw[UF a]
  refine r6 k j y kvs ?_
  rw[sh] at a
  cases q:a8 kvs k with
  | none=>rfl
  | some x=>rw[q] at a;exact(a O).elim
theorem t6 (kvs:List (κ×V)) (k:κ) (v:V):(cg kvs k v).length≤kvs.length + 1:=by
 unfold cg
 split
 .rw[Q3];lia
 .rw[Ro,Rh,Qfv];lia
theorem sy {kvs:List (κ×V)}{k:κ} (v:V) (h:a8 kvs k=i'):cg kvs k v=kvs++[(k,v)]:=by
 unfold cg
 rw[sh,h]
 exact UF (by decide)
theorem ee.Zh {u:Option L'} (r:ee o u):o.isSome=u.isSome:=by
 cases o with
 | none=>cases u with
  | none=>rfl
  | some _=>exact(show False from r).elim
 | some _=>cases u with
  | none=>exact(show False from r).elim
  | some _=>rfl
theorem ee.getD {o:Option V}{u:Option L'}{d:V}{d':L'} (r:ee o u) (rd:aD d d'):aD (o.getD d) (u.getD d'):=by
 cases o with
 | none=>cases u with
  | none=>exact rd
  | some _=>exact(show False from r).elim
 | some _=>cases u with
  | none=>exact(show False from r).elim
  | some _=>exact r
theorem KV.val {kvs:List (κ×V)}{vs:List (κ×L')} (r:KV kvs vs) (k:κ):ee (a8 kvs k) (Ya vs k):=by
 unfold KV at r
 induction r with
 | nil=>exact Ws
 | @cons p q ps qs h t ih=>
  obtain⟨h1,h2⟩:=h
  by_cases e:p.1=k
  .have e':q.1=k:=h1.symm.trans e
   have b:Ya (q::qs) k=f' q.2:=by simp[Ya,SM,e']
   rw[di e,b];exact h2
  .have e':¬ q.1=k:=fun z=>e (h1.trans z)
   have b:Ya (q::qs) k=Ya qs k:=by simp[Ya,SM,e']
   rw[cw e,b];exact ih
theorem KV.any {kvs:List (κ×V)}{vs:List (κ×L')} (r:KV kvs vs) (k:κ):(kvs.any fun kv=>decide (kv.1=k))=vs.any fun kv=>decide (kv.1=k):=by
 unfold KV at r
 induction r with
 | nil=>rfl
 | cons h t ih=>rw[SK,SK,ih,h.1]
theorem KV.QbF {kvs:List (κ×V)}{vs:List (κ×L')} (r:KV kvs vs) (k:κ) (ry:aD y u) :
  KV (kvs.map fun kv=>if kv.1=k then(kv.1,y) else kv) (vs.map fun kv=>if kv.1=k then(kv.1,u) else kv):=by
 unfold KV at r ⊢
 induction r with
 | nil=>exact .nil
 | @cons p q ps qs h t ih=>
  rw[RL,RL]
  refine .cons ?_ ih
  obtain⟨h1,h2⟩:=h
  by_cases e:p.1=k
  .rw[UH e,UH (h1.symm.trans e)];exact⟨h1,ry⟩
  .rw[UF e,UF (fun z=>e (h1.trans z))];exact⟨h1,h2⟩
theorem KV.put {kvs:List (κ×V)}{vs:List (κ×L')} (r:KV kvs vs) (k:κ) (ry:aD y u):KV (cg kvs k y) (Xr vs k u):=by
 unfold cg Xr
 rw[r.any k]
 by_cases e:(vs.any fun kv=>decide (kv.1=k))=B'
 .rw[UH e,UH e];exact r.QbF k ry
 .rw[UF e,UF e];exact QfG r ⟨O,ry⟩
theorem KV.drop {kvs:List (κ×V)}{vs:List (κ×L')} (r:KV kvs vs) (k:κ):KV (iU kvs k) (without vs k):=by
 unfold KV at r ⊢
 unfold iU without
 induction r with
 | nil=>exact .nil
 | @cons p q ps qs h t ih=>
  obtain⟨h1,h2⟩:=h
  rw[RM,RM]
  by_cases e:p.1=k
  .have a:¬ decide (p.1≠k)=B':=by simp[e]
   have b:¬ decide (q.1≠k)=B':=by simp[h1.symm.trans e]
   rw[UF a,UF b];exact ih
  .have e':¬ q.1=k:=fun z=>e (h1.trans z)
   have a:decide (p.1≠k)=B':=by simp[e]
   have b:decide (q.1≠k)=B':=by simp[e']
   rw[UH a,UH b];exact .cons ⟨h1,h2⟩ ih
theorem KV.length {kvs:List (κ×V)}{vs:List (κ×L')} (r:KV kvs vs):kvs.length=vs.length:=Qbf r
theorem Lg (kvs:List (κ×V)) (k:κ):(iU kvs k).length≤kvs.length:=Si _ _
end
theorem iQ {k:Key} (r:aD (kV k) u):(b9 P w).is k u=B':=by
 cases k with
 | inl i=>obtain⟨t,e⟩:=(show ∃ t,u=XJ i t from r);subst e;exact KP P w i t
 | inr x=>obtain⟨t,e⟩:=(show ∃ t,u=ZJ x t from r);subst e;exact MB P w x t
theorem CZ {P:Vz}{w:Vw}:∀ {ks:List Key}{us:List L'},aB (ks.map kV) us→ItemsAre (b9 P w) ks us
 | [],_,r=>by rw[Uu] at r;cases r;exact .nil
 | k::ks,_,r=>by
  rw[RL] at r
  cases r with
  | cons h t=>exact .cons (iQ h) (CZ t)
abbrev KT (H:Hp):List (List Key×V)→List (List Key×F'×L')→Prop:=Y' fun p q=>p.1=q.1∧H q.2.1=f' (.tup (p.1.map kV))∧aD p.2 q.2.2
theorem KT.val  (r:KT H kvs xs) (k:List Key):ee (a8 kvs k) ((Yd xs k).map (·.2)):=by
 induction r with
 | nil=>exact Ws
 | @cons p q ps qs h t ih=>
  obtain⟨h1,_,h2⟩:=h
  by_cases e:p.1=k
  .have e':q.1=k:=h1.symm.trans e
   have b:Yd (q::qs) k=f' q.2:=by simp[Yd,SM,e']
   rw[di e,b];exact h2
  .have e':¬ q.1=k:=fun z=>e (h1.trans z)
   have b:Yd (q::qs) k=Yd qs k:=by simp[Yd,SM,e']
   rw[cw e,b];exact ih
theorem KT.QbF  (r:KT H kvs xs) (k:List Key) (ry:aD y u) :
  KT H (kvs.map fun kv=>if kv.1=k then(kv.1,y) else kv) (xs.map (putAt k u)):=by
 induction r with
 | nil=>exact .nil
 | @cons p q ps qs h t ih=>
  rw[RL,RL]
  refine .cons ?_ ih
  obtain⟨h1,h2,h3⟩:=h
  unfold putAt
  by_cases e:p.1=k
  .rw[UH e,UH (h1.symm.trans e)];exact⟨h1,h2,ry⟩
  .rw[UF e,UF (fun z=>e (h1.trans z))];exact⟨h1,h2,h3⟩
theorem KT.put  (r:KT H kvs xs) (k:List Key) (hb:H b=f' (.tup (k.map kV))) (ry:aD y u) :
  KT H (cg kvs k y) (storedH xs k b u):=by
 have e:(kvs.any fun kv=>decide (kv.1=k))=(Yd xs k).isSome:=by
  rw[sh,(r.val k).Zh,TM]
 unfold cg storedH
 rw[e]
 by_cases q:(Yd xs k).isSome=B'
 .rw[UH q,UH q];exact r.QbF k ry
 .rw[UF q,UF q];exact QfG r ⟨O,hb,ry⟩
theorem KT.keeps  (r:KT H kvs xs) (ht:∀ b ys,H b=f' (.tup ys)→H' b=f' (.tup ys)):KT H' kvs xs:=
 Paired.Qbx r fun _ _ z=>⟨z.1,ht _ _ z.2.1,z.2.2⟩
section
variable {h:U6}
theorem Qdj {u:HO} (ok:Vu P w H h) (e:Rd H a u):cS P w H h a u:=e.ok ok
theorem lh {kvs:List (Key×V)} (ok:Vu P w H h) (e:Rd H a (.dK kvs)):kvs.length≤S'∧(a == We)=K'∧∃ vs,KV kvs vs∧h.DictOf (b9 P w) a vs:=
 show cS P w H h a (.dK kvs) from Qdj ok e
theorem oZ {kvs:List (Key×V)} (ok:Vu P w H h) (e:H a=f' (.dK kvs)):kvs.length≤S'∧(a == We)=K'∧∃ vs,KV kvs vs∧h.DictOf (b9 P w) a vs:=lh ok (.inl e)
theorem nS {ks:List Key} (ok:Vu P w H h) (e:H a=f' (.tup (ks.map kV))):(Y5 (b9 P w)).is h ks a:=by
 obtain⟨_,ah,r,o,h1,h2,n,h3⟩:=(show cS P w H h a (.tup (ks.map kV)) from ok a _ e)
 exact⟨o,ah.toArray,n,h1,h2,h3,by simpa using CZ r⟩
theorem l9  (ok:Vu P w H h) (e:Rd H a (.dT kvs)):kvs.length≤S'∧(a == We)=K' ∧
  ∃ xs,KT H kvs xs∧h.DictOfH (Y5 (b9 P w)) a xs:=by
 obtain⟨z,y,xs,r,o,es,ep,h1,h2,h3,h4,h5⟩:=(show cS P w H h a (.dT kvs) from Qdj ok e)
 refine⟨z,y,xs,r,o,es,ep,h1,h2,h3,h4,fun x hx=>?_,h5⟩
 have all:∀ {l:List (List Key×V)}{m:List (List Key×F'×L')},KT H l m→∀ x∈m,(Y5 (b9 P w)).is h x.1 x.2.1:=by
  intro l m q
  induction q with
  | nil=>intro x hx;exact nomatch hx
  | @cons p q ps qs hq t ih=>
   intro x hx
   rcases RS.mp hx with e|hx
   .subst e
    exact nS ok (by rw[← hq.1];exact hq.2.1)
   .exact ih x hx
 exact all r x hx
theorem Qhj  (ok:Vu P w H h) (e:H a=f' (.dT kvs)):kvs.length≤S'∧(a == We)=K' ∧
  ∃ xs,KT H kvs xs∧h.DictOfH (Y5 (b9 P w)) a xs:=l9 ok (.inl e)
end
def ci (H:Hp) (a:F') (y:V) (r:Option V):Prop:=
 (∃ kvs k,Rd H a (.dK kvs)∧y=kV k∧r=a8 kvs k)∨∃ kvs k b,Rd H a (.dT kvs)∧y=.ref b∧H b=f' (.tup (k.map kV))∧r=a8 kvs k
def pB (H:Hp) (a:F') (y v:V) (H':Hp):Prop:=
 (∃ kvs k,H a=f' (.dK kvs)∧y=kV k∧kvs.length<S'∧H'=upd H a (.dK (cg kvs k v))) ∨
 ∃ kvs k b,H a=f' (.dT kvs)∧y=.ref b∧H b=f' (.tup (k.map kV))∧kvs.length<S'∧H'=upd H a (.dT (cg kvs k v))
theorem ci.k {H:Hp}{a:F'}{kvs:List (Key×V)}{k:Key} (e:H a=f' (.dK kvs)):ci H a (kV k) (a8 kvs k):=.inl ⟨kvs,k,.inl e,O,O⟩
theorem pB.k {H:Hp}{a:F'}{kvs:List (Key×V)}{k:Key}{v:V} (e:H a=f' (.dK kvs)) (hl:kvs.length<S'):pB H a (kV k) v (upd H a (.dK (cg kvs k v))):=.inl ⟨kvs,k,e,O,hl,O⟩
section
variable {v:V}{r:L'}
theorem Inv.big (I:Inv X aa σ H s):We<s.heap.objs.size:=by
 have h:VU<s.heap.objs.size:=(I.mod.glob.keeps I.bk).lt
 exact Tp (by decide) h
theorem Qp  (hu:A.units + 1<Vt) (I:Inv X aa σ H s) (g:ci H a y (f' v)) (ry:aD y u) (h:∀ w' s',Inv X aa σ H s'→aD v w'→Q w' s') :
  M' (UD X.prog X.w) A (Xq (.ref a) u) Q E s:=by
 rcases g with⟨kvs,k,e,ey,l⟩|⟨kvs,k,b,e,ey,eb,l⟩
 .subst ey
  obtain⟨z,hd,vs,rel,dd⟩:=lh I.UJ e
  obtain⟨w',hw,d8⟩:=ee.some_of (v:=v) (o:=Ya vs k) (by rw[l];exact rel.val k)
  exact QfZ (iQ ry) dd.mapOf hw (h w' _ (I.tok _) d8)
 .subst ey
  cases (show u=UQ b from ry)
  obtain⟨z,hd,xs,rel,dd⟩:=l9 I.UJ e
  obtain⟨w',hw,d8⟩:=ee.some_of (v:=v) (o:=(Yd xs k).map (·.2)) (by rw[l];exact rel.val k)
  obtain⟨p,hp,dz⟩:=Zq.mp hw
  refine wpAny_getItem_heap (Zz hu) (nS I.UJ eb) dd hp ?_
  rw[dz]
  exact h w' _ (I.tok _) d8
theorem Qhk  (hu:A.units + 1<Vt) (I:Inv X aa σ H s) (g:ci H a y o) (ry:aD y u) (h:∀ s',Inv X aa σ H s'→Q (.bool o.isSome) s') :
  M' (UD X.prog X.w) A (Wh .In u (.ref a)) Q E s:=by
 rcases g with⟨kvs,k,e,ey,l⟩|⟨kvs,k,b,e,ey,eb,l⟩
 .subst ey
  obtain⟨z,hd,vs,rel,dd⟩:=lh I.UJ e
  refine wpAny_in_of (iQ ry) hd dd.mapOf ?_
  rw[← (rel.val k).Zh,← l]
  exact h _ (I.tok _)
 .subst ey
  cases (show u=UQ b from ry)
  obtain⟨z,hd,xs,rel,dd⟩:=l9 I.UJ e
  refine wpAny_in_heap (Zz hu) (nS I.UJ eb) hd dd ?_
  have q:=(rel.val k).Zh
  rw[TM] at q
  rw[← q,← l]
  exact h _ (I.tok _)
theorem PU  (hu:A.units + 1<Vt) (I:Inv X aa σ H s) (g:ci H a y o) (ry:aD y u) (h:∀ s',Inv X aa σ H s'→Q (.bool (!o.isSome)) s') :
  M' (UD X.prog X.w) A (Wh .NotIn u (.ref a)) Q E s:=by
 rcases g with⟨kvs,k,e,ey,l⟩|⟨kvs,k,b,e,ey,eb,l⟩
 .subst ey
  obtain⟨z,hd,vs,rel,dd⟩:=lh I.UJ e
  refine Qgi (iQ ry) hd dd.mapOf ?_
  rw[← (rel.val k).Zh,← l]
  exact h _ (I.tok _)
 .subst ey
  cases (show u=UQ b from ry)
  obtain⟨z,hd,xs,rel,dd⟩:=l9 I.UJ e
  refine wpAny_notIn_heap (Zz hu) (nS I.UJ eb) hd dd ?_
  have q:=(rel.val k).Zh
  rw[TM] at q
  rw[← q,← l]
  exact h _ (I.tok _)
theorem ua {ob:HO} (I:Inv X aa σ H s) (mu:ZO (H a)) (hs:XH a s.heap h') (he:∃ q,h'.get? a=f' q) (new:cS X.prog X.w (upd H a ob) h' a ob) :
  Inv X aa σ (upd H a ob) { s with heap:=h',toks:=t' }:=
 I.write (x:=a) (e:=a) mu (.inl O) (fun b q hb z=>(hs.2 b hb).trans z) he new
theorem y8 {kvs:List (Key×V)}{vs:List (Key×L')} (z:kvs.length≤S') (hd:(a == We)=K') (rel:KV kvs vs) (dd:h'.DictOf (b9 P w) a vs) :
  cS P w H' h' a (.dK kvs):=⟨z,hd,vs,rel,dd⟩
theorem PN {Q:Unit→UG→Prop} (hu:A.units + 1<Vt) (I:Inv X aa σ H s) (g:pB H a y v H') (ry:aD y u) (rv:aD v r) (h:∀ s',Inv X aa σ H' s'→Q () s') :
  M' (UD X.prog X.w) A (setItem (.ref a) u r) Q E s:=by
 rcases g with⟨kvs,k,e,ey,l,eH⟩|⟨kvs,k,b,e,ey,eb,l,eH⟩
 .subst ey eH
  obtain⟨z,hd,vs,rel,dd⟩:=oZ I.UJ e
  have hz:vs.length≤S':=by rw[← rel.length];exact z
  have hl:(cg kvs k v).length≤S':=by have:=t6 kvs k v;lia
  refine wpAny_setItem_pairs (hsz:=hz) (iQ ry) dd fun h' jR hs=>h _ ?_
  have he:∃ q,h'.get? a=f' q:=let ⟨q,_,_,hq,_⟩:=jR;⟨q,hq⟩
  exact ua I (by rw[e];exact Ws) hs he (y8 hl hd (rel.put k rv) jR)
 .subst ey eH
  cases (show u=UQ b from ry)
  obtain⟨z,hd,xs,rel,dd⟩:=Qhj I.UJ e
  have hz:xs.length≤S':=by rw[← Qbf rel];exact z
  have hl:(cg kvs k v).length≤S':=by have:=t6 kvs k v;lia
  refine wpAny_setItem_heap (hsz:=hz) (Zz hu) (nS I.UJ eb) dd fun h' jR hs=>h _ ?_
  obtain⟨q,es,ep,hq,h2,h3,h4,_,h5⟩:=jR
  refine ua I (by rw[e];exact Ws) hs ⟨q,hq⟩ ⟨hl,hd,_,(rel.put k eb rv).keeps fun c ys ec=>?_,q,es,ep,hq,h2,h3,h4,h5⟩
  rw[aj (bN ec e (fun z=>nomatch z))]
  exact ec
end
section
variable {kvs:List (Key×V)}{k:Key}
theorem Qhl {v:V} (I:Inv X aa σ H s) (e:H a=f' (.dK kvs)) (ry:aD (kV k) u) (l:a8 kvs k=f' v) (hm:more=[]∨∃ x,more=[x])
  (h:∀ w' s',Inv X aa σ (upd H a (.dK (iU kvs k))) s'→aD v w'→Q w' s'):M' (UD X.prog X.w) A (call (.builtin "dict.pop") (.ref a::u::more)) Q E s:=by
 obtain⟨z,hd,vs,rel,dd⟩:=oZ I.UJ e
 obtain⟨w',hw,d8⟩:=ee.some_of (v:=v) (o:=Ya vs k) (by rw[← l];exact rel.val k)
 have hp:(keyPart u).isSome=B':=by
  cases k with
  | inl i=>obtain⟨t,q⟩:=(show ∃ t,u=XJ i t from ry);subst q;rfl
  | inr x=>obtain⟨t,q⟩:=(show ∃ t,u=ZJ x t from ry);subst q;rfl
 have ha:argsOk "dict.pop" ⟨.ref a::u::more,[]⟩:=by
  rcases hm with q|⟨x,q⟩
  .subst q;exact PySem.F.args_dict_pop_2 _ _
  .subst q;exact PySem.F.args_dict_pop_3 _ _ _
 refine ZH QeQ dd.typeIs PySem.F.entry_dict_pop ha (meets_dict_pop_there (b9 X.prog X.w) a (iQ ry) more hm hp)
  ⟨vs,w',dd,by rw[← rel.length];exact z,hw,fun h' jR hs=>h w' _ ?_ d8⟩
 have he:∃ q,h'.get? a=f' q:=let ⟨q,_,_,hq,_⟩:=jR;⟨q,hq⟩
 exact ua I (by rw[e];exact Ws) hs he (y8 (RT (Lg kvs k) z) hd (rel.drop k) jR)
theorem Qhm  (I:Inv X aa σ H s) (e:Rd H a (.dK kvs)) (h:∀ t s',Inv X aa σ H s'→Q (.int kvs.length t) s'):M' (UD X.prog X.w) A (call (.builtin "len") [.ref a]) Q E s:=by
 obtain⟨z,hd,vs,rel,dd⟩:=lh I.UJ e
 refine call_len_dict hd dd (by rw[← rel.length];rw[Q9] at z;lia) ?_
 rw[← rel.length]
 exact h _ _ (I.tok _)
end
def QbG (i:UY):Prop:=∀ ov iv,Qbo i K' ov iv=operate [ov,iv] (Xq ov iv)
theorem DZ {env:VZ}{slice:UY}
  (hl:Xn (.type T) "__getitem__"=pure (f' (.builtin id))) (hs:QbG slice)
  (h:M' (UD prog w) A (UV value env) (fun o s₁=>M' (UD prog w) A (UV slice env) (fun i s₂=>s₂.TypeIs o T∧M' (UD prog w) A (Xq o i) Q E s₂) E s₁) E s) :
  M' (UD prog w) A (UV (.Subscript value slice pos) env) Q E s:=by
 refine QcX (RP h (fun o s₁ h₁=>RP h₁ (fun i s₂ h₂=>?_) fun _ _ x=>x) fun _ _ x=>x)
 obtain⟨hT,h₂⟩:=h₂
 unfold QcN
 refine mT ?_
 rw[getitemInPython_of_ne hT.not_modules]
 refine mT (T7 hT hl ?_)
 have aT:M' (UD prog w) A (Qbo slice K' o i) (fun r s₃=>M' (UD prog w) A (letTemporaryGo value o r >>= fun _=>pure r) Q E s₃) E s₂:=by
  rw[hs o i]
  exact wpAny_operating (RP h₂ (fun r s₃ h₃=>mT (wpAny_letTemporaryGo (Q5 h₃))) fun _ _ x=>x)
 first
  | exact Q5 (mT aT)
  | exact mT (Q5 (mT aT))
  | exact mT aT
theorem Kv  (I:Inv X aa σ H s) (g:ci H a y o):s.TypeIs (.ref a) "dict":=by
 rcases g with⟨kvs,k,e,_,_⟩|⟨kvs,k,b,e,_,_,_⟩
 .obtain⟨_,_,vs,_,dd⟩:=lh I.UJ e
  exact dd.typeIs
 .obtain⟨_,_,xs,_,dd⟩:=l9 I.UJ e
  exact dd.typeIs
def Qhn (td ty:TE):TE:=fun σ H Q=>td σ H fun x H1=>ty σ H1 fun y H2=>∃ a v,x=.ref a∧ci H2 a y (f' v)∧Q v H2
def Qho (ty td:TE):TE:=fun σ H Q=>ty σ H fun y H1=>td σ H1 fun x H2=>∃ a o,x=.ref a∧ci H2 a y o∧Q (.bl o.isSome) H2
def PH (ty td:TE):TE:=fun σ H Q=>ty σ H fun y H1=>td σ H1 fun x H2=>∃ a o,x=.ref a∧ci H2 a y o∧Q (.bl (!o.isSome)) H2
def Qhp (td ty tv:TE):TS:=fun D σ H=>tv σ H fun v H1=>td σ H1 fun x H2=>ty σ H2 fun y H3=>∃ a H4,x=.ref a∧pB H3 a y v H4∧D.nx σ H4
section
variable {o i:UY}{bu Zc:Vx}{td ty tv:TE}
theorem gb (hu:X.A.units + 1<Vt) (ho:PE X o td) (hi:PE X i ty) (hs:QbG i):PE X (.Subscript o i pos) (Qhn td ty):=by
 intro aa s σ H Q I h
 refine DZ Qez.lookup hs (UP (ho aa s σ H _ I h) fun u s1=>L2.U1 fun x H1 I1 rx q1=>UP (hi aa s1 σ H1 _ I1 q1) fun iv s2=>L2.U1 fun y H2 I2 ry aX=>?_)
 obtain⟨a,v,ex,g,q2⟩:=aX
 subst ex
 obtain rfl:u=UQ a:=rx
 exact⟨Kv I2 g,Qp hu I2 g ry fun w' s3 I3 d8=>⟨v,H2,I3,d8,q2⟩⟩
theorem Qhq (hu:X.A.units + 1<Vt) (hi:PE X i ty) (ho:PE X o td):PC X .In i o (Qho ty td):=by
 intro aa s σ H Q I h
 refine UP (hi aa s σ H _ I h) fun iv s1=>L2.U1 fun y H1 I1 ry q1=>UP (ho aa s1 σ H1 _ I1 q1) fun u s2=>L2.U1 fun x H2 I2 rx aX=>?_
 obtain⟨a,ov,ex,g,q2⟩:=aX
 subst ex
 obtain rfl:u=UQ a:=rx
 exact Qhk hu I2 g ry fun s3 I3=>⟨.bl ov.isSome,H2,I3,O,q2⟩
theorem xK (hu:X.A.units + 1<Vt) (hi:PE X i ty) (ho:PE X o td):PC X .NotIn i o (PH ty td):=by
 intro aa s σ H Q I h
 refine UP (hi aa s σ H _ I h) fun iv s1=>L2.U1 fun y H1 I1 ry q1=>UP (ho aa s1 σ H1 _ I1 q1) fun u s2=>L2.U1 fun x H2 I2 rx aX=>?_
 obtain⟨a,ov,ex,g,q2⟩:=aX
 subst ex
 obtain rfl:u=UQ a:=rx
 exact PU hu I2 g ry fun s3 I3=>⟨.bl (!ov.isSome),H2,I3,O,q2⟩
theorem rV (hu:X.A.units + 1<Vt) (ho:PE X o td) (hi:PE X i ty) (hv:PE X value tv) (hs:ZK value (f' (.Subscript o i bu)) pos.line X.env=pure K') :
  PS X (.Assign [.Subscript o i bu] value pos) (Qhp td ty tv):=by
 intro aa s σ H D I h
 refine wpAny_Assign_Subscript (UP (hv aa s σ H _ I h) fun r s1=>L2.U1 fun v H1 I1 rv q1=>UP (ho aa s1 σ H1 _ I1 q1) fun u s2=>L2.U1 fun x H2 I2 rx q2=>UP (hi aa s2 σ H2 _ I2 q2) fun iv s3=>L2.U1 fun y H3 I3 ry aX=>?_) hs
 obtain⟨a,H4,ex,g,q3⟩:=aX
 subst ex
 obtain rfl:u=UQ a:=rx
 exact PN hu I3 g ry rv fun s4 I4=>⟨σ,H4,I4,q3⟩
end
theorem tM  (h:U6) (hb:We<h.objs.size):cS P w H (h.push { cls:=.type "dict",data:=.dict #[] }) h.objs.size (.dK []):=
 ⟨RY _,Zy.mpr (UM (Rb hb)),[],.nil,Qcr h⟩
def Qhr:TE:=fun _ H Q=>∀ p,H p=i'→Q (.ref p) (upd H p (.dK []))
theorem sk:PE X (.Dict [] [] pos) Qhr:=fun aa s σ H Q I h=>
 wpAny_Dict_empty ⟨.ref s.heap.objs.size,_,I.laid (a:=s.heap.objs.size) (o:=.dK []) (t':=s.toks) (fun _ _ q=>Q4 _ q) (Q7 _) (tM s.heap I.big),O,h _ (I.UJ.fresh (Q7 _))⟩
def yK:List (TE×TE)→St→Hp→(List (V×V)→Hp→Prop)→Prop
 | [],_,H,Q=>Q [] H
 | (tk,tv)::r,σ,H,Q=>tk σ H fun x H1=>tv σ H1 fun y H2=>yK r σ H2 fun ps H3=>Q ((x,y)::ps) H3
abbrev VV:List (V×V)→List (L'×L')→Prop:=Y' fun p q=>aD p.1 q.1∧aD p.2 q.2
def ZY (X:Cx) (pos:Vx) (keys:List (Option UY)) (bH:List UY) (i9:List (TE×TE)):Prop:=
 ∀ (aa:List (F'×UZ)) (s:UG) (σ:St) (H:Hp) (Q:List (V×V)→Hp→Prop),Inv X aa σ H s→yK i9 σ H Q →
  M' (UD X.prog X.w) X.A (evalPairs (pairTrees keys bH X.env pos)) (fun vs s'=>∃ ps H',Inv X aa σ H' s'∧VV ps vs∧Q ps H') X.xe s
theorem CQ:ZY X pos [] [] []:=fun aa s σ H Q I h=>pairTrees_nil_walk ⟨[],H,I,.nil,h⟩
theorem CG {k v:UY}{ks:List (Option UY)}{vs:List UY}{tk tv:TE} (hk:PE X k tk) (hv:PE X v tv) (hr:ZY X pos ks vs i9) :
  ZY X pos (f' k::ks) (v::vs) ((tk,tv)::i9):=fun aa s σ H Q I h=>
 pairTrees_cons_walk (UP (hk aa s σ H _ I h) fun u s1=>L2.U1 fun x H1 I1 rx q1=>UP (hv aa s1 σ H1 _ I1 q1) fun w2 s2=>L2.U1 fun y H2 I2 ry q2=>
  UP (hr aa s2 σ H2 _ I2 q2) fun ws s3 ⟨ps,H3,I3,rel,q3⟩=>⟨(x,y)::ps,H3,I3,.cons ⟨rx,ry⟩ rel,q3⟩)
def jC (kvs more:List (Key×V)):List (Key×V):=more.foldl (fun acc kv=>cg acc kv.1 kv.2) kvs
theorem KV.merge:∀ {more:List (Key×V)}{rs:List (Key×L')}{kvs:List (Key×V)}{vs:List (Key×L')},KV more rs→KV kvs vs→KV (jC kvs more) (merged vs rs):=by
 intro more rs kvs vs r
 unfold KV at r
 induction r generalizing kvs vs with
 | nil=>intro q;exact q
 | @cons p q ps qs h t ih=>
  intro r0
  have e:KV (cg kvs p.1 p.2) (Xr vs q.1 q.2):=by
   have:=r0.put p.1 h.2
   rw[← h.1];exact this
  exact ih e
theorem Fn:∀ (more kvs:List (Key×V)),(jC kvs more).length≤kvs.length + more.length
 | [],kvs=>by show kvs.length≤kvs.length + 0;lia
 | p::r,kvs=>by
  have h1:=Fn r (cg kvs p.1 p.2)
  have h2:=t6 kvs p.1 p.2
  show(jC (cg kvs p.1 p.2) r).length≤_
  rw[Rh];lia
theorem B4 {P:Vz}{w:Vw}:∀ {kvs:List (Key×V)}{ws:List (L'×L')},VV (kvs.map fun kv=>(kV kv.1,kv.2)) ws→∃ rs,Carries (b9 P w) ws rs∧KV kvs rs
 | [],_,r=>by rw[Uu] at r;cases r;exact⟨[],Ws,.nil⟩
 | p::kvs,_,r=>by
  rw[RL] at r
  cases r with
  | @cons a b as bs h t=>
   obtain⟨rs,c,q⟩:=B4 (P:=P) (w:=w) t
   obtain⟨b1,b2⟩:=b
   exact⟨(p.1,b2)::rs,⟨iQ h.1,O,c⟩,.cons ⟨O,h.2⟩ q⟩
def Qdk (i9:List (TE×TE)):TE:=fun σ H Q=>∀ p,H p=i'→yK i9 σ (upd H p (.dK [])) fun ps H2=>H2 p=f' (.dK [])∧∃ kvs:List (Key×V),ps=kvs.map (fun kv=>(kV kv.1,kv.2))∧kvs.length≤15∧Q (.ref p) (upd H2 p (.dK (jC [] kvs)))
theorem Dq {keys:List (Option UY)}{bH:List UY} (h:ZY X pos keys bH i9) (mP:keys.all (·.isSome)=B') (hl:keys.length=bH.length) (h0:keys≠[])
  (Gs:keys.length≤15):PE X (.Dict keys bH pos) (Qdk i9):=by
 intro aa s σ H Q I q
 have hn:=I.UJ.fresh (Q7 s.heap.objs.size)
 have I1:=I.laid (a:=s.heap.objs.size) (o:=.dK []) (h':=s.heap.push { cls:=.type "dict",data:=.dict #[] }) (t':=s.toks) (fun _ _ q=>Q4 _ q) (Q7 _) (tM s.heap I.big)
 refine wpAny_Dict_walk (knd:=b9 X.prog X.w) mP hl h0 Gs (UP (h aa _ σ _ _ I1 (q _ hn)) fun ws s2=>L2.U1 fun ps H2 I2 rel aX=>?_)
 obtain⟨e,kvs,ep,lk,q2⟩:=aX
 subst ep
 obtain⟨rs,c,rk⟩:=B4 (P:=X.prog) (w:=X.w) rel
 obtain⟨z,hd,Q0,r0,dd⟩:=oZ I2.UJ e
 cases r0
 refine⟨rs,c,dd,fun h' jR hs=>⟨.ref s.heap.objs.size,_,?_,O,q2⟩⟩
 have hz:(jC [] kvs).length≤S':=by
  have h1:=Fn kvs []
  rw[Qfv] at h1
  rw[Q9];lia
 have he:∃ q,h'.get? s.heap.objs.size=f' q:=let ⟨q,_,_,hq,_⟩:=jR;⟨q,hq⟩
 exact ua I2 (by rw[e];exact Ws) hs he (y8 hz hd (rk.merge .nil) jR)
structure M1 (X:Cx) (o:UY) (m:C') (aJ:Vx) (e:UY) (aw:Vx):Prop where
 base:X7 o m X.env (UV o X.env)=UV o X.env
 VW:((Vq aw (UU [e] X.env)).all (fun x=>!x.1) && (Xf aw (Xd [] X.env)).all (fun x=>x.1.isSome)
  && decide (([e]:List UY).length + ([]:List Yb).length + (if ([]:List Yb).isEmpty then 0 else 1)<30))=B'
 line:(aJ.endLine == aw.line)=B'
 trees:Vq aw (UU [e] X.env)=[(K',UV e X.env)]
structure M2 (X:Cx) (o:UY) (m:C') (aJ:Vx) (e f:UY) (aw:Vx):Prop where
 base:X7 o m X.env (UV o X.env)=UV o X.env
 VW:((Vq aw (UU [e,f] X.env)).all (fun x=>!x.1) && (Xf aw (Xd [] X.env)).all (fun x=>x.1.isSome)
  && decide (([e,f]:List UY).length + ([]:List Yb).length + (if ([]:List Yb).isEmpty then 0 else 1)<30))=B'
 line:(aJ.endLine == aw.line)=B'
 trees:Vq aw (UU [e,f] X.env)=[(K',UV e X.env),(K',UV f X.env)]
def IsD (H:Hp) (a:F'):Prop:=(∃ kvs,Rd H a (.dK kvs))∨∃ kvs,Rd H a (.dT kvs)
theorem zp  (I:Inv X aa σ H s) (d:IsD H a) :
  s.TypeIs (.ref a) "dict"∧(∀ b,UQ a=.ref b→∃ ob,s.heap.get? b=f' ob∧ob.dict=i')∧(a == We)=K':=by
 rcases d with⟨kvs,e⟩|⟨kvs,e⟩
 .obtain⟨_,hd,vs,_,dd⟩:=lh I.UJ e
  refine⟨dd.typeIs,fun b q=>?_,hd⟩
  cases q
  obtain⟨ob,_,_,h1,h2,_⟩:=dd
  exact⟨ob,h1,h2.2.1⟩
 .obtain⟨_,hd,xs,_,dd⟩:=l9 I.UJ e
  refine⟨dd.typeIs,fun b q=>?_,hd⟩
  cases q
  obtain⟨ob,_,_,h1,h2,_⟩:=dd
  exact⟨ob,h1,h2.2.1⟩
section
variable {d:V}{r:L'}
theorem Qhs  (hu:A.units + 1<Vt) (I:Inv X aa σ H s) (g:ci H a y o) (ry:aD y u) (h:∀ w' s',Inv X aa σ H s'→aD (o.getD .UO) w'→Q w' s') :
  M' (UD X.prog X.w) A (call (.builtin "dict.get") [.ref a,u]) Q E s:=by
 rcases g with⟨kvs,k,e,ey,l⟩|⟨kvs,k,b,e,ey,eb,l⟩
 .subst ey
  obtain⟨z,hd,vs,rel,dd⟩:=lh I.UJ e
  refine ZH Zr dd.typeIs QaZ (QeG _ _) (meets_dict_get (b9 X.prog X.w) a (iQ ry) hd) ⟨_,dd.mapOf,h _ _ (I.tok _) ?_⟩
  rw[l]
  exact(rel.val k).getD rfl
 .subst ey
  cases (show u=UQ b from ry)
  obtain⟨z,hd,xs,rel,dd⟩:=l9 I.UJ e
  refine ZH Zr dd.typeIs QaZ (QeG _ _) (meetsH_dict_get (Y5 (b9 X.prog X.w)) a b hd) ⟨Zz hu,k,xs,nS I.UJ eb,dd,h _ _ (I.tok _) ?_⟩
  rw[l]
  exact(rel.val k).getD rfl
theorem Qht  (hu:A.units + 1<Vt) (I:Inv X aa σ H s) (g:ci H a y o) (ry:aD y u) (rd:aD d r) (h:∀ w' s',Inv X aa σ H s'→aD (o.getD d) w'→Q w' s') :
  M' (UD X.prog X.w) A (call (.builtin "dict.get") [.ref a,u,r]) Q E s:=by
 rcases g with⟨kvs,k,e,ey,l⟩|⟨kvs,k,b,e,ey,eb,l⟩
 .subst ey
  obtain⟨z,hd,vs,rel,dd⟩:=lh I.UJ e
  refine ZH Zr dd.typeIs QaZ (QeF _ _ _) (meets_dict_get_default (b9 X.prog X.w) a (iQ ry) hd r) ⟨_,dd.mapOf,h _ _ (I.tok _) ?_⟩
  rw[l]
  exact(rel.val k).getD rd
 .subst ey
  cases (show u=UQ b from ry)
  obtain⟨z,hd,xs,rel,dd⟩:=l9 I.UJ e
  refine ZH Zr dd.typeIs QaZ (QeF _ _ _) (meetsH_dict_get_default (Y5 (b9 X.prog X.w)) a b hd r) ⟨Zz hu,k,xs,nS I.UJ eb,dd,h _ _ (I.tok _) ?_⟩
  rw[l]
  exact(rel.val k).getD rd
end
def Qhu (td ty:TE):TE:=fun σ H Q=>td σ H fun x H1=>∃ a,x=.ref a∧IsD H1 a∧ty σ H1 fun y H2=>∃ o,ci H2 a y o∧Q (o.getD .UO) H2
def Qhv (td ty tx:TE):TE:=fun σ H Q=>td σ H fun x H1=>∃ a,x=.ref a∧IsD H1 a∧ty σ H1 fun y H2=>tx σ H2 fun z H3=>∃ o,ci H3 a y o∧Q (o.getD z) H3
def Qhw (td ty:TE):TE:=fun σ H Q=>td σ H fun x H1=>∃ a,x=.ref a∧IsD H1 a∧ty σ H1 fun y H2=>∃ kvs k v,H2 a=f' (.dK kvs)∧y=kV k∧a8 kvs k=f' v∧Q v (upd H2 a (.dK (iU kvs k)))
section
variable {o f:UY}{aJ aw:Vx}{td ty tx:TE}
theorem KR (hu:X.A.units + 1<Vt) (ho:PE X o td) (he:PE X e ty) (m:M1 X o "get" aJ e aw):PE X (.Call (.Attribute o "get" aJ) [e] [] aw) (Qhu td ty):=by
 intro aa s σ H Q I h
 refine TN m.base m.VW m.line QaW Zr QeP (UP (ho aa s σ H _ I h) fun u s1=>L2.U1 fun x H1 I1 rx aX=>?_)
 obtain⟨a,ex,d,q1⟩:=aX
 subst ex
 obtain rfl:u=UQ a:=rx
 obtain⟨t1,t2,_⟩:=zp I1 d
 refine⟨t1,t2,?_⟩
 rw[m.trees]
 refine Qac O (Qa2 (YW (UP (he aa s1 σ H1 _ I1 q1) fun iv s2 ⟨y,H2,I2,ry,ov,g,q2⟩=>Zx ?_)))
 exact Qhs hu I2 g ry fun w' s3 I3 d8=>⟨_,H2,I3,d8,q2⟩
theorem NY (hu:X.A.units + 1<Vt) (ho:PE X o td) (he:PE X e ty) (hf:PE X f tx) (m:M2 X o "get" aJ e f aw):PE X (.Call (.Attribute o "get" aJ) [e,f] [] aw) (Qhv td ty tx):=by
 intro aa s σ H Q I h
 refine TN m.base m.VW m.line QaW Zr QeP (UP (ho aa s σ H _ I h) fun u s1=>L2.U1 fun x H1 I1 rx aX=>?_)
 obtain⟨a,ex,d,q1⟩:=aX
 subst ex
 obtain rfl:u=UQ a:=rx
 obtain⟨t1,t2,_⟩:=zp I1 d
 refine⟨t1,t2,?_⟩
 rw[m.trees]
 refine Qac O (Qa2 (YW (UP (he aa s1 σ H1 _ I1 q1) fun iv s2=>L2.U1 fun y H2 I2 ry q2=>
  YW (UP (hf aa s2 σ H2 _ I2 q2) fun fv s3 ⟨z,H3,I3,rz,ov,g,q3⟩=>Zx ?_))))
 exact Qht hu I3 g ry rz fun w' s4 I4 d8=>⟨_,H3,I4,d8,q3⟩
theorem Pa (ho:PE X o td) (he:PE X e ty) (m:M1 X o "pop" aJ e aw):PE X (.Call (.Attribute o "pop" aJ) [e] [] aw) (Qhw td ty):=by
 intro aa s σ H Q I h
 refine TN m.base m.VW m.line QaW QeQ PySem.F.type_dict_pop (UP (ho aa s σ H _ I h) fun u s1=>L2.U1 fun x H1 I1 rx aX=>?_)
 obtain⟨a,ex,d,q1⟩:=aX
 subst ex
 obtain rfl:u=UQ a:=rx
 obtain⟨t1,t2,_⟩:=zp I1 d
 refine⟨t1,t2,?_⟩
 rw[m.trees]
 refine Qac O (Qa2 (YW (UP (he aa s1 σ H1 _ I1 q1) fun iv s2 ⟨y,H2,I2,ry,kvs,k,v,ea,ey,l,q2⟩=>Zx ?_)))
 subst ey
 exact Qhl I2 ea ry l (.inl O) fun w' s3 I3 d8=>⟨v,_,I3,d8,q2⟩
end
section
variable {kvs:List (Key×V)}
end
end L2
namespace Att
variable {P:Params}{h:Heap}{l:OpenLaw}{n:Nat}
open PySem PySem.W PySem.Calls PyProof.Rows
theorem Ol:∀ (ns:List Int) (vs:List L'),WellAll P h vs (ns.map Qgf)→Qat vs ns:=by
 intro ns
 induction ns with
 | nil=>
  intro vs w
  rw[List.map_nil] at w
  cases w
  exact .nil
 | cons n ns ih=>
  intro vs w
  rw[List.map_cons] at w
  cases w with
  | cons a b=>
   cases a
   exact .cons _ _ (ih _ b)
theorem MM  (hn:l.most=f' n){args:List WData}{mU:List L'}
  (kB:l.row.toRowW.claim.pre args=B') (cN:WellAll P h mU args) :
  ∃ a vs ns,mU=[UQ a]∧args=[WData.list (ns.map Qgf)]∧h.get? a=f' { cls:=.type "list",data:=.seq vs.toArray }∧Qat vs ns∧ns.length≤n:=by
 have IR:WShape.hasAll [] args [.list .int]=B':=(pre_splitW kB).1
 have hc:l.pre.holds [] { args:=args }=B':=(pre_splitW kB).2
 obtain⟨d,r,rfl,h1,h2⟩:=hasAllW_cons IR
 obtain rfl:=hasAllW_nil h2
 obtain⟨xs,rfl,h3⟩:=hasW_list h1
 obtain⟨ns,rfl⟩:=items_int h3
 have av:ns.length≤n:=by
  unfold Qbw.pre at hc
  have h4:(WTm.not (.lt (.lit (.int (n:Int))) (.len (.arg 0)))).holds [] { args:=[.list (ns.map .int)] }=B':=by
   have h4:=(holds_andW hc).1
   rw[hn] at h4
   exact h4
  have h5:=condW_of h4 (w_not (w_lt w_lit (w_len_list (w_arg O))))
  rw[List.length_map] at h5
  refine Nat.le_of_not_lt fun q=>?_
  have q':(n:Int)<((ns.length:Nat):Int):=by lia
  first
   | (rw[decide_eq_true q'] at h5;exact UR h5 (by decide))
   | (simp at h5;lia)
 cases cN with
 | cons w1 w2=>
  cases w2
  cases w1 with
  | list ho mP=>exact⟨_,_,ns,O,O,ho,Ol ns _ mP,av⟩
theorem Qo (l:Qbw) (args:List WData):l.row.toRowW.claim.post args (.bool B') args=B':=
 postW_of (r:=l.row.toRowW) (X:=(B' == B'))
  (show QfQ [] (.bool B') .bool=B' by first|rfl|decide|simp[QfQ,WShape.arms,WShape.armsAll])
  (show(WTm.eq .res (.lit (.bool B'))).value [] { args:=args,res:=f' (.bool B'),after:=args }=f' (.bool (B' == B')) from w_eq_bool (w_res O) w_lit) rfl
theorem ziF {q:Vz}{eE:List C'}{XP:(C'→Option L')→U6→Prop}{YP:Vw→U6→Prop}{d:DefRec}
  (hn:l.most=f' n) (lJ:d.params.defaults=[])
  (call:∀ (w:Vw) (s₀ s₁:UG) (mg mb:C'→Option L') (fa:F') (o:UZ) (pm cd ce:L') (a:F') (vs:List L') (ns:List Int),
   Ground q eE [] XP w s₀ mg mb s₁.heap→YP w s₁.heap →
   s₁.heap.get? fa=f' o→o.data=.func (docDef d.name d.params d.body d.scope pm cd ce)→s₁.heap.CodeRec cd d.name→mg d.name=f' (.ref fa) →
   s₁.heap.get? a=f' { cls:=.type "list",data:=.seq vs.toArray }→Qat vs ns→ns.length≤n→s₁.gens=#[] →
   Wj (UD l.prog w) Y8 (.call (.ref fa) ⟨[.ref a],[]⟩) (fun r s'=>r=.ok (.ret (.bool B'))∧OldK s₁.heap s'.heap∧s'.os=s₁.os∧XO s'.gens) s₁) :
  WalkO q eE XP YP l.row.toRowW d [] (fun f vs=>QcM f vs):=by
 intro w s₀ s₁ mg mb G Y fa o pm cd ce dV kV ho hd g8 hD re hg args mU as kB GF QP cN QF
 obtain rfl:dV=.none:=Dflts.none hD lJ
 obtain rfl:kV=.none:=Dflts.noKw hD
 obtain⟨a,vs,ns,rfl,rfl,mV,jn,av⟩:=MM hn kB cN
 refine enter_call (Yv (call w s₀ s₁ mg mb fa o pm cd ce a vs ns G Y ho (fd_plain hd) g8 re mV jn av hg) fun r s' hq=>?_)
 obtain⟨rfl,h2,h3,h4⟩:=hq
 exact⟨.inl ⟨.bool B',.bool B',[],O,fun _=>O,.bool B',Qo l _,fun _=>⟨QnX,fun _ hm=>(nomatch hm)⟩⟩,h2,h3,h4⟩
section
variable {prog:Vz}{w:Vw}{A:VQ}{E:L'→UG→Prop}{s:UG}{K:R'}
end
end Att
namespace L2
variable {A:Around}{C D T a b dx f fI it p:Addr}{E:Value→Shared→Prop}{H H' H1 H2:Hp}{M:Model}{N XN sn ys:List Str}{P prog:Program}{Q:Unit→Shared→Prop}{R:Result→Shared→Prop}{X:Cx}{aa:List (Addr×Obj)}{ah bm jq sub:List Value}{base h h' h₁:Heap}{bu pos:Pos}{c cd fl head u v:Value}{cap:List (Option Nat)}{ch fp:List Addr}{dd:Option Addr}{env:Env}{gQ:List Expr}{i j n t:Nat}{iter tg:Expr}{mg:Str→Option Value}{name qual x:Str}{newId:String}{o oI:Obj}{r:List (Str×NameKind)}{s:Shared}{scope:Scope}{tb:Option (Addr×Value)}{te:TE}{tt:TT}{vs:Array Value}{w:World}{wi:TI}{xs:List V}{σ τ:St}
open PySem PySem.Spec PyProof.Rows
theorem Cv:∀ {vs:List L'}{ns:List Int},Qat vs ns→aB (ns.map V.int) vs
 | _,_,.nil=>.nil
 | _,_,.cons n t h=>.cons ⟨t,O⟩ (Cv h)
def dk (s:US) (j:Nat):US:=match s with
 | .ClassDef _ _ _ body _ _ _ _ _ _ _=>body.getD j (.Pass ⟨0,0,0,0⟩)
 | _=>.Pass ⟨0,0,0,0⟩
def nM (s:US):QcZ:=match s with
 | .FunctionDef _ a _ _ _ _ _ _ _ _=>a
 | _=>{ posonlyargs:=[],args:=[],vararg:=i',kwonlyargs:=[],kw_defaults:=[],kwarg:=i',defaults:=[] }
def lj (s:US):List US:=match s with
 | .FunctionDef _ _ b _ _ _ _ _ _ _=>b
 | _=>[]
def az (s:US):WR:=match s with
 | .FunctionDef _ _ _ _ _ _ sc _ _ _=>sc
 | _=>{ kind:=.function,names:=[],isGenerator:=K',isCoroutine:=K' }
abbrev U8:W7:=fun _ _ _ _ _ _=>False
abbrev E0:XK:=fun _ _ _=>False
theorem rT:lf U8 X E0:=fun _ _ _ _ _ _ _ h=>h.elim
structure Fun (K:R') (x qual:C') (st:US) (f:F') (fd:WO):Prop where
 ex:∃ (oc:L') (od:Option F') (kV ce pm:L') (an:Option F') (ay ct:L') (eS:Array (Option L')),
  fd=X8 x qual (nM st) (lj st) (az st) .none kV ce pm an ay ct∧K.lookup f=f' ⟨oc,od,.func fd,eS⟩∧XE K ay qual=B'
 kp:WZ K (.ref f)=B'
section
variable {K:R'}
end
theorem cI {k:Nat} (hr:bw k A):A.units + 1<Vt:=Sc (Nat.add_le_add_left (by decide:1≤64) _) hr.units
theorem pv (i:Nat) (hN:X.N[i]?=f' x:=by rfl) (hv:Vis X.env.scope x:=by first|exact UL rfl|exact UK (UL O)|exact UK (UK O)) (hd:(x == ("__debug__":C'))=K':=by decide)
  (g8:(x == ("__classdict__":C'))=K':=by decide):PE X (.Name x pos) (ZT i):=Qgz hN hv hd g8
theorem Dv:fU X (.builtin "len") (fun xs H Q=>∃ a kvs,xs=[V.ref a]∧H a=f' (.dK kvs)∧Q (.int kvs.length) H):=by
 intro aa s σ H xs us Q I r h
 obtain⟨a,kvs,rfl,ha,q⟩:=h
 obtain⟨u,rfl,ru⟩:=gX r
 cases ru
 exact Qhm I (.inl ha) fun t s' I'=>⟨.int kvs.length,H,I',⟨t,O⟩,q⟩
theorem iL {A B:Prop} (h:B):if K'=B' then A else B:=by
 rw[UF Rk]
 exact h
theorem eh {A B:Prop} (h:A):if B'=B' then A else B:=by
 rw[UH rfl]
 exact h
def ae (H H':Hp):Prop:=∀ b o,H b=f' o→H' b=f' o
theorem ae.refl (H:Hp):ae H H:=fun _ _ h=>h
theorem ae.trans  (a:ae H H1) (b:ae H1 H2):ae H H2:=fun c o h=>b c o (a c o h)
theorem ae.seq {K:R'} (e:ae H H') (h:P' K H a xs):P' K H' a xs:=by
 rcases h with(h|⟨o,h⟩)|h
 .exact .inl (.inl (e _ _ h))
 .exact .inl (.inr ⟨o,e _ _ h⟩)
 .exact .inr h
section
variable {κ:Type} [DecidableEq κ]
theorem Lh {p:κ×V}{r:List (κ×V)}{k:κ} (e:p.1=k):iU (p::r) k=iU r k:=by
 unfold iU
 rw[RM,UF (by simp[e])]
theorem NP {p:κ×V}{r:List (κ×V)}{k:κ} (e:¬ p.1=k):iU (p::r) k=p::iU r k:=by
 unfold iU
 rw[RM,UH (by simp[e])]
end
def gj (cells:List (C'×F')):List (C'×W3)→List (C'×F')→List (C'×F')
 | [],acc=>acc
 | (n,k)::r,acc=>gj cells r (if (k == Wp)=B' then(n,(cells.lookup n).getD 0)::acc else acc)
theorem FD  (h:∀ y∈scope.names,y.2=.free→(env.cells.lookup y.1).isSome=B') :
  closureFor scope env=pure (gj env.cells scope.names []):=by
 simp only[closureFor]
 generalize scope.names=l at h ⊢
 generalize ([]:List (C'×F'))=acc
 induction l generalizing acc with
 | nil=>rfl
 | cons x r ih=>
  obtain⟨n,k⟩:=x
  have hr:=fun y hy=>h y (Rc _ hy)
  by_cases hk:k=.free
  .subst hk
   obtain⟨c,hc⟩:=Xj.mp (h (n,.free) Rr O)
   have pZ:=ih hr ((n,c)::acc)
   simp only[SN,cellOf,hc,gj,ZE,WE,Option.getD_some] at pZ ⊢
   exact pZ
  .have hb:(k == Wp)=K':=by simpa using hk
   have pZ:=ih hr acc
   simp only[SN,gj,hb,RO,VO] at pZ ⊢
   exact pZ
theorem tX {cells:List (C'×F')}{x:C'}{c:F'}:∀ {l:List (C'×W3)}{acc:List (C'×F')},(∀ y∈l,y.2=.free→(cells.lookup y.1).isSome=B') →
  (gj cells l acc).lookup x=f' c→acc.lookup x=f' c∨cells.lookup x=f' c
 | [],_,_,h=>.inl h
 | (n,k)::r,acc,hf,h=>by
  have hr:∀ y∈r,y.2=.free→(cells.lookup y.1).isSome=B':=fun y hy=>hf y (Rc _ hy)
  by_cases hk:k=.free
  .subst hk
   rcases tX (l:=r) hr (show(gj cells r ((n,(cells.lookup n).getD 0)::acc)).lookup x=f' c from h) with q|q
   .rw[R6] at q
    by_cases hx:x=n
    .subst hx
     rw[ZE] at q
     obtain⟨c',hc⟩:=Xj.mp (hf (x,.free) Rr O)
     have hc:cells.lookup x=f' c':=hc
     rw[hc] at q ⊢
     exact .inr q
    .rw[Zy.mpr hx] at q
     exact .inl q
   .exact .inr q
  .have hb:¬ (k == Wp)=B':=by simpa using hk
   have h':(gj cells r (if (k == Wp)=B' then(n,(cells.lookup n).getD 0)::acc else acc)).lookup x=f' c:=h
   rw[UF hb] at h'
   exact tX hr h'
theorem yS {cells:List (C'×F')}{x:C'}:∀ {l:List (C'×W3)}{acc:List (C'×F')},((x,Wp)∈l∨(acc.lookup x).isSome=B')→((gj cells l acc).lookup x).isSome=B'
 | [],_,h=>by
  rcases h with h|h
  .cases h
  .exact h
 | (n,k)::r,acc,h=>by
  show((gj cells r (if (k == Wp)=B' then(n,(cells.lookup n).getD 0)::acc else acc)).lookup x).isSome=B'
  refine yS ?_
  rcases h with h|h
  .rcases RS.mp h with e|e
   .cases e
    right
    rw[UH (by rfl),R6,ZE]
    rfl
   .exact .inl e
  .right
   by_cases hb:(k == Wp)=B'
   .rw[UH hb,R6]
    cases hx:x == n with
    | true=>rfl
    | false=>exact h
   .rw[UF hb]
    exact h
theorem Fv (c:Bool){n:C'}{k:W3} (hx:(x == n)=B'):((if c=B' then(n,XG) else(n,k))::r).lookup x=f' (if c=B' then .cell else k):=by
 cases c <;> simp[R6,hx]
theorem CH (c:Bool){n:C'}{k:W3} (hx:(x == n)=K'):((if c=B' then(n,XG) else(n,k))::r).lookup x=r.lookup x:=by
 cases c <;> simp[R6,hx]
theorem CW {env:VZ}:∀ {names:List (C'×W3)}{x:C'},names.lookup x=f' .free →
  (names.map fun(n,k)=>if (k == Wp && env.scope.kind == .function && env.kindOf n == f' .cell) then(n,XG) else(n,k)).lookup x=f' .cell ∨
  (names.map fun(n,k)=>if (k == Wp && env.scope.kind == .function && env.kindOf n == f' .cell) then(n,XG) else(n,k)).lookup x=f' .free
 | [],_,h=>by simp at h
 | (n,k)::r,x,h=>by
  have ih:=@CW env r x
  rw[R6] at h
  rw[RL]
  cases hx:x == n with
  | true=>
   rw[hx] at h
   cases h
   dsimp only
   rw[Fv _ hx]
   cases (Wp == Wp && env.scope.kind == .function && env.kindOf n == f' .cell) with
   | true=>exact .inl rfl
   | false=>exact .inr rfl
  | false=>
   rw[hx] at h
   dsimp only
   rw[CH _ hx]
   exact ih h
theorem zq {env:VZ}:∀ {names:List (C'×W3)}{x:C'}{k':W3},(k'=.cell∨k'=.free) →
  (names.map fun(n,k)=>if (k == Wp && env.scope.kind == .function && env.kindOf n == f' .cell) then(n,XG) else(n,k)).lookup x=f' k' →
  ∃ k,(k=.free∨k=.cell)∧(x,k)∈names
 | [],_,_,_,h=>by simp at h
 | (n,k)::r,x,k',hk,h=>by
  have ih:=@zq env r x k' hk
  rw[RL] at h
  dsimp only at h
  cases hx:x == n with
  | true=>
   have e:x=n:=eq_of_beq hx
   subst e
   rw[Fv _ hx] at h
   cases hc:(k == Wp && env.scope.kind == .function && env.kindOf x == f' .cell) with
   | true=>
    simp only[Rn,Wg] at hc
    obtain⟨⟨rfl,_⟩,_⟩:=hc
    exact⟨.free,.inl O,Rr⟩
   | false=>
    rw[hc] at h
    have h:f' k=f' k':=h
    cases h
    rcases hk with rfl|rfl
    .exact⟨_,.inr O,Rr⟩
    .exact⟨_,.inl O,Rr⟩
  | false=>
   rw[CH _ hx] at h
   obtain⟨k2,h1,h2⟩:=ih h
   exact⟨k2,h1,Rc _ h2⟩
def iO (X:Cx) (scope:WR) (cl:List (C'×F')) (C:F') (N:List C') (s:UG) (H:Hp) (fp:List F') (aa:List (F'×UZ)):Cx:=
 { X with N:=N,s₀:=s,H₀:=H,env:=compEnvC scope cl C X.env,outer:=X.stack,stack:=X.stack,ex:=fp,fn:=fun _=>K',pn:=X.pn++aa,xe:=fun _ _=>False }
def oV (cap:List (Option Nat)) (σ:St):St:=cap.map fun o=>o.bind fun j=>(σ[j]?).join
def QbH:Option W3→Bool
 | some .cell=>B'
 | some .free=>B'
 | _=>K'
def gY (sc:WR) (XN:List C'):List (Option Nat)→List C'→Bool
 | [],[]=>B'
 | some j::r,x::xs=>(XN[j]? == f' x) && (sc.names.lookup x == f' Wp) && gY sc XN r xs
 | none::r,_::xs=>gY sc XN r xs
 | _,_=>K'
def iR (osc sc:WR) (XN N:List C') (cap:List (Option Nat)):Bool:=
 (sc.kind == ScopeKind.function) && sc.names.all (fun y=>y.2 != XG) && sc.names.all (fun y=>y.2 != W3.local || sc.names.lookup y.1 == f' W3.local) &&
 sc.names.all (fun y=>y.2 != Wp || QbH (osc.names.lookup y.1)) && gY sc XN cap N
theorem zU {sc:WR}{XN:List C'}:∀ {cap:List (Option Nat)}{N:List C'},gY sc XN cap N=B'→cap.length=N.length
 | [],[],_=>rfl
 | some _::r,_::xs,h=>by
  simp only[gY,Rn] at h
  simp[zU h.2]
 | none::r,_::xs,h=>by
  simp only[gY] at h
  simp[zU h]
 | [],_::_,h=>by simp[gY] at h
 | some _::_,[],h=>by simp[gY] at h
 | none::_,[],h=>by simp[gY] at h
theorem xP {sc:WR}{XN:List C'}:∀ {cap:List (Option Nat)}{N:List C'}{i j:Nat}{x:C'},gY sc XN cap N=B'→cap[i]?=f' (f' j)→N[i]?=f' x→XN[j]?=f' x∧sc.names.lookup x=f' .free
 | [],_,i,_,_,_,h,_=>by simp at h
 | some _::r,y::xs,0,j,x,h,h1,h2=>by
  simp only[gY,Rn,Wg] at h
  simp at h1 h2
  subst h1;subst h2
  exact⟨h.1.1,h.1.2⟩
 | some _::r,y::xs,i + 1,j,x,h,h1,h2=>by
  simp only[gY,Rn] at h
  exact xP (i:=i) h.2 (by simpa using h1) (by simpa using h2)
 | none::r,y::xs,0,j,x,h,h1,h2=>by simp at h1
 | none::r,y::xs,i + 1,j,x,h,h1,h2=>by
  simp only[gY] at h
  exact xP (i:=i) h (by simpa using h1) (by simpa using h2)
 | some _::_,[],_,_,_,h,_,_=>by simp[gY] at h
 | none::_,[],_,_,_,h,_,_=>by simp[gY] at h
theorem Inv.Qaz (I:Inv X aa σ H s) (ok:iR X.env.scope scope X.N N cap=B'):∀ y∈scope.names,y.2=.free→(X.env.cells.lookup y.1).isSome=B':=fun y hy hf=>by
 simp only[iR,Rn,Sd] at ok
 have h:=ok.1.2 y hy
 rw[hf] at h
 have h':QbH (X.env.scope.names.lookup y.1)=B':=by simpa using h
 have hk:X.env.kindOf y.1=f' .cell∨X.env.kindOf y.1=f' .free:=by
  show X.env.scope.names.lookup y.1=_∨X.env.scope.names.lookup y.1=_
  cases e:X.env.scope.names.lookup y.1 with
  | none=>rw[e] at h';cases h'
  | some k=>
   rw[e] at h'
   cases k <;> first|exact .inl rfl|exact .inr rfl|cases h'
 obtain⟨c,e⟩:=I.ok.has y.1 hk
 rw[e]
 rfl
theorem Inv.comp (I:Inv X aa σ H s) (ok:iR X.env.scope scope X.N N cap=B') (f:∀ b∈fp,cJ X aa H b) (fo:∀ b∈fp,∃ o,s.heap.get? b=f' o){tk:Nat}{JW:UZ}
  (hn:h₁.Ns (s.heap.push { cls:=.type "list",data:=.seq #[] }).objs.size (fun _=>i'))
  (hs:XH (s.heap.push { cls:=.type "list",data:=.seq #[] }).objs.size ((s.heap.push { cls:=.type "list",data:=.seq #[] }).push JW) h₁) :
  Inv (iO X scope (gj X.env.cells scope.names []) (s.heap.push { cls:=.type "list",data:=.seq #[] }).objs.size N { s with heap:=s.heap.push { cls:=.type "list",data:=.seq #[] } } (upd H s.heap.objs.size (.lst [])) fp aa)
   [] (oV cap σ) (upd H s.heap.objs.size (.lst [])) { s with heap:=h₁,toks:=tk }:=by
 have z9:=ok
 simp only[iR,Rn,Sd,Wg] at ok
 obtain⟨⟨⟨⟨cC,dG⟩,_⟩,_⟩,jy⟩:=ok
 have cl:=I.Qaz z9
 have hC:(s.heap.push { cls:=.type "list",data:=.seq #[] }).objs.size=s.heap.objs.size + 1:=RE ..
 generalize Aw:(s.heap.push { cls:=.type "list",data:=.seq #[] }).objs.size=C at hn hs hC ⊢
 have below:∀ b o,s.heap.get? b=f' o→b≠C∧b≠s.heap.objs.size:=fun b o e=>by
  have:=Q6 e
  exact⟨by rw[hC];exact Rb (R0 this),Rb this⟩
 have old:∀ b o,s.heap.get? b=f' o→h₁.get? b=f' o:=fun b o e=>hs.extBut b o (below b o e).1 (Q4 _ (Q4 _ e))
 have sL:∀ b o,s.heap.get? b=f' o→(s.heap.push { cls:=.type "list",data:=.seq #[] }).get? b=f' o:=fun b o e=>Q4 _ e
 have qh:∀ b o,(s.heap.push { cls:=.type "list",data:=.seq #[] }).get? b=f' o→h₁.get? b=f' o:=fun b o e=>by
  have:b<C:=by rw[← Aw];exact Q6 e
  exact hs.extBut b o (Rb this) (Q4 _ e)
 have hD:H s.heap.objs.size=i':=I.UJ.fresh (Q7 _)
 have g7:∀ b o,s.heap.get? b=f' o→H b=i'→upd H s.heap.objs.size (.lst []) b=i':=fun b o e n=>by rw[aj (below b o e).2];exact n
 have Hf:upd H s.heap.objs.size (.lst []) C=i':=by
  rw[aj (by rw[hC];exact Sa (Sb _))]
  exact I.UJ.fresh (by rw[hC];exact RJ _)
 have bX:∀ x c,(gj X.env.cells scope.names []).lookup x=f' c→X.env.cells.lookup x=f' c:=fun x c e=>by
  rcases tX cl e with q|q
  .simp at q
  .exact q
 have lT:∀ x c,(gj X.env.cells scope.names []).lookup x=f' c→∃ v o,s.heap.IsCell c v∧s.heap.get? c=f' o:=fun x c e=>by
  obtain⟨v,q⟩:=I.cell x c (bX x c e)
  obtain⟨o,ho,_⟩:=id q
  exact⟨v,o,q,ho⟩
 have wy:Vu X.prog X.w (upd H s.heap.objs.size (.lst [])) h₁:=I.UJ.laid old (Q7 _) (show cS X.prog X.w _ h₁ s.heap.objs.size (.lst []) from⟨RY _,[],0,.nil,qh _ _ (Ra _ O)⟩)
 have wW:∀ b∈VA X.stack,∃ o,s.heap.get? b=f' o:=fun b hb=>by
  obtain⟨_,o,ho,_⟩:=I.stack.mem hb
  exact⟨o,ho⟩
 refine⟨⟨I.ok.mod,cC,I.ok.glob,I.ok.blt,S8 Aw,fun y z c h1 h2=>I.ok.inj y z c (bX y c h1) (bX z c h2),fun y hy=>?_,fun y c hf _=>Bool.noConfusion hf,I.XW.new hD,I.ok.frames,.inl O,fun b hb=>?_,
   fun b o e=>⟨sL b o (I.bs b o e).1,g7 b o (I.bs b o e).1 (I.bs b o e).2⟩,?_,fun b o e hb=>?_,fun b hb HC=>?_,?_,fun b hb=>?_⟩,
  rfl,I.bare,Un.kept qh,⟨_,hn,fun i x v h1 h2 h3=>?_⟩,fun x c e=>?_,Hf,fun x c e=>?_,fun p hp=>?_,wy,?_⟩
 ·-- has
  have hy:(relabel scope X.env).names.lookup y=f' .cell∨(relabel scope X.env).names.lookup y=f' .free:=hy
  have:(y,Wp)∈scope.names:=by
   rcases hy with q|q
   .obtain⟨k,hk,hm⟩:=zq (.inl O) q
    rcases hk with rfl|rfl
    .exact hm
    .exact UR (show(XG != XG)=B' from dG _ hm) (by decide)
   .obtain⟨k,hk,hm⟩:=zq (.inr O) q
    rcases hk with rfl|rfl
    .exact hm
    .exact UR (show(XG != XG)=B' from dG _ hm) (by decide)
  exact Xj.mp (yS (.inl this))
 ·-- ZP
  obtain⟨o,e⟩:=fo b hb
  exact⟨(below b o e).1,fun x c q=>(f b hb).2.2.2.2.1 x c (bX x c q)⟩
 ·-- Xg
  show X.base.objs.size≤(s.heap.push { cls:=.type "list",data:=.seq #[] }).objs.size
  rw[RE]
  exact RN (RT I.ok.Xg I.sz)
 ·-- Yg
  rcases(f b hb).2.2.2.1 with q|q
  .exact I.ok.Yg b o e q
  .exact UR (Rq (Q6 (I.ok.bs b o e).1) q) (Ry _)
 ·-- YF
  rcases RS.mp (I.WU b HC) with q|q
  .exact(f b hb).2.1 q
  .exact(f b hb).2.2.1 q
 ·-- WA
  exact I.stack.of_keeps fun b o e _=>⟨o,sL b o e,O⟩
 ·-- Xt
  obtain⟨o,e⟩:=wW b hb
  exact g7 b o e (I.Qau b hb)
 ·-- loc
  have hi:∃ j,cap[i]?=f' (f' j)∧σ[j]?=f' (f' v):=by
   unfold oV at h2
   rw[Rx] at h2
   cases e:cap[i]? with
   | none=>rw[e] at h2;cases h2
   | some o=>
    rw[e] at h2
    cases o with
    | none=>cases h2
    | some j=>
     refine⟨j,O,?_⟩
     have iF:(σ[j]?).join=f' v:=VE h2
     cases e2:σ[j]? with
     | none=>rw[e2] at iF;cases iF
     | some o2=>rw[e2] at iF;rw[show o2=f' v from iF]
  obtain⟨j,hj,hv⟩:=hi
  obtain⟨hX,tF⟩:=xP jy hj h1
  have pR:(x,Wp)∈scope.names:=Zs tF
  have Au:=z9
  simp only[iR,Rn,Sd] at Au
  have h':QbH (X.env.scope.names.lookup x)=B':=by simpa using Au.1.2 _ pR
  have hk:X.env.scope.names.lookup x=f' .cell∨X.env.scope.names.lookup x=f' .free:=by
   cases e:X.env.scope.names.lookup x with
   | none=>rw[e] at h';cases h'
   | some k=>
    rw[e] at h'
    cases k <;> first|exact .inl rfl|exact .inr rfl|cases h'
  obtain⟨m,_,hl⟩:=I.loc
  obtain⟨u,ru,lk⟩:=hl j x v hX hv (hk.elim (fun q=>.inr (.inl q)) fun q=>.inr (.inr q))
  refine⟨u,ru,.inr ⟨CW tF,?_⟩⟩
  rcases lk with⟨q,_⟩|⟨_,c,hc,mW⟩
  .have q':X.env.scope.names.lookup x=f' .local:=q
   rcases hk with z|z
   .rw[z] at q';cases q'
   .rw[z] at q';cases q'
  .obtain⟨c',jk⟩:=Xj.mp (yS (cells:=X.env.cells) (acc:=[]) (.inl pR))
   have:c'=c:=by
    have:=bX x c' jk
    rw[hc] at this
    exact(VE this).symm
   subst this
   obtain⟨o,ho,hd⟩:=mW
   exact⟨c',jk,o,old c' o ho,hd⟩
 ·-- cell
  obtain⟨v,o,⟨o',ho,hd⟩,_⟩:=lT x c e
  exact⟨v,o',old c o' ho,hd⟩
 ·-- V0
  obtain⟨v,o,_,ho⟩:=lT x c e
  exact g7 c o ho (I.V0 x c (bX x c e))
 ·-- aa
  have Hy:p∈X.pn++aa:=by simpa [iO] using hp
  obtain⟨e,n,ne,nf,d⟩:=I.pin p Hy
  refine⟨old _ _ e,g7 _ _ e n,(below _ _ e).1,fun z=>?_,d⟩
  rcases RS.mp (I.WU p.1 z) with q|q
  .exact ne q
  .exact nf q
 ·-- len
  show(oV cap σ).length=N.length
  unfold oV
  rw[Q3]
  exact zU jy
theorem NJ {gF cP:UY}{it acc:L'} (J:Nat→UG→Prop)
  (gK:∀ n s,J n s→M' (UD prog w) A (Vs it) (fun r s₁=>match r with
   | none=>R (.ok .next) s₁
   | some v=>M' (UD prog w) A (Qbg cP it v) (fun _ s₂=>M' (UD prog w) A (YA cP env v) (fun _ s₃=>
     M' (UD prog w) A (forIn gQ B' fun c r=>if r=B' then do let ok ← ZM c env (UV c env);pure (Qa4 ok) else pure (Qa4 r)) (fun ok s₄=>
      if ok=B' then M' (UD prog w) A (UV gF env) (fun x s₅=>
       M' (UD prog w) A (call (.builtin "list.append") [acc,x]) (fun _ s₆=>∃ m,m<n∧J m s₆) (fun _ _=>False) s₅) (fun _ _=>False) s₄
      else ∃ m,m<n∧J m s₄) (fun _ _=>False) s₃) (fun _ _=>False) s₂) (fun _ _=>False) s₁) (fun _ _=>False) s)
  (n:Nat) (h:J n s):Wj (UD prog w) A (.compLoop (.ListComp gF [⟨cP,iter,gQ,0⟩] scope pos) 0 it acc env) R s:=by
 have no:∀ {E:L'→UG→Prop} (e:L') (s':UG),(fun(_:L') (_:UG)=>False) e s'→E e s':=fun _ _ z=>z.elim
 refine codeAny_loop O J (fun n s hI=>?_) n h
 show M' _ A ((compTurn (.ListComp gF [⟨cP,iter,gQ,0⟩] scope pos) 0 it acc env).onRaise (fun x=>do Qam x env;theTreesLotGoes x)) _ _ s
 refine wpAny_noted ?_
 rw[compTurn_list]
 refine mT (Sy (mT (RP (gK n s hI) (fun r s₁ h₁=>?_) no)))
 cases r with
 | none=>exact Q5 h₁
 | some v=>
  refine mT (RP h₁ (fun _ s₂ h₂=>mT (RP h₂ (fun _ s₃ h₃=>mT (RP h₃ (fun ok s₄ h₄=>?_) no)) no)) no)
  cases ok with
  | false=>exact Q5 ⟨O,h₄⟩
  | true=>
   exact mT (mT (RP h₄ (fun x s₅ h₅=>mT (RP h₅ (fun _ s₆ h₆=>Q5 (Q5 ⟨O,h₆⟩)) no)) no))
def Zi (X:Cx) (cs:List UY) (t:TT):Prop:=
 ∀ (aa:List (F'×UZ)) (s:UG) (σ:St) (H:Hp) (Q:Bool→Hp→Prop),Inv X aa σ H s→t σ H Q →
  M' (UD X.prog X.w) X.A (forIn cs B' fun c r=>if r=B' then do let ok ← ZM c X.env (UV c X.env);pure (Qa4 ok) else pure (Qa4 r)) (TP X aa σ Q) X.xe s
def dQ:TT:=fun _ H Q=>Q B' H
theorem cR:Zi X [] dQ:=fun _ _ _ H _ I h=>wpAny_tests_nil ⟨H,I,h⟩
theorem xT {c:UY}{t:TT} (h:PT X c t):Zi X [c] t:=fun aa s σ H Q I hq=>wpAny_tests_one (h aa s σ H Q I hq)
def jD (J:It) (D:F') (τ:St) (H:Hp) (g:TG) (tt:TT) (te:TE) (Q:VK):Prop:=
 ∃ W:Nat→Nat→St→Hp→Prop,(∃ m,W 0 m τ H)∧∀ i m τ H,W i m τ H →
  (J.stop i H∧Q (.ref D) H)∨(J.go i H∧∃ M:St→Hp→Prop,(∀ τ' H',M τ' H'→∃ m',m'<m∧W (i + 1) m' τ' H')∧∀ x H',J.ZW i H x H'→g x τ H' fun τ2 H2=>tt τ2 H2 fun b H3=>
   if b=B' then te τ2 H3 fun y H4=>∃ ys,H4 D=f' (.lst ys)∧ys.length<S'∧M τ2 (upd H4 D (.lst (ys++[y]))) else M τ2 H3)
def Qdl (wi:TI) (cap:List (Option Nat)) (g:TG) (tt:TT) (te:TE):TE:=fun σ H Q=>wi σ H fun J H1=>∀ D,H1 D=i'→jD J D (oV cap σ) (upd H1 D (.lst [])) g tt te Q
section
variable {gF:UY}{g:TG}
theorem DP {J:It}{tn:Nat→U6→Prop}{Q:VK}{RR:L'→F'→Result→UG→Prop}
  (hc:X.calm=B') (ok:iR X.env.scope scope X.N N cap=B')
  (hg:∀ cl C s H fp aa,PG (iO X scope cl C N s H fp aa) tg g) (hf:∀ cl C s H fp aa,Zi (iO X scope cl C N s H fp aa) gQ tt) (he:∀ cl C s H fp aa,PE (iO X scope cl C N s H fp aa) gF te)
  (I:Inv X aa σ H s) (T:lX X.prog X.w X.K tg J fp it tn) (st:tn 0 s.heap) (f:∀ b∈fp,cJ X aa H b)
  (q:∀ D,H D=i'→jD J D (oV cap σ) (upd H D (.lst [])) g tt te Q)
  (aT:∀ D C H' s' m,Inv X aa σ H' s'→cJ X aa H' C→s'.heap.Ns C m→Q (.ref D) H'→RR (.ref D) C (.ok .next) s') :
  M' (UD X.prog X.w) X.A (newList []) (fun acc s₃=>M' (UD X.prog X.w) X.A (newFunctionEnv scope X.env.globals (gj X.env.cells scope.names []) [] X.env.qual i' .none (f' X.env)) (fun qo s₄=>
   Wj (UD X.prog X.w) X.A (.compStart (.ListComp gF [⟨tg,iter,gQ,0⟩] scope pos) 0 (.ref it) acc { qo with scope:=relabel scope X.env }) (RR acc qo.locals) s₄) E s₃) E s:=by
 have lN:=ok
 simp only[iR,Rn,Sd,Wg] at lN
 obtain⟨⟨⟨⟨cC,dG⟩,_⟩,_⟩,jy⟩:=lN
 refine Sz (wpAny_newFunctionEnv (fun y hy=>by simpa using dG y hy) (by intro y hy;simp at hy) (fun h₁ p9 mQ=>?_) cC)
 dsimp only at p9 mQ ⊢
 have fo:∀ b∈fp,∃ o,s.heap.get? b=f' o:=fun b hb=>let ⟨o,e,_⟩:=T.obj _ _ st b hb;⟨o,e⟩
 have J0:=I.comp (h₁:=h₁) (tk:=s.toks + ([]:List (C'×L')).length) ok f fo p9 mQ
 have jw:H s.heap.objs.size=i':=I.UJ.fresh (Q7 _)
 obtain⟨W,⟨m0,w0⟩,gK⟩:=q _ jw
 generalize hY:iO X scope (gj X.env.cells scope.names []) (s.heap.push { cls:=.type "list",data:=.seq #[] }).objs.size N { s with heap:=s.heap.push { cls:=.type "list",data:=.seq #[] } } (upd H s.heap.objs.size (.lst [])) fp aa=Y at J0
 have below:∀ b∈fp,b<s.heap.objs.size:=fun b hb=>let ⟨o,e⟩:=fo b hb;Q6 e
 have cl:=I.Qaz ok
 have gW:∀ {H':Hp},(∀ b∈fp,H' b=i')→∀ b∈fp,cJ Y [] H' b:=fun {H'} hn b hb=>by
  subst hY
  refine⟨hn b hb,?_,fun z=>?_,.inl hb,fun x c e=>?_,fun p hp=>?_⟩
  .show b≠(s.heap.push { cls:=.type "list",data:=.seq #[] }).objs.size
   rw[RE]
   exact Rb (R0 (below b hb))
  .rcases RS.mp (I.WU b z) with q|q
   .exact(f b hb).2.1 q
   .exact(f b hb).2.2.1 q
  .refine(f b hb).2.2.2.2.1 x c ?_
   rcases tX cl e with z|z
   .simp at z
   .exact z
  .exact(f b hb).2.2.2.2.2 p (by simpa [iO] using hp)
 have Jy:PG Y tg g:=hY ▸ hg _ _ _ _ _ _
 have Io:Zi Y gQ tt:=hY ▸ hf _ _ _ _ _ _
 have II:PE Y gF te:=hY ▸ he _ _ _ _ _ _
 have e1:Y.prog=X.prog:=by subst hY;rfl
 have e2:Y.w=X.w:=by subst hY;rfl
 have e3:Y.K=X.K:=by subst hY;rfl
 have e4:Y.calm=B':=by subst hY;exact hc
 have e5:Y.A=X.A:=by subst hY;rfl
 have e6:Y.env=compEnvC scope (gj X.env.cells scope.names []) (s.heap.push { cls:=.type "list",data:=.seq #[] }).objs.size X.env:=by subst hY;rfl
 have e7:Y.xe=fun _ _=>False:=by subst hY;rfl
 have wS:∀ b∈fp,upd H s.heap.objs.size (.lst []) b=i':=fun b hb=>by rw[aj (Rb (below b hb))];exact(f b hb).1
 have iX:tn 0 h₁:=T.keep _ _ _ st fun b hb o e=>mQ.extBut b o (by
  have:=below b hb
  rw[RE]
  exact Rb (R0 this)) (Q4 _ (Q4 _ e))
 have loop:∀ s₃:UG,s₃={ s with heap:=h₁,toks:=s.toks + ([]:List (C'×L')).length } →
   Wj (UD X.prog X.w) X.A (.compLoop (.ListComp gF [⟨tg,iter,gQ,0⟩] scope pos) 0 (.ref it) (.ref s.heap.objs.size)
    (compEnvC scope (gj X.env.cells scope.names []) (s.heap.push { cls:=.type "list",data:=.seq #[] }).objs.size X.env)) (RR (.ref s.heap.objs.size) (s.heap.push { cls:=.type "list",data:=.seq #[] }).objs.size) s₃:=by
  rintro s₃ rfl
  refine NJ (fun n s'=>∃ i τ H',Inv Y [] τ H' s'∧tn i s'.heap∧(∀ b∈fp,H' b=i')∧W i n τ H') ?_ m0 ⟨0,_,_,J0,iX,wS,w0⟩
  rintro n s' ⟨i,τ,H',I',g9,qO,w'⟩
  rcases gK i n τ H' w' with⟨stop,qn⟩|⟨go,M,hM,step⟩
  .have z:=T.done Y e1 e2 e3 e4 i [] s' τ H' (fun _ _=>False) I' (gW qO) g9 stop
   rw[e5] at z
   refine UP z fun r s4 ⟨hr,I4⟩=>?_
   subst hr
   subst hY
   obtain⟨m,vV,_⟩:=I4.loc
   have ho:s4.os=s.os:=I4.os
   have un:Un (VA X.stack) fp H H' s.heap s4.heap:=by
    have u1:Un (VA X.stack) fp H (upd H s.heap.objs.size (.lst [])) s.heap (s.heap.push { cls:=.type "list",data:=.seq #[] }):=Un.laid (fun b u e=>Q4 _ e) (Q7 _) jw
    exact u1.trans I4.base
   have IX:Inv X aa σ H' s4:=I.Qc1 ho un I4.UJ I4.bare fun b hb=>⟨(f b hb).2.2.2.1,(f b hb).2.1,(f b hb).2.2.2.2.1,(f b hb).2.2.2.2.2⟩
   exact aT _ _ H' s4 m IX (I.WI (by rw[RE];exact RJ _) I4.free) vV qn
  .have z:=T.item Y e1 e2 e3 e4 i [] s' τ H' (fun _ _=>False) I' (gW qO) g9 go
   rw[e5] at z
   refine UP z fun r s4 ⟨u,hr,h4⟩=>?_
   subst hr
   refine UP h4 fun _ s5=>L2.U1 fun x H5 I5 r5 aX=>?_
   obtain⟨y5,fH,vP⟩:=aX
   have w4:=I5.pinned (gW vP) (T.obj _ _ fH)
   have zg:=Jy _ s5 τ H5 x u _ w4 r5 (step x H5 y5)
   rw[e1,e2,e5,e6,e7] at zg
   refine UP zg fun _ s6 ⟨τ6,H6,I6,q6⟩=>?_
   have zf:=Io _ s6 τ6 H6 _ I6 q6
   rw[e1,e2,e5,e6,e7] at zf
   refine UP zf fun b s7=>L2.Xs fun H7 I7 q7=>?_
   have again:∀ {H8:Hp}{s8:UG},Inv Y ([]++rF fp s5.heap) τ6 H8 s8→M τ6 H8→∃ m,m<n∧∃ i τ H',Inv Y [] τ H' s8∧tn i s8.heap∧(∀ b∈fp,H' b=i')∧W i m τ H':=fun {H8 s8} I8 w8=>by
    obtain⟨m',hm,w8⟩:=hM _ _ w8
    refine⟨m',hm,i + 1,τ6,H8,I8.Qav,T.keep _ _ _ fH fun b hb o e=>(I8.pin (b,o) (RA _ (RA _ (tS hb e)))).1,fun b hb=>?_,w8⟩
    obtain⟨o,e,d⟩:=T.obj _ _ fH b hb
    exact(I8.pin (b,o) (RA _ (RA _ (tS hb e)))).2.1
   cases b with
   | false=>exact again I7 q7
   | true=>
    have ze:=II _ s7 τ6 H7 _ I7 q7
    rw[e1,e2,e5,e6,e7] at ze
    refine UP ze fun v s8=>L2.U1 fun y H8 I8 r8 aX=>?_
    obtain⟨ys,hD,hz,q8⟩:=aX
    have za:=fS (X:=Y) _ s8 τ6 H8 (.ref s.heap.objs.size) [y] (.ref s.heap.objs.size) [v] (fun _ H9=>H9=upd H8 s.heap.objs.size (.lst (ys++[y]))) I8 O (.cons r8 .nil) ⟨_,ys,y,O,O,hD,hz,O⟩
    rw[e1,e2,e5,e7] at za
    refine UP za fun _ s9 ⟨_,H9,I9,_,e9⟩=>?_
    subst e9
    exact again I9 q8
 exact codeAny_compStart_list (loop _ O) (T.self X.A 0 _ _ _ iX (loop _ O))
theorem cz {osc:WR} (h1:X.env.scope=osc) (h2:X.N=XN) (ok:iR osc scope XN N cap=B'):iR X.env.scope scope X.N N cap=B':=by
 rw[h1,h2]
 exact ok
theorem cF (hc:X.calm=B') (ok:iR X.env.scope scope X.N N cap=B') (hi:PI X tg iter wi)
  (hg:∀ cl C s H fp aa,PG (iO X scope cl C N s H fp aa) tg g) (hf:∀ cl C s H fp aa,Zi (iO X scope cl C N s H fp aa) gQ tt) (he:∀ cl C s H fp aa,PE (iO X scope cl C N s H fp aa) gF te)
  (hs:∀ x,Qa9 iter X.env x=pure x:=by intro _;rfl):PE X (.ListComp gF [⟨tg,iter,gQ,0⟩] scope pos) (Qdl wi cap g tt te):=by
 intro aa s σ H Q I h
 have lN:=ok
 simp only[iR,Rn,Sd,Wg] at lN
 obtain⟨⟨⟨⟨cC,_⟩,gP⟩,_⟩,_⟩:=lN
 rw[eval_ListComp]
 refine TY (use:=i') O hs (FD (I.Qaz ok)) cC (fun y hy hl=>by simpa [hl] using gP y hy) (UP (hi aa s σ H _ I h) fun xv s1 h1=>UP h1 fun tD s2 h2=>?_)
 obtain⟨it,fp,tn,J,H2,e,I2,T,WJ,f2,q⟩:=h2
 subst e
 refine DP (RR:=fun acc C=>compPost (UD X.prog X.w) X.A X.xe i' (EP X aa σ Q) acc C) hc ok hg hf he I2 T WJ f2 q ?_
 intro D C H' s' m I' fC hn qn
 obtain⟨f0,f1,Jw,f3,f4,f5⟩:=fC
 exact⟨m,hn,fun h' sb=>⟨.ref D,H',I'.turned (t':=s'.toks) (fun b o hb e=>sb.extBut b o hb e) f0 f1 f3 f4 f5,O,qn⟩⟩
theorem NF {qY:Vx} (hN:X.N.Nodup) (HG:X.N[i]?=f' x) (hx:X.env.scope.names.lookup x=f' .local) (hc:X.calm=B') (ok:iR X.env.scope scope X.N N cap=B') (hi:PI X tg iter wi)
  (hg:∀ cl C s H fp aa,PG (iO X scope cl C N s H fp aa) tg g) (hf:∀ cl C s H fp aa,Zi (iO X scope cl C N s H fp aa) gQ tt) (he:∀ cl C s H fp aa,PE (iO X scope cl C N s H fp aa) gF te)
  (hsw:ZK (.ListComp gF [⟨tg,iter,gQ,0⟩] scope pos) (f' (.Name x bu)) qY.line X.env=pure B')
  (hs:∀ x,Qa9 iter X.env x=pure x:=by intro _;rfl) :
  PS X (.Assign [.Name x bu] (.ListComp gF [⟨tg,iter,gQ,0⟩] scope pos) qY) (Qc7 (Qdl wi cap g tt te) (bL i)):=by
 intro aa s σ H D I h
 have lN:=ok
 simp only[iR,Rn,Sd,Wg] at lN
 obtain⟨⟨⟨⟨cC,_⟩,gP⟩,_⟩,_⟩:=lN
 rw[exec_Assign_Name_used _ _ _ _ hsw]
 refine mT (Sy (mT ?_))
 show M' _ X.A (do let _ ← comprehension (.ListComp gF [⟨tg,iter,gQ,0⟩] scope pos) scope X.env _ (newList []) K' (UV iter X.env) (f' (YA (.Name x bu) X.env))) _ _ s
 refine mT (RP (TY (use:=f' (YA (.Name x bu) X.env)) (Q:=fun _ s'=>SP X aa D .next s') O hs (FD (I.Qaz ok)) cC (fun y hy hl=>by simpa [hl] using gP y hy)
  (UP (hi aa s σ H _ I h) fun xv s1 h1=>UP h1 fun tD s2 h2=>?_)) (fun _ s' hq=>Q5 (Q5 hq)) fun _ _ e=>e)
 obtain⟨it,fp,tn,J,H2,e,I2,T,WJ,f2,q⟩:=h2
 subst e
 refine DP (RR:=fun acc C=>compPost (UD X.prog X.w) X.A X.xe (f' (YA (.Name x bu) X.env)) (fun _ s'=>SP X aa D .next s') acc C) hc ok hg hf he I2 T WJ f2 q ?_
 intro Dd C H' s' m I' fC hn qn
 obtain⟨f0,f1,Jw,f3,f4,f5⟩:=fC
 show M' _ X.A (YA (.Name x bu) X.env (.ref Dd)) _ _ _
 refine Ux (Dg I' hN HG (.inl hx) (v:=.ref Dd) O (fun s3 I3 ⟨a,sb,ha⟩=>?_) (.inr hx))
 have Gr:C≠a:=by
  rcases ha with z|z
  .rw[z];exact f1
  .exact fun w=>f4 x a z w.symm
 refine⟨m,hn.sameBut sb Gr,fun h' Im=>?_⟩
 exact⟨_,H',I3.turned (t':=s3.toks) (fun b o hb e=>Im.extBut b o hb e) f0 f1 f3 f4 f5,qn⟩
theorem fq {K:R'}{Q:VK} (Pv:Nat→St→Hp→Prop) (h0:Pv 0 τ H) (hl:∀ i τ H,i≤xs.length→Pv i τ H→P' K H a xs)
  (hs:∀ i x τ H,xs[i]?=f' x→Pv i τ H→g x τ H fun τ2 H2=>tt τ2 H2 fun b H3=>
   if b=B' then te τ2 H3 fun y H4=>∃ ys,H4 D=f' (.lst ys)∧ys.length<S'∧Pv (i + 1) τ2 (upd H4 D (.lst (ys++[y]))) else Pv (i + 1) τ2 H3)
  (hd:∀ τ H,Pv xs.length τ H→Q (.ref D) H):jD (Zd K a) D τ H g tt te Q:=
 XY (n:=xs.length) Pv h0 (fun i σ H hi p=>⟨fun h=>⟨xs,xs[i],hl i σ H hi p,by simp[h]⟩,fun h=>⟨xs,hl i σ H hi p,h⟩⟩) (fun i x σ H H' hi p y=>by
 obtain⟨rfl,y⟩:=y
 exact hs i x σ _ (y xs (hl i σ _ (R9 hi) p)) p) hd
theorem LG {lo:Int}{Q:VK} (Pv:Nat→St→Hp→Prop) (h0:Pv 0 τ H)
  (hs:∀ i τ H,i<n→Pv i τ H→g (.int (lo + i)) τ H fun τ2 H2=>tt τ2 H2 fun b H3=>
   if b=B' then te τ2 H3 fun y H4=>∃ ys,H4 D=f' (.lst ys)∧ys.length<S'∧Pv (i + 1) τ2 (upd H4 D (.lst (ys++[y]))) else Pv (i + 1) τ2 H3)
  (hd:∀ τ H,Pv n τ H→Q (.ref D) H):jD (Ze lo n) D τ H g tt te Q:=
 XY (n:=n) Pv h0 (fun _ _ _ _ _=>⟨id,id⟩) (fun i x σ H H' hi p y=>by
 obtain⟨rfl,rfl⟩:=y
 exact hs i σ _ hi p) hd
end
section
open PySem.SeqAt
inductive Dt where
 | UO | bl (b:Bool) | int (i:Int) | str (x:C') | lst (xs:List Dt) | tup (xs:List Dt)
mutual
def VC (K:R') (H:Hp):Dt→V→Prop
 | .UO,x=>x=.UO
 | .bl b,x=>x=.bl b
 | .int i,x=>x=.int i
 | .str z,x=>x=.str z
 | .lst ds,x=>∃ a xs,x=.ref a∧P' K H a xs∧bv K H ds xs
 | .tup ds,x=>∃ a xs,x=.ref a∧UW K H a xs∧bv K H ds xs
def bv (K:R') (H:Hp):List Dt→List V→Prop
 | [],xs=>xs=[]
 | d::ds,xs=>∃ y ys,xs=y::ys∧VC K H d y∧bv K H ds ys
end
mutual
def kZ:Nat→Dt→Prop
 | n + 1,.lst ds=>fj n ds
 | n + 1,.tup ds=>fj n ds
 | 0,.lst _=>False
 | 0,.tup _=>False
 | _,.UO=>True
 | _,.bl _=>True
 | _,.int _=>True
 | _,.str _=>True
def fj:Nat→List Dt→Prop
 | _,[]=>True
 | n,d::ds=>kZ n d∧fj n ds
end
mutual
def VN:Dt→Dt→Bool
 | .UO,.UO=>B'
 | .bl a,.bl b=>a == b
 | .bl a,.int b=>(if a then 1 else 0) == b
 | .int a,.bl b=>a == (if b then 1 else 0)
 | .int a,.int b=>a == b
 | .str a,.str b=>a == b
 | .lst xs,.lst ys=>dO xs ys
 | .tup xs,.tup ys=>dO xs ys
 | _,_=>K'
def dO:List Dt→List Dt→Bool
 | [],[]=>B'
 | x::xs,y::ys=>VN x y && dO xs ys
 | _,_=>K'
end
mutual
theorem ut:∀ d:Dt,VN d d=B'
 | .UO=>rfl
 | .bl b=>by simp[VN]
 | .int i=>by simp[VN]
 | .str x=>by simp[VN]
 | .lst xs=>by
  rw[VN]
  exact so xs
 | .tup xs=>by
  rw[VN]
  exact so xs
theorem so:∀ ds:List Dt,dO ds ds=B'
 | []=>rfl
 | d::ds=>by rw[dO,ut d,so ds];rfl
end
theorem bv.length {K:R'}{H:Hp}:∀ {ds:List Dt}{xs:List V},bv K H ds xs→ds.length=xs.length
 | [],xs,h=>by
  have e:xs=[]:=h
  subst e
  rfl
 | d::ds,xs,h=>by
  obtain⟨y,ys,e,_,h2⟩:=h
  subst e
  simp[bv.length h2]
theorem bv.get {K:R'}{H:Hp}:∀ {ds:List Dt}{xs:List V}{j:Nat}{d:Dt},bv K H ds xs→ds[j]?=f' d→∃ x,xs[j]?=f' x∧VC K H d x
 | [],_,_,_,_,e=>by simp at e
 | d::ds,xs,j,d',h,e=>by
  obtain⟨y,ys,e2,h1,h2⟩:=h
  subst e2
  cases j with
  | zero=>
   simp at e
   subst e
   exact⟨y,O,h1⟩
  | succ j=>
   obtain⟨x,hx,hd⟩:=bv.get (j:=j) h2 (by simpa using e)
   exact⟨x,by simpa using hx,hd⟩
theorem bv.snoc {K:R'}{H:Hp}{d:Dt}{x:V} (hd:VC K H d x):∀ {ds:List Dt}{xs:List V},bv K H ds xs→bv K H (ds++[d]) (xs++[x])
 | [],xs,h=>by
  have e:xs=[]:=h
  subst e
  exact⟨x,[],O,hd,O⟩
 | e::ds,xs,h=>by
  obtain⟨y,ys,e2,h1,h2⟩:=h
  subst e2
  exact⟨y,ys++[x],O,h1,h2.snoc hd⟩
theorem fj.get {n:Nat}:∀ {ds:List Dt}{j:Nat}{d:Dt},fj n ds→ds[j]?=f' d→kZ n d
 | [],_,_,_,e=>by simp at e
 | d::ds,j,d',h,e=>by
  cases j with
  | zero=>
   simp at e
   subst e
   exact h.1
  | succ j=>exact fj.get (j:=j) h.2 (by simpa using e)
theorem fj.of {n:Nat}:∀ {ds:List Dt},(∀ d∈ds,kZ n d)→fj n ds
 | [],_=>trivial
 | d::ds,h=>⟨h d Rr,fj.of fun e he=>h e (Rc _ he)⟩
theorem ae.Ve {K:R'} (e:ae H H') (h:P' K H a xs):P' K H' a xs:=e.seq h
theorem ae.VI {K:R'} (e:ae H H') (h:UW K H a xs):UW K H' a xs:=by
 rcases h with(h|⟨o,h⟩)|h
 .exact .inl (.inl (e _ _ h))
 .exact .inl (.inr ⟨o,e _ _ h⟩)
 .exact .inr h
mutual
theorem ae.dt {K:R'}{H H':Hp} (e:ae H H'):∀ {d:Dt}{x:V},VC K H d x→VC K H' d x
 | .UO,_,h=>h
 | .bl _,_,h=>h
 | .int _,_,h=>h
 | .str _,_,h=>h
 | .lst ds,_,h=>by
  obtain⟨a,xs,e1,h1,h2⟩:=h
  exact⟨a,xs,e1,e.Ve h1,e.U' h2⟩
 | .tup ds,_,h=>by
  obtain⟨a,xs,e1,h1,h2⟩:=h
  exact⟨a,xs,e1,e.VI h1,e.U' h2⟩
theorem ae.U' {K:R'}{H H':Hp} (e:ae H H'):∀ {ds:List Dt}{xs:List V},bv K H ds xs→bv K H' ds xs
 | [],_,h=>h
 | d::ds,_,h=>by
  obtain⟨y,ys,e1,h1,h2⟩:=h
  exact⟨y,ys,e1,e.dt h1,e.U' h2⟩
end
theorem ae.new {o:HO} (h:H p=i'):ae H (upd H p o):=fun b u e=>by
 rw[aj (aq e h)]
 exact e
theorem Inv.Qdm (I:Inv X aa σ H s){ys:List V} (h:P' X.K H a xs) (h':UW X.K H a ys):False:=by
 obtain⟨ah,_,pl,_⟩:=I.list h
 obtain⟨its',_,pt,_⟩:=I.tuple h'
 obtain⟨o,n,e,c,_⟩:=pl
 obtain⟨o',e',c',_⟩:=pt
 rw[e] at e'
 cases e'
 rw[c] at c'
 exact UR c' (by simp)
mutual
theorem Inv.QaA (I:Inv X aa σ H s):∀ {d e:Dt}{x:V},VC X.K H d x→VC X.K H e x→d=e
 | .UO,e,_,h,h'=>by
  have h:_=V.UO:=h
  subst h
  cases e with
  | UO=>rfl
  | bl _=>exact nomatch (show V.UO=_ from h')
  | int _=>exact nomatch (show V.UO=_ from h')
  | str _=>exact nomatch (show V.UO=_ from h')
  | lst _=>obtain⟨_,_,q,_⟩:=h';cases q
  | tup _=>obtain⟨_,_,q,_⟩:=h';cases q
 | .bl b,e,_,h,h'=>by
  have h:_=V.bl b:=h
  subst h
  cases e with
  | UO=>exact nomatch (show V.bl b=_ from h')
  | bl c=>
   have q:V.bl b=V.bl c:=h'
   cases q
   rfl
  | int _=>exact nomatch (show V.bl b=_ from h')
  | str _=>exact nomatch (show V.bl b=_ from h')
  | lst _=>obtain⟨_,_,q,_⟩:=h';cases q
  | tup _=>obtain⟨_,_,q,_⟩:=h';cases q
 | .int b,e,_,h,h'=>by
  have h:_=V.int b:=h
  subst h
  cases e with
  | UO=>exact nomatch (show V.int b=_ from h')
  | bl c=>exact nomatch (show V.int b=_ from h')
  | int c=>
   have q:V.int b=V.int c:=h'
   cases q
   rfl
  | str _=>exact nomatch (show V.int b=_ from h')
  | lst _=>obtain⟨_,_,q,_⟩:=h';cases q
  | tup _=>obtain⟨_,_,q,_⟩:=h';cases q
 | .str b,e,_,h,h'=>by
  have h:_=V.str b:=h
  subst h
  cases e with
  | UO=>exact nomatch (show V.str b=_ from h')
  | bl c=>exact nomatch (show V.str b=_ from h')
  | int _=>exact nomatch (show V.str b=_ from h')
  | str c=>
   have q:V.str b=V.str c:=h'
   cases q
   rfl
  | lst _=>obtain⟨_,_,q,_⟩:=h';cases q
  | tup _=>obtain⟨_,_,q,_⟩:=h';cases q
 | .lst ds,e,_,h,h'=>by
  obtain⟨a,xs,e1,h1,h2⟩:=h
  subst e1
  cases e with
  | UO=>exact nomatch (show V.ref a=_ from h')
  | bl c=>exact nomatch (show V.ref a=_ from h')
  | int _=>exact nomatch (show V.ref a=_ from h')
  | str _=>exact nomatch (show V.ref a=_ from h')
  | lst es=>
   obtain⟨b,ys,e2,h3,h4⟩:=h'
   cases e2
   have q:=I.ZU h1 h3
   subst q
   rw[I.QbI h2 h4]
  | tup es=>
   obtain⟨b,ys,e2,h3,h4⟩:=h'
   cases e2
   exact(I.Qdm h1 h3).elim
 | .tup ds,e,_,h,h'=>by
  obtain⟨a,xs,e1,h1,h2⟩:=h
  subst e1
  cases e with
  | UO=>exact nomatch (show V.ref a=_ from h')
  | bl c=>exact nomatch (show V.ref a=_ from h')
  | int _=>exact nomatch (show V.ref a=_ from h')
  | str _=>exact nomatch (show V.ref a=_ from h')
  | lst es=>
   obtain⟨b,ys,e2,h3,h4⟩:=h'
   cases e2
   exact(I.Qdm h3 h1).elim
  | tup es=>
   obtain⟨b,ys,e2,h3,h4⟩:=h'
   cases e2
   have q:=I.QgL h1 h3
   subst q
   rw[I.QbI h2 h4]
theorem Inv.QbI (I:Inv X aa σ H s):∀ {ds es:List Dt}{xs:List V},bv X.K H ds xs→bv X.K H es xs→ds=es
 | [],es,_,h,h'=>by
  have h:_=[]:=h
  subst h
  cases es with
  | nil=>rfl
  | cons e es=>obtain⟨_,_,q,_⟩:=h';cases q
 | d::ds,es,_,h,h'=>by
  obtain⟨y,ys,e1,h1,h2⟩:=h
  subst e1
  cases es with
  | nil=>exact nomatch (show y::ys=[] from h')
  | cons e es=>
   obtain⟨z,zs,q,h3,h4⟩:=h'
   cases q
   rw[I.QaA h1 h3,I.QbI h2 h4]
end
def lu (ds es:List Dt) (j:Nat):Bool:=VN (ds.getD j .UO) (es.getD j .UO)
theorem sr:∀ ds es:List Dt,((VH (min ds.length es.length)).all (lu ds es) && ds.length == es.length)=dO ds es
 | [],[]=>rfl
 | [],_::_=>by simp[dO]
 | _::_,[]=>by simp[dO]
 | d::ds,e::es=>by
  have ih:=sr ds es
  have e1:min (d::ds).length (e::es).length=min ds.length es.length + 1:=by simp only[Rh];lia
  have e2:((d::ds).length == (e::es).length)=(ds.length == es.length):=by simp
  have e3:(VH (min ds.length es.length + 1)).all (lu (d::ds) (e::es))=(VN d e && (VH (min ds.length es.length)).all (lu ds es)):=by
   rw[Te,Th,SX]
   rfl
  rw[e1,e2,e3,dO,← ih,Bool.and_assoc]
theorem FP {ds es:List Dt} (h:ds.length=es.length):(VH ds.length).all (lu ds es)=dO ds es:=by
 have:=sr ds es
 rw[← h,Nat.min_self] at this
 simpa using this
theorem EC {ds es:List Dt} (h:ds.length≠es.length):dO ds es=K':=by
 rw[← sr ds es]
 simp[h]
theorem Inv.Xv (I:Inv X aa σ H s) (h:P' X.K H a xs):∃ ah:List L',aB xs ah∧s.heap.IsList a ah.toArray:=
 let ⟨ah,r,pl,_⟩:=I.list h
 ⟨ah,r,pl.isList⟩
theorem Inv.Xw (I:Inv X aa σ H s) (h:UW X.K H a xs):∃ ah:List L',aB xs ah∧s.heap.IsTuple a ah.toArray:=
 let ⟨ah,r,pt,_⟩:=I.tuple h
 ⟨ah,r,pt⟩
theorem xQ {ds es:List Dt}{d e:Dt} (h1:ds[j]?=f' d) (h2:es[j]?=f' e):lu ds es j=VN d e:=by
 unfold lu
 rw[Rl,Rl,h1,h2]
 rfl
theorem jH {α:Type}{l:List α} (h:j<l.length):∃ x,l[j]?=f' x:=⟨l[j],by simp[h]⟩
mutual
theorem Inv.QbJ (I:Inv X aa σ H s):∀ {d e:Dt}{x y:V}{u v:L'}{n:Nat}{A:VQ},VC X.K H d x→VC X.K H e y→aD x u→aD y v→kZ n d→A.units + n<Vt→XT A s u v (VN d e)
 | .UO,e,x,y,u,v,n,A,h,h',rx,ry,_,hu=>by
  have hu:A.units<Vt:=Sc (RH _ _) hu
  have h:x=V.UO:=h
  subst h
  cases e with
  | UO=>
   have h':y=V.UO:=h'
   subst h'
   exact fY rx ry O rfl
  | bl c=>
   have h':y=V.bl c:=h'
   subst h'
   exact fY rx ry O rfl
  | int c=>
   have h':y=V.int c:=h'
   subst h'
   exact fY rx ry O rfl
  | str c=>
   have h':y=V.str c:=h'
   subst h'
   exact fY rx ry O rfl
  | lst es=>
   obtain⟨a,ys,rfl,h1,_⟩:=h'
   obtain rfl:v=UQ a:=ry
   obtain⟨ah,_,hl⟩:=I.Xv h1
   obtain rfl:u=Vk:=rx
   exact XT.none_list hl hu
  | tup es=>
   obtain⟨a,ys,rfl,h1,_⟩:=h'
   obtain rfl:v=UQ a:=ry
   obtain⟨ah,_,hl⟩:=I.Xw h1
   obtain rfl:u=Vk:=rx
   exact XT.none_tuple hl hu
 | .bl b,e,x,y,u,v,n,A,h,h',rx,ry,_,hu=>by
  have hu:A.units<Vt:=Sc (RH _ _) hu
  have h:x=V.bl b:=h
  subst h
  cases e with
  | UO=>
   have h':y=V.UO:=h'
   subst h'
   exact fY rx ry O rfl
  | bl c=>
   have h':y=V.bl c:=h'
   subst h'
   exact fY rx ry O rfl
  | int c=>
   have h':y=V.int c:=h'
   subst h'
   exact fY rx ry O rfl
  | str c=>
   have h':y=V.str c:=h'
   subst h'
   exact fY rx ry O rfl
  | lst es=>
   obtain⟨a,ys,rfl,h1,_⟩:=h'
   obtain rfl:v=UQ a:=ry
   obtain⟨ah,_,hl⟩:=I.Xv h1
   obtain rfl:u=W1 b:=rx
   exact XT.bool_list b hl hu
  | tup es=>
   obtain⟨a,ys,rfl,h1,_⟩:=h'
   obtain rfl:v=UQ a:=ry
   obtain⟨ah,_,hl⟩:=I.Xw h1
   obtain rfl:u=W1 b:=rx
   exact XT.bool_tuple b hl hu
 | .int b,e,x,y,u,v,n,A,h,h',rx,ry,_,hu=>by
  have hu:A.units<Vt:=Sc (RH _ _) hu
  have h:x=V.int b:=h
  subst h
  cases e with
  | UO=>
   have h':y=V.UO:=h'
   subst h'
   exact fY rx ry O rfl
  | bl c=>
   have h':y=V.bl c:=h'
   subst h'
   exact fY rx ry O rfl
  | int c=>
   have h':y=V.int c:=h'
   subst h'
   exact fY rx ry O rfl
  | str c=>
   have h':y=V.str c:=h'
   subst h'
   exact fY rx ry O rfl
  | lst es=>
   obtain⟨a,ys,rfl,h1,_⟩:=h'
   obtain rfl:v=UQ a:=ry
   obtain⟨ah,_,hl⟩:=I.Xv h1
   obtain⟨t,rfl⟩:=rx
   exact XT.int_list b t hl hu
  | tup es=>
   obtain⟨a,ys,rfl,h1,_⟩:=h'
   obtain rfl:v=UQ a:=ry
   obtain⟨ah,_,hl⟩:=I.Xw h1
   obtain⟨t,rfl⟩:=rx
   exact XT.int_tuple b t hl hu
 | .str b,e,x,y,u,v,n,A,h,h',rx,ry,_,hu=>by
  have hu:A.units<Vt:=Sc (RH _ _) hu
  have h:x=V.str b:=h
  subst h
  cases e with
  | UO=>
   have h':y=V.UO:=h'
   subst h'
   exact fY rx ry O rfl
  | bl c=>
   have h':y=V.bl c:=h'
   subst h'
   exact fY rx ry O rfl
  | int c=>
   have h':y=V.int c:=h'
   subst h'
   exact fY rx ry O rfl
  | str c=>
   have h':y=V.str c:=h'
   subst h'
   exact fY rx ry O rfl
  | lst es=>
   obtain⟨a,ys,rfl,h1,_⟩:=h'
   obtain rfl:v=UQ a:=ry
   obtain⟨ah,_,hl⟩:=I.Xv h1
   obtain⟨t,rfl⟩:=rx
   exact XT.str_list b t hl hu
  | tup es=>
   obtain⟨a,ys,rfl,h1,_⟩:=h'
   obtain rfl:v=UQ a:=ry
   obtain⟨ah,_,hl⟩:=I.Xw h1
   obtain⟨t,rfl⟩:=rx
   exact XT.str_tuple b t hl hu
 | .lst ds,e,x,y,u,v,n,A,h,h',rx,ry,hd,hu=>by
  obtain⟨a,xs,rfl,g1,g2⟩:=h
  obtain rfl:u=UQ a:=rx
  obtain⟨ah,rv,hl⟩:=I.Xv g1
  cases n with
  | zero=>exact VL hd
  | succ n=>
  have db:A.units<Vt:=Sc (RH _ _) hu
  cases e with
  | UO=>
   have h':y=V.UO:=h'
   subst h'
   obtain rfl:v=Vk:=ry
   exact XT.list_none hl db
  | bl c=>
   have h':y=V.bl c:=h'
   subst h'
   obtain rfl:v=W1 c:=ry
   exact XT.list_bool c hl db
  | int c=>
   have h':y=V.int c:=h'
   subst h'
   obtain⟨t,rfl⟩:=ry
   exact XT.list_int c t hl db
  | str c=>
   have h':y=V.str c:=h'
   subst h'
   obtain⟨t,rfl⟩:=ry
   exact XT.list_str c t hl db
  | tup es=>
   obtain⟨b,ys,rfl,h1,_⟩:=h'
   obtain rfl:v=UQ b:=ry
   obtain⟨its',_,dL⟩:=I.Xw h1
   exact XT.list_tuple hl dL db
  | lst es=>
   obtain⟨b,ys,rfl,h1,h2⟩:=h'
   obtain rfl:v=UQ b:=ry
   obtain⟨its',dv,dL⟩:=I.Xv h1
   show XT A s (.ref a) (.ref b) (dO ds es)
   by_cases oz:a=b
   .subst oz
    have e:Dt.lst ds=Dt.lst es:=I.QaA ⟨a,xs,O,g1,g2⟩ ⟨a,ys,O,h1,h2⟩
    injection e with e
    subst e
    rw[so]
    exact QcQ _
   .have n1:ds.length=ah.length:=g2.length.trans rv.length
    have n2:es.length=its'.length:=h2.length.trans dv.length
    have items:∀ j (h1:j<ah.toArray.size) (h2:j<its'.toArray.size),XT A.in1 s ah.toArray[j] its'.toArray[j] (lu ds es j):=fun j j1 j2=>by
     have j1:j<ah.length:=by simpa using j1
     have j2:j<its'.length:=by simpa using j2
     obtain⟨d',cY⟩:=jH (l:=ds) (j:=j) (by lia)
     obtain⟨e',dN⟩:=jH (l:=es) (j:=j) (by lia)
     obtain⟨x',m8,kx⟩:=g2.get cY
     obtain⟨y',cX,ky⟩:=h2.get dN
     obtain⟨u',iJ,ru⟩:=rv.get m8
     obtain⟨v',cW,qt⟩:=dv.get cX
     have q1:ah.toArray[j]=u':=by
      have:=VD.mp iJ
      simpa using this.2
     have q2:its'.toArray[j]=v':=by
      have:=VD.mp cW
      simpa using this.2
     rw[q1,q2,xQ cY dN]
     exact Inv.QbK I ds j cY kx ky ru qt (fj.get hd cY) (show A.units + 1 + n<Vt by lia)
    by_cases hsz:ah.toArray.size=its'.toArray.size
    .have mH:ds.length=es.length:=by simpa [n1,n2] using hsz
     rw[← FP mH,n1,← Re]
     exact QcI oz (Qgg hl dL hsz db items)
    .rw[EC (by simpa [n1,n2] using hsz)]
     exact QcI oz (Qfb hl dL (by simpa using hsz) db)
 | .tup ds,e,x,y,u,v,n,A,h,h',rx,ry,hd,hu=>by
  obtain⟨a,xs,rfl,g1,g2⟩:=h
  obtain rfl:u=UQ a:=rx
  obtain⟨ah,rv,hl⟩:=I.Xw g1
  cases n with
  | zero=>exact VL hd
  | succ n=>
  have db:A.units<Vt:=Sc (RH _ _) hu
  cases e with
  | UO=>
   have h':y=V.UO:=h'
   subst h'
   obtain rfl:v=Vk:=ry
   exact XT.tuple_none hl db
  | bl c=>
   have h':y=V.bl c:=h'
   subst h'
   obtain rfl:v=W1 c:=ry
   exact XT.tuple_bool c hl db
  | int c=>
   have h':y=V.int c:=h'
   subst h'
   obtain⟨t,rfl⟩:=ry
   exact XT.tuple_int c t hl db
  | str c=>
   have h':y=V.str c:=h'
   subst h'
   obtain⟨t,rfl⟩:=ry
   exact XT.tuple_str c t hl db
  | lst es=>
   obtain⟨b,ys,rfl,h1,_⟩:=h'
   obtain rfl:v=UQ b:=ry
   obtain⟨its',_,dL⟩:=I.Xv h1
   exact XT.tuple_list hl dL db
  | tup es=>
   obtain⟨b,ys,rfl,h1,h2⟩:=h'
   obtain rfl:v=UQ b:=ry
   obtain⟨its',dv,dL⟩:=I.Xw h1
   show XT A s (.ref a) (.ref b) (dO ds es)
   by_cases oz:a=b
   .subst oz
    have e:Dt.tup ds=Dt.tup es:=I.QaA ⟨a,xs,O,g1,g2⟩ ⟨a,ys,O,h1,h2⟩
    injection e with e
    subst e
    rw[so]
    exact QcQ _
   .have n1:ds.length=ah.length:=g2.length.trans rv.length
    have n2:es.length=its'.length:=h2.length.trans dv.length
    have items:∀ j (h1:j<ah.toArray.size) (h2:j<its'.toArray.size),XT A.in1 s ah.toArray[j] its'.toArray[j] (lu ds es j):=fun j j1 j2=>by
     have j1:j<ah.length:=by simpa using j1
     have j2:j<its'.length:=by simpa using j2
     obtain⟨d',cY⟩:=jH (l:=ds) (j:=j) (by lia)
     obtain⟨e',dN⟩:=jH (l:=es) (j:=j) (by lia)
     obtain⟨x',m8,kx⟩:=g2.get cY
     obtain⟨y',cX,ky⟩:=h2.get dN
     obtain⟨u',iJ,ru⟩:=rv.get m8
     obtain⟨v',cW,qt⟩:=dv.get cX
     have q1:ah.toArray[j]=u':=by
      have:=VD.mp iJ
      simpa using this.2
     have q2:its'.toArray[j]=v':=by
      have:=VD.mp cW
      simpa using this.2
     rw[q1,q2,xQ cY dN]
     exact Inv.QbK I ds j cY kx ky ru qt (fj.get hd cY) (show A.units + 1 + n<Vt by lia)
    have q:=QcI oz (Qf7 hl dL db items)
    rw[← sr ds es,n1,n2]
    simpa using q
theorem Inv.QbK (I:Inv X aa σ H s):∀ (ds:List Dt) (j:Nat){d e:Dt}{x y:V}{u v:L'}{n:Nat}{A:VQ},ds[j]?=f' d→VC X.K H d x→VC X.K H e y→aD x u→aD y v→kZ n d→A.units + n<Vt→XT A s u v (VN d e)
 | [],j,_,_,_,_,_,_,_,_,h,_,_,_,_,_,_=>by simp at h
 | c::_,0,d,e,x,y,u,v,n,A,h,hx,hy,ru,rv,hd,hu=>by
  simp at h
  subst h
  exact Inv.QbJ I hx hy ru rv hd hu
 | _::cs,j + 1,d,e,x,y,u,v,n,A,h,hx,hy,ru,rv,hd,hu=>Inv.QbK I cs j (by simpa using h) hx hy ru rv hd hu
end
theorem Inv.items (I:Inv X aa σ H s){ds es:List Dt}{ys:List V}{its':List L'} (g2:bv X.K H ds xs) (h2:bv X.K H es ys) (rv:aB xs ah) (dv:aB ys its') (hd:fj n ds)
  (hu:A.units + 1 + n<Vt):∀ j (h1:j<ah.toArray.size) (h2:j<its'.toArray.size),XT A.in1 s ah.toArray[j] its'.toArray[j] (lu ds es j):=fun j j1 j2=>by
 have n1:ds.length=ah.length:=g2.length.trans rv.length
 have n2:es.length=its'.length:=h2.length.trans dv.length
 have j1:j<ah.length:=by simpa using j1
 have j2:j<its'.length:=by simpa using j2
 obtain⟨d',cY⟩:=jH (l:=ds) (j:=j) (by lia)
 obtain⟨e',dN⟩:=jH (l:=es) (j:=j) (by lia)
 obtain⟨x',m8,kx⟩:=g2.get cY
 obtain⟨y',cX,ky⟩:=h2.get dN
 obtain⟨u',iJ,ru⟩:=rv.get m8
 obtain⟨v',cW,qt⟩:=dv.get cX
 have q1:ah.toArray[j]=u':=by
  have:=VD.mp iJ
  simpa using this.2
 have q2:its'.toArray[j]=v':=by
  have:=VD.mp cW
  simpa using this.2
 rw[q1,q2,xQ cY dN]
 exact I.QbJ kx ky ru qt (fj.get hd cY) hu
def tV:Dt→Bool
 | .lst _=>B'
 | .tup _=>B'
 | _=>K'
theorem Inv.Qdn (I:Inv X aa σ H s){d e:Dt}{x y:V} (bd:tV d=B') (be:tV e=B') (h:VC X.K H d x) (h':VC X.K H e y) (rx:aD x u) (ry:aD y v) (hd:kZ n d) (hu:A.units + n<Vt) :
  RcAt A s u v (VN d e)∧RcNeAt A s u v (!VN d e):=by
 cases n with
 | zero=>cases d <;> first | exact VL hd | cases bd
 | succ n=>
 have db:A.units<Vt:=Sc (RH _ _) hu
 have jU:A.units + 1 + n<Vt:=by lia
 cases d with
 | lst ds=>
  obtain⟨a,xs,rfl,g1,g2⟩:=h
  obtain rfl:u=UQ a:=rx
  obtain⟨ah,rv,hl⟩:=I.Xv g1
  cases e with
  | lst es=>
   obtain⟨b,ys,rfl,h1,h2⟩:=h'
   obtain rfl:v=UQ b:=ry
   obtain⟨its',dv,dL⟩:=I.Xv h1
   have n1:ds.length=ah.length:=g2.length.trans rv.length
   have n2:es.length=its'.length:=h2.length.trans dv.length
   show RcAt A s (.ref a) (.ref b) (dO ds es)∧RcNeAt A s (.ref a) (.ref b) (!dO ds es)
   by_cases hsz:ah.toArray.size=its'.toArray.size
   .have mH:ds.length=es.length:=by simpa [n1,n2] using hsz
    rw[← FP mH,n1,← Re]
    exact⟨Qgg hl dL hsz db (I.items g2 h2 rv dv hd jU),RcNeAt.lists hl dL hsz db (I.items g2 h2 rv dv hd jU)⟩
   .rw[EC (by simpa [n1,n2] using hsz)]
    exact⟨Qfb hl dL (by simpa using hsz) db,RcNeAt.lists_lengths hl dL (by simpa using hsz) db⟩
  | tup es=>
   obtain⟨b,ys,rfl,h1,_⟩:=h'
   obtain rfl:v=UQ b:=ry
   obtain⟨its',_,dL⟩:=I.Xw h1
   exact⟨RcAt.list_tuple hl dL db,RcNeAt.list_tuple hl dL db⟩
  | _=>cases be
 | tup ds=>
  obtain⟨a,xs,rfl,g1,g2⟩:=h
  obtain rfl:u=UQ a:=rx
  obtain⟨ah,rv,hl⟩:=I.Xw g1
  cases e with
  | tup es=>
   obtain⟨b,ys,rfl,h1,h2⟩:=h'
   obtain rfl:v=UQ b:=ry
   obtain⟨its',dv,dL⟩:=I.Xw h1
   have n1:ds.length=ah.length:=g2.length.trans rv.length
   have n2:es.length=its'.length:=h2.length.trans dv.length
   have q:=Qf7 hl dL db (I.items g2 h2 rv dv hd jU)
   have q':=RcNeAt.tuples hl dL db (I.items g2 h2 rv dv hd jU)
   show RcAt A s (.ref a) (.ref b) (dO ds es)∧RcNeAt A s (.ref a) (.ref b) (!dO ds es)
   rw[← sr ds es,n1,n2]
   exact⟨by simpa using q,by simpa using q'⟩
  | lst es=>
   obtain⟨b,ys,rfl,h1,_⟩:=h'
   obtain rfl:v=UQ b:=ry
   obtain⟨its',_,dL⟩:=I.Xv h1
   exact⟨RcAt.tuple_list hl dL db,RcNeAt.tuple_list hl dL db⟩
  | _=>cases be
 | _=>cases bd
def Qdo (K:R') (qU:Bool):R2:=fun x y H Q=>∃ d e,tV d=B'∧tV e=B'∧VC K H d x∧VC K H e y∧kZ 60 d∧Q (.bl (if qU then !VN d e else VN d e)) H
theorem Qhx (hu:X.A.units + 64<Vt):VF X (Wh .Eq) (Qdo X.K K'):=by
 intro aa s σ H x y v u Q I rx ry h
 obtain⟨d,e,bd,be,h1,h2,hd,q⟩:=h
 exact(I.Qdn bd be h1 h2 rx ry hd (by lia)).1 X.prog X.w _ _ ⟨.bl _,H,I,O,q⟩
theorem DN (hu:X.A.units + 64<Vt):VF X (Wh .NotEq) (Qdo X.K B'):=by
 intro aa s σ H x y v u Q I rx ry h
 obtain⟨d,e,bd,be,h1,h2,hd,q⟩:=h
 exact(I.Qdn bd be h1 h2 rx ry hd (by lia)).2 X.prog X.w _ _ ⟨.bl _,H,I,O,q⟩
end
theorem g6  (hg:Gl X x) (hm:X.mg x=f' (.ref a)) (hd:(x == ("__debug__":C'))=K':=by decide):PE X (.Name x pos) (tC (.ref a)):=yF hg hm O hd
def Qdp:V→Option L'
 | .ref a=>f' (.ref a)
 | .ty n=>f' (.type n)
 | _=>i'
theorem LF {c:V}{k:L'} (r:aD c u) (e:Qdp c=f' k):u=k:=by
 cases c with
 | ref a=>
  cases e
  exact r
 | ty n=>
  cases e
  exact r
 | _=>cases e
theorem yc:fU X (.builtin "isinstance") (fun xs H Q=>∃ x c k t b,xs=[x,c]∧Qdp c=f' k∧iS X.K H x t∧UE X.K t k=f' b∧Q (.bl b) H):=by
 intro aa s σ H xs us Q I r h
 obtain⟨x,c,k,t,b,rfl,ec,ty,eb,q⟩:=h
 obtain⟨u,v,rfl,rx,rc⟩:=nJ r
 have e:=LF rc ec
 subst e
 exact Kr I rx ty eb fun tk=>⟨.bl b,H,I.tok tk,O,q⟩
theorem Pz:∀ {us:List L'},aB (ys.map V.str) us→StrsAre us ys:=by
 induction ys with
 | nil=>
  intro us r
  cases r
  exact .nil
 | cons y ys ih=>
  intro us r
  cases r with
  | cons r1 r2=>
   obtain⟨t,rfl⟩:=r1
   exact .cons _ _ (ih r2)
def rJoin (K:R'):V→List V→Hp→VK→Prop:=fun x vs H Q=>∃ z a ys,x=.str z∧vs=[.ref a]∧P' K H a (ys.map V.str)∧(ys.map (·.length)).sum + ys.length * z.length≤16777216∧Q (.str (W2 z ys)) H
theorem ML:Zg X "str.join" (rJoin X.K):=by
 intro aa s σ H x xs v us Q I rx r h
 obtain⟨z,a,ys,rfl,rfl,hl,hz,q⟩:=h
 obtain⟨t,rfl⟩:=rx
 obtain⟨u,rfl,ru⟩:=gX r
 obtain rfl:u=UQ a:=ru
 obtain⟨ah,rv,pl,_⟩:=I.list hl
 exact join_list pl.isList (by simpa using Pz rv) hz fun t' k=>⟨.str _,H,I.tok _,⟨_,O⟩,q⟩
structure ExcAt (H:Hp) (h:U6) (a:F') (c:L') (dd:Option F') (tb:Option (F'×L')):Prop where
 ob:∃ o vs,h.get? a=f' o∧o.cls=c∧o.dict=dd∧o.data=.fields vs∧vs.size=6∧(∃ cs,jE H cs∧vs[2]?=f' (XU cs 0))∧vs[1]?=f' (match tb with|none=>.none|some p=>.ref p.1)
 tr:∀ p,tb=f' p→p.1≠a∧∃ oT ts,h.get? p.1=f' oT∧oT.data=.fields ts∧ts[3]?=f' p.2
structure X0 (X:Cx) (aa:List (F'×UZ)) (H:Hp) (h:U6) (a:F') (c:L') (dd:Option F') (tb:Option (F'×L')):Prop where
 fp:cJ X aa H a
 Xh:∀ p,tb=f' p→cJ X aa H p.1
 at_:ExcAt H h a c dd tb
theorem Qr (o:UZ) (f:Array L'→Array L'):(o.mapFields f).dict=o.dict:=by
 obtain⟨c,d,dt,sl⟩:=o
 cases dt <;> rfl
theorem Inv.slot0 {tk:Nat} (I:Inv X aa σ H s) (fg:∀ b∈ch,cJ X aa H b) (keep:∀ b o,b∉VA X.stack→b∉ch→s.heap.get? b=f' o→h'.get? b=f' o)
  (slot:∀ b o,b∈VA X.stack→s.heap.get? b=f' o→∃ sl,h'.get? b=f' { o with slots:=sl }):Inv X aa σ H { s with heap:=h',toks:=tk }:=by
 have any:∀ b o,b∉ch→s.heap.get? b=f' o→∃ sl,h'.get? b=f' { o with slots:=sl }:=fun b o hc e=>by
  by_cases hb:b∈VA X.stack
  .exact slot b o hb e
  .exact⟨o.slots,keep b o hb hc e⟩
 have sub:∀ b,b∈VA X.stack→b=X.env.locals∨b∈X.fs:=fun b hb=>RS.mp (I.WU b hb)
 refine I.step (g':=s.gens) (d':=s.drawn) (ch:=ch) (fun b hb=>?_) (fun b o hL hf hc e _=>keep b o (fun z=>(sub b z).elim hL hf) hc e) (fun b o _ _ hc e _=>any b o hc e) (fun _ _ _ _ n=>n) (fun b o hc e=>?_)
  (fun _ _ e=>e) (fun _ _ _ e=>e) (fun _ _ _ e=>e) (fun m hm=>?_) (fun b u e=>?_) I.bare
 .obtain⟨_,f1,_,f3,f4,f5⟩:=fg b hb
  exact⟨f3,f1,f4,f5⟩
 .obtain⟨sl,q⟩:=any b o hc e
  exact⟨_,q⟩
 .obtain⟨o,es,ep,ho,r⟩:=hm
  obtain⟨sl,q⟩:=any _ o (fun z=>(fg _ z).2.1 O) ho
  exact⟨_,es,ep,q,r⟩
 .have nf:∀ d v,H d=f' v→d∉VA X.stack∧d∉ch:=fun d v q=>⟨fun z=>(by rw[I.Qau d z] at q;cases q),fun z=>(by rw[(fg d z).1] at q;cases q)⟩
  refine(I.UJ b u e).WS (fun d v hd q=>?_) (fun _ q=>q) fun _ _ q=>q
  rcases hd with z|z
  .subst z
   exact keep d v (nf d _ e).1 (nf d _ e).2 q
  .exact keep d v (nf d _ z).1 (nf d _ z).2 q
theorem Inv.slots {tk:Nat} (I:Inv X aa σ H s) (fg:∀ b∈ch,cJ X aa H b) (keep:∀ b o,b∉VA X.stack→b∉ch→s.heap.get? b=f' o→h'.get? b=f' o)
  (slot:∀ b o,b∈VA X.stack→s.heap.get? b=f' o→∃ sl,h'.get? b=f' { o with slots:=sl }) (_:∀ b∈ch,∀ o,s.heap.get? b=f' o→∃ o',h'.get? b=f' o'):Inv X aa σ H { s with heap:=h',toks:=tk }:=I.slot0 fg keep slot
def Body (X:Cx):Prop:=X.stack=X.env::X.outer∧X.env.frame=f' X.env.locals
theorem Dk {kM:Bool} (B:Body X) (I:Inv X aa σ H s) (fp:cJ X aa H a) (he:s.heap.get? a=f' o) (hd:o.data=.fields vs) (hz:vs.size=6)
  (hQ:∀ s' T,Inv X aa σ H s'→s.heap.objs.size≤T→cJ X aa H T→T≠a→s'.heap.get? a=f' (o.mapFields (·.setIfInBounds 1 (.ref T)))→(∃ oT ts,s'.heap.get? T=f' oT∧oT.data=.fields ts∧ts[3]?=f' (Vp X.env.locals))→Q () s') :
  M' M X.A (do let f ← frameOf X.env;let pl ← entryPlaceOf X.env.locals kM;let b ← QeK head f .none (Vp X.env.locals) .none pl;Qbs (.ref a) 1 b) Q E s:=by
 have hl:=I.stack
 rw[B.1] at hl
 have tF:X.A.frames=f' (X.env::X.outer):=by rw[I.ok.frames,B.1]
 have n8:∀ b,cJ X aa H b→b∉VA X.stack:=fun b f z=>(RS.mp (I.WU b z)).elim f.2.1 f.2.2.1
 refine mT (wpAny_frameOf_fun tF hl B.2 fun h₁ bQ=>?_)
 rw[← B.1] at bQ
 refine mT (wpAny_entryPlaceOf fun pl bJ=>?_)
 simp only[QeK,newFields]
 refine mT (Sz ?_ (bJ.sizeOk5 _ _ _ _ _))
 generalize Bd:({ cls:=.type "traceback",dict:=i',data:=.fields ([head,.ref X.env.locals,.none,Vp X.env.locals,.none]++(if pl.isEmpty then UX 6 Vk else pl)).toArray }:UZ)=oT
 have e1:h₁.get? a=f' o:=(bQ.2.1 a (n8 a fp)).trans he
 have e2:(h₁.push oT).get? a=f' o:=Q4 _ e1
 have hsz:s.heap.objs.size=h₁.objs.size:=bQ.1.symm
 have Bt:h₁.objs.size≠a:=Sa (Q6 e1)
 have jW:=Zv hd (·.setIfInBounds 1 (UQ h₁.objs.size))
 have e3:=Rw (Xl (·.setIfInBounds 1 (UQ h₁.objs.size))) e2 (Qa1 jW)
 have eT:((h₁.push oT).update a (Xl (·.setIfInBounds 1 (UQ h₁.objs.size)))).get? h₁.objs.size=f' oT:=
  (Ri _ _ (UM Bt)).trans (Ra h₁ (by rw[← Bd];rfl))
 have kp:∀ b q,b≠a→h₁.get? b=f' q→((h₁.push oT).update a (Xl (·.setIfInBounds 1 (UQ h₁.objs.size)))).get? b=f' q:=fun b q hb e=>
  (Ri _ _ (UM hb)).trans (Q4 _ e)
 refine R8 e2 hd (by rw[hz];decide) ?_
 refine hQ _ h₁.objs.size (I.slots (ch:=[a]) (tk:=s.toks) (fun b hb=>?_) (fun b q hb hc e=>?_) (fun b q hb e=>?_) (fun b hb q e=>?_)) (S8 hsz) (I.WI (S8 hsz) (I.UJ.fresh (S8 hsz))) Bt e3 ⟨oT,_,eT,by rw[← Bd],?_⟩
 .rw[Vb.mp hb];exact fp
 .exact kp b q (fun z=>hc (by simp[z])) ((bQ.2.1 b hb).trans e)
 .obtain⟨sl,q'⟩:=bQ.2.2 b q e
  refine⟨sl,kp b _ (fun z=>?_) q'⟩
  subst z
  exact n8 b fp hb
 .rw[Vb.mp hb];exact⟨_,e3⟩
 .first|(simp;done)|(rcases bJ with rfl|⟨_,_,_,_,_,_,_,rfl⟩ <;> simp)
theorem Qhy  (hz:vs.size=6) (h2:∃ cs,jE H cs∧vs[2]?=f' (XU cs 0)):(vs.setIfInBounds 1 v).size=6∧(∃ cs,jE H cs∧(vs.setIfInBounds 1 v)[2]?=f' (XU cs 0))∧(vs.setIfInBounds 1 v)[1]?=f' v:=by
 refine⟨by simpa using hz,?_,?_⟩
 .obtain⟨cs,hc,h2⟩:=h2
  exact⟨cs,hc,by rw[Tj (by decide)];exact h2⟩
 .simp[hz]
theorem Inv.note  (B:Body X) (I:Inv X aa σ H s) (x:X0 X aa H s.heap a c dd tb) (Gb:∀ p,tb=f' p→p.2=.none∨p.2=Vp X.env.locals)
  (hQ:∀ s' T,Inv X aa σ H s'→X0 X aa H s'.heap a c dd (f' (T,Vp X.env.locals))→Q () s'):M' M X.A (Qam (.ref a) X.env) Q E s:=by
 obtain⟨o,vs,h1,hc,cT,hd,hz,h2,oq⟩:=x.at_.ob
 have aT:∀ s' T,Inv X aa σ H s'→cJ X aa H T→T≠a→s'.heap.get? a=f' (o.mapFields (·.setIfInBounds 1 (.ref T)))→(∃ oT ts,s'.heap.get? T=f' oT∧oT.data=.fields ts∧ts[3]?=f' (Vp X.env.locals))→Q () s':=fun s' T I' fT ne e' tr=>by
  obtain⟨z1,z2,z3⟩:=Qhy (v:=.ref T) hz h2
  refine hQ s' T I' ⟨x.fp,fun p q=>?_,⟨_,_,e',(Qfj _ _).trans hc,(Qr _ _).trans cT,Zv hd _,z1,z2,z3⟩,fun p q=>?_⟩
  .cases q;exact fT
  .cases q;exact⟨ne,tr⟩
 unfold Qam
 simp only[B.2]
 cases tb with
 | none=>
  refine mT (RB h1 hd oq ?_)
  rw[UF (by decide)]
  exact Dk B I x.fp h1 hd hz fun s' T I' _ fT ne e' tr=>aT s' T I' fT ne e' tr
 | some p=>
  obtain⟨T,fl⟩:=p
  obtain⟨ne,oT,ts,hT,mX,h3⟩:=x.at_.tr _ rfl
  refine mT (RB h1 hd oq ?_)
  rw[UH (show(UQ T != Vk)=B' from by simp)]
  refine mT (RB hT mX h3 ?_)
  rcases Gb _ rfl with z|z
  .have z:fl=.none:=z
   subst z
   rw[UF (show ¬ ((Vk == Vp X.env.locals)=B') from by simp[Vp])]
   refine mT (R8 hT mX (Qcf.mp h3).1 ?_)
   have other:∀ b,b≠T→(s.heap.update T (Xl (·.setIfInBounds 3 Vk))).get? b=s.heap.get? b:=fun b hb=>Ri _ _ (UM hb)
   have n8:T∉VA X.stack:=fun z=>(RS.mp (I.WU T z)).elim (x.Xh _ O).2.1 (x.Xh _ O).2.2.1
   have I1:Inv X aa σ H { s with heap:=s.heap.update T (Xl (·.setIfInBounds 3 Vk)) }:=I.slots (ch:=[T]) (tk:=s.toks) (fun b hb=>by rw[Vb.mp hb];exact x.Xh _ O)
    (fun b q _ hc e=>(other b fun z=>hc (by simp[z])).trans e) (fun b q hb e=>⟨q.slots,(other b fun z=>n8 (z ▸ hb)).trans e⟩)
    (fun b hb q e=>(by obtain rfl:=Vb.mp hb;exact⟨_,Rw _ hT (Qa1 (Zv mX _))⟩))
   exact Dk B I1 x.fp ((other a (UM ne)).trans h1) hd hz fun s' T' I' _ Jk Iy e' tr=>aT s' T' I' Jk Iy e' tr
  .have z:fl=Vp X.env.locals:=z
   subst z
   rw[UH (show(Vp X.env.locals == Vp X.env.locals)=B' from ZE _)]
   exact Q5 (hQ s T I x)
theorem Inv.land  (I:Inv X aa σ H s) (x:X0 X aa H s.heap a c dd (f' (T,fl)))
  (hQ:∀ s',Inv X aa σ H s'→X0 X aa H s'.heap a c dd (f' (T,.none))→Q () s'):M' M A (Qbp (.ref a) i') Q E s:=by
 obtain⟨o,vs,h1,hc,cT,hd,hz,h2,oq⟩:=x.at_.ob
 obtain⟨ne,oT,ts,hT,mX,h3⟩:=x.at_.tr _ rfl
 have Bl:3<ts.size:=(Qcf.mp h3).1
 unfold Qbp
 refine mT (RB h1 hd oq ?_)
 rw[UH (show(UQ T != Vk)=B' from by simp)]
 refine R8 hT mX Bl ?_
 have other:∀ b,b≠T→(s.heap.update T (Xl (·.setIfInBounds 3 ((i':Option F').elim Vk fun f=>Vp f)))).get? b=s.heap.get? b:=fun b hb=>Ri _ _ (UM hb)
 have self:=Rw (Xl (·.setIfInBounds 3 ((i':Option F').elim Vk fun f=>Vp f))) hT (Qa1 (Zv mX _))
 have n8:T∉VA X.stack:=fun z=>(RS.mp (I.WU T z)).elim (x.Xh _ O).2.1 (x.Xh _ O).2.2.1
 refine hQ _ (I.slots (ch:=[T]) (tk:=s.toks) (fun b hb=>by rw[Vb.mp hb];exact x.Xh _ O) (fun b q _ hc e=>(other b fun z=>hc (by simp[z])).trans e)
  (fun b q hb e=>⟨q.slots,(other b fun z=>n8 (z ▸ hb)).trans e⟩) (fun b hb q e=>(by obtain rfl:=Vb.mp hb;exact⟨_,self⟩))) ⟨x.fp,fun p q=>?_,⟨o,vs,(other a (UM ne)).trans h1,hc,cT,hd,hz,h2,oq⟩,fun p q=>?_⟩
 .cases q;exact x.Xh (T,fl) rfl
 .cases q;exact⟨ne,_,_,self,Zv mX _,by simp[Bl]⟩
def Vn (P:Vz) (w:Vw):W7:=fun outer H s E e s'=>∃ a c dd T H',e=.ref a∧s'.os=s.os∧XO s'.gens∧Un (VA outer) [] H H' s.heap s'.heap∧Vu P w H' s'.heap ∧
 (s.heap.objs.size≤a∧H' a=i')∧(s.heap.objs.size≤T∧H' T=i')∧ExcAt H' s'.heap a c dd (f' (T,.none))∧E c dd H'
abbrev RK:=St→XK
def PX (X:Cx) (R:RK):Prop:=∀ (aa:List (F'×UZ)) (σ:St) (H:Hp) (s:UG) (a:F') (c:L') (dd:Option F') (tb:Option F'),Inv X aa σ H s→X0 X aa H s.heap a c dd (tb.map fun T=>(T,Vk))→R σ c dd H→X.xe (.ref a) s
theorem yp {tb:Option F'}:∀ p,(tb.map fun T=>(T,Vk))=f' p→p.2=Vk∨p.2=v:=fun p e=>by
 cases tb with
 | none=>cases e
 | some T=>cases e;exact .inl rfl
theorem aV {K:R'}{outer:List VZ}{E:XK} :
  PX (kg (Vn P w) P w K mg base N qual scope f cd A outer s H E) (fun _=>E):=by
 intro aa σ H' s1 a c dd tb I x hE
 have B:Body (kg (Vn P w) P w K mg base N qual scope f cd A outer s H E):=⟨O,O⟩
 show M' _ _ (leaving _ (.ref a)) _ _ s1
 unfold leaving
 refine mT (I.note B x yp fun s2 T I2 x2=>?_)
 refine I2.land x2 fun s3 I3 x3=>?_
 have sz:∀ b,cJ (kg (Vn P w) P w K mg base N qual scope f cd A outer s H E) aa H' b→s.heap.objs.size≤b∧H' b=i':=fun b fb=>by
  refine⟨?_,fb.1⟩
  rcases fb.2.2.2.1 with z|z
  .exact UR (show b∈([]:List F') from z) (by simp)
  .exact z
 exact⟨a,c,dd,T,H',O,I3.os,I3.bare,I3.base,I3.UJ,sz a x3.fp,sz T (x3.Xh _ O),x3.at_,hE⟩
theorem PR {R:RK} (hp:PX X R):∀ (aa:List (F'×UZ)) (σ:St) (H:Hp) (s:UG) (e:L') (s':UG),Inv X aa σ H s→Vn X.prog X.w X.stack H s (R σ) e s'→X.xe e s':=by
 intro aa σ H s e s' I h
 obtain⟨a,c,dd,T,H',rfl,os,bare,un,UJ,ha,hT,x,hE⟩:=h
 have I':Inv X aa σ H' s':=I.Qc1 os un UJ bare fun b z=>UR z (by simp)
 refine hp aa σ H' s' a c dd (f' T) I' ⟨I.WI ha.1 ha.2,fun p q=>?_,x⟩ hE
 cases q
 exact I.WI hT.1 hT.2
section
variable {g:Array Qbv}{d:Drawn}{os:OsState}
variable {nm q:C'}{N:F'}{bs:List L'}{hdct:Bool}{ab:Bool}{col:Option Bool}{k0 k1 k2 k3 k5:Option L'}{B gJ:String}
abbrev g0 (C t:F'):UZ:={ cls:=.ref C,data:=.fields #[.ref t,.none,.none,.none,.bool K',.none] }
abbrev il (bb:List L'):UZ:={ cls:=.type "tuple",data:=.seq bb.toArray }
theorem Mr (F:ExcBaseFacts B newId gJ jq) (T:OwnTail h jq bm){bb:List L'}{Q:L'→UG→Prop}
  (oC:h.get? C=f' (Qaj nm q C N bs bm hdct sn sub ab col dd k0 k1 k2 k3 k5 newId)) (lk:Xk (UD prog w) h (Xn (.ref C) "__init__") (f' (.builtin gJ))) (VW:bb.length≤S')
  (aT:∀ h',(∀ b o,h.get? b=f' o→h'.get? b=f' o)→h'.get? (h.objs.size + 1)=f' (g0 C (h.objs.size + 2))→Q (.ref (h.objs.size + 1)) ⟨h',g,d,t,os⟩) :
  M' (UD prog w) A (call (.ref C) bb) Q E ⟨h,g,d,t,os⟩:=by
 have l1:=tc_lookup
 have l2:=tc_bind (.ref C)
 have GS:(⟨h,g,d,t,os⟩:UG).TypeIs (.ref C) "type":=⟨_,oC,O⟩
 refine Sl (Qge ?_)
 show M' _ _ (callAny (.ref C) _) _ _ _
 repeat (any_goals (first|assumption|(with_reducible refine RW oC ?_)|wp_step))
 refine⟨O,Qe8 (Zu _ (by decide +kernel)) Qgl (TU oC ?_)⟩
 show M' _ (A.under (.builtin "type.__call__" ⟨.ref C::bb,[]⟩)) (W4.«type.__call__» ⟨.ref C::bb,[]⟩) _ _ _
 repeat (first|(with_reducible refine RW oC ?_)|(with_reducible refine QfX oC ?_)|wp_step)
 refine Qe1 (Zu _ F.quiet) (Uk F T oC (Qfn F T oC ?_ VW))
 show M' _ _ _ _ _ _
 have kk:∀ b o,h.get? b=f' o→((h.push (il bb)).push (g0 C h.objs.size)).get? b=f' o:=fun b o e=>Q4 _ (Q4 _ e)
 have sF:=kk _ _ oC
 have oX:((h.push (il bb)).push (g0 C h.objs.size)).get? (h.objs.size + 1)=f' { cls:=.ref C,data:=.fields #[.ref h.objs.size,.none,.none,.none,.bool K',.none] }:=by heap_get
 have we:(UQ C::bm).contains (.ref C)=B':=by simp
 have T1:=T.keeps kk
 unfold Yx
 repeat (first|(with_reducible refine RW oX ?_)|(with_reducible refine S3 sF ?_;rw[we])|wp_step)
 show M' _ _ (Xn (.ref C) _) _ _ _
 refine lk _ _ _ _ kk ?_
 refine RC (mT (T9 (F.init.bind _) (mT (Sl (Zt F.init.plain F.initEntry (wpAny_check_init_subT F T1 sF oX O ?_))))))
 wp_walk
 refine aT _ (fun b o hb=>?_) ?_
 .rw[Ri _ _ (Sa (R0 (Q6 hb)))]
  exact Q4 _ (kk b o hb)
 .rw[Rw _ (Q4 _ oX) rfl]
  simp only[RE];rfl
theorem yH (F:ExcBaseFacts B newId gJ jq) (T:OwnTail h jq bm){bb:List L'}{Q:L'→UG→Prop}
  (oC:h.get? C=f' (Qaj nm q C N bs bm hdct sn sub ab col dd k0 k1 k2 k3 k5 newId)) (lk:Xk (UD prog w) h (Xn (.ref C) "__init__") (f' (.ref fI))) (oF:h.get? fI=f' oI) (fF:oI.cls=.type "function") (VW:bb.length≤S')
  (aT:M' (UD prog w) (A.under (.builtin "type.__call__" ⟨.ref C::bb,[]⟩)) (call (.ref fI) (.ref (h.objs.size + 1)::bb)) (fun r s'=>r=.none∧Q (.ref (h.objs.size + 1)) s') E ⟨(h.push (il bb)).push (g0 C h.objs.size),g,d,t,os⟩) :
  M' (UD prog w) A (call (.ref C) bb) Q E ⟨h,g,d,t,os⟩:=by
 have l1:=tc_lookup
 have l2:=tc_bind (.ref C)
 have GS:(⟨h,g,d,t,os⟩:UG).TypeIs (.ref C) "type":=⟨_,oC,O⟩
 refine Sl (Qge ?_)
 show M' _ _ (callAny (.ref C) _) _ _ _
 repeat (any_goals (first|assumption|(with_reducible refine RW oC ?_)|wp_step))
 refine⟨O,Qe8 (Zu _ (by decide +kernel)) Qgl (TU oC ?_)⟩
 show M' _ (A.under (.builtin "type.__call__" ⟨.ref C::bb,[]⟩)) (W4.«type.__call__» ⟨.ref C::bb,[]⟩) _ _ _
 repeat (first|(with_reducible refine RW oC ?_)|(with_reducible refine QfX oC ?_)|wp_step)
 refine Qe1 (Zu _ F.quiet) (Uk F T oC (Qfn F T oC ?_ VW))
 show M' _ _ _ _ _ _
 have kk:∀ b o,h.get? b=f' o→((h.push (il bb)).push (g0 C h.objs.size)).get? b=f' o:=fun b o e=>Q4 _ (Q4 _ e)
 have sF:=kk _ _ oC
 have HU:=kk _ _ oF
 have oX:((h.push (il bb)).push (g0 C h.objs.size)).get? (h.objs.size + 1)=f' { cls:=.ref C,data:=.fields #[.ref h.objs.size,.none,.none,.none,.bool K',.none] }:=by heap_get
 have we:(UQ C::bm).contains (.ref C)=B':=by simp
 unfold Yx
 repeat (first|(with_reducible refine RW oX ?_)|(with_reducible refine S3 sF ?_;rw[we])|wp_step)
 show M' _ _ (Xn (.ref C) _) _ _ _
 refine lk _ _ _ _ kk ?_
 refine RC (mT ?_)
 unfold bindSpecial
 refine mT (SG (T:="function") ⟨_,HU,fF⟩ ?_)
 rw[UH (by decide)]
 refine Q5 (mT (RP aT (fun r s' z=>?_) fun _ _ x=>x))
 obtain⟨rfl,z⟩:=z
 wp_walk
 exact z
theorem Lf {x:V3 L'}{Q:WG→UG→Prop} (hb:bm.contains (.type "BaseException")=B')
  (hx:M' M A x (fun v s₁=>∃ e t dx,v=.ref e∧s₁.heap.get? C=f' (Qaj nm q C N bs bm hdct sn sub ab col dd k0 k1 k2 k3 k5 newId)∧s₁.heap.get? e=f' { cls:=.ref C,dict:=dx,data:=.fields #[.ref t,.none,.none,.none,.bool K',.none] }∧M' M A (raiseNew (.ref e):V3 WG) Q E s₁) E s) :
  M' M A (Qbq env (f' x) i') Q E s:=by
 have mR:(UQ C::bm).contains (.type "BaseException")=B':=by rw[TF,hb,SH]
 unfold Qbq
 refine mT (RP hx (fun v s₁ z=>?_) fun _ _ y=>y)
 obtain⟨e,t,dx,rfl,oC,oe,z⟩:=z
 obtain⟨hp,g,d,tk,os⟩:=s₁
 repeat (first|exact z|(with_reducible refine RW oe ?_)|(with_reducible refine RW oC ?_)|(with_reducible refine S3 oC ?_;rw[mR])|wp_step)
end
def rP (K:R') (C:F') (jq:List L') (newId:String):Bool:=match K.lookup C with
 | some ⟨.type "type",_,.cls cd,sl⟩=>(match cd.mro,sl.toList with
  | .ref C1::bm,[_,_,_,_,f' (.builtin n),_]=>C1 == C && n == newId && !cd.hasDel && PySem.W.tailIn K jq bm
  | _,_=>K')
 | _=>K'
structure QbL (h:U6) (C:F') (jq bm:List L') (newId:String):Prop where
 obj:∃ nm q N bs hdct sn sub ab col dd k0 k1 k2 k3 k5,h.get? C=f' (Qaj nm q C N bs bm hdct sn sub ab col dd k0 k1 k2 k3 k5 newId)
 tail:OwnTail h jq bm
theorem lw {K:R'} (X:K.In h) (e:rP K C jq newId=B'):∃ bm,QbL h C jq bm newId:=by
 unfold rP at e
 split at e
 .rename_i d1 c1 s1 W8
  split at e
  .rename_i C1 bm j0 j1 j2 j3 n1 j5 m1 z1
   simp only[Rn,Wg,So] at e
   obtain⟨⟨⟨rfl,rfl⟩,nd⟩,tl⟩:=e
   obtain⟨f1,f2,f3,f4,f5,f6,f7,f8,f9,Jj,QI⟩:=c1
   dsimp only at m1 nd
   subst m1 nd
   obtain rfl:s1=#[j0,j1,j2,j3,f' (.builtin n1),j5]:=by
    obtain⟨l1⟩:=s1
    simp only at z1
    rw[z1]
   exact⟨bm,⟨f1,f5,f4,f2,f6,f7,f8,f9,Jj,d1,j0,j1,j2,j3,j5,X _ _ W8⟩,PySem.W.tail_of_in X tl⟩
  .cases e
 .cases e
section
open PySem.Builtin.ObjectAttr
abbrev X1:List L':=[.type "ValueError",.type "Exception",.type "BaseException",.type "object"]
theorem Qhz (self:L'):refuseLoop self "__setattr__" X1=pure ():=by kernel_rfl
def oP:List L'→Bool
 | .ref _::r=>oP r
 | l=>l == X1
theorem DD (self:L'):∀ {l:List L'},oP l=B'→refuseLoop self "__setattr__" l=pure ()
 | .ref c::r,e=>by rw[refuseLoop_ref];exact DD self (l:=r) (by simpa [oP] using e)
 | [],e=>by cases e
 | .type n::r,e=>by rw[Wg.mp (show((Yw n::r) == X1)=B' from e)];exact Qhz self
 | .none::r,e=>by cases e
 | .bool _::r,e=>by cases e
 | .int _ _::r,e=>by cases e
 | .str _ _::r,e=>by cases e
 | .bytes _ _::r,e=>by cases e
 | .float _ _::r,e=>by cases e
 | .builtin _::r,e=>by cases e
 | .notImplemented::r,e=>by cases e
 | .ellipsis::r,e=>by cases e
theorem FE:∀ {l:List L'},oP l=B'→l.contains (.type "object")=B'
 | .ref c::r,e=>by rw[TF,FE (l:=r) (by simpa [oP] using e),SH]
 | [],e=>by cases e
 | .type n::r,e=>by rw[Wg.mp (show((Yw n::r) == X1)=B' from e)];rfl
 | .none::r,e=>by cases e
 | .bool _::r,e=>by cases e
 | .int _ _::r,e=>by cases e
 | .str _ _::r,e=>by cases e
 | .bytes _ _::r,e=>by cases e
 | .float _ _::r,e=>by cases e
 | .builtin _::r,e=>by cases e
 | .notImplemented::r,e=>by cases e
 | .ellipsis::r,e=>by cases e
def QhA (K:R') (C:F'):Bool:=(Qbd K C).any fun cd=>oP cd.mro
structure oS (K:R') (C:F') (f:C'):Prop where
 sa:VT K (.ref C) "__setattr__"=f' (f' (.builtin "object.__setattr__"))
 ov:QhA K C=B'
 tk:Qa7 K C f=f' i'
 hd:Zw K C=B'
section
variable {K:R'}{x:F'}
theorem Kz  (X:K.In s.heap) (hx:s.heap.get? x=f' { cls:=.ref C,data:=.fields vs }) (Z:oS K C name)
  (aT:∀ h',(∀ b o,b≠x→s.heap.get? b=f' o→h'.get? b=f' o)→h'.get? x=f' { cls:=.ref C,dict:=f' s.heap.objs.size,data:=.fields vs } →
   h'.Ns1 s.heap.objs.size (fun y=>if y=name then f' v else i')→Q () { s with heap:=h',toks:=s.toks + 2 }):M' (UD prog w) A (setAttr (.ref x) name v) Q E s:=by
 have J:Yt s.heap x { cls:=.ref C,data:=.fields vs } C i':=⟨hx,O,O,Ws⟩
 refine Qe2 X J Z.sa ?_
 have SF:=PySem.F.store_object
 obtain⟨cd,hc,ho⟩:=ZA Z.ov
 have ne:cd.mro.isEmpty=K':=by cases q:cd.mro with|nil=>rw[q] at ho;cases ho|cons _ _=>rfl
 have HY:Xk (UD prog w) s.heap (Yx (.ref x) (.type "object")) B':=J.type.andThen (Qad X (by unfold Vh;rw[hc,SZ,UF (by rw[ne];decide),FE ho]))
 refine Zt SF.slot.plain SF.entry (@Qcm (UD prog w) _ _ { s with toks:=s.toks + 1 } "object.__setattr__" "object" "__setattr__" (.ref x) [.str name s.toks,v] [] _ SF.kind SF.split HY (SF.args (.ref x) (.str name s.toks) v) ?_)
 obtain⟨pV,ha,hr⟩:=QeL.mp Z.tk
 have mr:Xk (UD prog w) s.heap (mroOf (.ref C)) cd.mro:=(Qck X hc).andThen .now
 have tk:Xk (UD prog w) s.heap (storeTaker? pV) i':=by
  cases pV with
  | none=>cases hr;exact .now
  | some a=>
   obtain⟨b,hb,z⟩:=Zq.mp hr
   refine(PySem.W.looks_takesIn X hb).andThen ?_
   cases b with
   | true=>cases z
   | false=>exact .now
 rw[PySem.W.osa_eq,refuse_eq]
 refine mT (mT (YV (s:={ s with toks:=s.toks + 1 }) J.type (mT (YV (s:={ s with toks:=s.toks + 1 }) mr ?_))))
 rw[DD _ ho]
 refine Q5 (mT (YV (s:={ s with toks:=s.toks + 1 }) J.type (mT (YV (s:={ s with toks:=s.toks + 1 }) (XC X ha) (mT (YV (s:={ s with toks:=s.toks + 1 }) tk ?_))))))
 obtain⟨QJ,jk,cY⟩:=ZA Z.hd
 refine mT (Q5 (mT (mT (TB hx (mT (YV (s:={ s with toks:=s.toks + 1 }) (Qck X jk) ?_))))))
 rw[cY]
 have lt:=Q6 hx
 have xs:x≠s.heap.objs.size:=Rb lt
 have Bw:(s.heap.push { cls:=.type "dict",data:=.dict #[] }).get? x=f' { cls:=.ref C,data:=.fields vs }:=Q4 _ hx
 refine mT (wpAny_alloc' (mT (wpAny_update' Bw (Q5 (mT (Q5 (mT ?_)))))))
 generalize hG:(s.heap.push { cls:=.type "dict",data:=.dict #[] }).update x (fun o=>{ cls:=o.cls,dict:=f' s.heap.objs.size,data:=o.data,slots:=o.slots })=G
 have eW:∀ b,b≠x→G.get? b=(s.heap.push { cls:=.type "dict",data:=.dict #[] }).get? b:=fun b hb=>by rw[← hG];exact Ri _ _ (UM hb)
 have gd:G.get? s.heap.objs.size=f' { cls:=.type "dict",data:=.dict #[] }:=(eW _ (UM xs)).trans (Ra _ O)
 have gx:G.get? x=f' { cls:=.ref C,dict:=f' s.heap.objs.size,data:=.fields vs }:=by rw[← hG,Rw _ Bw rfl]
 have n0:G.Ns s.heap.objs.size (fun _=>i'):=⟨_,#[],_,gd,O,fun e he=>UR he (by simp),fun _=>O⟩
 refine wpAny_nsSet1 (s:=⟨G,s.gens,s.drawn,s.toks + 1,s.os⟩) (Uy n0) fun h' mI fG=>?_
 obtain⟨oD,Ii,Ge,vS,vD,jm⟩:=mI.count (ns:=[name]) (fun y hy=>by
  split at hy
  .rename_i z;simp[z]
  .exact UR O hy)
 refine mT (QfY vS (by rw[vD];exact Qf3 (RT jm (by simp[Q9]))) ?_)
 refine Q5 (aT h' (fun b o hb q=>?_) ((fG.2 _ xs).trans gx) mI)
 exact(fG.2 b (Rb (Q6 q))).trans ((eW b hb).trans (Q4 _ q))
end
structure pE (K:R') (C:F') (f:C'):Prop where
 ga:VT K (.ref C) "__getattribute__"=f' (f' (.builtin "BaseException.__getattribute__"))
 gt:VT K (.ref C) "__getattr__"=f' i'
 ba:Vh K C (.type "BaseException")=f' B'
 na:VT K (.ref C) f=f' i'
 hd:Zw K C=B'
section
variable {K:R'}{x:F'}{mA:C'→Option L'}
theorem L9 {kG:Bool}{Q:L'→UG→Prop} (X:K.In s.heap) (hx:s.heap.get? x=f' o) (hc:o.cls=.ref C) (hf:∃ vs,o.data=.fields vs) (gM:o.dict=f' dx) (hn:s.heap.Ns1 dx mA) (Z:pE K C name) (hv:mA name=f' v) (hh:Qcs v=B')
  (aT:Q v { s with toks:=s.toks + 1 }):M' (UD prog w) A (Qar (.ref x) name kG) Q E s:=by
 obtain⟨od,kt,hl⟩:=xS hn
 have J:Yt s.heap x o C (f' od):=⟨hx,hc,by obtain⟨vs,hf⟩:=hf;unfold Qcz;rw[hf],by rw[gM];exact kt⟩
 have L1:=XC (M:=UD prog w) X Z.ga
 have L2:=XC (M:=UD prog w) X Z.gt
 have L3:=QeY (M:=UD prog w) X J (QeW Z.hd Z.na O (by rw[hl,hv]))
 have L0:=J.type (M:=UD prog w)
 have mR:Xk (UD prog w) s.heap (Yx (.ref x) (.type "BaseException")) B':=J.type.andThen (Qad X Z.ba)
 obtain⟨hp,g,d,t,os⟩:=s
 unfold Qar Qbr
 refine mT (wpAny_mkText (RC (mT (L0.at (mT (L1.at ?_))))))
 show M' _ _ (if _ then _ else _) _ _ _
 rw[UF (by rw[show(Qbi "BaseException.__getattribute__" == Qbi "object.__getattribute__")=K' by decide +kernel,SV];decide)]
 unfold Qgd
 refine mT (L2.at (mT (R4 (RC ?_))))
 unfold Qf6
 rw[UF (by cases kG <;> decide)]
 unfold Qgn
 have G:=Qex.ga
 refine mT ?_
 rw[G.bind]
 refine Q5 (Sl (Zt G.plain QeR (@Qcm (UD prog w) _ _ ⟨hp,g,d,t + 1,os⟩ "BaseException.__getattribute__" "BaseException" "__getattribute__" (.ref x) [.str name t] [] _ (by decide +kernel) (by decide +kernel) mR (QeV (.ref x) (.str name t)) ?_)))
 refine mT (Q5 (mT (Q5 (mT (L0.at (mT (L3.at (Q5 ?_))))))))
 show M' _ _ (handedOut v) _ _ _
 rw[PySem.W.handedOut_of hh]
 exact Q5 aT
end
end
def del (H:Hp) (a:F'):Hp:=fun b=>if b=a then i' else H b
theorem ux:del H a a=i':=by unfold del;rw[UH rfl]
theorem ly  (h:b≠a):del H a b=H b:=by unfold del;rw[UF h]
variable {CX:W7}{I S d i1 i2 l1 l2 z:F'}{Q:Option L'→UG→Prop}{aI vs:List V}{aw np p Zc:Vx}{cs:List F'}{ds us:List L'}{e l value:UY}{eS:Array (Option L')}{ep k1 k2:Nat}{es:List UY}{fd:WO}{g:TG}{hs:List Qah}{kvs:List (Key×V)}{oc pm res:L'}{od:Option UZ}{pl:V3 Bool}{ps:List C'}{sp:Sp}{st:US}{t:VY}{ta tl:TE}
def cy (C t a:F') (dx:Option F'):HO:=.ext fun h=>h.get? a=f' { cls:=.ref C,dict:=dx,data:=.fields #[.ref t,.none,.none,.none,.bool K',.none] }
theorem Inv.del {a:F'}{φ:U6→Prop} (I:Inv X aa σ H s) (e:H a=f' (.ext φ)):Inv X aa σ (del H a) s:=by
 have ne:∀ b u,H b=f' u→(∀ ψ,u≠.ext ψ)→b≠a:=fun b u q n z=>by rw[z,e] at q;cases q;exact n _ rfl
 have un:Un X.fs X.ex X.H₀ (L2.del H a) X.s₀.heap s.heap:=by
  obtain⟨b1,b2,b3,b4,b5,b6,b7⟩:=I.base
  refine⟨b1,b2,fun b o q n x=>?_,b4,fun b xs q=>?_,fun b o u q=>?_,fun b pp pq q=>?_⟩
  .unfold L2.del;split
   .rfl
   .exact b3 b o q n x
  .have:=b5 b xs q
   rw[ly (ne b _ this (by intro ψ z;cases z))];exact this
  .have:=b6 b o u q
   rw[ly (ne b _ this (by intro ψ z;cases z))];exact this
  .have:=b7 b pp pq q
   rw[ly (ne b _ this (by intro ψ z;cases z))];exact this
 have none_of:∀ b,H b=i'→L2.del H a b=i':=fun b q=>by unfold L2.del;split <;> first|rfl|exact q
 refine { I with base:=un,free:=none_of _ I.free,V0:=fun x c q=>none_of _ (I.V0 x c q),pin:=fun p hp=>?_,UJ:=fun b o q=>?_ }
 .obtain⟨p1,p2,p3⟩:=I.pin p hp
  exact⟨p1,none_of _ p2,p3⟩
 .by_cases hb:b=a
  .subst hb;rw[ux] at q;cases q
  .rw[ly hb] at q
   refine(I.UJ b o q).WS (fun c u _ r=>r) (fun c r=>?_) (fun c xs r=>?_) fun c ob r=>?_
   .rw[ly (ne c _ r (by intro ψ z;cases z))];exact r
   .rw[ly (ne c _ r (by intro ψ z;cases z))];exact r
   .rw[ly (ne c _ r (by intro ψ z;cases z))];exact r
theorem Eo {R:RK}{t:F'}{dx:Option F'}{Q:WG→UG→Prop} (hp:PX X R) (I:Inv X aa σ H s) (fp:cJ X aa H a)
  (he:s.heap.get? a=f' { cls:=.ref C,dict:=dx,data:=.fields #[.ref t,.none,.none,.none,.bool K',.none] }) (hR:R σ (.ref C) dx H):M' (UD X.prog X.w) X.A (raiseNew (.ref a):V3 WG) Q X.xe s:=by
 obtain⟨f0,f1,f2,f3,f4,f5⟩:=id fp
 refine tW (s:=s) ?_ he O (by simp) fun h' o' i8 k1 k2 k3 k4 k5 k6 k7 k8=>?_
 .rcases I.XW with z|⟨b,cs,z,c⟩
  .exact .inl z
  .exact .inr ⟨b,cs,z,c.ZQ I.UJ,c.ZR f0⟩
 .have I':Inv X aa σ H { s with heap:=h' }:=I.turned (t':=s.toks) k1 f0 f1 f3 f4 f5
  refine hp aa σ H _ a (.ref C) dx i' I' ⟨fp,fun p q=>(by cases q),⟨⟨o',i8,k2,k3,k4,k5,k6,?_,?_⟩,fun p q=>(by cases q)⟩⟩ hR
  .rcases I.XW with z|⟨b,cs,z,c⟩
   .rw[z] at k8
    exact⟨[],⟨Su,fun j a q=>by simp at q⟩,k8⟩
   .rw[z] at k8
    exact⟨b::cs,c,k8⟩
  .exact k7
structure Xx (K:R') (C:F'):Prop where
 at_:rP K C X1 "ValueError.__new__"=B'
 kp:WZ K (.ref C)=B'
 init:VT K (.ref C) "__init__"=f' (f' (.builtin "ValueError.__init__"))
structure ZZ (K:R') (C f:F'):Prop where
 at_:rP K C X1 "ValueError.__new__"=B'
 kp:WZ K (.ref C)=B'
 init:VT K (.ref C) "__init__"=f' (f' (.ref f))
 fn:Yu K (.ref f)=B'
def Ma (C:F') (R:RK) (t:TA):TS:=fun _ σ H=>t σ H fun vs H1=>vs.length≤S'∧R σ (.ref C) i' H1
def uM (C:F') (sp:Sp) (aI:List V) (R:RK) (t:TA):TS:=fun _ σ H=>t σ H fun vs H1=>vs.length≤S'∧∀ a t',H1 a=i' →
 sp (.ref a::(vs++aI)) (upd H1 a (cy C t' a i')) (fun v H2=>v=.UO∧∃ dx,H2 a=f' (cy C t' a dx)∧R σ (.ref C) dx (del H2 a)) (R σ)
section
variable {R:RK}{t:TA}
theorem DW {a:List UY}{Q:WG→UG→Prop} (hx:QbL s.heap C X1 bm "ValueError.__new__")
  (h:M' (UD X.prog X.w) X.A (UV (.Call (.Name x np) a [] aw) X.env) (fun v s₁=>∃ b t dx,v=.ref b∧(∀ o,s.heap.get? C=f' o→s₁.heap.get? C=f' o)∧s₁.heap.get? b=f' { cls:=.ref C,dict:=dx,data:=.fields #[.ref t,.none,.none,.none,.bool K',.none] }∧M' (UD X.prog X.w) X.A (raiseNew (.ref b):V3 WG) Q X.xe s₁) X.xe s) :
  M' (UD X.prog X.w) X.A (exec (.Raise (f' (.Call (.Name x np) a [] aw)) i' pos) X.env) Q X.xe s:=by
 obtain⟨⟨nm,q,N,bs,hdct,sn,sub,ab,col,dd,k0,k1,k2,k3,k5,oC⟩,T⟩:=hx
 rw[Qgo]
 refine mT (Sy (Lf (C:=C) (nm:=nm) (q:=q) (N:=N) (bs:=bs) (bm:=bm) (hdct:=hdct) (sn:=sn) (sub:=sub) (ab:=ab) (col:=col) (dd:=dd) (k0:=k0) (k1:=k1) (k2:=k2) (k3:=k3) (k5:=k5) (newId:="ValueError.__new__") (T.hasType O) (mT (RP h (fun v s1 z=>mT (Sy (Q5 ?_))) fun _ _ y=>y))))
 obtain⟨b,t,dx,z1,z2,z3,z4⟩:=z
 exact⟨b,t,dx,z1,z2 _ oC,z3,z4⟩
theorem Pj {s0:UG}{Q:WG→UG→Prop} (hp:PX X R) (c:Xx X.K C) (I:Inv X aa σ H s) (hz:us.length≤S') (hs:∀ o,s0.heap.get? C=f' o→s.heap.get? C=f' o) (hR:R σ (.ref C) i' H) :
  M' (UD X.prog X.w) X.A (call (.ref C) us) (fun v s₁=>∃ b t dx,v=.ref b∧(∀ o,s0.heap.get? C=f' o→s₁.heap.get? C=f' o)∧s₁.heap.get? b=f' { cls:=.ref C,dict:=dx,data:=.fields #[.ref t,.none,.none,.none,.bool K',.none] }∧M' (UD X.prog X.w) X.A (raiseNew (.ref b):V3 WG) Q X.xe s₁) X.xe s:=by
 obtain⟨bm,⟨nm,q,N,bs,hdct,sn,sub,ab,col,dd,k0,k1,k2,k3,k5,oC⟩,T⟩:=lw I.U9 c.at_
 have I0:=I
 obtain⟨h,g,d,tk,os⟩:=s
 refine Mr QaQ T oC (XC I.U9 c.init) hz fun h' k' e'=>?_
 have I':Inv X aa σ H ⟨h',g,d,tk,os⟩:=I0.kept (t':=tk) k'
 refine⟨_,_,i',O,fun o q=>k' _ _ (hs o q),e',Eo hp I' ?_ e' hR⟩
 exact I0.WI (s:=⟨h,g,d,tk,os⟩) (RJ _) (I0.UJ.fresh (RJ _))
theorem iw (hp:PX X R) (c:Xx X.K C) (hg:Gl X x) (hm:X.mg x=f' (.ref C)) (Vi:(x == ("__debug__":C'))=K':=by decide):PS X (.Raise (f' (.Call (.Name x np) [] [] aw)) i' pos) (Ma C R lV):=by
 intro aa s σ H D I h
 obtain⟨bm,xc⟩:=lw I.U9 c.at_
 refine DW xc (RQ (lC I hg hm ?_ Vi))
 exact Qcl I.U9 c.kp (Pj hp c I h.1 (fun _ q=>q) h.2)
variable {k:Nat}
theorem Py (hp:PX X R) (c:ZZ X.K C f) (F:cE X.prog X.w X.K X.mg X.base CX k f fd ps sp) (hr:bw (k + 1) X.A) (hb:dR X.K fd ps ds) (hd:aB aI ds) (Jz:∀ σ,lf CX X (R σ)) (hg:Gl X x) (hm:X.mg x=f' (.ref C)) (ha:PA X (e::es) t)
  (Vi:(x == ("__debug__":C'))=K':=by decide) (he:UU (e::es) X.env=(K',UV e X.env)::UU es X.env:=by rfl) (bJ:(Vq aw (UU es X.env)).any (·.1)=K':=by rfl) :
  PS X (.Raise (f' (.Call (.Name x np) (e::es) [] aw)) i' pos) (uM C sp aI R t):=by
 intro aa s σ H D I h
 obtain⟨JG,xc⟩:=lw I.U9 c.at_
 refine DW xc (RQ (lC I hg hm ?_ Vi))
 refine Yq (h₀:=X.base) I.ok.mod.W6 c.kp (UP (ha aw aa s σ H _ I h) fun us s1 ⟨vs,H1,I1,r,z,q⟩=>⟨I1.U9,?_⟩) he bJ
 obtain⟨Jt,⟨HA,q2,N2,GT,rb,Jo,wz,GZ,wq,vA,l0,l1,l2,l3,l5,qR⟩,_⟩:=lw I.ok.mod.W6 c.at_
 have C0:∀ o,s.heap.get? C=f' o→X.base.get? C=f' o:=fun o q=>by rw[I.bk _ _ qR] at q;rw[← q];exact qR
 obtain⟨bm,⟨nm,qn,N,bs,hdct,sn,sub,ab,col,dd,k0,k1,k2,k3,k5,oC⟩,T⟩:=lw I1.U9 c.at_
 have ie:(X.K.lookup f).map (·.cls)=f' (.type "function"):=Wg.mp c.fn
 obtain⟨oF,hF,hFc⟩:∃ oF,X.K.lookup f=f' oF∧oF.cls=.type "function":=by
  cases hk:X.K.lookup f with
  | none=>rw[hk] at ie;cases ie
  | some oF=>rw[hk] at ie;exact⟨oF,O,VE ie⟩
 have hz:us.length≤S':=by rw[← r.length];exact z
 have J:=I1
 obtain⟨aC,g,d,tk,os⟩:=s1
 refine yH QaQ T oC (XC I1.U9 c.init) (I1.U9 _ _ hF) hFc hz ?_
 have kk:∀ b o,aC.get? b=f' o→((aC.push (il us)).push (g0 C aC.objs.size)).get? b=f' o:=fun b o e=>Q4 _ (Q4 _ e)
 have oX:((aC.push (il us)).push (g0 C aC.objs.size)).get? (aC.objs.size + 1)=f' { cls:=.ref C,data:=.fields #[.ref aC.objs.size,.none,.none,.none,.bool K',.none] }:=by heap_get
 have fr:H1 (aC.objs.size + 1)=i':=J.UJ.fresh (RJ _)
 have I2:Inv X aa σ (upd H1 (aC.objs.size + 1) (cy C aC.objs.size (aC.objs.size + 1) i')) ⟨(aC.push (il us)).push (g0 C aC.objs.size),g,d,tk,os⟩:=
  J.laid (t':=tk) kk (RJ _) ⟨oX,⟨_,oX⟩,fun h1 h2 p1 p2=>p2 _ p1⟩
 have q':=q (aC.objs.size + 1) aC.objs.size fr
 have r2:aB (V.ref (aC.objs.size + 1)::(vs++aI)) (UQ (aC.objs.size + 1)::(us++ds)):=.cons O (r.append hd)
 have hl:(UQ (aC.objs.size + 1)::us++ds).length=ps.length:=by
  have e:=r2.length
  rw[F.len _ _ _ _ q'] at e
  exact e.symm
 refine Sl (Yv (F.run _ X.stack _ _ ⟨UQ (aC.objs.size + 1)::us,[]⟩ (UQ (aC.objs.size + 1)::(us++ds)) _ _ (R σ) (hr.make C us []) (I2.Zf.make C us []) (hb _ (UQ (aC.objs.size + 1)::us) I2.U9 hl) r2 q') fun rr s' cO=>?_)
 cases rr with
 | error e=>exact Jz σ aa σ _ _ e s' I2 cO
 | ok fl=>
  cases fl with
  | ret u=>
   obtain⟨v,H',I3,rv,ev,dx,e3,q3⟩:=I2.after cO
   subst ev
   refine⟨rv,_,aC.objs.size,dx,O,fun o q=>I3.bk _ _ (C0 o q),(I3.UJ _ _ e3).1,?_⟩
   refine Eo hp (I3.del e3) ?_ (I3.UJ _ _ e3).1 q3
   exact J.WI (s:=⟨aC,g,d,tk,os⟩) (RJ _) ux
  | next=>exact VL cO
  | brk=>exact VL cO
  | cont=>exact VL cO
def QhB (K:R') (ta tv:TE) (f:C'):TS:=fun D σ H=>tv σ H fun y H1=>ta σ H1 fun x H2=>∃ a C t,x=.ref a∧H2 a=f' (cy C t a i')∧oS K C f ∧
 ∀ dx,H2 dx=i'→D.nx σ (upd (upd H2 dx (.xd [(f,y)])) a (cy C t a (f' dx)))
theorem uU {o:UY}{tv:TE}{f:C'} (ha:PE X o ta) (hv:PE X value tv) (hs:ZK value (f' (.Attribute o f bu)) pos.line X.env=pure K'):PS X (.Assign [.Attribute o f bu] value pos) (QhB X.K ta tv f):=by
 intro aa s σ H D I h
 refine QeD (UP (hv aa s σ H _ I h) fun v s1=>L2.U1 fun y H1 I1 ry q1=>UP (ha aa s1 σ H1 _ I1 q1) fun u s2=>L2.U1 fun x H2 I2 rx q2=>?_) hs
 obtain⟨a,C,t,rfl,e2,Z,q2⟩:=q2
 obtain rfl:u=UQ a:=rx
 have oa:=(I2.UJ _ _ e2).1
 refine Kz I2.U9 oa Z fun h' k1 k2 k3=>?_
 have dn:H2 s2.heap.objs.size=i':=I2.UJ.fresh (Q7 _)
 have da:s2.heap.objs.size≠a:=(aq e2 dn).symm
 have old:∀ b o,s2.heap.get? b=f' o→b≠s2.heap.objs.size:=fun b o q=>Rb (Q6 q)
 have na:∀ b u,H2 b=f' u→(∀ ψ,u≠.ext ψ)→b≠a:=fun b u q n z=>by rw[z,e2] at q;cases q;exact n _ rfl
 have nd:∀ b u,H2 b=f' u→b≠s2.heap.objs.size:=fun b u q=>aq q dn
 have aR:∀ b u,H2 b=f' u→(∀ ψ,u≠.ext ψ)→upd (upd H2 s2.heap.objs.size (.xd [(f,y)])) a (cy C t a (f' s2.heap.objs.size)) b=f' u:=fun b u q n=>by rw[aj (na b u q n),aj (nd b u q)];exact q
 refine⟨σ,_,I2.un (t':=s2.toks + 2) ⟨fun b o q n _ _=>k1 b o (fun z=>?_) q,fun b o q n _ _=>⟨o.slots,k1 b o (fun z=>?_) q⟩,fun b o q n _=>?_,fun b o q _=>?_,fun b xs q=>?_,fun b o u q=>?_,fun b pp pq q=>?_⟩ (fun b o q=>?_),q2 _ dn⟩
 .rw[z,e2] at n;cases n
 .rw[z,e2] at n;cases n
 .rw[aj (fun z=>by rw[z,e2] at n;cases n),aj (old b o q)];exact n
 .by_cases z:b=a
  .subst z;exact⟨_,k2⟩
  .exact⟨o,k1 b o z q⟩
 .exact aR b _ q (by intro ψ z;cases z)
 .exact aR b _ q (by intro ψ z;cases z)
 .exact aR b _ q (by intro ψ z;cases z)
 .by_cases z:b=a
  .subst z
   rw[ag] at q;cases q
   exact⟨k2,⟨_,k2⟩,fun h1 h2 p1 p2=>p2 _ p1⟩
  .rw[aj z] at q
   by_cases z2:b=s2.heap.objs.size
   .subst z2
    rw[ag] at q;cases q
    refine⟨_,k3,fun g=>?_⟩
    by_cases hg:g=f
    .subst hg;simpa [ee] using ry
    .have e0:([(f,y)]:List (C'×V)).lookup g=i':=by rw[R6,show(g == f)=K' from by simpa using hg];rfl
     rw[e0,UF hg];exact Ws
   .rw[aj z2] at q
    refine(I2.UJ b o q).WS (fun c u hc r=>k1 c u ?_ r) (fun c r=>aR c _ r (by intro ψ z;cases z)) (fun c xs r=>aR c _ r (by intro ψ z;cases z)) fun c ob r=>aR c _ r (by intro ψ z;cases z)
    rcases hc with hc|hc
    .rw[hc];exact z
    .exact na c _ hc (by intro ψ z;cases z)
end
section
open PySem.Builtin.ObjectAttr
structure V' (K:R') (C:F'):Prop where
 ga:VT K (.ref C) "__getattribute__"=f' (f' (.builtin "BaseException.__getattribute__"))
 gt:VT K (.ref C) "__getattr__"=f' i'
 ba:Vh K C (.type "BaseException")=f' B'
 ob:Vh K C (.type "object")=f' B'
 cl:VT K (.ref C) "__class__"=f' (f' (.builtin "object.__class__"))
 gs:Qco K (.builtin "object.__class__") "__get__"=f' (f' (.builtin "getset_descriptor.__get__"))
 tk:Qe9 K (.builtin "object.__class__")=f' B'
 hd:Zw K C=B'
theorem Qt {K:R'} (Z:V' K C):Qfa K C od "__class__"=f' (.bind (.builtin "getset_descriptor.__get__") (.builtin "object.__class__")):=by
 obtain⟨cd,hc,_⟩:=ZA Z.hd
 unfold Qfa
 rw[hc,SZ,Z.cl,SZ]
 dsimp only
 rw[Z.gs,SZ]
 dsimp only
 rw[Z.tk,SZ]
section
variable {K:R'}{x:F'}{ox:UZ}
theorem Oo  (Z:V' K C) (X:K.In s.heap) (J:Yt s.heap x ox C od) (aT:Q (f' (.ref C)) { s with toks:=s.toks + 1 }):M' (UD prog w) A (ZL (.ref x) "__class__") Q E s:=by
 have L1:=XC (M:=UD prog w) X Z.ga
 have L2:=XC (M:=UD prog w) X Z.gt
 have L3:=QeY (M:=UD prog w) X J (Qt Z)
 have L0:=J.type (M:=UD prog w)
 have mR:Xk (UD prog w) s.heap (Yx (.ref x) (.type "BaseException")) B':=J.type.andThen (Qad X Z.ba)
 obtain⟨hp,g,d,t,os⟩:=s
 unfold ZL QcV Qbr
 refine mT (wpAny_mkText (mT (R4 (RC (mT (L0.at (mT (L1.at ?_))))))))
 show M' _ _ (if _ then _ else _) _ _ _
 rw[UF (by rw[show(Qbi "BaseException.__getattribute__" == Qbi "object.__getattribute__")=K' by decide +kernel,SV];decide)]
 unfold Qgd
 refine mT (L2.at (mT (R4 (RC ?_))))
 unfold Qf6
 rw[UF (by decide)]
 unfold Qgn
 have G:=Qex.ga
 refine mT ?_
 rw[G.bind]
 refine Q5 (Sl (Zt G.plain QeR (@Qcm (UD prog w) _ _ ⟨hp,g,d,t + 1,os⟩ "BaseException.__getattribute__" "BaseException" "__getattribute__" (.ref x) [.str "__class__" t] [] _ (by decide +kernel) (by decide +kernel) mR (QeV (.ref x) (.str "__class__" t)) ?_)))
 refine mT (Q5 (mT (Q5 (mT (L0.at (mT (L3.at ?_)))))))
 refine mT (RC (Sl (PySem.W.class_get (s:=⟨hp,g,d,t + 1,os⟩) (ox:=ox) (od:=od) X J Z.ob (Q5 ?_))))
 show M' _ _ (handedOut (.ref C)) _ _ _
 exact Q5 (Q5 aT)
theorem Oe (Z:V' K C):PySem.W.KitX K (.ref x) (.ref C) (fun h=>Yt h x ox C od) where
 ty:=fun _ _ _ I=>I.type
 it:=fun _ _ X _=>by
  obtain⟨cD,jm,_⟩:=ZA Z.hd
  unfold Qbd at jm
  split at jm
  .rename_i c1 d1 e1 s1 W8
   intro A' Q' E' s' k q
   unfold isType loadHead
   exact mT (TB (k _ _ (X _ _ W8)) (Q5 q))
  .cases jm
 ne:=fun h tp dd ah n sl X HE=>by
  obtain⟨cD,jm,_⟩:=ZA Z.hd
  refine Bool.eq_false_iff.mpr fun q=>?_
  obtain rfl:C=tp:=UQ.inj (Wg.mp q)
  unfold Qbd at jm
  split at jm
  .rename_i c1 d1 e1 s1 W8
   have z:=(X _ _ W8).symm.trans HE
   cases z
  .cases jm
 ca:=fun X I k=>Oo Z X I k
end
structure Vo (H:Hp) (a C:F') (dd:Option F'):Prop where
 at_:∃ o u,H a=f' (.UT o u)∧o.cls=.ref C∧o.dict=dd∧∃ vs,o.data=.fields vs
theorem Vo.inst  (I:Inv X aa σ H s) (x:Vo H a C i'):∃ o,Yt s.heap a o C i':=by
 obtain⟨o,u,h1,h2,h3,vs,h4⟩:=x.at_
 exact⟨o,(I.UJ _ _ h1).1,h2,by unfold Qcz;rw[h4],by rw[h3];exact Ws⟩
theorem Vo.QhC {fs:List (C'×V)} (I:Inv X aa σ H s) (x:Vo H a C (f' dx)) (hd:H dx=f' (.xd fs)):∃ o od,Yt s.heap a o C (f' od):=by
 obtain⟨o,u,h1,h2,h3,vs,h4⟩:=x.at_
 obtain⟨mA,n,_⟩:=I.UJ _ _ hd
 obtain⟨od,kt,_⟩:=xS n
 exact⟨o,od,(I.UJ _ _ h1).1,h2,by unfold Qcz;rw[h4],by rw[h3];exact kt⟩
def Yl (H:Hp):Option F'→Prop
 | none=>True
 | some dx=>∃ fs,H dx=f' (.xd fs)
theorem Vo.any  (I:Inv X aa σ H s) (x:Vo H a C dd) (hd:Yl H dd):∃ o od,Yt s.heap a o C od:=by
 cases dd with
 | none=>obtain⟨o,h⟩:=x.inst I;exact⟨o,i',h⟩
 | some dx=>obtain⟨fs,hd⟩:=hd;obtain⟨o,od,h⟩:=x.QhC I hd;exact⟨o,f' od,h⟩
theorem io:fU X (.builtin "isinstance") (fun xs H Q=>∃ a C dd vc c b,xs=[.ref a,vc]∧Vo H a C dd∧Yl H dd∧V' X.K C∧(∀ u,aD vc u→u=c)∧UE X.K (.ref C) c=f' b∧Q (.bl b) H):=by
 intro aa s σ H xs us Q I r h
 obtain⟨a,C,dd,vc,c,b,rfl,x,hd,Z,hc,e,q⟩:=h
 obtain⟨u,u',rfl,rx,ry⟩:=nJ r
 obtain rfl:u=UQ a:=rx
 obtain rfl:=hc u' ry
 obtain⟨o,od,J⟩:=x.any I hd
 exact Xb (Oe Z) I.U9 J e (fun z=>nomatch z) fun tk=>⟨.bl b,H,I.tok _,O,q⟩
def Qdq (K:R') (ta:TE) (f:C'):TE:=fun σ H Q=>ta σ H fun x H1=>∃ a C dx fs v,x=.ref a∧Vo H1 a C (f' dx)∧H1 dx=f' (.xd fs)∧pE K C f∧fs.lookup f=f' v∧Q v H1
theorem rC {f:C'} (he:PE X e ta) (hb:X7 e f X.env (UV e X.env)=UV e X.env):PE X (.Attribute e f pos) (Qdq X.K ta f):=by
 intro aa s σ H Q I h
 refine Ev hb (UP (he aa s σ H _ I h) fun u s1=>L2.U1 fun x H1 I1 rx aX=>?_)
 obtain⟨a,C,dx,fs,v,ex,ix,hd,Z,l,q⟩:=aX
 subst ex
 obtain rfl:u=UQ a:=rx
 obtain⟨o,u',h1,h2,h3,hf⟩:=ix.at_
 obtain⟨mA,n,hm⟩:=I1.UJ _ _ hd
 have r:=hm f
 rw[l] at r
 obtain⟨w',e',r'⟩:=r.some_of
 exact L9 I1.U9 (I1.UJ _ _ h1).1 h2 hf h3 n Z e' (Fo r') ⟨v,H1,I1.tok _,r',q⟩
end
abbrev Cx.tr (X:Cx) (pn:List (F'×UZ)) (E:L'→UG→Prop):Cx:={ X with pn:=pn,xe:=E }
abbrev Cx.hnd (X:Cx) (a:F') (H₀:Hp):Cx:={ X with A:=X.A.mark (f' (.ref a)),H₀:=H₀,xe:=fun _ _=>False }
theorem bw.mark {k:Nat}{A:VQ}{v:Option L'} (r:bw k A):bw k (A.mark v):=⟨r.dp,r.un⟩
def eN (H H₀:Hp):Hp:=fun b=>match H b with|some (.UT o u)=>f' (.UT o u)|_=>H₀ b
theorem zT {H₀:Hp}{u:HO} (e:H b=f' (.UT o u)):eN H H₀ b=f' (.UT o u):=by unfold eN;rw[e]
theorem uY {H₀:Hp} (n:∀ o u,H b≠f' (.UT o u)):eN H H₀ b=H₀ b:=by
 unfold eN
 split
 .rename_i o u e;exact UR e (n o u)
 .rfl
theorem Inv.enter (hex:X.ex=[]) (I:Inv X aa σ H s) (x:X0 X aa H s.heap a c dd tb):∃ o,o.cls=c∧o.dict=dd∧(∃ vs,o.data=.fields vs)∧Inv (X.hnd a (eN (upd H a (.UT o (.own a))) X.H₀)) aa σ (upd H a (.UT o (.own a))) s:=by
 obtain⟨o,vs,h1,hc,cT,hd,hz,⟨cs,ch,h2⟩,oq⟩:=x.at_.ob
 obtain⟨f0,f1,f2,f3,f4,f5⟩:=x.fp
 have qQ:X.s₀.heap.objs.size≤a:=by
  rcases f3 with z|z
  .rw[hex] at z;cases z
  .exact z
 refine⟨o,hc,cT,⟨vs,hd⟩,?_⟩
 have na:∀ b u,H b=f' u→b≠a:=fun b u q=>aq q f0
 have old:∀ b ob,X.s₀.heap.get? b=f' ob→b≠a:=fun b ob q=>Rb (Rq (Q6 q) qQ)
 have aR:∀ b u,H b=f' u→upd H a (.UT o (.own a)) b=f' u:=fun b u q=>by rw[aj (na b u q)];exact q
 have cf:∀ b,b≠a→H b=i'→upd H a (.UT o (.own a)) b=i':=fun b z q=>by rw[aj z];exact q
 have lR:∀ b,b≠a→H b=i'→eN (upd H a (.UT o (.own a))) X.H₀ b=X.H₀ b:=fun b z q=>uY fun o' u' q'=>by rw[cf b z q] at q';cases q'
 have K:=I.ok
 refine { I with ok:=?_,base:=?_,free:=cf _ (UM f1) I.free,V0:=fun y cl q=>cf _ (f4 y cl q) (I.V0 y cl q),pin:=fun p hp=>?_,UJ:=fun b u q=>?_ }
 .refine { mod:=K.mod,kind:=K.kind,glob:=K.glob,blt:=K.blt,above:=K.above,inj:=K.inj,has:=K.has,YD:=K.YD,hd:=?_,frames:=K.frames,YE:=K.YE,ZP:=K.ZP,bs:=fun b ob q=>?_,Xg:=K.Xg,Yg:=K.Yg,YF:=K.YF,WA:=K.WA,Xt:=fun b hb=>?_ }
  .refine .inr ⟨a,cs,O,XD.mpr ⟨ch.ZR f0,ch.1⟩,fun j b hj=>?_⟩
   cases j with
   | zero=>
    obtain rfl:a=b:=by simpa using hj
    exact⟨o,.own a,vs,zT ag,hd,h2⟩
   | succ j=>
    have HN:cs[j]?=f' b:=by simpa using hj
    obtain⟨o',u',i8,q1,q2,q3⟩:=ch.2 j b HN
    exact⟨o',u',i8,zT (aR _ _ q1),q2,q3⟩
  .obtain⟨q1,q2⟩:=K.bs b ob q
   obtain⟨_,q3⟩:=I.bs b ob q
   exact⟨q1,(lR b (old b ob q1) q3).trans q2⟩
  .have mE:b∈X.fs:=hb
   have:=K.Xt b mE
   have HS:b≠a:=fun z=>f2 (z ▸ mE)
   have h3:H b=i':=I.Qau b (by
    rcases K.YE with z|⟨z,y⟩
    .rw[z];exact mE
    .rw[z];unfold VA;rw[S1,y];exact Rc _ mE)
   exact(lR b HS h3).trans this
 .obtain⟨b1,b2,b3,b4,b5,b6,b7⟩:=I.base
  have cQ:∀ b ob,X.s₀.heap.get? b=f' ob→eN (upd H a (.UT o (.own a))) X.H₀ b=i'→X.H₀ b=i':=fun b ob q n=>by
   unfold eN at n
   split at n
   .cases n
   .exact n
  refine⟨fun b ob q n=>b1 b ob q (cQ b ob q n),fun b ob q n=>b2 b ob q (cQ b ob q n),fun b ob q n z=>cf b (old b ob q) (b3 b ob q (cQ b ob q n) z),b4,fun b xs q=>?_,fun b ob u q=>?_,fun b pp pq q=>?_⟩
  .replace q:eN (upd H a (.UT o (.own a))) X.H₀ b=_:=q
   unfold eN at q
   split at q
   .cases q
   .exact aR _ _ (b5 b xs q)
  .replace q:eN (upd H a (.UT o (.own a))) X.H₀ b=_:=q
   unfold eN at q
   split at q
   .rename_i e;rw[← q];exact e
   .exact aR _ _ (b6 b ob u q)
  .replace q:eN (upd H a (.UT o (.own a))) X.H₀ b=_:=q
   unfold eN at q
   split at q
   .cases q
   .exact aR _ _ (b7 b pp pq q)
 .obtain⟨p1,p2,p3⟩:=I.pin p hp
  exact⟨p1,cf _ (f5 p hp) p2,p3⟩
 .by_cases z:b=a
  .subst z
   rw[ag] at q;cases q
   exact⟨h1,⟨_,h1⟩⟩
  .rw[aj z] at q
   exact(I.UJ b u q).WS (fun c' u' _ r=>r) (fun c' r=>aR _ _ r) (fun c' xs r=>aR _ _ r) fun c' ob r=>aR _ _ r
theorem Inv.leave {σ':St}{s':UG} (hex:X.ex=[]) (I:Inv X aa σ H s) (fp:cJ X aa H a) (J:Inv (X.hnd a (eN (upd H a (.UT o (.own a))) X.H₀)) aa σ' H' s'):Inv X aa σ' H' s':=by
 obtain⟨f0,f1,f2,f3,f4,f5⟩:=fp
 have qQ:X.s₀.heap.objs.size≤a:=by
  rcases f3 with z|z
  .rw[hex] at z;cases z
  .exact z
 have na:∀ b u,H b=f' u→b≠a:=fun b u q=>aq q f0
 have old:∀ b ob,X.s₀.heap.get? b=f' ob→b≠a:=fun b ob q=>Rb (Rq (Q6 q) qQ)
 have e1:∀ b ob,X.s₀.heap.get? b=f' ob→X.H₀ b=i'→eN (upd H a (.UT o (.own a))) X.H₀ b=i':=fun b ob q n=>by
  have hb:H b=i':=I.base.free b ob q n (by rw[hex];simp)
  rw[uY fun o' u' q'=>by rw[aj (old b ob q),hb] at q';cases q'];exact n
 obtain⟨b1,b2,b3,b4,b5,b6,b7⟩:=J.base
 refine { J with ok:=I.ok,base:=⟨fun b ob q n=>b1 b ob q (e1 b ob q n),fun b ob q n=>b2 b ob q (e1 b ob q n),fun b ob q n=>b3 b ob q (e1 b ob q n),b4,fun b xs q=>b5 b xs ?_,fun b ob u q=>b6 b ob u ?_,fun b pp pq q=>b7 b pp pq ?_⟩ }
 .have h:=I.base.WT b xs q
  show eN _ _ _=_
  rw[uY fun o' u' q'=>by rw[aj (na _ _ h),h] at q';cases q'];exact q
 .have h:=I.base.Ww b ob u q
  exact zT (by rw[aj (na _ _ h)];exact h)
 .have h:=I.base.WH b pp pq q
  show eN _ _ _=_
  rw[uY fun o' u' q'=>by rw[aj (na _ _ h),h] at q';cases q'];exact q
theorem zm {Q:Bool→UG→Prop}{K:R'}{e:F'}{oe:UZ}{b:Bool} (X:K.In s.heap) (he:s.heap.get? e=f' oe) (hc:oe.cls=.ref C) (hb:Vh K C (.ref D)=f' b)
  (hB:Vh K D (.type "BaseException")=f' B') (hT:Wc K (.ref D)=f' (.type "type")) (aT:Q b s):M' M A (excMatches (.ref e) (.ref D)) Q E s:=by
 have L1:=PySem.W.looks_typeIn (M:=M) X hT
 have L2:=Qad (M:=M) X hB
 have L3:=Qad (M:=M) X hb
 have L4:Xk M s.heap (isType (.ref D)) B':=by
  obtain⟨cd,h1,_⟩:=QeL.mp hB
  unfold Qbd at h1
  split at h1
  .rename_i c1 d1 e1 s1 W8
   intro A' Q' E' s' k q
   unfold isType loadHead
   exact mT (TB (k _ _ (X _ _ W8)) (Q5 q))
  .cases h1
 have L5:Xk M s.heap (Yx (.ref D) (.type "tuple")) K':=L1.andThen (QnL tc_notTuple)
 have L6:Xk M s.heap (typeOf (.ref e)) (.ref C):=(QnM he).andThen (by rw[hc];exact .now)
 have L7:Xk M s.heap (isExcClass (.ref D)) B':=L4.andThen L2
 unfold excMatches
 refine mT (L5.here ?_)
 simp only[RO,VO]
 refine mT (Q5 (mT ?_))
 simp only[SN,TC]
 refine mT (mT (L7.here ?_))
 simp only[QfM,RO,VO]
 refine Q5 (Q5 (mT (L6.here (mT (mT (mT (L3.here ?_)))))))
 cases b with
 | true=>
  simp only[WE]
  exact Q5 (Q5 (Q5 aT))
 | false=>
  simp only[RO,VO]
  exact Q5 (Q5 (Q5 aT))
theorem um {n:C'}{Q:Unit→UG→Prop} (I:Inv X aa σ H s) (hN:X.N.Nodup) (hi:X.N[i]?=f' n) (hk:X.env.kindOf n=f' .local)
  (aT:∀ s',Inv X aa (σ.set i i') H s'→Q () s'):M' M A (do bindName X.env n .none;Qfm X.env n pos) Q E s:=by
 obtain⟨m,hn,hl⟩:=id I.loc
 have mM:(X.env.scope.kind == .class || (X.env.scope.kind == .module && X.env.locals != X.env.globals))=K':=by rw[I.ok.kind];rfl
 obtain⟨oL,_,_,AT,_⟩:=id hn
 refine wpAny_nameGoes_keeps hk hn mM fun h' v xA hs=>aT _ ?_
 have lo:∀ b o,X.s₀.heap.get? b=f' o→b≠X.env.locals:=fun b o e=>Rb (Rq (Q6 e) I.ok.above)
 refine { ok:=I.ok,os:=I.os,bare:=I.bare,base:=⟨fun b o e n hb hx=>(hs.2 b (lo b o e)).trans (I.base.keep b o e n hb hx),fun b o e n hb hx=>?_,I.base.free,fun b o e hx=>?_,I.base.WT,I.base.Ww,I.base.WH⟩,loc:=⟨_,xA,fun j y v' e1 e2 e3=>?_⟩,cell:=fun y c e=>?_,free:=I.free,V0:=I.V0,pin:=fun p hp=>?_,UJ:=fun b ob e=>?_,len:=by simpa using I.len }
 .obtain⟨sl,e1⟩:=I.base.slot b o e n hb hx
  exact⟨sl,(hs.2 b (lo b o e)).trans e1⟩
 .obtain⟨o',e1⟩:=I.base.there b o e hx
  exact⟨o',(hs.2 b (lo b o e)).trans e1⟩
 .have hj:j≠i:=fun z=>by
   subst z
   have sR:j<σ.length:=by rw[I.len];exact(VD.mp hi).1
   rw[Td sR] at e2
   cases e2
  rw[Tl (UM hj)] at e2
  obtain⟨u',r',q⟩:=hl j y v' e1 e2 e3
  refine⟨u',r',?_⟩
  rcases q with⟨k,e⟩|⟨k,c,e,z⟩
  .refine .inl ⟨k,?_⟩
   have:y≠n:=fun e=>hj (zO hN e1 (e ▸ hi))
   simp[this,e]
  .exact .inr ⟨k,c,e,z.sameBut hs (I.XX y c e)⟩
 .obtain⟨w',z⟩:=I.cell y c e
  exact⟨w',z.sameBut hs (I.XX y c e)⟩
 .obtain⟨e,n,ne,nf,d⟩:=I.pin p hp
  exact⟨(hs.2 p.1 ne).trans e,n,ne,nf,d⟩
 .refine(I.UJ b ob e).WS (fun c w' hc q=>(hs.2 c ?_).trans q) (fun _ q=>q) fun _ _ q=>q
  rintro rfl
  rcases hc with hc|hc
  .rw[← hc,I.free] at e;cases e
  .rw[I.free] at hc;cases hc
abbrev YI:=F'×Option Nat×TS
def fV.as (D:fV) (i:Nat):fV:=⟨fun σ H=>D.nx (σ.set i i') H,D.rt,fun σ H=>D.bk (σ.set i i') H,fun σ H=>D.ct (σ.set i i') H⟩
def pb (K:R'):List YI→fV→RK
 | [],_,_,_,_,_=>False
 | (D,i,t)::r,En,σ,c,dd,H=>∃ C b,c=.ref C∧Vh K C (.ref D)=f' b∧if b=B' then ∀ a o,H a=i'→o.cls=c→o.dict=dd→(∃ vs,o.data=.fields vs) →
   (match i with|none=>t En σ (upd H a (.UT o (.own a)))|some i=>t (En.as i) (σ.set i (f' (.ref a))) (upd H a (.UT o (.own a)))) else pb K r En σ c dd H
inductive Wk (X:Cx):List Qah→List YI→Prop where
 | nil:Wk X [] []
 | one {x:C'}{np pos:Vx}{b₀:US}{su:List US}{D:F'}{t:TS}{hs:List Qah}{ts:List YI} (hg:Gl X x) (hm:X.mg x=f' (.ref D)) (hB:Vh X.K D (.type "BaseException")=f' B') (hT:Wc X.K (.ref D)=f' (.type "type"))
   (Vi:(x == ("__debug__":C'))=K') (hb:∀ a H₀,VR (X.hnd a H₀) (b₀::su) t) (r:Wk X hs ts):Wk X (.ExceptHandler (f' (.Name x np)) i' (b₀::su) pos::hs) ((D,i',t)::ts)
 | Ym {x n:C'}{i:Nat}{np pos:Vx}{b₀:US}{su:List US}{D:F'}{t:TS}{hs:List Qah}{ts:List YI} (hg:Gl X x) (hm:X.mg x=f' (.ref D)) (hB:Vh X.K D (.type "BaseException")=f' B') (hT:Wc X.K (.ref D)=f' (.type "type"))
   (Vi:(x == ("__debug__":C'))=K') (hN:X.N.Nodup) (hi:X.N[i]?=f' n) (hk:X.env.kindOf n=f' .local) (hb:∀ a H₀,VR (X.hnd a H₀) (b₀::su) t) (r:Wk X hs ts):Wk X (.ExceptHandler (f' (.Name x np)) (f' n) (b₀::su) pos::hs) ((D,f' i,t)::ts)
theorem zy {Q:L'→UG→Prop} (I:Inv X aa σ H s) (hg:Gl X x) (hm:X.mg x=f' u) (h:Q u s)
  (hd:(x == ("__debug__":C'))=K'):M' (UD X.prog X.w) A (UV (.Name x pos) X.env) Q E s:=
 Qce I.ok.kind hg (QeS (by rw[I.ok.glob];exact I.mod.glob.keeps I.bk) hm h) hd
theorem SP.leave {aa:List (F'×UZ)}{σ:St}{H:Hp}{s s':UG}{a:F'}{o:UZ}{D:fV}{f:WG} (hex:X.ex=[]) (I:Inv X aa σ H s) (fp:cJ X aa H a) (h:SP (X.hnd a (eN (upd H a (.UT o (.own a))) X.H₀)) aa D f s'):SP X aa D f s':=by
 cases f with
 | next=>obtain⟨σ',H',J,q⟩:=h;exact⟨σ',H',I.leave hex fp J,q⟩
 | brk=>obtain⟨σ',H',J,q⟩:=h;exact⟨σ',H',I.leave hex fp J,q⟩
 | cont=>obtain⟨σ',H',J,q⟩:=h;exact⟨σ',H',I.leave hex fp J,q⟩
 | ret u=>obtain⟨v,σ',H',J,q⟩:=h;exact⟨v,σ',H',I.leave hex fp J,q⟩
theorem SP.Ym {A:VQ}{E:L'→UG→Prop}{aa:List (F'×UZ)}{s:UG}{i:Nat}{n:C'}{pos:Vx}{D:fV}{f:WG} (hN:X.N.Nodup) (hi:X.N[i]?=f' n) (hk:X.env.kindOf n=f' .local) (h:SP X aa (D.as i) f s) :
  M' (UD X.prog X.w) A (do bindName X.env n .none;Qfm X.env n pos) (fun _ s'=>SP X aa D f s') E s:=by
 cases f with
 | next=>obtain⟨σ',H',J,q⟩:=h;exact um J hN hi hk fun s' J'=>⟨_,H',J',q⟩
 | brk=>obtain⟨σ',H',J,q⟩:=h;exact um J hN hi hk fun s' J'=>⟨_,H',J',q⟩
 | cont=>obtain⟨σ',H',J,q⟩:=h;exact um J hN hi hk fun s' J'=>⟨_,H',J',q⟩
 | ret u=>obtain⟨v,σ',H',J,q⟩:=h;exact um J hN hi hk fun s' J'=>⟨v,_,H',J',q⟩
theorem Kg {ts:List YI} (hex:X.ex=[]) (P:Wk X hs ts):∀ {aa:List (F'×UZ)}{σ:St}{H:Hp}{s:UG}{a:F'}{c:L'}{dd:Option F'}{T:F'}{D:fV},Inv X aa σ H s→X0 X aa H s.heap a c dd (f' (T,.none))→pb X.K ts D σ c dd H →
  M' (UD X.prog X.w) X.A (handleBy (.ref a) X.env hs) (SP X aa D) X.xe s:=by
 induction P with
 | nil=>intro aa σ H s a c dd T D I x h;exact h.elim
 | @one x np pos b₀ su Dc t hs ts hg hm hB hT Vi hb r ih=>
  intro aa σ H s a c dd T D I x h
  obtain⟨C,b,rfl,jv,h⟩:=h
  obtain⟨o,vs,h1,hc,_⟩:=x.at_.ob
  refine Tw (Qcn (zy I hg hm (zm I.U9 h1 hc jv hB hT ?_) Vi)) (by intro q;cases q)
  cases b with
  | false=>exact ih I x (by simpa using h)
  | true=>
   refine Qff (I.land x fun s1 I1 x1=>?_)
   obtain⟨o1,g1,g2,g3,J⟩:=I1.enter hex x1
   rw[UH rfl] at h
   refine RP (hb a _ aa s1 σ _ D J (h a o1 x1.fp.1 g1 g2 g3)) (fun f s2 z=>z.leave hex I1 x1.fp) fun _ _ z=>z.elim
 | @Ym x n i np pos b₀ su Dc t hs ts hg hm hB hT Vi hN hi hk hb r ih=>
  intro aa σ H s a c dd T D I x h
  obtain⟨C,b,rfl,jv,h⟩:=h
  obtain⟨o,vs,h1,hc,_⟩:=x.at_.ob
  refine Tw (Qcn (zy I hg hm (zm I.U9 h1 hc jv hB hT ?_) Vi)) (by intro q;cases q)
  cases b with
  | false=>exact ih I x (by simpa using h)
  | true=>
   refine codeAny_handlers_suite_as (I.land x fun s1 I1 x1=>?_)
   obtain⟨o1,g1,g2,g3,J⟩:=I1.enter hex x1
   rw[UH rfl] at h
   refine zL (X:=X.hnd a _) J hN hi (.inl hk) (v:=.ref a) O (fun s2 J2=>?_) (.inr hk)
   exact RP (hb a _ aa s2 _ _ (D.as i) J2 (h a o1 x1.fp.1 g1 g2 g3)) (fun f s3 z=>(z.leave hex I1 x1.fp).Ym hN hi hk) fun _ _ z=>z.elim
def Qdr (K:R') (ts:List YI) (tb:RK→TS) (te:TS):TS:=fun D σ H=>tb (pb K ts D) { D with nx:=fun σ H=>te D σ H } σ H
theorem si {body dB:List US}{h₀:Qah}{ts:List YI}{tb:RK→TS}{te:TS} (B:Body X) (hex:X.ex=[]) (P:Wk X (h₀::hs) ts)
  (hb:∀ (pn:List (F'×UZ)) (E:L'→UG→Prop) (R:RK),PX (X.tr pn E) R→Qao (UD X.prog X.w) X.A X.env E→VR (X.tr pn E) body (tb R)) (he:VR X dB te):PS X (.Try body (h₀::hs) dB [] pos) (Qdr X.K ts tb te):=by
 intro aa s σ H D I h
 refine Qf2 ?_
 have to:∀ {aY σ' H' s'},Inv X aa σ' H' s'→Inv (X.tr (X.pn++aa) aY) [] σ' H' s':=fun {aY σ' H' s'} J=>{ J with pin:=fun p hp=>J.pin p (by simpa using hp),ok:={ J.ok with } }
 have ju:∀ {E' aY σ' H' s'},Inv (X.tr (X.pn++aa) E') aY σ' H' s'→Inv X aa σ' H' s':=fun {E' aY σ' H' s'} J=>{ J with pin:=fun p hp=>J.pin p (Rz _ hp),ok:={ J.ok with } }
 refine RP (hb (X.pn++aa) (fun e s₁=>M' (UD X.prog X.w) X.A (Qam e X.env) (fun _ s₂=>M' (UD X.prog X.w) X.A (Qbp e i') (fun _ s₃=>M' (UD X.prog X.w) X.A (handleBy e X.env (h₀::hs)) (SP X aa D) X.xe s₃) X.xe s₂) X.xe s₁)
  (pb X.K ts D) ?_ QeX [] s σ H _ (to I) h) (fun f s1 z=>?_) fun _ _ z=>z
 .intro aY σ' H' s' a c dd tb J x hR
  have J':=ju J
  have x':X0 X aa H' s'.heap a c dd (tb.map fun T=>(T,Vk)):=⟨⟨x.fp.1,x.fp.2.1,x.fp.2.2.1,x.fp.2.2.2.1,x.fp.2.2.2.2.1,fun p hp=>x.fp.2.2.2.2.2 p (Rz _ hp)⟩,fun p q=>by
   have y:=x.Xh p q
   exact⟨y.1,y.2.1,y.2.2.1,y.2.2.2.1,y.2.2.2.2.1,fun p hp=>y.2.2.2.2.2 p (Rz _ hp)⟩,x.at_⟩
  refine J'.note B x' yp fun s2 T I2 x2=>?_
  exact I2.land x2 fun s3 I3 x3=>Kg hex P I3 x3 hR
 .cases f with
  | next=>obtain⟨σ',H',J,q⟩:=z;exact he aa s1 σ' H' D (ju J) q
  | brk=>obtain⟨σ',H',J,q⟩:=z;exact⟨σ',H',ju J,q⟩
  | cont=>obtain⟨σ',H',J,q⟩:=z;exact⟨σ',H',ju J,q⟩
  | ret u=>obtain⟨v,σ',H',J,q⟩:=z;exact⟨v,σ',H',ju J,q⟩
structure gu (K:R') (x qual:C') (st:US) (f:F') (fd:WO):Prop where
 ex:∃ (oc:L') (od:Option F') (dV kV ce pm:L') (an:Option F') (ay ct:L') (eS:Array (Option L')),
  fd=X8 x qual (nM st) (lj st) (az st) dV kV ce pm an ay ct∧K.lookup f=f' ⟨oc,od,.func fd,eS⟩∧XE K ay qual=B'
theorem o8 {K:R'}{od an:Option F'}{dV kV ce ay ct:L'} (l:K.lookup f=f' ⟨oc,od,.func (X8 x qual (nM st) (lj st) (az st) dV kV ce pm an ay ct),eS⟩)
  (c:XE K ay qual=B'):gu K x qual st f (X8 x qual (nM st) (lj st) (az st) dV kV ce pm an ay ct):=⟨⟨oc,od,dV,kV,ce,pm,an,ay,ct,eS,O,l,c⟩⟩
section
variable {K:R'}
theorem gu.ok {k:Nat} (F:gu K x qual st f fd) (S:aL N ps (az st)) (len:∀ vs H Q E,sp vs H Q E→vs.length=ps.length)
  (fO:∀ (ay:L') (A:VQ) (outer:List VZ) (s:UG) (H:Hp) (vs:List V) (Q:VK) (E:XK),bw k (A.deeper (XR qual (az st) s.heap.objs.size f ay))→sp vs H Q E →
   ∃ t,VR (kg U8 P w K mg base N qual (az st) f ay A outer s H E).nox (lj st) t∧t { nx:=fun _ H'=>Q .UO H',rt:=Q } (start N vs) H):cE P w K mg base U8 (k + 1) f fd ps sp:=by
 obtain⟨oc,od,dV,kV,ce,pm,an,ay,ct,eS,rfl,lk,g8⟩:=F.ex
 refine Qdh lk g8 S len fun A outer s H vs Q E hr jV=>?_
 obtain⟨t,h,q⟩:=fO ay A outer s H vs Q E hr jV
 exact⟨t,h.nox,q⟩
theorem gu.VS {k:Nat} (F:gu K x qual st f fd) (S:aL N ps (az st)) (len:∀ vs H Q E,sp vs H Q E→vs.length=ps.length)
  (fO:∀ (ay:L') (A:VQ) (outer:List VZ) (s:UG) (H:Hp) (vs:List V) (Q:VK) (E:XK),bw k (A.deeper (XR qual (az st) s.heap.objs.size f ay))→sp vs H Q E →
   ∃ t,VR (kg (Vn P w) P w K mg base N qual (az st) f ay A outer s H E) (lj st) t∧t { nx:=fun _ H'=>Q .UO H',rt:=Q } (start N vs) H):cE P w K mg base (Vn P w) (k + 1) f fd ps sp:=by
 obtain⟨oc,od,dV,kV,ce,pm,an,ay,ct,eS,rfl,lk,g8⟩:=F.ex
 exact Qdh lk g8 S len fun A outer s H vs Q E hr jV=>fO ay A outer s H vs Q E hr jV
end
structure Def (K:R') (mg:C'→Option L') (x:C') (st:US) (ps:List C') (aI:List V):Prop where
 ex:∃ f fd ds,gu K x x st f fd∧mg x=f' (.ref f)∧WZ K (.ref f)=B'∧dR K fd ps ds∧aB aI ds
structure Met (K:R') (C:F') (m qual:C') (st:US) (ps:List C') (aI:List V):Prop where
 ex:∃ f fd ds,gu K m qual st f fd∧ZX K C m f∧dR K fd ps ds∧aB aI ds
structure YJ (K:R') (mg:C'→Option L') (C:F') (x qual:C') (st:US) (ps:List C'):Prop where
 ex:∃ f fd,gu K "__init__" qual st f fd∧Mk K C f∧mg x=f' (.ref C)∧dR K fd ps []
structure nO (K:R') (mg:C'→Option L') (C:F') (x qual:C') (st:US) (ps:List C'):Prop where
 ex:∃ f fd,gu K "__init__" qual st f fd∧ZZ K C f∧mg x=f' (.ref C)∧dR K fd ps []
structure Vd (P:Vz) (w:Vw) (K:R') (mg:C'→Option L') (base:U6) (CX:W7) (k:Nat) (x:C') (ps:List C') (aI:List V) (sp:Sp):Prop where
 ex:∃ f fd ds,cE P w K mg base CX k f fd ps sp∧mg x=f' (.ref f)∧WZ K (.ref f)=B'∧dR K fd ps ds∧aB aI ds
structure dJ (P:Vz) (w:Vw) (K:R') (mg:C'→Option L') (base:U6) (CX:W7) (k:Nat) (C:F') (m:C') (ps:List C') (aI:List V) (sp:Sp):Prop where
 ex:∃ f fd ds,cE P w K mg base CX k f fd ps sp∧ZX K C m f∧dR K fd ps ds∧aB aI ds
structure nF (P:Vz) (w:Vw) (K:R') (mg:C'→Option L') (base:U6) (CX:W7) (k:Nat) (C:F') (x:C') (ps:List C') (sp:Sp):Prop where
 ex:∃ f fd,cE P w K mg base CX k f fd ps sp∧Mk K C f∧mg x=f' (.ref C)∧dR K fd ps []
structure lW (P:Vz) (w:Vw) (K:R') (mg:C'→Option L') (base:U6) (CX:W7) (k:Nat) (C:F') (x:C') (ps:List C') (sp:Sp):Prop where
 ex:∃ f fd,cE P w K mg base CX k f fd ps sp∧ZZ K C f∧mg x=f' (.ref C)∧dR K fd ps []
section
variable {K:R'}{k:Nat}{m:C'}
theorem Def.U2 (D:Def K mg x st ps aI) (h:∀ f fd,gu K x x st f fd→cE P w K mg base CX k f fd ps sp):Vd P w K mg base CX k x ps aI sp:=
 let ⟨f,fd,ds,F,r⟩:=D.ex;⟨f,fd,ds,h f fd F,r⟩
theorem Met.U2 (D:Met K C m qual st ps aI) (h:∀ f fd,gu K m qual st f fd→cE P w K mg base CX k f fd ps sp):dJ P w K mg base CX k C m ps aI sp:=
 let ⟨f,fd,ds,F,r⟩:=D.ex;⟨f,fd,ds,h f fd F,r⟩
theorem YJ.U2 (D:YJ K mg C x qual st ps) (h:∀ f fd,gu K "__init__" qual st f fd→cE P w K mg base CX k f fd ps sp):nF P w K mg base CX k C x ps sp:=
 let ⟨f,fd,F,r⟩:=D.ex;⟨f,fd,h f fd F,r⟩
theorem nO.U2 (D:nO K mg C x qual st ps) (h:∀ f fd,gu K "__init__" qual st f fd→cE P w K mg base CX k f fd ps sp):lW P w K mg base CX k C x ps sp:=
 let ⟨f,fd,F,r⟩:=D.ex;⟨f,fd,h f fd F,r⟩
end
def CC (sp:Sp) (aI:List V) (R:RK) (t:TA):TE:=fun σ H Q=>t σ H fun vs H1=>sp (vs++aI) H1 Q (R σ)
def QhD (C:F') (m:C') (sp:Sp) (aI:List V) (R:RK) (ta:TE) (t:TA):TE:=fun σ H Q=>ta σ H fun x H1=>∃ a dx fs,x=.ref a∧H1 a=f' (.ins C dx fs)∧fs.lookup m=i' ∧
 t σ H1 fun vs H2=>sp (x::(vs++aI)) H2 Q (R σ)
section
variable {k:Nat}{R:RK}{m:C'}{aJ:Vx}{o:UY}{t:TA}
theorem CK {Q:VK} (F:cE X.prog X.w X.K X.mg X.base (Vn X.prog X.w) k f fd ps sp) (hp:PX X R) (hr:bw k X.A)
  (hb:dR X.K fd ps ds) (hd:aB aI ds) (I:Inv X aa σ H s) (r:aB vs us) (h:sp (vs++aI) H Q (R σ)):M' (UD X.prog X.w) X.A (call (.ref f) us) (EP X aa σ Q) X.xe s:=by
 have r2:aB (vs++aI) (us++ds):=r.append hd
 have hl:(us++ds).length=ps.length:=by rw[← r2.length];exact F.len _ _ _ _ h
 refine Sl (Yv (F.run X.A X.stack s H ⟨us,[]⟩ (us++ds) (vs++aI) Q (R σ) hr I.Zf (hb s us I.U9 hl) r2 h) fun r s' hq=>?_)
 cases r with
 | error e=>exact PR hp aa σ H s e s' I hq
 | ok fl=>cases fl <;> first | exact I.after hq | exact VL hq
theorem bC (c:Vd X.prog X.w X.K X.mg X.base U8 k x ps aI sp) (hr:bw k X.A) (hg:Gl X x) (ha:PA X (e::es) t) (Vi:(x == ("__debug__":C'))=K':=by decide)
  (he:UU (e::es) X.env=(K',UV e X.env)::UU es X.env:=by rfl) (bJ:(Vq pos (UU es X.env)).any (·.1)=K':=by rfl):PE X (.Call (.Name x p) (e::es) [] pos) (Qdg sp aI E0 t):=by
 obtain⟨f,fd,ds,F,hm,hk,hb,hd⟩:=c.ex
 exact Md F hr hg hm hk hb hd rT ha Vi he bJ
theorem fe (c:Vd X.prog X.w X.K X.mg X.base (Vn X.prog X.w) k x ps aI sp) (hp:PX X R) (hr:bw k X.A) (hg:Gl X x) (ha:PA X (e::es) t) (Vi:(x == ("__debug__":C'))=K':=by decide)
  (he:UU (e::es) X.env=(K',UV e X.env)::UU es X.env:=by rfl) (bJ:(Vq pos (UU es X.env)).any (·.1)=K':=by rfl):PE X (.Call (.Name x p) (e::es) [] pos) (CC sp aI R t):=by
 obtain⟨f,fd,ds,F,hm,hk,hb,hd⟩:=c.ex
 intro aa s σ H Q I h
 refine RQ (lC I hg hm ?_ Vi)
 refine Yq (h₀:=X.base) I.ok.mod.W6 hk (UP (ha pos aa s σ H _ I h) fun us s1=>L2.U1 fun vs H1 I1 r q=>⟨I1.U9,?_⟩) he bJ
 exact CK F hp hr hb hd I1 r q
theorem zF  (he:PE X o ta) (cl:V8 X.K C) (c:dJ X.prog X.w X.K X.mg X.base U8 k C m ps aI sp) (hr:bw k X.A) (ha:PA X (e::es) t)
  (dU:UU (e::es) X.env=(K',UV e X.env)::UU es X.env:=by rfl) (bJ:(Vq pos (UU es X.env)).any (·.1)=K':=by rfl)
  (ht:UV (.Call (.Attribute o m aJ) (e::es) [] pos) X.env=(do
   let ov ← UV o X.env
   Yz aJ.atName
   let (f,first) ← Xp [ov] (Y7 ov m pl)
   Qap pos f first (Vq pos (UU (e::es) X.env)) (Xf pos (Xd [] X.env))):=by rfl) :
  PE X (.Call (.Attribute o m aJ) (e::es) [] pos) (uP C m sp aI E0 ta t):=by
 obtain⟨f,fd,ds,F,hm,hb,hd⟩:=c.ex
 exact LV (pl:=pl) he cl hm F hr hb hd rT ha dU bJ ht
theorem jj  (he:PE X o ta) (cl:V8 X.K C) (c:dJ X.prog X.w X.K X.mg X.base U8 k C m ps aI sp) (hr:bw k X.A)
  (ht:UV (.Call (.Attribute o m aJ) [] [] pos) X.env=(do
   let ov ← UV o X.env
   Yz aJ.atName
   let (f,first) ← Xp [ov] (Y7 ov m pl)
   Qap pos f first (Vq pos (UU [] X.env)) (Xf pos (Xd [] X.env))):=by rfl) :
  PE X (.Call (.Attribute o m aJ) [] [] pos) (uP C m sp aI E0 ta lV):=by
 obtain⟨f,fd,ds,F,hm,hb,hd⟩:=c.ex
 exact Mw (pl:=pl) he cl hm F hr hb hd rT ht
theorem eu  (he:PE X o ta) (cl:V8 X.K C) (c:dJ X.prog X.w X.K X.mg X.base (Vn X.prog X.w) k C m ps aI sp) (hp:PX X R) (hr:bw k X.A) (ha:PA X (e::es) t)
  (dU:UU (e::es) X.env=(K',UV e X.env)::UU es X.env:=by rfl) (bJ:(Vq pos (UU es X.env)).any (·.1)=K':=by rfl)
  (ht:UV (.Call (.Attribute o m aJ) (e::es) [] pos) X.env=(do
   let ov ← UV o X.env
   Yz aJ.atName
   let (f,first) ← Xp [ov] (Y7 ov m pl)
   Qap pos f first (Vq pos (UU (e::es) X.env)) (Xf pos (Xd [] X.env))):=by rfl) :
  PE X (.Call (.Attribute o m aJ) (e::es) [] pos) (QhD C m sp aI R ta t):=by
 obtain⟨f,fd,ds,F,hm,hb,hd⟩:=c.ex
 intro aa s σ H Q I h
 refine Qci (pl:=pl) (UP (he aa s σ H _ I h) fun u s1=>L2.U1 fun x H1 I1 rx aX=>?_) ht
 obtain⟨a,dx,fs,ex,ea,l,q⟩:=aX
 subst ex
 obtain rfl:u=UQ a:=rx
 refine zN I1 ea cl hm l ?_
 refine Yq (first:=[.ref a]) (h₀:=X.base) I.ok.mod.W6 hm.kp (UP (ha pos aa s1 σ H1 _ I1 q) fun us s2=>L2.U1 fun vs H2 I2 r q2=>⟨I2.U9,?_⟩) dU bJ
 exact CK (us:=.ref a::us) (vs:=.ref a::vs) F hp hr hb hd I2 (.cons O r) q2
theorem Cu (c:nF X.prog X.w X.K X.mg X.base U8 k C x ps sp) (hr:bw (k + 1) X.A) (hg:Gl X x) (ha:PA X (e::es) t) (Vi:(x == ("__debug__":C'))=K':=by decide)
  (he:UU (e::es) X.env=(K',UV e X.env)::UU es X.env:=by rfl) (bJ:(Vq pos (UU es X.env)).any (·.1)=K':=by rfl):PE X (.Call (.Name x p) (e::es) [] pos) (uE C sp [] E0 t):=by
 obtain⟨f,fd,F,M,hm,hb⟩:=c.ex
 exact KF M F hr hg hm hb .nil rT ha Vi he bJ
theorem tK (c:nF X.prog X.w X.K X.mg X.base U8 k C x ps sp) (hr:bw (k + 1) X.A) (hg:Gl X x) (Vi:(x == ("__debug__":C'))=K':=by decide):PE X (.Call (.Name x p) [] [] pos) (uE C sp [] E0 lV):=by
 obtain⟨f,fd,F,M,hm,hb⟩:=c.ex
 exact P9 M F hr hg hm hb .nil rT Vi
theorem j7  (hp:PX X R) (c:lW X.prog X.w X.K X.mg X.base U8 k C x ps sp) (hr:bw (k + 1) X.A) (hg:Gl X x) (ha:PA X (e::es) t)
  (Vi:(x == ("__debug__":C'))=K':=by decide) (he:UU (e::es) X.env=(K',UV e X.env)::UU es X.env:=by rfl) (bJ:(Vq aw (UU es X.env)).any (·.1)=K':=by rfl) :
  PS X (.Raise (f' (.Call (.Name x np) (e::es) [] aw)) i' pos) (uM C sp [] R t):=by
 obtain⟨f,fd,F,c',hm,hb⟩:=c.ex
 exact Py hp c' F hr hb .nil (fun _ _ _ _ _ _ _ _ z=>z.elim) hg hm ha Vi he bJ
theorem fZ {i:Int} (hg:Gl X x) (hm:∃ t,X.mg x=f' (.int i t)) (hd:(x == ("__debug__":C'))=K':=by decide):PE X (.Name x pos) (tC (.int i)):=let ⟨t,h⟩:=hm;yF hg h ⟨t,O⟩ hd
theorem EW {i:C'} (hg:Gl X x) (hm:∃ t,X.mg x=f' (.str i t)) (hd:(x == ("__debug__":C'))=K':=by decide):PE X (.Name x pos) (tC (.str i)):=let ⟨t,h⟩:=hm;yF hg h ⟨t,O⟩ hd
theorem uH {n:String} (hg:Gl X x) (hm:X.mg x=i') (hv:V6 x=f' (.type n)) (hn:x≠"__name__":=by decide) (hd:(x == ("__debug__":C'))=K':=by decide):PE X (.Name x pos) (tC (.ty n)):=Ks hg hm hv O hn hd
end
def VJ (A:VQ) (cs:List F'):Prop:=(A.handled=i'∧cs=[])∨∃ a r,cs=a::r∧A.handled=f' (.ref a)
theorem Hd.chain  (x:Hd A h):∃ cs,VJ A cs∧Vc h cs:=by
 rcases x with e|⟨a,cs,e,c⟩
 .exact⟨[],.inl ⟨e,O⟩,Su,fun j a z=>by simp at z⟩
 .exact⟨a::cs,.inr ⟨a,cs,O,e⟩,c⟩
theorem VJ.hd  (x:VJ A cs) (c:Vc h cs):Hd A h:=by
 rcases x with⟨e,rfl⟩|⟨a,r,rfl,e⟩
 .exact .inl e
 .exact .inr ⟨a,r,e,c⟩
theorem Vc.but  (c:Vc h cs) (hI:it∉cs) (k:∀ b o,b≠it→h.get? b=f' o→h'.get? b=f' o):Vc h' cs:=
 c.mono fun b o hb e=>k b o (fun z=>hI (z ▸ hb)) e
section
theorem rN (hc:VJ A cs) (I ax:F') (gg:ax≠I) (hI:I∉cs) (items:Array L') :
  Za prog w A I (I::ax::cs) [I] items.size (fun i v=>items[i]?=f' v) (fun i h=>h.IsListIter I ax i∧h.IsList ax items∧Vc h cs) where
 sub:=fun b hb=>by simp at hb;simp[hb]
 frame:=fun _ _ _ st hk=>⟨st.1.at fun o e=>hk I (by simp) o e,st.2.1.at fun o e=>hk ax (by simp) o e,st.2.2.mono fun b o hb e=>hk b (by simp[hb]) o e⟩
 item:=fun i s Q E hi st hQ=>by
  refine Ua st.1 st.2.1 (x:=items[i]) (by simp[hi]) fun h' eX b8=>?_
  exact hQ _ h' s.toks (by simp[hi]) ⟨eX,st.2.1.extBut b8.extBut gg,st.2.2.but hI b8.extBut⟩ fun b o hb e=>b8.extBut b o (fun h=>hb (by simp[h])) e
 done:=fun s Q E st hQ=>Ed (hc.hd st.2.2) st.1 st.2.1 (by simp) fun h' dN=>hQ h' s.toks fun b o hb e=>dN b o (fun h=>hb (by simp[h])) e
 self:=fun _ _ _ _ st hQ=>Uf st.1 hQ
theorem M7  (hd:Hd A s.heap) (a7:s.heap.IsStrIter it "str_ascii_iterator" x t i) (hx:x.cps[i]?=i')
  (hQ:∀ h',Xc it s.heap h'→Q i' { s with heap:=h' }):M' (UD prog w) A (Vs (.ref it)) Q E s:=by
 obtain⟨o,ho,hc,aH⟩:=id a7
 unfold Vs
 refine mT (R4 (RG (name:=UI "__next__") a7.typeIs QeC (RV QeC a7.typeIs F.entry_str_ascii_iterator_next ?_ (F.args_str_ascii_iterator_next_1 _))))
 refine(show M' _ _ (V7 (.ref it) 0 >>= _) _ _ s from mT (RB ho aH (x:=.str x t) O ?_))
 refine(show M' _ _ (V7 (.ref it) 1 >>= _) _ _ s from mT (RB ho aH (x:=.int i 0) O ?_))
 simp only[Ru,hx]
 refine mT (Sk (mT (R8 ho aH (by simp) (mT (SB ?_)))))
 refine me (A:=A.in1) (hd.but ho (fun vs q=>.inl (by rw[aH] at q;cases q;simp)) (Xa ..).extBut) fun h' e k' ⟨o',e',c'⟩=>?_
 exact mT (R5 (T:="StopIteration") (b:=B') ⟨o',e',c'⟩ XF (Q5 (hQ h' fun b q hb hq=>k' b q ((Xa ..).extBut b q hb hq))))
theorem Kf  (hd:Hd A s.heap) (a7:s.heap.IsStrIter it "str_iterator" x t i) (hx:x.cps[i]?=i')
  (hQ:∀ h',Xc it s.heap h'→Q i' { s with heap:=h' }):M' (UD prog w) A (Vs (.ref it)) Q E s:=by
 obtain⟨o,ho,hc,aH⟩:=id a7
 unfold Vs
 refine mT (R4 (RG (name:=UI "__next__") a7.typeIs Qe0 (RV Qe0 a7.typeIs F.entry_str_iterator_next ?_ (F.args_str_iterator_next_1 _))))
 refine(show M' _ _ (V7 (.ref it) 0 >>= _) _ _ s from mT (RB ho aH (x:=.str x t) O ?_))
 refine(show M' _ _ (V7 (.ref it) 1 >>= _) _ _ s from mT (RB ho aH (x:=.int i 0) O ?_))
 simp only[Ru,hx]
 refine mT (Sk (mT (R8 ho aH (by simp) (mT (SB ?_)))))
 refine me (A:=A.in1) (hd.but ho (fun vs q=>.inl (by rw[aH] at q;cases q;simp)) (Xa ..).extBut) fun h' e k' ⟨o',e',c'⟩=>?_
 exact mT (R5 (T:="StopIteration") (b:=B') ⟨o',e',c'⟩ XF (Q5 (hQ h' fun b q hb hq=>k' b q ((Xa ..).extBut b q hb hq))))
def ma (h:U6) (I:F') (x:C') (t:VY) (i:Nat):Prop:=h.IsStrIter I "str_ascii_iterator" x t i∨h.IsStrIter I "str_iterator" x t i
theorem ma.keep  (y:ma h I x t i) (k:∀ o,h.get? I=f' o→h'.get? I=f' o):ma h' I x t i:=by
 rcases y with⟨o,e,r⟩|⟨o,e,r⟩
 .exact .inl ⟨o,k o e,r⟩
 .exact .inr ⟨o,k o e,r⟩
theorem NH {c:Nat} (a7:ma s.heap it x t i) (hx:x.cps[i]?=f' c)
  (hQ:∀ h' u tk,ma h' it x t (i + 1)→XH it s.heap h'→Q (f' (.str ⟨#[c]⟩ u)) { s with heap:=h',toks:=tk }):M' (UD prog w) A (Vs (.ref it)) Q E s:=by
 rcases a7 with y|y
 .exact wpAny_pyNext_ascii_item y hx fun h' y' hs=>hQ h' _ _ (.inl y') hs
 .exact wpAny_pyNext_wide_item y hx fun h' y' hs=>hQ h' _ _ (.inr y') hs
theorem MY  (hd:Hd A s.heap) (a7:ma s.heap it x t i) (hx:x.cps[i]?=i')
  (hQ:∀ h',Xc it s.heap h'→Q i' { s with heap:=h' }):M' (UD prog w) A (Vs (.ref it)) Q E s:=by
 rcases a7 with y|y
 .exact M7 hd y hx hQ
 .exact Kf hd y hx hQ
theorem rQ {l:F'} {items}{Q:L'→UG→Prop} (hd:Hd A s.heap) (a7:s.heap.IsListIter it l i) (hl:s.heap.IsList l items) (hx:items[i]?=i')
  (hE:∀ h' e,Xc it s.heap h'→(∃ o,h'.get? e=f' o∧o.cls=.type "StopIteration")→E (.ref e) { s with heap:=h' }):M' (UD prog w) A (XB (.ref it)) Q E s:=by
 obtain⟨o,ho,hc,aH⟩:=id a7
 obtain⟨ol,qD,_,nl,qS⟩:=hl
 unfold XB
 refine mT (RG (name:=UI "__next__") a7.typeIs Qa5 (RV Qa5 a7.typeIs Qfy ?_ (QfF _)))
 refine(show M' _ _ (V7 (.ref it) 0 >>= _) _ _ s from mT (RB ho aH (x:=.ref l) O ?_))
 refine(show M' _ _ (if (UQ l == Vk)=B' then _ else _) _ _ s from ?_)
 rw[UF (show ¬ ((UQ l == Vk)=B') from Rk)]
 refine(show M' _ _ (V7 (.ref it) 1 >>= _) _ _ s from mT (RB ho aH (x:=.int i 0) O ?_))
 refine(show M' _ _ (Y6 (.ref l) >>= _) _ _ s from mT (RU qD qS ?_))
 simp only[Ru,hx]
 refine mT (Sk (mT (R8 ho aH (by simp) ?_)))
 refine me (A:=A.in1) (hd.but ho (fun vs q=>.inl (by rw[aH] at q;cases q;simp)) (Xa ..).extBut) fun h' e k' x=>hE h' e (fun b q hb hq=>k' b q ((Xa ..).extBut b q hb hq)) x
theorem CF {TI TO:F'}{xs ys:Array L'}{a b:L'} (hc:VJ A cs) (c:Vc s.heap cs) (nz:z∉cs) (nT:TO∉cs) (n1:i1∉cs) (n2:i2∉cs) (D:XM z TI TO i1 i2 l1 l2)
  (hz:XS s.heap z TI TO .none) (cH:WQ s.heap TI (.ref i1) (.ref i2)) (eB:WQ s.heap TO a b) (h1:s.heap.IsListIter i1 l1 k1) (h2:s.heap.IsListIter i2 l2 k2) (cV:s.heap.IsList l1 xs) (bO:s.heap.IsList l2 ys) (iE:xs[k1]?=i'∨ys[k2]?=i')
  (hQ:∀ h',(∀ c o,c≠z→c≠TO→c≠i1→c≠i2→s.heap.get? c=f' o→h'.get? c=f' o)→Q i' { s with heap:=h' }):M' (UD prog w) A (Vs (.ref z)) Q E s:=by
 have hT:s.TypeIs (.ref z) "zip":=⟨_,hz,O⟩
 have aT:∀ h' e,(∀ c o,c≠z→c≠TO→c≠i1→c≠i2→s.heap.get? c=f' o→h'.get? c=f' o)→(∃ o,h'.get? e=f' o∧o.cls=.type "StopIteration") →
   M' (UD prog w) A (do if ← Yx (.ref e) (.type "StopIteration") then pure i' else throw (.ref e)) Q E { s with heap:=h' }:=fun h' e k ⟨o,ho,mC⟩=>
  mT (R5 (T:="StopIteration") (b:=B') ⟨o,ho,mC⟩ XF (Q5 (hQ _ k)))
 unfold Vs
 refine mT (R4 (RG (name:=UI "__next__") hT ZD (RV ZD hT QcC ?_ (QcB _))))
 refine(show M' _ _ (V7 (.ref z) 2 >>= _) _ _ _ from mT (RB hz O (x:=.bool K') O ?_))
 refine(show M' _ _ (V7 (.ref z) 3 >>= _) _ _ _ from mT (RB hz O (x:=.ref TI) O (mT (RU cH O ?_))))
 refine(show M' _ _ (Zp (.ref z) >>= _) _ _ _ from mT ?_)
 unfold Zp
 refine mT (RB hz O (x:=.none) O (Q5 ?_))
 simp only[WE]
 refine mT (Sk (mT (RB hz O (x:=.ref TO) O (mT (S9 hz (by simp) fun h₁ mS bQ=>?_)))))
 replace mS:XS h₁ z TI TO .ellipsis:=mS
 have c₁:Vc h₁ cs:=c.but nz bQ.extBut
 refine mT ?_
 simp only[List.zipIdx_cons,List.zipIdx_nil,SN,TC]
 refine mT (mT (wpAny_onRaise ?_))
 cases hx:xs[k1]? with
 | none=>
  refine(show M' _ _ (XB (.ref i1) >>= _) _ _ _ from mT (rQ (A:=A.in1) (VJ.hd (A:=A.in1) hc c₁) (h1.extBut bQ.extBut D.i1z) (cV.extBut bQ.extBut D.l1z) hx fun h₂ e dM he=>?_))
  obtain⟨oe,mB,qb⟩:=he
  have BI:XS h₂ z TI TO .ellipsis:=dM _ _ D.i1z.symm mS
  have vU:e≠z:=fun x=>by subst x;rw[BI] at mB;cases mB;simp at qb
  exact S9 BI (by simp) fun h₃ _ fL=>aT h₃ e (fun c o c1 _ c3 _ x=>fL.extBut _ _ c1 (dM _ _ c3 (bQ.extBut _ _ c1 x))) ⟨oe,fL.extBut _ _ vU mB,qb⟩
 | some x=>
  have hy:ys[k2]?=i':=by rcases iE with h|h;rw[hx] at h;cases h;exact h
  refine(show M' _ _ (XB (.ref i1) >>= _) _ _ _ from mT (SR (h1.extBut bQ.extBut D.i1z) (cV.extBut bQ.extBut D.l1z) hx fun h₂ ve dM=>Q5 ?_))
  have pN:WQ h₂ TO a b:=dM.extBut _ _ D.TOi1 (bQ.extBut _ _ D.TOz eB)
  refine mT (RU pN O (mT (wpAny_updateSeq_pair pN fun h₃ GR fL=>mT (SB (Q5 ?_)))))
  refine mT (mT (wpAny_onRaise ?_))
  have c₃:Vc h₃ cs:=(c₁.but n1 dM.extBut).but nT fL.extBut
  refine(show M' _ _ (XB (.ref i2) >>= _) _ _ _ from mT (rQ (A:=A.in1) (VJ.hd (A:=A.in1) hc c₃) (((h2.extBut bQ.extBut D.i2z).extBut dM.extBut D.i12.symm).extBut fL.extBut D.TOi2.symm)
   (((bO.extBut bQ.extBut D.l2z).extBut dM.extBut D.l2i1).extBut fL.extBut D.l2TO) hy fun h₄ e Aj he=>?_))
  obtain⟨oe,mB,qb⟩:=he
  have AQ:XS h₄ z TI TO .ellipsis:=Aj _ _ D.i2z.symm (fL.extBut _ _ D.TOz.symm (dM.extBut _ _ D.i1z.symm mS))
  have vU:e≠z:=fun x=>by subst x;rw[AQ] at mB;cases mB;simp at qb
  exact S9 AQ (by simp) fun h₅ _ AG=>aT h₅ e (fun c o c1 c2 c3 c4 x=>AG.extBut _ _ c1 (Aj _ _ c4 (fL.extBut _ _ c2 (dM.extBut _ _ c3 (bQ.extBut _ _ c1 x))))) ⟨oe,AG.extBut _ _ vU mB,qb⟩
section
variable {κ:Type} [DecidableEq κ] {knd:KeyKind prog w κ}
theorem Oh {kvs:List (κ×L')} (hd:Hd A s.heap) (a7:s.heap.IsKeyIter it d i kvs.length ep) (hm:s.heap.DictAt knd d kvs ep) (hx:kvs[i]?=i')
  (hQ:∀ h',Xc it s.heap h'→Q i' { s with heap:=h' }):M' (UD prog w) A (Vs (.ref it)) Q E s:=by
 obtain⟨o,ho,hc,aH⟩:=id a7
 obtain⟨od,es,kt,g8,cT,hk,hp,hn⟩:=id hm
 have hsz:es.size=kvs.length:=by rw[← hp.length];simp
 have p8:es.size≤i:=by rw[hsz];simpa using hx
 have nk:Qem "dict_keyiterator"=K':=by decide
 unfold Vs
 refine mT (R4 (RG (name:=UI "__next__") a7.typeIs QeJ (RV QeJ a7.typeIs F.entry_dict_keyiterator_next ?_ (F.args_dict_keyiterator_next_1 _))))
 refine mT (Q5 (mT (mT ?_)))
 first|refine mT (Tv a7.typeIs (Q5 (mT (TD ho aH ?_))))|refine mT (TZ a7.typeIs (Q5 (mT (TD ho aH ?_))))
 simp only[nk,RO,VO]
 show M' _ _ (if (UQ d == Vk)=B' then _ else _) _ _ s
 rw[UF (show ¬ ((UQ d == Vk)=B') from Rk)]
 refine mT (Q5 (mT (Uz kt cT ?_)))
 rw[UF (by rw[hsz];simp)]
 refine mT (Q5 (mT (Qgc kt cT ?_)))
 rw[UF (by simp)]
 refine Q5 ?_
 simp only[show ¬ ((i:Int)<0) from by lia,VO,Ru,Tf p8]
 refine mT ?_
 first|refine mT (Tv a7.typeIs (Q5 ?_))|refine mT (TZ a7.typeIs (Q5 ?_))
 refine(show M' _ _ (Qbs (.ref it) 0 .none >>= _) _ _ s from mT (R8 ho aH (by simp) ?_))
 refine me (A:=A.in1) (hd.but ho (fun vs q=>.inr (by rw[aH] at q;cases q;simp)) (Xa ..).extBut) fun h' e k' ⟨o',e',c'⟩=>?_
 exact mT (R5 (T:="StopIteration") (b:=B') ⟨o',e',c'⟩ XF (Q5 (hQ h' fun b q hb hq=>k' b q ((Xa ..).extBut b q hb hq))))
theorem Pk (hc:VJ A cs) (I d:F') (gg:d≠I) (hI:I∉cs) (kvs:List (κ×L')) (ep:Nat) :
  Za prog w A I (I::d::cs) [I] kvs.length (fun i v=>∃ k x,kvs[i]?=f' (k,x)∧knd.is k v=B') (fun i h=>h.IsKeyIter I d i kvs.length ep∧h.DictAt knd d kvs ep∧Vc h cs) where
 sub:=fun b hb=>by simp at hb;simp[hb]
 frame:=fun _ _ _ st hk=>⟨st.1.at fun o e=>hk I (by simp) o e,st.2.1.at' fun o e=>hk d (by simp) o e,st.2.2.mono fun b o hb e=>hk b (by simp[hb]) o e⟩
 item:=fun i s Q E hi st hQ=>by
  obtain⟨⟨k,x⟩,hx⟩:∃ p,kvs[i]?=f' p:=⟨kvs[i],by simp[hi]⟩
  refine wpAny_pyNext_dict_item st.1 st.2.1 hx fun key h' d7 eX b8=>?_
  exact hQ key h' s.toks ⟨k,x,hx,d7⟩ ⟨eX,st.2.1.extBut b8.extBut gg,st.2.2.but hI b8.extBut⟩ fun b o hb e=>b8.extBut b o (fun h=>hb (by simp[h])) e
 done:=fun s Q E st hQ=>Oh (hc.hd st.2.2) st.1 st.2.1 (by simp) fun h' dN=>hQ h' s.toks fun b o hb e=>dN b o (fun h=>hb (by simp[h])) e
 self:=fun _ _ _ _ st hQ=>wpAny_pyIter_keyiter st.1 hQ
theorem O4 {kvs:List (κ×L')}{ok ov:L'} (hc:VJ A cs) (c:Vc s.heap cs) (hI:it∉cs) (a7:IsItemIter s.heap it d i kvs.length ep ok ov) (hm:s.heap.DictAt knd d kvs ep) (hx:kvs[i]?=i')
  (hQ:∀ h',Xc it s.heap h'→Q i' { s with heap:=h' }):M' (UD prog w) A (Vs (.ref it)) Q E s:=by
 obtain⟨od,es,kt,g8,cT,hk,hp,hn⟩:=id hm
 have hT:s.TypeIs (.ref it) "dict_itemiterator":=⟨_,a7,O⟩
 have hsz:es.size=kvs.length:=by rw[← hp.length];simp
 have p8:es.size≤i:=by rw[hsz];simpa using hx
 have nk:Qem "dict_itemiterator"=B':=by decide
 unfold Vs
 refine mT (R4 (RG (name:=UI "__next__") hT Qcd (RV Qcd hT F.entry_dict_itemiterator_next ?_ (F.args_dict_itemiterator_next_1 _))))
 refine mT (Q5 (mT (mT ?_)))
 first|refine mT (Tq hT (Q5 (mT (TD a7 O ?_))))|refine mT (TV hT (Q5 (mT (TD a7 O ?_))))
 simp only[nk,WE]
 show M' _ _ (if (UQ d == Vk)=B' then _ else _) _ _ s
 rw[UF (show ¬ ((UQ d == Vk)=B') from Rk)]
 refine mT (Q5 (mT (Uz kt cT ?_)))
 rw[UF (by rw[hsz];simp)]
 refine mT (Q5 (mT (Qgc kt cT ?_)))
 rw[UF (by simp)]
 refine Q5 ?_
 simp only[show ¬ ((i:Int)<0) from by lia,VO,Ru,Tf p8]
 refine mT ?_
 first|refine mT (Tq hT (Q5 ?_))|refine mT (TV hT (Q5 ?_))
 refine(show M' _ _ (Qbs (.ref it) 2 .none >>= _) _ _ s from mT (R8 a7 O (by simp) ?_))
 refine me (A:=A.in1) (VJ.hd (A:=A.in1) hc (c.but hI (Xa ..).extBut)) fun h' e k' ⟨o',e',c'⟩=>?_
 exact mT (R5 (T:="StopIteration") (b:=B') ⟨o',e',c'⟩ XF (Q5 (hQ h' fun b q hb hq=>k' b q ((Xa ..).extBut b q hb hq))))
theorem Oc:Xn (.type "dict") "__len__"=pure (f' (.builtin "dict.__len__")):=by rw[typeLookup_type,builtinLookup_eq_fast];kernel_rfl
theorem OZ  (hc:VJ A cs){kvs:List (κ×L')}{c₀:Nat} (hd:(d == We)=K') (hm:s.heap.DictAt knd d kvs ep) (c:Vc s.heap cs) (hS:s.heap.get? S=f' { cls:=.type "list",data:=.seq #[] c₀ }) (xt:S≠d) (qW:S∉cs) (hn:kvs.length≤S')
  (hR:∀ s' acc c',Moved (S::[s.heap.objs.size]) (fun a b=>b=a) s s'→s'.heap.get? S=f' { cls:=.type "list",dict:=i',data:=.seq acc c',slots:=#[] }→Qas (fun i v=>∃ k x,kvs[i]?=f' (k,x)∧knd.is k v=B') acc kvs.length→R (.ok (.ret res)) s') :
  M' (UD prog w) A.in1 (Yn (.ref S) (.ref d) res) (fun aT s'=>match aT with|.done f=>R (.ok f) s'|.again c'=>c'.quiet=B'∧Wj (UD prog w) A c' R s') (fun e s'=>R (.error e) s') s:=by
 have hT:s.TypeIs (.ref d) "dict":=hm.dictOf.typeIs
 have h1:QaT (.ref S) (.ref d)=K':=by simp[QaT,xt]
 unfold Yn
 refine mT (SG hT ?_)
 rw[UF (by rw[h1];decide)]
 refine mT (wpAny_pyIter_dict hd hm ?_)
 have m1:=hm.push { cls:=.type "dict_keyiterator",data:=.fields #[.ref d,.int 0 0,.int kvs.length 0,.int ep 0] }
 have xq:Qbe { s with heap:=s.heap.push { cls:=.type "dict_keyiterator",data:=.fields #[.ref d,.int 0 0,.int kvs.length 0,.int ep 0] } } (.ref d) "dict":=m1.dictOf.typeIs
 refine mT (RC ?_)
 unfold Qoe
 refine mT (T7 xq Oc ?_)
 generalize Bo:("dict.__len__":String)=id0
 wp_delta
 rw[show splitId id0=f' ("dict","__len__") from by subst Bo;decide +kernel]
 subst Bo
 refine mT (R5 (b:=B') xq (by rw[isSubtype_type];kernel_rfl) ?_)
 simp only[QfM,RO,VO]
 rw[UH (by decide +kernel)]
 refine mT (SG xq (Q5 ?_))
 rw[UH (by decide +kernel)]
 refine mT (Sk (mT ?_))
 have bZ:S<s.heap.objs.size:=Q6 hS
 have qL:S≠s.heap.objs.size:=Rb bZ
 have wR:d≠s.heap.objs.size:=Rb hm.lt_size
 have nb:s.heap.objs.size∉cs:=fun z=>Ry _ (c.lt _ z)
 have kL:=Q4 { cls:=.type "dict_keyiterator",data:=.fields #[.ref d,.int 0 0,.int kvs.length 0,.int ep 0] } hS
 refine(show M' _ A.in1 (Yy S (·.push .none) >>= fun _=>Yy S (·.pop)) _ _ _ from mT (Sf kL rfl ?_))
 have ja:=Rw (Wd (·.push Vk)) kL rfl
 refine Sf (hz:=by seq_fits) ja rfl ?_
 have sJ:=Rw (Wd (·.pop)) ja rfl
 generalize hG:((s.heap.push { cls:=.type "dict_keyiterator",data:=.fields #[.ref d,.int 0 0,.int kvs.length 0,.int ep 0] }).update S (Wd (·.push Vk))).update S (Wd (·.pop))=G at sJ
 have eW:∀ b o,b≠S→(s.heap.push { cls:=.type "dict_keyiterator",data:=.fields #[.ref d,.int 0 0,.int kvs.length 0,.int ep 0] }).get? b=f' o→G.get? b=f' o:=fun b o hb e=>by
  rw[← hG];exact(Ri _ _ (UM hb)).trans ((Ri _ _ (UM hb)).trans e)
 have W:=(Pk (prog:=prog) (w:=w) (knd:=knd) (A:=A.in1) hc s.heap.objs.size d wR nb kvs ep).toS
 have IV:G.IsKeyIter s.heap.objs.size d 0 kvs.length ep:=⟨_,eW _ _ (UM qL) (Ra _ O),O,O⟩
 have d0:G.DictAt knd d kvs ep:=m1.at' fun o e=>eW d o (UM xt) e
 have c0:Vc G cs:=c.mono fun b o hb e=>eW b o (fun z=>qW (z ▸ hb)) (Q4 _ e)
 have ic:S∉s.heap.objs.size::d::cs:=by simp[qL,xt,qW]
 refine Q5 ⟨Xm Qct _,codeAny_extend_loopS W hn S ic res kvs.length 0 _ _ _ O (RY _) ⟨IV,d0,c0⟩ sJ (Qfz _) fun s' eO c' Gy hV eQ=>?_⟩
 have GX:Moved (S::[s.heap.objs.size]) (fun a b=>b=a) s { s with heap:=G }:=⟨fun b o hb e=>eW b o (fun z=>hb (RS.mpr (.inl z))) (Q4 _ e),O,O,O,Q7 _⟩
 exact hR s' eO c' (QcL (fun _ _ _ h1 h2=>h2.trans h1) GX Gy) hV eQ
theorem Ov {Q:L'→UG→Prop} (hc:VJ A cs){kvs:List (κ×L')} (hd:(d == We)=K') (hm:s.heap.DictAt knd d kvs ep) (c:Vc s.heap cs) (hn:kvs.length≤S')
  (hQ:∀ s' acc c',(∀ b o,s.heap.get? b=f' o→s'.heap.get? b=f' o)→s'.gens=s.gens→s'.drawn=s.drawn→s'.os=s.os→s'.heap.get? s.heap.objs.size=f' { cls:=.type "list",dict:=i',data:=.seq acc c',slots:=#[] } →
   Qas (fun i v=>∃ k x,kvs[i]?=f' (k,x)∧knd.is k v=B') acc kvs.length→Q (.ref s.heap.objs.size) s'):M' (UD prog w) A (call (.type "list") [.ref d]) Q E s:=by
 refine Qbk (Q₁:=fun obj s₁=>obj=.ref s.heap.objs.size∧s₁={ s with heap:=s.heap.push { cls:=.type "list",data:=.seq #[] } }) Qgh (QfA _) QfB (code_list_new _ ⟨O,O⟩) fun obj s₁ h₁=>?_
 obtain⟨rfl,rfl⟩:=h₁
 have hS:(s.heap.push { cls:=.type "list",data:=.seq #[] }).get? s.heap.objs.size=f' { cls:=.type "list",data:=.seq #[] }:=Ra _ rfl
 have wR:s.heap.objs.size≠d:=UM (Rb hm.lt_size)
 have nb:s.heap.objs.size∉cs:=fun z=>Ry _ (c.lt _ z)
 refine⟨⟨_,hS,O⟩,Qfp _ _,?_⟩
 refine(show M' _ A.in1.in1 (do let old ← QaV (.ref s.heap.objs.size);Qev (.ref s.heap.objs.size) (fun _=>#[]);letGo old.toList.reverse;Yn (.ref s.heap.objs.size) (.ref d) .none) _ _ _ from mT ?_)
 unfold QaV
 refine mT (RU hS O (Q5 ?_))
 refine(show M' _ A.in1.in1 (Yy s.heap.objs.size (fun _=>#[]) >>= fun _=>letGo (#[]:Array L').toList.reverse >>= fun _=>Yn (.ref s.heap.objs.size) (.ref d) .none) _ _ _ from mT (Sf hS O (mT (SB ?_))))
 have ja:=Rw (Wd (fun _=>(#[]:Array L'))) hS rfl
 have eW:∀ b o,s.heap.get? b=f' o→((s.heap.push { cls:=.type "list",data:=.seq #[] }).update s.heap.objs.size (Wd (fun _=>(#[]:Array L')))).get? b=f' o:=fun b o e=>
  (Ri _ _ (UM (Rb (Q6 e)))).trans (Q4 _ e)
 have sz:((s.heap.push { cls:=.type "list",data:=.seq #[] }).update s.heap.objs.size (Wd (fun _=>(#[]:Array L')))).objs.size=s.heap.objs.size + 1:=by rw[U6.size_update,RE]
 refine OZ (A:=A.in1) hc hd (hm.at' fun o e=>eW d o e) (c.mono fun b o _ e=>eW b o e) ja wR nb hn fun s' acc c' mv hV eQ=>⟨O,?_⟩
 refine hQ s' acc c' (fun b o e=>mv.heap b o (fun z=>?_) (eW b o e)) mv.gens mv.drawn mv.os hV eQ
 have lt:=Q6 e
 simp only[RS,RD,Wu] at z
 rcases z with z|z
 .exact UR lt (by rw[z];exact Ry _)
 .exact UR lt (by rw[z,sz];exact Qbn.mpr (RJ _))
end
end
def Its (x:C'):It:=⟨fun i _=>i<x.cps.size,fun i H v H'=>H'=H∧∃ c,x.cps[i]?=f' c∧v=.str ⟨#[c]⟩,fun i _=>x.cps.size≤i⟩
theorem OJ {K:R'} (x:C') (t:VY) (it:F'):lX P w K tg (Its x) [it] it (fun i h=>ma h it x t i) where
 mem:=by simp
 obj:=fun i h st b hb=>by
  have e:b=it:=by simpa using hb
  subst e
  rcases st with⟨o,e,c,d⟩|⟨o,e,c,d⟩ <;> exact⟨o,e,fun v z=>by rw[d] at z;cases z⟩
 keep:=fun i h h' st k=>st.keep fun o e=>k it (by simp) o e
 item:=by
  intro X hP hw hK hc i aa s σ H E I hf st hg
  subst hP hw hK
  obtain⟨f0,f1,f2,f3,f4,f5⟩:=hf it (by simp)
  have xo:i<x.cps.size:=hg
  have hx:x.cps[i]?=f' x.cps[i]:=by simp[xo]
  refine NH st hx fun h' u tk g9 sb=>?_
  have I1:Inv X aa σ H { s with heap:=h',toks:=tk }:=I.turned (fun b o hb e=>(sb.2 b hb).trans e) f0 f1 f3 f4 f5
  rcases id g9 with⟨o,e,c,d⟩|⟨o,e,c,d⟩
  .exact⟨_,O,uu (s:={ s with heap:=h',toks:=tk }) e c d (by decide) ⟨.str ⟨#[x.cps[i]]⟩,H,I1,⟨u,O⟩,⟨O,_,hx,O⟩,g9,fun b hb=>(hf b hb).1⟩⟩
  .exact⟨_,O,uu (s:={ s with heap:=h',toks:=tk }) e c d (by decide) ⟨.str ⟨#[x.cps[i]]⟩,H,I1,⟨u,O⟩,⟨O,_,hx,O⟩,g9,fun b hb=>(hf b hb).1⟩⟩
 done:=by
  intro X hP hw hK hc i aa s σ H E I hf st hg
  subst hP hw hK
  obtain⟨f0,f1,f2,f3,f4,f5⟩:=hf it (by simp)
  exact MY I.hd st (Tf hg) fun h' eb=>⟨O,I.turned (t':=s.toks) (fun b o hb e=>eb b o hb e) f0 f1 f3 f4 f5⟩
 self:=fun _ _ _ _ _ st h=>by
  rcases st with y|y
  .exact wpAny_pyIter_striter_ascii y h
  .exact wpAny_pyIter_striter_wide y h
def QhE (tl:TE):TI:=fun σ H R=>tl σ H fun x H1=>∃ z,x=.str z∧R (Its z) H1
theorem Fj  (hl:PE X l tl):PI X tg l (QhE tl):=by
 intro aa s σ H R I h
 refine UP (hl aa s σ H _ I h) fun v s1=>L2.U1 fun x H1 I1 r1 aX=>?_
 obtain⟨z,e,q⟩:=aX
 subst e
 obtain⟨t,rfl⟩:=r1
 have aT:∀ ob:UZ,ma (s1.heap.push ob) s1.heap.objs.size z t 0→PIE X aa σ tg R (.ref s1.heap.objs.size) { s1 with heap:=s1.heap.push ob }:=fun ob st=>
  ⟨s1.heap.objs.size,[s1.heap.objs.size],_,Its z,H1,rfl,I1.kept (t':=s1.toks) fun b o e=>Q4 _ e,OJ z t _,st,fun b hb=>by
   have e:b=s1.heap.objs.size:=by simpa using hb
   subst e
   exact I1.WI (Q7 _) (I1.UJ.fresh (Q7 _)),q⟩
 cases ha:z.cps.all (·<128)
 .exact wpAny_pyIter_wide ha (aT _ (.inr ⟨_,Ra _ O,O,O⟩))
 .exact wpAny_pyIter_ascii ha (aT _ (.inl ⟨_,Ra _ O,O,O⟩))
theorem CV {Q:VK} (Pv:Nat→St→Hp→Prop) (h0:Pv 0 τ H)
  (hs:∀ i c τ H,x.cps[i]?=f' c→Pv i τ H→g (.str ⟨#[c]⟩) τ H fun τ2 H2=>tt τ2 H2 fun b H3=>
   if b=B' then te τ2 H3 fun y H4=>∃ ys,H4 D=f' (.lst ys)∧ys.length<S'∧Pv (i + 1) τ2 (upd H4 D (.lst (ys++[y]))) else Pv (i + 1) τ2 H3)
  (hd:∀ τ H,Pv x.cps.size τ H→Q (.ref D) H):jD (Its x) D τ H g tt te Q:=by
 refine⟨fun i m τ H=>m=x.cps.size - i∧i≤x.cps.size∧Pv i τ H,⟨x.cps.size,by simp,RY _,h0⟩,?_⟩
 rintro i m τ H ⟨rfl,hi,p⟩
 by_cases bZ:i<x.cps.size
 .refine .inr ⟨bZ,Pv (i + 1),fun τ' H' p'=>⟨x.cps.size - (i + 1),by lia,O,bZ,p'⟩,fun v H' y=>?_⟩
  obtain⟨e,c,hc,ev⟩:=y
  subst e ev
  exact hs i c τ _ hc p
 .have e:i=x.cps.size:=by lia
  subst e
  exact .inl ⟨Q7 _,hd τ H p⟩
def Itz (K:R') (l1 l2:F'):It:=
  ⟨fun i H=>∃ xs ys x y,P' K H l1 xs∧P' K H l2 ys∧xs[i]?=f' x∧ys[i]?=f' y,
   fun i H v H'=>∃ T x y,v=.ref T∧H T=i'∧H'=upd H T (.tup [x,y])∧(∀ xs,P' K H l1 xs→xs[i]?=f' x)∧∀ ys,P' K H l2 ys→ys[i]?=f' y,
   fun i H=>∃ xs ys,P' K H l1 xs∧P' K H l2 ys∧(xs.length≤i∨ys.length≤i)⟩
def QhF (h:U6) (z TI TO i1 i2 l1 l2:F') (i:Nat):Prop:=XS h z TI TO .none∧WQ h TI (.ref i1) (.ref i2)∧(∃ a b,WQ h TO a b)∧h.IsListIter i1 l1 i∧h.IsListIter i2 l2 i
theorem MH {K:R'}{k:Nat}{TI TO:F'} (D:XM z TI TO i1 i2 l1 l2) :
  lX P w K (.Tuple es k pos) (Itz K l1 l2) [z,TI,TO,i1,i2] z (fun i h=>QhF h z TI TO i1 i2 l1 l2 i) where
 mem:=by simp
 obj:=fun i h st b hb=>by
  obtain⟨hz,cH,⟨a,c,eB⟩,⟨o1,e1,c1,d1⟩,⟨o2,e2,c2,d2⟩⟩:=st
  simp only[RS,RD,Wu] at hb
  rcases hb with rfl|rfl|rfl|rfl|rfl
  .exact⟨_,hz,fun v q=>by simp at q⟩
  .exact⟨_,cH,fun v q=>by simp at q⟩
  .exact⟨_,eB,fun v q=>by simp at q⟩
  .exact⟨_,e1,fun v q=>by rw[d1] at q;cases q⟩
  .exact⟨_,e2,fun v q=>by rw[d2] at q;cases q⟩
 keep:=fun i h h' st k=>by
  obtain⟨hz,cH,⟨a,c,eB⟩,h1,h2⟩:=st
  exact⟨k z (by simp) _ hz,k TI (by simp) _ cH,⟨a,c,k TO (by simp) _ eB⟩,h1.at fun o e=>k i1 (by simp) o e,h2.at fun o e=>k i2 (by simp) o e⟩
 item:=by
  intro X hP hw hK hc i aa s σ H E I hf st hg
  subst hP hw hK
  obtain⟨xs,ys,x,y,q1,q2,hx,hy⟩:=hg
  obtain⟨hz,cH,⟨a,c,eB⟩,h1,h2⟩:=st
  obtain⟨ah,rv,pl,_⟩:=I.list q1
  obtain⟨its',dv,jT,_⟩:=I.list q2
  obtain⟨u,hu,ru⟩:=rv.get hx
  obtain⟨u',iJ,pP⟩:=dv.get hy
  have nf:∀ b∈[z,TI,TO,i1,i2],b∉VA X.stack:=fun b hb q=>(RS.mp (I.WU b q)).elim (hf b hb).2.1 (hf b hb).2.2.1
  refine Uh D hz cH eB h1 h2 pl.isList jT.isList (x:=u) (y:=u') (by simpa using hu) (by simpa using iJ) fun h' a1 a2 a3 a4 a5 a6 hk=>⟨_,O,?_⟩
  refine wpAny_letOwnedTupleGo_zip (s:={ s with heap:=h' }) a1 fun eC lO b8=>?_
  have pX:H s.heap.objs.size=i':=I.UJ.fresh (Q7 _)
  have QE:=Q6 hz
  have old:∀ b o,b≠z→b≠TO→b≠i1→b≠i2→s.heap.get? b=f' o→eC.get? b=f' o:=fun b o n1 n2 n3 n4 e=>b8.extBut b o n1 (hk b o n1 n2 n3 n4 e)
  have I1:Inv X aa σ (upd H s.heap.objs.size (.tup [x,y])) { s with heap:=s.heap.push { cls:=.type "tuple",data:=.seq #[u,u'] } }:=
   I.laid (t':=s.toks) (fun b o e=>Q4 _ e) (Q7 _) ⟨by show 2≤S';decide,[u,u'],.cons ru (.cons pP .nil),⟨_,Ra _ rfl,O,_,O⟩⟩
  have rh:∀ b∈[z,TI,TO,i1,i2],cJ X aa (upd H s.heap.objs.size (.tup [x,y])) b:=fun b hb=>by
   obtain⟨f0,r⟩:=hf b hb
   refine⟨?_,r⟩
   have lt:b<s.heap.objs.size:=by
    simp only[RS,RD,Wu] at hb
    rcases hb with rfl|rfl|rfl|rfl|rfl
    .exact Q6 hz
    .exact Q6 cH
    .exact Q6 eB
    .obtain⟨o,e,_⟩:=h1;exact Q6 e
    .obtain⟨o,e,_⟩:=h2;exact Q6 e
   rw[aj (Rb lt)];exact f0
  have I2:Inv X aa σ (upd H s.heap.objs.size (.tup [x,y])) { s with heap:=eC }:=by
   have cQ:∀ b o,(s.heap.push { cls:=.type "tuple",data:=.seq #[u,u'] }).get? b=f' o→b≠z→b≠TO→b≠i1→b≠i2→eC.get? b=f' o:=fun b o e n1 n2 n3 n4=>by
    rcases Tr e with⟨rfl,rfl⟩|e
    .exact b8.extBut _ _ n1 a5
    .exact old b o n1 n2 n3 n4 e
   refine I1.slots (ch:=[z,TO,i1,i2]) (tk:=s.toks) (fun b hb=>rh b (by simp only[RS,RD,Wu] at hb ⊢;rcases hb with e|e|e|e <;> simp[e])) (fun b o _ hc e=>?_) (fun b o hb e=>⟨o.slots,?_⟩) (fun b hb o e=>?_)
   .simp only[RS,RD,Wu,not_or] at hc
    exact cQ b o e hc.1 hc.2.1 hc.2.2.1 hc.2.2.2
   .exact cQ b o e (fun q=>nf z (by simp) (q ▸ hb)) (fun q=>nf TO (by simp) (q ▸ hb)) (fun q=>nf i1 (by simp) (q ▸ hb)) (fun q=>nf i2 (by simp) (q ▸ hb))
   .simp only[RS,RD,Wu] at hb
    rcases hb with rfl|rfl|rfl|rfl
    .exact⟨_,lO⟩
    .exact⟨_,b8.extBut _ _ D.TOz a2⟩
    .obtain⟨o,e,_⟩:=a3;exact⟨_,b8.extBut _ _ D.i1z e⟩
    .obtain⟨o,e,_⟩:=a4;exact⟨_,b8.extBut _ _ D.i2z e⟩
  refine⟨.ref s.heap.objs.size,_,I2,O,⟨_,x,y,O,pX,O,fun IB q=>by rw[I.ZU q q1];exact hx,fun kT q=>by rw[I.ZU q q2];exact hy⟩,?_,fun b hb=>(rh b hb).1⟩
  exact⟨lO,old TI _ D.TIz D.TITO D.TIi1 D.TIi2 cH,⟨_,_,b8.extBut _ _ D.TOz a2⟩,a3.extBut b8.extBut D.i1z,a4.extBut b8.extBut D.i2z⟩
 done:=by
  intro X hP hw hK hc i aa s σ H E I hf st hg
  subst hP hw hK
  obtain⟨xs,ys,q1,q2,av⟩:=hg
  obtain⟨hz,cH,⟨a,c,eB⟩,h1,h2⟩:=st
  obtain⟨ah,rv,pl,_⟩:=I.list q1
  obtain⟨its',dv,jT,_⟩:=I.list q2
  have e1:=rv.length
  have e2:=dv.length
  have nf:∀ b∈[z,TI,TO,i1,i2],b∉VA X.stack:=fun b hb q=>(RS.mp (I.WU b q)).elim (hf b hb).2.1 (hf b hb).2.2.1
  have nc:∃ cs,VJ X.A cs∧Vc s.heap cs∧∀ b∈[z,TI,TO,i1,i2],b∉cs:=by
   rcases I.XW with e|⟨b,cs,e,c⟩
   .exact⟨[],.inl ⟨e,O⟩,⟨Su,fun j a q=>by simp at q⟩,fun b _ q=>by simp at q⟩
   .exact⟨b::cs,.inr ⟨b,cs,O,e⟩,c.ZQ I.UJ,fun d hd=>c.ZR (hf d hd).1⟩
  obtain⟨cs,cU,ch,oK⟩:=nc
  refine CF cU ch (oK z (by simp)) (oK TO (by simp)) (oK i1 (by simp)) (oK i2 (by simp)) D hz cH eB h1 h2 pl.isList jT.isList (by rcases av with q|q;(left;simp;lia);(right;simp;lia)) fun h' hk=>⟨O,?_⟩
  refine I.slot0 (ch:=[z,TI,TO,i1,i2]) (tk:=s.toks) hf (fun b o _ hc e=>?_) (fun b o hb e=>⟨o.slots,?_⟩)
  .simp only[RS,RD,Wu,not_or] at hc
   exact hk b o hc.1 hc.2.2.1 hc.2.2.2.1 hc.2.2.2.2 e
  .exact hk b o (fun q=>nf z (by simp) (q ▸ hb)) (fun q=>nf TO (by simp) (q ▸ hb)) (fun q=>nf i1 (by simp) (q ▸ hb)) (fun q=>nf i2 (by simp) (q ▸ hb)) e
 self:=fun _ _ _ _ _ st h=>T0 st.1 h
def QhG (K:R') (ta:TA):TI:=fun σ H R=>ta σ H fun vs H1=>∃ l1 l2,vs=[.ref l1,.ref l2]∧(∃ xs,P' K H1 l1 xs)∧(∃ ys,P' K H1 l2 ys)∧R (Itz K l1 l2) H1
theorem uk {k:Nat}{a b:UY}{ta:TA} (hg:Gl X "zip") (hm:X.mg "zip"=i') (ha:PA X [a,b] ta) (hs:UU [a,b] X.env=[(K',UV a X.env),(K',UV b X.env)]:=by rfl) (fG:UU [b] X.env=[(K',UV b X.env)]:=by rfl) :
  PI X (.Tuple es k Zc) (.Call (.Name "zip" p) [a,b] [] pos) (QhG X.K ta):=by
 intro aa s σ H R I h
 refine Call_ (jM I hg hm boot_zip (Yo (UP (ha pos aa s σ H _ I h) fun us s1=>L2.U1 fun vs H1 I1 r1 aX=>?_) (by rw[hs,fG]) (by rw[fG];rfl)))
 obtain⟨l1,l2,e,⟨xs,q1⟩,⟨ys,q2⟩,q⟩:=aX
 subst e
 obtain⟨u,u',rfl,ru,pP⟩:=nJ r1
 obtain rfl:u=UQ l1:=ru
 obtain rfl:u'=UQ l2:=pP
 obtain⟨ah,rv,pl,_⟩:=I1.list q1
 obtain⟨its',dv,jT,_⟩:=I1.list q2
 refine call_zip_2 pl.isList jT.isList fun h' b1 b2 b3 b4 b5 b6 hk=>?_
 refine T0 (s:={ s1 with heap:=h' }) b1 ?_
 have iK:l1<s1.heap.objs.size:=by obtain⟨o,e,_⟩:=pl.isList;exact Q6 e
 have kR:l2<s1.heap.objs.size:=by obtain⟨o,e,_⟩:=jT.isList;exact Q6 e
 have nn:∀ (x y:Nat),x<y→∀ j:Nat,x≠y + j:=fun x y h j e=>by lia
 have n0:∀ (y i j:Nat),i≠j→y + i≠y + j:=fun y i j h e=>by lia
 have D:XM (s1.heap.objs.size + 4) (s1.heap.objs.size + 2) (s1.heap.objs.size + 3) s1.heap.objs.size (s1.heap.objs.size + 1) l1 l2:=
  ⟨n0 _ 2 4 (by decide),n0 _ 3 4 (by decide),n0 _ 0 4 (by decide),n0 _ 1 4 (by decide),n0 _ 2 3 (by decide),n0 _ 2 0 (by decide),n0 _ 2 1 (by decide),n0 _ 3 0 (by decide),n0 _ 3 1 (by decide),n0 _ 0 1 (by decide),
   nn _ _ iK 4,nn _ _ iK 3,nn _ _ iK 0,nn _ _ iK 1,nn _ _ kR 4,nn _ _ kR 3,nn _ _ kR 0,nn _ _ kR 1⟩
 refine⟨s1.heap.objs.size + 4,[s1.heap.objs.size + 4,s1.heap.objs.size + 2,s1.heap.objs.size + 3,s1.heap.objs.size,s1.heap.objs.size + 1],_,_,H1,O,I1.kept (t':=s1.toks) hk,MH D,⟨b1,b2,⟨_,_,b3⟩,b4,b5⟩,fun b hb=>?_,q⟩
 have ge:s1.heap.objs.size≤b:=by
  simp only[RS,RD,Wu] at hb
  rcases hb with rfl|rfl|rfl|rfl|rfl
  .exact RH _ _
  .exact RH _ _
  .exact RH _ _
  .exact Q7 _
  .exact RH _ _
 exact I1.WI ge (I1.UJ.fresh ge)
theorem Inv.freeze  (I:Inv X aa σ H s) (e:H d=f' (.dK kvs)) (ho:s.heap.get? d=f' o):Inv X aa σ (upd H d (.UT o (.dK kvs))) s:=by
 have ne:∀ b u,H b=f' u→u≠.dK kvs→b≠d:=fun b u q n z=>by rw[z,e] at q;cases q;exact n rfl
 have kp:∀ b u,H b=f' u→u≠.dK kvs→upd H d (.UT o (.dK kvs)) b=f' u:=fun b u q n=>by rw[aj (ne b u q n)];exact q
 refine I.un (h':=s.heap) (t':=s.toks) ⟨fun b _ q _ _ _=>q,fun b ob q _ _ _=>⟨ob.slots,q⟩,fun b ob q n _=>?_,fun b ob q _=>⟨ob,q⟩,fun b xs q=>kp b _ q (by intro z;cases z),fun b ob u q=>kp b _ q (by intro z;cases z),fun b pp pq q=>kp b _ q (by intro z;cases z)⟩ fun b u q=>?_
 .rw[aj (fun z=>by rw[z,e] at n;cases n)];exact n
 .by_cases hb:b=d
  .subst hb
   rw[ag] at q;cases q
   exact⟨ho,(I.UJ _ _ e)⟩
  .rw[aj hb] at q
   exact(I.UJ b u q).WS (fun c v _ r=>r) (fun c r=>kp c _ r (by intro z;cases z)) (fun c xs r=>kp c _ r (by intro z;cases z)) fun c ob r=>kp c _ r (by intro z;cases z)
theorem Inv.QhH  (I:Inv X aa σ H s) (hX:∀ o u,X.H₀ d≠f' (.UT o u)) (e:H d=f' (.UT o (.dK kvs))):Inv X aa σ (upd H d (.dK kvs)) s:=by
 have ne:∀ b u,H b=f' u→(∀ o v,u≠.UT o v)→b≠d:=fun b u q n z=>by rw[z,e] at q;cases q;exact n _ _ rfl
 have kp:∀ b u,H b=f' u→(∀ o v,u≠.UT o v)→upd H d (.dK kvs) b=f' u:=fun b u q n=>by rw[aj (ne b u q n)];exact q
 have nn:∀ b,H b=i'→upd H d (.dK kvs) b=i':=fun b q=>by rw[aj (fun z=>by rw[z,e] at q;cases q)];exact q
 have un:Un X.fs X.ex X.H₀ (upd H d (.dK kvs)) X.s₀.heap s.heap:=by
  obtain⟨b1,b2,b3,b4,b5,b6,b7⟩:=I.base
  refine⟨b1,b2,fun b ob q n x=>nn b (b3 b ob q n x),b4,fun b xs q=>kp b _ (b5 b xs q) (by intro _ _ z;cases z),fun b ob u q=>?_,fun b pp pq q=>?_⟩
  .rw[aj (fun z=>hX ob u (by rw[← z];exact q))];exact b6 b ob u q
  .exact kp b _ (b7 b pp pq q) (by intro _ _ z;cases z)
 refine { I with base:=un,free:=nn _ I.free,V0:=fun x c q=>nn _ (I.V0 x c q),pin:=fun p hp=>?_,UJ:=fun b u q=>?_ }
 .obtain⟨p1,p2,p3⟩:=I.pin p hp
  exact⟨p1,nn _ p2,p3⟩
 .by_cases hb:b=d
  .subst hb
   rw[ag] at q;cases q
   exact(I.UJ _ _ e).2
  .rw[aj hb] at q
   exact(I.UJ b u q).WS (fun c v _ r=>r) (fun c r=>kp c _ r (by intro _ _ z;cases z)) (fun c xs r=>kp c _ r (by intro _ _ z;cases z)) fun c ob r=>by rw[aj (fun z=>by rw[z,e] at r;cases r)];exact r
theorem Inv.QhI  (I:Inv X aa σ H s) (e:H d=f' (.dK kvs)):∀ o u,X.H₀ d≠f' (.UT o u):=fun o u q=>by
 have:=I.base.Ww d o u q
 rw[e] at this;cases this
def QhJ (t:TE):TE:=fun σ H Q=>∃ d kvs,H d=f' (.dK kvs)∧t σ H fun v H1=>∃ o,H1 d=f' (.UT o (.dK kvs))∧Q v (upd H1 d (.dK kvs))
theorem Of {t:TE} (h:PE X e t):PE X e (QhJ t):=by
 intro aa s σ H Q I q
 obtain⟨d,kvs,hd,q⟩:=q
 exact UP (h aa s σ H _ I q) fun u s1 ⟨x,H1,I1,r,o,e1,q1⟩=>⟨x,_,I1.QhH (I.QhI hd) e1,r,q1⟩
def rJ (v d:F'):HO:=.ext fun h=>h.IsItemsView v d
def QhK:V→List V→Hp→VK→Prop:=fun x vs H Q=>∃ d kvs,x=.ref d∧vs=[]∧H d=f' (.dK kvs)∧∀ v,H v=i'→Q (.ref v) (upd H v (rJ v d))
theorem MX:Zg X "dict.items" QhK:=by
 intro aa s σ H x xs v us Q I rx r h
 obtain⟨d,kvs,rfl,rfl,e,q⟩:=h
 obtain rfl:v=UQ d:=rx
 cases r
 obtain⟨z,hd,vs,rel,dd⟩:=oZ I.UJ e
 refine ZH QeE dd.typeIs PySem.F.entry_dict_items (PySem.F.args_dict_items_1 _) (meets_dict_items (b9 X.prog X.w) d hd) ⟨⟨vs,dd⟩,?_⟩
 refine⟨.ref s.heap.objs.size,_,I.laid (t':=s.toks) (o:=rJ s.heap.objs.size d) (fun b ob q=>Q4 _ q) (Q7 _) ?_,O,q _ (I.UJ.fresh (Q7 _))⟩
 exact⟨⟨_,Ra _ O,O,O⟩,⟨_,Ra _ O⟩,fun h1 h2 ⟨o,a,r⟩ k=>⟨o,k o a,r⟩⟩
def Iti (d:F') (o:UZ) (kvs:List (Key×V)):It:=
 ⟨fun i H=>H d=f' (.UT o (.dK kvs))∧i<kvs.length,fun i H v H'=>∃ T k x,v=.ref T∧H T=i'∧kvs[i]?=f' (k,x)∧H'=upd H T (.tup [kV k,x]),fun i H=>H d=f' (.UT o (.dK kvs))∧kvs.length≤i⟩
def QhL (h:U6) (it d:F') (o:UZ) (n i:Nat):Prop:=∃ es ep ok ov,o.data=.dict es ep∧IsItemIter h it d i n ep ok ov
theorem Qds {k:Key} (h:(b9 P w).is k u=B'):aD (kV k) u:=by
 rcases kn (show lq k u=B' from h) with⟨i,t,rfl,rfl⟩|⟨x,t,rfl,rfl⟩
 .exact⟨t,O⟩
 .exact⟨t,O⟩
theorem KV.get {kvs:List (Key×V)}{vs:List (Key×L')} (r:KV kvs vs):∀ {i:Nat}{k:Key}{x:V},kvs[i]?=f' (k,x)→∃ u,vs[i]?=f' (k,u)∧aD x u:=by
 induction r with
 | nil=>intro i k x e;simp at e
 | @cons p q l1 l2 h t ih=>
  intro i k x e
  cases i with
  | zero=>
   simp at e
   subst e
   exact⟨q.2,by simp only[List.getElem?_cons_zero,Qoo];exact Prod.ext h.1.symm O,h.2⟩
  | succ i=>exact ih (by simpa using e)
theorem Nm:Qbt table "dict_itemiterator.__iter__"=f' W4.«dict_keyiterator.__iter__»:=Qgm (id':="dict_keyiterator.__iter__") (by kernel_rfl) rfl (by decide +kernel) (by kernel_rfl)
theorem NE {K:R'}{k:Nat}:lX P w K (.Tuple es k pos) (Iti d o kvs) [it] it (fun i h=>QhL h it d o kvs.length i) where
 mem:=by simp
 obj:=fun i h st b hb=>by
  have e:b=it:=by simpa using hb
  subst e
  obtain⟨_,_,_,_,_,e⟩:=st
  exact⟨_,e,fun v q=>by simp at q⟩
 keep:=fun i h h' st kk=>by
  obtain⟨a,b,c,e,q,y⟩:=st
  exact⟨a,b,c,e,q,kk it (by simp) _ y⟩
 item:=by
  intro X hP hw hK hc i aa s σ H E I hf st hg
  subst hP hw hK
  obtain⟨hd,bZ⟩:=hg
  obtain⟨iY,ep,ok,ov,aH,a7⟩:=st
  obtain⟨f0,f1,f2,f3,f4,f5⟩:=hf it (by simp)
  obtain⟨ho,xf⟩:=I.UJ _ _ hd
  obtain⟨z,tm,vs,rel,⟨o',Jf,IT,mZ,oM,eY,r2⟩⟩:=xf
  rw[ho] at mZ;cases mZ
  rw[aH] at eY;cases eY
  have mw:s.heap.DictAt (b9 X.prog X.w) d vs ep:=⟨o,iY,ho,oM,aH,r2⟩
  obtain⟨⟨kk,x⟩,hx⟩:∃ p,kvs[i]?=f' p:=⟨kvs[i],by simp[bZ]⟩
  obtain⟨u,hu,ru⟩:=rel.get hx
  have av:kvs.length=vs.length:=rel.length
  rw[av] at a7
  refine wpAny_pyNext_items_item a7 mw hu fun key h' d7 a1 a2 a3 Iq=>⟨_,O,?_⟩
  refine wpAny_letOwnedTupleGo_items (s:={ s with heap:=h' }) a1 fun eC eX b8=>?_
  have pX:H s.heap.objs.size=i':=I.UJ.fresh (Q7 _)
  have nT:s.heap.objs.size≠it:=UM (Rb (Q6 a7))
  have I1:Inv X aa σ (upd H s.heap.objs.size (.tup [kV kk,x])) { s with heap:=s.heap.push { cls:=.type "tuple",data:=.seq #[key,u] } }:=
   I.laid (t':=s.toks) (fun b o e=>Q4 _ e) (Q7 _) ⟨by show 2≤S';decide,[key,u],.cons (Qds d7) (.cons ru .nil),⟨_,Ra _ rfl,O,_,O⟩⟩
  have BE:upd H s.heap.objs.size (.tup [kV kk,x]) it=i':=by rw[aj (UM nT)];exact f0
  have I2:Inv X aa σ (upd H s.heap.objs.size (.tup [kV kk,x])) { s with heap:=eC }:=I1.turned (t':=s.toks) (fun b ob hb e=>by
   rcases Tr e with⟨rfl,rfl⟩|e
   .exact b8.extBut _ _ hb a2
   .exact b8.extBut _ _ hb (Iq b ob hb e)) BE f1 f3 f4 f5
  refine⟨.ref s.heap.objs.size,_,I2,O,⟨_,kk,x,O,pX,hx,O⟩,⟨iY,ep,key,u,aH,by rw[av];exact eX⟩,fun b hb=>?_⟩
  have e:b=it:=by simpa using hb
  subst e
  exact BE
 done:=by
  intro X hP hw hK hc i aa s σ H E I hf st hg
  subst hP hw hK
  obtain⟨hd,p8⟩:=hg
  obtain⟨iY,ep,ok,ov,aH,a7⟩:=st
  obtain⟨f0,f1,f2,f3,f4,f5⟩:=hf it (by simp)
  obtain⟨ho,xf⟩:=I.UJ _ _ hd
  obtain⟨z,tm,vs,rel,⟨o',Jf,IT,mZ,oM,eY,r2⟩⟩:=xf
  rw[ho] at mZ;cases mZ
  rw[aH] at eY;cases eY
  have mw:s.heap.DictAt (b9 X.prog X.w) d vs ep:=⟨o,iY,ho,oM,aH,r2⟩
  have av:kvs.length=vs.length:=rel.length
  rw[av] at a7
  have nc:∃ cs,VJ X.A cs∧Vc s.heap cs∧it∉cs:=by
   rcases I.XW with e|⟨b,cs,e,c⟩
   .exact⟨[],.inl ⟨e,O⟩,⟨Su,fun j a q=>by simp at q⟩,by simp⟩
   .exact⟨b::cs,.inr ⟨b,cs,O,e⟩,c.ZQ I.UJ,c.ZR f0⟩
  obtain⟨cs,cU,ch,oK⟩:=nc
  exact O4 cU ch oK a7 mw (Ui (by rw[← av];exact p8)) fun h' eb=>⟨O,I.turned (t':=s.toks) (fun b o hb e=>eb b o hb e) f0 f1 f3 f4 f5⟩
 self:=fun A i s Q E st h=>by
  obtain⟨iY,ep,ok,ov,aH,a7⟩:=st
  have hT:s.TypeIs (.ref it) "dict_itemiterator":=⟨_,a7,O⟩
  refine wpAny_pyIter_slot hT Qeo (RV Qeo hT Nm ?_ (PySem.F.args_dict_itemiterator_iter_1 _))
  show M' _ _ (ret (.ref it)) _ _ s
  exact Q5 ⟨_,O,"dict_itemiterator",_,hT,Qcd.lookup,h⟩
def QhM (tl:TE):TI:=fun σ H R=>tl σ H fun x H1=>∃ v d kvs,x=.ref v∧H1 v=f' (rJ v d)∧H1 d=f' (.dK kvs)∧∀ o,R (Iti d o kvs) (upd H1 d (.UT o (.dK kvs)))
theorem P7 {k:Nat} (hl:PE X l tl):PI X (.Tuple es k Zc) l (QhM tl):=by
 intro aa s σ H R I h
 refine UP (hl aa s σ H _ I h) fun w s1=>L2.U1 fun x H1 I1 r1 aX=>?_
 obtain⟨v,d,kvs,e,hv,hd,q⟩:=aX
 subst e
 obtain rfl:w=UQ v:=r1
 obtain⟨z,tm,vs,rel,dd⟩:=oZ I1.UJ hd
 obtain⟨o,iY,ep,ho,hx,aH,r⟩:=id dd
 have mw:s1.heap.DictAt (b9 X.prog X.w) d vs ep:=⟨o,iY,ho,hx,aH,r⟩
 refine wpAny_pyIter_items (I1.UJ _ _ hv).1 mw ?_
 have I2:=(I1.freeze hd ho).kept (t':=s1.toks) (h':=s1.heap.push { cls:=.type "dict_itemiterator",data:=.fields #[.none,.bool K',.ref d,.int 0 0,.int vs.length 0,.int ep 0,.none,.none] }) fun b o e=>Q4 _ e
 refine⟨s1.heap.objs.size,[s1.heap.objs.size],_,_,_,O,I2,NE,⟨iY,ep,.none,.none,aH,?_⟩,fun b hb=>?_,q o⟩
 .rw[rel.length];exact Ra _ rfl
 .have e:b=s1.heap.objs.size:=by simpa using hb
  subst e
  refine I1.WI (Q7 _) ?_
  rw[aj (UM (Rb (Q6 ho)))]
  exact I1.UJ.fresh (Q7 _)
theorem NX {Q:VK} (Pv:Nat→St→Hp→Prop) (h0:Pv 0 τ H) (hf:∀ i τ H,i≤kvs.length→Pv i τ H→H d=f' (.UT o (.dK kvs)))
  (hs:∀ i k x T τ H,kvs[i]?=f' (k,x)→H T=i'→Pv i τ H→g (.ref T) τ (upd H T (.tup [kV k,x])) fun τ2 H2=>tt τ2 H2 fun b H3=>
   if b=B' then te τ2 H3 fun y H4=>∃ ys,H4 D=f' (.lst ys)∧ys.length<S'∧Pv (i + 1) τ2 (upd H4 D (.lst (ys++[y]))) else Pv (i + 1) τ2 H3)
  (hd:∀ τ H,Pv kvs.length τ H→Q (.ref D) H):jD (Iti d o kvs) D τ H g tt te Q:=
 XY (n:=kvs.length) Pv h0 (fun i σ H hi p=>⟨fun h=>⟨hf i σ H hi p,h⟩,fun h=>⟨hf i σ H hi p,h⟩⟩) (fun i v σ H H' hi p y=>by
 obtain⟨T,k,x,rfl,hT,hx,rfl⟩:=y
 exact hs i k x T σ H hx hT p) hd
theorem Ee {K:R'}{ys:List V}{Q:VK} (av:xs.length=ys.length) (Pv:Nat→St→Hp→Prop) (h0:Pv 0 τ H) (hl:∀ i τ H,i≤xs.length→Pv i τ H→P' K H l1 xs∧P' K H l2 ys)
  (hs:∀ i x y T τ H,xs[i]?=f' x→ys[i]?=f' y→H T=i'→Pv i τ H→g (.ref T) τ (upd H T (.tup [x,y])) fun τ2 H2=>tt τ2 H2 fun b H3=>
   if b=B' then te τ2 H3 fun y H4=>∃ ys,H4 D=f' (.lst ys)∧ys.length<S'∧Pv (i + 1) τ2 (upd H4 D (.lst (ys++[y]))) else Pv (i + 1) τ2 H3)
  (hd:∀ τ H,Pv xs.length τ H→Q (.ref D) H):jD (Itz K l1 l2) D τ H g tt te Q:=
 XY (n:=xs.length) Pv h0 (fun i σ H hi p=>⟨fun h=>⟨xs,ys,xs[i],ys[i],(hl i σ H hi p).1,(hl i σ H hi p).2,by simp[h],by simp[show i<ys.length by lia]⟩,fun h=>⟨xs,ys,(hl i σ H hi p).1,(hl i σ H hi p).2,.inl h⟩⟩) (fun i v σ H H' hi p y=>by
 obtain⟨T,x,y,rfl,hT,rfl,hx,hy⟩:=y
 exact hs i x y T σ H (hx xs (hl i σ H (R9 hi) p).1) (hy ys (hl i σ H (R9 hi) p).2) hT p) hd
theorem xI:V6 "int"=f' (.type "int"):=by decide +kernel
theorem xV:V6 "str"=f' (.type "str"):=by decide +kernel
theorem Og:V6 "bool"=f' (.type "bool"):=by decide +kernel
theorem tL:V6 "list"=f' (.type "list"):=by decide +kernel
theorem Ce:V6 "dict"=f' (.type "dict"):=by decide +kernel
variable {D:fV}{P:List L'→Prop}{b:Bool}{c:Nat}{l:F'}{ns ps:List Int}{tb:TS}
theorem KS:V6 "ValueError"=f' (.type "ValueError"):=by decide +kernel
theorem fX:V6 "isinstance"=f' (.builtin "isinstance"):=by decide +kernel
theorem rZ:V6 "all"=f' (.builtin "all"):=by decide +kernel
theorem Cn:V6 "any"=f' (.builtin "any"):=by decide +kernel
theorem dm:V6 "len"=f' (.builtin "len"):=by decide +kernel
theorem QhN:V6 "min"=f' (.builtin "min"):=by decide +kernel
theorem QhO:V6 "max"=f' (.builtin "max"):=by decide +kernel
theorem Ei:V6 "sum"=f' (.builtin "sum"):=by decide +kernel
theorem Qm (bs:List Bool) (d:Bool):(VH bs.length).all (fun i=>bs.getD i d)=bs.all id:=by
 induction bs with
 | nil=>rfl
 | cons b bs ih=>
  rw[Rh,Te,Th,SX,Th,← ih]
  rfl
theorem P2 (bs:List Bool) (d:Bool):(VH bs.length).any (fun i=>bs.getD i d)=bs.any id:=by
 induction bs with
 | nil=>rfl
 | cons b bs ih=>
  rw[Rh,Te,SK,List.any_map,SK,← ih]
  rfl
theorem Dr {bs:List Bool} (r:aB (bs.map V.bl) us) (h:us[i]?=f' v):v=.bool (bs.getD i B'):=by
 have hl:(bs.map V.bl).length=us.length:=r.length
 have hi:i<bs.length:=by
  have:=(VD.mp h).1
  rw[Q3] at hl
  lia
 obtain⟨u,hu,ru⟩:=r.get (i:=i) (x:=.bl bs[i]) (by simp[hi])
 rw[h] at hu;cases hu
 rw[Rl,Rf hi]
 exact ru
theorem rB:fU X (.builtin "all") (fun xs H Q=>∃ p,∃ bs:List Bool,xs=[.ref p]∧P' X.K H p (bs.map V.bl)∧Q (.bl (bs.all id)) H):=by
 intro aa s σ H xs us Q I r h
 obtain⟨p,bs,rfl,hq,q⟩:=h
 obtain⟨u,rfl,ru⟩:=gX r
 obtain rfl:u=UQ p:=ru
 obtain⟨ah,rv,pl,_⟩:=I.list hq
 obtain⟨cs,cU,ch⟩:=I.hd.chain
 have bZ:p<s.heap.objs.size:=by obtain⟨o,e,_⟩:=pl.isList;exact Q6 e
 have lL:s.heap.objs.size∉cs:=fun z=>Ry _ (ch.lt _ z)
 have av:ah.length=bs.length:=by rw[← rv.length,Q3]
 refine call_all_walk (SA pl.isList ⟨s.heap.objs.size,_,_,_,_,_,fun i=>bs.getD i B',O,rN (A:=X.A.in1) cU s.heap.objs.size p (Rb bZ) lL ah.toArray,⟨⟨_,Ra _ O,O,O⟩,pl.isList.push _,ch.mono fun b o _ e=>Q4 _ e⟩,?_,fun h' tk hk=>?_⟩)
 .intro i v s' Q' E' hv wT
  have cW:ah[i]?=f' v:=by simpa using hv
  rw[Dr rv cW]
  exact R7 wT
 .have e:(VH ah.toArray.size).all (fun i=>bs.getD i B')=bs.all id:=by rw[Re,av];exact Qm bs B'
  rw[e]
  exact⟨.bl _,H,I.kept fun b o e=>hk b o (fun z=>by
   have:b=s.heap.objs.size:=by simpa using z
   exact UR (Q6 e) (by rw[this];exact Ry _)) (Q4 _ e),O,q⟩
theorem EH:fU X (.builtin "any") (fun xs H Q=>∃ p,∃ bs:List Bool,xs=[.ref p]∧P' X.K H p (bs.map V.bl)∧Q (.bl (bs.any id)) H):=by
 intro aa s σ H xs us Q I r h
 obtain⟨p,bs,rfl,hq,q⟩:=h
 obtain⟨u,rfl,ru⟩:=gX r
 obtain rfl:u=UQ p:=ru
 obtain⟨ah,rv,pl,_⟩:=I.list hq
 obtain⟨cs,cU,ch⟩:=I.hd.chain
 have bZ:p<s.heap.objs.size:=by obtain⟨o,e,_⟩:=pl.isList;exact Q6 e
 have lL:s.heap.objs.size∉cs:=fun z=>Ry _ (ch.lt _ z)
 have av:ah.length=bs.length:=by rw[← rv.length,Q3]
 refine call_any_walk (SA pl.isList ⟨s.heap.objs.size,_,_,_,_,_,fun i=>bs.getD i B',O,rN (A:=X.A.in1) cU s.heap.objs.size p (Rb bZ) lL ah.toArray,⟨⟨_,Ra _ O,O,O⟩,pl.isList.push _,ch.mono fun b o _ e=>Q4 _ e⟩,?_,fun h' tk hk=>?_⟩)
 .intro i v s' Q' E' hv wT
  have cW:ah[i]?=f' v:=by simpa using hv
  rw[Dr rv cW]
  exact R7 wT
 .have e:(VH ah.toArray.size).any (fun i=>bs.getD i B')=bs.any id:=by rw[Re,av];exact P2 bs B'
  rw[e]
  exact⟨.bl _,H,I.kept fun b o e=>hk b o (fun z=>by
   have:b=s.heap.objs.size:=by simpa using z
   exact UR (Q6 e) (by rw[this];exact Ry _)) (Q4 _ e),O,q⟩
theorem Ly {P:Vz}:∀ {kvs:List (Key×V)}{vs:List (Key×L')}{acc:List L'},KV kvs vs→acc.length=vs.length→(∀ (i:Nat) (v:L'),acc[i]?=f' v→∃ k x,vs[i]?=f' (k,x)∧(b9 P w).is k v=B')→aB (kvs.map fun kv=>kV kv.1) acc:=by
 intro kvs vs acc r
 induction r generalizing acc with
 | nil=>
  intro hl _
  cases acc with
  | nil=>exact .nil
  | cons _ _=>simp at hl
 | @cons p q ps qs h t ih=>
  intro hl hk
  cases acc with
  | nil=>simp at hl
  | cons v acc=>
   obtain⟨k,x,e,hv⟩:=hk 0 v rfl
   simp at e
   subst e
   refine .cons ?_ (ih (by simpa using hl) fun i v' cW=>by simpa using hk (i + 1) v' (by simpa using cW))
   show aD (kV p.1) v
   rw[h.1]
   exact Qds hv
theorem K3:fU X (.type "list") (fun xs H Q=>∃ d kvs,xs=[.ref d]∧H d=f' (.dK kvs)∧∀ l,H l=i'→Q (.ref l) (upd H l (.lst (kvs.map fun kv=>kV kv.1)))):=by
 intro aa s σ H xs us Q I r h
 obtain⟨d,kvs,rfl,hd,q⟩:=h
 obtain⟨u,rfl,ru⟩:=gX r
 obtain rfl:u=UQ d:=ru
 obtain⟨z,tm,vs,rel,dd⟩:=oZ I.UJ hd
 obtain⟨ep,mw⟩:=dd.dictAt
 obtain⟨cs,cU,ch⟩:=I.hd.chain
 refine Ov cU tm mw ch (by rw[← rel.length];exact z) fun s' acc c' kp g1 g2 g3 hS ha=>?_
 have rv:aB (kvs.map fun kv=>kV kv.1) acc.toList:=Ly rel (by simpa using ha.1) fun i v hv=>ha.2 i v (by simpa using hv)
 have I':Inv X aa σ (upd H s.heap.objs.size (.lst (kvs.map fun kv=>kV kv.1))) { s with heap:=s'.heap,toks:=s'.toks }:=
  I.laid kp (Q7 _) ⟨by rw[Q3];exact z,acc.toList,c',rv,by simpa using hS⟩
 obtain⟨h',g',d',t',tI⟩:=s'
 dsimp only at g1 g2 g3 I'
 subst g1 g2 g3
 exact⟨.ref s.heap.objs.size,_,I',O,q _ (I.UJ.fresh (Q7 _))⟩
section
variable {K:R'} (hK:X.K=K)
include hK
theorem uI:YH X (Qdi K):=hK ▸ bB
theorem kY:YH X (QbD K):=hK ▸ ff
theorem uC {f:C'} (he:PE X e ta) (hb:X7 e f X.env (UV e X.env)=UV e X.env):PE X (.Attribute e f pos) (Qdq K ta f):=hK ▸ rC he hb
theorem kW {k:Nat}{t:Yi} (hc:X.calm=B') (h:ZV X es t) (hn:(XI es X.env).length=n:=by rfl) (dU:(XI es X.env).findIdx? (·.1)=i':=by rfl):PG X (.Tuple es k pos) (Qc6 K n t):=hK ▸ kj hc h hn dU
theorem tQ {o:UY}{to:TE}{t:TA}{aJ:Vx}{T id:String}{r:V→List V→Hp→VK→Prop} (pa:QcW T) (slot:Slot T name id) (qm:typeOf (.builtin id)=pure (.type "method_descriptor")) (hm:Zg X id r) (ho:PE X o to) (ha:PA X (e::es) t)
  (fK:X7 o name X.env (UV o X.env)=UV o X.env:=by rfl)
  (mJ:((Vq aw (UU (e::es) X.env)).all (fun x=>!x.1) && (Xf aw (Xd [] X.env)).all (fun x=>x.1.isSome) && decide ((e::es).length + ([]:List Yb).length + (if ([]:List Yb).isEmpty then 0 else 1)<30))=B':=by rfl)
  (fP:(aJ.endLine == aw.line)=B':=by rfl) (hs:UU (e::es) X.env=(K',UV e X.env)::UU es X.env:=by rfl) (gH:(Vq aw (UU es X.env)).any (·.1)=K':=by rfl) :
  PE X (.Call (.Attribute o name aJ) (e::es) [] aw) (tBM K T r to t):=hK ▸ ej pa slot qm hm ho ha fK mJ fP hs gH
end
section
theorem LO (hc:VJ A cs) (I ax:F') (gg:ax≠I) (hI:I∉cs) (items:Array L') :
  Za prog w A I (I::ax::cs) [I] items.size (fun i v=>items[i]?=f' v) (fun i h=>h.IsTupleIter I ax i∧h.IsTuple ax items∧Vc h cs) where
 sub:=fun b hb=>by simp at hb;simp[hb]
 frame:=fun _ _ _ st hk=>⟨st.1.at fun o e=>hk I (by simp) o e,st.2.1.at fun o e=>hk ax (by simp) o e,st.2.2.mono fun b o hb e=>hk b (by simp[hb]) o e⟩
 item:=fun i s Q E hi st hQ=>by
  refine wpAny_pyNext_tuple_item st.1 st.2.1 (x:=items[i]) (by simp[hi]) fun h' eX b8=>?_
  exact hQ _ h' s.toks (by simp[hi]) ⟨eX,st.2.1.extBut b8.extBut gg,st.2.2.but hI b8.extBut⟩ fun b o hb e=>b8.extBut b o (fun h=>hb (by simp[h])) e
 done:=fun s Q E st hQ=>EE (hc.hd st.2.2) st.1 st.2.1 (by simp) fun h' dN=>hQ h' s.toks fun b o hb e=>dN b o (fun h=>hb (by simp[h])) e
 self:=fun _ _ _ _ st hQ=>wpAny_pyIter_tupleiter st.1 hQ
theorem QhP {a b:Int}{u:VY}{Q:L'→UG→Prop} (hc:VJ A cs) (ch:Vc s.heap cs)
  (h:∀ h' tk,(∀ c o,s.heap.get? c=f' o→h'.get? c=f' o)→Q (if b<a then .int b u else .int a t) { s with heap:=h',toks:=tk }) :
  M' (UD prog w) A (call (.builtin "min") [.int a t,.int b u]) Q E s:=by
 have hT:(s.heap.push { cls:=.type "tuple",data:=.seq #[.int a t,.int b u] }).IsTuple s.heap.objs.size (X' #[(a,t),(b,u)]):=⟨_,Ra _ O,O,0,by simp[X']⟩
 refine call_min_two (wpAny_pyIter_tuple hT ?_)
 have hsz:(s.heap.push { cls:=.type "tuple",data:=.seq #[.int a t,.int b u] }).objs.size=s.heap.objs.size + 1:=RE ..
 have ns:∀ k,s.heap.objs.size≤k→k∉cs:=fun k hk z=>UR (ch.lt _ z) (Qbn.mpr hk)
 refine⟨_,_,[_],_,_,_,_,O,LO (A:=A.in1) hc _ s.heap.objs.size (by rw[hsz];exact Rb (Sb _)) (ns _ (by rw[hsz];exact RJ _)) (X' #[(a,t),(b,u)]),
  ⟨⟨_,Ra _ rfl,rfl,rfl⟩,hT.push _,ch.mono fun b o _ e=>Q4 _ (Q4 _ e)⟩,fun c hc=>?_,by simp[X'],CmpOf.ints_lt (Yc #[(a,t),(b,u)]) (fun _ _=>intItems_at),fun v h' tk hP hk=>?_⟩
 .show c<((s.heap.push _).push _).objs.size
  rw[RE,hsz]
  rcases RS.mp hc with rfl|hc
  .rw[hsz];exact Sb _
  .rcases RS.mp hc with rfl|hc
   .exact R0 (Sb _)
   .exact Rq (ch.lt _ hc) (by lia)
 .have vo:∀ c o,s.heap.get? c=f' o→h'.get? c=f' o:=fun c o e=>by
   refine hk c o (fun hm=>?_) (Q4 _ (Q4 _ e))
   have e1:=Vb.mp hm
   have:=Q6 e
   rw[e1,hsz] at this
   exact Ry _ (UA this)
  have:=h h' tk vo
  have hv:v=if b<a then XJ b u else XJ a t:=by
   have jO:(X' #[(a,t),(b,u)])[V2 (fun i j=>decide (Yc #[(a,t),(b,u)] i<Yc #[(a,t),(b,u)] j)) 1]?=f' v:=by
    have wb:(X' #[(a,t),(b,u)]).size - 1=1:=by simp[X']
    rw[← wb];exact hP
   by_cases sK:b<a
   .have e:V2 (fun i j=>decide (Yc #[(a,t),(b,u)] i<Yc #[(a,t),(b,u)] j)) 1=1:=by simp[V2,Yc,sK]
    rw[e] at jO
    simpa [X',sK] using jO.symm
   .have e:V2 (fun i j=>decide (Yc #[(a,t),(b,u)] i<Yc #[(a,t),(b,u)] j)) 1=0:=by simp[V2,Yc,sK]
    rw[e] at jO
    simpa [X',sK] using jO.symm
  rw[hv];exact this
section
variable {κ:Type} [DecidableEq κ] {knd:KeyKind prog w κ}
end
end
theorem Lr:fU X (.builtin "min") (fun xs H Q=>∃ i j,xs=[.int i,.int j]∧Q (.int (if j<i then j else i)) H):=by
 intro aa s σ H xs us Q I r h
 obtain⟨i,j,rfl,q⟩:=h
 obtain⟨u,w',rfl,⟨t,rfl⟩,⟨t',rfl⟩⟩:=nJ r
 obtain⟨cs,cU,ch⟩:=I.hd.chain
 refine QhP cU ch fun h' tk k=>⟨_,H,I.kept k,?_,q⟩
 by_cases hj:j<i
 .rw[UH hj,UH hj];exact⟨_,O⟩
 .rw[UF hj,UF hj];exact⟨_,O⟩
theorem yI  (r:aB (ns.map V.int) us) (h:us[i]?=f' v):∃ t,v=.int (ns.getD i 0) t:=by
 induction ns generalizing us i with
 | nil=>
  cases r
  simp at h
 | cons n ns ih=>
  cases r with
  | cons rv rr=>
   cases i with
   | zero=>
    obtain⟨t,rfl⟩:=rv
    simp at h
    exact⟨t,h.symm⟩
   | succ i=>exact ih rr (by simpa using h)
theorem Lx (f:Nat→Int) (ns:List Int) (h:∀ i,f i=ns.getD i 0):preSum f ns.length=ns.sum:=by
 have e:f=fun i=>ns.getD i 0:=funext h
 rw[e,preSum_getD,Rt]
theorem EM:fU X (.builtin "sum") (fun xs H Q=>∃ p,∃ ns:List Int,xs=[.ref p]∧P' X.K H p (ns.map V.int)∧Q (.int ns.sum) H):=by
 intro aa s σ H xs us Q I r h
 obtain⟨p,ns,rfl,hq,q⟩:=h
 obtain⟨u,rfl,ru⟩:=gX r
 obtain rfl:u=UQ p:=ru
 obtain⟨ah,rv,pl,_⟩:=I.list hq
 obtain⟨cs,cU,ch⟩:=I.hd.chain
 have bZ:p<s.heap.objs.size:=by obtain⟨o,e,_⟩:=pl.isList;exact Q6 e
 have lL:s.heap.objs.size∉cs:=fun z=>Ry _ (ch.lt _ z)
 have av:ah.length=ns.length:=by rw[← rv.length,Q3]
 refine call_sum_walkG (SA pl.isList ⟨s.heap.objs.size,_,_,_,_,_,fun i=>ns.getD i 0,O,rN (A:=X.A.in1) cU s.heap.objs.size p (Rb bZ) lL ah.toArray,⟨⟨_,Ra _ O,O,O⟩,pl.isList.push _,ch.mono fun b o _ e=>Q4 _ e⟩,?_,?_,fun h' tk t' hk=>?_⟩)
 .intro b hb
  show b<(s.heap.push _).objs.size
  rw[RE]
  rcases RS.mp hb with rfl|hb
  .exact Sb _
  .rcases RS.mp hb with rfl|hb
   .exact R0 bZ
   .exact R0 (ch.lt _ hb)
 .intro i v hv
  exact yI rv (by simpa using hv)
 .have e:preSum (fun i=>ns.getD i 0) ah.toArray.size=ns.sum:=by rw[Re,av];exact Lx _ _ fun _=>rfl
  rw[e]
  exact⟨.int _,H,I.kept fun b o e=>hk b o (fun z=>by
   have:b=s.heap.objs.size:=by simpa using z
   exact UR (Q6 e) (by rw[this];exact Ry _)) (Q4 _ e),⟨_,O⟩,q⟩
theorem len0  (h:P []) (us:List L') (e:us.length=0):P us:=by
 rw[Qch.mp e]
 exact h
theorem ph  (h:∀ a us,us.length=n→P (a::us)) (us:List L') (e:us.length=n + 1):P us:=by
 cases us with
 | nil=>cases e
 | cons a us=>exact h a us (Nat.succ.inj e)
theorem len1  (h:∀ a0,P [a0]):∀ us:List L',us.length=1→P us:=ph fun a=>len0 (P:=fun r=>P (a::r)) (h a)
theorem len2  (h:∀ a0 a1,P [a0,a1]):∀ us:List L',us.length=2→P us:=ph fun a=>len1 (P:=fun r=>P (a::r)) (h a)
theorem len3  (h:∀ a0 a1 a2,P [a0,a1,a2]):∀ us:List L',us.length=3→P us:=ph fun a=>len2 (P:=fun r=>P (a::r)) (h a)
theorem len4  (h:∀ a0 a1 a2 a3,P [a0,a1,a2,a3]):∀ us:List L',us.length=4→P us:=ph fun a=>len3 (P:=fun r=>P (a::r)) (h a)
theorem len5  (h:∀ a0 a1 a2 a3 a4,P [a0,a1,a2,a3,a4]):∀ us:List L',us.length=5→P us:=ph fun a=>len4 (P:=fun r=>P (a::r)) (h a)
theorem len6  (h:∀ a0 a1 a2 a3 a4 a5,P [a0,a1,a2,a3,a4,a5]):∀ us:List L',us.length=6→P us:=ph fun a=>len5 (P:=fun r=>P (a::r)) (h a)
theorem dP {A B:Prop} (hb:b=K') (h:B):if b=B' then A else B:=by
 subst hb
 exact iL h
theorem ji {A B:Prop} (hb:b=B') (h:A):if b=B' then A else B:=by
 subst hb
 exact eh h
theorem bi {A B:Prop} (h1:b=B'→A) (h2:b=K'→B):if b=B' then A else B:=by
 cases b with
 | true=>exact eh (h1 O)
 | false=>exact iL (h2 O)
def isTup:HO→Bool
 | .tup _=>B'
 | .UT _ (.tup _)=>B'
 | _=>K'
def Tk (H H':Hp):Prop:=∀ b o,H b=f' o→isTup o=B'→H' b=f' o
theorem Tk.of  (e:ae H H'):Tk H H':=fun b o h _=>e b o h
theorem Tk.trans  (a:Tk H H1) (b:Tk H1 H2):Tk H H2:=fun c o h z=>b c o (a c o h z) z
theorem Tk.upd {H:Hp}{c:F'}{u o:HO} (h:H c=f' u) (n:isTup u=K'):Tk H (L2.upd H c o):=fun b w e z=>by
 have:b≠c:=fun q=>by subst q;rw[h] at e;cases e;rw[n] at z;cases z
 rw[aj this]
 exact e
theorem Tk.VI {K:R'} (e:Tk H H') (h:UW K H a xs):UW K H' a xs:=by
 rcases h with(h|⟨o,h⟩)|h
 .exact .inl (.inl (e _ _ h O))
 .exact .inl (.inr ⟨o,e _ _ h O⟩)
 .exact .inr h
mutual
def uf:Dt→Bool
 | .lst _=>K'
 | .tup ds=>sC ds
 | _=>B'
def sC:List Dt→Bool
 | []=>B'
 | d::ds=>uf d && sC ds
end
mutual
theorem Tk.dt {K:R'}{H H':Hp} (e:Tk H H'):∀ {d:Dt}{x:V},uf d=B'→VC K H d x→VC K H' d x
 | .UO,_,_,h=>h
 | .bl _,_,_,h=>h
 | .int _,_,_,h=>h
 | .str _,_,_,h=>h
 | .lst ds,_,z,h=>by cases z
 | .tup ds,_,z,h=>by
  obtain⟨a,xs,e1,h1,h2⟩:=h
  exact⟨a,xs,e1,e.VI h1,e.U' z h2⟩
theorem Tk.U' {K:R'}{H H':Hp} (e:Tk H H'):∀ {ds:List Dt}{xs:List V},sC ds=B'→bv K H ds xs→bv K H' ds xs
 | [],_,_,h=>h
 | d::ds,_,z,h=>by
  obtain⟨y,ys,e1,h1,h2⟩:=h
  have z':=(Rn _ _).mp z
  exact⟨y,ys,e1,e.dt z'.1 h1,e.U' z'.2 h2⟩
end
theorem cu {α:Type}{f:α→Dt} (h:∀ x,uf (f x)=B'):∀ l:List α,sC (l.map f)=B'
 | []=>rfl
 | x::l=>by
  show(uf (f x) && sC (l.map f))=B'
  rw[h x,cu h l]
  rfl
theorem Fs {α:Type}{f:α→Dt} (h:∀ x,kZ n (f x)) (l:List α):fj n (l.map f):=fj.of fun d hd=>by
 obtain⟨x,_,rfl⟩:=Wq.mp hd
 exact h x
theorem gv {K:R'}{α:Type}{f:α→Dt}{l:List α}{x:V} (h:bv K H (l.map f) xs) (e:xs[i]?=f' x):∃ q,l[i]?=f' q∧VC K H (f q) x:=by
 have hi:i<l.length:=by
  have h1:=h.length
  rw[Q3] at h1
  have:=(VD.mp e).1
  lia
 obtain⟨q,hq⟩:=jH hi
 obtain⟨y,hy,hd⟩:=h.get (j:=i) (d:=f q) (by rw[Rx,hq];rfl)
 rw[e] at hy
 cases hy
 exact⟨q,hq,hd⟩
theorem cM {α:Type}{l:List α}{q:α} (h:l[i]?=f' q):l.take (i + 1)=l.take i++[q]:=by
 rw[TQ,h]
 rfl
def V4 (H:Hp) (xs:List V):Prop:=∀ x∈xs,∃ q zs,x=V.ref q∧H q=f' (.tup zs)
theorem V4.tk  (h:V4 H xs) (e:Tk H H'):V4 H' xs:=fun x hx=>by
 obtain⟨q,zs,rfl,hq⟩:=h x hx
 exact⟨q,zs,O,e _ _ hq O⟩
theorem V4.snoc {zs:List V} (h:V4 H xs) (hz:H z=f' (.tup zs)):V4 H (xs++[.ref z]):=fun x hx=>by
 rcases V9.mp hx with q|q
 .exact h x q
 .exact⟨z,zs,Vb.mp q,hz⟩
theorem V4.nil:V4 H []:=fun x hx=>by simp at hx
theorem QhQ {k:Int} (h0:0≤k) (h1:k<ns.length):∃ c,VB (ns.map V.int) k=f' (.int c):=by
 refine⟨ns.getD k.toNat 0,?_⟩
 unfold VB Xu
 rw[UH h0,UH (by rw[Q3];exact h1)]
 show(ns.map V.int)[k.toNat]?=_
 rw[Rx,Rl,Rf (show k.toNat<ns.length by lia)]
 rfl
theorem QhR {α β:Type}{C I:α→β→Hp→Prop}{G:Prop} (h:∀ x y H,I x y H→C x y H) (g:(∀ x y H,I x y H→C x y H)→G):G:=g h
def pz (ps:List Int) (k:Int):Int:=ps.getD k.toNat 0
theorem sw {k:Int} (h0:0≤k) (h1:k<ps.length):VB (ps.map V.int) k=f' (.int (pz ps k)):=by
 unfold VB Xu pz
 rw[UH h0,UH (by rw[Q3];exact h1)]
 show(ps.map V.int)[k.toNat]?=_
 rw[Rx,Rl,Rf (show k.toNat<ps.length by lia)]
 rfl
theorem zJ {k:Int} (h0:0≤k) (h1:k<n):Xu n k=f' k.toNat:=by
 unfold Xu
 rw[UH h0,UH h1]
theorem jG {α:Type}{xs:List α}{k:Int} (h0:0≤k):VB xs k=xs[k.toNat]?:=by
 unfold VB Xu
 rw[UH h0]
 by_cases h:k<xs.length
 .rw[UH h];rfl
 .rw[UF h]
  show i'=_
  rw[Ui (by lia)]
theorem zA {K:R'}{H:Hp}:∀ ns:List Int,bv K H (ns.map Dt.int) (ns.map V.int)
 | []=>rfl
 | _::r=>⟨_,_,O,O,zA r⟩
theorem Om  (ns:List Int):fj n (ns.map Dt.int):=Fs (fun _=>by cases n <;> trivial) _
def Ite (K:R') (l:F'):It:=
  ⟨fun i H=>∃ xs x,P' K H l xs∧xs[i]?=f' x,
   fun i H v H'=>∃ T x,v=.ref T∧H T=i'∧H'=upd H T (.tup [.int i,x])∧∀ xs,P' K H l xs→xs[i]?=f' x,
   fun i H=>∃ xs,P' K H l xs∧xs.length≤i⟩
theorem Op {e:F'}{items:Array L'}{old:L'} (hd:Hd A s.heap)
  (he:IsEnum s.heap e it i old) (a7:s.heap.IsListIter it l i) (hl:s.heap.IsList l items) (hx:items[i]?=i')
  (hQ:∀ h',Xc it s.heap h'→Q i' { s with heap:=h' }):M' (UD prog w) A (Vs (.ref e)) Q E s:=by
 have ht:s.TypeIs (.ref e) "enumerate":=⟨_,he,O⟩
 unfold Vs
 refine mT (R4 (RG (name:=UI "__next__") ht Qfc (RV Qfc ht F.entry_enumerate_next ?_ (F.args_enumerate_next_1 _))))
 refine(show M' _ _ (V7 (.ref e) 2 >>= _) _ _ _ from mT (RB he O (x:=.ref it) O ?_))
 refine mT (rQ (A:=A.in1) hd a7 hl hx fun h' x dN m8=>?_)
 obtain⟨o,ho,hc⟩:=m8
 exact mT (R5 (T:="StopIteration") (b:=B') ⟨o,ho,hc⟩ XF (Q5 (hQ _ dN)))
def QhS (h:U6) (e it l:F') (i:Nat):Prop:=∃ old,IsEnum h e it (i:Int) old∧h.IsListIter it l i
theorem Oq {P:Vz}{K:R'}{k:Nat}{e:F'} (gg:e≠it) :
  lX P w K (.Tuple es k pos) (Ite K l) [e,it] e (fun i h=>QhS h e it l i) where
 mem:=by simp
 obj:=fun i h st b hb=>by
  obtain⟨old,he,⟨o1,e1,c1,d1⟩⟩:=st
  simp only[RS,RD,Wu] at hb
  rcases hb with rfl|rfl
  .exact⟨_,he,fun v q=>by simp at q⟩
  .exact⟨_,e1,fun v q=>by rw[d1] at q;cases q⟩
 keep:=fun i h h' st k=>by
  obtain⟨old,he,h1⟩:=st
  exact⟨old,k e (by simp) _ he,h1.at fun o q=>k it (by simp) o q⟩
 item:=by
  intro X hP hw hK hc i aa s σ H E I hf st hg
  subst hP hw hK
  obtain⟨xs,x,q1,hx⟩:=hg
  obtain⟨old,he,h1⟩:=st
  obtain⟨ah,rv,pl,_⟩:=I.list q1
  obtain⟨u,hu,ru⟩:=rv.get hx
  have nf:∀ b∈[e,it],b∉VA X.stack:=fun b hb q=>(RS.mp (I.WU b q)).elim (hf b hb).2.1 (hf b hb).2.2.1
  refine wpAny_pyNext_enum_item he h1 pl.isList (x:=u) (by simpa using hu) gg fun h' a1 a2 a3 a4 hk=>⟨_,O,?_⟩
  refine wpAny_letOwnedTupleGo_enum (s:={ s with heap:=h',toks:=s.toks + 1 }) a1 fun eC lO b8=>?_
  replace b8:XH e h' eC:=b8
  have pX:H s.heap.objs.size=i':=I.UJ.fresh (Q7 _)
  have HQ:=Q6 he
  have vq:∀ b o,b≠e→b≠it→s.heap.get? b=f' o→eC.get? b=f' o:=fun b o n1 n2 q=>b8.extBut b o n1 (hk b o n1 n2 q)
  have I1:Inv X aa σ (upd H s.heap.objs.size (.tup [.int i,x])) { s with heap:=s.heap.push { cls:=.type "tuple",data:=.seq #[.int i s.toks,u] },toks:=s.toks + 1 }:=
   I.laid (t':=s.toks + 1) (fun b o q=>Q4 _ q) (Q7 _) ⟨by show 2≤S';decide,[.int i s.toks,u],.cons ⟨_,O⟩ (.cons ru .nil),⟨_,Ra _ rfl,O,_,O⟩⟩
  have rh:∀ b∈[e,it],cJ X aa (upd H s.heap.objs.size (.tup [.int i,x])) b:=fun b hb=>by
   obtain⟨f0,r⟩:=hf b hb
   refine⟨?_,r⟩
   have lt:b<s.heap.objs.size:=by
    simp only[RS,RD,Wu] at hb
    rcases hb with rfl|rfl
    .exact HQ
    .obtain⟨o,q,_⟩:=h1;exact Q6 q
   rw[aj (Rb lt)];exact f0
  have I2:Inv X aa σ (upd H s.heap.objs.size (.tup [.int i,x])) { s with heap:=eC,toks:=s.toks + 1 }:=by
   have cQ:∀ b o,(s.heap.push { cls:=.type "tuple",data:=.seq #[.int i s.toks,u] }).get? b=f' o→b≠e→b≠it→eC.get? b=f' o:=fun b o q n1 n2=>by
    rcases Tr q with⟨rfl,rfl⟩|q
    .exact b8.extBut _ _ n1 a3
    .exact vq b o n1 n2 q
   refine I1.slots (ch:=[e,it]) (tk:=s.toks + 1) rh (fun b o _ hc q=>?_) (fun b o hb q=>⟨o.slots,?_⟩) (fun b hb o q=>?_)
   .simp only[RS,RD,Wu,not_or] at hc
    exact cQ b o q hc.1 hc.2
   .exact cQ b o q (fun z=>nf e (by simp) (z ▸ hb)) (fun z=>nf it (by simp) (z ▸ hb))
   .simp only[RS,RD,Wu] at hb
    rcases hb with rfl|rfl
    .exact⟨_,lO⟩
    .obtain⟨o,q,_⟩:=a2;exact⟨_,b8.extBut _ _ gg.symm q⟩
  refine⟨.ref s.heap.objs.size,_,I2,O,⟨_,x,O,pX,O,fun IB q=>by rw[I.ZU q q1];exact hx⟩,?_,fun b hb=>(rh b hb).1⟩
  exact⟨u,lO,a2.extBut b8.extBut gg.symm⟩
 done:=by
  intro X hP hw hK hc i aa s σ H E I hf st hg
  subst hP hw hK
  obtain⟨xs,q1,av⟩:=hg
  obtain⟨old,he,h1⟩:=st
  obtain⟨ah,rv,pl,_⟩:=I.list q1
  have e1:=rv.length
  have nf:∀ b∈[e,it],b∉VA X.stack:=fun b hb q=>(RS.mp (I.WU b q)).elim (hf b hb).2.1 (hf b hb).2.2.1
  refine Op I.hd he h1 pl.isList (by simp;lia) fun h' hk=>⟨O,?_⟩
  refine I.slot0 (ch:=[e,it]) (tk:=s.toks) hf (fun b o _ hc q=>?_) (fun b o hb q=>⟨o.slots,?_⟩)
  .simp only[RS,RD,Wu,not_or] at hc
   exact hk b o hc.2 q
  .exact hk b o (fun z=>nf it (by simp) (z ▸ hb)) q
 self:=fun _ _ s _ _ st h=>by
  obtain⟨old,he,_⟩:=st
  exact UB he h
def QhT (K:R') (ta:TA):TI:=fun σ H R=>ta σ H fun vs H1=>∃ l,vs=[.ref l]∧(∃ xs,P' K H1 l xs)∧R (Ite K l) H1
theorem uT {k:Nat}{a:UY}{ta:TA} (hg:Gl X "enumerate") (hm:X.mg "enumerate"=i') (ha:PA X [a] ta) (hs:UU [a] X.env=[(K',UV a X.env)]:=by rfl) :
  PI X (.Tuple es k Zc) (.Call (.Name "enumerate" p) [a] [] pos) (QhT X.K ta):=by
 intro aa s σ H R I h
 refine Call_ (jM I hg hm boot_enumerate (Yo (UP (ha pos aa s σ H _ I h) fun us s1=>L2.U1 fun vs H1 I1 r1 aX=>?_) hs O))
 obtain⟨l,e,⟨xs,q1⟩,q⟩:=aX
 subst e
 obtain⟨u,rfl,ru⟩:=gX r1
 obtain rfl:u=UQ l:=ru
 obtain⟨ah,rv,pl,_⟩:=I1.list q1
 refine call_enumerate_list pl.isList fun h' b1 b2 b3 hk=>?_
 refine UB (s:={ s1 with heap:=h' }) b1 ?_
 refine⟨s1.heap.objs.size + 1,[s1.heap.objs.size + 1,s1.heap.objs.size],_,_,H1,O,I1.kept (t':=s1.toks) hk,Oq (Sa (Sb _)),⟨_,b1,b2⟩,fun b hb=>?_,q⟩
 have ge:s1.heap.objs.size≤b:=by
  simp only[RS,RD,Wu] at hb
  rcases hb with rfl|rfl
  .exact RH _ _
  .exact Q7 _
 exact I1.WI ge (I1.UJ.fresh ge)
theorem Lw {K:R'}{D:F'}{Q:VK} (Pv:Nat→St→Hp→Prop) (h0:Pv 0 τ H) (hl:∀ i τ H,i≤xs.length→Pv i τ H→P' K H l xs)
  (hs:∀ i x T τ H,xs[i]?=f' x→H T=i'→Pv i τ H→g (.ref T) τ (upd H T (.tup [.int i,x])) fun τ2 H2=>tt τ2 H2 fun b H3=>
   if b=B' then te τ2 H3 fun y H4=>∃ ys,H4 D=f' (.lst ys)∧ys.length<S'∧Pv (i + 1) τ2 (upd H4 D (.lst (ys++[y]))) else Pv (i + 1) τ2 H3)
  (hd:∀ τ H,Pv xs.length τ H→Q (.ref D) H):jD (Ite K l) D τ H g tt te Q:=
 XY (n:=xs.length) Pv h0 (fun i σ H hi p=>⟨fun h=>⟨xs,xs[i],hl i σ H hi p,by simp[h]⟩,fun h=>⟨xs,hl i σ H hi p,h⟩⟩) (fun i v σ H H' hi p y=>by
 obtain⟨T,x,rfl,hT,rfl,hx⟩:=y
 exact hs i x T σ H (hx xs (hl i σ H (R9 hi) p)) hT p) hd
theorem zc {K:R'} (Pv:Nat→St→Hp→Prop) (h0:Pv 0 σ H) (hl:∀ i σ H,i≤xs.length→Pv i σ H→P' K H l xs)
  (hs:∀ i x T σ H,xs[i]?=f' x→H T=i'→Pv i σ H→g (.ref T) σ (upd H T (.tup [.int i,x])) fun σ2 H2=>tb { D with nx:=Pv (i + 1),ct:=Pv (i + 1),bk:=D.nx } σ2 H2) (hd:∀ σ H,Pv xs.length σ H→D.nx σ H):Qaw (Ite K l) D g tb σ H:=
 XY (n:=xs.length) Pv h0 (fun i σ H hi p=>⟨fun h=>⟨xs,xs[i],hl i σ H hi p,by simp[h]⟩,fun h=>⟨xs,hl i σ H hi p,h⟩⟩) (fun i v σ H H' hi p y=>by
 obtain⟨T,x,rfl,hT,rfl,hx⟩:=y
 exact hs i x T σ H (hx xs (hl i σ H (R9 hi) p)) hT p) hd
theorem CU {K:R'}{ys:List V} (av:xs.length=ys.length) (Pv:Nat→St→Hp→Prop) (h0:Pv 0 σ H) (hl:∀ i σ H,i≤xs.length→Pv i σ H→P' K H l1 xs∧P' K H l2 ys)
  (hs:∀ i x y T σ H,xs[i]?=f' x→ys[i]?=f' y→H T=i'→Pv i σ H→g (.ref T) σ (upd H T (.tup [x,y])) fun σ2 H2=>tb { D with nx:=Pv (i + 1),ct:=Pv (i + 1),bk:=D.nx } σ2 H2) (hd:∀ σ H,Pv xs.length σ H→D.nx σ H):Qaw (Itz K l1 l2) D g tb σ H:=
 XY (n:=xs.length) Pv h0 (fun i σ H hi p=>⟨fun h=>⟨xs,ys,xs[i],ys[i],(hl i σ H hi p).1,(hl i σ H hi p).2,by simp[h],by simp[show i<ys.length by lia]⟩,fun h=>⟨xs,ys,(hl i σ H hi p).1,(hl i σ H hi p).2,.inl h⟩⟩) (fun i v σ H H' hi p y=>by
 obtain⟨T,x,y,rfl,hT,rfl,hx,hy⟩:=y
 exact hs i x y T σ H (hx xs (hl i σ H (R9 hi) p).1) (hy ys (hl i σ H (R9 hi) p).2) hT p) hd
theorem OK  (h:i<ns.length):ns.getD i 0∈ns:=by
 rw[Rl,Rf h]
 exact T2 h
theorem KA {x:Int} (h:x∈ns):∃ j,j<ns.length∧ns.getD j 0=x:=by
 obtain⟨j,hj,e⟩:=Tz h
 exact⟨j,hj,by rw[Rl,Rf hj];exact e⟩
theorem Fy (f:Nat→Int):∀ k,V2 (fun i j=>decide (f i > f j)) k≤k∧∀ j,j≤k→f (V2 (fun i j=>decide (f i > f j)) k) ≥ f j
 | 0=>⟨Q7 _,fun j hj=>by rw[Nat.le_zero.mp hj];exact Tg _⟩
 | k + 1=>by
  obtain⟨h1,h2⟩:=Fy f k
  by_cases hb:f (k + 1) > f (V2 (fun i j=>decide (f i > f j)) k)
  .have e:V2 (fun i j=>decide (f i > f j)) (k + 1)=k + 1:=by simp[V2,hb]
   rw[e]
   refine⟨Q7 _,fun j hj=>?_⟩
   rcases Sm j (k + 1) with z|z
   .have:=h2 j (by lia);lia
   .rw[show j=k + 1 by lia];exact Tg _
  .have e:V2 (fun i j=>decide (f i > f j)) (k + 1)=V2 (fun i j=>decide (f i > f j)) k:=by simp[V2,hb]
   rw[e]
   refine⟨by lia,fun j hj=>?_⟩
   rcases Sm j (k + 1) with z|z
   .exact h2 j (by lia)
   .rw[show j=k + 1 by lia];lia
section
variable {wr:List F'}{P:Nat→L'→Prop}{St:Nat→U6→Prop}
end
section
variable {wr:List F'}{P:Nat→L'→Prop}{St:Nat→U6→Prop}
theorem LY (kw:List (C'×L')) (W:Za prog w A.in1 I fp wr n P St) (bt:Nat→Nat→Bool) (my:CmpOf prog w A.in1 .Gt P bt) (S:F') (ic:S∉fp) :
  ∀ (k j:Nat) (s:UG) (vb:L') (c:Nat),n - (j + 1)=k→j + 1≤n→St (j + 1) s.heap→P (V2 bt j) vb→s.heap.get? S=f' { cls:=.type "list",dict:=i',data:=.seq #[vb,vb] c,slots:=#[] } →
  (∀ v h' tk,P (V2 bt (n - 1)) v→(∀ b o,b∉wr→b≠S→s.heap.get? b=f' o→h'.get? b=f' o)→R (.ok (.ret v)) { s with heap:=h',toks:=tk }) →
  Wj (UD prog w) A (.builtin "max.loop" ⟨[.ref I,.none,.ref S],kw⟩) R s:=by
 have tf:S∉wr:=fun h=>ic (W.sub _ h)
 have oG:(toString "max"++toString ".loop":String)="max.loop":=by decide
 intro k
 induction k with
 | zero=>
  intro j s vb c hk hj dU sD hS hR
  have cB:j + 1=n:=by lia
  refine X6 Qbb ?_
  rw[Yp Yr _]
  refine(show M' _ A.in1 (Y6 (.ref S) >>= _) _ _ s from mT (RU hS O ?_))
  refine(show M' _ A.in1 (tryCatch (Vs (.ref I)) _ >>= _) _ _ s from mT (SC (W.done s _ _ (cB ▸ dU) fun h' tk dZ=>?_)))
  refine(show M' _ A.in1 (Yy S (fun _=>#[]) >>= _) _ _ _ from mT (Sf (dZ S _ tf hS) O (mT (SB (Q5 ?_)))))
  exact hR vb _ tk (by rw[← cB];exact sD) fun b o jS kr e=>(Ri _ _ (UM kr)).trans (dZ b o jS e)
 | succ k ih=>
  intro j s vb c hk hj dU sD hS hR
  have bZ:j + 1<n:=by lia
  refine X6 Qbb ?_
  rw[Yp Yr _]
  refine(show M' _ A.in1 (Y6 (.ref S) >>= _) _ _ s from mT (RU hS O ?_))
  refine(show M' _ A.in1 (tryCatch (Vs (.ref I)) _ >>= _) _ _ s from mT (SC (W.item (j + 1) s _ _ bZ dU fun v h' tk hP iC dZ=>?_)))
  have hV:=dZ S _ tf hS
  refine(show M' _ A.in1 (tryCatch (Xp [v,v] (richCompare .Gt v vb >>= _)) _ >>= _) _ _ _ from mT (SC (RC (mT (my (j + 1) (V2 bt j) v vb _ _ _ hP sD ?_)))))
  refine mT (RC (R7 (mT (SB (Q5 ?_)))))
  cases hb:bt (j + 1) (V2 bt j) with
  | true=>
   simp only[WE]
   refine mT (Sf hV O (mT (SB ?_)))
   rw[oG]
   refine Q5 ⟨Xm Yr _,ih (j + 1) _ v _ (by lia) bZ (W.frame _ _ _ iC fun b vT o e=>(Ri _ _ (fun h:S=b=>ic (by rw[h];exact vT))).trans e) (by simp only[V2,hb,WE];exact hP) (Rw _ hV O) fun v' eC jr jO jz=>?_⟩
   exact hR v' eC jr jO fun b o jS kr e=>jz b o jS kr ((Ri _ _ (UM kr)).trans (dZ b o jS e))
  | false=>
   simp only[RO,VO]
   refine mT (SB ?_)
   rw[oG]
   exact Q5 ⟨Xm Yr _,ih (j + 1) _ vb c (by lia) bZ iC (by simp only[V2,hb,RO,VO];exact sD) hV fun v' eC jr jO jz=>hR v' eC jr jO fun b o jS kr e=>jz b o jS kr (dZ b o jS e)⟩
theorem K6 (kw:List (C'×L')) (W:Za prog w A.in1 I fp wr n P St) (bt:Nat→Nat→Bool) (my:CmpOf prog w A.in1 .Gt P bt) (S:F') (ic:S∉fp) (hn:0<n) (dU:St 0 s.heap)
  (hS:s.heap.get? S=f' { cls:=.type "list",dict:=i',data:=.seq #[] c,slots:=#[] })
  (hR:∀ v h' tk,P (V2 bt (n - 1)) v→(∀ b o,b∉wr→b≠S→s.heap.get? b=f' o→h'.get? b=f' o)→R (.ok (.ret v)) { s with heap:=h',toks:=tk }) :
  Wj (UD prog w) A (.builtin "max.loop" ⟨[.ref I,.none,.ref S],kw⟩) R s:=by
 have tf:S∉wr:=fun h=>ic (W.sub _ h)
 have oG:(toString "max"++toString ".loop":String)="max.loop":=by decide
 refine X6 Qbb ?_
 rw[Yp Yr _]
 refine(show M' _ A.in1 (Y6 (.ref S) >>= _) _ _ s from mT (RU hS O ?_))
 refine(show M' _ A.in1 (tryCatch (Vs (.ref I)) _ >>= _) _ _ s from mT (SC (W.item 0 s _ _ hn dU fun v h' tk hP iC dZ=>?_)))
 have hV:=dZ S _ tf hS
 refine(show M' _ A.in1 (Yy S (fun _=>#[v,v]) >>= _) _ _ _ from mT (Sf hV O ?_))
 rw[oG]
 exact Q5 ⟨Xm Yr _,LY kw W bt my S ic _ 0 _ v _ O hn (W.frame _ _ _ iC fun b vT o e=>(Ri _ _ (fun h:S=b=>ic (by rw[h];exact vT))).trans e) hP (Rw _ hV O) fun v' eC jr jO jz=>hR v' eC jr jO fun b o jS kr e=>jz b o jS kr ((Ri _ _ (UM kr)).trans (dZ b o jS e))⟩
theorem KC (W:Za prog w A.in1 I fp wr 0 P St) (S:F') (ic:S∉fp){nm:C'}{d:L'} (dU:St 0 s.heap) (hS:s.heap.get? S=f' { cls:=.type "list",dict:=i',data:=.seq #[] c,slots:=#[] })
  (hR:∀ h' tk,(∀ b o,b∉wr→s.heap.get? b=f' o→h'.get? b=f' o)→R (.ok (.ret d)) { s with heap:=h',toks:=tk }) :
  Wj (UD prog w) A (.builtin "max.loop" ⟨[.ref I,.none,.ref S],[(nm,d)]⟩) R s:=by
 refine X6 Qbb ?_
 rw[Yp Yr _]
 refine(show M' _ A.in1 (Y6 (.ref S) >>= _) _ _ s from mT (RU hS O ?_))
 refine(show M' _ A.in1 (tryCatch (Vs (.ref I)) _ >>= _) _ _ s from mT (SC (W.done s _ _ dU fun h' tk dZ=>?_)))
 exact mT (Sk (Q5 (hR h' tk dZ)))
end
variable {P q:Vz}{a body:UY}{ah:Array L'}{fo ol:UZ}{i:Int}{key:V→Int}{nn:Nat}{r:F'}{ta:TA}{vs:List L'}
theorem LN (a v:L'):argsOk "max" ⟨[a],[(UI "default",v)]⟩:=by unfold argsOk;kernel_rfl
theorem Kt {jx:Vx} (hg:Gl X "max") (hm:X.mg "max"=i') (ha:PA X [a] ta)
  (hs:Vq pos (UU [a] X.env)=(K',UV a X.env)::Vq pos (UU [] X.env):=by rfl) (hp:(Vq pos (UU [a] X.env)).any (·.1)=K':=by rfl) (Hh:(Xf pos (Xd [⟨f' "default",.Constant (.int i) j aw,jx⟩] X.env)).all (·.1.isSome)=B':=by rfl)
  (IQ:(Xf pos (Xd [⟨f' "default",.Constant (.int i) j aw,jx⟩] X.env)).any (·.1.isNone)=K':=by rfl) (GQ:∀ u:L',((Xf pos (Xd [⟨f' "default",.Constant (.int i) j aw,jx⟩] X.env)).filterMap (·.1)).zip [u]=[(UI "default",u)]:=by intro u;rfl) :
  PE X (.Call (.Name "max" p) [a] [⟨f' "default",.Constant (.int i) j aw,jx⟩] pos) (fun σ H Q=>ta σ H fun vs H1=>∃ q,∃ ns:List Int,vs=[.ref q]∧P' X.K H1 q (ns.map V.int)∧(ns=[]→Q (.int i) H1)∧∀ m∈ns,(∀ x∈ns,x≤m)→Q (.int m) H1):=by
 intro aa s σ H Q I h
 refine RQ (jM I hg hm QhO ?_)
 refine Qoi (UP (ha pos aa s σ H _ I h) fun us s1=>L2.U1 fun vs H1 I1 r1 aX=>?_) hs hp Hh IQ
 obtain⟨l,ns,e,q1,k0,k1⟩:=aX
 subst e
 obtain⟨u,rfl,ru⟩:=gX r1
 obtain rfl:u=UQ l:=ru
 refine Qog (Us (Qof ?_))
 rw[GQ]
 obtain⟨ah,rv,pl,_⟩:=I1.list q1
 obtain⟨cs,cU,ch⟩:=I1.hd.chain
 have bZ:l<s1.heap.objs.size:=by obtain⟨o,e,_⟩:=pl.isList;exact Q6 e
 have lL:s1.heap.objs.size∉cs:=fun z=>Ry _ (ch.lt _ z)
 have av:ah.length=ns.length:=by rw[← rv.length,Q3]
 have oG:(toString "max"++toString ".loop":String)="max.loop":=by decide
 refine kmk_tree PySem.F.kind_max PySem.F.plain_max PySem.F.entry_max (LN _ _) ?_
 refine(show M' _ _ (Qen "max" ["key","default"] 0 ⟨[],[(UI "default",_)]⟩ >>= _) _ _ _ from mT (T9 (show Qen "max" ["key","default"] 0 ⟨[],[(UI "default",_)]⟩=pure [i',f' _] from rfl) ?_))
 refine mT (Q5 ?_)
 refine mT (SA (s:={ s1 with toks:=s1.toks + 1 }) pl.isList ?_)
 refine mT (wpAny_newList ?_ (RY _))
 rw[oG]
 have hz:(s1.heap.push { cls:=.type "list_iterator",data:=.fields #[.ref l,.int 0 0] }).objs.size=s1.heap.objs.size + 1:=RE ..
 have W:=rN (prog:=X.prog) (w:=X.w) (A:=X.A.in1) cU s1.heap.objs.size l (Rb bZ) lL ah.toArray
 have ic:(s1.heap.push { cls:=.type "list_iterator",data:=.fields #[.ref l,.int 0 0] }).objs.size∉s1.heap.objs.size::l::cs:=by
  rw[hz]
  intro z
  rcases RS.mp z with z|z
  .exact UR z (Sa (Sb _))
  .rcases RS.mp z with z|z
   .exact UR z (Sa (R0 bZ))
   .exact UR (ch.lt _ z) (Qbn.mpr (RJ _))
 have iX:((s1.heap.push { cls:=.type "list_iterator",data:=.fields #[.ref l,.int 0 0] }).push (seqObj "list" #[] 0)).IsListIter s1.heap.objs.size l 0∧((s1.heap.push { cls:=.type "list_iterator",data:=.fields #[.ref l,.int 0 0] }).push (seqObj "list" #[] 0)).IsList l ah.toArray∧Vc ((s1.heap.push { cls:=.type "list_iterator",data:=.fields #[.ref l,.int 0 0] }).push (seqObj "list" #[] 0)) cs:=
  ⟨⟨_,Q4 _ (Ra _ rfl),rfl,rfl⟩,(pl.isList.push _).push _,ch.mono fun b o _ e=>Q4 _ (Q4 _ e)⟩
 refine Q5 ⟨Xm Yr _,?_⟩
 have cQ:∀ (h':U6),(∀ b o,b∉[s1.heap.objs.size]→b≠(s1.heap.push { cls:=.type "list_iterator",data:=.fields #[.ref l,.int 0 0] }).objs.size→((s1.heap.push { cls:=.type "list_iterator",data:=.fields #[.ref l,.int 0 0] }).push (seqObj "list" #[] 0)).get? b=f' o→h'.get? b=f' o)→∀ b o,s1.heap.get? b=f' o→h'.get? b=f' o:=fun h' hk b o e=>by
  have lt:=Q6 e
  refine hk b o (fun z=>?_) (fun z=>?_) (Q4 _ (Q4 _ e))
  .rw[Vb.mp z] at lt;exact Ry _ lt
  .rw[z,hz] at lt;exact Ry _ (UA lt)
 by_cases hn:ns=[]
 .subst hn
  have e0:ah=[]:=Qch.mp (by rw[av];rfl)
  subst e0
  exact KC W _ ic iX (Ra _ O) fun h' tk hk=>⟨.int i,H1,I1.kept (cQ h' fun b o h1 _ e=>hk b o h1 e),⟨_,O⟩,k0 O⟩
 .have mO:0<ns.length:=List.length_pos_iff.mpr hn
  refine K6 _ W (fun i j=>decide (ns.getD i 0 > ns.getD j 0)) (CmpOf.ints_gt (fun i=>ns.getD i 0) fun i v hv=>yI rv (by simpa using hv)) _ ic (by simp;lia) iX (Ra _ rfl) fun v h' tk hv hk=>?_
  have cW:ah.toArray[V2 (fun i j=>decide (ns.getD i 0 > ns.getD j 0)) (ah.toArray.size - 1)]?=f' v:=hv
  rw[List.getElem?_toArray] at cW
  obtain⟨t,rfl⟩:=yI rv cW
  obtain⟨b1,b2⟩:=Fy (fun i=>ns.getD i 0) (ah.toArray.size - 1)
  have e1:ah.toArray.size=ns.length:=by simp[av]
  rw[e1] at b1 b2
  refine⟨.int _,H1,I1.kept (cQ h' hk),⟨_,O⟩,?_⟩
  rw[e1]
  exact k1 _ (OK (by lia)) fun x hx=>by
   obtain⟨j,hj,rfl⟩:=KA hx
   exact b2 j (by lia)
def QhU (K:R'):V→V→Hp→VK→Prop:=fun o i H Q=>∃ p xs k v,o=.ref p∧i=.int k∧P' K H p xs∧0≤k∧xs[k.toNat]?=f' v∧Q v H
theorem yX:Qc8 X (QhU X.K):=by
 intro aa s σ H o i ov iv Q I ro ri h
 obtain⟨p,xs,k,v,rfl,rfl,hq,h0,hv,q⟩:=h
 cases ro
 obtain⟨t,rfl⟩:=ri
 obtain⟨ah,r,pl,hz⟩:=I.list hq
 obtain⟨u,hu,ru⟩:=r.get hv
 have h1:=(VD.mp hv).1
 have hl:=r.length
 have hn:=mf
 exact wpAny_getItem_list pl.isList h0 (by lia) (by simpa using hu) ⟨v,H,I,ru,q⟩
def Qdt (K:R') (qU:Bool):R2:=fun x y H Q=>∃ p ds xs d,y=.ref p∧P' K H p xs∧bv K H ds xs∧VC K H d x∧fj 50 ds∧Q (.bl (if qU then !(ds.any fun e=>VN e d) else ds.any fun e=>VN e d)) H
open Classical in
theorem Inv.QhV (I:Inv X aa σ H s){ds:List Dt}{ah:List L'}{d:Dt}{x:V} (h:bv X.K H ds xs) (rv:aB xs ah) (hx:VC X.K H d x) (rx:aD x v) (hd:fj 50 ds) (hu:A.units + 50<Vt) :
  ∃ f:L'→Bool,(∀ u∈ah,XT A s u v (f u))∧ah.any f=ds.any fun e=>VN e d:=by
 let f:L'→Bool:=fun u=>decide (∃ (j:Nat) (e:Dt),ah[j]?=f' u∧ds[j]?=f' e∧VN e d=B')
 have hl:ds.length=ah.length:=h.length.trans rv.length
 have one:∀ (j:Nat) (u:L') (e:Dt),ah[j]?=f' u→ds[j]?=f' e→f u=VN e d:=fun j u e h1 h2=>by
  show decide _=_
  rw[SL,RI]
  constructor
  .rintro⟨j',e',gL,iF,h3⟩
   obtain⟨y,hy,dy⟩:=h.get h2
   obtain⟨y',cX,Gw⟩:=h.get iF
   obtain⟨u1,jU,r1⟩:=rv.get hy
   obtain⟨u2,Bv,r2⟩:=rv.get cX
   rw[h1] at jU
   rw[gL] at Bv
   cases jU
   cases Bv
   rw[r1.inj r2] at dy
   rw[I.QaA dy Gw]
   exact h3
  .intro h3
   exact⟨j,e,h1,h2,h3⟩
 refine⟨f,fun u iJ=>?_,?_⟩
 .obtain⟨j,hj,e⟩:=Tz iJ
  have h1:ah[j]?=f' u:=by rw[Rf hj,e]
  obtain⟨e',dN⟩:=jH (l:=ds) (j:=j) (by lia)
  obtain⟨y,hy,dy⟩:=h.get dN
  obtain⟨u1,jU,r1⟩:=rv.get hy
  rw[h1] at jU
  cases jU
  rw[one j u e' h1 dN]
  exact I.QbJ dy hx r1 rx (hd.get dN) hu
 .rw[SL,Qaf,Qaf]
  constructor
  .rintro⟨u,iJ,hf⟩
   obtain⟨j,e,h1,h2,h3⟩:=Rv hf
   exact⟨e,Rp h2,h3⟩
  .rintro⟨e,he,h3⟩
   obtain⟨j,hj,e2⟩:=Tz he
   have h2:ds[j]?=f' e:=by rw[Rf hj,e2]
   obtain⟨u,iJ⟩:=jH (l:=ah) (j:=j) (by lia)
   exact⟨u,Rp iJ,by rw[one j u e iJ h2];exact h3⟩
theorem NQ (hu:X.A.units + 64<Vt):VF X (Wh .NotIn) (Qdt X.K B'):=by
 intro aa s σ H x y v u Q I rx ry h
 obtain⟨p,ds,xs,d,rfl,hq,hd,hx,dl,q⟩:=h
 cases ry
 obtain⟨ah,r,pl,hz⟩:=I.list hq
 obtain⟨f,h1,h2⟩:=I.QhV (A:=X.A.in1) hd r hx rx dl (by show X.A.units + 1 + 50<Vt;lia)
 refine Qe6 f pl.isList (fun w hw=>h1 w (by simpa using hw)) ⟨.bl _,H,I,O,?_⟩
 rw[show ah.toArray.any f=ah.any f by simp,h2]
 exact q
theorem NN {K:R'} (hK:X.K=K) (hu:X.A.units + 64<Vt):VF X (Wh .NotIn) (Qdt K B'):=hK ▸ NQ hu
def OR:V→List V→Hp→VK→Prop:=fun x vs H Q=>∃ l xs i y,x=.ref l∧vs=[.int i,y]∧H l=f' (.lst xs)∧0≤i∧i≤xs.length∧xs.length<S'∧Q .UO (upd H l (.lst (xs.take i.toNat++y::xs.drop i.toNat)))
theorem EI:MtM X "list.insert" OR:=by
 intro aa s σ H x vs v us Q I rx rv h
 obtain⟨l,xs,i,y,rfl,rfl,hH,h0,h1,hz,q⟩:=h
 cases rx
 obtain⟨u,w',rfl,⟨t,rfl⟩,ru⟩:=nJ rv
 obtain⟨z,ah,n,r,hl,e⟩:=I.Yk hH
 have hf:Qcb i=B':=by
  unfold Qcb
  rw[Q9] at hz
  simp only[Rn,Sq]
  constructor <;> lia
 refine X9 Qcv ⟨_,e,O⟩ F.entry_list_insert (F.args_list_insert_3 _ _ _) (AutoSeq1.list_insert_list_int_val_1 l ah.toArray n i t w' (by simp[hf]) (by rw[Re];lia)) ⟨e,?_⟩
 refine⟨.UO,_,I.Qay (its':=ah.take i.toNat++w'::ah.drop i.toNat) hH e ?_ ((r.take _).append (.cons ru (r.drop _))) ?_,O,q⟩
 .show(ah.toArray.extract 0 (if i<0 then(i + (ah.toArray.size:Int)).toNat else min i.toNat ah.toArray.size)).push w'++ah.toArray.extract (if i<0 then(i + (ah.toArray.size:Int)).toNat else min i.toNat ah.toArray.size)=_
  rw[UF (by lia),Re,Ts (by lia)]
  apply Array.toList_inj.mp
  simp
  exact RX (by simp)
 .rw[Ro,Rh,Rm,SE]
  lia
theorem none_of  (s:ae H H') (h:H' r=i'):H r=i':=by
 cases e:H r with
 | none=>rfl
 | some o=>
  rw[s _ _ e] at h
  cases h
theorem du {o:HO} (nd:H d=i') (s:ae H H'):ae H (upd H' d o):=fun b u e=>by
 rw[aj (aq e nd)]
 exact s b u e
section
variable {K:R'} (hK:X.K=K)
include hK
def QhW (K:R'):List V→Hp→VK→Prop:=fun xs H Q=>∃ a C dd vc c b,xs=[.ref a,vc]∧Vo H a C dd∧Yl H dd∧V' K C∧(∀ u,aD vc u→u=c)∧UE K (.ref C) c=f' b∧Q (.bl b) H
theorem OY:fU X (.builtin "isinstance") (QhW K):=by subst hK;exact io
end
theorem MU:Xn (.type "list") "keys"=pure i':=Qbh (by kernel_rfl)
theorem EL {α:Type}{o:L'}{BB:C'}{Q:α→UG→Prop} (hd:Hd A s.heap)
  (h:∀ h' tk e,(∀ b ob,s.heap.get? b=f' ob→h'.get? b=f' ob)→(∃ o',h'.get? e=f' o'∧o'.cls=.type "AttributeError")→E (.ref e) { s with heap:=h',toks:=tk }) (hm:BB.length≤S':=by size_fits) :
  M' (UD prog w) A (raiseAttrError o name BB:V3 α) Q E s:=by
 unfold raiseAttrError
 refine mT (wpAny_mkStr (mT ?_) hm)
 unfold newExc newTuple
 refine mT (Sz ?_ (by size_fits))
 refine mT (m:=Qbj _ _) (T9 (a:=Vk) (by simp only[Qbj,attrError_no_first];rfl) ?_)
 rw[ownMembersOf_AttributeError]
 refine Sz ?_ (by size_fits)
 obtain⟨hp,g,d,tk,os⟩:=s
 have f1:=Qcx
 repeat (any_goals (first|assumption|wp_step))
 dsimp only
 have iK:∀ b ob,hp.get? b=f' ob→b<hp.objs.size + 1:=fun b ob q=>R0 (Q6 q)
 refine tW ?_ (Rw _ (Ra _ O) O) O (by simp) fun h' o' i8 k' e' c' _ _ _ _ _=>
  h h' _ _ (fun b ob q=>k' b ob ?_ ((Ri _ _ ?_).trans (Q4 _ (Q4 _ q)))) ⟨o',e',c'⟩
 .rcases hd with hn|⟨a,cs,ha,c⟩
  .exact .inl hn
  .have lt:∀ b∈a::cs,b<hp.objs.size:=c.lt
   refine .inr ⟨a,cs,ha,c.mono fun b ob hb q=>(Ri _ _ ?_).trans (Q4 _ (Q4 _ q)),fun z=>?_⟩
   .simp only[RE]
    exact Sa (iK b ob q)
   .have:=lt _ z
    simp only[RE] at this
    exact UR (Rq this (RJ _)) (Ry _)
 .simp only[RE]
  exact Rb (iK b ob q)
 .simp only[RE]
  exact Sa (iK b ob q)
theorem Mc {tk:VY}{Q:Fin→UG→Prop} (hd:Hd A s.heap) (ho:s.heap.get? l=f' ol) (hc:ol.cls=.type "list") (ow:ol.dict=i') (m9:ol.data=.seq ah nn)
  (h:∀ h' tk e,(∀ b ob,s.heap.get? b=f' ob→h'.get? b=f' ob)→(∃ o',h'.get? e=f' o'∧o'.cls=.type "AttributeError")→E (.ref e) { s with heap:=h',toks:=tk }) :
  M' (UD prog w) A (W4.«object.__getattribute__» ⟨[.ref l,.str "keys" tk],[]⟩) Q E s:=by
 have hT:s.TypeIs (.ref l) "list":=⟨_,ho,hc⟩
 have f4:=MU
 unfold W4.«object.__getattribute__»
 obtain⟨hp,g,d,iG,os⟩:=s
 obtain⟨oc,od,QU,eS⟩:=ol
 dsimp only at hc ow m9
 subst hc ow m9
 repeat (any_goals (first|assumption|wp_step))
 exact EL hd h (attrMsg_fits (by decide +kernel) (by size_fits))
theorem MO  (hd:Hd A s.heap) (ho:s.heap.get? l=f' ol) (hc:ol.cls=.type "list") (ow:ol.dict=i') (m9:ol.data=.seq ah nn)
  (h:∀ h' tk,(∀ b ob,s.heap.get? b=f' ob→h'.get? b=f' ob)→Q i' { s with heap:=h',toks:=tk }) :
  M' (UD prog w) A (ZL (.ref l) "keys") Q E s:=by
 unfold ZL QcV
 obtain⟨hp,g,d,iG,os⟩:=s
 have hT:(⟨hp,g,d,iG + 1,os⟩:UG).TypeIs (.ref l) "list":=⟨_,ho,hc⟩
 have f1:=Qcx
 have f2:=QaX.lookup
 have f3:=QaX.bind (.ref l)
 have f5:Xn (.type "list") "__getattr__"=pure i':=Qbh (by kernel_rfl)
 unfold Qbr
 repeat (any_goals (first|assumption|wp_step))
 refine Zt QaX.plain F.entry_list_ga (QaX.check _ _ _ _ _ _ _ _ hT (F.args_list_getattribute_2 _ _) (Mc (s:=⟨hp,g,d,iG + 1,os⟩) hd ho hc ow m9 fun h' kI e k' ⟨o',e1,e2⟩=>?_))
 dsimp only
 show M' _ _ (Qa6 _ _ _ _ _ _ _) _ _ _
 unfold Qa6
 have hE:(⟨h',g,d,kI,os⟩:UG).TypeIs (.ref e) "AttributeError":=⟨_,e1,e2⟩
 repeat (any_goals (first|assumption|wp_step))
 exact h h' kI k'
theorem uB:Qbt table "dict.update.loop"=f' W4.«dict.update.loop»:=Qf5 (by kernel_rfl)
theorem lZ:plainId "dict.update.loop"=B':=by decide +kernel
section
variable {κ:Type} [DecidableEq κ] {knd:KeyKind prog w κ}{wr:List F'}{G:Array Qbv→Array Qbv→Prop}{P:Nat→L'→Prop}{St:Nat→UG→Prop}
theorem OC (W:WalksS prog w A.in1 I fp wr G n P St) (lJ:d∉fp) (hn:n≤1000) (s0:UG) (ks:Nat→κ) (vs:Nat→L') (kvs:Nat→List (κ×L')) (res:L')
  (gT:∀ i v,P i v→∃ t key,v=.ref t∧s0.heap.IsTuple t #[key,vs i]∧t∉d::wr∧knd.is (ks i) key=B')
  (hs:∀ i,kvs (i + 1)=Xr (kvs i) (ks i) (vs i)) (hl:∀ i,(kvs i).length≤i + 1000) :
  ∀ (k i:Nat) (s:UG),n - i=k→i≤n→St i s→Moved (d::wr) G s0 s→s.heap.DictOf knd d (kvs i) →
   (∀ s',Moved (d::wr) G s0 s'→s'.heap.DictOf knd d (kvs n)→R (.ok (.ret res)) s') →
   Wj (UD prog w) A (.builtin "dict.update.loop" ⟨[.ref d,.ref I,.int i 0,res],[]⟩) R s:=by
 have Aq:d∉wr:=fun h=>lJ (W.sub _ h)
 have qd:∀ b∈wr,b∈d::wr:=fun b hb=>Rc _ hb
 intro k
 induction k with
 | zero=>
  intro i s hk hi dU m0 hD hR
  have cB:i=n:=by lia
  subst cB
  refine X6 uB ?_
  rw[Yp lZ _]
  show M' _ A.in1 (Vs (.ref I) >>= _) _ _ s
  refine mT (W.done s _ _ dU fun s' hm=>?_)
  show M' _ A.in1 (pure () >>= fun _=>ret res) _ _ s'
  exact mT (Q5 (Q5 (hR s' (QcL W.gtrans m0 (hm.mono qd)) (by
   obtain⟨o,es,ep,ho,bb⟩:=hD
   exact⟨o,es,ep,hm.heap d _ Aq ho,bb⟩))))
 | succ k ih=>
  intro i s hk hi dU m0 hD hR
  have bZ:i<n:=by lia
  refine X6 uB ?_
  rw[Yp lZ _]
  show M' _ A.in1 (Vs (.ref I) >>= _) _ _ s
  refine mT (W.item i s _ _ bZ dU fun v s' hP iC hm=>?_)
  obtain⟨t,key,rfl,⟨ot,sX,JR,nt,Gp⟩,HB,d7⟩:=gT i v hP
  have m1:Moved (d::wr) G s0 s':=QcL W.gtrans m0 (hm.mono qd)
  have wC:s'.heap.DictOf knd d (kvs i):=by
   obtain⟨o,es,ep,ho,bb⟩:=hD
   exact⟨o,es,ep,hm.heap d _ Aq ho,bb⟩
  have pQ:=m1.heap t _ HB sX
  have hT:s'.TypeIs (.ref t) "tuple":=⟨_,pQ,JR⟩
  dsimp only
  refine mT (RC (mT (SC ?_)))
  unfold Qew
  refine mT (SG hT ?_)
  rw[UH (by decide)]
  refine mT (RU pQ Gp (Q5 ?_))
  show M' _ _ (Xp [key,vs i] (dictSet d key (vs i))) _ _ s'
  refine RC (Up (knd:=knd) d7 wC (fun h' cY sW=>?_) (by rw[Q9];have:=hl i;lia))
  have e1:kvs (i + 1)=Xr (kvs i) (ks i) (vs i):=hs i
  rw[← e1] at cY
  refine Q5 ⟨Xm lZ _,ih (i + 1) _ (by lia) bZ (W.frame _ s' _ _ iC (RJ _) fun b hb o e=>?_) ?_ cY hR⟩
  .rw[sW.2 b (fun h:b=d=>lJ (by rw[← h];exact hb))];exact e
  .refine m1.then_heap (RJ _) fun b o hb e=>?_
   rw[sW.2 b (fun h:b=d=>hb (by rw[h];exact Rr))];exact e
end
section
variable {κ:Type} [DecidableEq κ] {knd:KeyKind prog w κ}
theorem Nl {Q:L'→UG→Prop} (hc:VJ A cs) (ch:Vc s.heap cs) (ho:s.heap.get? l=f' ol) (mC:ol.cls=.type "list") (ow:ol.dict=i') (m9:ol.data=.seq ah nn) (hz:ah.size≤1000)
  (ks:Nat→κ) (vs:Nat→L') (kvs:Nat→List (κ×L')) (h0:kvs 0=[]) (hs:∀ i,kvs (i + 1)=Xr (kvs i) (ks i) (vs i)) (hl:∀ i,(kvs i).length≤i)
  (gT:∀ i v,ah[i]?=f' v→∃ t key,v=.ref t∧s.heap.IsTuple t #[key,vs i]∧knd.is (ks i) key=B')
  (h:∀ h' tk,h'.DictOf knd s.heap.objs.size (kvs ah.size)→(∀ b o,s.heap.get? b=f' o→h'.get? b=f' o)→Q (.ref s.heap.objs.size) { s with heap:=h',toks:=tk }) :
  M' (UD prog w) A (call (.type "dict") [.ref l]) Q E s:=by
 refine Qbk (Q₁:=fun obj s₁=>obj=.ref s.heap.objs.size∧s₁={ s with heap:=s.heap.push { cls:=.type "dict",data:=.dict #[] } }) QfH (Qfg _) QfC (Qf4 _ ⟨O,O⟩) ?_
 rintro obj s₁ ⟨rfl,rfl⟩
 have de:(s.heap.push { cls:=.type "dict",data:=.dict #[] }).DictOf knd s.heap.objs.size []:=Qcr s.heap
 have i6:(s.heap.push { cls:=.type "dict",data:=.dict #[] }).get? l=f' ol:=Q4 _ ho
 have lU:Vc (s.heap.push { cls:=.type "dict",data:=.dict #[] }) cs:=ch.mono fun b o _ e=>Q4 _ e
 have lt:∀ b∈cs,b<s.heap.objs.size:=ch.lt
 have hsz:(s.heap.push { cls:=.type "dict",data:=.dict #[] }).objs.size=s.heap.objs.size + 1:=RE ..
 have keep:∀ b o,s.heap.get? b=f' o→(s.heap.push { cls:=.type "dict",data:=.dict #[] }).get? b=f' o:=fun b o e=>Q4 _ e
 generalize s.heap.push { cls:=.type "dict",data:=.dict #[] }=hp at de i6 lU hsz keep ⊢
 refine⟨de.typeIs,Qfq _ _,?_⟩
 unfold W4.«dict.__init__»
 refine mT ?_
 unfold Qeu
 refine mT (Uj de.typeIs ?_)
 show M' _ _ (pure (s.heap.objs.size,[UQ l])) _ _ _
 refine Q5 ?_
 show M' _ _ (QaU "dict.__init__" s.heap.objs.size (.ref l) [] .none) _ _ _
 unfold QaU
 have hT:Qbe { s with heap:=hp } (.ref l) "list":=⟨_,i6,mC⟩
 refine mT (SG hT ?_)
 rw[UH (by decide)]
 refine mT ?_
 refine MO (s:={ s with heap:=hp }) (VJ.hd (A:=A.in1.in1) hc lU) i6 mC ow m9 fun h2 kI k2=>?_
 have mZ:=k2 _ _ i6
 have bO:h2.IsList l ah:=⟨_,mZ,mC,nn,m9⟩
 have wa:Vc h2 cs:=lU.mono fun b o _ e=>k2 b o e
 rw[UH (show(i':Option L').isNone=B' from rfl)]
 refine mT (Sk ?_)
 refine mT (SA bO ?_)
 have qw:s.heap.objs.size<h2.objs.size:=by
  obtain⟨o,es,ep,hg,_⟩:=de
  exact Q6 (k2 _ _ hg)
 have ll:l<s.heap.objs.size:=Q6 ho
 have W:=(rN (prog:=prog) (w:=w) (A:=A.in1.in1) hc h2.objs.size l (Rb (Tp ll qw)) (fun z=>UR (Tp (lt _ z) qw) (Ry _)) ah).toS
 refine Q5 ⟨Xm lZ _,OC (knd:=knd) (A:=A.in1) W (fun z=>?_) hz _ ks vs kvs .none (fun i v hv=>?_) hs (fun i=>RT (hl i) (RH _ _)) (ah.size - 0) 0 _ O (RY _) ⟨⟨_,Ra _ O,O,O⟩,bO.push _,wa.mono fun b o _ e=>Q4 _ e⟩ ⟨fun _ _ _ e=>e,W.grefl _,O,O,Q7 _⟩ ?_ fun s' hm hD=>?_⟩
 .rcases RS.mp z with z|z
  .exact UR z (Rb qw)
  .rcases RS.mp z with z|z
   .exact UR z (Sa ll)
   .exact Ry _ (lt _ z)
 .obtain⟨t,key,e1,⟨ot,sX,r⟩,hk⟩:=gT i v hv
  have tl:=Q6 sX
  refine⟨t,key,e1,⟨ot,Q4 _ (k2 _ _ (keep _ _ sX)),r⟩,fun z=>?_,hk⟩
  rcases RS.mp z with z|z
  .exact UR z (Rb tl)
  .exact UR (Vb.mp z) (Rb (Tp tl qw))
 .rw[h0]
  obtain⟨o,es,ep,hg,bb⟩:=de
  exact⟨o,es,ep,Q4 _ (k2 _ _ hg),bb⟩
 .obtain⟨h',g',d',iG,tI⟩:=s'
  have eg:g'=s.gens:=hm.gens
  have ed:d'=s.drawn:=hm.drawn
  have eo:tI=s.os:=hm.os
  subst eg;subst ed;subst eo
  refine⟨O,h h' iG hD fun b o e=>hm.heap b o (fun z=>?_) (Q4 _ (k2 _ _ (keep _ _ e)))⟩
  have bl:=Q6 e
  rcases RS.mp z with z|z
  .exact UR z (Rb bl)
  .exact UR (Vb.mp z) (Rb (Tp bl qw))
end
def fw (K:R') (H:Hp):List (Key×V)→List V→Prop
 | [],ys=>ys=[]
 | kv::r,ys=>∃ t kT,ys=.ref t::kT∧UW K H t [kV kv.1,kv.2]∧fw K H r kT
def fR (m:List (Key×V)) (kv:Key×V):List (Key×V):=cg m kv.1 kv.2
def WC (kvs:List (Key×V)):List (Key×V):=kvs.foldl fR []
def stN (us:List (Key×L')):Nat→List (Key×L')
 | 0=>[]
 | i + 1=>Xr (stN us i) (us.getD i (U5 0,.none)).1 (us.getD i (U5 0,.none)).2
theorem xY (us:List (Key×L')):∀ i,(stN us i).length≤i
 | 0=>Q7 _
 | i + 1=>RT (stored_length_le _ _ _) (TX (xY us i))
theorem QbM:∀ (kvs m:List (Key×V)),(kvs.foldl fR m).length≤m.length + kvs.length
 | [],_=>Q7 _
 | kv::r,m=>by
  have h1:=QbM r (fR m kv)
  have h2:=t6 m kv.1 kv.2
  show(r.foldl fR (fR m kv)).length≤_
  unfold fR at h1 ⊢
  rw[Rh]
  lia
theorem CO (I:Inv X aa σ H s):∀ {kvs:List (Key×V)}{ys:List V}{ah:List L'},fw X.K H kvs ys→aB ys ah→∃ us:List (Key×L'),us.length=ah.length∧kvs.length=us.length ∧
  (∀ i v,ah[i]?=f' v→∃ t key,v=.ref t∧s.heap.IsTuple t #[key,(us.getD i (U5 0,.none)).2]∧(b9 X.prog X.w).is (us.getD i (U5 0,.none)).1 key=B') ∧
  ∀ i kv,kvs[i]?=f' kv→kv.1=(us.getD i (U5 0,.none)).1∧aD kv.2 (us.getD i (U5 0,.none)).2
 | [],_,_,h,r=>by
  obtain rfl:_=[]:=h
  cases r
  exact⟨[],O,O,(fun i v hv=>by simp at hv),fun i kv hk=>by simp at hk⟩
 | kv::kvs,_,_,h,r=>by
  obtain⟨t,kT,rfl,ht,h'⟩:=h
  cases r with
  | cons r1 r2=>
   obtain rfl:=(show _=UQ t from r1)
   obtain⟨us,e1,e2,e3,e4⟩:=CO I h' r2
   obtain⟨ti,rv,hT,_⟩:=I.tuple ht
   obtain⟨key,u,rfl,q1,q2⟩:=nJ rv
   refine⟨(kv.1,u)::us,by rw[Rh,Rh,e1],by rw[Rh,Rh,e2],fun i v hv=>?_,fun i Bu hk=>?_⟩
   .cases i with
    | zero=>
     obtain rfl:UQ t=v:=VE hv
     exact⟨t,key,O,hT,iQ q1⟩
    | succ i=>exact e3 i v hv
   .cases i with
    | zero=>
     obtain rfl:kv=Bu:=VE hk
     exact⟨O,q2⟩
    | succ i=>exact e4 i Bu hk
theorem zP {kvs:List (Key×V)}{us:List (Key×L')} (h:∀ i kv,kvs[i]?=f' kv→kv.1=(us.getD i (U5 0,.none)).1∧aD kv.2 (us.getD i (U5 0,.none)).2):∀ i,i≤kvs.length→KV ((kvs.take i).foldl fR []) (stN us i)
 | 0,_=>by rw[SD];exact .nil
 | i + 1,hi=>by
  obtain⟨kv,hk⟩:∃ kv,kvs[i]?=f' kv:=⟨_,Rf (by lia)⟩
  obtain⟨e1,e2⟩:=h i kv hk
  have ih:=zP h i (by lia)
  rw[TQ,hk,Sr]
  show KV (fR ((kvs.take i).foldl fR []) kv) (Xr (stN us i) _ _)
  rw[← e1]
  exact ih.put _ e2
theorem LA:fU X (.type "dict") (fun xs H Q=>∃ p ys kvs,xs=[.ref p]∧P' X.K H p ys∧fw X.K H kvs ys∧kvs.length≤1000∧∀ d,H d=i'→Q (.ref d) (upd H d (.dK (WC kvs)))):=by
 intro aa s σ H xs us Q I r h
 obtain⟨p,ys,kvs,rfl,hq,hP,av,q⟩:=h
 obtain⟨u,rfl,ru⟩:=gX r
 obtain rfl:u=UQ p:=ru
 obtain⟨ah,rv,⟨ol,nn,e1,e2,e3,e4⟩,_⟩:=I.list hq
 obtain⟨us,l1,l2,p1,p2⟩:=CO I hP rv
 obtain⟨cs,cU,ch⟩:=I.hd.chain
 have hz:ah.toArray.size=kvs.length:=by simp[l2,l1]
 refine Nl (knd:=b9 X.prog X.w) cU ch e1 e2 e3 e4 (by rw[hz];exact av) (fun i=>(us.getD i (U5 0,.none)).1) (fun i=>(us.getD i (U5 0,.none)).2) (stN us) O (fun _=>O) (xY us) (fun i v hv=>p1 i v (by simpa using hv)) fun h' tk hD hk=>?_
 have ne:(s.heap.objs.size == We)=K':=(tM (P:=X.prog) (w:=X.w) (H:=H) s.heap I.big).2.1
 have rel:=zP p2 kvs.length (Q7 _)
 rw[Rt] at rel
 rw[hz] at hD
 have z:(WC kvs).length≤S':=by
  have:=QbM kvs []
  have z0:([]:List (Key×V)).length=0:=rfl
  rw[Q9]
  unfold WC
  lia
 refine⟨.ref s.heap.objs.size,_,I.laid (a:=s.heap.objs.size) (o:=.dK (WC kvs)) (t':=tk) (fun b o e=>hk b o e) (Q7 _) ⟨z,ne,_,rel,hD⟩,O,q _ (I.UJ.fresh (Q7 _))⟩
section
open PySem.SeqAt
open AutoSeq1 (wpAny_loadPart')
end
section
variable {gF:UY}
end
section
variable {st:UY}{ts:TE}{p2:Vx}
end
section
open Sem (wp)
end
def alike (c:Int) (l:List Ye):List Ye:=l.filter fun p=>numOf p.1 == c
structure Dn (U0:List Ye) (x Bn:Nat) (l U B C O1:List Ye) (b:Int):Prop where
 arr:l=U++B++C
 org:U0=O1++B++C
 len:U.length + B.length=x
 lb:B.length=Bn + 1
 fil:∀ c,alike c U=(alike c O1).reverse
 eqb:∀ p∈B,numOf p.1=b
 gt:∀ p∈U,b<numOf p.1
 dec:U.Pairwise fun p q=>numOf q.1≤numOf p.1
section
variable {U0 U B C O1:List Ye}{x Bn:Nat}{b:Int}{xs:Array Ye}{p:Ye}
end
section
variable {Ar:VQ}{a₀:Array Ye}{U0:List Ye}
end
section
variable {params:QcZ}{c P:F'}
end
section
variable {P:PySem.Fin→UG→Prop}{D kS:F'}{e1:Nat}
end
def QhX (K:R') (f:F'):Option L':=match K.lookup f with
 | some ⟨_,_,.func fd,_⟩=>f' fd.code
 | _=>i'
structure QhY (K:R') (f P:F'):Prop where
 ex:∃ c,QhX K f=f' (.ref c)∧Qae K c P=B'
 no:K.lookup P=i'
structure LamDef (K:R') (mg:C'→Option L') (x:C') (P:F'):Prop where
 ex:∃ f,mg x=f' (.ref f)∧QhY K f P
section
variable {K:R'}
end
abbrev Tab:=F'×Vx×C'
def sB (ts:List Tab) (H:Hp):Prop:=(∀ t∈ts,H t.1=f' (.Wz t.2.1 t.2.2))∧∀ b u,H b=f' u→(∃ o xs,u=.UT o (.lst xs))∨∃ t∈ts,b=t.1∧u=.Wz t.2.1 t.2.2
def nG:List Tab→Hp→Hp
 | [],H=>H
 | t::ts,H=>upd (nG ts H) t.1 (.Wz t.2.1 t.2.2)
theorem yQ:∀ {ts:List Tab}{H:Hp},(ts.map (·.1)).Nodup→∀ t∈ts,nG ts H t.1=f' (.Wz t.2.1 t.2.2)
 | [],_,_,t,h=>by simp at h
 | q::ts,H,nd,t,h=>by
  rcases RS.mp h with z|z
  .rw[z];exact ag
  .have n:t.1≠q.1:=fun y=>(XD.mp (show(q.1::ts.map (·.1)).Nodup from nd)).1 (Wq.mpr ⟨t,z,y⟩)
   show upd _ _ _ _=_
   rw[aj n]
   exact yQ (XD.mp nd).2 t z
theorem xM:∀ {ts:List Tab}{H:Hp}{b:F'}{u:HO},nG ts H b=f' u→H b=f' u∨∃ t∈ts,b=t.1∧u=.Wz t.2.1 t.2.2
 | [],_,_,_,h=>.inl h
 | q::ts,H,b,u,h=>by
  have h:upd (nG ts H) q.1 (.Wz q.2.1 q.2.2) b=f' u:=h
  by_cases z:b=q.1
  .rw[z,ag] at h
   exact .inr ⟨q,Rr,z,(VE h).symm⟩
  .rw[aj z] at h
   rcases xM h with y|⟨t,h1,h2⟩
   .exact .inl y
   .exact .inr ⟨t,Rc _ h1,h2⟩
theorem EX:∀ {ts:List Tab}{H:Hp}{b:F'},(∀ t∈ts,b≠t.1)→nG ts H b=H b
 | [],_,_,_=>rfl
 | q::ts,H,b,h=>by
  show upd _ _ _ _=_
  rw[aj (h q Rr)]
  exact EX fun t ht=>h t (Rc _ ht)
theorem M3 {K:R'}{mb:C'→Option L'}{k:Nat}{fa a:F'}{s₁:UG}{ts:List Tab}
  (KX:K.In s₁.heap) (AO:s₁.heap.Ns VU mg) (hb:s₁.heap.Ns Y4 mb) (GN:∀ x:C',x≠"__name__"→mb x=V6 x) (xF:s₁.heap.NoLimit)
  (IN:∃ bm ob,mg "__builtins__"=f' (.ref bm)∧bm≠Y4∧s₁.heap.get? bm=f' ob∧ob.cls=.type "module"∧ob.dict=f' Y4∧ob.data=.plain) (hg:s₁.gens=#[])
  (ha:s₁.heap.get? a=f' { cls:=.type "list",data:=.seq vs.toArray }) (hi:Qat vs ns) (hl:ns.length≤S') (hr:bw k Y8)
  (nd:(ts.map (·.1)).Nodup) (pW:∀ t∈ts,s₁.heap.get? t.1=f' (Qcy #[])∧(∃ c,Qae K c t.1=B')∧K.lookup t.1=i')
  (F:∀ base:U6,K.In base→base.Ns VU mg→cE P w K mg base CX k fa fd [x] sp) (ra:∀ (s:UG) (u:L'),Y9 s fd ⟨[u],[]⟩ [(x,u)])
  (jV:∀ H:Hp,sB ts H→P' K H a (ns.map V.int)→sp [.ref a] H (fun v _=>v=.bl B') fun _ _ _=>False)
  (IM:∀ H e s',CX [] H s₁ (fun _ _ _=>False) e s'→False) :
  Wj (UD P w) Y8 (.call (.ref fa) ⟨[.ref a],[]⟩) (fun r s'=>r=.ok (.ret (.bool B'))∧OldK s₁.heap s'.heap∧s'.os=s₁.os∧XO s'.gens) s₁:=by
 have rv:=Cv hi
 have wX:=hi.length
 have p7:∀ H:Hp,(∀ t∈ts,H t.1=f' (.Wz t.2.1 t.2.2))→(∀ b u,H b=f' u→(b=a∧K.lookup a=i'∧u=.UT { cls:=.type "list",data:=.seq vs.toArray } (.lst (ns.map V.int)))∨∃ t∈ts,b=t.1∧u=.Wz t.2.1 t.2.2)→P' K H a (ns.map V.int) →
   Wj (UD P w) Y8 (.call (.ref fa) ⟨[.ref a],[]⟩) (fun r s'=>r=.ok (.ret (.bool B'))∧OldK s₁.heap s'.heap∧s'.os=s₁.os∧XO s'.gens) s₁:=by
  intro H h1 h2 hS
  have hO:sB ts H:=⟨h1,fun b u q=>(h2 b u q).elim (fun z=>.inl ⟨_,_,z.2.2⟩) .inr⟩
  have UJ:Vu P w H s₁.heap:=fun b u q=>by
   rcases h2 b u q with⟨rfl,_,rfl⟩|⟨t,ht,rfl,rfl⟩
   .exact⟨ha,by rw[Q3];exact hl,vs,_,rv,ha⟩
   .exact .inl (pW t ht).1
  have free:∀ {b:F'}{o:UZ},s₁.heap.get? b=f' o→(∀ xs n,o.data≠.seq xs n)→(∀ xs,o.data≠.fields xs)→H b=i':=fun {b o} e n1 n2=>by
   cases q:H b with
   | none=>rfl
   | some u=>
    rcases h2 b u q with⟨rfl,_,_⟩|⟨t,ht,rfl,_⟩
    .rw[ha] at e;cases e
     exact(n1 _ _ O).elim
    .rw[(pW t ht).1] at e;cases e
     exact(n2 _ O).elim
  have sQ:∀ {b:F'}{m:C'→Option L'},s₁.heap.Ns b m→(l8 s₁.heap H).Ns b m:=fun {b m} ⟨o,es,ep,e,d,r⟩=>⟨o,es,ep,zd e (free e (by rw[d];intro _ _ z;cases z) (by rw[d];intro _ z;cases z)),d,r⟩
  have B1:K.In (l8 s₁.heap H):=fun b o e=>zd (KX b o e) (by
   cases q:H b with
   | none=>rfl
   | some u=>
    rcases h2 b u q with⟨rfl,z,_⟩|⟨t,ht,rfl,_⟩
    .rw[z] at e;cases e
    .rw[(pW t ht).2.2] at e;cases e)
  have hM:Mod K mg (l8 s₁.heap H):=⟨B1,sQ AO,⟨mb,sQ hb,GN⟩,let ⟨mc,y1,y2⟩:=xF;⟨mc,sQ y1,y2⟩,by
   obtain⟨bm,ob,a1,a2,a3,a4,a5,a6⟩:=IN
   exact⟨bm,ob,a1,a2,zd a3 (free a3 (by rw[a6];intro _ _ z;cases z) (by rw[a6];intro _ z;cases z)),a4,a5,a6⟩⟩
  have e0:nQ P w K mg (l8 s₁.heap H) Y8 [] s₁ H:=⟨O,hM,fun b o e=>LX e,S8 (OX _ _),trivial,fun b hb=>UR (show b∈([]:List F') from hb) (by simp),UJ,.of_eq hg,.inl rfl⟩
  refine Yv ((F _ B1 (sQ AO)).run Y8 [] s₁ H ⟨[.ref a],[]⟩ [.ref a] [.ref a] _ _ hr e0 (ra s₁ (.ref a)) (.cons O .nil) (jV H hO hS)) fun r s' h=>?_
  cases r with
  | error e=>exact(IM H e s' h).elim
  | ok fl=>
   cases fl with
   | next=>exact VL h
   | brk=>exact VL h
   | cont=>exact VL h
   | ret u=>
    obtain⟨v,H',os,bare,un,pU,r',q⟩:=h
    have q':v=.bl B':=q
    subst q'
    obtain rfl:u=W1 B':=r'
    have no:∀ b:F',b∉VA []:=fun b z=>UR (show b∈([]:List F') from z) (by simp)
    refine⟨O,⟨fun b o e=>?_,fun b o e=>un.there b o e (by simp)⟩,os,bare⟩
    cases q:H b with
    | none=>exact .inl (un.keep b o e q (no b) (by simp))
    | some u=>
     rcases h2 b u q with⟨rfl,_,rfl⟩|⟨t,ht,rfl,rfl⟩
     .obtain⟨y1,_⟩:=UJ _ _ q
      obtain⟨y2,_⟩:=pU _ _ (un.Ww _ _ _ q)
      rw[e] at y1;cases y1
      exact .inl y2
     .obtain⟨g1,⟨c,g2⟩,_⟩:=pW t ht
      rw[e] at g1;cases g1
      rcases pU _ _ (un.WH _ _ _ q) with y|⟨c',oc,xs,tt,_,_,_,y⟩
      .exact .inl y
      .exact .inr (.inl ⟨((PySem.W.codeHd_of_K KX g2).tab e).isCodeTable,O,#[],#[Vp t.2.1.line,Vp t.2.1.col,.ref c'],O,y⟩)
 have apart:∀ t∈ts,a≠t.1:=fun t ht z=>by
  have y:=(pW t ht).1
  rw[← z,ha] at y;cases y
 cases hk:K.lookup a with
 | some o=>
  have e:=KX a o hk
  rw[ha] at e
  cases e
  refine p7 (nG ts fun _=>i') (yQ nd) (fun b u q=>.inr ((xM q).elim (fun z=>by cases z) id)) (.inr ⟨_,vs.toArray,_,hk,rfl,rfl,rfl,by rw[Re,wX];exact hl,by simpa using rv⟩)
 | none=>
  refine p7 (nG ts (upd (fun _=>i') a (.UT { cls:=.type "list",data:=.seq vs.toArray } (.lst (ns.map V.int))))) (yQ nd) (fun b u q=>?_) (.inl (.inr ⟨_,by rw[EX apart];exact ag⟩))
  rcases xM q with z|z
  .by_cases y:b=a
   .rw[y,ag] at z
    exact .inl ⟨y,hk,(VE z).symm⟩
   .rw[aj y] at z;cases z
  .exact .inr z
theorem znM {l:Qbw}{k:Nat}{eE:List C'}{XP:(C'→Option L')→U6→Prop}{YP:Vw→U6→Prop}{d:DefRec}{K:Params→R'}{TS:List F'}
  (hn:l.most=f' n) (mI:n≤S') (lJ:d.params.defaults=[]) (hr:bw k Y8)
  (hY:∀ (w:Vw) (h:U6),YP w h→(K w.params).In h∧∀ P∈TS,h.get? P=f' (Qcy #[]))
  (F:∀ (w:Vw) (mg:C'→Option L') (fa:F') (h:U6),(K w.params).In h→h.Ns VU mg→mg d.name=f' (.ref fa) →
   ∃ (fd:WO) (ts:List Tab) (sp:Sp),(∀ (s:UG) (u:L'),Y9 s fd ⟨[u],[]⟩ [(x,u)])∧(ts.map (·.1)).Nodup∧(∀ t∈ts,t.1∈TS∧(∃ c,Qae (K w.params) c t.1=B')∧(K w.params).lookup t.1=i') ∧
    (∀ (H:Hp) (a:F') (ns:List Int),ns.length≤n→sB ts H→P' (K w.params) H a (ns.map V.int)→sp [.ref a] H (fun v _=>v=.bl B') fun _ _ _=>False) ∧
    ∀ base:U6,(K w.params).In base→base.Ns VU mg→cE l.prog w (K w.params) mg base U8 k fa fd [x] sp) :
  PySem.W.WalkO q eE XP YP l.row.toRowW d [] (fun f vs=>QcM f vs):=by
 refine Att.ziF hn lJ fun w s₀ s₁ mg mb fa o pm cd ce a vs ns G Y ho hd g8 re mV jn av hg=>?_
 obtain⟨KX,tb⟩:=hY w _ Y
 obtain⟨fd,ts,sp,hb,nd,ht,jV,hF⟩:=F w mg fa _ KX G.T.g re
 exact M3 KX G.T.g G.T.b G.T.builtins G.T.nolimit G.T.bmain hg mV jn (RT av mI) hr nd (fun t m=>⟨tb _ (ht t m).1,(ht t m).2⟩) hF hb (fun H hO hS=>jV H a ns av hO hS) fun H e s' z=>z
section
variable {b:UY}{bb:List UY}{ta tb:TE}
def QhZ (K:R') (ta tb:TE):TE:=fun σ H Q=>ta σ H fun x H1=>∃ k,QbB K x H1 k∧if k=B' then Q x H1 else tb σ H1 Q
theorem Qh0 (ha:PE X a ta) (hb:PE X (.BoolOp .Or (b::bb) pos) tb):PE X (.BoolOp .Or (a::b::bb) pos) (QhZ X.K ta tb):=by
 intro aa s σ H Q I h
 refine BoolOp_or (UP (ha aa s σ H _ I h) fun v s1=>L2.U1 fun x H1 I1 r1 aX=>?_)
 obtain⟨k,e,q1⟩:=aX
 refine UP (DH aa s1 σ H1 x v (fun k' H'=>k'=k∧H'=H1) I1 r1 ⟨k,e,O,O⟩) fun c s2 ⟨H2,I2,e1,e2⟩=>?_
 subst e1;subst e2
 cases c with
 | false=>exact hb aa s2 σ H2 Q I2 q1
 | true=>exact⟨x,H2,I2,r1,q1⟩
end
theorem rq  (h1:-(2 ^ 62)≤i) (h2:i≤2 ^ 62):Qep i=B':=by
 unfold Qep
 rw[Rj (by lia),Rj (by lia)]
 rfl
section
variable {es:Array DictEntry}
def jB (kvs:List (Key×V)):List V:=kvs.map fun p=>kV p.1
end
theorem J8 (hc:VJ A cs) (I:F') (hI:I∉cs) (n:Nat):Za prog w A I (I::cs) [I] n (fun i v=>∃ t,v=.int i t) (fun i h=>Y3 h I (i:Nat) ((n:Int) - (i:Nat)) 1∧Vc h cs) where
 sub:=fun b hb=>by simp at hb;simp[hb]
 frame:=fun _ _ _ x hk=>⟨hk I (by simp) _ x.1,x.2.mono fun b o hb e=>hk b (by simp[hb]) o e⟩
 item:=fun i s Q E hi x hQ=>by
  refine T5 x.1 (by lia) fun h' eX b8=>?_
  refine hQ _ h' _ ⟨_,O⟩ ⟨?_,x.2.but hI b8.extBut⟩ fun b o hb e=>b8.extBut b o (fun h=>hb (by simp[h])) e
  rw[show(((i + 1:Nat):Int))=(i:Int) + 1 by lia,show(n:Int) - ((i:Int) + 1)=(n:Int) - (i:Int) - 1 by lia]
  exact eX
 done:=fun s Q E x hQ=>FJ (hc.hd x.2) x.1 (by lia) fun h' dN=>hQ h' s.toks fun b o hb e=>dN b o (fun h=>hb (by simp[h])) e
 self:=fun _ _ _ _ x hQ=>Ub x.1 hQ
theorem Pg  (hc:VJ A cs){u v:VY} (hr:IsRange s.heap r 0 n 1 t u v) (c:Vc s.heap cs) (av:n≤2 ^ 24) (S:F') (res:L') (c₀:Nat) (hS:s.heap.get? S=f' { cls:=.type "list",data:=.seq #[] c₀ }) (qW:S∉cs)
  (hR:∀ h' tk eO c',(∀ b o,b≠S→s.heap.get? b=f' o→h'.get? b=f' o)→h'.get? S=f' { cls:=.type "list",dict:=i',data:=.seq eO c',slots:=#[] }→Qas (fun i v=>∃ t,v=.int i t) eO n→R (.ok (.ret res)) { s with heap:=h',toks:=tk }) :
  M' (UD prog w) A.in1 (Yn (.ref S) (.ref r) res) (fun aT s'=>match aT with|.done f=>R (.ok f) s'|.again c'=>c'.quiet=B'∧Wj (UD prog w) A c' R s') (fun e s'=>R (.error e) s') s:=by
 have hn:Qet 0 n 1=n:=by rw[rangeSize_one];split <;> lia
 have mG:QeA 0 n 1=B':=by
  unfold QeA
  rw[rq (i:=0) (by decide) (by decide),rq (i:=(n:Int)) (by lia) (by lia),rq (i:=1) (by decide) (by decide),hn,rq (i:=(n:Int)) (by lia) (by lia),UH (by decide),rq (i:=(n:Int) + (1 - 1)) (by lia) (by lia),SH]
  rfl
 have Ip:S≠r:=fun e=>by rw[e,hr] at hS;simp at hS
 have qL:S≠s.heap.objs.size:=Rb (Q6 hS)
 have nb:s.heap.objs.size∉cs:=fun z=>Ry _ (c.lt _ z)
 have ic:S∉s.heap.objs.size::cs:=by simp[qL,qW]
 have W:=(J8 (prog:=prog) (w:=w) (A:=A.in1) hc s.heap.objs.size nb n).toS
 have key:∀ (h:U6) (c₁ tk:Nat),Y3 h s.heap.objs.size ((0:Nat):Int) ((n:Int) - ((0:Nat):Int)) 1→Vc h cs→(∀ b o,b≠S→s.heap.get? b=f' o→h.get? b=f' o) →
   h.get? S=f' { cls:=.type "list",data:=.seq #[] c₁ }→Wj (UD prog w) A (.builtin "list.extend.loop" ⟨[.ref S,.ref s.heap.objs.size,res],[]⟩) R { s with heap:=h,toks:=tk }:=by
  intro h c₁ tk a7 ch hk Hn
  refine codeAny_extend_loopS W (by rw[Q9];lia) S ic res n 0 _ #[] c₁ rfl (RY _) ⟨a7,ch⟩ Hn (Qfz _) fun s' eO c' mv hV eQ=>?_
  rw[Moved.eq_with mv]
  refine hR s'.heap s'.toks eO c' (fun b o hb e=>mv.heap b o (fun z=>?_) (hk b o hb e)) hV eQ
  rcases RS.mp z with e'|z
  .exact hb e'
  .exact UR (Q6 e) (by rw[Vb.mp z];exact Ry _)
 unfold Yn
 refine mT (SG (T:="range") ⟨_,hr,O⟩ ?_)
 have h1:QaT (.ref S) (.ref r)=K':=by simp[QaT,Ip]
 have h2:(Yw "range" == Yw "list")=K':=by decide
 have h3:(Yw "range" == Yw "tuple")=K':=by decide
 simp only[h1,h2,h3,QfL,RO,VO]
 refine mT (Ut hr mG ?_)
 refine mT (RC (wpAny_hint_range (n:=n) (Q4 _ hr) hn av ?_))
 rw[hn]
 have qf:Y3 (s.heap.push { cls:=.type "range_iterator",data:=.fields #[Vp 0,Vp n,Vp 1] }) s.heap.objs.size ((0:Nat):Int) ((n:Int) - ((0:Nat):Int)) 1:=by
  rw[show(n:Int) - ((0:Nat):Int)=n by lia]
  exact Ra _ rfl
 have kL:=Q4 { cls:=.type "range_iterator",data:=.fields #[Vp 0,Vp n,Vp 1] } hS
 have By:Vc (s.heap.push { cls:=.type "range_iterator",data:=.fields #[Vp 0,Vp n,Vp 1] }) cs:=c.mono fun b o _ e=>Q4 _ e
 refine wpAny_ite_split (fun _=>?_) (fun _=>Q5 ⟨Xm Qct _,key _ c₀ _ qf By (fun b o _ e=>Q4 _ e) kL⟩)
 refine mT (Sk ?_)
 refine mT ?_
 show M' _ _ (Yy S (·.push .none) >>= fun _=>Yy S (·.pop)) _ _ _
 refine mT (Sf kL O ?_)
 have ja:=Rw (Wd (·.push Vk)) kL rfl
 refine Sf (hz:=by seq_fits) ja rfl ?_
 have sJ:=Rw (Wd (·.pop)) ja rfl
 have eW:∀ b o,b≠S→(s.heap.push { cls:=.type "range_iterator",data:=.fields #[Vp 0,Vp n,Vp 1] }).get? b=f' o→(((s.heap.push { cls:=.type "range_iterator",data:=.fields #[Vp 0,Vp n,Vp 1] }).update S (Wd (·.push Vk))).update S (Wd (·.pop))).get? b=f' o:=fun b o hb e=>
  (Ri _ _ (UM hb)).trans ((Ri _ _ (UM hb)).trans e)
 exact Q5 ⟨Xm Qct _,key _ _ _ (eW _ _ (UM qL) qf) (By.mono fun b o hb e=>eW b o (fun z=>qW (by rw[← z];exact hb)) e) (fun b o hb e=>eW b o hb (Q4 _ e)) sJ⟩
theorem OE {Q:L'→UG→Prop} (hc:VJ A cs){u v:VY} (hr:IsRange s.heap r 0 n 1 t u v) (c:Vc s.heap cs) (av:n≤2 ^ 24)
  (hQ:∀ h' tk eO c',(∀ b o,s.heap.get? b=f' o→h'.get? b=f' o)→h'.get? s.heap.objs.size=f' { cls:=.type "list",dict:=i',data:=.seq eO c',slots:=#[] }→Qas (fun i v=>∃ t,v=.int i t) eO n→Q (.ref s.heap.objs.size) { s with heap:=h',toks:=tk }) :
  M' (UD prog w) A (call (.type "list") [.ref r]) Q E s:=by
 refine Qbk (Q₁:=fun obj s₁=>obj=.ref s.heap.objs.size∧s₁={ s with heap:=s.heap.push { cls:=.type "list",data:=.seq #[] } }) Qgh (QfA _) QfB (code_list_new _ ⟨O,O⟩) fun obj s₁ h₁=>?_
 obtain⟨rfl,rfl⟩:=h₁
 have hS:(s.heap.push { cls:=.type "list",data:=.seq #[] }).get? s.heap.objs.size=f' { cls:=.type "list",data:=.seq #[] }:=Ra _ rfl
 have nb:s.heap.objs.size∉cs:=fun z=>Ry _ (c.lt _ z)
 refine⟨⟨_,hS,O⟩,Qfp _ _,?_⟩
 refine(show M' _ A.in1.in1 (do let old ← QaV (.ref s.heap.objs.size);Qev (.ref s.heap.objs.size) (fun _=>#[]);letGo old.toList.reverse;Yn (.ref s.heap.objs.size) (.ref r) .none) _ _ _ from mT ?_)
 unfold QaV
 refine mT (RU hS O (Q5 ?_))
 refine(show M' _ A.in1.in1 (Yy s.heap.objs.size (fun _=>#[]) >>= fun _=>letGo (#[]:Array L').toList.reverse >>= fun _=>Yn (.ref s.heap.objs.size) (.ref r) .none) _ _ _ from mT (Sf hS O (mT (SB ?_))))
 have ja:=Rw (Wd (fun _=>(#[]:Array L'))) hS rfl
 have eW:∀ b o,s.heap.get? b=f' o→((s.heap.push { cls:=.type "list",data:=.seq #[] }).update s.heap.objs.size (Wd (fun _=>(#[]:Array L')))).get? b=f' o:=fun b o e=>
  (Ri _ _ (UM (Rb (Q6 e)))).trans (Q4 _ e)
 exact Pg (A:=A.in1) hc (eW r _ hr) (c.mono fun b o _ e=>eW b o e) av _ .none _ ja nb fun h' tk acc c' k hV eQ=>⟨O,hQ h' tk acc c' (fun b o e=>k b o (Rb (Q6 e)) (eW b o e)) hV eQ⟩
def W5 (n:Nat):List V:=(VH n).map fun i=>V.int (i:Nat)
theorem Mn {acc:Array L'} (h:Qas (fun i v=>∃ t,v=XJ i t) acc n):aB (W5 n) acc.toList:=by
 have gen:∀ (k m:Nat) (us:List L'),us.length=k→(∀ i u,us[i]?=f' u→∃ t,u=XJ ((m + i:Nat):Int) t)→aB ((List.range' m k).map fun i=>V.int (i:Nat)) us:=fun k=>by
  induction k with
  | zero=>
   intro m us hl _
   obtain rfl:=Qch.mp hl
   exact .nil
  | succ k ih=>
   intro m us hl hu
   cases us with
   | nil=>cases hl
   | cons u us=>
    refine .cons ?_ (ih (m + 1) us (by simpa using hl) fun i x e=>?_)
    .obtain⟨t,e⟩:=hu 0 u rfl
     exact⟨t,e⟩
    .obtain⟨t,e⟩:=hu (i + 1) x (by simpa using e)
     refine⟨t,?_⟩
     rw[e,show m + (i + 1)=m + 1 + i by lia]
 unfold W5
 rw[List.range_eq_range']
 refine gen n 0 acc.toList (by rw[SI];exact h.1) fun i u e=>?_
 rw[T3]
 exact h.2 i u (by rw[SW] at e;exact e)
theorem Ny {p2 eU:Vx} (Ht:Gl X "list") (G9:X.mg "list"=i') (hg:Gl X "range") (hm:X.mg "range"=i') (ha:PA X [a] ta) (hs:UU [a] X.env=[(K',UV a X.env)]:=by rfl)
  (fG:UU [.Call (.Name "range" p2) [a] [] eU] X.env=[(K',UV (.Call (.Name "range" p2) [a] [] eU) X.env)]:=by rfl) :
  PE X (.Call (.Name "list" p) [.Call (.Name "range" p2) [a] [] eU] [] pos) (fun σ H Q=>ta σ H fun vs H1=>∃ j:Nat,vs=[.int j]∧j≤10000∧∀ r,H1 r=i'→Q (.ref r) (upd H1 r (.lst (W5 j)))):=by
 intro aa s σ H Q I h
 refine RQ (jM I Ht G9 tL ?_)
 refine Yo ?_ fG rfl
 rw[fG]
 refine YW ?_
 refine Call_ (jM I hg hm boot_range (Yo (UP (ha eU aa s σ H _ I h) fun us s1=>L2.U1 fun vs H1 I1 r1 q1=>?_) hs O))
 obtain⟨j,e,j1,q⟩:=q1
 subst e
 cases r1 with
 | cons r rr=>
  cases rr
  obtain⟨t,rfl⟩:=r
  refine call_range_1 (Zx ?_)
  obtain⟨cs,cU,ch⟩:=I1.hd.chain
  have hz:(s1.heap.push { cls:=.type "range",data:=.fields #[.int 0 s1.toks,.int j t,.int 1 (s1.toks + 1)] }).objs.size=s1.heap.objs.size + 1:=RE ..
  refine OE (s:={ s1 with heap:=s1.heap.push { cls:=.type "range",data:=.fields #[.int 0 s1.toks,.int j t,.int 1 (s1.toks + 1)] },toks:=s1.toks + 1 + 1 }) cU (r:=s1.heap.objs.size) (n:=j) (Ra _ O) (ch.mono fun b o _ e=>Q4 _ e) (by lia) fun h' tk acc c' k hS eQ=>?_
  dsimp only at k hS
  rw[hz] at hS
  have fr:H1 (s1.heap.objs.size + 1)=i':=I1.UJ.fresh (RJ _)
  refine⟨.ref (s1.heap.objs.size + 1),upd H1 (s1.heap.objs.size + 1) (.lst (W5 j)),I1.laid (t':=tk) (fun b o e=>k b o (Q4 _ e)) (RJ _) ⟨by unfold W5;rw[Q3,SU,Q9];lia,acc.toList,c',Mn eQ,by simpa using hS⟩,?_,q _ fr⟩
  show UQ _=UQ _
  rw[hz]
variable {f:Bool}{i nT:Nat}{oa:UZ}{xs ys:Array L'}
abbrev nK (h:U6) (z TI TO T:F') (f:Bool):Prop:=h.get? z=f' { cls:=.type "zip",dict:=i',data:=.fields #[Vp T,.bool f,.bool K',.ref TI,.ref TO],slots:=#[] }
theorem FU {TI TO:F'}{Q:Bool→UG→Prop} (hz:nK s.heap z TI TO T f) (ha:s.heap.get? T=f' oa) (h:∀ h',nK h' z TI TO T B'→XH z s.heap h'→Q K' { s with heap:=h' }) :
  M' (UD prog w) A (Zp (.ref z)) Q E s:=by
 unfold Zp
 refine mT (RB hz O (x:=Vp T) O ?_)
 show M' _ _ (loadIfAlive ((T:Int).toNat) >>= _) _ _ _
 rw[Ru]
 refine mT (PySem.W.kdx_alive ha ?_)
 simp only[Option.isNone_some,RO,VO]
 refine mT (RB hz O (x:=.bool f) O ?_)
 cases f with
 | true=>
  rw[UF (show ¬ ((W1 B' != W1 B')=B') from Rk)]
  exact Q5 (h s.heap hz (QnZ _ _))
 | false=>
  rw[UH (show(W1 K' != W1 B')=B' from rfl)]
  refine mT (S9 hz (by simp) fun h₃ IA fL=>?_)
  exact Q5 (h h₃ IA fL)
theorem LI {TI TO:F'}{x y:L'} (D:XM z TI TO i1 i2 l1 l2)
  (hz:nK s.heap z TI TO T f) (ha:s.heap.get? T=f' oa) (cH:WQ s.heap TI (.ref i1) (.ref i2))
  (h1:s.heap.IsListIter i1 l1 k1) (h2:s.heap.IsListIter i2 l2 k2) (cV:s.heap.IsList l1 xs) (bO:s.heap.IsList l2 ys) (hx:xs[k1]?=f' x) (hy:ys[k2]?=f' y)
  (hQ:∀ h',nK h' z TI TO T B'→h'.IsListIter i1 l1 (k1 + 1)→h'.IsListIter i2 l2 (k2 + 1)→WQ h' s.heap.objs.size x y →
   (∀ c o,c≠z→c≠i1→c≠i2→s.heap.get? c=f' o→h'.get? c=f' o)→Q (f' (.ref s.heap.objs.size)) { s with heap:=h' }) :
  M' (UD prog w) A (Vs (.ref z)) Q E s:=by
 have hT:s.TypeIs (.ref z) "zip":=⟨_,hz,O⟩
 unfold Vs
 refine mT (R4 (RG (name:=UI "__next__") hT ZD (RV ZD hT QcC ?_ (QcB _))))
 refine(show M' _ _ (V7 (.ref z) 2 >>= _) _ _ _ from mT (RB hz O (x:=.bool K') O ?_))
 refine(show M' _ _ (V7 (.ref z) 3 >>= _) _ _ _ from mT (RB hz O (x:=.ref TI) O (mT (RU cH O ?_))))
 refine(show M' _ _ (Zp (.ref z) >>= _) _ _ _ from mT (FU hz ha fun h₁ mS bQ=>?_))
 simp only[RO,VO,Uv,SN,TC]
 refine mT (mT (mT (RC ?_)))
 refine(show M' _ _ (XB (.ref i1) >>= _) _ _ _ from mT (SR (h1.extBut bQ.extBut D.i1z) (cV.extBut bQ.extBut D.l1z) hx fun h₂ ve dM=>Q5 (Q5 ?_)))
 refine mT (mT (RC ?_))
 refine(show M' _ _ (XB (.ref i2) >>= _) _ _ _ from mT (SR ((h2.extBut bQ.extBut D.i2z).extBut dM.extBut D.i12.symm) ((bO.extBut bQ.extBut D.l2z).extBut dM.extBut D.l2i1) hy fun h₃ Ja fL=>Q5 (Q5 (Q5 ?_))))
 refine(show M' _ _ (newTuple [x,y] >>= _) _ _ _ from mT (wpAny_newTuple ?_))
 have hsz:h₃.objs.size=s.heap.objs.size:=by rw[fL.1,dM.1,bQ.1]
 have up:∀ c o,c≠z→c≠i1→c≠i2→s.heap.get? c=f' o→(h₃.push { cls:=.type "tuple",data:=.seq #[x,y] }).get? c=f' o:=fun c o c1 c2 c3 e=>
  Q4 _ (fL.extBut _ _ c3 (dM.extBut _ _ c2 (bQ.extBut _ _ c1 e)))
 have Hr:nK (h₃.push { cls:=.type "tuple",data:=.seq #[x,y] }) z TI TO T B':=Q4 _ (fL.extBut _ _ D.i2z.symm (dM.extBut _ _ D.i1z.symm mS))
 have BU:WQ (h₃.push { cls:=.type "tuple",data:=.seq #[x,y] }) h₃.objs.size x y:=Ra _ rfl
 have HJ:(h₃.push { cls:=.type "tuple",data:=.seq #[x,y] }).IsListIter i1 l1 (k1 + 1):=ve.at fun o e=>Q4 _ (fL.extBut _ _ D.i12 e)
 have GC:(h₃.push { cls:=.type "tuple",data:=.seq #[x,y] }).IsListIter i2 l2 (k2 + 1):=Ja.at fun o e=>Q4 _ e
 rw[hsz] at BU
 refine Q5 ⟨_,O,Q5 ?_⟩
 have aT:=hQ _ Hr HJ GC BU up
 rw[← hsz] at aT
 exact aT
theorem KW {TI TO:F'} (hc:VJ A cs) (c:Vc s.heap cs) (nz:z∉cs) (n1:i1∉cs) (D:XM z TI TO i1 i2 l1 l2)
  (hz:nK s.heap z TI TO T f) (ha:s.heap.get? T=f' oa) (cH:WQ s.heap TI (.ref i1) (.ref i2))
  (h1:s.heap.IsListIter i1 l1 k1) (h2:s.heap.IsListIter i2 l2 k2) (cV:s.heap.IsList l1 xs) (bO:s.heap.IsList l2 ys) (iE:xs[k1]?=i'∨ys[k2]?=i')
  (hQ:∀ h',(∀ c o,c≠z→c≠i1→c≠i2→s.heap.get? c=f' o→h'.get? c=f' o)→Q i' { s with heap:=h' }):M' (UD prog w) A (Vs (.ref z)) Q E s:=by
 have hT:s.TypeIs (.ref z) "zip":=⟨_,hz,O⟩
 have aT:∀ h' e,(∀ c o,c≠z→c≠i1→c≠i2→s.heap.get? c=f' o→h'.get? c=f' o)→(∃ o,h'.get? e=f' o∧o.cls=.type "StopIteration") →
   M' (UD prog w) A (do if ← Yx (.ref e) (.type "StopIteration") then pure i' else throw (.ref e)) Q E { s with heap:=h' }:=fun h' e k ⟨o,ho,mC⟩=>
  mT (R5 (T:="StopIteration") (b:=B') ⟨o,ho,mC⟩ XF (Q5 (hQ _ k)))
 unfold Vs
 refine mT (R4 (RG (name:=UI "__next__") hT ZD (RV ZD hT QcC ?_ (QcB _))))
 refine(show M' _ _ (V7 (.ref z) 2 >>= _) _ _ _ from mT (RB hz O (x:=.bool K') O ?_))
 refine(show M' _ _ (V7 (.ref z) 3 >>= _) _ _ _ from mT (RB hz O (x:=.ref TI) O (mT (RU cH O ?_))))
 refine(show M' _ _ (Zp (.ref z) >>= _) _ _ _ from mT (FU hz ha fun h₁ mS bQ=>?_))
 have c₁:Vc h₁ cs:=c.but nz bQ.extBut
 simp only[RO,VO,Uv,SN,TC]
 refine mT (mT (mT (RC ?_)))
 cases hx:xs[k1]? with
 | none=>
  exact(show M' _ _ (XB (.ref i1) >>= _) _ _ _ from mT (rQ (A:=A.in1) (VJ.hd (A:=A.in1) hc c₁) (h1.extBut bQ.extBut D.i1z) (cV.extBut bQ.extBut D.l1z) hx fun h₂ e dM he=>
   aT h₂ e (fun c o c1 c3 _ x=>dM _ _ c3 (bQ.extBut _ _ c1 x)) he))
 | some x=>
  have hy:ys[k2]?=i':=by rcases iE with h|h;rw[hx] at h;cases h;exact h
  refine(show M' _ _ (XB (.ref i1) >>= _) _ _ _ from mT (SR (h1.extBut bQ.extBut D.i1z) (cV.extBut bQ.extBut D.l1z) hx fun h₂ ve dM=>Q5 (Q5 ?_)))
  refine mT (mT (RC ?_))
  have c₂:Vc h₂ cs:=c₁.but n1 dM.extBut
  exact(show M' _ _ (XB (.ref i2) >>= _) _ _ _ from mT (rQ (A:=A.in1) (VJ.hd (A:=A.in1) hc c₂) ((h2.extBut bQ.extBut D.i2z).extBut dM.extBut D.i12.symm) ((bO.extBut bQ.extBut D.l2z).extBut dM.extBut D.l2i1) hy fun h₃ e fL he=>
   aT h₃ e (fun c o c1 c2 c3 x=>fL _ _ c3 (dM.extBut _ _ c2 (bQ.extBut _ _ c1 x))) he))
def ZS (h:U6) (z TI TO i1 i2 l1 l2 d:F') (xs ys:Array L') (i:Nat):Prop:=
 (XS h z TI TO .none∨∃ T f oa,nK h z TI TO T f∧h.get? T=f' oa∧T≠z∧T≠i1∧T≠i2∧T≠d)∧WQ h TI (.ref i1) (.ref i2)∧(∃ a b,WQ h TO a b)∧h.IsListIter i1 l1 i∧h.IsListIter i2 l2 i∧h.IsList l1 xs∧h.IsList l2 ys
theorem MT {TI TO:F'}{x y:L'} (D:XM z TI TO i1 i2 l1 l2) (dl:d<s.heap.objs.size) (st:ZS s.heap z TI TO i1 i2 l1 l2 d xs ys i) (hx:xs[i]?=f' x) (hy:ys[i]?=f' y)
  (hQ:∀ h',ZS h' z TI TO i1 i2 l1 l2 d xs ys (i + 1)→WQ h' s.heap.objs.size x y→(∀ c o,c≠z→c≠TO→c≠i1→c≠i2→s.heap.get? c=f' o→h'.get? c=f' o)→Q (f' (.ref s.heap.objs.size)) { s with heap:=h' }) :
  M' (UD prog w) A (Vs (.ref z)) Q E s:=by
 obtain⟨zs,cH,⟨a,b,eB⟩,h1,h2,cV,bO⟩:=st
 have lt:∀ {c o},s.heap.get? c=f' o→s.heap.objs.size≠c:=fun e=>Sa (Q6 e)
 have n1:s.heap.objs.size≠i1:=by obtain⟨_,e,_⟩:=h1;exact lt e
 have n2:s.heap.objs.size≠i2:=by obtain⟨_,e,_⟩:=h2;exact lt e
 rcases zs with hz|⟨T,f,oa,hz,ha,t1,t2,t3,t4⟩
 .refine Uh D hz cH eB h1 h2 cV bO hx hy fun h' a1 a2 a3 a4 a5 a6 hk=>?_
  exact hQ h' ⟨.inr ⟨s.heap.objs.size,K',_,a1,a5,lt hz,n1,n2,Sa dl⟩,hk _ _ D.TIz D.TITO D.TIi1 D.TIi2 cH,⟨_,_,a2⟩,a3,a4,cV.at fun o e=>hk _ o D.l1z D.l1TO D.l1i1 D.l1i2 e,bO.at fun o e=>hk _ o D.l2z D.l2TO D.l2i1 D.l2i2 e⟩ a5 hk
 .refine LI D hz ha cH h1 h2 cV bO hx hy fun h' a1 a3 a4 a5 hk=>?_
  exact hQ h' ⟨.inr ⟨T,B',oa,a1,hk _ _ t1 t2 t3 ha,t1,t2,t3,t4⟩,hk _ _ D.TIz D.TIi1 D.TIi2 cH,⟨_,_,hk _ _ D.TOz D.TOi1 D.TOi2 eB⟩,a3,a4,cV.at fun o e=>hk _ o D.l1z D.l1i1 D.l1i2 e,bO.at fun o e=>hk _ o D.l2z D.l2i1 D.l2i2 e⟩ a5
   fun c o c1 _ c3 c4 e=>hk c o c1 c3 c4 e
theorem Qh1 {TI TO:F'} (hc:VJ A cs) (c:Vc s.heap cs) (nz:z∉cs) (nT:TO∉cs) (n1:i1∉cs) (n2:i2∉cs) (D:XM z TI TO i1 i2 l1 l2) (st:ZS s.heap z TI TO i1 i2 l1 l2 d xs ys i) (iE:xs[i]?=i'∨ys[i]?=i')
  (hQ:∀ h',(∀ c o,c≠z→c≠TO→c≠i1→c≠i2→s.heap.get? c=f' o→h'.get? c=f' o)→Q i' { s with heap:=h' }):M' (UD prog w) A (Vs (.ref z)) Q E s:=by
 obtain⟨zs,cH,⟨a,b,eB⟩,h1,h2,cV,bO⟩:=st
 rcases zs with hz|⟨T,f,oa,hz,ha,t1,t2,t3,t4⟩
 .exact CF hc c nz nT n1 n2 D hz cH eB h1 h2 cV bO iE hQ
 .exact KW hc c nz n1 D hz ha cH h1 h2 cV bO iE fun h' hk=>hQ h' fun c o c1 _ c3 c4 e=>hk c o c1 c3 c4 e
structure xL (z TI TO i1 i2 l1 l2 d:F'):Prop where
 z:z≠d
 TI:TI≠d
 TO:TO≠d
 i1:i1≠d
 i2:i2≠d
 l1:l1≠d
 l2:l2≠d
theorem ZS.but {TI TO:F'} (N:xL z TI TO i1 i2 l1 l2 d) (st:ZS h z TI TO i1 i2 l1 l2 d xs ys i) (hk:∀ c o,c≠d→h.get? c=f' o→h'.get? c=f' o):ZS h' z TI TO i1 i2 l1 l2 d xs ys i:=by
 obtain⟨zs,cH,⟨a,b,eB⟩,h1,h2,cV,bO⟩:=st
 refine⟨?_,hk _ _ N.TI cH,⟨a,b,hk _ _ N.TO eB⟩,h1.at fun o e=>hk _ o N.i1 e,h2.at fun o e=>hk _ o N.i2 e,cV.at fun o e=>hk _ o N.l1 e,bO.at fun o e=>hk _ o N.l2 e⟩
 rcases zs with hz|⟨T,f,oa,hz,ha,t1,t2,t3,t4⟩
 .exact .inl (hk _ _ N.z hz)
 .exact .inr ⟨T,f,oa,hk _ _ N.z hz,hk _ _ t4 ha,t1,t2,t3,t4⟩
section
variable {κ:Type} [DecidableEq κ] {knd:KeyKind prog w κ}
theorem Pu {TI TO:F'} (D:XM z TI TO i1 i2 l1 l2) (N:xL z TI TO i1 i2 l1 l2 d) (hc:VJ A cs) (nz:z∉cs) (nT:TO∉cs) (n1:i1∉cs) (n2:i2∉cs) (nd:d∉cs) (av:xs.size≤ys.size) (hn:xs.size≤1000)
  (ks:Nat→κ) (vs:Nat→L') (kvs:Nat→List (κ×L')) (res:L') (gT:∀ i x y,xs[i]?=f' x→ys[i]?=f' y→knd.is (ks i) x=B'∧y=vs i)
  (hs:∀ i,kvs (i + 1)=Xr (kvs i) (ks i) (vs i)) (hl:∀ i,(kvs i).length≤i) (s0:UG) :
  ∀ (k i:Nat) (h:U6) (tk:Nat),xs.size - i=k→i≤xs.size→ZS h z TI TO i1 i2 l1 l2 d xs ys i→Vc h cs→h.DictOf knd d (kvs i)→(∀ b o,b≠d→b≠z→b≠TO→b≠i1→b≠i2→s0.heap.get? b=f' o→h.get? b=f' o) →
   (∀ h' iG,(∀ b o,b≠d→b≠z→b≠TO→b≠i1→b≠i2→s0.heap.get? b=f' o→h'.get? b=f' o)→h'.DictOf knd d (kvs xs.size)→R (.ok (.ret res)) { s0 with heap:=h',toks:=iG }) →
   Wj (UD prog w) A (.builtin "dict.update.loop" ⟨[.ref d,.ref z,.int i 0,res],[]⟩) R { s0 with heap:=h,toks:=tk }:=by
 intro k
 induction k with
 | zero=>
  intro i h tk hk hi st ch hD keep hR
  have cB:i=xs.size:=by lia
  subst cB
  refine X6 uB ?_
  rw[Yp lZ _]
  show M' _ A.in1 (Vs (.ref z) >>= _) _ _ _
  refine mT (Qh1 (A:=A.in1) (s:={ s0 with heap:=h,toks:=tk }) hc ch nz nT n1 n2 D st (.inl (by simp)) fun h' dZ=>?_)
  show M' _ A.in1 (pure () >>= fun _=>ret res) _ _ _
  refine mT (Q5 (Q5 (hR h' tk (fun b o b0 b1 b2 b3 b4 e=>dZ b o b1 b2 b3 b4 (keep b o b0 b1 b2 b3 b4 e)) ?_)))
  obtain⟨o,es,ep,ho,bb⟩:=hD
  exact⟨o,es,ep,dZ _ _ (UM N.z) (UM N.TO) (UM N.i1) (UM N.i2) ho,bb⟩
 | succ k ih=>
  intro i h tk hk hi st ch hD keep hR
  have bZ:i<xs.size:=by lia
  refine X6 uB ?_
  rw[Yp lZ _]
  show M' _ A.in1 (Vs (.ref z) >>= _) _ _ _
  have dl:d<h.objs.size:=by
   obtain⟨o,es,ep,ho,bb⟩:=hD
   exact Q6 ho
  have hx:xs[i]?=f' xs[i]:=TW bZ
  have hy:ys[i]?=f' (ys[i]'(by lia)):=TW (by lia)
  obtain⟨d7,hv⟩:=gT i _ _ hx hy
  refine mT (MT (A:=A.in1) (s:={ s0 with heap:=h,toks:=tk }) D dl st hx hy fun h' g9 hP dZ=>?_)
  rw[hv] at hP
  generalize xs[i]=key at d7 hP hx
  have tn:∀ b o,h.get? b=f' o→b≠h.objs.size:=fun b o e=>Rb (Q6 e)
  have wC:h'.DictOf knd d (kvs i):=by
   obtain⟨o,es,ep,ho,bb⟩:=hD
   exact⟨o,es,ep,dZ _ _ (UM N.z) (UM N.TO) (UM N.i1) (UM N.i2) ho,bb⟩
  have hT:Qbe { s0 with heap:=h',toks:=tk } (.ref h.objs.size) "tuple":=⟨_,hP,O⟩
  have lU:Vc h' cs:=ch.mono fun b o hb e=>dZ b o (fun q=>nz (q ▸ hb)) (fun q=>nT (q ▸ hb)) (fun q=>n1 (q ▸ hb)) (fun q=>n2 (q ▸ hb)) e
  dsimp only
  refine mT (RC (mT (SC ?_)))
  unfold Qew
  refine mT (SG hT ?_)
  rw[UH (by decide)]
  refine mT (RU hP O (Q5 ?_))
  show M' _ _ (Xp [key,vs i] (dictSet d key (vs i))) _ _ _
  refine RC (Up (knd:=knd) (s:={ s0 with heap:=h',toks:=tk }) d7 wC (fun eC qG sW=>?_) (by rw[Q9];have:=hl i;lia))
  have e1:kvs (i + 1)=Xr (kvs i) (ks i) (vs i):=hs i
  rw[← e1] at qG
  have kb:∀ c o,c≠d→h'.get? c=f' o→eC.get? c=f' o:=fun c o gg e=>by rw[sW.2 c gg];exact e
  exact Q5 ⟨Xm lZ _,ih (i + 1) eC _ (by lia) bZ (g9.but N kb) (lU.mono fun b o hb e=>kb b o (fun q=>nd (q ▸ hb)) e) qG (fun b o b0 b1 b2 b3 b4 e=>kb b o b0 (dZ b o b1 b2 b3 b4 (keep b o b0 b1 b2 b3 b4 e))) hR⟩
end
theorem LP:Xn (.type "zip") "keys"=pure i':=Qbh (by kernel_rfl)
theorem Qh:Qbt table "zip.__getattribute__"=f' W4.«object.__getattribute__»:=Qgm (id':="object.__getattribute__") (by kernel_rfl) (by first|rfl|decide +kernel) (by decide +kernel) (by kernel_rfl)
theorem KH {TI TO:F'}{tk:VY}{Q:Fin→UG→Prop} (hd:Hd A s.heap) (ho:XS s.heap z TI TO .none)
  (h:∀ h' tk e,(∀ b ob,s.heap.get? b=f' ob→h'.get? b=f' ob)→(∃ o',h'.get? e=f' o'∧o'.cls=.type "AttributeError")→E (.ref e) { s with heap:=h',toks:=tk }) :
  M' (UD prog w) A (W4.«object.__getattribute__» ⟨[.ref z,.str "keys" tk],[]⟩) Q E s:=by
 have hT:s.TypeIs (.ref z) "zip":=⟨_,ho,O⟩
 have f4:=LP
 unfold W4.«object.__getattribute__»
 obtain⟨hp,g,d,iG,os⟩:=s
 repeat (any_goals (first|assumption|wp_step))
 exact EL hd h (attrMsg_fits (by decide +kernel) (by size_fits))
theorem MJ {TI TO:F'} (hd:Hd A s.heap) (ho:XS s.heap z TI TO .none)
  (h:∀ h' tk,(∀ b ob,s.heap.get? b=f' ob→h'.get? b=f' ob)→Q i' { s with heap:=h',toks:=tk }) :
  M' (UD prog w) A (ZL (.ref z) "keys") Q E s:=by
 unfold ZL QcV
 obtain⟨hp,g,d,iG,os⟩:=s
 have hT:(⟨hp,g,d,iG + 1,os⟩:UG).TypeIs (.ref z) "zip":=⟨_,ho,O⟩
 have f1:=Qcx
 have f2:=Qa0.lookup
 have f3:=Qa0.bind (.ref z)
 have f5:Xn (.type "zip") "__getattr__"=pure i':=Qbh (by kernel_rfl)
 unfold Qbr
 repeat (any_goals (first|assumption|wp_step))
 refine Zt Qa0.plain Qh (Qa0.check _ _ _ _ _ _ _ _ hT (F.args_zip_getattribute_2 _ _) (KH (s:=⟨hp,g,d,iG + 1,os⟩) hd ho fun h' kI e k' ⟨o',e1,e2⟩=>?_))
 dsimp only
 show M' _ _ (Qa6 _ _ _ _ _ _ _) _ _ _
 unfold Qa6
 have hE:(⟨h',g,d,kI,os⟩:UG).TypeIs (.ref e) "AttributeError":=⟨_,e1,e2⟩
 repeat (any_goals (first|assumption|wp_step))
 exact h h' kI k'
section
variable {κ:Type} [DecidableEq κ] {knd:KeyKind prog w κ}
theorem J1 {TI TO:F'}{a b:L'}{Q:L'→UG→Prop} (hc:VJ A cs) (ch:Vc s.heap cs) (nz:z∉cs) (nT:TO∉cs) (n1:i1∉cs) (n2:i2∉cs) (D:XM z TI TO i1 i2 l1 l2)
  (hz:XS s.heap z TI TO .none) (cH:WQ s.heap TI (.ref i1) (.ref i2)) (eB:WQ s.heap TO a b) (h1:s.heap.IsListIter i1 l1 0) (h2:s.heap.IsListIter i2 l2 0) (cV:s.heap.IsList l1 xs) (bO:s.heap.IsList l2 ys) (av:xs.size≤ys.size) (hn:xs.size≤1000)
  (ks:Nat→κ) (vs:Nat→L') (kvs:Nat→List (κ×L')) (h0:kvs 0=[]) (hs:∀ i,kvs (i + 1)=Xr (kvs i) (ks i) (vs i)) (hl:∀ i,(kvs i).length≤i)
  (gT:∀ i x y,xs[i]?=f' x→ys[i]?=f' y→knd.is (ks i) x=B'∧y=vs i)
  (h:∀ h' tk,h'.DictOf knd s.heap.objs.size (kvs xs.size)→(∀ b o,b≠z→b≠TO→b≠i1→b≠i2→s.heap.get? b=f' o→h'.get? b=f' o)→Q (.ref s.heap.objs.size) { s with heap:=h',toks:=tk }) :
  M' (UD prog w) A (call (.type "dict") [.ref z]) Q E s:=by
 refine Qbk (Q₁:=fun obj s₁=>obj=.ref s.heap.objs.size∧s₁={ s with heap:=s.heap.push { cls:=.type "dict",data:=.dict #[] } }) QfH (Qfg _) QfC (Qf4 _ ⟨O,O⟩) ?_
 rintro obj s₁ ⟨rfl,rfl⟩
 have de:(s.heap.push { cls:=.type "dict",data:=.dict #[] }).DictOf knd s.heap.objs.size []:=Qcr s.heap
 have keep:∀ b o,s.heap.get? b=f' o→(s.heap.push { cls:=.type "dict",data:=.dict #[] }).get? b=f' o:=fun b o e=>Q4 _ e
 have lt:∀ b∈cs,b<s.heap.objs.size:=ch.lt
 have gl:∀ {b o},s.heap.get? b=f' o→b≠s.heap.objs.size:=fun e=>Rb (Q6 e)
 have N:xL z TI TO i1 i2 l1 l2 s.heap.objs.size:=⟨gl hz,gl cH,gl eB,by obtain⟨_,e,_⟩:=h1;exact gl e,by obtain⟨_,e,_⟩:=h2;exact gl e,by obtain⟨_,e,_⟩:=cV;exact gl e,by obtain⟨_,e,_⟩:=bO;exact gl e⟩
 generalize s.heap.push { cls:=.type "dict",data:=.dict #[] }=hp at de keep ⊢
 have lU:Vc hp cs:=ch.mono fun b o _ e=>keep b o e
 have lO:XS hp z TI TO .none:=keep _ _ hz
 refine⟨de.typeIs,Qfq _ _,?_⟩
 unfold W4.«dict.__init__»
 refine mT ?_
 unfold Qeu
 refine mT (Uj de.typeIs ?_)
 show M' _ _ (pure (s.heap.objs.size,[UQ z])) _ _ _
 refine Q5 ?_
 show M' _ _ (QaU "dict.__init__" s.heap.objs.size (.ref z) [] .none) _ _ _
 unfold QaU
 have hT:Qbe { s with heap:=hp } (.ref z) "zip":=⟨_,lO,O⟩
 refine mT (SG hT ?_)
 rw[UH (by decide)]
 refine mT ?_
 refine MJ (s:={ s with heap:=hp }) (VJ.hd (A:=A.in1.in1) hc lU) lO fun iF kI k2=>?_
 have all2:∀ b o,s.heap.get? b=f' o→iF.get? b=f' o:=fun b o e=>k2 b o (keep b o e)
 have wa:Vc iF cs:=lU.mono fun b o _ e=>k2 b o e
 rw[UH (show(i':Option L').isNone=B' from rfl)]
 refine mT (Sk ?_)
 refine mT (T0 (s:={ s with heap:=iF,toks:=kI }) (all2 _ _ hz) ?_)
 have iW:iF.DictOf knd s.heap.objs.size (kvs 0):=by
  rw[h0]
  obtain⟨o,es,ep,hg,bb⟩:=de
  exact⟨o,es,ep,k2 _ _ hg,bb⟩
 have st:ZS iF z TI TO i1 i2 l1 l2 s.heap.objs.size xs ys 0:=⟨.inl (all2 _ _ hz),all2 _ _ cH,⟨_,_,all2 _ _ eB⟩,h1.at fun o e=>all2 _ o e,h2.at fun o e=>all2 _ o e,cV.at fun o e=>all2 _ o e,bO.at fun o e=>all2 _ o e⟩
 refine Q5 ⟨Xm lZ _,Pu (knd:=knd) (A:=A.in1) D N hc nz nT n1 n2 (fun q=>Ry _ (lt _ q)) av hn ks vs kvs .none gT hs hl s xs.size 0 iF kI O (RY _) st wa iW (fun b o b0 _ _ _ _ e=>all2 b o e) fun h' iG hk hD=>?_⟩
 exact⟨O,h h' iG hD fun b o c1 c2 c3 c4 e=>hk b o (gl e) c1 c2 c3 c4 e⟩
end
theorem Kl {p2 eU:Vx}{b:UY} (hg:Gl X "dict") (hm:X.mg "dict"=i') (mK:Gl X "zip") (Ik:X.mg "zip"=i') (ha:PA X [a,b] ta) (hs:UU [a,b] X.env=[(K',UV a X.env),(K',UV b X.env)]:=by rfl) (fG:UU [b] X.env=[(K',UV b X.env)]:=by rfl)
  (he:UU [.Call (.Name "zip" p2) [a,b] [] eU] X.env=(K',UV (.Call (.Name "zip" p2) [a,b] [] eU) X.env)::UU [] X.env:=by rfl) (bJ:(Vq pos (UU [] X.env)).any (·.1)=K':=by rfl) :
  PE X (.Call (.Name "dict" p) [.Call (.Name "zip" p2) [a,b] [] eU] [] pos) (fun σ H Q=>ta σ H fun vs H1=>∃ l1 l2,∃ ns:List Key,∃ ms:List V,vs=[.ref l1,.ref l2]∧P' X.K H1 l1 (ns.map kV)∧P' X.K H1 l2 ms∧ns.length≤ms.length∧ns.length≤1000∧∀ d,H1 d=i'→Q (.ref d) (upd H1 d (.dK (WC (ns.zip ms))))):=by
 intro aa s σ H Q I h
 refine RQ (jM I hg hm Ce ?_)
 refine Yo ?_ he bJ
 rw[he]
 show M' _ _ (spliced ((K',UV _ X.env)::Vq pos (UU [] X.env))) _ _ s
 refine YW ?_
 refine Call_ (jM I mK Ik boot_zip (Yo (UP (ha eU aa s σ H _ I h) fun us s1=>L2.U1 fun vs H1 I1 r1 aX=>?_) (by rw[hs,fG]) (by rw[fG];rfl)))
 obtain⟨l1,l2,ns,ms,e,q1,q2,av,qP,q⟩:=aX
 subst e
 obtain⟨u,u',rfl,ru,pP⟩:=nJ r1
 obtain rfl:u=UQ l1:=ru
 obtain rfl:u'=UQ l2:=pP
 obtain⟨ah,rv,pl,_⟩:=I1.list q1
 obtain⟨its',dv,jT,_⟩:=I1.list q2
 refine call_zip_2 pl.isList jT.isList fun h' b1 b2 b3 b4 b5 b6 hk=>?_
 refine Zx ?_
 have I2:Inv X aa σ H1 { s1 with heap:=h' }:=I1.kept (t':=s1.toks) hk
 obtain⟨cs,cU,ch⟩:=I1.hd.chain
 have lt:∀ b∈cs,b<s1.heap.objs.size:=ch.lt
 have iK:l1<s1.heap.objs.size:=by obtain⟨o,e,_⟩:=pl.isList;exact Q6 e
 have kR:l2<s1.heap.objs.size:=by obtain⟨o,e,_⟩:=jT.isList;exact Q6 e
 have nn:∀ (x y:Nat),x<y→∀ j:Nat,x≠y + j:=fun x y h j e=>by lia
 have n0:∀ (y i j:Nat),i≠j→y + i≠y + j:=fun y i j h e=>by lia
 have D:XM (s1.heap.objs.size + 4) (s1.heap.objs.size + 2) (s1.heap.objs.size + 3) s1.heap.objs.size (s1.heap.objs.size + 1) l1 l2:=
  ⟨n0 _ 2 4 (by decide),n0 _ 3 4 (by decide),n0 _ 0 4 (by decide),n0 _ 1 4 (by decide),n0 _ 2 3 (by decide),n0 _ 2 0 (by decide),n0 _ 2 1 (by decide),n0 _ 3 0 (by decide),n0 _ 3 1 (by decide),n0 _ 0 1 (by decide),
   nn _ _ iK 4,nn _ _ iK 3,nn _ _ iK 0,nn _ _ iK 1,nn _ _ kR 4,nn _ _ kR 3,nn _ _ kR 0,nn _ _ kR 1⟩
 have nc:∀ j:Nat,s1.heap.objs.size + j∉cs:=fun j q=>UR (lt _ q) (Qbn.mpr (RH _ _))
 have e1:=rv.length
 have e2:=dv.length
 rw[Q3] at e1
 have pK:∀ i k y,ns[i]?=f' k→its'[i]?=f' y→(ns.zip its').getD i (U5 0,.none)=(k,y):=fun i k y q1 q2=>by
  have q:(ns.zip its')[i]?=f' (k,y):=by
   rw[S6]
   exact⟨q1,q2⟩
  rw[Rl,q]
  rfl
 have hz:ah.toArray.size=ns.length:=by simp[e1]
 have zl:(ns.zip ms).length=ns.length:=by rw[S7];lia
 refine J1 (s:={ s1 with heap:=h' }) (knd:=b9 X.prog X.w) cU (ch.mono fun b o _ e=>hk b o e) (nc 4) (nc 3) (nc 0) (nc 1) D b1 b2 b3 b4 b5 (pl.isList.at fun o e=>hk _ o e) (jT.isList.at fun o e=>hk _ o e) (by simp;lia) (by rw[hz];exact qP)
  (fun i=>((ns.zip its').getD i (U5 0,.none)).1) (fun i=>((ns.zip its').getD i (U5 0,.none)).2) (stN (ns.zip its')) O (fun _=>O) (xY _) (fun i x y hx hy=>?_) fun eC tk hD keep=>?_
 .have hx:ah[i]?=f' x:=by simpa using hx
  have hy:its'[i]?=f' y:=by simpa using hy
  have hi:i<ns.length:=by
   have:=(VD.mp hx).1
   lia
  have dZ:ns[i]?=f' ns[i]:=Rf hi
  obtain⟨u,hu,ru⟩:=rv.get (i:=i) (x:=kV ns[i]) (by rw[Rx,dZ];rfl)
  rw[hx] at hu
  obtain rfl:=VE hu
  rw[pK i _ y dZ hy]
  exact⟨iQ ru,O⟩
 have rel:=zP (kvs:=ns.zip ms) (us:=ns.zip its') (fun i kv Gk=>by
  obtain⟨g1,g2⟩:=S6.mp Gk
  obtain⟨u,hu,ru⟩:=dv.get g2
  rw[pK i _ u g1 hu]
  exact⟨O,ru⟩) (ns.zip ms).length (Q7 _)
 rw[Rt,zl] at rel
 rw[hz] at hD
 have ne:(h'.objs.size == We)=K':=(tM (P:=X.prog) (w:=X.w) (H:=H1) h' I2.big).2.1
 have z:(WC (ns.zip ms)).length≤S':=by
  have:=QbM (ns.zip ms) []
  have z0:([]:List (Key×V)).length=0:=rfl
  rw[Q9]
  unfold WC
  lia
 have le:s1.heap.objs.size≤h'.objs.size:=by lia
 refine⟨.ref h'.objs.size,_,I1.laid (a:=h'.objs.size) (o:=.dK (WC (ns.zip ms))) (t':=tk) (fun b o e=>?_) le ⟨z,ne,_,rel,hD⟩,O,q _ (I1.UJ.fresh le)⟩
 have bl:=Q6 e
 exact keep b o (Rb (Rq bl (RH _ 4))) (Rb (Rq bl (RH _ 3))) (Rb bl) (Rb (Rq bl (RH _ 1))) (hk b o e)
section
variable {κ:Type} [DecidableEq κ] {knd:KeyKind prog w κ}
end
theorem aL.of {P:List C'}{sc:WR} (h:sc.kind=.function∧sc.isCoroutine=K'∧sc.isGenerator=K'∧N.Nodup∧N.take P.length=P∧(∀ x∈P,sc.names.lookup x=f' .local∨sc.names.lookup x=f' .cell)∧∀ y∈sc.names,y.2≠.free):aL N P sc:=⟨h.1,h.2.1,h.2.2.1,h.2.2.2.1,h.2.2.2.2.1,h.2.2.2.2.2.1,h.2.2.2.2.2.2⟩
section
variable {K:R'}{m:C'}{ps:List C'}{f cL TP:F'}{Qz:L'}{od an QV:Option F'}{QK:Array (Option L')}{kV ce ay ct:L'}{vs:Array L'}
abbrev X2 (x qual:C') (st:US) (kV ce pm:L') (an:Option F') (ay ct:L'):WO:=X8 x qual (nM st) (lj st) (az st) .none kV ce pm an ay ct
theorem def_mk (X:K.In h) (G:h.Ns VU mg) (a:YZ K VU x=f' (f' (.ref f))) (l:K.lookup f=f' ⟨oc,od,.func (X2 x x st kV ce pm an ay ct),eS⟩) (c:XE K ay x=B') (k:WZ K (.ref f)=B')
  (b:∀ us:List L',us.length=ps.length→Qaq (X2 x x st kV ce pm an ay ct) ⟨us,[]⟩=pure (ps.zip us)):Def K mg x st ps []:=⟨⟨_,_,[],o8 l c,ZF X G a,k,.all b,.nil⟩⟩
theorem met_mk (a:VT K (.ref C) m=f' (f' (.ref f))) (i:Yu K (.ref f)=B') (l:K.lookup f=f' ⟨oc,od,.func (X2 m qual st kV ce pm an ay ct),eS⟩) (c:XE K ay qual=B') (k:WZ K (.ref f)=B')
  (b:∀ us:List L',us.length=ps.length→Qaq (X2 m qual st kV ce pm an ay ct) ⟨us,[]⟩=pure (ps.zip us)):Met K C m qual st ps []:=⟨⟨f,_,[],o8 l c,⟨a,i,k⟩,.all b,.nil⟩⟩
theorem ziP {Tt:F'}{Bx:L'}{AS:Option F'}{AF:Array (Option L')}{D:Array L'} (a:VT K (.ref C) m=f' (f' (.ref f))) (i:Yu K (.ref f)=B') (l:K.lookup f=f' ⟨oc,od,.func (X8 m qual (nM st) (lj st) (az st) (.ref Tt) kV ce pm an ay ct),eS⟩) (c:XE K ay qual=B') (k:WZ K (.ref f)=B') (td:K.lookup Tt=f' ⟨Bx,AS,.seq D nT,AF⟩) (v:aB aI ds)
  (b:K.lookup Tt=f' ⟨Bx,AS,.seq D nT,AF⟩→dR K (X8 m qual (nM st) (lj st) (az st) (.ref Tt) kV ce pm an ay ct) ps ds):Met K C m qual st ps aI:=⟨⟨f,_,ds,o8 l c,⟨a,i,k⟩,b td,v⟩⟩
theorem vals1i {i:Int}:aB [.int i] [.int i t]:=.cons ⟨t,O⟩ .nil
theorem vals2i {i j:Int}{u:VY}:aB [.int i,.int j] [.int i t,.int j u]:=.cons ⟨t,O⟩ (.cons ⟨u,O⟩ .nil)
theorem ini_mk (X:K.In h) (G:h.Ns VU mg) (g:YZ K VU x=f' (f' (.ref C))) (mk:Qcu K C=B') (kc:WZ K (.ref C)=B') (a:VT K (.ref C) "__init__"=f' (f' (.ref f))) (i:Yu K (.ref f)=B') (l:K.lookup f=f' ⟨oc,od,.func (X2 "__init__" qual st kV ce pm an ay ct),eS⟩) (c:XE K ay qual=B')
  (b:∀ us:List L',us.length=ps.length→Qaq (X2 "__init__" qual st kV ce pm an ay ct) ⟨us,[]⟩=pure (ps.zip us)):YJ K mg C x qual st ps:=⟨⟨f,_,o8 l c,⟨mk,a,i,kc⟩,ZF X G g,.all b⟩⟩
theorem zpV (X:K.In h) (G:h.Ns VU mg) (g:YZ K VU x=f' (f' (.ref C))) (xa:rP K C X1 "ValueError.__new__"=B') (kc:WZ K (.ref C)=B') (a:VT K (.ref C) "__init__"=f' (f' (.ref f))) (i:Yu K (.ref f)=B') (l:K.lookup f=f' ⟨oc,od,.func (X2 "__init__" qual st kV ce pm an ay ct),eS⟩) (c:XE K ay qual=B')
  (b:∀ us:List L',us.length=ps.length→Qaq (X2 "__init__" qual st kV ce pm an ay ct) ⟨us,[]⟩=pure (ps.zip us)):nO K mg C x qual st ps:=⟨⟨f,_,o8 l c,⟨xa,kc,a,i⟩,ZF X G g,.all b⟩⟩
theorem int_mk {n:Int} (X:K.In h) (G:h.Ns VU mg) (a:YZ K VU x=f' (f' (.int n t))):∃ t,mg x=f' (.int n t):=⟨t,ZF X G a⟩
theorem str_mk {n:C'} (X:K.In h) (G:h.Ns VU mg) (a:YZ K VU x=f' (f' (.str n t))):∃ t,mg x=f' (.str n t):=⟨t,ZF X G a⟩
end
section
open PySem.SeqAt
open AutoSeq1 (wpAny_loadPart')
end
section
variable {κ:Type} [DecidableEq κ] {knd:KeyKind prog w κ}
end
theorem FA:fU X (.type "int") (fun xs H Q=>∃ n:Int,xs=[.str (toString n)]∧0≤n∧n<10 ^ 10∧Q (.int n) H):=by
 intro aa s σ H xs us Q I r h
 obtain⟨n,rfl,h0,h1,q⟩:=h
 obtain⟨u,rfl,t,rfl⟩:=gX r
 exact Qol h0 h1 ⟨.int n,H,I.tok _,⟨_,O⟩,q⟩
section
open PySem.Builtin
open PySem.Builtin.Str
theorem Ex:∀ l:List (C'×VY),aB ((l.map (·.1)).map V.str) (strValues l)
 | []=>.nil
 | p::l=>.cons ⟨p.2,O⟩ (Ex l)
def Qh2:V→List V→Hp→VK→Prop:=fun x vs H Q=>∃ a b:C',x=.str a∧vs=[.str b]∧(b.length == 0)=K'∧a.length + 2≤S'∧∀ p,H p=i'→Q (.ref p) (upd H p (.lst ((VX a b).map V.str)))
theorem zw:Zg X "str.split" Qh2:=by
 intro aa s σ H x xs v us Q I rx r h
 obtain⟨a,b,rfl,rfl,hb,ha,q⟩:=h
 obtain⟨t,rfl⟩:=rx
 obtain⟨u,rfl,t',rfl⟩:=gX r
 have aT:∀ (l:List (C'×VY)) (k:Nat),l.map (·.1)=VX a b→EP X aa σ Q (.ref s.heap.objs.size) { s with heap:=s.heap.push { cls:=.type "list",data:=.seq (strValues l).toArray },toks:=k }:=fun l k e=>by
  refine⟨.ref _,_,I.QbE (t':=k) (Ex l) ?_,O,?_⟩
  .rw[Q3,e]
   exact RT (split_le a b) ha
  .rw[e]
   exact q _ I.fresh
 have hn:(partsBetween a (ZI a b 0 a.length (a.length + 1)) b.length).length≤S':=by
  have e1:=StrLaws.occ_length_le a b 0 a.length (a.length + 1)
  rw[length_partsBetween]
  lia
 cases h1:(decide (a.length<b.length) || decide (strKind a<strKind b))
 .cases hf:(ZI a b 0 a.length (a.length + 1)).isEmpty
  .refine X9 ZC (Qak _ _ _) QcA (Qcw _ _) (meets_str_split_sep a b t t' h1 hb hf (by lia) hn) ?_
   show EP X aa σ Q (.ref s.heap.objs.size) { s with toks:=_,heap:=s.heap.push { cls:=.type "list",data:=.seq (strsFrom s.toks (partsBetween a (ZI a b 0 a.length (a.length + 1)) b.length)).toArray } }
   rw[strsFrom_eq]
   exact aT (numbered s.toks _) _ ((numbered_texts _ _).trans ((UF (ne_true_of_eq_false h1)).trans (UF (ne_true_of_eq_false hf))).symm)
  .exact X9 ZC (Qak _ _ _) QcA (Qcw _ _) (meets_str_split_not_found a b t t' h1 hb hf) (aT [(a,t)] s.toks ((UF (ne_true_of_eq_false h1)).trans (UH hf)).symm)
 .exact X9 ZC (Qak _ _ _) QcA (Qcw _ _) (meets_str_split_cannot_occur a b t t' h1) (aT [(a,t)] s.toks (UH h1).symm)
def jl (c:Nat):List (List Nat)→List Nat
 | []=>[]
 | [x]=>x
 | x::y::r=>x++c::jl c (y::r)
theorem zC (c:Nat):∀ ys:List C',(Qan ⟨#[c]⟩ ys).cps.toList=jl c (ys.map fun y=>y.cps.toList)
 | []=>rfl
 | [x]=>rfl
 | x::y::r=>by
  show(x++(⟨#[c]⟩:C')++Qan ⟨#[c]⟩ (y::r)).cps.toList=_
  rw[QeI,QeI,Uq,Uq,zC c (y::r),Sn]
  rfl
theorem Dy {c:Nat}:∀ {a b a' b':List Nat},c∉a→c∉a'→a++c::b=a'++c::b'→a=a'∧b=b'
 | [],_,[],_,_,_,e=>⟨O,(Qag e).2⟩
 | [],_,x::a',_,_,h',e=>UR (RS.mpr (.inl (Qag e).1)) h'
 | x::a,_,[],_,h,_,e=>UR (RS.mpr (.inl (Qag e).1.symm)) h
 | x::a,_,y::a',_,h,h',e=>by
  obtain⟨e1,e2⟩:=Qag e
  obtain⟨r1,r2⟩:=Dy (fun z=>h (Rc _ z)) (fun z=>h' (Rc _ z)) e2
  exact⟨by rw[e1,r1],r2⟩
theorem Dl {c:Nat}:∀ {xs ys:List (List Nat)},xs≠[]→ys≠[]→(∀ x∈xs,c∉x)→(∀ y∈ys,c∉y)→jl c xs=jl c ys→xs=ys
 | [],_,h,_,_,_,_=>UR O h
 | _,[],_,h,_,_,_=>UR O h
 | [x],[y],_,_,_,_,e=>by rw[show x=y from e]
 | [x],y::y'::r,_,_,hx,_,e=>UR (show c∈x by rw[show x=y++c::jl c (y'::r) from e];simp) (hx x (Rr ..))
 | x::x'::r,[y],_,_,_,hy,e=>UR (show c∈y by rw[show y=x++c::jl c (x'::r) from e.symm];simp) (hy y (Rr ..))
 | x::x'::r,y::y'::r',_,_,hx,hy,e=>by
  obtain⟨e1,e2⟩:=Dy (hx x (Rr ..)) (hy y (Rr ..)) (show x++c::jl c (x'::r)=y++c::jl c (y'::r') from e)
  rw[e1,Dl (by simp) (by simp) (fun z hz=>hx z (Rc _ hz)) (fun z hz=>hy z (Rc _ hz)) e2]
theorem Dj:∀ {xs ys:List C'},(xs.map fun y=>y.cps.toList)=(ys.map fun y=>y.cps.toList)→xs=ys
 | [],[],_=>rfl
 | [],_::_,e=>by simp at e
 | _::_,[],e=>by simp at e
 | x::xs,y::ys,e=>by
  rw[RL,RL] at e
  obtain⟨e1,e2⟩:=Qag e
  rw[str_of_list e1,Dj e2]
theorem EY {ys:List C'} (h0:ys≠[]) (h:∀ y∈ys,c∉y.cps.toList):VX (W2 ⟨#[c]⟩ ys) ⟨#[c]⟩=ys:=by
 have e1:W2 ⟨#[c]⟩ ys=Qan ⟨#[c]⟩ ys:=QeM _ _
 rw[e1]
 refine Dj (Dl (c:=c) ?_ (by simpa using h0) (fun x hx=>?_) (fun x hx=>?_) ?_)
 .intro z
  have:=split_pos (Qan ⟨#[c]⟩ ys) ⟨#[c]⟩
  rw[Ur.mp z] at this
  simp at this
 .obtain⟨y,hy,rfl⟩:=Wq.mp hx
  exact StrLaws.split_free _ c y hy
 .obtain⟨y,hy,rfl⟩:=Wq.mp hx
  exact h y hy
 .rw[← zC,← zC,QeZ]
end
def Qh3 (t:TE):TE:=fun σ H Q=>t σ H fun v H1=>∃ n:Int,v=.int n∧n.natAbs.log2<1920∧Q (.str (UI (toString n))) H1
theorem K8 {t:TE} (h:PE X value t):PE X (.FormattedValue value (-1) i' pos) (Qh3 t):=by
 intro aa s σ H Q I hh
 refine wpAny_FormattedValue_plain (UP (h aa s σ H _ I hh) fun v s1=>L2.U1 fun x H1 I1 r1 aX=>?_)
 obtain⟨n,e,hn,q⟩:=aX
 subst e
 obtain⟨tk,rfl⟩:=r1
 exact wpAny_formatField_int hn ⟨.str _,H1,I1.tok _,⟨_,O⟩,q⟩
abbrev TJ:=St→Hp→C'→(C'→Hp→Prop)→Prop
def PJ (X:Cx) (es:List UY) (tj:TJ):Prop:=∀ aa s σ H acc Q,Inv X aa σ H s→tj σ H acc Q→Joins (UD X.prog X.w) X.A X.xe (evalEach es X.env) acc (fun oB s1=>∃ H1,Inv X aa σ H1 s1∧Q oB H1) s
def Qh4:TJ:=fun _ H acc Q=>Q acc H
def Qh5 (t:TE) (u:TJ):TJ:=fun σ H acc Q=>t σ H fun v H1=>∃ y,v=.str y∧(acc++y).length≤S'∧u σ H1 (acc++y) Q
theorem Qh6:PJ X [] Qh4:=fun _ _ _ H _ _ I h=>⟨H,I,h⟩
theorem Cd {t:TE}{u:TJ} (h:PE X e t) (k:PJ X es u):PJ X (e::es) (Qh5 t u):=by
 intro aa s σ H acc Q I hh
 show M' _ _ (UV e X.env) (fun v s₁=>∃ y t,v=.str y t∧(acc++y).length≤S'∧Joins _ _ _ (evalEach es X.env) (acc++y) _ s₁) _ s
 refine UP (h aa s σ H _ I hh) fun v s1=>L2.U1 fun x H1 I1 r1 aX=>?_
 obtain⟨y,e,hy,q⟩:=aX
 subst e
 obtain⟨tk,rfl⟩:=r1
 exact⟨y,tk,O,hy,k aa s1 σ H1 _ Q I1 q⟩
theorem Pr {e1 e2:UY}{u:TJ} (h:PJ X (e1::e2::es) u):PE X (.JoinedStr (e1::e2::es) pos) (fun σ H Q=>u σ H Vr fun oB H1=>oB.length≤S'∧Q (.str oB) H1):=by
 intro aa s σ H Q I hh
 refine wpAny_JoinedStr ?_
 have j:=h aa s σ H _ _ I hh
 have mono:∀ (ps:List (V3 L')) (acc:C') (s:UG) (Q Q':C'→UG→Prop),(∀ o s,Q o s→Q' o s)→Joins (UD X.prog X.w) X.A X.xe ps acc Q s→Joins (UD X.prog X.w) X.A X.xe ps acc Q' s:=fun ps=>by
  induction ps with
  | nil=>exact fun acc s Q Q' k h=>k _ _ h
  | cons p ps ih=>exact fun acc s Q Q' k h=>RP h (fun v s1 ⟨y,t,e,hz,r⟩=>⟨y,t,e,hz,ih _ _ _ _ k r⟩) fun _ _ e=>e
 exact mono _ _ _ _ _ (fun oB s1 ⟨H1,I1,hz,q⟩=>⟨hz,.str oB,H1,I1.tok _,⟨_,O⟩,q⟩) j
def KD (prog:Vz) (w:Vw) (K:R') (a:F') (kvs:List (Key×V)):Prop:=(a == We)=K'∧∃ vs,KV kvs vs∧∃ o,K.lookup a=f' o∧o.IsDictOf (b9 prog w) vs
theorem Inv.kd {a:F'} (I:Inv X aa σ H s) (h:KD X.prog X.w X.K a kvs):(a == We)=K'∧∃ vs,KV kvs vs∧s.heap.DictOf (b9 X.prog X.w) a vs:=by
 obtain⟨hs,vs,r,o,hk,hd⟩:=h
 exact⟨hs,vs,r,U6.dictOf_iff.mpr ⟨o,I.U9 a o hk,hd⟩⟩
def Qh7 (prog:Vz) (w:Vw) (K:R') (td ty:TE):TE:=fun σ H Q=>td σ H fun x H1=>ty σ H1 fun y H2=>∃ a kvs k v,x=.ref a∧KD prog w K a kvs∧y=kV k∧a8 kvs k=f' v∧Q v H2
theorem OQ {o i:UY}{td ty:TE} (ho:PE X o td) (hi:PE X i ty) (hs:QbG i):PE X (.Subscript o i pos) (Qh7 X.prog X.w X.K td ty):=by
 intro aa s σ H Q I h
 refine DZ Qez.lookup hs (UP (ho aa s σ H _ I h) fun u s1=>L2.U1 fun x H1 I1 rx q1=>UP (hi aa s1 σ H1 _ I1 q1) fun iv s2=>L2.U1 fun y H2 I2 ry aX=>?_)
 obtain⟨a,kvs,k,v,ex,g,ey,l,q2⟩:=aX
 subst ex
 subst ey
 obtain rfl:u=UQ a:=rx
 obtain⟨_,vs,rel,dd⟩:=I2.kd g
 obtain⟨w',hw,d8⟩:=ee.some_of (v:=v) (o:=Ya vs k) (by rw[← l];exact rel.val k)
 exact⟨dd.typeIs,QfZ (iQ ry) dd.mapOf hw ⟨v,H2,I2.tok _,d8,q2⟩⟩
def Qh8 (prog:Vz) (w:Vw) (K:R') (ty td:TE):TE:=fun σ H Q=>ty σ H fun y H1=>td σ H1 fun x H2=>∃ a kvs k,x=.ref a∧KD prog w K a kvs∧y=kV k∧Q (.bl (!(a8 kvs k).isSome)) H2
theorem Pt {o i:UY}{td ty:TE} (hi:PE X i ty) (ho:PE X o td):PC X .NotIn i o (Qh8 X.prog X.w X.K ty td):=by
 intro aa s σ H Q I h
 refine UP (hi aa s σ H _ I h) fun iv s1=>L2.U1 fun y H1 I1 ry q1=>UP (ho aa s1 σ H1 _ I1 q1) fun u s2=>L2.U1 fun x H2 I2 rx aX=>?_
 obtain⟨a,kvs,k,ex,g,ey,q2⟩:=aX
 subst ex
 subst ey
 obtain rfl:u=UQ a:=rx
 obtain⟨hd,vs,rel,dd⟩:=I2.kd g
 refine Qgi (iQ ry) hd dd.mapOf ?_
 rw[← (rel.val k).Zh]
 exact⟨.bl _,H2,I2.tok _,O,q2⟩
end L2
namespace HT
open PySem PySem.Spec PyProof.Rows
section
variable {prog:Vz}{w:Vw}{A:VQ}{E:L'→UG→Prop}{s:UG}
theorem zer {t sl:F'}{items:Array L'}{vl vu:L'}{lo hi:Option Int}{Q:L'→UG→Prop} (ht:Zb s.heap t items) (hs:s.heap.IsSliceOf sl vl vu .none) (pl:XQ vl lo) (pu:XQ vu hi)
  (hw:U3 items.size 0 lo=0∧U3 items.size items.size hi=items.size) (h:Q (.ref t) s):M' (UD prog w) A (Xq (.ref t) (.ref sl)) Q E s:=by
 obtain⟨os,kC,cU,mq⟩:=id hs
 have wG:s.TypeIs (.ref sl) "slice":=⟨os,kC,cU⟩
 unfold Xq
 try with_reducible refine wpAny_holding ?_
 first|refine Vv (V1 ?_)|skip
 refine Vv (QfO ht.typeIs (by decide) ?_)
 refine Vv (Qe7 (name:=UI "__getitem__") ht.typeIs YY
  (Qf1 YY ht.typeIs QfD ?_ (QfI _ _)))
 show M' _ _ (Qeq (.ref t) >>= _) _ _ s
 refine Vv (tupleItemsOf_ ht ?_)
 refine Vv (Qbm wG ?_)
 rw[UH (by decide)]
 refine Vv (Du hs pl pu ?_)
 have xu:(((U3 items.size 0 lo:Nat):Int) == 0 && (1:Int) == 1 && (U3 items.size items.size hi - U3 items.size 0 lo) == items.size)=B':=by
  rw[hw.1,hw.2]
  simp
 show M' _ _ (if (((U3 items.size 0 lo:Nat):Int) == 0 && (1:Int) == 1 && (U3 items.size items.size hi - U3 items.size 0 lo) == items.size)=B' then _ else _) _ _ s
 rw[UH xu]
 first
  | exact Vv (Vv (Qbm ht.typeIs (V1 (Vv (wpAny_rule (Vv (V1 ⟨_,O,V1 h⟩)))))))
  | exact Vv (Vv (Qbm ht.typeIs (V1 (Vv (wpAny_rule (V1 ⟨_,O,V1 h⟩))))))
end
end HT
namespace L2
variable {A:Around}{C f:Addr}{E:Value→Shared→Prop}{H:Hp}{Q:Flow→Shared→Prop}{R:RK}{X:Cx}{aI:List V}{aa:List (Addr×Obj)}{bm ds sub:List Value}{e:Expr}{es:List Expr}{fd:FuncData}{j x1:Nat}{pos:Pos}{ps sn:List Str}{s:Shared}{sp:Sp}{t:TA}{w:World}{x:Str}{σ:St}
open PySem PySem.Spec PyProof.Rows
def Qh9 (K:R'):V→Option Int→Option Int→Hp→VK→Prop:=fun x lo hi H Q=>∃ a xs,x=.ref a∧UW K H a xs ∧
 ((HT.U3 xs.length 0 lo=0∧HT.U3 xs.length xs.length hi=xs.length)→Q (.ref a) H)∧(¬ (HT.U3 xs.length 0 lo=0∧HT.U3 xs.length xs.length hi=xs.length)→∀ p,H p=i'→Q (.ref p) (upd H p (.tup (iM xs lo hi))))
theorem OW:SlR X (Qh9 X.K):=by
 intro aa s σ H x v vl vu lo hi sl Q I rx hs pl pu h
 obtain⟨a,xs,rfl,hx,q1,q2⟩:=h
 by_cases hw:HT.U3 xs.length 0 lo=0∧HT.U3 xs.length xs.length hi=xs.length
 .cases rx
  obtain⟨ah,r,ht,hz⟩:=I.tuple hx
  have av:ah.toArray.size=xs.length:=by rw[Re];exact r.length.symm
  exact⟨"tuple",_,YY.lookup,ht.typeIs,HT.zer ht hs pl pu (by rw[av];exact hw) ⟨.ref a,H,I,O,q1 hw⟩⟩
 .exact Qg9 aa s σ H _ v vl vu lo hi sl Q I rx hs pl pu ⟨a,xs,O,hx,hw,q2 hw⟩
section
variable {st:UY}{te ts:TE}{p2:Vx}
end
theorem ki {pr:Vz}{k:C'}{t:VY}:(b9 pr w).is (UN k) (.str k t)=B':=by
 show lq (UN k) (.str k t)=B'
 simp[lq,QcE]
theorem M8 {t a:F'}{dx:Option F'} (hp:PX X R) (I:Inv X aa σ H s) (fp:cJ X aa H a)
  (he:s.heap.get? a=f' { cls:=.ref C,dict:=dx,data:=.fields #[.ref t,.none,.none,.none,.bool B',.none] }) (hR:R σ (.ref C) dx H):M' (UD X.prog X.w) X.A (raiseNew (.ref a):V3 WG) Q X.xe s:=by
 obtain⟨f0,f1,f2,f3,f4,f5⟩:=id fp
 refine tW (s:=s) ?_ he O (by simp) fun h' o' i8 k1 k2 k3 k4 k5 k6 k7 k8=>?_
 .rcases I.XW with z|⟨b,cs,z,c⟩
  .exact .inl z
  .exact .inr ⟨b,cs,z,c.ZQ I.UJ,c.ZR f0⟩
 .have I':Inv X aa σ H { s with heap:=h' }:=I.turned (t':=s.toks) k1 f0 f1 f3 f4 f5
  refine hp aa σ H _ a (.ref C) dx i' I' ⟨fp,fun p q=>(by cases q),⟨⟨o',i8,k2,k3,k4,k5,k6,?_,?_⟩,fun p q=>(by cases q)⟩⟩ hR
  .rcases I.XW with z|⟨b,cs,z,c⟩
   .rw[z] at k8
    exact⟨[],⟨Su,fun j a q=>by simp at q⟩,k8⟩
   .rw[z] at k8
    exact⟨b::cs,c,k8⟩
  .exact k7
section
variable {nm q:C'}{N:F'}{bs:List L'}{hdct:Bool}{ab:Bool}{col:Option Bool}{dd:Option F'}{k0 k1 k2 k3 k5:Option L'}{newId:String}
theorem Nj {M:Model}{env:VZ}{x:V3 L'}{p1:Vx} (hb:bm.contains (.type "BaseException")=B')
  (hx:M' M A x (fun v s₁=>∃ e t dx,v=.ref e∧s₁.heap.get? C=f' (Qaj nm q C N bs bm hdct sn sub ab col dd k0 k1 k2 k3 k5 newId)∧s₁.heap.get? e=f' { cls:=.ref C,dict:=dx,data:=.fields #[.ref t,.none,.none,.none,.bool K',.none] } ∧
   ∀ h',(∀ b o,b≠e→s₁.heap.get? b=f' o→h'.get? b=f' o)→h'.get? e=f' { cls:=.ref C,dict:=dx,data:=.fields #[.ref t,.none,.none,.none,.bool B',.none] }→M' M A (raiseNew (.ref e):V3 WG) Q E { s₁ with heap:=h' }) E s) :
  M' M A (Qbq env (f' x) (f' (do let v ← UV (.Constant .none j p1) env;Yz pos;pure v))) Q E s:=by
 have mR:(UQ C::bm).contains (.type "BaseException")=B':=by rw[TF,hb,SH]
 unfold Qbq
 refine mT (RP hx (fun v s₁ z=>?_) fun _ _ y=>y)
 obtain⟨e,t,dx,rfl,oC,oe,z⟩:=z
 obtain⟨hp,g,d,tk,os⟩:=s₁
 refine mT (RC (mT (Qbl (mT (Sy (Q5 (mT (Q5 ?_))))))))
 dsimp only
 repeat (first|(with_reducible refine RW oe ?_)|(with_reducible refine RW oC ?_)|(with_reducible refine S3 oC ?_;rw[mR])|wp_step)
 have ne:e≠C:=fun w=>by
  rw[w] at oe
  cases oe.symm.trans oC
 have sL:=Rw (Xl (·.setIfInBounds 3 Vk)) oe rfl
 have A6:=Rw (Xl (·.setIfInBounds 4 (W1 B'))) sL rfl
 refine RW ((Ri _ _ ne).trans ((Ri _ _ ne).trans oC)) ?_
 repeat (first|(with_reducible refine RW A6 ?_)|wp_step)
 exact z _ (fun b o hb q=>(Ri _ _ (UM hb)).trans ((Ri _ _ (UM hb)).trans q)) A6
end
section
variable {np aw p1:Vx}
theorem NR {a:List UY} (hx:QbL s.heap C X1 bm "ValueError.__new__")
  (h:M' (UD X.prog X.w) X.A (UV (.Call (.Name x np) a [] aw) X.env) (fun v s₁=>∃ b t dx,v=.ref b∧(∀ o,s.heap.get? C=f' o→s₁.heap.get? C=f' o)∧s₁.heap.get? b=f' { cls:=.ref C,dict:=dx,data:=.fields #[.ref t,.none,.none,.none,.bool K',.none] } ∧
   ∀ h',(∀ c o,c≠b→s₁.heap.get? c=f' o→h'.get? c=f' o)→h'.get? b=f' { cls:=.ref C,dict:=dx,data:=.fields #[.ref t,.none,.none,.none,.bool B',.none] }→M' (UD X.prog X.w) X.A (raiseNew (.ref b):V3 WG) Q X.xe { s₁ with heap:=h' }) X.xe s) :
  M' (UD X.prog X.w) X.A (exec (.Raise (f' (.Call (.Name x np) a [] aw)) (f' (.Constant .none j p1)) pos) X.env) Q X.xe s:=by
 obtain⟨⟨nm,q,N,bs,hdct,sn,sub,ab,col,dd,k0,k1,k2,k3,k5,oC⟩,T⟩:=hx
 rw[Qgo]
 refine mT (Sy (Nj (C:=C) (nm:=nm) (q:=q) (N:=N) (bs:=bs) (bm:=bm) (hdct:=hdct) (sn:=sn) (sub:=sub) (ab:=ab) (col:=col) (dd:=dd) (k0:=k0) (k1:=k1) (k2:=k2) (k3:=k3) (k5:=k5) (newId:="ValueError.__new__") (T.hasType O) (mT (RP h (fun v s1 z=>mT (Sy (Q5 ?_))) fun _ _ y=>y))))
 obtain⟨b,t,dx,z1,z2,z3,z4⟩:=z
 exact⟨b,t,dx,z1,z2 _ oC,z3,z4⟩
variable {k:Nat}
theorem KE (hp:PX X R) (c:ZZ X.K C f) (F:cE X.prog X.w X.K X.mg X.base U8 k f fd ps sp) (hr:bw (k + 1) X.A) (hb:dR X.K fd ps ds) (hd:aB aI ds) (hg:Gl X x) (hm:X.mg x=f' (.ref C)) (ha:PA X (e::es) t)
  (Vi:(x == ("__debug__":C'))=K':=by decide) (he:UU (e::es) X.env=(K',UV e X.env)::UU es X.env:=by rfl) (bJ:(Vq aw (UU es X.env)).any (·.1)=K':=by rfl) :
  PS X (.Raise (f' (.Call (.Name x np) (e::es) [] aw)) (f' (.Constant .none j p1)) pos) (uM C sp aI R t):=by
 intro aa s σ H D I h
 obtain⟨JG,xc⟩:=lw I.U9 c.at_
 refine NR xc (RQ (lC I hg hm ?_ Vi))
 refine Yq (h₀:=X.base) I.ok.mod.W6 c.kp (UP (ha aw aa s σ H _ I h) fun us s1 ⟨vs,H1,I1,r,z,q⟩=>⟨I1.U9,?_⟩) he bJ
 obtain⟨Jt,⟨HA,q2,N2,GT,rb,Jo,wz,GZ,wq,vA,l0,l1,l2,l3,l5,qR⟩,_⟩:=lw I.ok.mod.W6 c.at_
 have C0:∀ o,s.heap.get? C=f' o→X.base.get? C=f' o:=fun o q=>by rw[I.bk _ _ qR] at q;rw[← q];exact qR
 obtain⟨bm,⟨nm,qn,N,bs,hdct,sn,sub,ab,col,dd,k0,k1,k2,k3,k5,oC⟩,T⟩:=lw I1.U9 c.at_
 have ie:(X.K.lookup f).map (·.cls)=f' (.type "function"):=Wg.mp c.fn
 obtain⟨oF,hF,hFc⟩:∃ oF,X.K.lookup f=f' oF∧oF.cls=.type "function":=by
  cases hk:X.K.lookup f with
  | none=>rw[hk] at ie;cases ie
  | some oF=>rw[hk] at ie;exact⟨oF,O,VE ie⟩
 have hz:us.length≤S':=by rw[← r.length];exact z
 have J:=I1
 obtain⟨aC,g,d,tk,os⟩:=s1
 refine yH QaQ T oC (XC I1.U9 c.init) (I1.U9 _ _ hF) hFc hz ?_
 have kk:∀ b o,aC.get? b=f' o→((aC.push (il us)).push (g0 C aC.objs.size)).get? b=f' o:=fun b o e=>Q4 _ (Q4 _ e)
 have oX:((aC.push (il us)).push (g0 C aC.objs.size)).get? (aC.objs.size + 1)=f' { cls:=.ref C,data:=.fields #[.ref aC.objs.size,.none,.none,.none,.bool K',.none] }:=by heap_get
 have fr:H1 (aC.objs.size + 1)=i':=J.UJ.fresh (RJ _)
 have I2:Inv X aa σ (upd H1 (aC.objs.size + 1) (cy C aC.objs.size (aC.objs.size + 1) i')) ⟨(aC.push (il us)).push (g0 C aC.objs.size),g,d,tk,os⟩:=
  J.laid (t':=tk) kk (RJ _) ⟨oX,⟨_,oX⟩,fun h1 h2 p1 p2=>p2 _ p1⟩
 have q':=q (aC.objs.size + 1) aC.objs.size fr
 have r2:aB (V.ref (aC.objs.size + 1)::(vs++aI)) (UQ (aC.objs.size + 1)::(us++ds)):=.cons O (r.append hd)
 have hl:(UQ (aC.objs.size + 1)::us++ds).length=ps.length:=by
  have e:=r2.length
  rw[F.len _ _ _ _ q'] at e
  exact e.symm
 refine Sl (Yv (F.run _ X.stack _ _ ⟨UQ (aC.objs.size + 1)::us,[]⟩ (UQ (aC.objs.size + 1)::(us++ds)) _ _ (R σ) (hr.make C us []) (I2.Zf.make C us []) (hb _ (UQ (aC.objs.size + 1)::us) I2.U9 hl) r2 q') fun rr s' cO=>?_)
 cases rr with
 | error e=>exact VL cO
 | ok fl=>
  cases fl with
  | ret u=>
   obtain⟨v,H',I3,rv,ev,dx,e3,q3⟩:=I2.after cO
   subst ev
   refine⟨rv,_,aC.objs.size,dx,O,fun o q=>I3.bk _ _ (C0 o q),(I3.UJ _ _ e3).1,fun h' k1 k2=>?_⟩
   have fp:cJ X aa (del H' (aC.objs.size + 1)) (aC.objs.size + 1):=J.WI (s:=⟨aC,g,d,tk,os⟩) (RJ _) ux
   obtain⟨f0,f1,f2,f3,f4,f5⟩:=id fp
   exact M8 hp ((I3.del e3).turned (t':=s'.toks) k1 f0 f1 f3 f4 f5) fp k2 q3
  | next=>exact VL cO
  | brk=>exact VL cO
  | cont=>exact VL cO
theorem Li (hp:PX X R) (c:lW X.prog X.w X.K X.mg X.base U8 k C x ps sp) (hr:bw (k + 1) X.A) (hg:Gl X x) (ha:PA X (e::es) t)
  (Vi:(x == ("__debug__":C'))=K':=by decide) (he:UU (e::es) X.env=(K',UV e X.env)::UU es X.env:=by rfl) (bJ:(Vq aw (UU es X.env)).any (·.1)=K':=by rfl) :
  PS X (.Raise (f' (.Call (.Name x np) (e::es) [] aw)) (f' (.Constant .none j p1)) pos) (uM C sp [] R t):=by
 obtain⟨f,fd,F,c',hm,hb⟩:=c.ex
 exact KE hp c' F hr hb .nil hg hm ha Vi he bJ
end
abbrev Cx.QaB (X:Cx) (a:F') (H₀:Hp) (pn:List (F'×UZ)):Cx:={ X with A:=X.A.mark (f' (.ref a)),H₀:=H₀,pn:=pn }
theorem K2 {body dB:List US}{np mO:Vx}{b₀:US}{su:List US}{Dc:F'}{t:TS}{tb:RK→TS}{te:TS} (B:Body X) (hex:X.ex=[]) (hp:PX X R) (po:∀ hd,PassesOwnAt (UD X.prog X.w) (X.A.mark hd) X.A X.env X.xe)
  (hg:Gl X x) (hm:X.mg x=f' (.ref Dc)) (hB:Vh X.K Dc (.type "BaseException")=f' B') (hT:Wc X.K (.ref Dc)=f' (.type "type")) (Vi:(x == ("__debug__":C'))=K')
  (hs:∀ a H₀ pn,PX (X.QaB a H₀ pn) R→VR (X.QaB a H₀ pn) (b₀::su) t)
  (hb:∀ (pn:List (F'×UZ)) (E:L'→UG→Prop) (R:RK),PX (X.tr pn E) R→Qao (UD X.prog X.w) X.A X.env E→VR (X.tr pn E) body (tb R)) (he:VR X dB te):PS X (.Try body [.ExceptHandler (f' (.Name x np)) i' (b₀::su) mO] dB [] pos) (Qdr X.K [(Dc,i',t)] tb te):=by
 intro aa s σ H D I h
 refine Qf2 ?_
 have to:∀ {aY σ' H' s'},Inv X aa σ' H' s'→Inv (X.tr (X.pn++aa) aY) [] σ' H' s':=fun {aY σ' H' s'} J=>{ J with pin:=fun p hp=>J.pin p (by simpa using hp),ok:={ J.ok with } }
 have ju:∀ {E' aY σ' H' s'},Inv (X.tr (X.pn++aa) E') aY σ' H' s'→Inv X aa σ' H' s':=fun {E' aY σ' H' s'} J=>{ J with pin:=fun p hp=>J.pin p (Rz _ hp),ok:={ J.ok with } }
 refine RP (hb (X.pn++aa) (fun e s₁=>M' (UD X.prog X.w) X.A (Qam e X.env) (fun _ s₂=>M' (UD X.prog X.w) X.A (Qbp e i') (fun _ s₃=>M' (UD X.prog X.w) X.A (handleBy e X.env [.ExceptHandler (f' (.Name x np)) i' (b₀::su) mO]) (SP X aa D) X.xe s₃) X.xe s₂) X.xe s₁)
  (pb X.K [(Dc,i',t)] D) ?_ QeX [] s σ H _ (to I) h) (fun f s1 z=>?_) fun _ _ z=>z
 .intro aY σ' H' s' a c dd tb J x hR
  have J':=ju J
  have x':X0 X aa H' s'.heap a c dd (tb.map fun T=>(T,Vk)):=⟨⟨x.fp.1,x.fp.2.1,x.fp.2.2.1,x.fp.2.2.2.1,x.fp.2.2.2.2.1,fun p hp=>x.fp.2.2.2.2.2 p (Rz _ hp)⟩,fun p q=>by
   have y:=x.Xh p q
   exact⟨y.1,y.2.1,y.2.2.1,y.2.2.2.1,y.2.2.2.2.1,fun p hp=>y.2.2.2.2.2 p (Rz _ hp)⟩,x.at_⟩
  refine J'.note B x' yp fun s2 T I2 x2=>?_
  refine I2.land x2 fun s3 I3 x3=>?_
  obtain⟨C,b,rfl,jv,h⟩:=hR
  obtain⟨o,vs,h1,hc,_⟩:=x3.at_.ob
  refine Tw (Qcn (zy I3 hg hm (zm I3.U9 h1 hc jv hB hT ?_) Vi)) (by intro q;cases q)
  cases b with
  | false=>exact(show False by simpa [pb] using h).elim
  | true=>
   refine Qff (I3.land x3 fun s4 I4 x4=>?_)
   obtain⟨o1,g1,g2,g3,JJ⟩:=I4.enter hex x4
   rw[UH rfl] at h
   have h0:=h a o1 x4.fp.1 g1 g2 g3
   generalize JV:eN (upd H' a (.UT o1 (.own a))) X.H₀=H0 at JJ
   have J5:Inv (X.QaB a H0 (X.pn++aa)) [] σ' (upd H' a (.UT o1 (.own a))) s4:={ JJ with pin:=fun p hp=>JJ.pin p (by simpa using hp),ok:={ JJ.ok with } }
   have bk:∀ {aY σ' H' s'},Inv (X.QaB a H0 (X.pn++aa)) aY σ' H' s'→Inv X aa σ' H' s':=fun {aY σ' A2 s'} J=>by
    have J6:Inv (X.hnd a H0) aa σ' A2 s':={ J with pin:=fun p hp=>J.pin p (Rz _ hp),ok:={ J.ok with } }
    subst JV
    exact I4.leave hex x4.fp J6
   refine RP (hs a H0 (X.pn++aa) ?_ [] s4 σ' _ D J5 h0) (fun f s5 z=>?_) fun e2 s5 z=>po _ e2 s5 z
   .intro AE σ2 H2 JI a2 c2 vA GH J2 y HL
    refine hp aa σ2 H2 JI a2 c2 vA GH (bk J2) ⟨⟨y.fp.1,y.fp.2.1,y.fp.2.2.1,y.fp.2.2.2.1,y.fp.2.2.2.2.1,fun p hp=>y.fp.2.2.2.2.2 p (Rz _ hp)⟩,fun p q=>?_,y.at_⟩ HL
    have y:=y.Xh p q
    exact⟨y.1,y.2.1,y.2.2.1,y.2.2.2.1,y.2.2.2.2.1,fun p hp=>y.2.2.2.2.2 p (Rz _ hp)⟩
   .cases f with
    | next=>obtain⟨σ',H',J,q⟩:=z;exact⟨σ',H',bk J,q⟩
    | brk=>obtain⟨σ',H',J,q⟩:=z;exact⟨σ',H',bk J,q⟩
    | cont=>obtain⟨σ',H',J,q⟩:=z;exact⟨σ',H',bk J,q⟩
    | ret u=>obtain⟨v,σ',H',J,q⟩:=z;exact⟨v,σ',H',bk J,q⟩
 .cases f with
  | next=>obtain⟨σ',H',J,q⟩:=z;exact he aa s1 σ' H' D (ju J) q
  | brk=>obtain⟨σ',H',J,q⟩:=z;exact⟨σ',H',ju J,q⟩
  | cont=>obtain⟨σ',H',J,q⟩:=z;exact⟨σ',H',ju J,q⟩
  | ret u=>obtain⟨v,σ',H',J,q⟩:=z;exact⟨v,σ',H',ju J,q⟩
section
variable {prog:Vz}
end
theorem ip:PE X e (fun _ _ _=>False):=by
 intro aa s σ H Q I h
 exact h.elim
def Qdu:Option V→Option C'
 | some (.str x)=>f' x
 | _=>i'
abbrev Txs:=List (Option C')
structure PStr (X:Cx) (e:UY) (f:Txs→Option C'):Prop where
 pe:PE X e (fun σ H Q=>∃ x,f (σ.map Qdu)=f' x∧Q (.str x) H)
structure PStrs (X:Cx) (es:List UY) (f:Txs→Option (List C')):Prop where
 pa:PA X es (fun σ H Q=>∃ l,f (σ.map Qdu)=f' l∧Q (l.map V.str) H)
theorem Inv.UT {a:F'}{o:UZ} (hex:X.ex=[]) (I:Inv X aa σ H s) (fp:cJ X aa H a) (he:s.heap.get? a=f' o):Inv X aa σ (upd H a (.UT o (.own a))) s:=by
 obtain⟨f0,f1,f2,f3,f4,f5⟩:=fp
 have qQ:X.s₀.heap.objs.size≤a:=by
  rcases f3 with z|z
  .rw[hex] at z;cases z
  .exact z
 have na:∀ b u,H b=f' u→b≠a:=fun b u q=>aq q f0
 have old:∀ b ob,X.s₀.heap.get? b=f' ob→b≠a:=fun b ob q=>Rb (Rq (Q6 q) qQ)
 have aR:∀ b u,H b=f' u→upd H a (.UT o (.own a)) b=f' u:=fun b u q=>by rw[aj (na b u q)];exact q
 have cf:∀ b,b≠a→H b=i'→upd H a (.UT o (.own a)) b=i':=fun b z q=>by rw[aj z];exact q
 obtain⟨b1,b2,b3,b4,b5,b6,b7⟩:=I.base
 refine { I with base:=⟨b1,b2,fun b ob q n x=>cf b (old b ob q) (b3 b ob q n x),b4,fun b xs q=>aR _ _ (b5 b xs q),fun b ob u q=>aR _ _ (b6 b ob u q),fun b p q' q=>aR _ _ (b7 b p q' q)⟩,free:=cf _ (UM f1) I.free,V0:=fun y cl q=>cf _ (f4 y cl q) (I.V0 y cl q),pin:=fun p hp=>?_,UJ:=fun b u q=>?_ }
 .obtain⟨p1,p2,p3⟩:=I.pin p hp
  exact⟨p1,cf _ (f5 p hp) p2,p3⟩
 .by_cases z:b=a
  .subst z
   rw[ag] at q;cases q
   exact⟨he,⟨_,he⟩⟩
  .rw[aj z] at q
   exact(I.UJ b u q).WS (fun c' u' _ r=>r) (fun c' r=>aR _ _ r) (fun c' xs r=>aR _ _ r) fun c' ob r=>aR _ _ r
section
variable {np aw:Vx}{k:Nat}
def Qia (C:F') (sp:Sp) (t:TA):TE:=fun σ H Q=>t σ H fun vs H1=>vs.length≤S'∧∀ a t',H1 a=i' →
 sp (.ref a::(vs++[])) (upd H1 a (cy C t' a i')) (fun v H2=>v=.UO∧∃ dx,H2 a=f' (cy C t' a dx)∧∀ o:UZ,o.cls=.ref C→o.dict=dx→(∃ vs,o.data=.fields vs)→Q (.ref a) (upd (del H2 a) a (.UT o (.own a)))) (fun _ _ _=>False)
theorem My (hex:X.ex=[]) (c:ZZ X.K C f) (F:cE X.prog X.w X.K X.mg X.base U8 k f fd ps sp) (hr:bw (k + 1) X.A) (hb:dR X.K fd ps ds) (hd:aB aI ds) (hg:Gl X x) (hm:X.mg x=f' (.ref C)) (ha:PA X (e::es) t)
  (Vi:(x == ("__debug__":C'))=K':=by decide) (he:UU (e::es) X.env=(K',UV e X.env)::UU es X.env:=by rfl) (bJ:(Vq aw (UU es X.env)).any (·.1)=K':=by rfl) :
  PE X (.Call (.Name x np) (e::es) [] aw) (fun σ H Q=>t σ H fun vs H1=>vs.length≤S'∧∀ a t',H1 a=i' →
   sp (.ref a::(vs++aI)) (upd H1 a (cy C t' a i')) (fun v H2=>v=.UO∧∃ dx,H2 a=f' (cy C t' a dx)∧∀ o:UZ,o.cls=.ref C→o.dict=dx→(∃ vs,o.data=.fields vs)→Q (.ref a) (upd (del H2 a) a (.UT o (.own a)))) (fun _ _ _=>False)):=by
 intro aa s σ H Q I h
 refine RQ (lC I hg hm ?_ Vi)
 refine Yq (h₀:=X.base) I.ok.mod.W6 c.kp (UP (ha aw aa s σ H _ I h) fun us s1 ⟨vs,H1,I1,r,z,q⟩=>⟨I1.U9,?_⟩) he bJ
 obtain⟨bm,⟨nm,qn,N,bs,hdct,sn,sub,ab,col,dd,k0,k1,k2,k3,k5,oC⟩,T⟩:=lw I1.U9 c.at_
 have ie:(X.K.lookup f).map (·.cls)=f' (.type "function"):=Wg.mp c.fn
 obtain⟨oF,hF,hFc⟩:∃ oF,X.K.lookup f=f' oF∧oF.cls=.type "function":=by
  cases hk:X.K.lookup f with
  | none=>rw[hk] at ie;cases ie
  | some oF=>rw[hk] at ie;exact⟨oF,O,VE ie⟩
 have hz:us.length≤S':=by rw[← r.length];exact z
 have J:=I1
 obtain⟨aC,g,d,tk,os⟩:=s1
 refine yH QaQ T oC (XC I1.U9 c.init) (I1.U9 _ _ hF) hFc hz ?_
 have kk:∀ b o,aC.get? b=f' o→((aC.push (il us)).push (g0 C aC.objs.size)).get? b=f' o:=fun b o e=>Q4 _ (Q4 _ e)
 have oX:((aC.push (il us)).push (g0 C aC.objs.size)).get? (aC.objs.size + 1)=f' { cls:=.ref C,data:=.fields #[.ref aC.objs.size,.none,.none,.none,.bool K',.none] }:=by heap_get
 have fr:H1 (aC.objs.size + 1)=i':=J.UJ.fresh (RJ _)
 have I2:Inv X aa σ (upd H1 (aC.objs.size + 1) (cy C aC.objs.size (aC.objs.size + 1) i')) ⟨(aC.push (il us)).push (g0 C aC.objs.size),g,d,tk,os⟩:=
  J.laid (t':=tk) kk (RJ _) ⟨oX,⟨_,oX⟩,fun h1 h2 p1 p2=>p2 _ p1⟩
 have q':=q (aC.objs.size + 1) aC.objs.size fr
 have r2:aB (V.ref (aC.objs.size + 1)::(vs++aI)) (UQ (aC.objs.size + 1)::(us++ds)):=.cons O (r.append hd)
 have hl:(UQ (aC.objs.size + 1)::us++ds).length=ps.length:=by
  have e:=r2.length
  rw[F.len _ _ _ _ q'] at e
  exact e.symm
 refine Sl (Yv (F.run _ X.stack _ _ ⟨UQ (aC.objs.size + 1)::us,[]⟩ (UQ (aC.objs.size + 1)::(us++ds)) _ _ _ (hr.make C us []) (I2.Zf.make C us []) (hb _ (UQ (aC.objs.size + 1)::us) I2.U9 hl) r2 q') fun rr s' cO=>?_)
 cases rr with
 | error e=>exact VL cO
 | ok fl=>
  cases fl with
  | ret u=>
   obtain⟨v,H',I3,rv,ev,dx,e3,q3⟩:=I2.after cO
   subst ev
   have fp:cJ X aa (del H' (aC.objs.size + 1)) (aC.objs.size + 1):=J.WI (s:=⟨aC,g,d,tk,os⟩) (RJ _) ux
   exact⟨rv,.ref (aC.objs.size + 1),_,Inv.UT hex (I3.del e3) fp (I3.UJ _ _ e3).1,O,q3 _ O O ⟨_,O⟩⟩
  | next=>exact VL cO
  | brk=>exact VL cO
  | cont=>exact VL cO
theorem t8 (c:lW X.prog X.w X.K X.mg X.base U8 k C x ps sp) (hr:bw (k + 1) X.A) (hg:Gl X x) (ha:PA X (e::es) t) (hex:X.ex=[]:=by rfl)
  (Vi:(x == ("__debug__":C'))=K':=by decide) (he:UU (e::es) X.env=(K',UV e X.env)::UU es X.env:=by rfl) (bJ:(Vq aw (UU es X.env)).any (·.1)=K':=by rfl) :
  PE X (.Call (.Name x np) (e::es) [] aw) (Qia C sp t):=by
 obtain⟨f,fd,F,c',hm,hb⟩:=c.ex
 exact My hex c' F hr hb .nil hg hm ha Vi he bJ
end
structure Wa (X:Cx) (e:UY) (t:TE):Prop where
 h:PE X e t
structure Zj (X:Cx) (es:List UY) (t:TA):Prop where
 h:PA X es t
structure PSb (X:Cx) (st:US) (t:TS):Prop where
 h:PS X st t
structure QaC (X:Cx) (ss:List US) (t:TS):Prop where
 h:VR X ss t
section
variable {a b:UY}{te ta tb:TE}{r:R2}
theorem gr:Zj X [] lV:=⟨ai⟩
theorem bP (h:Wa X e te) (hs:Zj X es t) (he:UU (e::es) X.env=(K',UV e X.env)::UU es X.env:=by rfl):Zj X (e::es) (Qde te t):=⟨af h.h hs.h he⟩
theorem j9 (h:Zj X es t):Wa X (.List es pos) (QbC t):=⟨bY h.h⟩
theorem zu  (h:Zj X es t):Wa X (.Tuple es x1 pos) (Qdf t):=⟨gk h.h⟩
theorem eI {i:Int}:Wa X (.Constant (.int i) j pos) (tC (.int i)):=⟨au⟩
theorem pC:Wa X (.Constant (.str x) j pos) (tC (.str x)):=⟨bh⟩
theorem Z0 {op:Qbu} (h:VF X (Xo op) r) (ha:Wa X a ta) (hb:Wa X b tb):Wa X (.BinOp a op b pos) (YG r ta tb):=⟨br h ha.h hb.h⟩
theorem Qdv (h:YH X r) (ha:Wa X a ta) (hb:Wa X b tb) (p:C7 b):Wa X (.Subscript a b pos) (YG r ta tb):=⟨aK h ha.h hb.h p⟩
theorem Qib {keys:List (Option UY)}{bH:List UY}{i9:List (TE×TE)} (h:ZY X pos keys bH i9) (h1:(keys.all fun x=>x.isSome)=B') (h2:keys.length=bH.length) (h3:keys≠[]) (h4:keys.length≤15):Wa X (.Dict keys bH pos) (Qdk i9):=⟨Dq h h1 h2 h3 h4⟩
theorem yW {k:Nat}{p:Vx} (c:Vd X.prog X.w X.K X.mg X.base (Vn X.prog X.w) k x ps aI sp) (hp:PX X R) (hr:bw k X.A) (hg:Gl X x) (ha:Zj X (e::es) t) (Vi:(x == ("__debug__":C'))=K':=by decide)
  (he:UU (e::es) X.env=(K',UV e X.env)::UU es X.env:=by rfl) (bJ:(Vq pos (UU es X.env)).any (·.1)=K':=by rfl):PE X (.Call (.Name x p) (e::es) [] pos) (CC sp aI R t):=fe c hp hr hg ha.h Vi he bJ
variable {st:US}{bb ss body:List US}{u v:TS}{c:UY}{tc:TT}
theorem Qic (h:PSb X st u):QaC X [st] u:=⟨ak h.h⟩
theorem Oz (h:PSb X st u) (hr:QaC X bb v):QaC X (st::bb) (Qc3 u v):=⟨ao h.h hr.h⟩
theorem Qid (hc:PT X c tc) (ha:QaC X ss u) (hb:VR X bb v):PS X (.If c ss bb pos) (Qc4 tc u v):=aU hc ha.h hb
theorem Qie {tg iter:UY}{g:TG} (h1:Qao (UD X.prog X.w) X.A X.env X.xe) (h2:X.calm=B') (hi:Wa X iter te) (hg:PG X tg g) (hb:VR X body u) (hf:∀ x:L',Qa9 iter X.env x=pure x:=by intro x;rfl):PSb X (.For tg iter body [] pos) (Qda (Qc9 X.K te) g u):=⟨ei h1 h2 (bV hi.h) hg hb hf⟩
end
end L2
namespace K07
open PySem L2
def top (i:Nat):US:=QnJ.main.body.getD i (.Pass ⟨0,0,0,0⟩)
abbrev E9:US:=dk (top 10) 0
theorem NW:aL ["self","name"] ["self","name"] (az E9):=.of (by decide +kernel)
abbrev EG:US:=dk (top 11) 0
theorem OV:aL ["self","number"] ["self","number"] (az EG):=.of (by decide +kernel)
abbrev FL:US:=dk (top 12) 0
theorem Qf:aL ["self","number"] ["self","number"] (az FL):=.of (by decide +kernel)
abbrev D7:US:=dk (top 13) 0
theorem PL:aL ["self","ring"] ["self","ring"] (az D7):=.of (by decide +kernel)
abbrev xZ:US:=top 25
theorem OO:aL ["name"] ["name"] (az xZ):=.of (by decide +kernel)
abbrev DS:US:=top 26
theorem OT:aL ["number"] ["number"] (az DS):=.of (by decide +kernel)
abbrev CA:US:=top 27
theorem Pd:aL ["number","least","greatest"] ["number","least","greatest"] (az CA):=.of (by decide +kernel)
abbrev CB:US:=dk (top 28) 0
theorem Pq:aL ["self"] ["self"] (az CB):=.of (by decide +kernel)
abbrev va:US:=dk (top 28) 1
theorem NM:aL ["self","name","half"] ["self","name","half"] (az va):=.of (by decide +kernel)
abbrev rH:US:=dk (top 28) 2
theorem ER:aL ["self","one","other","span","weight","number"] ["self","one","other","span","weight"] (az rH):=.of (by decide +kernel)
abbrev Fz:US:=dk (top 28) 3
theorem J4:aL ["self","one","other"] ["self","one","other"] (az Fz):=.of (by decide +kernel)
abbrev CJ:US:=dk (top 28) 4
theorem Pw:aL ["self","one","other","number"] ["self","one","other","number"] (az CJ):=.of (by decide +kernel)
abbrev Eb:US:=dk (top 28) 5
theorem Mt:aL ["self","number"] ["self","number"] (az Eb):=.of (by decide +kernel)
abbrev ED:US:=dk (top 28) 6
theorem ME:aL ["self"] ["self"] (az ED):=.of (by decide +kernel)
abbrev yN:US:=dk (top 28) 8
theorem Mi:aL ["self"] ["self"] (az yN):=.of (by decide +kernel)
abbrev zn:US:=dk (top 28) 9
theorem MK:aL ["self"] ["self"] (az zn):=.of (by decide +kernel)
abbrev yR:US:=dk (top 28) 10
theorem PQ:aL ["self"] ["self"] (az yR):=.of (by decide +kernel)
abbrev Cz:US:=dk (top 28) 11
theorem Ng:aL ["self","name"] ["self","name"] (az Cz):=.of (by decide +kernel)
abbrev DI:US:=dk (top 28) 12
theorem J7:aL ["self","one","other"] ["self","one","other"] (az DI):=.of (by decide +kernel)
abbrev yt:US:=top 30
theorem O7:aL ["count","wishes","places"] ["count","wishes","places"] (az yt):=.of (by decide +kernel)
abbrev xO:US:=top 31
theorem Kw:aL ["wishes","places"] ["wishes","places"] (az xO):=.of (by decide +kernel)
abbrev yV:US:=top 32
theorem Me:aL ["wishes"] ["wishes"] (az yV):=.of (by decide +kernel)
abbrev Et:US:=top 33
theorem ur:aL ["count","wishes","amounts","left","wish","amount"] ["count","wishes","amounts"] (az Et):=.of (by decide +kernel)
abbrev uw:US:=top 34
theorem L8:aL ["count","wishes","flow"] ["count","wishes","flow"] (az uw):=.of (by decide +kernel)
abbrev nC:US:=dk (top 37) 0
theorem yu:aL ["self","count","wishes","number","wish"] ["self","count","wishes"] (az nC):=.of (by decide +kernel)
abbrev EN:US:=dk (top 37) 1
theorem O2:aL ["self","number"] ["self","number"] (az EN):=.of (by decide +kernel)
abbrev Qdw:US:=top 38
theorem oW:aL ["layout","count","pushers","pushed","time"] ["layout"] (az Qdw):=.of (by decide +kernel)
abbrev FO:US:=top 39
theorem o5:aL ["layout","pushers","pushed","number","other","lacking"] ["layout","pushers"] (az FO):=.of (by decide +kernel)
abbrev Ea:US:=top 40
theorem uQ:aL ["layout","pushers","point","time","ring"] ["layout","pushers","point"] (az Ea):=.of (by decide +kernel)
abbrev yT:US:=top 46
theorem o0:aL ["count","wishes","parts","wish","old","new"] ["count","wishes"] (az yT):=.of (by decide +kernel)
abbrev yv:US:=top 47
theorem uL:aL ["places","parts","least","place","part"] ["places","parts"] (az yv):=.of (by decide +kernel)
abbrev Ej:US:=top 48
theorem E6:aL ["weights","worths"] ["weights"] (az Ej):=.of (by decide +kernel)
abbrev rX:US:=top 49
theorem uO:aL ["count","wishes","layout","weights","worth"] ["count","wishes"] (az rX):=.of (by decide +kernel)
abbrev EZ:US:=dk (top 52) 0
theorem KM:aL ["self","name","wide"] ["self","name","wide"] (az EZ):=.of (by decide +kernel)
abbrev FG:US:=dk (top 52) 1
theorem M4:aL ["self"] ["self"] (az FG):=.of (by decide +kernel)
abbrev Qdx:US:=top 55
theorem li:aL ["arrows","start","end","ways","waiting","point","number","one","other","span","weight"] ["arrows","start","end"] (az Qdx):=.of (by decide +kernel)
abbrev FV:US:=top 56
theorem xJ:aL ["net","kept","arrow"] ["net"] (az FV):=.of (by decide +kernel)
abbrev zK:US:=top 57
theorem Fk:aL ["net","kept"] ["net"] (az zK):=.of (by decide +kernel)
abbrev DK:US:=top 65
theorem zk:aL ["rows","marks","row"] ["rows"] (az DK):=.of (by decide +kernel)
abbrev zS:US:=top 72
theorem ii:aL ["net","numbers","turned_about","wishes","number","one","other","span","weight"] ["net"] (az zS):=.of (by decide +kernel)
abbrev yO:US:=top 73
theorem MW:aL ["net","levels"] ["net","levels"] (az yO):=.of (by decide +kernel)
abbrev Dx:US:=top 74
theorem M6:aL ["net","levels"] ["net","levels"] (az Dx):=.of (by decide +kernel)
abbrev E5:US:=top 75
theorem Px:aL ["net","levels"] ["net","levels"] (az E5):=.of (by decide +kernel)
abbrev D8:US:=top 76
theorem yG:aL ["net","points","answer"] ["net"] (az D8):=.of (by decide +kernel)
abbrev zB:US:=top 82
theorem zb:aL ["rows","marks","row"] ["rows"] (az zB):=.of (by decide +kernel)
abbrev uv:US:=top 107
theorem MR:aL ["rows","places"] ["rows","places"] (az uv):=.of (by decide +kernel)
abbrev zI:US:=top 112
theorem O0:aL ["word"] ["word"] (az zI):=.of (by decide +kernel)
abbrev uS:US:=top 113
theorem Di:aL ["words","needed","left_out","missing"] ["words","needed","left_out"] (az uS):=.of (by decide +kernel)
abbrev Cf:US:=top 114
theorem oQ:aL ["net","line","words","kind","form","names","numbers"] ["net","line"] (az Cf):=.of (by decide +kernel)
abbrev FR:US:=top 115
theorem tR:aL ["text","net","number","line"] ["text"] (az FR):=.of (by decide +kernel)
abbrev DL:US:=top 124
theorem Es:aL ["net","line","number"] ["net","line"] (az DL):=.of (by decide +kernel)
abbrev FM:US:=top 126
theorem D0:aL ["net","levels","name"] ["net","levels"] (az FM):=.of (by decide +kernel)
abbrev CI:US:=top 128
theorem tZ:aL ["net","levels","drawing","pairs","behind"] ["net","levels"] (az CI):=.of (by decide +kernel)
abbrev DX:US:=top 129
theorem tY:aL ["net","levels","gap","drawing","rows","places"] ["net","levels","gap"] (az DX):=.of (by decide +kernel)
abbrev Cj:US:=dk (top 130) 0
theorem K9:aL ["self"] ["self"] (az Cj):=.of (by decide +kernel)
abbrev DT:US:=dk (top 130) 1
theorem D5:aL ["self","line","words"] ["self","line"] (az DT):=.of (by decide +kernel)
abbrev FS:US:=dk (top 130) 2
theorem B5:aL ["self","word","answer"] ["self","word"] (az FS):=.of (by decide +kernel)
abbrev Ct:US:=dk (top 130) 3
theorem Ey:aL ["self","word","written","number"] ["self","word","written"] (az Ct):=.of (by decide +kernel)
abbrev DV:US:=dk (top 130) 4
theorem OI:aL ["self","answer"] ["self","answer"] (az DV):=.of (by decide +kernel)
abbrev Cw:US:=top 132
theorem NS:aL ["_law_script","_law_k"] ["_law_script","_law_k"] (az Cw):=.of (by decide +kernel)
abbrev FN:US:=top 133
theorem zM:aL ["_law_e","_law_found"] ["_law_e"] (az FN):=.of (by decide +kernel)
abbrev DJ:US:=top 134
theorem xW:aL ["_law_which","_law_number","_law_net","_law_k"] ["_law_which","_law_number"] (az DJ):=.of (by decide +kernel)
abbrev EA:US:=top 135
theorem zv:aL ["_law_which","_law_number","_law_desk","_law_line"] ["_law_which","_law_number"] (az EA):=.of (by decide +kernel)
variable {H H':Hp}{Lk:Nat→Nat→Int→Prop}{P fl nd:Nat→Int}{S:List F'}{a b:C'}{cm pu:Nat→Option Nat}{i p size:Nat}{rk t:Nat→Nat}{v:V}
abbrev E7:US:=top 136
theorem ui:aL ["_law_which","_law_number","_law_found","_law_e"] ["_law_which","_law_number"] (az E7):=.of (by decide +kernel)
abbrev D4:US:=top 137
theorem pi:aL ["_law_number","_law_found","_law_e"] ["_law_number"] (az D4):=.of (by decide +kernel)
abbrev yf:US:=top 138
theorem oR:aL ["_law_number","_law_one","_law_two","_law_three","_law_four","_law_e"] ["_law_number"] (az yf):=.of (by decide +kernel)
abbrev oU:US:=top 139
theorem uR:aL ["_law_script","_law_which","_law_found","_law_number"] ["_law_script"] (az oU):=.of (by decide +kernel)
structure Vg where
 DrawError:F'
 NoName:F'
 Taken:F'
 Alone:F'
 NoNumber:F'
 TooMany:F'
 NoFlow:F'
 TooLong:F'
 Stale:F'
 NoPoint:F'
 NoSuch:F'
 NoLine:F'
 Ring:F'
 Net:F'
 Layout:F'
 Item:F'
 Own:F'
 Small:F'
 Desk:F'
 LINES:F'
 Qdy:F'
 Qdz:F'
 QdA:F'
 QdB:F'
 QdC:F'
 QdD:F'
 QdE:F'
 QdF:F'
structure Tx (K:R') (mg:C'→Option L') (a:Vg):Prop where
 QbN:mg "DrawError"=f' (.ref a.DrawError)
 QdG:Vh K a.DrawError (.type "BaseException")=f' B'
 QdH:Wc K (.ref a.DrawError)=f' (.type "type")
 QdI:mg "NoName"=f' (.ref a.NoName)
 xb_NoName:Vh K a.NoName (.type "BaseException")=f' B'
 xt_NoName:Wc K (.ref a.NoName)=f' (.type "type")
 Qif:Xx K a.NoName
 Qig:V' K a.NoName
 QdJ:mg "Taken"=f' (.ref a.Taken)
 xb_Taken:Vh K a.Taken (.type "BaseException")=f' B'
 xt_Taken:Wc K (.ref a.Taken)=f' (.type "type")
 Qih:Xx K a.Taken
 Qii:V' K a.Taken
 QdK:mg "Alone"=f' (.ref a.Alone)
 xb_Alone:Vh K a.Alone (.type "BaseException")=f' B'
 xt_Alone:Wc K (.ref a.Alone)=f' (.type "type")
 Qij:Xx K a.Alone
 Qik:V' K a.Alone
 QaD:mg "NoNumber"=f' (.ref a.NoNumber)
 xb_NoNumber:Vh K a.NoNumber (.type "BaseException")=f' B'
 xt_NoNumber:Wc K (.ref a.NoNumber)=f' (.type "type")
 QbO:Xx K a.NoNumber
 Qil:V' K a.NoNumber
 Z1:mg "TooMany"=f' (.ref a.TooMany)
 xb_TooMany:Vh K a.TooMany (.type "BaseException")=f' B'
 xt_TooMany:Wc K (.ref a.TooMany)=f' (.type "type")
 QaE:Xx K a.TooMany
 Qim:V' K a.TooMany
 QbP:mg "NoFlow"=f' (.ref a.NoFlow)
 xb_NoFlow:Vh K a.NoFlow (.type "BaseException")=f' B'
 xt_NoFlow:Wc K (.ref a.NoFlow)=f' (.type "type")
 QdL:Xx K a.NoFlow
 Qin:V' K a.NoFlow
 QdM:mg "TooLong"=f' (.ref a.TooLong)
 xb_TooLong:Vh K a.TooLong (.type "BaseException")=f' B'
 xt_TooLong:Wc K (.ref a.TooLong)=f' (.type "type")
 Qio:Xx K a.TooLong
 Qip:V' K a.TooLong
 QdN:mg "Stale"=f' (.ref a.Stale)
 xb_Stale:Vh K a.Stale (.type "BaseException")=f' B'
 xt_Stale:Wc K (.ref a.Stale)=f' (.type "type")
 Qiq:Xx K a.Stale
 Qir:V' K a.Stale
 QdO:mg "NoPoint"=f' (.ref a.NoPoint)
 Qis:Vh K a.NoPoint (.type "BaseException")=f' B'
 Qit:Wc K (.ref a.NoPoint)=f' (.type "type")
 Qiu:V' K a.NoPoint
 QdP:mg "NoSuch"=f' (.ref a.NoSuch)
 Qiv:Vh K a.NoSuch (.type "BaseException")=f' B'
 Qiw:Wc K (.ref a.NoSuch)=f' (.type "type")
 Qix:V' K a.NoSuch
 QdQ:mg "NoLine"=f' (.ref a.NoLine)
 Qiy:Vh K a.NoLine (.type "BaseException")=f' B'
 Qiz:Wc K (.ref a.NoLine)=f' (.type "type")
 QiA:V' K a.NoLine
 QdR:mg "Ring"=f' (.ref a.Ring)
 QiB:Vh K a.Ring (.type "BaseException")=f' B'
 QiC:Wc K (.ref a.Ring)=f' (.type "type")
 QiD:V' K a.Ring
 g_Net:mg "Net"=f' (.ref a.Net)
 Va:V8 K a.Net
 Zk:zbj K a.Net "arrows_by_number"
 Z2:zbj K a.Net "halves"
 QaF:zbj K a.Net "most_bounds"
 QbQ:zbj K a.Net "next_number"
 QaG:zbj K a.Net "same_pairs"
 g_Layout:mg "Layout"=f' (.ref a.Layout)
 VG:V8 K a.Layout
 QdS:zbj K a.Layout "coming"
 QaH:zbj K a.Layout "flow"
 QdT:zbj K a.Layout "going"
 QdU:zbj K a.Layout "leasts"
 QbR:zbj K a.Layout "needs"
 Z3:zbj K a.Layout "ones"
 QbS:zbj K a.Layout "others"
 YK:zbj K a.Layout "places"
 g_Item:mg "Item"=f' (.ref a.Item)
 c_Item:V8 K a.Item
 g_Own:mg "Own"=f' (.ref a.Own)
 QaI:V8 K a.Own
 QdV:zbj K a.Own "name"
 QiE:zbj K a.Own "wide"
 g_Small:mg "Small"=f' (.ref a.Small)
 c_Small:V8 K a.Small
 g_Desk:mg "Desk"=f' (.ref a.Desk)
 Wx:V8 K a.Desk
 Z4:zbj K a.Desk "levels"
 Zl:zbj K a.Desk "net"
 QiF:nO K mg a.NoPoint "NoPoint" "NoPoint.__init__" E9 ["self","name"]
 QiG:oS K a.NoPoint "name"
 QdW:pE K a.NoPoint "name"
 QiH:nO K mg a.NoSuch "NoSuch" "NoSuch.__init__" EG ["self","number"]
 QiI:oS K a.NoSuch "number"
 QdX:pE K a.NoSuch "number"
 QiJ:nO K mg a.NoLine "NoLine" "NoLine.__init__" FL ["self","number"]
 QiK:oS K a.NoLine "number"
 QdY:pE K a.NoLine "number"
 QiL:nO K mg a.Ring "Ring" "Ring.__init__" D7 ["self","ring"]
 QiM:oS K a.Ring "ring"
 QdZ:pE K a.Ring "ring"
 QiN:Def K mg "is_name" xZ ["name"] []
 QiO:Def K mg "is_whole" DS ["number"] []
 QiP:Def K mg "in_range" CA ["number","least","greatest"] []
 YL:YJ K mg a.Net "Net" "Net.__init__" CB ["self"]
 Zm:Met K a.Net "put_point" "Net.put_point" va ["self","name","half"] []
 Z5:Met K a.Net "put_point" "Net.put_point" va ["self","name","half"] [.int 0]
 QbT:Met K a.Net "put_arrow" "Net.put_arrow" rH ["self","one","other","span","weight"] []
 m_Net_put_arrow3:Met K a.Net "put_arrow" "Net.put_arrow" rH ["self","one","other","span","weight"] [.int 1]
 QbU:Met K a.Net "put_arrow" "Net.put_arrow" rH ["self","one","other","span","weight"] [.int 1,.int 1]
 Z6:Met K a.Net "put_same" "Net.put_same" Fz ["self","one","other"] []
 QbV:Met K a.Net "put_most" "Net.put_most" CJ ["self","one","other","number"] []
 Z7:Met K a.Net "take_arrow" "Net.take_arrow" Eb ["self","number"] []
 WV:Met K a.Net "points" "Net.points" ED ["self"] []
 YM:Met K a.Net "arrows" "Net.arrows" yN ["self"] []
 QbW:Met K a.Net "sames" "Net.sames" zn ["self"] []
 QbX:Met K a.Net "mosts" "Net.mosts" yR ["self"] []
 QaJ:Met K a.Net "need_point" "Net.need_point" Cz ["self","name"] []
 YN:Met K a.Net "need_two_points" "Net.need_two_points" DI ["self","one","other"] []
 QiQ:Def K mg "fits" yt ["count","wishes","places"] []
 QiR:Def K mg "worth" xO ["wishes","places"] []
 QiS:Def K mg "weights_of" yV ["wishes"] []
 QiT:Def K mg "left_at_points" Et ["count","wishes","amounts"] []
 QiU:Def K mg "bound" uw ["count","wishes","flow"] []
 QbY:YJ K mg a.Layout "Layout" "Layout.__init__" nC ["self","count","wishes"]
 QbZ:Met K a.Layout "slack" "Layout.slack" EN ["self","number"] []
 QiV:Def K mg "fit" Qdw ["layout"] []
 QiW:Def K mg "push_once" FO ["layout","pushers"] []
 QiX:Def K mg "ring_behind" Ea ["layout","pushers","point"] []
 QiY:Def K mg "parts_of" yT ["count","wishes"] []
 QiZ:Def K mg "from_nought" yv ["places","parts"] []
 Qi0:Def K mg "figure_worths" Ej ["weights"] []
 Qi1:Def K mg "laid" rX ["count","wishes"] []
 Qb0:YJ K mg a.Own "Own" "Own.__init__" EZ ["self","name","wide"]
 Qb1:Met K a.Own "label" "Own.label" FG ["self"] []
 Qi2:Def K mg "way" Qdx ["arrows","start","end"] []
 Qi3:Def K mg "kept_arrows" FV ["net"] []
 Qi4:Def K mg "turned" zK ["net"] []
 Qi5:Def K mg "marks_in_line" DK ["rows"] []
 Qi6:Def K mg "wishes_of" zS ["net"] []
 Qi7:Def K mg "places_by" yO ["net","levels"] []
 Qi8:Def K mg "keeps_net" Dx ["net","levels"] []
 Qi9:Def K mg "length" E5 ["net","levels"] []
 Qja:Def K mg "levelled" D8 ["net"] []
 Qjb:Def K mg "marks_of" zB ["rows"] []
 Qjc:Def K mg "picture" uv ["rows","places"] []
 Qjd:Def K mg "is_written_number" zI ["word"] []
 Qje:Def K mg "numbers_of" uS ["words","needed","left_out"] []
 Qjf:Def K mg "put_line" Cf ["net","line"] []
 Qjg:Def K mg "read_net" FR ["text"] []
 Qjh:Def K mg "put_text" DL ["net","line"] []
 Qji:Def K mg "kept_rows" FM ["net","levels"] []
 Qjj:Def K mg "cross_text" CI ["net","levels"] []
 Qjk:Def K mg "draw_text" DX ["net","levels","gap"] []
 Qb2:YJ K mg a.Desk "Desk" "Desk.__init__" Cj ["self"]
 Qb3:Met K a.Desk "say" "Desk.say" DT ["self","line"] []
 Qb4:Met K a.Desk "say_word" "Desk.say_word" FS ["self","word"] []
 Qb5:Met K a.Desk "say_number" "Desk.say_number" Ct ["self","word","written"] []
 QaK:Met K a.Desk "level_by" "Desk.level_by" DV ["self","answer"] []
 Qjl:Def K mg "_law_cell_at" Cw ["_law_script","_law_k"] []
 Qjm:Def K mg "_law_kinds" FN ["_law_e"] []
 Qjn:Def K mg "_law_of_nets" DJ ["_law_which","_law_number"] []
 Qjo:Def K mg "_law_of_stages" EA ["_law_which","_law_number"] []
 Qjp:Def K mg "_law_kind" E7 ["_law_which","_law_number"] []
 Qjq:Def K mg "_law_fields" D4 ["_law_number"] []
 Qjr:Def K mg "_law_made" yf ["_law_number"] []
 d_law:Def K mg "law" oU ["_law_script"] []
 QaL:∃ t,mg "BASE"=f' (.int 16 t)
 Qjs:∃ t,mg "FIGURES"=f' (.str "0123456789" t)
 Qjt:∃ t,mg "GREATEST_GAP"=f' (.int 50 t)
 Qju:∃ t,mg "GREATEST_MOST"=f' (.int 99 t)
 Qjv:∃ t,mg "GREATEST_PLACE"=f' (.int 200 t)
 Qjw:∃ t,mg "GREATEST_WEIGHT"=f' (.int 1000000 t)
 Qjx:∃ t,mg "LEAST_GAP"=f' (.int 1 t)
 Qjy:∃ t,mg "LONGEST_NAME"=f' (.int 8 t)
 Qjz:∃ t,mg "LONGEST_SPAN"=f' (.int 20 t)
 QjA:∃ t,mg "MOST_ARROWS"=f' (.int 40 t)
 QjB:∃ t,mg "MOST_FIGURES"=f' (.int 7 t)
 QjC:∃ t,mg "MOST_MOSTS"=f' (.int 20 t)
 QjD:∃ t,mg "MOST_POINTS"=f' (.int 20 t)
 QjE:∃ t,mg "MOST_SAMES"=f' (.int 20 t)
 QjF:∃ t,mg "SMALL_LETTERS"=f' (.str "abcdefghijklmnopqrstuvwxyz" t)
 QjG:∃ t,mg "WIDEST_HALF"=f' (.int 50 t)
 Qd0:mg "LINES"=f' (.ref a.LINES)
 QjH:∀ H,UW K H a.Qdy [.int 0]
 QjI:∀ H,UW K H a.Qdz [.int 1,.int 0,.ref a.Qdy]
 QjJ:∀ H,UW K H a.QdA [.int 1,.int 1]
 QjK:∀ H,UW K H a.QdB [.int 2,.int 0,.ref a.QdA]
 QjL:∀ H,UW K H a.QdC []
 QjM:∀ H,UW K H a.QdD [.int 2,.int 0,.ref a.QdC]
 QjN:∀ H,UW K H a.QdE []
 QjO:∀ H,UW K H a.QdF [.int 2,.int 1,.ref a.QdE]
 QjP:UE K (.type "str") (.type "str")=f' B'
 QjQ:UE K (.type "int") (.type "int")=f' B'
 QjR:UE K (.type "int") (.type "bool")=f' K'
 Qd1:Vh K a.NoName (.ref a.DrawError)=f' B'
 Qd2:Vh K a.Taken (.ref a.DrawError)=f' B'
 Qd3:Vh K a.Alone (.ref a.DrawError)=f' B'
 Qd4:Vh K a.NoNumber (.ref a.DrawError)=f' B'
 Qd5:Vh K a.TooMany (.ref a.DrawError)=f' B'
 QjS:Vh K a.NoFlow (.ref a.DrawError)=f' B'
 QjT:Vh K a.TooLong (.ref a.DrawError)=f' B'
 QjU:Vh K a.Stale (.ref a.DrawError)=f' B'
 Qd6:Vh K a.NoPoint (.ref a.DrawError)=f' B'
 Qd7:Vh K a.NoSuch (.ref a.DrawError)=f' B'
 Qd8:Vh K a.NoLine (.ref a.DrawError)=f' B'
 QjV:Vh K a.Ring (.ref a.DrawError)=f' B'
 QjW:Vh K a.NoPoint (.ref a.NoPoint)=f' B'
 QjX:Vh K a.NoSuch (.ref a.NoSuch)=f' B'
 QjY:Vh K a.NoLine (.ref a.NoLine)=f' B'
 QjZ:Vh K a.Ring (.ref a.Ring)=f' B'
 Qj0:UE K (.ref a.NoName) (.ref a.NoName)=f' B'
 Qj1:UE K (.ref a.NoName) (.ref a.Taken)=f' K'
 Qj2:UE K (.ref a.NoName) (.ref a.Alone)=f' K'
 Qj3:UE K (.ref a.NoName) (.ref a.NoNumber)=f' K'
 Qj4:UE K (.ref a.NoName) (.ref a.TooMany)=f' K'
 Qj5:UE K (.ref a.NoName) (.ref a.NoFlow)=f' K'
 Qj6:UE K (.ref a.NoName) (.ref a.TooLong)=f' K'
 Qj7:UE K (.ref a.NoName) (.ref a.Stale)=f' K'
 Qj8:UE K (.ref a.NoName) (.ref a.NoPoint)=f' K'
 Qj9:UE K (.ref a.NoName) (.ref a.NoSuch)=f' K'
 Qka:UE K (.ref a.NoName) (.ref a.NoLine)=f' K'
 Qkb:UE K (.ref a.NoName) (.ref a.Ring)=f' K'
 Qkc:UE K (.ref a.Taken) (.ref a.NoName)=f' K'
 Qkd:UE K (.ref a.Taken) (.ref a.Taken)=f' B'
 Qke:UE K (.ref a.Taken) (.ref a.Alone)=f' K'
 Qkf:UE K (.ref a.Taken) (.ref a.NoNumber)=f' K'
 Qkg:UE K (.ref a.Taken) (.ref a.TooMany)=f' K'
 Qkh:UE K (.ref a.Taken) (.ref a.NoFlow)=f' K'
 Qki:UE K (.ref a.Taken) (.ref a.TooLong)=f' K'
 Qkj:UE K (.ref a.Taken) (.ref a.Stale)=f' K'
 Qkk:UE K (.ref a.Taken) (.ref a.NoPoint)=f' K'
 Qkl:UE K (.ref a.Taken) (.ref a.NoSuch)=f' K'
 Qkm:UE K (.ref a.Taken) (.ref a.NoLine)=f' K'
 Qkn:UE K (.ref a.Taken) (.ref a.Ring)=f' K'
 Qko:UE K (.ref a.Alone) (.ref a.NoName)=f' K'
 Qkp:UE K (.ref a.Alone) (.ref a.Taken)=f' K'
 Qkq:UE K (.ref a.Alone) (.ref a.Alone)=f' B'
 Qkr:UE K (.ref a.Alone) (.ref a.NoNumber)=f' K'
 Qks:UE K (.ref a.Alone) (.ref a.TooMany)=f' K'
 Qkt:UE K (.ref a.Alone) (.ref a.NoFlow)=f' K'
 Qku:UE K (.ref a.Alone) (.ref a.TooLong)=f' K'
 Qkv:UE K (.ref a.Alone) (.ref a.Stale)=f' K'
 Qkw:UE K (.ref a.Alone) (.ref a.NoPoint)=f' K'
 Qkx:UE K (.ref a.Alone) (.ref a.NoSuch)=f' K'
 Qky:UE K (.ref a.Alone) (.ref a.NoLine)=f' K'
 Qkz:UE K (.ref a.Alone) (.ref a.Ring)=f' K'
 QkA:UE K (.ref a.NoNumber) (.ref a.NoName)=f' K'
 QkB:UE K (.ref a.NoNumber) (.ref a.Taken)=f' K'
 QkC:UE K (.ref a.NoNumber) (.ref a.Alone)=f' K'
 QkD:UE K (.ref a.NoNumber) (.ref a.NoNumber)=f' B'
 QkE:UE K (.ref a.NoNumber) (.ref a.TooMany)=f' K'
 QkF:UE K (.ref a.NoNumber) (.ref a.NoFlow)=f' K'
 QkG:UE K (.ref a.NoNumber) (.ref a.TooLong)=f' K'
 QkH:UE K (.ref a.NoNumber) (.ref a.Stale)=f' K'
 QkI:UE K (.ref a.NoNumber) (.ref a.NoPoint)=f' K'
 QkJ:UE K (.ref a.NoNumber) (.ref a.NoSuch)=f' K'
 QkK:UE K (.ref a.NoNumber) (.ref a.NoLine)=f' K'
 QkL:UE K (.ref a.NoNumber) (.ref a.Ring)=f' K'
 QkM:UE K (.ref a.TooMany) (.ref a.NoName)=f' K'
 QkN:UE K (.ref a.TooMany) (.ref a.Taken)=f' K'
 QkO:UE K (.ref a.TooMany) (.ref a.Alone)=f' K'
 QkP:UE K (.ref a.TooMany) (.ref a.NoNumber)=f' K'
 QkQ:UE K (.ref a.TooMany) (.ref a.TooMany)=f' B'
 QkR:UE K (.ref a.TooMany) (.ref a.NoFlow)=f' K'
 QkS:UE K (.ref a.TooMany) (.ref a.TooLong)=f' K'
 QkT:UE K (.ref a.TooMany) (.ref a.Stale)=f' K'
 QkU:UE K (.ref a.TooMany) (.ref a.NoPoint)=f' K'
 QkV:UE K (.ref a.TooMany) (.ref a.NoSuch)=f' K'
 QkW:UE K (.ref a.TooMany) (.ref a.NoLine)=f' K'
 QkX:UE K (.ref a.TooMany) (.ref a.Ring)=f' K'
 QkY:UE K (.ref a.NoFlow) (.ref a.NoName)=f' K'
 QkZ:UE K (.ref a.NoFlow) (.ref a.Taken)=f' K'
 Qk0:UE K (.ref a.NoFlow) (.ref a.Alone)=f' K'
 Qk1:UE K (.ref a.NoFlow) (.ref a.NoNumber)=f' K'
 Qk2:UE K (.ref a.NoFlow) (.ref a.TooMany)=f' K'
 Qk3:UE K (.ref a.NoFlow) (.ref a.NoFlow)=f' B'
 Qk4:UE K (.ref a.NoFlow) (.ref a.TooLong)=f' K'
 Qk5:UE K (.ref a.NoFlow) (.ref a.Stale)=f' K'
 Qk6:UE K (.ref a.NoFlow) (.ref a.NoPoint)=f' K'
 Qk7:UE K (.ref a.NoFlow) (.ref a.NoSuch)=f' K'
 Qk8:UE K (.ref a.NoFlow) (.ref a.NoLine)=f' K'
 Qk9:UE K (.ref a.NoFlow) (.ref a.Ring)=f' K'
 Qla:UE K (.ref a.TooLong) (.ref a.NoName)=f' K'
 Qlb:UE K (.ref a.TooLong) (.ref a.Taken)=f' K'
 Qlc:UE K (.ref a.TooLong) (.ref a.Alone)=f' K'
 Qld:UE K (.ref a.TooLong) (.ref a.NoNumber)=f' K'
 Qle:UE K (.ref a.TooLong) (.ref a.TooMany)=f' K'
 Qlf:UE K (.ref a.TooLong) (.ref a.NoFlow)=f' K'
 Qlg:UE K (.ref a.TooLong) (.ref a.TooLong)=f' B'
 Qlh:UE K (.ref a.TooLong) (.ref a.Stale)=f' K'
 Qli:UE K (.ref a.TooLong) (.ref a.NoPoint)=f' K'
 Qlj:UE K (.ref a.TooLong) (.ref a.NoSuch)=f' K'
 Qlk:UE K (.ref a.TooLong) (.ref a.NoLine)=f' K'
 Qll:UE K (.ref a.TooLong) (.ref a.Ring)=f' K'
 Qlm:UE K (.ref a.Stale) (.ref a.NoName)=f' K'
 Qln:UE K (.ref a.Stale) (.ref a.Taken)=f' K'
 Qlo:UE K (.ref a.Stale) (.ref a.Alone)=f' K'
 Qlp:UE K (.ref a.Stale) (.ref a.NoNumber)=f' K'
 Qlq:UE K (.ref a.Stale) (.ref a.TooMany)=f' K'
 Qlr:UE K (.ref a.Stale) (.ref a.NoFlow)=f' K'
 Qls:UE K (.ref a.Stale) (.ref a.TooLong)=f' K'
 Qlt:UE K (.ref a.Stale) (.ref a.Stale)=f' B'
 Qlu:UE K (.ref a.Stale) (.ref a.NoPoint)=f' K'
 Qlv:UE K (.ref a.Stale) (.ref a.NoSuch)=f' K'
 Qlw:UE K (.ref a.Stale) (.ref a.NoLine)=f' K'
 Qlx:UE K (.ref a.Stale) (.ref a.Ring)=f' K'
 Qly:UE K (.ref a.NoPoint) (.ref a.NoName)=f' K'
 Qlz:UE K (.ref a.NoPoint) (.ref a.Taken)=f' K'
 QlA:UE K (.ref a.NoPoint) (.ref a.Alone)=f' K'
 QlB:UE K (.ref a.NoPoint) (.ref a.NoNumber)=f' K'
 QlC:UE K (.ref a.NoPoint) (.ref a.TooMany)=f' K'
 QlD:UE K (.ref a.NoPoint) (.ref a.NoFlow)=f' K'
 QlE:UE K (.ref a.NoPoint) (.ref a.TooLong)=f' K'
 QlF:UE K (.ref a.NoPoint) (.ref a.Stale)=f' K'
 QlG:UE K (.ref a.NoPoint) (.ref a.NoPoint)=f' B'
 QlH:UE K (.ref a.NoPoint) (.ref a.NoSuch)=f' K'
 QlI:UE K (.ref a.NoPoint) (.ref a.NoLine)=f' K'
 QlJ:UE K (.ref a.NoPoint) (.ref a.Ring)=f' K'
 QlK:UE K (.ref a.NoSuch) (.ref a.NoName)=f' K'
 QlL:UE K (.ref a.NoSuch) (.ref a.Taken)=f' K'
 QlM:UE K (.ref a.NoSuch) (.ref a.Alone)=f' K'
 QlN:UE K (.ref a.NoSuch) (.ref a.NoNumber)=f' K'
 QlO:UE K (.ref a.NoSuch) (.ref a.TooMany)=f' K'
 QlP:UE K (.ref a.NoSuch) (.ref a.NoFlow)=f' K'
 QlQ:UE K (.ref a.NoSuch) (.ref a.TooLong)=f' K'
 QlR:UE K (.ref a.NoSuch) (.ref a.Stale)=f' K'
 QlS:UE K (.ref a.NoSuch) (.ref a.NoPoint)=f' K'
 QlT:UE K (.ref a.NoSuch) (.ref a.NoSuch)=f' B'
 QlU:UE K (.ref a.NoSuch) (.ref a.NoLine)=f' K'
 QlV:UE K (.ref a.NoSuch) (.ref a.Ring)=f' K'
 QlW:UE K (.ref a.NoLine) (.ref a.NoName)=f' K'
 QlX:UE K (.ref a.NoLine) (.ref a.Taken)=f' K'
 QlY:UE K (.ref a.NoLine) (.ref a.Alone)=f' K'
 QlZ:UE K (.ref a.NoLine) (.ref a.NoNumber)=f' K'
 Ql0:UE K (.ref a.NoLine) (.ref a.TooMany)=f' K'
 Ql1:UE K (.ref a.NoLine) (.ref a.NoFlow)=f' K'
 Ql2:UE K (.ref a.NoLine) (.ref a.TooLong)=f' K'
 Ql3:UE K (.ref a.NoLine) (.ref a.Stale)=f' K'
 Ql4:UE K (.ref a.NoLine) (.ref a.NoPoint)=f' K'
 Ql5:UE K (.ref a.NoLine) (.ref a.NoSuch)=f' K'
 Ql6:UE K (.ref a.NoLine) (.ref a.NoLine)=f' B'
 Ql7:UE K (.ref a.NoLine) (.ref a.Ring)=f' K'
 Ql8:UE K (.ref a.Ring) (.ref a.NoName)=f' K'
 Ql9:UE K (.ref a.Ring) (.ref a.Taken)=f' K'
 Qma:UE K (.ref a.Ring) (.ref a.Alone)=f' K'
 Qmb:UE K (.ref a.Ring) (.ref a.NoNumber)=f' K'
 Qmc:UE K (.ref a.Ring) (.ref a.TooMany)=f' K'
 Qmd:UE K (.ref a.Ring) (.ref a.NoFlow)=f' K'
 Qme:UE K (.ref a.Ring) (.ref a.TooLong)=f' K'
 Qmf:UE K (.ref a.Ring) (.ref a.Stale)=f' K'
 Qmg:UE K (.ref a.Ring) (.ref a.NoPoint)=f' K'
 Qmh:UE K (.ref a.Ring) (.ref a.NoSuch)=f' K'
 Qmi:UE K (.ref a.Ring) (.ref a.NoLine)=f' K'
 Qmj:UE K (.ref a.Ring) (.ref a.Ring)=f' B'
 Qmk:UE K (.ref a.NoName) (.type "ValueError")=f' B'
 Qml:UE K (.ref a.Taken) (.type "ValueError")=f' B'
 Qmm:UE K (.ref a.Alone) (.type "ValueError")=f' B'
 Qmn:UE K (.ref a.NoNumber) (.type "ValueError")=f' B'
 Qmo:UE K (.ref a.TooMany) (.type "ValueError")=f' B'
 Qmp:UE K (.ref a.NoFlow) (.type "ValueError")=f' B'
 Qmq:UE K (.ref a.TooLong) (.type "ValueError")=f' B'
 Qmr:UE K (.ref a.Stale) (.type "ValueError")=f' B'
 Qms:UE K (.ref a.NoPoint) (.type "ValueError")=f' B'
 Qmt:UE K (.ref a.NoSuch) (.type "ValueError")=f' B'
 Qmu:UE K (.ref a.NoLine) (.type "ValueError")=f' B'
 Qmv:UE K (.ref a.Ring) (.type "ValueError")=f' B'
 Qmw:UE K (.ref a.NoPoint) (.ref a.DrawError)=f' B'
 Qmx:UE K (.ref a.NoSuch) (.ref a.DrawError)=f' B'
 Qmy:UE K (.ref a.NoLine) (.ref a.DrawError)=f' B'
 Qmz:UE K (.ref a.Ring) (.ref a.DrawError)=f' B'
 QmA:mg "ValueError"=i'
 Z8:mg "all"=i'
 Qd9:mg "any"=i'
 QmB:mg "bool"=i'
 Qea:mg "dict"=i'
 QaM:mg "enumerate"=i'
 Qb6:mg "int"=i'
 Wl:mg "isinstance"=i'
 VP:mg "len"=i'
 QaN:mg "list"=i'
 QmC:mg "max"=i'
 QmD:mg "min"=i'
 Zn:mg "range"=i'
 Qb7:mg "str"=i'
 Qeb:mg "sum"=i'
 Z9:mg "zip"=i'
def fk (a:Vg):List (Key×V):=[(UN "point",.ref a.Qdz),(UN "arrow",.ref a.QdB),(UN "same",.ref a.QdD),(UN "most",.ref a.QdF)]
def U4 {α:Type} (f:α→α):Nat→α→α
 | 0,a=>a
 | k + 1,a=>f (U4 f k a)
theorem rK {α:Type} (f:α→α) (i:Nat) (a:α):∀ j,U4 f (i + j) a=U4 f j (U4 f i a)
 | 0=>rfl
 | j + 1=>by
  show f (U4 f (i + j) a)=f (U4 f j (U4 f i a))
  rw[rK f i a j]
theorem CY:∀ (c:Nat) (f:Nat→Nat),(∀ i,i≤c→f i<c)→∃ i j,i<j∧j≤c∧f i=f j
 | 0,f,h=>UR (h 0 (Q7 _)) (Sg _)
 | c + 1,f,h=>by
  by_cases e:∃ i,i≤c∧f i=f (c + 1)
  .obtain⟨i,hi,q⟩:=e
   exact⟨i,c + 1,by lia,Q7 _,q⟩
  .have ne:∀ i,i≤c→f i≠f (c + 1):=fun i hi q=>e ⟨i,hi,q⟩
   have hl:=h (c + 1) (Q7 _)
   obtain⟨i,j,ij,jc,q⟩:=CY c (fun i=>if f i=c then f (c + 1) else f i) fun i hi=>by
    have h1:=h i (by lia)
    have h2:=ne i hi
    show(if f i=c then f (c + 1) else f i)<c
    split <;> lia
   refine⟨i,j,ij,by lia,?_⟩
   have n1:=ne i (by lia)
   have n2:=ne j jc
   have q:(if f i=c then f (c + 1) else f i)=if f j=c then f (c + 1) else f j:=q
   split at q <;> split at q <;> lia
structure Wn where
 c:Nat
 m:Nat
 on:Nat→Nat
 ot:Nat→Nat
 le:Nat→Int
structure Wn.Ok (N:Wn):Prop where
 on:∀ n,n<N.m→N.on n<N.c
 ot:∀ n,n<N.m→N.ot n<N.c
def Vf (N:Wn) (P:Nat→Int) (n:Nat):Int:=P (N.ot n) - P (N.on n) - N.le n
def up {α:Type} (f:Nat→α) (k:Nat) (v:α):Nat→α:=fun i=>if i=k then v else f i
theorem fQ {α:Type} (f:Nat→α) (k:Nat) (v:α):up f k v k=v:=UH rfl
theorem eM {α:Type} (f:Nat→α){k:Nat} (v:α) (h:i≠k):up f k v i=f i:=UF h
def bk (N:Wn) (pu:Nat→Option Nat) (v:Nat):Nat:=match pu v with
 | some n=>N.on n
 | none=>v
def ik (N:Wn) (pu:Nat→Option Nat) (p:Nat):Nat→Int
 | 0=>0
 | k + 1=>ik N pu p k + (match pu (U4 (bk N pu) k p) with
  | some n=>N.le n
  | none=>0)
def Rg (N:Wn) (pu:Nat→Option Nat):Prop:=∀ p k,0<k→(∀ i,i<k→(pu (U4 (bk N pu) i p)).isSome=B')→U4 (bk N pu) k p=p→0<ik N pu p k
structure Fi (N:Wn) (t:Nat→Nat) (P:Nat→Int) (pu:Nat→Option Nat):Prop where
 a:∀ v n,pu v=f' n→n<N.m∧N.ot n=v∧P v≤P (N.on n) + N.le n
 b:Rg N pu
 c:∀ v,1≤t v→∃ n,pu v=f' n∧t v≤t (N.on n) + 1
structure Rd (N:Wn) (t:Nat→Nat) (P:Nat→Int) (r k:Nat):Prop where
 g:∀ v,t v≤r
 d:∀ n,n<k→n<N.m→0≤Vf N P n∨r≤t (N.on n)
 e:∀ n,k≤n→n<N.m→0≤Vf N P n∨r≤t (N.on n) + 1
theorem Fi.start (N:Wn):Fi N (fun _=>0) (fun _=>0) (fun _=>i'):=⟨fun v n h=>(by cases h),fun p k h1 h2=>UR (h2 0 h1) (by decide),fun v h=>UR h (by decide)⟩
theorem Rd.start (N:Wn) (P:Nat→Int):Rd N (fun _=>0) P 1 0:=⟨fun _=>RY _,fun n h=>UR h (Sg _),fun n _ _=>.inr (by lia)⟩
theorem Rd.next {N:Wn}{r:Nat} (h:Rd N t P r N.m):Rd N t P (r + 1) 0:=by
 refine⟨fun v=>RN (h.g v),fun n h=>UR h (Sg _),fun n _ hm=>?_⟩
 rcases h.d n hm hm with q|q
 .exact .inl q
 .exact .inr (by lia)
theorem Rd.skip {N:Wn}{r k:Nat} (h:Rd N t P r k) (s:0≤Vf N P k):Rd N t P r (k + 1):=by
 refine⟨h.g,fun n h1 h2=>?_,fun n h1 h2=>h.e n (by lia) h2⟩
 rcases Sm n k with q|q
 .exact h.d n q h2
 .obtain rfl:n=k:=by lia
  exact .inl s
theorem Fm {N:Wn}{pu:Nat→Option Nat}{P:Nat→Int}{p:Nat}:∀ k,(∀ i,i<k→∃ n,pu (U4 (bk N pu) i p)=f' n∧P (U4 (bk N pu) i p)≤P (N.on n) + N.le n)→P p≤P (U4 (bk N pu) k p) + ik N pu p k
 | 0,_=>by
  show P p≤P p + 0
  lia
 | k + 1,h=>by
  have ih:=Fm k fun i hi=>h i (by lia)
  obtain⟨n,e,q⟩:=h k (by lia)
  have e2:U4 (bk N pu) (k + 1) p=N.on n:=by
   show bk N pu (U4 (bk N pu) k p)=_
   unfold bk
   unfold bk at e
   rw[e]
  have e3:ik N pu p (k + 1)=ik N pu p k + N.le n:=by
   show ik N pu p k + _=_
   rw[e]
  rw[e2,e3]
  lia
theorem FH {N:Wn}{pu:Nat→Option Nat}{P:Nat→Int}{p j:Nat}:∀ k,j<k→(∀ i,i<k→∃ n,pu (U4 (bk N pu) i p)=f' n∧P (U4 (bk N pu) i p)≤P (N.on n) + N.le n)→(∃ n,pu (U4 (bk N pu) j p)=f' n∧P (U4 (bk N pu) j p)<P (N.on n) + N.le n)→P p<P (U4 (bk N pu) k p) + ik N pu p k
 | 0,hj,_,_=>UR hj (Sg _)
 | k + 1,hj,h,s=>by
  obtain⟨n,e,q⟩:=h k (by lia)
  have e2:U4 (bk N pu) (k + 1) p=N.on n:=by
   show bk N pu (U4 (bk N pu) k p)=_
   unfold bk
   unfold bk at e
   rw[e]
  have e3:ik N pu p (k + 1)=ik N pu p k + N.le n:=by
   show ik N pu p k + _=_
   rw[e]
  rw[e2,e3]
  by_cases c:j<k
  .have ih:=FH k c (fun i hi=>h i (by lia)) s
   lia
  .obtain rfl:j=k:=by lia
   obtain⟨n',e',q'⟩:=s
   rw[e] at e'
   cases e'
   have:=Fm j fun i hi=>h i (by lia)
   lia
section
variable {N:Wn}{r k:Nat}
theorem yA (s:Vf N P k<0) (w:Nat):P w≤up P (N.ot k) (P (N.ot k) + (0 - Vf N P k)) w:=by
 unfold up
 split
 .rename_i e
  rw[e]
  lia
 .lia
theorem Qec (g:∀ v,t v≤r) (w:Nat):t w≤up t (N.ot k) r w:=by
 unfold up
 split
 .exact g w
 .exact Q7 _
theorem Mm (f:Fi N t P pu) (h:Rd N t P r k) (hk:k<N.m) (s:Vf N P k<0):Fi N (up t (N.ot k) r) (up P (N.ot k) (P (N.ot k) + (0 - Vf N P k))) (up pu (N.ot k) (f' k)):=by
 refine⟨fun w n e=>?_,fun p k' h0 hs hc=>?_,fun w hw=>?_⟩
 .by_cases c:w=N.ot k
  .subst c
   rw[fQ] at e
   cases e
   refine⟨hk,O,?_⟩
   rw[fQ]
   have:=yA s (N.on k)
   unfold Vf at this ⊢
   lia
  .rw[eM _ _ c] at e
   obtain⟨a1,a2,a3⟩:=f.a w n e
   refine⟨a1,a2,?_⟩
   rw[eM _ _ c]
   have:=yA s (N.on n)
   lia
 .have old:∀ i,i<k'→∃ n,up pu (N.ot k) (f' k) (U4 (bk N (up pu (N.ot k) (f' k))) i p)=f' n∧P (U4 (bk N (up pu (N.ot k) (f' k))) i p)≤P (N.on n) + N.le n:=fun i hi=>by
   obtain⟨n,e⟩:=Xj.mp (hs i hi)
   refine⟨n,e,?_⟩
   generalize U4 (bk N (up pu (N.ot k) (f' k))) i p=w at e
   by_cases c:w=N.ot k
   .subst c
    rw[fQ] at e
    cases e
    unfold Vf at s
    lia
   .rw[eM _ _ c] at e
    exact(f.a w n e).2.2
  by_cases c:∃ j,j<k'∧U4 (bk N (up pu (N.ot k) (f' k))) j p=N.ot k
  .obtain⟨j,hj,e⟩:=c
   have z:=FH k' hj old ⟨k,by rw[e,fQ],by
    rw[e]
    unfold Vf at s
    lia⟩
   rw[hc] at z
   lia
  .have ne:∀ i,i<k'→U4 (bk N (up pu (N.ot k) (f' k))) i p≠N.ot k:=fun i hi e=>c ⟨i,hi,e⟩
   have same:∀ i,i≤k'→U4 (bk N (up pu (N.ot k) (f' k))) i p=U4 (bk N pu) i p∧ik N (up pu (N.ot k) (f' k)) p i=ik N pu p i:=fun i=>by
    induction i with
    | zero=>exact fun _=>⟨O,O⟩
    | succ i ih=>
     intro hi
     obtain⟨e1,e2⟩:=ih (by lia)
     have n1:=ne i (by lia)
     rw[e1] at n1
     constructor
     .show bk N (up pu (N.ot k) (f' k)) (U4 (bk N (up pu (N.ot k) (f' k))) i p)=bk N pu (U4 (bk N pu) i p)
      rw[e1]
      unfold bk at n1 ⊢
      rw[eM _ _ n1]
     .show ik N (up pu (N.ot k) (f' k)) p i + _=ik N pu p i + _
      rw[e1,e2,eM _ _ n1]
   rw[(same k' (Q7 _)).2]
   refine f.b p k' h0 (fun i hi=>?_) ?_
   .have:=hs i hi
    have n1:=ne i hi
    rw[(same i (by lia)).1] at this n1
    rw[eM _ _ n1] at this
    exact this
   .rw[← (same k' (Q7 _)).1]
    exact hc
 .by_cases c:w=N.ot k
  .subst c
   refine⟨k,fQ _ _ _,?_⟩
   rw[fQ]
   rcases h.e k (Q7 _) hk with q|q
   .lia
   .have:=Qec (N:=N) (k:=k) h.g (N.on k)
    lia
  .rw[eM _ _ c] at hw
   obtain⟨n,e1,e2⟩:=f.c w hw
   refine⟨n,by rw[eM _ _ c];exact e1,?_⟩
   rw[eM t r c]
   have:=Qec (N:=N) (k:=k) h.g (N.on n)
   lia
theorem El (s:Vf N P k<0) (n:Nat) (c:N.on n≠N.ot k):Vf N P n≤Vf N (up P (N.ot k) (P (N.ot k) + (0 - Vf N P k))) n:=by
 have:=yA s (N.ot n)
 generalize e:Vf N P k=z at this s
 unfold Vf
 rw[eM _ _ c]
 lia
theorem Lv (h:Rd N t P r k) (s:Vf N P k<0):Rd N (up t (N.ot k) r) (up P (N.ot k) (P (N.ot k) + (0 - Vf N P k))) r (k + 1):=by
 refine⟨fun w=>?_,fun n h1 h2=>?_,fun n h1 h2=>?_⟩
 .unfold up
  split
  .exact Q7 _
  .exact h.g w
 .by_cases c:N.on n=N.ot k
  .right
   rw[c,fQ]
   exact Q7 _
  .rcases Sm n k with q|q
   .rcases h.d n q h2 with z|z
    .left
     have:=El s n c
     lia
    .right
     rw[eM _ _ c]
     exact z
   .obtain rfl:n=k:=by lia
    left
    have e:Vf N (up P (N.ot n) (P (N.ot n) + (0 - Vf N P n))) n=0:=by
     generalize ez:Vf N P n=z
     unfold Vf at ez ⊢
     rw[eM _ _ c,fQ]
     lia
    lia
 .by_cases c:N.on n=N.ot k
  .right
   rw[c,fQ]
   lia
  .rcases h.e n (by lia) h2 with z|z
   .left
    have:=El s n c
    lia
   .right
    rw[eM _ _ c]
    exact z
theorem NV (ok:N.Ok) (f:Fi N t P pu){v:Nat} (ht:N.c≤t v) (hv:v<N.c):(∀ i,(pu (U4 (bk N pu) i v)).isSome=B')∧∃ d,0<d∧d≤N.c∧U4 (bk N pu) d (U4 (bk N pu) N.c v)=U4 (bk N pu) N.c v:=by
 have st:∀ w n,pu w=f' n→bk N pu w=N.on n:=fun w n e=>by unfold bk;rw[e]
 have tt:∀ i,i≤N.c→N.c≤t (U4 (bk N pu) i v) + i:=fun i=>by
  induction i with
  | zero=>exact fun _=>ht
  | succ i ih=>
   intro hi
   have q:=ih (by lia)
   obtain⟨n,e1,e2⟩:=f.c _ (show 1≤t (U4 (bk N pu) i v) by lia)
   show N.c≤t (bk N pu (U4 (bk N pu) i v)) + (i + 1)
   rw[st _ _ e1]
   lia
 have pd:∀ i,i<N.c→∃ n,pu (U4 (bk N pu) i v)=f' n:=fun i hi=>by
  have q:=tt i (by lia)
  obtain⟨n,e1,_⟩:=f.c _ (show 1≤t (U4 (bk N pu) i v) by lia)
  exact⟨n,e1⟩
 have lt:∀ i,i≤N.c→U4 (bk N pu) i v<N.c:=fun i hi=>by
  cases i with
  | zero=>exact hv
  | succ i=>
   obtain⟨n,e⟩:=pd i (by lia)
   show bk N pu (U4 (bk N pu) i v)<N.c
   rw[st _ _ e]
   exact ok.on n (f.a _ _ e).1
 obtain⟨i,j,ij,jc,q⟩:=CY N.c (fun i=>U4 (bk N pu) i v) lt
 have q:U4 (bk N pu) i v=U4 (bk N pu) j v:=q
 have zZ:∀ s,j≤s→U4 (bk N pu) s v=U4 (bk N pu) (s - (j - i)) v:=fun s hs=>by
  have e1:s=j + (s - j):=by lia
  have e2:s - (j - i)=i + (s - j):=by lia
  rw[e2,rK,q,← rK,← e1]
 refine⟨fun s=>?_,j - i,by lia,by lia,?_⟩
 .induction s using QcD with
  | ind s ih=>
   by_cases c:s<N.c
   .obtain⟨n,e⟩:=pd s c
    rw[e]
    rfl
   .rw[zZ s (by lia)]
    exact ih _ (by lia)
 .rw[← rK,zZ (N.c + (j - i)) (by lia)]
  congr 1
  lia
end
def sm (f:Nat→Int):Nat→Int
 | 0=>0
 | n + 1=>sm f n + f n
def Arc (N:Wn) (P fl:Nat→Int) (q p n:Nat) (d:Int):Prop:=n<N.m∧((N.on n=q∧N.ot n=p∧d=Vf N P n)∨(N.ot n=q∧N.on n=p∧0<fl n∧d=0))
structure Ti (N:Wn) (P fl:Nat→Int):Prop where
 s:∀ n,n<N.m→0≤Vf N P n
 f:∀ n,n<N.m→0≤fl n
 t:∀ n,n<N.m→0<fl n→Vf N P n=0
structure Se (N:Wn) (P fl nd:Nat→Int) (gy wt:Nat→Option Int) (cm:Nat→Option Nat) (rk:Nat→Nat) (size:Nat) (Lk:Nat→Nat→Int→Prop):Prop where
 dj:∀ p a,gy p=f' a→wt p=i'
 lo:∀ p a q b,gy p=f' a→wt q=f' b→a≤b
 nn:∀ p a,gy p=f' a∨wt p=f' a→0≤a∧p<N.c
 ro:∀ p,p<N.c→nd p<0→(gy p=f' 0∨wt p=f' 0)∧cm p=i'
 cb:∀ p a,gy p=f' a∨wt p=f' a→¬ nd p<0→∃ n q d b,cm p=f' n∧Arc N P fl q p n d∧gy q=f' b∧a=b + d∧q≠p∧(gy p=f' a→rk q<rk p)
 ck:∀ p n,cm p=f' n→∃ a,gy p=f' a∨wt p=f' a
 rk:∀ p a,gy p=f' a→rk p<size
 ar:∀ q n d p a,Arc N P fl q p n d→Lk q n d→gy q=f' a→∃ b,(gy p=f' b∨wt p=f' b)∧b≤a + d
section
variable {N:Wn}{gy wt:Nat→Option Int}
def mv (P:Nat→Int) (gy:Nat→Option Int) (D:Int) (p:Nat):Int:=match gy p with
 | some b=>P p + (D - b)
 | none=>P p
end
def ac (N:Wn) (n p:Nat):Nat:=if N.ot n=p then N.on n else N.ot n
def bc (N:Wn) (cm:Nat→Option Nat) (p:Nat):Nat:=match cm p with
 | some n=>ac N n p
 | none=>p
section
variable {N:Wn}{gy wt:Nat→Option Int}
def cn (cm:Nat→Option Nat) (p:Nat):Nat:=(cm p).getD 0
theorem yh  (h:(cm p).isSome=B'):cm p=f' (cn cm p):=by
 obtain⟨n,e⟩:=Xj.mp h
 unfold cn
 rw[e]
 rfl
def fs (N:Wn) (cm:Nat→Option Nat) (x:Nat) (am:Int) (fl:Nat→Int):Nat→Nat→Int
 | 0=>fl
 | i + 1=>up (fs N cm x am fl i) (cn cm (U4 (bc N cm) i x)) (fs N cm x am fl i (cn cm (U4 (bc N cm) i x)) + (if N.ot (cn cm (U4 (bc N cm) i x))=U4 (bc N cm) i x then am else 0 - am))
end
def need (N:Wn) (nd:Nat→Int):Nat:=(sm (fun p=>max (nd p) 0) N.c).toNat
abbrev U7:=List (Key×V)
abbrev Wt:=Nat×Nat×Int×Int
def wn (ws:List Wt) (c:Nat):Wn:=⟨c,ws.length,fun n=>(ws.getD n (0,0,0,0)).1,fun n=>(ws.getD n (0,0,0,0)).2.1,fun n=>(ws.getD n (0,0,0,0)).2.2.1⟩
def fn (l:List Int) (i:Nat):Int:=l.getD i 0
structure LR where
 o:F'
 t:F'
 l:F'
 p:F'
 f:F'
 n:F'
 g:F'
 c:F'
def bW (r:LR):List (C'×V):=[("ones",.ref r.o),("others",.ref r.t),("leasts",.ref r.l),("places",.ref r.p),("flow",.ref r.f),("needs",.ref r.n),("going",.ref r.g),("coming",.ref r.c)]
theorem Wm {r:List (C'×V)}:(((a,v)::r):List (C'×V)).lookup a=f' v:=by
 rw[R6,ZE]
theorem Vl {r:List (C'×V)} (h:(a == b)=K'):(((b,v)::r):List (C'×V)).lookup a=r.lookup a:=by
 rw[R6,h]
theorem tJ {r:LR}:(bW r).lookup ("ones":C')=f' (.ref r.o):=Wm
theorem D6 {r:LR}:(bW r).lookup ("others":C')=f' (.ref r.t):=(Vl (by decide +kernel)).trans Wm
theorem Pn {r:LR}:(bW r).lookup ("leasts":C')=f' (.ref r.l):=(Vl (by decide +kernel)).trans ((Vl (by decide +kernel)).trans Wm)
theorem o9 {r:LR}:(bW r).lookup ("places":C')=f' (.ref r.p):=(Vl (by decide +kernel)).trans ((Vl (by decide +kernel)).trans ((Vl (by decide +kernel)).trans Wm))
theorem Dh {r:LR}:(bW r).lookup ("flow":C')=f' (.ref r.f):=(Vl (by decide +kernel)).trans ((Vl (by decide +kernel)).trans ((Vl (by decide +kernel)).trans ((Vl (by decide +kernel)).trans Wm)))
theorem P3 {r:LR}:(bW r).lookup ("needs":C')=f' (.ref r.n):=(Vl (by decide +kernel)).trans ((Vl (by decide +kernel)).trans ((Vl (by decide +kernel)).trans ((Vl (by decide +kernel)).trans ((Vl (by decide +kernel)).trans Wm))))
theorem NL {r:LR}:(bW r).lookup ("going":C')=f' (.ref r.g):=(Vl (by decide +kernel)).trans ((Vl (by decide +kernel)).trans ((Vl (by decide +kernel)).trans ((Vl (by decide +kernel)).trans ((Vl (by decide +kernel)).trans ((Vl (by decide +kernel)).trans Wm)))))
theorem La {r:LR}:(bW r).lookup ("coming":C')=f' (.ref r.c):=(Vl (by decide +kernel)).trans ((Vl (by decide +kernel)).trans ((Vl (by decide +kernel)).trans ((Vl (by decide +kernel)).trans ((Vl (by decide +kernel)).trans ((Vl (by decide +kernel)).trans ((Vl (by decide +kernel)).trans Wm))))))
def Nq (r:LR) (a:F'):Prop:=a≠r.p∧a≠r.f∧a≠r.n
def goN (ws:List Wt) (i:Nat):List Nat:=(VH ws.length).filter fun n=>decide ((ws.getD n (0,0,0,0)).1=i)
def coN (ws:List Wt) (i:Nat):List Nat:=(VH ws.length).filter fun n=>decide ((ws.getD n (0,0,0,0)).2.1=i)
def nums (l:List Nat):List V:=l.map fun n=>V.int (n:Nat)
structure iy (C:F') (H:Hp) (q:F') (r:LR) (ws:List Wt) (cnt:Nat):Prop where
 ex:∃ dx,H q=f' (.ins C dx (bW r))
 ho:H r.o=f' (.lst (ws.map fun w=>V.int (w.1:Nat)))
 ht:H r.t=f' (.lst (ws.map fun w=>V.int (w.2.1:Nat)))
 hl:H r.l=f' (.lst (ws.map fun w=>V.int w.2.2.1))
 hg:∃ gs:List F',H r.g=f' (.lst (gs.map V.ref))∧gs.length=cnt∧∀ i a,gs[i]?=f' a→H a=f' (.lst (nums (goN ws i)))∧Nq r a
 hc:∃ gs:List F',H r.c=f' (.lst (gs.map V.ref))∧gs.length=cnt∧∀ i a,gs[i]?=f' a→H a=f' (.lst (nums (coN ws i)))∧Nq r a
 no:Nq r r.o
 nt:Nq r r.t
 nl:Nq r r.l
 ng:Nq r r.g
 nc:Nq r r.c
 nq:Nq r q
 pf:r.p≠r.f
 pn:r.p≠r.n
 fn:r.f≠r.n
def Kx (S:List F') (H H':Hp):Prop:=∀ b o,H b=f' o→b∉S→H' b=f' o
theorem Kx.of  (e:ae H H'):Kx S H H':=fun b o h _=>e b o h
variable {C d dx q t:F'}{G G' H1 H2:Hp}{P:Vz}{a:Vg}{am l ls:List Int}{base:U6}{f:Nat→List Nat}{gs:List F'}{j n v:Nat}{mg:C'→Option L'}{r:LR}{w:Vw}{ws:List Wt}{x:V}{xs:List V}
theorem Kx.trans  (a:Kx S H H1) (b:Kx S H1 H2):Kx S H H2:=fun c o h z=>b c o (a c o h z) z
theorem Kx.upd {S:List F'}{H:Hp}{a:F'}{o:HO} (h:a∈S):Kx S H (L2.upd H a o):=fun b u e z=>by
 rw[aj (fun y=>z (by rw[y];exact h))]
 exact e
def Dc (H:Hp) (a:F'):Prop:=∃ kvs,H a=f' (.dK kvs)
theorem iy.kx {cnt:Nat} (h:iy C H q r ws cnt) (k:Kx S H H') (hs:∀ a∈S,a=r.p∨a=r.f∨a=r.n∨Dc H a):iy C H' q r ws cnt:=by
 have lst:∀ a xs,H a=f' (.lst xs)→Nq r a→H' a=f' (.lst xs):=fun a xs e n=>k a _ e fun z=>by
  rcases hs a z with y|y|y|⟨kvs,y⟩
  .exact n.1 y
  .exact n.2.1 y
  .exact n.2.2 y
  .rw[e] at y
   cases y
 obtain⟨dx,ex⟩:=h.ex
 obtain⟨gs,g1,g2,g3⟩:=h.hg
 obtain⟨cs,c1,c2,c3⟩:=h.hc
 refine⟨⟨dx,k _ _ ex fun z=>?_⟩,lst _ _ h.ho h.no,lst _ _ h.ht h.nt,lst _ _ h.hl h.nl,⟨gs,lst _ _ g1 h.ng,g2,fun i a e=>⟨lst _ _ (g3 i a e).1 (g3 i a e).2,(g3 i a e).2⟩⟩,⟨cs,lst _ _ c1 h.nc,c2,fun i a e=>⟨lst _ _ (c3 i a e).1 (c3 i a e).2,(c3 i a e).2⟩⟩,h.no,h.nt,h.nl,h.ng,h.nc,h.nq,h.pf,h.pn,h.fn⟩
 rcases hs q z with y|y|y|⟨kvs,y⟩
 .exact h.nq.1 y
 .exact h.nq.2.1 y
 .exact h.nq.2.2 y
 .rw[ex] at y
  cases y
theorem iy.same {cnt:Nat} (h:iy C H q r ws cnt) (e:ae H H'):iy C H' q r ws cnt:=by
 obtain⟨dx,ex⟩:=h.ex
 obtain⟨gs,g1,g2,g3⟩:=h.hg
 obtain⟨cs,c1,c2,c3⟩:=h.hc
 exact⟨⟨dx,e _ _ ex⟩,e _ _ h.ho,e _ _ h.ht,e _ _ h.hl,⟨gs,e _ _ g1,g2,fun i a q=>⟨e _ _ (g3 i a q).1,(g3 i a q).2⟩⟩,⟨cs,e _ _ c1,c2,fun i a q=>⟨e _ _ (c3 i a q).1,(c3 i a q).2⟩⟩,h.no,h.nt,h.nl,h.ng,h.nc,h.nq,h.pf,h.pn,h.fn⟩
theorem Qed  (h:i<l.length):VB (l.map V.int) (i:Int)=f' (.int (fn l i)):=by
 rw[jG (by lia),Ru,Rx,Rf h]
 unfold fn
 rw[Rl,Rf h]
 rfl
theorem tN  (f:Wt→V) (h:n<ws.length):VB (ws.map f) (n:Int)=f' (f (ws.getD n (0,0,0,0))):=by
 rw[jG (by lia),Ru,Rx,Rf h,Rl,Rf h]
 rfl
theorem QmE  (h:i<l.length):(l.map V.int)[((i:Nat):Int).toNat]?=f' (.int (fn l i)):=by
 rw[Ru,Rx,Rf h]
 unfold fn
 rw[Rl,Rf h]
 rfl
theorem FF (kvs:U7) (k:Key) (v:V):(cg kvs k v).length≤kvs.length + 1:=by
 unfold cg
 split
 .rw[Q3]
  lia
 .rw[Ro]
  exact Q7 _
theorem Fd  (h:i<l.length) (v:Int):fn (l.set i v)=up (fn l) i v:=by
 funext j
 show(l.set i v).getD j 0=if j=i then v else l.getD j 0
 rw[Rl,Rl,List.getElem?_set]
 by_cases c:i=j
 .subst c
  simp[h]
 .simp[c,UM c]
section
variable {K:R'}
def Kj (C:F'):Sp:=fun vs H Q _=>∃ q r ws c p,∃ n:Nat,vs=[.ref q,.int n]∧iy C H q r ws c∧H r.p=f' (.lst ((p:List Int).map V.int))∧p.length=c∧n<ws.length∧(wn ws c).Ok∧Q (.int (Vf (wn ws c) (fn p) n)) H
theorem PF (T:Tx K mg a):dJ P w K mg base U8 1 a.Layout "slack" ["self","number"] [] (Kj a.Layout):=T.QbZ.U2 fun f fd F=>by
 refine F.ok O2 (fun vs H Q E h=>?_) (fun ay A outer s H vs Q E hr h=>?_)
 .obtain⟨q,r,ws,c,p,n,rfl,_⟩:=h
  rfl
 .obtain⟨q,r,ws,c,p,n,rfl,L,hp,hc,hn,ok,k⟩:=h
  obtain⟨dx,ex⟩:=L.ex
  have o1:(ws.getD n (0,0,0,0)).1<p.length:=by rw[hc];exact ok.on n hn
  have o2:(ws.getD n (0,0,0,0)).2.1<p.length:=by rw[hc];exact ok.ot n hn
  refine⟨_,(ak (aN (br jL (br jL (aK bB (bA (pv 0) O) (aK bB (bA (pv 0) O) (pv 1) (fun _ _=>O)) (fun _ _=>O)) (aK bB (bA (pv 0) O) (aK bB (bA (pv 0) O) (pv 1) (fun _ _=>O)) (fun _ _=>O))) (aK bB (bA (pv 0) O) (pv 1) (fun _ _=>O))))),?_⟩
  exact⟨_,O,q,a.Layout,dx,_,_,O,ex,T.VG,T.YK,o9,_,O,q,a.Layout,dx,_,_,O,ex,T.VG,T.QbS,D6,_,O,r.t,_,_,_,O,O,P'.of L.ht,tN _ hn,r.p,_,_,_,O,O,P'.of hp,Qed o2,
   _,rfl,q,a.Layout,dx,_,_,rfl,ex,T.VG,T.YK,o9,_,rfl,q,a.Layout,dx,_,_,rfl,ex,T.VG,T.Z3,tJ,_,rfl,r.o,_,_,_,rfl,rfl,P'.of L.ho,tN _ hn,r.p,_,_,_,rfl,rfl,P'.of hp,Qed o1,_,_,rfl,rfl,
   _,rfl,q,a.Layout,dx,_,_,rfl,ex,T.VG,T.QdU,Pn,_,rfl,r.l,_,_,_,rfl,rfl,P'.of L.hl,tN _ hn,_,_,rfl,rfl,k⟩
end
def yw:Option Nat→V
 | none=>.UO
 | some v=>.int (v:Nat)
def Vm (ws:List Wt) (c:Nat) (P:List Int) (kvs:U7):Nat→List Int×U7×Option Nat
 | 0=>(P,kvs,i')
 | k + 1=>if Vf (wn ws c) (fn (Vm ws c P kvs k).1) k<0 then
   ((Vm ws c P kvs k).1.set ((wn ws c).ot k) (fn (Vm ws c P kvs k).1 ((wn ws c).ot k) + (0 - Vf (wn ws c) (fn (Vm ws c P kvs k).1) k)),cg (Vm ws c P kvs k).2.1 (U5 (((wn ws c).ot k:Nat):Int)) (.int (k:Nat)),f' ((wn ws c).ot k))
  else Vm ws c P kvs k
theorem ug (ws:List Wt) (c:Nat) (P:List Int) (kvs:U7):∀ k,(Vm ws c P kvs k).1.length=P.length∧(Vm ws c P kvs k).2.1.length≤kvs.length + k
 | 0=>⟨O,Q7 _⟩
 | k + 1=>by
  obtain⟨h1,h2⟩:=ug ws c P kvs k
  unfold Vm
  split
  .refine⟨by rw[S4];exact h1,?_⟩
   have:=FF (Vm ws c P kvs k).2.1 (U5 (((wn ws c).ot k:Nat):Int)) (.int (k:Nat))
   show(cg _ _ _).length≤_
   lia
  .exact⟨h1,by lia⟩
section
variable {K:R'}
def QmF (C:F'):Sp:=fun vs H Q _=>∃ q r ws c p d kvs,vs=[.ref q,.ref d]∧iy C H q r ws c∧H r.p=f' (.lst ((p:List Int).map V.int))∧p.length=c∧(wn ws c).Ok∧ws.length≤1000∧H d=f' (.dK kvs)∧kvs.length≤100000 ∧
 ∀ H',Kx [r.p,d] H H'→H' r.p=f' (.lst ((Vm ws c p kvs ws.length).1.map V.int))→H' d=f' (.dK (Vm ws c p kvs ws.length).2.1)→Q (yw (Vm ws c p kvs ws.length).2.2) H'
theorem Mh (T:Tx K mg a):Vd P w K mg base U8 2 "push_once" ["layout","pushers"] [] (QmF a.Layout):=T.QiW.U2 fun f fd F=>by
 have QbZ:=PF (P:=P) (w:=w) (base:=base) T
 refine F.ok o5 (fun vs H Q E h=>?_) (fun ay A outer s H vs Q E hr h=>?_)
 .obtain⟨q,r,ws,c,p,d,kvs,rfl,_⟩:=h
  rfl
 .obtain⟨q,r,ws,c,p,d,kvs,rfl,L,hp,hc,ok,hw,hd,hk,k⟩:=h
  have xD:r.p≠d:=bN hp hd (by intro z;cases z)
  have qZ:∀ G,Kx [r.p,d] H G→iy a.Layout G q r ws c:=fun G kx=>L.kx kx fun x hx=>by
   rcases RS.mp hx with z|z
   .exact .inl z
   .rw[Vb.mp z]
    exact .inr (.inr (.inr ⟨kvs,hd⟩))
  obtain⟨dx,ex⟩:=L.ex
  refine⟨_,(ao (aW (i:=2) o5.nd O (by first|exact UL rfl|exact UK O) yj)
   (ao (ei Wb rfl (uT rfl T.QaM (af (bA (pv 0) rfl) ai)) (kj rfl (bo (aG (i:=3) o5.nd O (by first|exact UL rfl|exact UK O)) (bo (aG (i:=4) o5.nd O (by first|exact UL rfl|exact UK O)) fu))) (ao (aW (i:=5) o5.nd O (by first|exact UL rfl|exact UK O) (br jL au (zF (pv 0) T.VG QbZ (hr.mono (by decide)) (af (pv 3) ai))))
   (ak (aU (bf rW (pv 5) au (aZ _)) (ao (yM (bA (pv 0) rfl) (pv 4) yX (pv 5) EO zR)
   (ao (rV (cI hr) (pv 1) (pv 4) (pv 3) rfl)
   (ak (aW (i:=2) o5.nd O (by first|exact UL rfl|exact UK O) (pv 4))))) aQ))))
   (ak (aN (pv 2))))),?_⟩
  refine⟨_,O,q,a.Layout,dx,_,_,O,ex,T.VG,T.QbS,D6,r.t,O,⟨_,P'.of L.ht⟩,zc (K:=K) (l:=r.t) (xs:=ws.map fun w=>V.int (w.2.1:Nat)) (fun i σ G=>∃ v3 v4 v5,σ=[f' (.ref q),f' (.ref d),f' (yw (Vm ws c p kvs i).2.2),v3,v4,v5]∧Kx [r.p,d] H G∧G r.p=f' (.lst ((Vm ws c p kvs i).1.map V.int))∧G d=f' (.dK (Vm ws c p kvs i).2.1))
   ⟨i',i',i',rfl,Kx.of (ae.refl _),hp,hd⟩ ?_ ?_ ?_⟩
  .rintro i σ G _ ⟨_,_,_,rfl,kx,_⟩
   exact P'.of (qZ G kx).ht
  .rintro i x tt σ G hx nt ⟨v3,v4,v5,rfl,kx,hG,kF⟩
   have hi:i<ws.length:=by
    have:=(VD.mp hx).1
    rw[Q3] at this
    exact this
   have AN:x=.int ((wn ws c).ot i:Nat):=by
    rw[Rx,Rf hi] at hx
    have z:=VE hx
    rw[← z]
    show V.int ((ws[i].2.1:Nat):Int)=V.int (((ws.getD i (0,0,0,0)).2.1:Nat):Int)
    rw[Rl,Rf hi]
    rfl
   subst AN
   obtain⟨l1,l2⟩:=ug ws c p kvs i
   have oi:(wn ws c).ot i<c:=ok.ot i hi
   have s3:ae G (upd G tt (.tup [.int i,.int ((wn ws c).ot i:Nat)])):=ae.new nt
   have h3:upd G tt (.tup [.int i,.int ((wn ws c).ot i:Nat)]) tt=f' (.tup [.int i,.int ((wn ws c).ot i:Nat)]):=ag
   generalize upd G tt (.tup [.int i,.int ((wn ws c).ot i:Nat)])=G3 at s3 h3 ⊢
   have jQ:Kx [r.p,d] H G3:=kx.trans (Kx.of s3)
   have jN:=s3 _ _ hG
   have jW:=s3 _ _ kF
   have L3:=qZ G3 jQ
   obtain⟨AW,Xs⟩:=L3.ex
   have st:Vm ws c p kvs (i + 1)=if Vf (wn ws c) (fn (Vm ws c p kvs i).1) i<0 then
     ((Vm ws c p kvs i).1.set ((wn ws c).ot i) (fn (Vm ws c p kvs i).1 ((wn ws c).ot i) + (0 - Vf (wn ws c) (fn (Vm ws c p kvs i).1) i)),cg (Vm ws c p kvs i).2.1 (U5 (((wn ws c).ot i:Nat):Int)) (.int (i:Nat)),f' ((wn ws c).ot i))
    else Vm ws c p kvs i:=rfl
   rw[st]
   generalize Vm ws c p kvs i=now at jN jW l1 l2 st ⊢
   refine⟨tt,_,O,UW.of h3,O,_,_,O,_,_,O,O,?_⟩
   refine⟨_,O,q,AW,_,O,Xs,by rfl,_,O,q,r,ws,c,now.1,i,O,L3,jN,by lia,hi,ok,_,_,O,O,?_⟩
   refine⟨_,O,_,_,O,O,_,O,?_⟩
   refine bi (fun c1=>?_) (fun c1=>?_)
   .have c2:Vf (wn ws c) (fn now.1) i<0:=by have:=Rv c1;lia
    rw[UH c2]
    have JH:(wn ws c).ot i<now.1.length:=by lia
    refine⟨_,O,q,a.Layout,AW,_,_,O,Xs,T.VG,T.YK,o9,_,O,r.p,_,_,_,O,O,P'.of jN,by lia,QmE JH,_,O,_,_,O,O,r.p,_,_,_,O,O,jN,zJ (by lia) (by rw[Q3];lia),?_⟩
    rw[Ru,← Uw]
    have kE:Kx [r.p,d] H (upd G3 r.p (.lst ((now.1.set ((wn ws c).ot i) (fn now.1 ((wn ws c).ot i) + (0 - Vf (wn ws c) (fn now.1) i))).map V.int))):=jQ.trans (Kx.upd (by simp))
    have h4:upd G3 r.p (.lst ((now.1.set ((wn ws c).ot i) (fn now.1 ((wn ws c).ot i) + (0 - Vf (wn ws c) (fn now.1) i))).map V.int)) r.p=f' (.lst ((now.1.set ((wn ws c).ot i) (fn now.1 ((wn ws c).ot i) + (0 - Vf (wn ws c) (fn now.1) i))).map V.int)):=ag
    have h5:upd G3 r.p (.lst ((now.1.set ((wn ws c).ot i) (fn now.1 ((wn ws c).ot i) + (0 - Vf (wn ws c) (fn now.1) i))).map V.int)) d=f' (.dK now.2.1):=by rw[aj (UM xD)];exact jW
    refine⟨_,O,_,O,_,O,d,_,O,.inl ⟨now.2.1,U5 (((wn ws c).ot i:Nat):Int),h5,O,by rw[Q9];lia,O⟩,?_⟩
    refine⟨_,O,_,_,_,O,kE.trans (Kx.upd (by simp)),?_,ag⟩
    rw[aj xD]
    exact h4
   .have c2:¬ Vf (wn ws c) (fn now.1) i<0:=by have:=RF c1;lia
    rw[UF c2]
    exact⟨_,_,_,O,jQ,jN,jW⟩
  .rintro σ G ⟨v3,v4,v5,rfl,kx,hG,kF⟩
   rw[Q3] at hG kF ⊢
   exact⟨_,O,k G kx hG kF⟩
end
def jg (kvs:U7) (pu:Nat→Option Nat):Prop:=∀ v:Nat,a8 kvs (U5 (v:Int))=(pu v).map fun n=>V.int (n:Nat)
theorem jg.nil:jg [] (fun _=>i'):=fun _=>rfl
theorem jg.put {kvs:U7} (h:jg kvs pu) (v n:Nat):jg (cg kvs (U5 (v:Int)) (.int (n:Nat))) (up pu v (f' n)):=fun u=>by
 rw[tO]
 by_cases c:u=v
 .subst c
  rw[UH rfl,fQ]
  rfl
 .rw[UF (fun z=>c (by injection z with z;exact Qbc z)),eM _ _ c]
  exact h u
theorem jg.QaO {kvs:U7} (h:jg kvs pu) (hd:H d=f' (.dK kvs)) (e:pu v=f' n):ci H d (.int (v:Nat)) (f' (.int (n:Nat))):=.inl ⟨kvs,U5 (v:Int),.inl hd,O,by rw[h v,e];rfl⟩
theorem Cm {ws:List Wt}{c:Nat}{P:List Int}{kvs:U7}{t:Nat→Nat}{pu:Nat→Option Nat}{r:Nat} (hc:P.length=c) (ok:(wn ws c).Ok) (hp:jg kvs pu) (f:Fi (wn ws c) t (fn P) pu) (h:Rd (wn ws c) t (fn P) r 0):∀ k,k≤ws.length →
  ∃ t' m5,jg (Vm ws c P kvs k).2.1 m5∧Fi (wn ws c) t' (fn (Vm ws c P kvs k).1) m5∧Rd (wn ws c) t' (fn (Vm ws c P kvs k).1) r k∧((Vm ws c P kvs k).2.2=i'→Vm ws c P kvs k=(P,kvs,i')∧∀ n,n<k→0≤Vf (wn ws c) (fn P) n)∧∀ v,(Vm ws c P kvs k).2.2=f' v→r≤t' v∧v<c
 | 0,_=>⟨t,pu,hp,f,h,fun _=>⟨O,fun n hn=>UR hn (Sg _)⟩,fun v e=>by cases e⟩
 | k + 1,hk=>by
  obtain⟨t',m5,i1,i2,i3,i4,i5⟩:=Cm hc ok hp f h k (by lia)
  have l1:=(ug ws c P kvs k).1
  have oi:(wn ws c).ot k<c:=ok.ot k (by show k<ws.length;lia)
  unfold Vm
  by_cases s:Vf (wn ws c) (fn (Vm ws c P kvs k).1) k<0
  .rw[UH s]
   refine⟨up t' ((wn ws c).ot k) r,up m5 ((wn ws c).ot k) (f' k),i1.put _ _,?_,?_,fun e=>(by cases e),fun v e=>?_⟩
   .show Fi _ _ (fn ((Vm ws c P kvs k).1.set _ _)) _
    rw[Fd (by lia)]
    exact Mm i2 i3 (by show k<ws.length;lia) s
   .show Rd _ _ (fn ((Vm ws c P kvs k).1.set _ _)) _ _
    rw[Fd (by lia)]
    exact Lv i3 s
   .obtain rfl:(wn ws c).ot k=v:=VE e
    rw[fQ]
    exact⟨Q7 _,oi⟩
  .rw[UF s]
   refine⟨t',m5,i1,i2,i3.skip (by lia),fun e=>?_,i5⟩
   obtain⟨e1,e2⟩:=i4 e
   refine⟨e1,fun n hn=>?_⟩
   rcases Sm n k with z|z
   .exact e2 n z
   .obtain rfl:n=k:=by lia
    rw[e1] at s
    exact Int.not_lt.mp s
def Zo (N:Wn) (pu:Nat→Option Nat) (p:Nat):Nat→List Nat
 | 0=>[]
 | k + 1=>cn pu (U4 (bk N pu) k p)::Zo N pu p k
theorem zr (N:Wn) (pu:Nat→Option Nat) (p:Nat):∀ k,(Zo N pu p k).length=k
 | 0=>rfl
 | k + 1=>by
  show(Zo N pu p k).length + 1=k + 1
  rw[zr N pu p k]
structure uW (N:Wn) (ring:List Nat):Prop where
 Xy:∃ P t pu p k,Fi N t P pu∧p<N.c∧(∀ i,(pu (U4 (bk N pu) i p)).isSome=B')∧ring=Zo N pu p (k + 1)∧U4 (bk N pu) (k + 1) p=p∧∀ s,1≤s→s≤k→U4 (bk N pu) s p≠p
theorem ye {N:Wn} (h:(pu v).isSome=B'):bk N pu v=N.on (cn pu v):=by
 unfold bk
 rw[yh h]
theorem at0:VB (x::xs) 0=f' x:=by
 rw[show(0:Int)=((0:Nat):Int) from rfl,jG (by lia)]
 rfl
section
variable {K:R'}
def QmG (C:F'):Sp:=fun vs H Q _=>∃ q r ws c p d kvs t pu,∃ v:Nat,vs=[.ref q,.ref d,.int v]∧iy C H q r ws c∧H r.p=f' (.lst ((p:List Int).map V.int))∧p.length=c∧(wn ws c).Ok∧c≤1000∧H d=f' (.dK kvs)∧jg kvs pu∧Fi (wn ws c) t (fn p) pu∧c≤t v∧v<c ∧
 ∀ g ring H',ae H H'→H' g=f' (.lst (nums ring))→H g=i'→uW (wn ws c) ring→ring.length≤c + 1→Q (.ref g) H'
theorem Lo (T:Tx K mg a):Vd P w K mg base U8 2 "ring_behind" ["layout","pushers","point"] [] (QmG a.Layout):=T.QiX.U2 fun f fd F=>by
 refine F.ok uQ (fun vs H Q E h=>?_) (fun ay A outer s H vs Q E hr h=>?_)
 .obtain⟨q,r,ws,c,p,d,kvs,t,pu,v,rfl,_⟩:=h
  rfl
 .obtain⟨q,r,ws,c,p,d,kvs,t,pu,v,rfl,L,hp,hc,ok,Q1,hd,Jh,fi,ht,hv,k⟩:=h
  obtain⟨all,dd,wQ,AI,cT⟩:=NV ok fi ht hv
  have AI:dd≤c:=AI
  have num:∀ x,(pu x).isSome=B'→cn pu x<ws.length:=fun x e=>(fi.a x _ (yh e)).1
  obtain⟨dx,ex⟩:=L.ex
  have dg:∀ G,ae H G→∀ x,(pu x).isSome=B'→ci G d (.int (x:Nat)) (f' (.int (cn pu x:Nat))):=fun G sg x e=>Jh.QaO (sg _ _ hd) (yh e)
  have one:∀ G,ae H G→∀ x,(pu x).isSome=B'→P' K G r.o (ws.map fun w=>V.int (w.1:Nat))∧VB (ws.map fun w=>V.int (w.1:Nat)) ((cn pu x:Nat):Int)=f' (.int (bk (wn ws c) pu x:Nat)):=fun G sg x e=>⟨P'.of (sg _ _ L.ho),by rw[tN _ (num x e),ye e];rfl⟩
  refine⟨_,(ao (ei Wb O (bV (bA (pv 0) O)) (aG (i:=3) uQ.nd O (by first|exact UL rfl|exact UK O)) (ak (aW (i:=2) uQ.nd O (by first|exact UL rfl|exact UK O) (aK bB (bA (pv 0) O) (gb (cI hr) (pv 1) (pv 2) (fun _ _=>O)) (fun _ _=>O)))))
   (ao (aW (i:=4) uQ.nd O (by first|exact UL rfl|exact UK O) (bY (af (gb (cI hr) (pv 1) (pv 2) (fun _ _=>O)) ai)))
   (ao (uj Wb (bf nN (aK bB (bA (pv 0) rfl) (aK bB (pv 4) au (fun _ _=>O)) (fun _ _=>O)) (pv 2) (aZ _)) (ak (bp (ej V5 Qcv QeB EI (pv 4) (af au (af (gb (cI hr) (pv 1) (aK bB (bA (pv 0) O) (aK bB (pv 4) au (fun _ _=>O)) (fun _ _=>O)) (fun _ _=>O)) ai))))))
   (ak (aN (pv 4)))))),?_⟩
  refine⟨_,O,q,a.Layout,dx,_,_,O,ex,T.VG,T.YK,o9,r.p,O,⟨_,P'.of hp⟩,iN (K:=K) (a:=r.p) (xs:=p.map V.int) (fun i σ G=>∃ v3,σ=[f' (.ref q),f' (.ref d),f' (.int (U4 (bk (wn ws c) pu) i v:Nat)),v3,i']∧ae H G)
   ⟨i',rfl,ae.refl _⟩ ?_ ?_ ?_⟩
  .rintro i σ G _ ⟨_,rfl,sg⟩
   exact P'.of (sg _ _ hp)
  .rintro i x σ G hx ⟨v3,rfl,sg⟩
   have o:=one G sg _ (all i)
   dsimp only[bL]
   exact⟨_,O,q,a.Layout,dx,_,_,O,sg _ _ ex,T.VG,T.Z3,tJ,_,O,_,O,d,_,O,dg G sg _ (all i),r.o,_,_,_,O,O,o.1,o.2,_,O,sg⟩
  .rintro σ G ⟨v3,rfl,sg⟩
   rw[Q3,hc]
   have al:∀ i,(pu (U4 (bk (wn ws c) pu) i (U4 (bk (wn ws c) pu) c v))).isSome=B':=fun i=>by rw[← rK];exact all _
   have sN:(wn ws c).c=c:=rfl
   rw[sN] at cT
   generalize Hj:U4 (bk (wn ws c) pu) c v=x0 at al cT
   have Hm:x0<c:=by
    rw[← Hj]
    cases c with
    | zero=>exact UR hv (Sg _)
    | succ c'=>
     have e:U4 (bk (wn ws (c' + 1)) pu) (c' + 1) v=(wn ws (c' + 1)).on (cn pu (U4 (bk (wn ws (c' + 1)) pu) c' v)):=ye (all c')
     rw[e]
     exact ok.on _ (num _ (all c'))
   refine⟨_,O,_,O,d,_,O,dg G sg _ (al 0),(by show 1≤S';decide),fun g ng=>?_⟩
   have s1:ae G (upd G g (.lst [.int (cn pu x0:Nat)])):=ae.new ng
   have h1:upd G g (.lst [.int (cn pu x0:Nat)]) g=f' (.lst [.int (cn pu x0:Nat)]):=ag
   have mz:H g=i':=none_of sg ng
   generalize upd G g (.lst [.int (cn pu x0:Nat)])=H1 at s1 h1 ⊢
   refine⟨fun m σ H'=>∃ j,m=dd - (j + 1)∧j<dd∧σ=[f' (.ref q),f' (.ref d),f' (.int (x0:Nat)),v3,f' (.ref g)]∧ae H H'∧H' g=f' (.lst (nums (Zo (wn ws c) pu x0 (j + 1))))∧∀ s,1≤s→s≤j→U4 (bk (wn ws c) pu) s x0≠x0,
    ⟨_,0,rfl,wQ,rfl,sg.trans s1,h1,fun s h1 h2=>UR h1 (by lia)⟩,?_⟩
   rintro m σ H2 ⟨j,rfl,jd,rfl,s2,mK,ne⟩
   have o:=one H2 s2 _ (al j)
   refine⟨_,O,q,a.Layout,dx,_,_,O,s2 _ _ ex,T.VG,T.Z3,tJ,_,O,g,_,_,_,O,O,P'.of mK,at0,r.o,_,_,_,O,O,o.1,o.2,_,O,O,_,O,?_⟩
   have e1:bk (wn ws c) pu (U4 (bk (wn ws c) pu) j x0)=U4 (bk (wn ws c) pu) (j + 1) x0:=rfl
   refine bi (fun c1=>?_) (fun c1=>?_)
   .have n1:U4 (bk (wn ws c) pu) (j + 1) x0≠x0:=fun z=>by
     rw[e1,z,Rj rfl] at c1
     cases c1
    have Jp:j + 1<dd:=by
     rcases Sm (j + 1) dd with z|z
     .exact z
     .exact UR (by rw[show j + 1=dd by lia];exact cT) n1
    refine⟨_,fun σ' H' h=>h,?_⟩
    have len:=zr (wn ws c) pu x0 (j + 1)
    have lz:(nums (Zo (wn ws c) pu x0 (j + 1))).length=j + 1:=by unfold nums;rw[Q3,len]
    refine⟨_,O,.inl ⟨O,_,P'.of mK⟩,_,O,_,O,q,a.Layout,dx,_,_,O,s2 _ _ ex,T.VG,T.Z3,tJ,_,O,g,_,_,_,O,O,P'.of mK,at0,r.o,_,_,_,O,O,o.1,o.2,d,_,O,dg H2 s2 _ (al (j + 1)),g,_,0,_,O,O,mK,by lia,by lia,?_,?_⟩
    .rw[lz,Q9]
     lia
    .exact⟨dd - (j + 1 + 1),by lia,j + 1,O,Jp,O,du mz s2,ag,fun s h1 h2=>by
      rcases Sm s (j + 1) with z|z
      .exact ne s h1 (by lia)
      .rw[show s=j + 1 by lia]
       exact n1⟩
   .have e2:U4 (bk (wn ws c) pu) (j + 1) x0=x0:=by
     by_cases z:U4 (bk (wn ws c) pu) (j + 1) x0=x0
     .exact z
     .rw[e1,Rs (fun y=>z (by injection y with y;exact Qbc y))] at c1
      cases c1
    exact⟨_,O,k g _ H2 s2 mK mz ⟨_,t,pu,x0,j,fi,Hm,al,O,e2,ne⟩ (by rw[zr];lia)⟩
end
def Vy (ws:List Wt) (c:Nat) (P:List Int):Nat→List Int×U7×Option Nat
 | 0=>(P,[],i')
 | j + 1=>Vm ws c (Vy ws c P j).1 (Vy ws c P j).2.1 ws.length
def pc (ws:List Wt) (c:Nat):List Int:=(Vy ws c (UX c 0) c).1
theorem Eg {ws:List Wt}{c:Nat}{P:List Int}{kvs:U7} (h:∀ n,n<ws.length→0≤Vf (wn ws c) (fn P) n):∀ k,k≤ws.length→Vm ws c P kvs k=(P,kvs,i')
 | 0,_=>rfl
 | k + 1,hk=>by
  have ih:=Eg h (kvs:=kvs) k (by lia)
  unfold Vm
  rw[ih,UF (by have:=h k (by lia);show ¬ Vf (wn ws c) (fn P) k<0;lia)]
theorem xG {ws:List Wt}{c:Nat}{P:List Int}{j:Nat} (h:∀ n,n<ws.length→0≤Vf (wn ws c) (fn (Vy ws c P j).1) n):∀ i,(Vy ws c P (j + i)).1=(Vy ws c P j).1
 | 0=>rfl
 | i + 1=>by
  have ih:=xG h i
  show(Vm ws c (Vy ws c P (j + i)).1 (Vy ws c P (j + i)).2.1 ws.length).1=_
  rw[ih,Eg h _ (Q7 _)]
theorem uA (ws:List Wt) (c:Nat) (P:List Int):∀ j,(Vy ws c P j).1.length=P.length∧(Vy ws c P j).2.1.length≤j * ws.length
 | 0=>⟨O,RY _⟩
 | j + 1=>by
  obtain⟨h1,h2⟩:=uA ws c P j
  obtain⟨h3,h4⟩:=ug ws c (Vy ws c P j).1 (Vy ws c P j).2.1 ws.length
  refine⟨h3.trans h1,RT h4 ?_⟩
  rw[Qf9]
  lia
theorem P8 (c:Nat):fn (UX c 0)=fun _=>0:=by
 funext i
 unfold fn
 rw[Rl,T6]
 split <;> rfl
def nI (ws:List Wt) (c:Nat) (i:Nat):Prop:=∃ t pu,jg (Vy ws c (UX c 0) i).2.1 pu∧Fi (wn ws c) t (fn (Vy ws c (UX c 0) i).1) pu∧Rd (wn ws c) t (fn (Vy ws c (UX c 0) i).1) (i + 1) 0∧∀ v,(Vy ws c (UX c 0) i).2.2=f' v→i≤t v∧v<c
theorem nI.start (ws:List Wt) (c:Nat):nI ws c 0:=by
 refine⟨fun _=>0,fun _=>i',jg.nil,?_,?_,fun v e=>by cases e⟩
 .show Fi _ _ (fn (UX c 0)) _
  rw[P8]
  exact Fi.start _
 .exact Rd.start _ _
theorem nI.next {ws:List Wt}{c i:Nat} (ok:(wn ws c).Ok) (h:nI ws c i):nI ws c (i + 1)∧((Vy ws c (UX c 0) (i + 1)).2.2=i'→(Vy ws c (UX c 0) (i + 1)).1=(Vy ws c (UX c 0) i).1∧∀ n,n<ws.length→0≤Vf (wn ws c) (fn (Vy ws c (UX c 0) i).1) n):=by
 obtain⟨t,pu,h1,h2,h3,_⟩:=h
 have hl:(Vy ws c (UX c 0) i).1.length=c:=by rw[(uA ws c _ i).1,RZ]
 obtain⟨t',m5,i1,i2,i3,i4,i5⟩:=Cm hl ok h1 h2 h3 ws.length (Q7 _)
 refine⟨⟨t',m5,i1,i2,Rd.next i3,i5⟩,fun e=>?_⟩
 obtain⟨e1,e2⟩:=i4 e
 refine⟨?_,e2⟩
 show(Vm ws c (Vy ws c (UX c 0) i).1 (Vy ws c (UX c 0) i).2.1 ws.length).1=_
 rw[e1]
section
variable {K:R'}
def MF (C:F'):Sp:=fun vs H Q _=>∃ x t g ys,vs=[.ref x,.ref g]∧H x=f' (cy C t x i')∧H g=f' (.lst ys)∧∀ l,H l=i'→∀ dx,upd H l (.lst ys) dx=i'→Q .UO (upd (upd (upd H l (.lst ys)) dx (.xd [("ring",.ref l)])) x (cy C t x (f' dx)))
theorem EU (T:Tx K mg a):lW P w K mg base U8 1 a.Ring "Ring" ["self","ring"] (MF a.Ring):=T.QiL.U2 fun f fd F=>by
 refine F.ok PL (fun vs H Q E h=>?_) (fun ay A outer s H vs Q E hr h=>?_)
 .obtain⟨x,t,g,ys,rfl,_⟩:=h
  rfl
 .obtain⟨x,t,g,ys,rfl,hx,hg,k⟩:=h
  refine⟨_,(ak (uU (pv 0) (mh EB O T.QaN tL (af (pv 1) ai)) O)),?_⟩
  exact⟨_,O,g,_,O,.inl (P'.of hg),fun l nl=>⟨_,O,x,a.Ring,t,O,by rw[aj (aq hx nl)];exact hx,T.QiM,fun dx nd=>k l nl dx nd⟩⟩
def QmH (a:Vg):Sp:=fun vs H Q E=>∃ q r ws c,vs=[.ref q]∧iy a.Layout H q r ws c∧H r.p=f' (.lst ((UX c (0:Int)).map V.int))∧(wn ws c).Ok∧ws.length≤200∧c≤200 ∧
 ((∀ n,n<ws.length→0≤Vf (wn ws c) (fn (pc ws c)) n)→(pc ws c).length=c→∀ H',Kx [r.p] H H'→H' r.p=f' (.lst ((pc ws c).map V.int))→Q .UO H') ∧
 ∀ ring l dx H',Kx [r.p] H H'→H' dx=f' (.xd [("ring",.ref l)])→H' l=f' (.lst (nums ring))→uW (wn ws c) ring→ring.length≤c + 1→E (.ref a.Ring) (f' dx) H'
theorem QmI (T:Tx K mg a):Vd P w K mg base (Vn P w) 3 "fit" ["layout"] [] (QmH a):=T.QiV.U2 fun f fd F=>by
 have fD:=Mh (P:=P) (w:=w) (base:=base) T
 have dS:=Lo (P:=P) (w:=w) (base:=base) T
 have gD:=EU (P:=P) (w:=w) (base:=base) T
 refine F.VS oW (fun vs H Q E h=>?_) (fun ay A outer s H vs Q E hr h=>?_)
 .obtain⟨q,r,ws,c,rfl,_⟩:=h
  rfl
 .obtain⟨q,r,ws,c,rfl,L,hp,ok,hw,hc,k1,k2⟩:=h
  obtain⟨dx,ex⟩:=L.ex
  refine⟨_,(ao (aW (i:=1) oW.nd O (by first|exact UL rfl|exact UK O) (bj eZ O T.VP dm (af (bA (pv 0) O) ai)))
   (ao (aW (i:=2) oW.nd O (by first|exact UL rfl|exact UK O) sk)
   (ao (aW (i:=3) oW.nd O (by first|exact UL rfl|exact UK O) yj)
   (ao (ei YX rfl (rY rfl T.Zn (af (pv 1) ai)) (aG (i:=4) oW.nd O (by first|exact UL rfl|exact UK O)) (ao (aW (i:=3) oW.nd O (by first|exact UL rfl|exact UK O) (bC fD (hr.mono (by decide)) rfl (af (pv 0) (af (pv 2) ai))))
   (ak (aU (ko (uz (pv 3))) (ak Np) aQ))))
   (ak (aU (ko (Mq (pv 3))) (ak (j7 aV gD (hr.mono (by decide)) rfl (af (bC dS (hr.mono (by decide)) rfl (af (pv 0) (af (pv 2) (af (pv 3) ai)))) ai))) aQ)))))),?_⟩
  refine⟨_,O,q,a.Layout,dx,_,_,O,ex,T.VG,T.YK,o9,r.p,_,O,.inl (P'.of hp),fun d nd=>?_⟩
  have lz:((UX c (0:Int)).map V.int).length=c:=by rw[Q3,RZ]
  have xD:r.p≠d:=aq hp nd
  have s1:ae H (upd H d (.dK [])):=ae.new nd
  have h1:upd H d (.dK []) d=f' (.dK []):=ag
  generalize upd H d (.dK [])=H1 at s1 h1 ⊢
  have L1:=L.same s1
  have qZ:∀ G,Kx [r.p,d] H1 G→iy a.Layout G q r ws c:=fun G kx=>L1.kx kx fun x hx=>by
   rcases RS.mp hx with z|z
   .exact .inl z
   .rw[Vb.mp z]
    exact .inr (.inr (.inr ⟨[],h1⟩))
  have vB:∀ G,Kx [r.p,d] H1 G→Kx [r.p] H G:=fun G kx b o e z=>kx b o (s1 b o e) fun y=>by
   rcases RS.mp y with y|y
   .exact z (by rw[y];simp)
   .rw[Vb.mp y,nd] at e
    cases e
  rw[lz]
  refine⟨_,O,_,O,by lia,by lia,yg (lo:=0) (n:=((c:Nat):Int).toNat) (fun i σ G=>∃ v4,σ=[f' (.ref q),f' (.int (c:Nat)),f' (.ref d),f' (yw (Vy ws c (UX c 0) i).2.2),v4]∧nI ws c i∧Kx [r.p,d] H1 G∧G r.p=f' (.lst ((Vy ws c (UX c 0) i).1.map V.int))∧G d=f' (.dK (Vy ws c (UX c 0) i).2.1)∧(0<i→(Vy ws c (UX c 0) i).2.2≠i'))
   ⟨i',rfl,nI.start ws c,Kx.of (ae.refl _),s1 _ _ hp,h1,fun z=>UR z (Ry _)⟩ ?_ ?_⟩
  .rintro i σ G hi ⟨v4,rfl,ro,kx,hG,kF,_⟩
   rw[Ru] at hi
   obtain⟨l1,l2⟩:=uA ws c (UX c 0) i
   rw[RZ] at l1
   have l3:i * ws.length≤200 * 200:=Nat.mul_le_mul (by lia) hw
   dsimp only[bL]
   refine⟨_,O,_,O,q,r,ws,c,_,d,_,O,qZ G kx,hG,l1,ok,by lia,kF,by lia,fun H2 sM h2 eY=>?_⟩
   obtain⟨Gg,UO⟩:=ro.next ok
   have st:Vm ws c (Vy ws c (UX c 0) i).1 (Vy ws c (UX c 0) i).2.1 ws.length=Vy ws c (UX c 0) (i + 1):=rfl
   rw[st] at h2 eY ⊢
   refine⟨_,O,_,O,?_⟩
   cases e:(Vy ws c (UX c 0) (i + 1)).2.2 with
   | none=>
    refine eh ?_
    obtain⟨e1,e2⟩:=UO e
    have lF:=xG e2 (c - i)
    rw[show i + (c - i)=c by lia] at lF
    have fp:pc ws c=(Vy ws c (UX c 0) (i + 1)).1:=lF.trans e1.symm
    refine k1 ?_ ?_ H2 (vB _ (kx.trans sM)) (by rw[fp];exact h2)
    .rw[fp,e1]
     exact e2
    .rw[fp,e1]
     exact l1
   | some v=>
    refine iL ?_
    exact⟨_,O,Gg,kx.trans sM,h2,eY,fun _ z=>by cases z⟩
  .rintro σ G ⟨v4,rfl,ro,kx,hG,kF,ne⟩
   rw[Ru] at ro hG kF ne ⊢
   obtain⟨l1,l2⟩:=uA ws c (UX c 0) c
   rw[RZ] at l1
   refine⟨_,O,_,O,?_⟩
   cases e:(Vy ws c (UX c 0) c).2.2 with
   | none=>
    refine iL ?_
    have c0:c=0:=by
     rcases Ta c with z|z
     .exact z
     .exact UR e (ne z)
    refine k1 (fun n hn=>?_) l1 G (vB _ kx) hG
    have z:(wn ws c).on n<c:=ok.on n hn
    lia
   | some v=>
    refine eh ?_
    obtain⟨t,pu,r1,r2,r3,r4⟩:=ro
    obtain⟨t1,t2⟩:=r4 v e
    refine⟨_,O,_,O,_,O,q,r,ws,c,_,d,_,t,pu,v,O,qZ G kx,hG,l1,ok,by lia,kF,r1,r2,t1,t2,fun g ring H2 s2 hg ng Xy len=>?_⟩
    refine⟨by show 1≤S';decide,fun x tk hx=>⟨x,tk,g,nums ring,O,ag,by rw[aj (aq hg hx)];exact hg,fun l nl d2 kD=>⟨O,f' d2,ag,?_⟩⟩⟩
    have lx:l≠x:=fun z=>by rw[z,ag] at nl;cases nl
    have dl:d2≠l:=fun z=>by rw[z,ag] at kD;cases kD
    rw[aj dl] at kD
    have Bh:d2≠x:=fun z=>by rw[z,ag] at kD;cases kD
    rw[aj Bh] at kD
    rw[aj lx] at nl
    have e:del (upd (upd (upd (upd H2 x (cy a.Ring tk x i')) l (.lst (nums ring))) d2 (.xd [("ring",.ref l)])) x (cy a.Ring tk x (f' d2))) x=upd (upd H2 l (.lst (nums ring))) d2 (.xd [("ring",.ref l)]):=by
     funext b
     unfold del
     by_cases h1:b=x
     .subst h1
      rw[UH rfl,aj (UM Bh),aj (UM lx),hx]
     .rw[UF h1,aj h1]
      by_cases h2:b=d2
      .subst h2;rw[ag,ag]
      .rw[aj h2,aj h2]
       by_cases h3:b=l
       .subst h3;rw[ag,ag]
       .rw[aj h3,aj h1,aj h3]
    show E _ _ _
    rw[e]
    have sl:ae H2 (upd H2 l (.lst (nums ring))):=ae.new nl
    have xj:upd H2 l (.lst (nums ring)) d2=i':=by rw[aj dl];exact kD
    have sd:ae (upd H2 l (.lst (nums ring))) (upd (upd H2 l (.lst (nums ring))) d2 (.xd [("ring",.ref l)])):=ae.new xj
    exact k2 ring l d2 _ ((vB _ kx).trans (Kx.of (s2.trans (sl.trans sd)))) ag (by rw[aj (UM dl)];exact ag) Xy len
end
abbrev Wi:=Int×Int×Int×Int
def wV (q:Wi):List V:=[.int q.1,.int q.2.1,.int q.2.2.1,.int q.2.2.2]
def wD (q:Wi):Dt:=.tup [.int q.1,.int q.2.1,.int q.2.2.1,.int q.2.2.2]
section
variable {K:R'}
theorem QmJ {q:Wi} (h:UW K H t (wV q)):VC K H (wD q) (.ref t):=⟨t,_,O,h,_,_,O,O,_,_,O,O,_,_,O,O,_,_,O,O,O⟩
theorem mj {q:Wi} (h:VC K H (wD q) x):∃ t,x=.ref t∧UW K H t (wV q):=by
 obtain⟨t,xs,rfl,h1,y1,xB,rfl,rfl,y2,sY,rfl,rfl,y3,wo,rfl,rfl,y4,BY,rfl,rfl,h2⟩:=h
 rw[show BY=[] from h2] at h1
 exact⟨t,O,h1⟩
def im (K:R') (H:Hp) (l:F') (ws:List Wi):Prop:=∃ xs,P' K H l xs∧bv K H (ws.map wD) xs
theorem im.same {l:F'}{ws:List Wi} (h:im K H l ws) (s:ae H H'):im K H' l ws:=by
 obtain⟨xs,h1,h2⟩:=h
 exact⟨xs,s.Ve h1,s.U' h2⟩
end
def diff (ps:List Int) (q:Wi):Int:=pz ps q.2.1 - pz ps q.1
def keep (ps:List Int) (q:Wi):Bool:=decide (q.2.2.1≤diff ps q)
def yo (ws:List Wi) (ps:List Int):Int:=(ws.map fun q=>q.2.2.2 * diff ps q).sum
def Z' (n:Nat) (q:Wi):Prop:=(0≤q.1∧q.1<n)∧0≤q.2.1∧q.2.1<n
def Small (z:Int):Prop:=-(2 ^ 64)<z∧z<2 ^ 64
section
variable {K:R'}
def nV (c:Int) (ws:List Wi) (ps:List Int):Bool:=decide ((ps.length:Int)=c) && ws.all (keep ps)
def QmK (K:R'):Sp:=fun vs H Q _=>∃ c l ws p ps,vs=[.int c,.ref l,.ref p]∧im K H l ws∧P' K H p (ps.map V.int)∧ws.length≤1000∧((ps.length:Int)=c→∀ q∈ws,Z' ps.length q)∧∀ H',ae H H'→Q (.bl (nV c ws ps)) H'
theorem Kk (T:Tx K mg a):Vd P w K mg base U8 1 "fits" ["count","wishes","places"] [] (QmK K):=T.QiQ.U2 fun f fd F=>by
 refine F.ok O7 (fun vs H Q E h=>?_) (fun ay A outer s H vs Q E hr h=>?_)
 .obtain⟨c,l,ws,p,ps,rfl,_⟩:=h
  rfl
 .obtain⟨c,l,ws,p,ps,rfl,⟨xs,hl,hd⟩,hp,hk,cB,k⟩:=h
  have cN:ws.length=xs.length:=by rw[← hd.length,Q3]
  refine⟨_,(ao (aU (bf nN (bj eZ O T.VP dm (af (pv 2) ai)) (pv 0) (aZ _)) (ak (aN nH)) aQ)
   (ak (aN (bj rB rfl T.Z8 rZ (af (cF (N:=["one","other","least","weight","places"]) (cap:=[i',i',i',i',f' 2]) O (cz (osc:=az yt) (XN:=["count","wishes","places"]) O O (by decide +kernel)) (bV (pv 1)) (fun cl C s H fp aa=>(kW (K:=K) (n:=4) O O (bo (aG (i:=0) (show(["one","other","least","weight","places"]:List C').Nodup by decide +kernel) rfl (by first|exact UL rfl|exact UK O)) (bo (aG (i:=1) (show(["one","other","least","weight","places"]:List C').Nodup by decide +kernel) rfl (by first|exact UL rfl|exact UK O)) (bo (aG (i:=2) (show(["one","other","least","weight","places"]:List C').Nodup by decide +kernel) rfl (by first|exact UL rfl|exact UK O)) (bo (aG (i:=3) (show(["one","other","least","weight","places"]:List C').Nodup by decide +kernel) rfl (by first|exact UL rfl|exact UK O)) fu)))))) (fun cl C s H fp aa=>cR) (fun cl C s H fp aa=>(kh o7 (br jL (aK (uI (K:=K) O) (pv 4) (pv 1) (fun _ _=>O)) (aK (uI (K:=K) O) (pv 4) (pv 0) (fun _ _=>O))) (pv 2) (aZ _)))) ai))))),?_⟩
  refine⟨_,O,p,_,O,.inl hp,_,O,O,_,O,?_⟩
  refine bi (fun c1=>?_) (fun c1=>?_)
  .have c2:¬ (ps.length:Int)=c:=by simpa using c1
   have k':=k H (ae.refl _)
   rw[show nV c ws ps=K' by unfold nV;rw[Rs c2];rfl] at k'
   exact k'
  .have c2:(ps.length:Int)=c:=by simpa using c1
   refine⟨_,O,l,O,⟨_,hl⟩,fun D hD=>?_⟩
   refine fq (K:=K) (a:=l) (xs:=xs) (fun i τ H'=>∃ v1 v2 v3 v4,τ=[v1,v2,v3,v4,f' (.ref p)]∧ae H H'∧H' D=f' (.lst (((ws.take i).map (keep ps)).map V.bl))) ⟨i',i',i',i',rfl,ae.new hD,ag⟩ ?_ ?_ ?_
   .rintro i τ H' _ ⟨v1,v2,v3,v4,rfl,sm,hy⟩
    exact sm.Ve hl
   .rintro i x τ H' hx ⟨v1,v2,v3,v4,rfl,sm,hy⟩
    obtain⟨q,hq,dq⟩:=gv hd hx
    obtain⟨t,rfl,h1⟩:=mj (sm.dt dq)
    obtain⟨⟨i1,i2⟩,i3,i4⟩:=cB c2 q (Rp hq)
    refine⟨t,_,O,h1,O,_,_,O,_,_,O,_,_,O,_,_,O,O,?_⟩
    dsimp only[dQ]
    rw[UH rfl]
    refine⟨_,O,_,O,p,_,_,_,O,O,sm.Ve hp,sw i3 i4,_,O,_,O,p,_,_,_,O,O,sm.Ve hp,sw i1 i2,_,_,O,O,_,O,_,_,O,O,_,hy,?_,_,_,_,_,O,?_,?_⟩
    .rw[Q3,Q3,Rm,Q9]
     lia
    .intro b u e
     rw[aj (aq e hD)]
     exact sm b u e
    .rw[ag,cM hq,Q8,Q8]
     rfl
   .rintro τ H' ⟨v1,v2,v3,v4,rfl,sm,hy⟩
    refine⟨D,_,O,P'.of hy,?_⟩
    have k':=k H' sm
    rw[← cN,Rt]
    rw[show nV c ws ps=(ws.map (keep ps)).all id by unfold nV;rw[Rj c2,SX];rfl] at k'
    exact k'
def NU (K:R'):Sp:=fun vs H Q _=>∃ l ws p ps,vs=[.ref l,.ref p]∧im K H l ws∧P' K H p (ps.map V.int)∧ws.length≤1000∧(∀ q∈ws,Z' ps.length q∧Small q.2.2.2)∧∀ H',ae H H'→Q (.int (yo ws ps)) H'
theorem Oa (T:Tx K mg a):Vd P w K mg base U8 1 "worth" ["wishes","places"] [] (NU K):=T.QiR.U2 fun f fd F=>by
 refine F.ok Kw (fun vs H Q E h=>?_) (fun ay A outer s H vs Q E hr h=>?_)
 .obtain⟨l,ws,p,ps,rfl,_⟩:=h
  rfl
 .obtain⟨l,ws,p,ps,rfl,⟨xs,hl,hd⟩,hp,hk,cB,k⟩:=h
  have cN:ws.length=xs.length:=by rw[← hd.length,Q3]
  refine⟨_,(ak (aN (bj EM O T.Qeb Ei (af (cF (N:=["one","other","least","weight","places"]) (cap:=[i',i',i',i',f' 1]) O (cz (osc:=az xO) (XN:=["wishes","places"]) O O (by decide +kernel)) (bV (pv 0)) (fun cl C s H fp aa=>(kW (K:=K) (n:=4) O O (bo (aG (i:=0) (show(["one","other","least","weight","places"]:List C').Nodup by decide +kernel) rfl (by first|exact UL rfl|exact UK O)) (bo (aG (i:=1) (show(["one","other","least","weight","places"]:List C').Nodup by decide +kernel) rfl (by first|exact UL rfl|exact UK O)) (bo (aG (i:=2) (show(["one","other","least","weight","places"]:List C').Nodup by decide +kernel) rfl (by first|exact UL rfl|exact UK O)) (bo (aG (i:=3) (show(["one","other","least","weight","places"]:List C').Nodup by decide +kernel) rfl (by first|exact UL rfl|exact UK O)) fu)))))) (fun cl C s H fp aa=>cR) (fun cl C s H fp aa=>(br rD (pv 3) (br jL (aK (uI (K:=K) O) (pv 4) (pv 1) (fun _ _=>O)) (aK (uI (K:=K) O) (pv 4) (pv 0) (fun _ _=>O)))))) ai)))),?_⟩
  refine⟨_,O,l,O,⟨_,hl⟩,fun D hD=>?_⟩
  refine fq (K:=K) (a:=l) (xs:=xs) (fun i τ H'=>∃ v1 v2 v3 v4,τ=[v1,v2,v3,v4,f' (.ref p)]∧ae H H'∧H' D=f' (.lst (((ws.take i).map fun q=>q.2.2.2 * diff ps q).map V.int))) ⟨i',i',i',i',O,ae.new hD,ag⟩ ?_ ?_ ?_
  .rintro i τ H' _ ⟨v1,v2,v3,v4,rfl,sm,hy⟩
   exact sm.Ve hl
  .rintro i x τ H' hx ⟨v1,v2,v3,v4,rfl,sm,hy⟩
   obtain⟨q,hq,dq⟩:=gv hd hx
   obtain⟨t,rfl,h1⟩:=mj (sm.dt dq)
   obtain⟨⟨⟨i1,i2⟩,i3,i4⟩,hs⟩:=cB q (Rp hq)
   refine⟨t,_,O,h1,O,_,_,O,_,_,O,_,_,O,_,_,O,O,?_⟩
   dsimp only[dQ]
   rw[UH rfl]
   refine⟨_,O,_,O,_,O,p,_,_,_,O,O,sm.Ve hp,sw i3 i4,_,O,_,O,p,_,_,_,O,O,sm.Ve hp,sw i1 i2,_,_,O,O,_,_,O,O,.inl hs,_,hy,?_,_,_,_,_,O,?_,?_⟩
   .rw[Q3,Q3,Rm,Q9]
    lia
   .intro b u e
    rw[aj (aq e hD)]
    exact sm b u e
   .rw[ag,cM hq,Q8,Q8]
    rfl
  .rintro τ H' ⟨v1,v2,v3,v4,rfl,sm,hy⟩
   refine⟨D,_,O,P'.of hy,?_⟩
   have k':=k H' sm
   rw[← cN,Rt]
   exact k'
end
def bM (ls:List Int) (p:Wi×Int):List Int:=(ls.set p.1.2.1.toNat (pz ls p.1.2.1 + p.2)).set p.1.1.toNat (pz (ls.set p.1.2.1.toNat (pz ls p.1.2.1 + p.2)) p.1.1 - p.2)
def jI (n:Nat) (ws:List Wi) (am:List Int):List Int:=(ws.zip am).foldl bM (UX n 0)
theorem Km (ls:List Int) (p:Wi×Int):(bM ls p).length=ls.length:=by
 unfold bM
 rw[S4,S4]
theorem FB:∀ (ps:List (Wi×Int)) (ls:List Int),(ps.foldl bM ls).length=ls.length
 | [],_=>rfl
 | p::ps,ls=>by
  show(ps.foldl bM (bM ls p)).length=_
  rw[FB ps,Km]
theorem EF {ws:List Wi}{q:Wi}{x:Int} (h1:ws[i]?=f' q) (h2:am[i]?=f' x):(ws.zip am)[i]?=f' (q,x):=by
 rw[S6]
 exact⟨h1,h2⟩
theorem rG  (h:(am.map V.int)[i]?=f' x):∃ z,am[i]?=f' z∧x=.int z:=by
 obtain⟨z,hz,rfl⟩:=Zq.mp ((Rx (f:=V.int) (l:=am) (i:=i)).symm.trans h)
 exact⟨z,hz,O⟩
theorem Qee {k:Int} (h0:0≤k) (h1:k<ls.length):(ls.map V.int)[k.toNat]?=f' (.int (pz ls k)):=by
 rw[← jG h0]
 exact sw h0 h1
theorem uF (n:Nat):(UX n [V.int 0]).flatten=(UX n (0:Int)).map V.int:=by
 induction n with
 | zero=>rfl
 | succ n ih=>
  rw[Sh,SS,ih,Sh,RL]
  rfl
theorem D9:∀ xs ys:List Int,dO (xs.map Dt.int) (ys.map Dt.int)=decide (xs=ys)
 | [],[]=>rfl
 | [],_::_=>by simp[dO]
 | _::_,[]=>by simp[dO]
 | x::xs,y::ys=>by
  show(VN (.int x) (.int y) && dO (xs.map Dt.int) (ys.map Dt.int))=_
  rw[D9 xs ys]
  show((x == y) && decide (xs=ys))=_
  by_cases h1:x=y
  .subst h1
   simp
  .simp[h1]
section
variable {K:R'}
def QmL (K:R'):Sp:=fun vs H Q _=>∃ n l ws p am,vs=[.int n,.ref l,.ref p]∧im K H l ws∧P' K H p ((am:List Int).map V.int)∧am.length=ws.length∧0≤n∧n≤1000∧(∀ q∈ws,Z' n.toNat q) ∧
 ∀ r H',ae H H'→H r=i'→H' r=f' (.lst ((jI n.toNat ws am).map V.int))→Q (.ref r) H'
theorem Dm (T:Tx K mg a):Vd P w K mg base U8 1 "left_at_points" ["count","wishes","amounts"] [] (QmL K):=T.QiT.U2 fun f fd F=>by
 refine F.ok ur (fun vs H Q E h=>?_) (fun ay A outer s H vs Q E hr h=>?_)
 .obtain⟨n,l,ws,p,am,rfl,_⟩:=h
  rfl
 .obtain⟨n,l,ws,p,am,rfl,⟨xs,hl,hd⟩,hp,av,n0,n1,cB,k⟩:=h
  have cN:ws.length=xs.length:=by rw[← hd.length,Q3]
  refine⟨_,(ao (aW (i:=3) ur.nd O (by first|exact UL rfl|exact UK O) (br uG (bY (af au ai)) (pv 0)))
   (ao (ei Wb rfl (uk rfl T.Z9 (af (pv 1) (af (pv 2) ai))) (kj rfl (bo (aG (i:=4) ur.nd O (by first|exact UL rfl|exact UK O)) (bo (aG (i:=5) ur.nd O (by first|exact UL rfl|exact UK O)) fu))) (ao (yM (pv 3) (aK ff (pv 4) au (fun _ _=>O)) yX (pv 5) EO zR)
   (ak (yM (pv 3) (aK ff (pv 4) au (fun _ _=>O)) yX (pv 5) QgT zR))))
   (ak (aN (pv 3))))),?_⟩
  refine⟨(by show 1≤S';decide),fun z nz=>⟨_,O,z,n,_,O,O,ag,by lia,by lia,(by rw[Q9];show 1 * n.toNat≤_;lia),fun D nD=>?_⟩⟩
  rw[uF]
  have s1:ae H (upd (upd H z (.lst [V.int 0])) D (.lst ((UX n.toNat (0:Int)).map V.int))):=(ae.new nz).trans (ae.new nD)
  have h1:upd (upd H z (.lst [V.int 0])) D (.lst ((UX n.toNat (0:Int)).map V.int)) D=f' (.lst ((UX n.toNat (0:Int)).map V.int)):=ag
  have vm:H D=i':=by
   have:=nD
   rw[aj (fun e=>by rw[e,ag] at this;cases this)] at this
   exact this
  generalize upd (upd H z (.lst [V.int 0])) D (.lst ((UX n.toNat (0:Int)).map V.int))=H1 at s1 h1 ⊢
  have ex:xs.length=(am.map V.int).length:=by rw[Q3,av,cN]
  refine⟨_,O,_,O,l,p,O,⟨_,s1.Ve hl⟩,⟨_,s1.Ve hp⟩,CU (K:=K) (l1:=l) (l2:=p) (xs:=xs) (ys:=am.map V.int) ex (fun i σ H'=>∃ v4 v5,σ=[f' (.int n),f' (.ref l),f' (.ref p),f' (.ref D),v4,v5]∧ae H H'∧H' D=f' (.lst ((((ws.zip am).take i).foldl bM (UX n.toNat 0)).map V.int)))
   ⟨i',i',rfl,s1,h1⟩ ?_ ?_ ?_⟩
  .rintro i σ H' _ ⟨v4,v5,rfl,sm,_⟩
   exact⟨sm.Ve hl,sm.Ve hp⟩
  .rintro i x y t σ H' hx hy nt ⟨v4,v5,rfl,sm,hD⟩
   obtain⟨q,hq,dq⟩:=gv hd hx
   obtain⟨c,rfl,hc⟩:=mj (sm.dt dq)
   obtain⟨y,cX,rfl⟩:=rG hy
   obtain⟨⟨i1,i2⟩,i3,i4⟩:=cB q (Rp hq)
   have s2:ae H' (upd H' t (.tup [.ref c,.int y])):=ae.new nt
   have Bp:upd H' t (.tup [.ref c,.int y]) t=f' (.tup [.ref c,.int y]):=ag
   generalize upd H' t (.tup [.ref c,.int y])=H2 at s2 Bp ⊢
   have iW:=s2 _ _ hD
   have sN:=s2.VI hc
   rw[cM (EF hq cX),Sr]
   have oh:(((ws.zip am).take i).foldl bM (UX n.toNat 0)).length=n.toNat:=by rw[FB,RZ]
   generalize ((ws.zip am).take i).foldl bM (UX n.toNat 0)=ls at iW oh ⊢
   have j3:q.2.1<(ls.length:Int):=by rw[oh];exact i4
   have j1:q.1<((ls.set q.2.1.toNat (pz ls q.2.1 + y)).length:Int):=by rw[S4,oh];exact i2
   refine⟨t,_,O,UW.of Bp,O,_,_,O,_,_,O,O,?_⟩
   refine⟨_,O,_,O,c,_,_,_,O,O,sN,O,D,_,_,_,O,O,P'.of iW,i3,Qee i3 j3,_,O,_,_,O,O,D,_,_,_,O,O,iW,zJ i3 (by rw[Q3];exact j3),?_⟩
   rw[← Uw]
   have tk:Tk H2 (upd H2 D (.lst ((ls.set q.2.1.toNat (pz ls q.2.1 + y)).map V.int))):=Tk.upd iW rfl
   have h3:upd H2 D (.lst ((ls.set q.2.1.toNat (pz ls q.2.1 + y)).map V.int)) D=f' (.lst ((ls.set q.2.1.toNat (pz ls q.2.1 + y)).map V.int)):=ag
   have o3:∀ b u,H b=f' u→upd H2 D (.lst ((ls.set q.2.1.toNat (pz ls q.2.1 + y)).map V.int)) b=f' u:=fun b u e=>by
    rw[aj (aq e vm)]
    exact s2 _ _ (sm b u e)
   generalize upd H2 D (.lst ((ls.set q.2.1.toNat (pz ls q.2.1 + y)).map V.int))=H3 at tk h3 o3 ⊢
   refine⟨_,O,_,O,c,_,_,_,O,O,tk.VI sN,O,D,_,_,_,O,O,P'.of h3,i1,Qee i1 j1,_,O,_,_,O,O,D,_,_,_,O,O,h3,zJ i1 (by rw[Q3];exact j1),?_⟩
   rw[← Uw]
   refine⟨_,_,O,fun b u e=>?_,ag⟩
   rw[aj (aq e vm)]
   exact o3 b u e
  .rintro σ H' ⟨v4,v5,rfl,sm,hD⟩
   rw[RX (by rw[S7];lia)] at hD
   exact⟨_,O,k D H' sm vm hD⟩
def Lm (K:R'):Sp:=fun vs H Q _=>∃ l ws,vs=[.ref l]∧im K H l ws∧ws.length≤1000∧∀ r H',ae H H'→H r=i'→H' r=f' (.lst ((ws.map fun q=>q.2.2.2).map V.int))→Q (.ref r) H'
theorem CP (T:Tx K mg a):Vd P w K mg base U8 1 "weights_of" ["wishes"] [] (Lm K):=T.QiS.U2 fun f fd F=>by
 refine F.ok Me (fun vs H Q E h=>?_) (fun ay A outer s H vs Q E hr h=>?_)
 .obtain⟨l,ws,rfl,_⟩:=h
  rfl
 .obtain⟨l,ws,rfl,⟨xs,hl,hd⟩,hk,k⟩:=h
  have cN:ws.length=xs.length:=by rw[← hd.length,Q3]
  refine⟨_,(ak (aN (cF (N:=["one","other","least","weight"]) (cap:=[i',i',i',i']) O (cz (osc:=az yV) (XN:=["wishes"]) O O (by decide +kernel)) (bV (pv 0)) (fun cl C s H fp aa=>(kW (K:=K) (n:=4) O O (bo (aG (i:=0) (show(["one","other","least","weight"]:List C').Nodup by decide +kernel) rfl (by first|exact UL rfl|exact UK O)) (bo (aG (i:=1) (show(["one","other","least","weight"]:List C').Nodup by decide +kernel) rfl (by first|exact UL rfl|exact UK O)) (bo (aG (i:=2) (show(["one","other","least","weight"]:List C').Nodup by decide +kernel) rfl (by first|exact UL rfl|exact UK O)) (bo (aG (i:=3) (show(["one","other","least","weight"]:List C').Nodup by decide +kernel) rfl (by first|exact UL rfl|exact UK O)) fu)))))) (fun cl C s H fp aa=>cR) (fun cl C s H fp aa=>(pv 3))))),?_⟩
  refine⟨_,O,l,O,⟨_,hl⟩,fun D hD=>?_⟩
  refine fq (K:=K) (a:=l) (xs:=xs) (fun i τ H'=>∃ v1 v2 v3 v4,τ=[v1,v2,v3,v4]∧ae H H'∧H' D=f' (.lst (((ws.take i).map fun q=>q.2.2.2).map V.int))) ⟨i',i',i',i',O,ae.new hD,ag⟩ ?_ ?_ ?_
  .rintro i τ H' _ ⟨v1,v2,v3,v4,rfl,sm,hy⟩
   exact sm.Ve hl
  .rintro i x τ H' hx ⟨v1,v2,v3,v4,rfl,sm,hy⟩
   obtain⟨q,hq,dq⟩:=gv hd hx
   obtain⟨t,rfl,h1⟩:=mj (sm.dt dq)
   refine⟨t,_,O,h1,O,_,_,O,_,_,O,_,_,O,_,_,O,O,?_⟩
   dsimp only[dQ]
   rw[UH rfl]
   refine⟨_,O,_,hy,?_,_,_,_,_,O,?_,?_⟩
   .rw[Q3,Q3,Rm,Q9]
    lia
   .intro b u e
    rw[aj (aq e hD)]
    exact sm b u e
   .rw[ag,cM hq,Q8,Q8]
    rfl
  .rintro τ H' ⟨v1,v2,v3,v4,rfl,sm,hy⟩
   rw[← cN,Rt] at hy
   exact k D H' sm hD hy
def jZ (n:Nat) (ws:List Wi) (fl:List Int):Bool:=decide (fl.length=ws.length) && (!(fl.map fun x=>decide (x<0)).any id && decide (jI n ws fl=jI n ws (ws.map fun q=>q.2.2.2)))
def QmM (ws:List Wi) (fl:List Int):Int:=((ws.zip fl).map fun p=>p.2 * p.1.2.2.1).sum
def Nf (K:R') (a:Vg):Sp:=fun vs H Q E=>∃ n l ws p fl,vs=[.int n,.ref l,.ref p]∧im K H l ws∧P' K H p ((fl:List Int).map V.int)∧ws.length≤1000∧fl.length≤1000∧0≤n∧n≤1000∧(∀ q∈ws,Z' n.toNat q∧Small q.2.2.1) ∧
 (jZ n.toNat ws fl=B'→∀ H',ae H H'→Q (.int (QmM ws fl)) H')∧(jZ n.toNat ws fl=K'→∀ H',ae H H'→E (.ref a.NoFlow) i' H')
theorem Os (T:Tx K mg a):Vd P w K mg base (Vn P w) 2 "bound" ["count","wishes","flow"] [] (Nf K a):=T.QiU.U2 fun f fd F=>by
 have aO:=Dm (P:=P) (w:=w) (base:=base) T
 have bG:=CP (P:=P) (w:=w) (base:=base) T
 refine F.VS L8 (fun vs H Q E h=>?_) (fun ay A outer s H vs Q E hr h=>?_)
 .obtain⟨n,l,ws,p,fl,rfl,_⟩:=h
  rfl
 .obtain⟨n,l,ws,p,fl,rfl,⟨xs,hl,hd⟩,hp,hk,hf,n0,n1,cB,k1,k2⟩:=h
  have cN:ws.length=xs.length:=by rw[← hd.length,Q3]
  refine⟨_,(ao (aU (PW.pt (ig (bf nN (bj eZ O T.VP dm (af (pv 2) ai)) (bj eZ O T.VP dm (af (pv 1) ai)) (aZ _)) (kU (eG (bj EH O T.Qd9 Cn (af (cF (N:=["amount"]) (cap:=[i']) O (cz (osc:=az uw) (XN:=["count","wishes","flow"]) O O (by decide +kernel)) (bV (pv 2)) (fun cl C s H fp aa=>(aG (i:=0) (show(["amount"]:List C').Nodup by decide +kernel) rfl (by first|exact UL rfl|exact UK O))) (fun cl C s H fp aa=>cR) (fun cl C s H fp aa=>(kh pD (pv 0) au (aZ _)))) ai)))))) (ak (iw aV T.QdL O T.QbP)) aQ)
   (ao (aU (bf (DN hr.units) (bC aO (hr.mono (by decide)) rfl (af (pv 0) (af (pv 1) (af (pv 2) ai)))) (bC aO (hr.mono (by decide)) rfl (af (pv 0) (af (pv 1) (af (bC bG (hr.mono (by decide)) rfl (af (pv 1) ai)) ai)))) (aZ _)) (ak (iw aV T.QdL rfl T.QbP)) aQ)
   (ak (aN (bj EM rfl T.Qeb Ei (af (cF (N:=["wish","amount"]) (cap:=[i',i']) O (cz (osc:=az uw) (XN:=["count","wishes","flow"]) O O (by decide +kernel)) (uk rfl T.Z9 (af (pv 1) (af (pv 2) ai))) (fun cl C s H fp aa=>(kW (K:=K) (n:=2) O O (bo (aG (i:=0) (show(["wish","amount"]:List C').Nodup by decide +kernel) rfl (by first|exact UL rfl|exact UK O)) (bo (aG (i:=1) (show(["wish","amount"]:List C').Nodup by decide +kernel) rfl (by first|exact UL rfl|exact UK O)) fu)))) (fun cl C s H fp aa=>cR) (fun cl C s H fp aa=>(br rD (pv 1) (aK (kY (K:=K) O) (pv 0) au (fun _ _=>O))))) ai)))))),?_⟩
  refine⟨_,O,p,_,O,.inl hp,_,O,l,_,O,.inl hl,O,_,O,?_⟩
  refine bi (fun c=>?_) (fun c=>?_)
  .refine eh ⟨by show 0≤S';decide,k2 ?_ H (ae.refl _)⟩
   have c':¬ fl.length=ws.length:=fun e=>by
    rw[Q3,e,cN] at c
    simp at c
   unfold jZ
   rw[Rs c']
   rfl
  .have av:fl.length=ws.length:=by
    rw[Q3,← cN] at c
    have c':(fl.length:Int)=ws.length:=by simpa using c
    lia
   refine⟨_,O,p,O,⟨_,hp⟩,fun D hD=>?_⟩
   refine fq (K:=K) (a:=p) (xs:=fl.map V.int) (fun i τ H'=>∃ v1,τ=[v1]∧ae H H'∧H' D=f' (.lst (((fl.take i).map fun x=>decide (x<0)).map V.bl))) ⟨i',O,ae.new hD,ag⟩ ?_ ?_ ?_
   .rintro i τ H' _ ⟨v1,rfl,sm,hy⟩
    exact sm.Ve hp
   .rintro i x τ H' hx ⟨v1,rfl,sm,hy⟩
    obtain⟨z,hz,rfl⟩:=rG hx
    dsimp only[bL,dQ]
    rw[UH rfl]
    refine⟨_,O,_,_,O,O,_,hy,?_,_,O,?_,?_⟩
    .rw[Q3,Q3,Rm,Q9]
     lia
    .intro b u e
     rw[aj (aq e hD)]
     exact sm b u e
    .rw[ag,cM hz,Q8,Q8]
     rfl
   rintro τ H1 ⟨v1,rfl,s1,hy⟩
   refine⟨D,_,O,P'.of hy,_,O,?_⟩
   rw[Q3,Rt]
   refine bi (fun c2=>?_) (fun c2=>?_)
   .refine⟨by show 0≤S';decide,k2 ?_ H1 s1⟩
    unfold jZ
    rw[c2]
    simp
   .refine⟨_,O,_,O,_,O,n,l,ws,p,fl,O,⟨xs,s1.Ve hl,s1.U' hd⟩,s1.Ve hp,av,n0,n1,fun q hq=>(cB q hq).1,fun r1 H2 s2 _ h2=>?_⟩
    have t2:=s1.trans s2
    refine⟨_,O,_,O,_,O,l,ws,O,⟨xs,t2.Ve hl,t2.U' hd⟩,hk,fun r2 H3 s3 _ h3=>?_⟩
    have t3:=t2.trans s3
    refine⟨n,l,ws,r2,ws.map fun q=>q.2.2.2,O,⟨xs,t3.Ve hl,t3.U' hd⟩,P'.of h3,by rw[Q3],n0,n1,fun q hq=>(cB q hq).1,fun r3 H4 s4 _ h4=>?_⟩
    have t4:=t3.trans s4
    refine⟨.lst ((jI n.toNat ws fl).map Dt.int),.lst ((jI n.toNat ws (ws.map fun q=>q.2.2.2)).map Dt.int),O,O,⟨r1,_,O,P'.of (s4 _ _ (s3 _ _ h2)),zA _⟩,⟨r3,_,O,P'.of h4,zA _⟩,Om _,_,O,?_⟩
    have e1:VN (.lst ((jI n.toNat ws fl).map Dt.int)) (.lst ((jI n.toNat ws (ws.map fun q=>q.2.2.2)).map Dt.int))=decide (jI n.toNat ws fl=jI n.toNat ws (ws.map fun q=>q.2.2.2)):=D9 _ _
    rw[e1]
    have eg:jZ n.toNat ws fl=decide (jI n.toNat ws fl=jI n.toNat ws (ws.map fun q=>q.2.2.2)):=by
     unfold jZ
     rw[Rj av,c2]
     rfl
    refine bi (fun c3=>?_) (fun c3=>?_)
    .refine⟨by show 0≤S';decide,k2 ?_ H4 t4⟩
     rw[eg]
     simpa using c3
    .have g1:jZ n.toNat ws fl=B':=by
      rw[eg]
      simpa using c3
     refine⟨_,O,_,O,l,p,O,⟨_,t4.Ve hl⟩,⟨_,t4.Ve hp⟩,fun D2 iW=>?_⟩
     refine Ee (K:=K) (l1:=l) (l2:=p) (xs:=xs) (ys:=fl.map V.int) (by rw[Q3,av,cN]) (fun i τ H'=>∃ v1 v2,τ=[v1,v2]∧ae H4 H'∧H' D2=f' (.lst ((((ws.zip fl).take i).map fun p=>p.2 * p.1.2.2.1).map V.int))) ⟨i',i',O,ae.new iW,ag⟩ ?_ ?_ ?_
     .rintro i τ H' _ ⟨v1,v2,rfl,sm,_⟩
      exact⟨sm.Ve (t4.Ve hl),sm.Ve (t4.Ve hp)⟩
     .rintro i x y t τ H' hx hy nt ⟨v1,v2,rfl,sm,hD⟩
      obtain⟨q,hq,dq⟩:=gv hd hx
      obtain⟨c,rfl,hc⟩:=mj (sm.dt (t4.dt dq))
      obtain⟨y,cX,rfl⟩:=rG hy
      have hs:=(cB q (Rp hq)).2
      have s5:ae H' (upd H' t (.tup [.ref c,.int y])):=ae.new nt
      have Bc:upd H' t (.tup [.ref c,.int y]) t=f' (.tup [.ref c,.int y]):=ag
      generalize upd H' t (.tup [.ref c,.int y])=H5 at s5 Bc ⊢
      refine⟨t,_,O,UW.of Bc,O,_,_,O,_,_,O,O,?_⟩
      dsimp only[dQ]
      rw[UH rfl]
      refine⟨_,O,_,O,c,_,_,_,O,O,s5.VI hc,O,_,_,O,O,.inr hs,_,s5 _ _ hD,?_,_,_,O,?_,?_⟩
      .rw[Q3,Q3,Rm,S7,Q9]
       lia
      .intro b u e
       rw[aj (aq e iW)]
       exact s5 _ _ (sm b u e)
      .rw[ag,cM (EF hq cX),Q8,Q8]
       rfl
     .rintro τ H' ⟨v1,v2,rfl,sm,hD⟩
      refine⟨D2,_,O,P'.of hD,?_⟩
      rw[RX (by rw[S7];lia)]
      exact k1 g1 H' (t4.trans sm)
end
theorem LZ {α:Type}{b:α}{p:Prop} (e:([]:List α)[i]?=f' b):p:=by
 rw[List.getElem?_nil] at e
 cases e
def wI (q:Wt):Wi:=((q.1:Nat),(q.2.1:Nat),q.2.2.1,q.2.2.2)
theorem Kx.lst {q b:F'}{G G':Hp}{C:F'}{dx:F'}{fs:List (C'×V)}{xs:List V} (k:Kx [q] G G') (hq:G q=f' (.ins C dx fs)) (h:G b=f' (.lst xs)):G' b=f' (.lst xs):=k _ _ h fun z=>by
 rw[Vb.mp z,hq] at h
 cases h
theorem Kx.sq {K:R'}{l:F'}{fs:List (C'×V)} (k:Kx [q] G G') (hq:G q=f' (.ins C dx fs)) (h:P' K G l xs):P' K G' l xs:=by
 have ne:∀ o,G l=f' o→(∀ C dx fs,o≠.ins C dx fs)→G' l=f' o:=fun o e n=>k _ _ e fun z=>by
  rw[Vb.mp z,hq] at e
  cases e
  exact n _ _ _ rfl
 rcases h with(h|⟨o,h⟩)|h
 .exact .inl (.inl (ne _ h fun _ _ _ z=>by cases z))
 .exact .inl (.inr ⟨o,ne _ h fun _ _ _ z=>by cases z⟩)
 .exact .inr h
theorem Kx.tk {fs:List (C'×V)} (k:Kx [q] G G') (hq:G q=f' (.ins C dx fs)):Tk G G':=fun b o e z=>k b o e fun y=>by
 rw[Vb.mp y,hq] at e
 cases e
 cases z
theorem Kx.none {q b:F'}{H G:Hp} (k:Kx [q] H G) (e:G b=i') (n:b≠q):H b=i':=by
 cases h:H b with
 | none=>rfl
 | some o=>
  rw[k b o h (by simp[n])] at e
  cases e
def Ls (gs:List F') (f:Nat→List Nat) (G:Hp):Prop:=∀ i a,gs[i]?=f' a→G a=f' (.lst (nums (f i)))
theorem Ls.put {a:F'}{l:List Nat} (h:Ls gs f G) (nd:gs.Nodup) (e:gs[j]?=f' a):Ls gs (up f j l) (upd G a (.lst (nums l))):=fun i b eb=>by
 by_cases c:i=j
 .subst c
  rw[e] at eb
  cases eb
  rw[ag,fQ]
 .rw[eM _ _ c,aj (fun z=>c (by
   subst z
   exact(List.getElem?_inj (VD.mp eb).1 nd).mp (eb.trans e.symm)))]
  exact h i b eb
variable {D da dh lm p wt:F'}{E:XK}{H0:Hp}{Q:VK}{c m nd nn:Nat}{l o s t:C'}{Vj ns zs:List Int}{ls names wl ws:List C'}{n sp:Int}{nh:Option Int}{y:V}
theorem Ls.keep {a:F'}{o:HO} (h:Ls gs f G) (n:a∉gs):Ls gs f (upd G a o):=fun i b eb=>by
 rw[aj (fun z=>n (by rw[← z];exact Rp eb))]
 exact h i b eb
def WD (ws:List Wt) (k i:Nat):List Nat:=(VH k).filter fun n=>decide ((ws.getD n (0,0,0,0)).1=i)
def Xz (ws:List Wt) (k i:Nat):List Nat:=(VH k).filter fun n=>decide ((ws.getD n (0,0,0,0)).2.1=i)
theorem Ky (ws:List Wt) (k:Nat):WD ws (k + 1)=up (WD ws k) (ws.getD k (0,0,0,0)).1 (WD ws k (ws.getD k (0,0,0,0)).1++[k]):=by
 funext i
 unfold WD
 rw[Qfs,Tb]
 by_cases c:i=(ws.getD k (0,0,0,0)).1
 .rw[c,fQ,RM,UH (Rj rfl)]
  rfl
 .rw[eM _ _ c,RM,UF (fun z=>c (Rv z).symm),Qfx,Sx]
theorem MI (ws:List Wt) (k:Nat):Xz ws (k + 1)=up (Xz ws k) (ws.getD k (0,0,0,0)).2.1 (Xz ws k (ws.getD k (0,0,0,0)).2.1++[k]):=by
 funext i
 unfold Xz
 rw[Qfs,Tb]
 by_cases c:i=(ws.getD k (0,0,0,0)).2.1
 .rw[c,fQ,RM,UH (Rj rfl)]
  rfl
 .rw[eM _ _ c,RM,UF (fun z=>c (Rv z).symm),Qfx,Sx]
theorem N0 (ws:List Wt) (k i:Nat):(WD ws k i).length≤k:=by
 have:=Si (fun n=>decide ((ws.getD n (0,0,0,0)).1=i)) (VH k)
 rw[SU] at this
 exact this
theorem M0 (ws:List Wt) (k i:Nat):(Xz ws k i).length≤k:=by
 have:=Si (fun n=>decide ((ws.getD n (0,0,0,0)).2.1=i)) (VH k)
 rw[SU] at this
 exact this
theorem ND:aS "coming" (.ref r.c) (aS "going" (.ref r.g) (aS "needs" (.ref r.n) (aS "flow" (.ref r.f) (aS "places" (.ref r.p) (aS "leasts" (.ref r.l) (aS "others" (.ref r.t) (aS "ones" (.ref r.o) [])))))))=bW r:=by
 kernel_rfl
theorem yY {K:R'}{wA:F'}{ws:List Wt} (k:Int) (f:Wt→V) (hl:P' K H wA xs) (hd:bv K H ((ws.map wI).map wD) xs) (hw:ws.length≤1000) (hf:∀ w:Wt,VB [.int (w.1:Nat),.int (w.2.1:Nat),.int w.2.2.1,.int w.2.2.2] k=f' (f w)) (n:H D=i')
  (h:∀ G,ae H G→G D=f' (.lst (ws.map f))→Q (.ref D) G):jD (Zd K wA) D [i'] (upd H D (.lst [])) (bL 0) dQ (YG (QbD K) (ZT 0) (tC (.int k))) Q:=by
 have cN:ws.length=xs.length:=by rw[← hd.length,Q3,Q3]
 refine fq (K:=K) (a:=wA) (xs:=xs) (fun j τ G=>∃ v1,τ=[v1]∧ae H G∧G D=f' (.lst ((ws.take j).map f))) ⟨i',rfl,ae.new n,ag⟩ ?_ ?_ ?_
 .rintro j τ G _ ⟨v1,rfl,sg,_⟩
  exact sg.Ve hl
 .rintro j x τ G hx ⟨v1,rfl,sg,hG⟩
  rw[Tu] at hd
  obtain⟨w0,lH,dw⟩:=gv hd hx
  obtain⟨t,rfl,ht⟩:=mj (sg.dt dw)
  dsimp only[bL,dQ]
  rw[UH rfl]
  refine⟨_,O,t,_,_,_,O,O,ht,hf w0,_,hG,?_,_,O,du n sg,?_⟩
  .rw[Q3,Rm,Q9]
   lia
  .rw[ag,cM lH,Q8]
   rfl
 rintro τ G ⟨v1,rfl,sg,y⟩
 rw[← cN,Rt] at y
 exact h G sg y
theorem Em  (hc:c≤1000) (n:H D=i') (h:∀ G gs,ae H G→G D=f' (.lst ((gs:List F').map V.ref))→gs.length=c→gs.Nodup→(∀ (i:Nat) (b:F'),gs[i]?=f' b→G b=f' (.lst [])∧H b=i'∧b≠D)→Q (.ref D) G):jD (Ze 0 ((c:Nat):Int).toNat) D [i'] (upd H D (.lst [])) (bL 0) dQ (QbC lV) Q:=by
 refine LG (lo:=0) (n:=((c:Nat):Int).toNat) (fun j τ G=>∃ v1,∃ gs:List F',τ=[v1]∧ae H G∧G D=f' (.lst (gs.map V.ref))∧gs.length=j∧gs.Nodup∧∀ i b,gs[i]?=f' b→G b=f' (.lst [])∧H b=i'∧b≠D) ⟨i',[],rfl,ae.new n,ag,rfl,Su,fun i b e=>LZ e⟩ ?_ ?_
 .rintro j τ G hj ⟨v1,gs,rfl,sg,hG,gl,nd,m⟩
  rw[Ru] at hj
  dsimp only[bL,dQ]
  rw[UH rfl]
  refine⟨(by show 0≤S';decide),fun z nz=>?_⟩
  have zD:z≠D:=fun e=>by rw[e,hG] at nz;cases nz
  refine⟨_,by rw[aj (UM zD)];exact hG,?_,_,gs++[z],O,du n (sg.trans (ae.new nz)),?_,by rw[Ro,gl];rfl,?_,fun i b e=>?_⟩
  .rw[Q3,gl,Q9]
   lia
  .rw[ag,Q8]
   rfl
  .refine Qfi.mpr ⟨nd,by simp,fun x hx y hy=>?_⟩
   rw[Vb.mp hy]
   rintro rfl
   obtain⟨i,e⟩:=X4.mp hx
   rw[(m i x e).1] at nz
   cases nz
  .rcases Sm i gs.length with l|l
   .rw[TR l] at e
    obtain⟨m1,m2,m3⟩:=m i b e
    have bz:b≠z:=aq m1 nz
    exact⟨by rw[aj m3,aj bz];exact m1,m2,m3⟩
   .rw[TK l] at e
    have e0:i - gs.length=0:=by
     have:=(VD.mp e).1
     rw[Ug] at this
     lia
    rw[e0] at e
    cases e
    exact⟨by rw[aj zD,ag],none_of sg nz,zD⟩
 rintro τ G ⟨v1,gs,rfl,sg,y,gl,nd,m⟩
 rw[Ru] at gl
 exact h G gs sg y gl nd m
section
variable {K:R'}
def QmN (K:R') (C:F'):Sp:=fun vs H Q _=>∃ q dx wA ws,∃ c:Nat,vs=[.ref q,.int c,.ref wA]∧H q=f' (.ins C dx [])∧im K H wA ((ws:List Wt).map wI)∧(∀ x∈ws,x.1<c∧x.2.1<c)∧ws.length≤1000∧c≤1000 ∧
 ∀ r H',Kx [q] H H'→iy C H' q r ws c→H' r.p=f' (.lst ((UX c (0:Int)).map V.int))→H' r.f=f' (.lst ((UX ws.length (0:Int)).map V.int))→H' r.n=f' (.lst ((UX c (0:Int)).map V.int))→H r.p=i'→H r.f=i'→H r.n=i'→Q .UO H'
theorem Pc (T:Tx K mg a):nF P w K mg base U8 1 a.Layout "Layout" ["self","count","wishes"] (QmN K a.Layout):=T.QbY.U2 fun f fd F=>by
 refine F.ok yu (fun vs H Q E h=>?_) (fun ay A outer s H vs Q E hr h=>?_)
 .obtain⟨q,dx,wA,ws,c,rfl,_⟩:=h
  rfl
 .obtain⟨q,dx,wA,ws,c,rfl,q0,⟨xs,sG,wK⟩,cB,hw,hc,k⟩:=h
  have cN:ws.length=xs.length:=by rw[← wK.length,Q3,Q3]
  have Hv:Kx [q] H H:=Kx.of (ae.refl _)
  refine⟨_,(ao (eA (pv 0) (cF (N:=["wish"]) (cap:=[i']) O (cz (osc:=az nC) (XN:=["self","count","wishes","number","wish"]) O O (by decide +kernel)) (bV (pv 2)) (fun cl C s H fp aa=>(aG (i:=0) (show(["wish"]:List C').Nodup by decide +kernel) rfl (by first|exact UL rfl|exact UK O))) (fun cl C s H fp aa=>cR) (fun cl C s H fp aa=>(aK (kY (K:=K) O) (pv 0) au (fun _ _=>O)))) O)
   (ao (eA (pv 0) (cF (N:=["wish"]) (cap:=[i']) O (cz (osc:=az nC) (XN:=["self","count","wishes","number","wish"]) O O (by decide +kernel)) (bV (pv 2)) (fun cl C s H fp aa=>(aG (i:=0) (show(["wish"]:List C').Nodup by decide +kernel) rfl (by first|exact UL rfl|exact UK O))) (fun cl C s H fp aa=>cR) (fun cl C s H fp aa=>(aK (kY (K:=K) O) (pv 0) au (fun _ _=>O)))) O)
   (ao (eA (pv 0) (cF (N:=["wish"]) (cap:=[i']) O (cz (osc:=az nC) (XN:=["self","count","wishes","number","wish"]) O O (by decide +kernel)) (bV (pv 2)) (fun cl C s H fp aa=>(aG (i:=0) (show(["wish"]:List C').Nodup by decide +kernel) rfl (by first|exact UL rfl|exact UK O))) (fun cl C s H fp aa=>cR) (fun cl C s H fp aa=>(aK (kY (K:=K) O) (pv 0) au (fun _ _=>O)))) O)
   (ao (eA (pv 0) (br uG (bY (af au ai)) (pv 1)) rfl)
   (ao (eA (pv 0) (br uG (bY (af au ai)) (bj eZ rfl T.VP dm (af (pv 2) ai))) rfl)
   (ao (eA (pv 0) (br uG (bY (af au ai)) (pv 1)) rfl)
   (ao (eA (pv 0) (cF (N:=["point"]) (cap:=[i']) O (cz (osc:=az nC) (XN:=["self","count","wishes","number","wish"]) O O (by decide +kernel)) (rY rfl T.Zn (af (pv 1) ai)) (fun cl C s H fp aa=>(aG (i:=0) (show(["point"]:List C').Nodup by decide +kernel) rfl (by first|exact UL rfl|exact UK O))) (fun cl C s H fp aa=>cR) (fun cl C s H fp aa=>(bY ai))) O)
   (ao (eA (pv 0) (cF (N:=["point"]) (cap:=[i']) O (cz (osc:=az nC) (XN:=["self","count","wishes","number","wish"]) O O (by decide +kernel)) (rY rfl T.Zn (af (pv 1) ai)) (fun cl C s H fp aa=>(aG (i:=0) (show(["point"]:List C').Nodup by decide +kernel) rfl (by first|exact UL rfl|exact UK O))) (fun cl C s H fp aa=>cR) (fun cl C s H fp aa=>(bY ai))) O)
   (ak (ei Wb rfl (uT rfl T.QaM (af (pv 2) ai)) (kj rfl (bo (aG (i:=3) yu.nd O (by first|exact UL rfl|exact UK O)) (bo (aG (i:=4) yu.nd O (by first|exact UL rfl|exact UK O)) fu))) (ao (bp (ej V5 Wo Wy fS (aK bB (bA (pv 0) O) (aK ff (pv 4) au (fun _ _=>O)) (fun _ _=>O)) (af (pv 3) ai)))
   (ak (bp (ej V5 Wo Wy fS (aK bB (bA (pv 0) rfl) (aK ff (pv 4) au (fun _ _=>O)) (fun _ _=>O)) (af (pv 3) ai))))))))))))))),?_⟩
  refine⟨_,O,wA,O,⟨_,sG⟩,fun oA n0=>?_⟩
  refine yY 0 (fun w:Wt=>V.int (w.1:Nat)) sG wK hw (fun _=>O) n0 fun G0 BH y0=>?_
  refine⟨_,O,q,a.Layout,dx,_,O,BH _ _ q0,T.VG,T.Z3,(by show 0<1000;decide),?_⟩
  obtain⟨F1,e1⟩:∃ fs,fs=aS "ones" (.ref oA) []:=⟨_,O⟩
  rw[← e1]
  have l1:F1.length=1:=by
   rw[e1]
   rfl
  have q1:=ag (H:=G0) (a:=q) (o:=HO.ins a.Layout dx F1)
  have iX:Kx [q] H (upd G0 q (HO.ins a.Layout dx F1)):=(Kx.of BH).trans (Kx.upd (by simp))
  have dF:upd G0 q (HO.ins a.Layout dx F1) oA=f' (.lst (ws.map (fun w:Wt=>V.int (w.1:Nat)))):=by rw[aj (UM (aq q0 n0))];exact y0
  generalize upd G0 q (HO.ins a.Layout dx F1)=H1 at q1 iX dF ⊢
  have Jx:Kx [q] H H1:=Hv.trans iX
  have cV:=iX.sq q0 sG
  have AX:=(iX.tk q0).U' (cu (fun _=>O) _) wK
  refine⟨_,O,wA,O,⟨_,cV⟩,fun tA n1=>?_⟩
  refine yY 1 (fun w:Wt=>V.int (w.2.1:Nat)) cV AX hw (fun _=>O) n1 fun G1 nX y1=>?_
  refine⟨_,O,q,a.Layout,dx,_,O,nX _ _ q1,T.VG,T.QbS,(by lia),?_⟩
  obtain⟨F2,e2⟩:∃ fs,fs=aS "others" (.ref tA) F1:=⟨_,O⟩
  rw[← e2]
  have l2:F2.length=2:=by
   rw[e2,e1]
   rfl
  have q2:=ag (H:=G1) (a:=q) (o:=HO.ins a.Layout dx F2)
  have YO:Kx [q] H1 (upd G1 q (HO.ins a.Layout dx F2)):=(Kx.of nX).trans (Kx.upd (by simp))
  have d5:upd G1 q (HO.ins a.Layout dx F2) tA=f' (.lst (ws.map (fun w:Wt=>V.int (w.2.1:Nat)))):=by rw[aj (UM (aq q1 n1))];exact y1
  generalize upd G1 q (HO.ins a.Layout dx F2)=H2 at q2 YO d5 ⊢
  have sM:Kx [q] H H2:=Jx.trans YO
  have dF:=YO.lst q1 dF
  have bO:=YO.sq q1 cV
  have eY:=(YO.tk q1).U' (cu (fun _=>O) _) AX
  refine⟨_,O,wA,O,⟨_,bO⟩,fun lA n2=>?_⟩
  refine yY 2 (fun w:Wt=>V.int w.2.2.1) bO eY hw (fun _=>O) n2 fun G2 mo y2=>?_
  refine⟨_,O,q,a.Layout,dx,_,O,mo _ _ q2,T.VG,T.QdU,(by lia),?_⟩
  obtain⟨F3,e3⟩:∃ fs,fs=aS "leasts" (.ref lA) F2:=⟨_,O⟩
  rw[← e3]
  have l3:F3.length=3:=by
   rw[e3,e2,e1]
   rfl
  have q3:=ag (H:=G2) (a:=q) (o:=HO.ins a.Layout dx F3)
  have WJ:Kx [q] H2 (upd G2 q (HO.ins a.Layout dx F3)):=(Kx.of mo).trans (Kx.upd (by simp))
  have eP:upd G2 q (HO.ins a.Layout dx F3) lA=f' (.lst (ws.map (fun w:Wt=>V.int w.2.2.1))):=by rw[aj (UM (aq q2 n2))];exact y2
  generalize upd G2 q (HO.ins a.Layout dx F3)=H3 at q3 WJ eP ⊢
  have jQ:Kx [q] H H3:=sM.trans WJ
  have dF:=WJ.lst q2 dF
  have d5:=WJ.lst q2 d5
  have mY:=WJ.sq q2 bO
  have jW:=(WJ.tk q2).U' (cu (fun _=>O) _) eY
  refine⟨(by show 1≤S';decide),fun z3 A8=>⟨_,O,z3,_,_,O,O,ag,by lia,by lia,(by rw[Q9];show 1 * ((c:Nat):Int).toNat≤_;lia),fun pA Ad=>?_⟩⟩
  rw[Ru,uF]
  have vO:ae H3 (upd (upd H3 z3 (.lst [V.int 0])) pA (.lst ((UX c (0:Int)).map V.int))):=(ae.new A8).trans (ae.new Ad)
  have y3:upd (upd H3 z3 (.lst [V.int 0])) pA (.lst ((UX c (0:Int)).map V.int)) pA=f' (.lst ((UX c (0:Int)).map V.int)):=ag
  have n3:H3 pA=i':=none_of (ae.new A8) Ad
  generalize upd (upd H3 z3 (.lst [V.int 0])) pA (.lst ((UX c (0:Int)).map V.int))=G3 at vO y3 ⊢
  have qF:=aq q3 n3
  have vp:=aq dF n3
  have xg:=aq d5 n3
  have w6:=aq eP n3
  have Js:H pA=i':=jQ.none n3 (UM qF)
  refine⟨_,O,q,a.Layout,dx,_,O,vO _ _ q3,T.VG,T.YK,(by lia),?_⟩
  obtain⟨F4,e4⟩:∃ fs,fs=aS "places" (.ref pA) F3:=⟨_,O⟩
  rw[← e4]
  have l4:F4.length=4:=by
   rw[e4,e3,e2,e1]
   rfl
  have q4:=ag (H:=G3) (a:=q) (o:=HO.ins a.Layout dx F4)
  have jY:Kx [q] H3 (upd G3 q (HO.ins a.Layout dx F4)):=(Kx.of vO).trans (Kx.upd (by simp))
  have gc:upd G3 q (HO.ins a.Layout dx F4) pA=f' (.lst ((UX c (0:Int)).map V.int)):=by rw[aj (UM (aq q3 n3))];exact y3
  generalize upd G3 q (HO.ins a.Layout dx F4)=H4 at q4 jY gc ⊢
  have kE:Kx [q] H H4:=jQ.trans jY
  have dF:=jY.lst q3 dF
  have d5:=jY.lst q3 d5
  have eP:=jY.lst q3 eP
  have BD:=jY.sq q3 mY
  have HZ:=(jY.tk q3).U' (cu (fun _=>O) _) jW
  refine⟨(by show 1≤S';decide),fun z4 xk=>⟨_,O,wA,_,O,.inl ((ae.new xk).Ve BD),z4,_,_,O,O,ag,by lia,by lia,(by rw[Q9];show 1 * ((xs.length:Nat):Int).toNat≤_;lia),fun fA A4=>?_⟩⟩
  rw[← cN]
  rw[Ru,uF]
  have vF:ae H4 (upd (upd H4 z4 (.lst [V.int 0])) fA (.lst ((UX ws.length (0:Int)).map V.int))):=(ae.new xk).trans (ae.new A4)
  have y4:upd (upd H4 z4 (.lst [V.int 0])) fA (.lst ((UX ws.length (0:Int)).map V.int)) fA=f' (.lst ((UX ws.length (0:Int)).map V.int)):=ag
  have n4:H4 fA=i':=none_of (ae.new xk) A4
  generalize upd (upd H4 z4 (.lst [V.int 0])) fA (.lst ((UX ws.length (0:Int)).map V.int))=G4 at vF y4 ⊢
  have pI:=aq q4 n4
  have vY:=aq dF n4
  have wO:=aq d5 n4
  have wF:=aq eP n4
  have vf:=aq gc n4
  have vV:H fA=i':=kE.none n4 (UM pI)
  refine⟨_,O,q,a.Layout,dx,_,O,vF _ _ q4,T.VG,T.QaH,(by lia),?_⟩
  obtain⟨F5,e5⟩:∃ fs,fs=aS "flow" (.ref fA) F4:=⟨_,O⟩
  rw[← e5]
  have l5:F5.length=5:=by
   rw[e5,e4,e3,e2,e1]
   rfl
  have q5:=ag (H:=G4) (a:=q) (o:=HO.ins a.Layout dx F5)
  have XA:Kx [q] H4 (upd G4 q (HO.ins a.Layout dx F5)):=(Kx.of vF).trans (Kx.upd (by simp))
  have iI:upd G4 q (HO.ins a.Layout dx F5) fA=f' (.lst ((UX ws.length (0:Int)).map V.int)):=by rw[aj (UM (aq q4 n4))];exact y4
  generalize upd G4 q (HO.ins a.Layout dx F5)=H5 at q5 XA iI ⊢
  have Al:Kx [q] H H5:=kE.trans XA
  have dF:=XA.lst q4 dF
  have d5:=XA.lst q4 d5
  have eP:=XA.lst q4 eP
  have gc:=XA.lst q4 gc
  have HK:=XA.sq q4 BD
  have IU:=(XA.tk q4).U' (cu (fun _=>O) _) HZ
  refine⟨(by show 1≤S';decide),fun z5 B2=>⟨_,O,z5,_,_,O,O,ag,by lia,by lia,(by rw[Q9];show 1 * ((c:Nat):Int).toNat≤_;lia),fun nA BC=>?_⟩⟩
  rw[Ru,uF]
  have xz:ae H5 (upd (upd H5 z5 (.lst [V.int 0])) nA (.lst ((UX c (0:Int)).map V.int))):=(ae.new B2).trans (ae.new BC)
  have y5:upd (upd H5 z5 (.lst [V.int 0])) nA (.lst ((UX c (0:Int)).map V.int)) nA=f' (.lst ((UX c (0:Int)).map V.int)):=ag
  have n5:H5 nA=i':=none_of (ae.new B2) BC
  generalize upd (upd H5 z5 (.lst [V.int 0])) nA (.lst ((UX c (0:Int)).map V.int))=G5 at xz y5 ⊢
  have qz:=aq q5 n5
  have wu:=aq dF n5
  have vg:=aq d5 n5
  have vh:=aq eP n5
  have vM:=aq gc n5
  have vv:=aq iI n5
  have G8:H nA=i':=Al.none n5 (UM qz)
  refine⟨_,O,q,a.Layout,dx,_,O,xz _ _ q5,T.VG,T.QbR,(by lia),?_⟩
  obtain⟨F6,e6⟩:∃ fs,fs=aS "needs" (.ref nA) F5:=⟨_,O⟩
  rw[← e6]
  have l6:F6.length=6:=by
   rw[e6,e5,e4,e3,e2,e1]
   rfl
  have q6:=ag (H:=G5) (a:=q) (o:=HO.ins a.Layout dx F6)
  have fH:Kx [q] H5 (upd G5 q (HO.ins a.Layout dx F6)):=(Kx.of xz).trans (Kx.upd (by simp))
  have jX:upd G5 q (HO.ins a.Layout dx F6) nA=f' (.lst ((UX c (0:Int)).map V.int)):=by rw[aj (UM (aq q5 n5))];exact y5
  generalize upd G5 q (HO.ins a.Layout dx F6)=H6 at q6 fH jX ⊢
  have Bq:Kx [q] H H6:=Al.trans fH
  have dF:=fH.lst q5 dF
  have d5:=fH.lst q5 d5
  have eP:=fH.lst q5 eP
  have gc:=fH.lst q5 gc
  have iI:=fH.lst q5 iI
  have Iw:=fH.sq q5 HK
  have Jd:=(fH.tk q5).U' (cu (fun _=>O) _) IU
  refine⟨_,O,_,O,by lia,by lia,fun gA n6=>?_⟩
  refine Em hc n6 fun G6 cq An y6 gl6 GW m6=>?_
  have GB:=aq q6 n6
  have GO:=aq dF n6
  have GJ:=aq d5 n6
  have IC:=aq eP n6
  have wJ:=aq gc n6
  have xC:=aq iI n6
  have vK:=aq jX n6
  have xm:=fun i b (e:(cq:List F')[i]?=f' b)=>aq q6 (m6 i b e).2.1
  have vk:=fun i b (e:(cq:List F')[i]?=f' b)=>aq dF (m6 i b e).2.1
  have vX:=fun i b (e:(cq:List F')[i]?=f' b)=>aq d5 (m6 i b e).2.1
  have wm:=fun i b (e:(cq:List F')[i]?=f' b)=>aq eP (m6 i b e).2.1
  have qu:=fun i b (e:(cq:List F')[i]?=f' b)=>aq gc (m6 i b e).2.1
  have qV:=fun i b (e:(cq:List F')[i]?=f' b)=>aq iI (m6 i b e).2.1
  have qi:=fun i b (e:(cq:List F')[i]?=f' b)=>aq jX (m6 i b e).2.1
  have vi:=fun i b (e:(cq:List F')[i]?=f' b)=>UM (m6 i b e).2.2
  refine⟨_,O,q,a.Layout,dx,_,O,An _ _ q6,T.VG,T.QdT,(by lia),?_⟩
  obtain⟨F7,e7⟩:∃ fs,fs=aS "going" (.ref gA) F6:=⟨_,O⟩
  rw[← e7]
  have l7:F7.length=7:=by
   rw[e7,e6,e5,e4,e3,e2,e1]
   rfl
  have q7:=ag (H:=G6) (a:=q) (o:=HO.ins a.Layout dx F7)
  have jP:Kx [q] H6 (upd G6 q (HO.ins a.Layout dx F7)):=(Kx.of An).trans (Kx.upd (by simp))
  have nj:upd G6 q (HO.ins a.Layout dx F7) gA=f' (.lst (cq.map V.ref)):=by rw[aj (UM (aq q6 n6))];exact y6
  have z6:∀ i b,(cq:List F')[i]?=f' b→upd G6 q (HO.ins a.Layout dx F7) b=f' (.lst []):=fun i b e=>by rw[aj (fun z=>by rw[z] at e;exact UR ((m6 i q e).2.1) (by rw[q6];exact fun y=>by cases y))];exact(m6 i b e).1
  generalize upd G6 q (HO.ins a.Layout dx F7)=H7 at q7 jP nj z6 ⊢
  have BX:Kx [q] H H7:=Bq.trans jP
  have dF:=jP.lst q6 dF
  have d5:=jP.lst q6 d5
  have eP:=jP.lst q6 eP
  have gc:=jP.lst q6 gc
  have iI:=jP.lst q6 iI
  have jX:=jP.lst q6 jX
  have Af:=jP.sq q6 Iw
  have JC:=(jP.tk q6).U' (cu (fun _=>O) _) Jd
  refine⟨_,O,_,O,by lia,by lia,fun cA n7=>?_⟩
  refine Em hc n7 fun G7 cx BJ y7 GI JB m7=>?_
  have Hw:=aq q7 n7
  have ID:=aq dF n7
  have GV:=aq d5 n7
  have IP:=aq eP n7
  have wE:=aq gc n7
  have vE:=aq iI n7
  have xn:=aq jX n7
  have Jv:=aq nj n7
  have xp:=fun i b (e:(cx:List F')[i]?=f' b)=>aq q7 (m7 i b e).2.1
  have vH:=fun i b (e:(cx:List F')[i]?=f' b)=>aq dF (m7 i b e).2.1
  have vI:=fun i b (e:(cx:List F')[i]?=f' b)=>aq d5 (m7 i b e).2.1
  have wN:=fun i b (e:(cx:List F')[i]?=f' b)=>aq eP (m7 i b e).2.1
  have pL:=fun i b (e:(cx:List F')[i]?=f' b)=>aq gc (m7 i b e).2.1
  have qM:=fun i b (e:(cx:List F')[i]?=f' b)=>aq iI (m7 i b e).2.1
  have qj:=fun i b (e:(cx:List F')[i]?=f' b)=>aq jX (m7 i b e).2.1
  have wv:=fun i b (e:(cx:List F')[i]?=f' b)=>aq nj (m7 i b e).2.1
  have vC:=fun i b (e:(cx:List F')[i]?=f' b)=>UM (m7 i b e).2.2
  have wZ:=fun i b (e:(cq:List F')[i]?=f' b)=>UM (aq (z6 i b e) n7)
  have wU:∀ i b j b',(cq:List F')[i]?=f' b→(cx:List F')[j]?=f' b'→b≠b':=fun i b j b' e e'=>aq (z6 i b e) (m7 j b' e').2.1
  refine⟨_,O,q,a.Layout,dx,_,O,BJ _ _ q7,T.VG,T.QdS,(by lia),?_⟩
  obtain⟨F8,e8⟩:∃ fs,fs=aS "coming" (.ref cA) F7:=⟨_,O⟩
  rw[← e8]
  have q8:=ag (H:=G7) (a:=q) (o:=HO.ins a.Layout dx F8)
  have iZ:Kx [q] H7 (upd G7 q (HO.ins a.Layout dx F8)):=(Kx.of BJ).trans (Kx.upd (by simp))
  have vj:upd G7 q (HO.ins a.Layout dx F8) cA=f' (.lst (cx.map V.ref)):=by rw[aj (UM (aq q7 n7))];exact y7
  have z7:∀ i b,(cx:List F')[i]?=f' b→upd G7 q (HO.ins a.Layout dx F8) b=f' (.lst []):=fun i b e=>by rw[aj (fun z=>by rw[z] at e;exact UR ((m7 i q e).2.1) (by rw[q7];exact fun y=>by cases y))];exact(m7 i b e).1
  generalize upd G7 q (HO.ins a.Layout dx F8)=H8 at q8 iZ vj z7 ⊢
  have xb:Kx [q] H H8:=BX.trans iZ
  have dF:=iZ.lst q7 dF
  have d5:=iZ.lst q7 d5
  have eP:=iZ.lst q7 eP
  have gc:=iZ.lst q7 gc
  have iI:=iZ.lst q7 iI
  have jX:=iZ.lst q7 jX
  have nj:=iZ.lst q7 nj
  have Ie:=iZ.sq q7 Af
  have Bi:=(iZ.tk q7).U' (cu (fun _=>O) _) JC
  have z6:∀ i b,(cq:List F')[i]?=f' b→H8 b=f' (.lst []):=fun i b e=>iZ.lst q7 (z6 i b e)
  have eF:F8=bW ⟨oA,tA,lA,pA,fA,nA,gA,cA⟩:=by
   rw[e8,e7,e6,e5,e4,e3,e2,e1]
   exact ND (r:=⟨oA,tA,lA,pA,fA,nA,gA,cA⟩)
  rw[eF] at q8
  have ib:∀ b∈cq++cx,q≠b∧oA≠b∧tA≠b∧lA≠b∧pA≠b∧fA≠b∧nA≠b∧gA≠b∧cA≠b:=fun b hb=>by
   rcases V9.mp hb with z|z
   .obtain⟨i,e⟩:=X4.mp z
    exact⟨xm i b e,vk i b e,vX i b e,wm i b e,qu i b e,qV i b e,qi i b e,vi i b e,wZ i b e⟩
   .obtain⟨i,e⟩:=X4.mp z
    exact⟨xp i b e,vH i b e,vI i b e,wN i b e,pL i b e,qM i b e,qj i b e,wv i b e,vC i b e⟩
  have fresh:∀ b∈cq++cx,H b=i'∧H8 b=f' (.lst []):=fun b hb=>by
   have nq:=(ib b hb).1
   rcases V9.mp hb with z|z
   .obtain⟨i,e⟩:=X4.mp z
    exact⟨Bq.none (m6 i b e).2.1 (UM nq),z6 i b e⟩
   .obtain⟨i,e⟩:=X4.mp z
    exact⟨BX.none (m7 i b e).2.1 (UM nq),z7 i b e⟩
  have qg:∀ b,(∀ c∈cq++cx,b≠c)→b∉cq++cx:=fun b h z=>h b z rfl
  have Ih:∀ G,Kx (cq++cx) H8 G→P' K G wA xs:=fun G kx=>by
   rcases sG with(h|⟨o,h⟩)|h
   .have e8:=xb _ _ h (by simp;rintro rfl;rw[q0] at h;cases h)
    exact .inl (.inl (kx _ _ e8 fun z=>by rw[(fresh _ z).1] at h;cases h))
   .have e8:=xb _ _ h (by simp;rintro rfl;rw[q0] at h;cases h)
    exact .inl (.inr ⟨o,kx _ _ e8 fun z=>by rw[(fresh _ z).1] at h;cases h⟩)
   .exact .inr h
  have Jb:∀ G,Kx (cq++cx) H8 G→Tk H8 G:=fun G kx b o z1 z2=>kx b o z1 fun y=>by
   rw[(fresh b y).2] at z1
   cases z1
   cases z2
  have AM:∀ b,b∈cq→b∉cx:=fun b h1 h2=>by
   obtain⟨i,e⟩:=X4.mp h1
   obtain⟨j,e'⟩:=X4.mp h2
   exact wU i b j b e e' rfl
  rw[Tu] at Bi
  refine⟨_,O,wA,O,⟨_,Ie⟩,zc (K:=K) (l:=wA) (xs:=xs) (fun i σ G=>∃ v3 v4,σ=[f' (.ref q),f' (.int (c:Nat)),f' (.ref wA),v3,v4]∧Kx (cq++cx) H8 G∧Ls cq (WD ws i) G∧Ls cx (Xz ws i) G)
   ⟨i',i',rfl,Kx.of (ae.refl _),fun i b e=>z6 i b e,fun i b e=>z7 i b e⟩ ?_ ?_ ?_⟩
  .rintro i σ G _ ⟨_,_,rfl,kx,_⟩
   exact Ih G kx
  .rintro i x tt σ G hx nt ⟨v3,v4,rfl,kx,lg,lc⟩
   obtain⟨w0,lH,dw⟩:=gv Bi hx
   obtain⟨t,rfl,ht⟩:=mj ((Jb G kx).dt O dw)
   obtain⟨i1,i2⟩:=cB w0 (Rp lH)
   have hi:i<ws.length:=(VD.mp lH).1
   have ew:ws.getD i (0,0,0,0)=w0:=by rw[Rl,lH];rfl
   obtain⟨ga,nZ⟩:=jH (l:=cq) (j:=w0.1) (by lia)
   obtain⟨ca,qH⟩:=jH (l:=cx) (j:=w0.2.1) (by lia)
   have As:ga∈cq:=Rp nZ
   have AK:ca∈cx:=Rp qH
   have JO:VB (cq.map V.ref) (w0.1:Int)=f' (.ref ga):=by rw[jG (by lia),Ru,Rx,nZ];rfl
   have IY:VB (cx.map V.ref) (w0.2.1:Int)=f' (.ref ca):=by rw[jG (by lia),Ru,Rx,qH];rfl
   have s3:ae G (upd G tt (.tup [.int i,.ref t])):=ae.new nt
   have h3:upd G tt (.tup [.int i,.ref t]) tt=f' (.tup [.int i,.ref t]):=ag
   have qX:Ls cq (WD ws i) (upd G tt (.tup [.int i,.ref t])):=fun j b e=>s3 _ _ (lg j b e)
   have AH:Ls cx (Xz ws i) (upd G tt (.tup [.int i,.ref t])):=fun j b e=>s3 _ _ (lc j b e)
   generalize upd G tt (.tup [.int i,.ref t])=G3 at s3 h3 qX AH ⊢
   have jQ:Kx (cq++cx) H8 G3:=kx.trans (Kx.of s3)
   have q3:G3 q=_:=jQ _ _ q8 (qg _ fun b hb=>(ib b hb).1)
   have g3:G3 gA=_:=jQ _ _ nj (qg _ fun b hb=>(ib b hb).2.2.2.2.2.2.2.1)
   have gl:=N0 ws i w0.1
   have cl:=M0 ws i w0.2.1
   refine⟨tt,_,O,UW.of h3,O,_,_,O,_,_,O,O,?_⟩
   refine⟨_,O,q,a.Layout,dx,_,_,O,q3,T.VG,T.QdT,NL,_,O,t,_,_,_,O,O,s3.VI ht,O,gA,_,_,_,O,O,P'.of g3,JO,.inl ⟨O,_,P'.of (qX _ _ nZ)⟩,_,O,ga,_,_,O,O,qX _ _ nZ,?_,?_⟩
   .unfold nums
    rw[Q3,Q9]
    lia
   have en:nums (WD ws i w0.1)++[V.int (i:Nat)]=nums (WD ws i w0.1++[i]):=by
    unfold nums
    rw[Q8]
    rfl
   rw[en]
   have kE:Kx (cq++cx) H8 (upd G3 ga (.lst (nums (WD ws i w0.1++[i])))):=jQ.trans (Kx.upd (Rz _ As))
   have Ba:Ls cq (WD ws (i + 1)) (upd G3 ga (.lst (nums (WD ws i w0.1++[i])))):=by
    rw[Ky,ew]
    exact qX.put GW nZ
   have sZ:Ls cx (Xz ws i) (upd G3 ga (.lst (nums (WD ws i w0.1++[i])))):=AH.keep (AM ga As)
   have lG:Tk G3 (upd G3 ga (.lst (nums (WD ws i w0.1++[i])))):=Tk.upd (qX _ _ nZ) rfl
   generalize upd G3 ga (.lst (nums (WD ws i w0.1++[i])))=G4 at kE Ba sZ lG ⊢
   have q4:G4 q=_:=kE _ _ q8 (qg _ fun b hb=>(ib b hb).1)
   have c4:G4 cA=_:=kE _ _ vj (qg _ fun b hb=>(ib b hb).2.2.2.2.2.2.2.2)
   refine⟨_,O,q,a.Layout,dx,_,_,O,q4,T.VG,T.QdS,La,_,O,t,_,_,_,O,O,lG.VI (s3.VI ht),O,cA,_,_,_,O,O,P'.of c4,IY,.inl ⟨O,_,P'.of (sZ _ _ qH)⟩,_,O,ca,_,_,O,O,sZ _ _ qH,?_,?_⟩
   .unfold nums
    rw[Q3,Q9]
    lia
   have en:nums (Xz ws i w0.2.1)++[V.int (i:Nat)]=nums (Xz ws i w0.2.1++[i]):=by
    unfold nums
    rw[Q8]
    rfl
   rw[en]
   refine⟨_,_,O,kE.trans (Kx.upd (RA _ AK)),Ba.keep (fun z=>AM ca z AK),?_⟩
   rw[MI,ew]
   exact sZ.put JB qH
  .rintro σ G ⟨v3,v4,rfl,kx,lg,lc⟩
   rw[← cN] at lg lc
   have at_:∀ b o,H8 b=f' o→(∀ d∈cq++cx,b≠d)→G b=f' o:=fun b o e n=>kx b o e (qg b n)
   refine k ⟨oA,tA,lA,pA,fA,nA,gA,cA⟩ G (fun b o e z=>?_) ?_ (at_ _ _ gc fun d hd=>(ib d hd).2.2.2.2.1) (at_ _ _ iI fun d hd=>(ib d hd).2.2.2.2.2.1) (at_ _ _ jX fun d hd=>(ib d hd).2.2.2.2.2.2.1) Js vV G8
   .exact kx _ _ (xb b o e z) fun y=>by
     rw[(fresh b y).1] at e
     cases e
   .exact⟨⟨dx,at_ _ _ q8 fun d hd=>(ib d hd).1⟩,at_ _ _ dF fun d hd=>(ib d hd).2.1,at_ _ _ d5 fun d hd=>(ib d hd).2.2.1,at_ _ _ eP fun d hd=>(ib d hd).2.2.2.1,
     ⟨cq,at_ _ _ nj fun d hd=>(ib d hd).2.2.2.2.2.2.2.1,gl6,fun i b e=>⟨lg i b e,UM (qu i b e),UM (qV i b e),UM (qi i b e)⟩⟩,
     ⟨cx,at_ _ _ vj fun d hd=>(ib d hd).2.2.2.2.2.2.2.2,GI,fun i b e=>⟨lc i b e,UM (pL i b e),UM (qM i b e),UM (qj i b e)⟩⟩,
     ⟨vp,vY,wu⟩,⟨xg,wO,vg⟩,⟨w6,wF,vh⟩,⟨UM wJ,UM xC,UM vK⟩,⟨UM wE,UM vE,UM xn⟩,⟨qF,pI,qz⟩,vf,vM,vv⟩
end
def WW:List Int→Int
 | []=>0
 | x::r=>max x (WW r)
theorem Fw:∀ (l:List Int),0≤WW l∧∀ x∈l,x≤WW l
 | []=>⟨Tg _,fun x h=>by cases h⟩
 | y::r=>by
  obtain⟨h1,h2⟩:=Fw r
  have e:WW (y::r)=max y (WW r):=rfl
  rw[e]
  refine⟨by lia,fun x hx=>?_⟩
  rcases RS.mp hx with z|z
  .rw[z]
   lia
  .have:=h2 x z
   lia
theorem yC {m:Int}:∀ (l:List Int),0≤m→(∀ x∈l,x≤m)→WW l≤m
 | [],h,_=>h
 | y::r,h,hx=>by
  have h1:=yC r h fun x z=>hx x (Rc _ z)
  have h2:=hx y Rr
  have e:WW (y::r)=max y (WW r):=rfl
  rw[e]
  lia
def pw:Nat→List Int
 | 0=>[1]
 | m + 1=>16 ^ (m + 1)::pw m
theorem EJ:∀ m,(pw m).length=m + 1
 | 0=>rfl
 | m + 1=>by
  show(pw m).length + 1=_
  rw[EJ m]
theorem Qv:∀ m,∃ r,pw m=(16:Int) ^ m::r
 | 0=>⟨[],O⟩
 | m + 1=>⟨pw m,O⟩
def QmO (mx:Int) (m:Nat):Prop:=(∀ i,i<m→(16:Int) ^ i * 16≤mx)∧¬ (16:Int) ^ m * 16≤mx
theorem O6 (m:Nat):(0:Int)<16 ^ m:=Int.pow_pos (by decide)
theorem zi (m:Nat):(16:Int) ^ (m + 1)=16 ^ m * 16:=Int.pow_succ _ _
section
variable {K:R'}
def QmP (K:R'):Sp:=fun vs H Q _=>∃ l wt,vs=[.ref l]∧P' K H l ((wt:List Int).map V.int)∧(∀ x∈wt,0≤x∧x<2 ^ 61)∧∀ m g H',ae H H'→H g=i'→H' g=f' (.lst ((pw m).map V.int))→QmO (WW wt) m→m≤100→Q (.ref g) H'
theorem NO (T:Tx K mg a):Vd P w K mg base U8 1 "figure_worths" ["weights"] [] (QmP K):=T.Qi0.U2 fun f fd F=>by
 refine F.ok E6 (fun vs H Q E h=>?_) (fun ay A outer s H vs Q E hr h=>?_)
 .obtain⟨l,wt,rfl,_⟩:=h
  rfl
 .obtain⟨l,wt,rfl,hl,hw,k⟩:=h
  obtain⟨QT,GD⟩:=Fw wt
  have QZ:WW wt<2 ^ 61:=by
   have:=yC (m:=2 ^ 61 - 1) wt (by decide) fun x hx=>by
    have:=(hw x hx).2
    lia
   lia
  refine⟨_,(ao (aW (i:=1) E6.nd O (by first|exact UL rfl|exact UK O) (bY (af au ai)))
   (ao (uj Wb (bf Qdd (br rD (aK bB (pv 1) au (fun _ _=>O)) (fZ O T.QaL)) (Kt O T.QmC (af (pv 0) ai)) (aZ _)) (ak (bp (ej V5 Qcv QeB EI (pv 1) (af au (af (br rD (aK bB (pv 1) au (fun _ _=>O)) (fZ O T.QaL)) ai))))))
   (ak (aN (pv 1))))),?_⟩
  refine⟨(by show 1≤S';decide),fun g ng=>?_⟩
  have s1:ae H (upd H g (.lst [V.int 1])):=ae.new ng
  have h1:upd H g (.lst [V.int 1]) g=f' (.lst ((pw 0).map V.int)):=ag
  generalize upd H g (.lst [V.int 1])=H1 at s1 h1 ⊢
  refine⟨fun m σ G=>∃ j:Nat,m=(2 ^ 62 - (16:Int) ^ j).toNat∧σ=[f' (.ref l),f' (.ref g)]∧ae H G∧G g=f' (.lst ((pw j).map V.int))∧(∀ i,i<j→(16:Int) ^ i * 16≤WW wt)∧(16:Int) ^ j<2 ^ 62∧j≤100,
   ⟨_,0,rfl,rfl,s1,h1,fun i hi=>UR hi (Sg _),by decide,by decide⟩,?_⟩
  rintro m σ G ⟨j,rfl,rfl,sg,hg,all,QS,j1⟩
  obtain⟨rr,er⟩:=Qv j
  have jp:=O6 j
  have W8:VB ((pw j).map V.int) 0=f' (.int ((16:Int) ^ j)):=by rw[er];exact at0
  refine⟨_,O,g,_,_,_,O,O,P'.of hg,W8,_,_,O,O,.inr ⟨by decide,by decide⟩,_,O,l,wt,O,sg.Ve hl,fun e0=>?_,fun mx hm Iu=>?_⟩
  ·-- no weight at all
   subst e0
   refine⟨_,_,O,O,_,O,bi (fun c=>?_) (fun c=>?_)⟩
   .have:=Rv c
    have QB:(0:Int)<16 ^ j * 16:=by lia
    lia
   .exact⟨_,O,k j g G sg ng hg ⟨all,RF c⟩ j1⟩
  .have em:mx=WW wt:=by
    have a1:=GD mx hm
    have a2:=yC wt (hw mx hm).1 Iu
    lia
   subst em
   refine⟨_,_,O,O,_,O,bi (fun c=>?_) (fun c=>?_)⟩
   .have c1:(16:Int) ^ j * 16≤WW wt:=Rv c
    have jl:j + 1≤100:=by
     rcases Sm j 100 with z|z
     .exact z
     .exfalso
      have e1:(16:Int) ^ 100≤16 ^ j:=by
       have h:=Ul (n:=16) (by decide) z
       exact_mod_cast h
      have e2:(2:Int) ^ 62≤16 ^ 100:=by decide +kernel
      lia
    have l1:=EJ j
    refine⟨_,fun σ' H' h=>h,?_⟩
    refine⟨_,O,.inl ⟨O,_,P'.of hg⟩,_,O,g,_,_,_,O,O,P'.of hg,W8,_,_,O,O,.inr ⟨by decide,by decide⟩,g,_,0,_,O,O,hg,by lia,by lia,?_,?_⟩
    .rw[Q3,l1,Q9]
     lia
    .have e3:(16:Int) ^ (j + 1)<2 ^ 62:=by rw[zi];lia
     refine⟨(2 ^ 62 - (16:Int) ^ (j + 1)).toNat,by rw[zi] at e3 ⊢;lia,j + 1,O,O,du ng sg,?_,fun i hi=>?_,e3,jl⟩
     .rw[ag]
      show f' (HO.lst (V.int ((16:Int) ^ j * 16)::(pw j).map V.int))=f' (HO.lst (V.int ((16:Int) ^ (j + 1))::(pw j).map V.int))
      rw[zi]
     .rcases Sm i j with z|z
      .exact all i z
      .rw[show i=j by lia]
       exact c1
   .exact⟨_,O,k j g G sg ng hg ⟨all,RF c⟩ j1⟩
end
def intOf:Option V→Option Int
 | some (.int i)=>f' i
 | _=>i'
def gI (kvs:U7) (v:Nat):Option Int:=intOf (a8 kvs (U5 (v:Int)))
def Wf (kvs:U7):Prop:=∀ p∈kvs,∃ (v:Nat) (i:Int),p=(U5 (v:Int),V.int i)
theorem Wf.val {kvs:U7} (h:Wf kvs) (v:Nat):a8 kvs (U5 (v:Int))=(gI kvs v).map V.int:=by
 unfold gI
 cases e:a8 kvs (U5 (v:Int)) with
 | none=>rfl
 | some x=>
  unfold a8 at e
  obtain⟨p,e1,e2⟩:=Zq.mp e
  obtain⟨u,i,e3⟩:=h p (List.mem_of_find?_eq_some e1)
  rw[e3] at e2
  rw[← e2]
  rfl
theorem Wf.put {kvs:U7} (h:Wf kvs) (v:Nat) (i:Int):Wf (cg kvs (U5 (v:Int)) (.int i)):=fun p hp=>by
 unfold cg at hp
 split at hp
 .obtain⟨p',h1,h2⟩:=Wq.mp hp
  obtain⟨u,j,rfl⟩:=h p' h1
  split at h2
  .exact⟨u,i,h2.symm⟩
  .exact⟨u,j,h2.symm⟩
 .rcases V9.mp hp with z|z
  .exact h p z
  .exact⟨v,i,Vb.mp z⟩
theorem QmQ (kvs:U7) (v:Nat) (i:Int):gI (cg kvs (U5 (v:Int)) (.int i))=up (gI kvs) v (f' i):=by
 funext u
 unfold gI
 rw[tO]
 by_cases c:u=v
 .subst c
  rw[UH rfl,fQ]
  rfl
 .rw[UF (fun z=>c (by injection z with z;exact Qbc z)),eM _ _ c]
theorem Wf.QaO {kvs:U7} (h:Wf kvs) (hd:H d=f' (.dK kvs)):ci H d (.int (v:Nat)) ((gI kvs v).map V.int):=.inl ⟨kvs,U5 (v:Int),.inl hd,O,(h.val v).symm⟩
theorem C9 {l:List Nat} (h:(nums l)[j]?=f' x):∃ n,l[j]?=f' n∧x=.int (n:Nat):=by
 unfold nums at h
 rw[Rx] at h
 cases e:l[j]? with
 | none=>rw[e] at h;cases h
 | some n=>rw[e] at h;exact⟨n,O,(VE h).symm⟩
section
variable {K:R'}
end
def Xi (p:List Nat) (x:Wt):List Nat:=p.map fun y=>if y=p.getD x.2.1 0 then p.getD x.1 0 else y
def ptF (ws:List Wt) (c:Nat):List Nat:=ws.foldl Xi (VH c)
theorem Pp (p:List Nat) (x:Wt):(Xi p x).length=p.length:=by
 unfold Xi
 rw[Q3]
theorem Ef:∀ (ws:List Wt) (p:List Nat),(ws.foldl Xi p).length=p.length
 | [],_=>rfl
 | x::ws,p=>by
  show(ws.foldl Xi (Xi p x)).length=_
  rw[Ef ws,Pp]
def WL (s:U7) (x:Int×Nat):U7:=cg s (U5 ((x.2:Nat):Int)) (.int (min x.1 ((gI s x.2).getD x.1)))
def YQ (pl:List Int) (pt:List Nat):U7:=(pl.zip pt).foldl WL []
theorem DY {s:U7} (x:Int×Nat) (h:Wf s):Wf (WL s x)∧(WL s x).length≤s.length + 1∧gI (WL s x)=up (gI s) x.2 (f' (min x.1 ((gI s x.2).getD x.1))):=⟨h.put _ _,FF _ _ _,QmQ _ _ _⟩
theorem xU:∀ (l:List (Int×Nat)){s:U7},Wf s→Wf (l.foldl WL s)∧(l.foldl WL s).length≤s.length + l.length
 | [],_,h=>⟨h,Q7 _⟩
 | x::l,s,h=>by
  obtain⟨h1,h2,_⟩:=DY x h
  obtain⟨h3,h4⟩:=xU l h1
  refine⟨h3,RT h4 ?_⟩
  rw[Rh]
  lia
def Qb8 (l:List (Int×Nat)) (s:U7):Prop:=(∀ x∈l,∃ m,gI s x.2=f' m∧m≤x.1)∧∀ v m,gI s v=f' m→∃ x∈l,x.2=v∧x.1=m
theorem DF:∀ (l l0:List (Int×Nat)){s:U7},Wf s→Qb8 l0 s→Qb8 (l0++l) (l.foldl WL s)
 | [],l0,_,_,h=>by rw[Sx];exact h
 | x::l,l0,s,wf,h=>by
  obtain⟨w1,_,w3⟩:=DY x wf
  have e:l0++x::l=(l0++[x])++l:=by rw[Sn];rfl
  rw[e]
  refine DF l (l0++[x]) w1 ⟨fun y hy=>?_,fun v m hv=>?_⟩
  .rw[w3]
   by_cases c:y.2=x.2
   .rw[c,fQ]
    refine⟨_,O,?_⟩
    rcases V9.mp hy with z|z
    .obtain⟨m,e1,e2⟩:=h.1 y z
     rw[c] at e1
     rw[e1]
     show min x.1 m≤y.1
     lia
    .rw[Vb.mp z]
     lia
   .rw[eM _ _ c]
    rcases V9.mp hy with z|z
    .exact h.1 y z
    .rw[Vb.mp z] at c
     exact UR O c
  .rw[w3] at hv
   by_cases c:v=x.2
   .rw[c,fQ] at hv
    have hv:=VE hv
    cases eg:gI s x.2 with
    | none=>
     rw[eg] at hv
     have hv:min x.1 x.1=m:=hv
     exact⟨x,RA _ (Vb.mpr O),c.symm,by lia⟩
    | some b=>
     rw[eg] at hv
     have hv:min x.1 b=m:=hv
     by_cases c2:x.1≤b
     .exact⟨x,RA _ (Vb.mpr O),c.symm,by lia⟩
     .obtain⟨y,y1,y2,y3⟩:=h.2 x.2 b eg
      exact⟨y,Rz _ y1,by rw[y2,c],by lia⟩
   .rw[eM _ _ c] at hv
    obtain⟨y,y1,y2⟩:=h.2 v m hv
    exact⟨y,Rz _ y1,y2⟩
def frN (pl:List Int) (pt:List Nat):List Int:=(pl.zip pt).map fun x=>x.1 - (gI (YQ pl pt) x.2).getD 0
theorem QmR (pl:List Int) (pt:List Nat):Qb8 (pl.zip pt) (YQ pl pt):=by
 have:=DF (pl.zip pt) [] (s:=[]) (fun p hp=>by cases hp) ⟨fun x hx=>(by cases hx),fun v m e=>by cases e⟩
 rw[Qft] at this
 exact this
theorem E3 {p:List Nat} (h:i<p.length):VB (nums p) (i:Int)=f' (.int (p.getD i 0:Nat)):=by
 unfold nums
 rw[jG (by lia),Ru,Rx,Rf h,Rl,Rf h]
 rfl
section
variable {K:R'}
def Le (K:R'):Sp:=fun vs H Q _=>∃ l ws,∃ c:Nat,vs=[.int c,.ref l]∧im K H l ((ws:List Wt).map wI)∧(∀ x∈ws,x.1<c∧x.2.1<c)∧c≤1000∧∀ g H',ae H H'→H g=i'→H' g=f' (.lst (nums (ptF ws c)))→Q (.ref g) H'
theorem PV (T:Tx K mg a):Vd P w K mg base U8 1 "parts_of" ["count","wishes"] [] (Le K):=T.QiY.U2 fun f fd F=>by
 refine F.ok o0 (fun vs H Q E h=>?_) (fun ay A outer s H vs Q E hr h=>?_)
 .obtain⟨l,ws,c,rfl,_⟩:=h
  rfl
 .obtain⟨l,ws,c,rfl,⟨xs,hl,hd⟩,cB,hc,k⟩:=h
  have cN:ws.length=xs.length:=by rw[← hd.length,Q3,Q3]
  rw[Tu] at hd
  refine⟨_,(ao (aW (i:=2) o0.nd O (by first|exact UL rfl|exact UK O) (Ny O T.QaN O T.Zn (af (pv 0) ai)))
   (ao (ei Wb rfl (bV (pv 1)) (aG (i:=3) o0.nd O (by first|exact UL rfl|exact UK O)) (ao (aW (i:=4) o0.nd O (by first|exact UL rfl|exact UK O) (aK bB (pv 2) (aK ff (pv 3) au (fun _ _=>O)) (fun _ _=>O)))
   (ao (aW (i:=5) o0.nd O (by first|exact UL rfl|exact UK O) (aK bB (pv 2) (aK ff (pv 3) au (fun _ _=>O)) (fun _ _=>O)))
   (ak (NF (i:=2) o0.nd O O (N:=["part","new","old"]) (cap:=[i',f' 5,f' 4]) O (cz (osc:=az yT) (XN:=["count","wishes","parts","wish","old","new"]) O O (by decide +kernel)) (bV (pv 2)) (fun cl C s H fp aa=>(aG (i:=0) (show(["part","new","old"]:List C').Nodup by decide +kernel) rfl (by first|exact UL rfl|exact UK O))) (fun cl C s H fp aa=>cR) (fun cl C s H fp aa=>(C5 (bf cG (pv 0) (pv 2) (aZ _)) (pv 1) (pv 0))) (hsw:=O))))))
   (ak (aN (pv 2))))),?_⟩
  refine⟨_,O,c,O,by lia,fun g ng=>?_⟩
  have s1:ae H (upd H g (.lst (W5 c))):=ae.new ng
  have h1:upd H g (.lst (W5 c)) g=f' (.lst (nums (VH c))):=ag
  generalize upd H g (.lst (W5 c))=H1 at s1 h1 ⊢
  refine⟨_,O,l,O,⟨_,s1.Ve hl⟩,iN (K:=K) (a:=l) (xs:=xs) (fun i σ G=>∃ g v3 v4 v5,σ=[f' (.int (c:Nat)),f' (.ref l),f' (.ref g),v3,v4,v5]∧ae H G∧H g=i'∧G g=f' (.lst (nums ((ws.take i).foldl Xi (VH c)))))
   ⟨g,i',i',i',rfl,s1,ng,h1⟩ ?_ ?_ ?_⟩
  .rintro i σ G _ ⟨g,_,_,_,rfl,sg,_⟩
   exact sg.Ve hl
  .rintro i x σ G hx ⟨g,v3,v4,v5,rfl,sg,ng,hG⟩
   obtain⟨w0,lH,dw⟩:=gv hd hx
   obtain⟨t,rfl,ht⟩:=mj (sg.dt dw)
   obtain⟨i1,i2⟩:=cB w0 (Rp lH)
   have pl:=Ef (ws.take i) (VH c)
   rw[SU] at pl
   have fo:(ws.take (i + 1)).foldl Xi (VH c)=Xi ((ws.take i).foldl Xi (VH c)) w0:=by rw[cM lH,Sr];rfl
   rw[fo]
   generalize (ws.take i).foldl Xi (VH c)=now at hG pl ⊢
   dsimp only[bL]
   refine⟨_,O,_,O,t,_,_,_,O,O,ht,O,g,_,_,_,O,O,P'.of hG,E3 (by lia),?_⟩
   refine⟨_,O,_,O,t,_,_,_,O,O,ht,O,g,_,_,_,O,O,P'.of hG,E3 (by lia),?_⟩
   refine⟨_,O,g,O,⟨_,P'.of hG⟩,fun D hD=>?_⟩
   refine fq (K:=K) (a:=g) (xs:=nums now) (fun j τ G'=>∃ v1,τ=[v1,f' (.int (now.getD w0.1 0:Nat)),f' (.int (now.getD w0.2.1 0:Nat))]∧ae G G'∧G' D=f' (.lst (nums ((now.take j).map fun y=>if y=now.getD w0.2.1 0 then now.getD w0.1 0 else y)))) ⟨i',O,ae.new hD,ag⟩ ?_ ?_ ?_
   .rintro j τ G' _ ⟨v1,rfl,bT,_⟩
    exact P'.of (bT _ _ hG)
   .rintro j y τ G' hy ⟨v1,rfl,bT,cX⟩
    obtain⟨n,hn,rfl⟩:=C9 hy
    dsimp only[bL,dQ]
    rw[UH rfl]
    have ln:(nums ((now.take j).map fun y=>if y=now.getD w0.2.1 0 then now.getD w0.1 0 else y)).length<S':=by
     unfold nums
     rw[Q3,Q3,Rm,Q9]
     lia
    have AD:∀ m:Nat,m=(if n=now.getD w0.2.1 0 then now.getD w0.1 0 else n)→nums ((now.take j).map fun y=>if y=now.getD w0.2.1 0 then now.getD w0.1 0 else y)++[V.int (m:Nat)]=nums ((now.take (j + 1)).map fun y=>if y=now.getD w0.2.1 0 then now.getD w0.1 0 else y):=fun m em=>by
     rw[cM hn,Q8,em]
     unfold nums
     rw[Q8]
     rfl
    refine⟨_,O,_,O,O,_,O,?_⟩
    refine bi (fun c1=>?_) (fun c1=>?_)
    .have c2:n=now.getD w0.2.1 0:=by
      have:=Rv c1
      injection this with z
      exact Qbc z
     refine⟨_,O,_,cX,ln,_,O,du hD bT,?_⟩
     rw[ag,AD _ (UH c2).symm]
    .have c2:¬ n=now.getD w0.2.1 0:=fun z=>by
      have:=RF c1
      exact this (by rw[← z])
     refine⟨_,O,_,cX,ln,_,O,du hD bT,?_⟩
     rw[ag,AD _ (UF c2).symm]
   .rintro τ G' ⟨v1,rfl,bT,cX⟩
    rw[RX (by unfold nums;rw[Q3];exact Q7 _)] at cX
    exact⟨D,_,_,_,O,sg.trans bT,none_of sg hD,cX⟩
  .rintro σ G ⟨g,v3,v4,v5,rfl,sg,ng,hG⟩
   rw[← cN,Rt] at hG
   exact⟨_,O,k g G sg ng hG⟩
def O3 (K:R'):Sp:=fun vs H Q _=>∃ p t pl pt,vs=[.ref p,.ref t]∧P' K H p ((pl:List Int).map V.int)∧P' K H t (nums pt)∧pl.length=pt.length∧pl.length≤1000∧∀ g H',ae H H'→H g=i'→H' g=f' (.lst ((frN pl pt).map V.int))→Q (.ref g) H'
theorem P6 (T:Tx K mg a):Vd P w K mg base U8 1 "from_nought" ["places","parts"] [] (O3 K):=T.QiZ.U2 fun f fd F=>by
 refine F.ok uL (fun vs H Q E h=>?_) (fun ay A outer s H vs Q E hr h=>?_)
 .obtain⟨p,t,pl,pt,rfl,_⟩:=h
  rfl
 .obtain⟨p,t,pl,pt,rfl,hp,ht,hl,hk,k⟩:=h
  have ex:(pl.map V.int).length=(nums pt).length:=by unfold nums;rw[Q3,Q3,hl]
  have lz:(pl.zip pt).length=pl.length:=by rw[S7];lia
  have lP:∀ i x y,(pl.map V.int)[i]?=f' x→(nums pt)[i]?=f' y→∃ (u:Int) (v:Nat),x=V.int u∧y=V.int (v:Nat)∧(pl.zip pt)[i]?=f' (u,v):=fun i x y h1 h2=>by
   obtain⟨u,hu,rfl⟩:=rG h1
   obtain⟨v,hv,rfl⟩:=C9 h2
   exact⟨u,v,O,O,by rw[S6];exact⟨hu,hv⟩⟩
  refine⟨_,(ao (aW (i:=2) uL.nd O (by first|exact UL rfl|exact UK O) sk)
   (ao (ei Wb rfl (uk rfl T.Z9 (af (pv 0) (af (pv 1) ai))) (kj rfl (bo (aG (i:=3) uL.nd O (by first|exact UL rfl|exact UK O)) (bo (aG (i:=4) uL.nd O (by first|exact UL rfl|exact UK O)) fu))) (ak (rV (cI hr) (pv 2) (pv 4) (bj Lr O T.QmD QhN (af (pv 3) (af (NY (cI hr) (pv 2) (pv 4) (pv 3) ⟨O,O,O,O⟩) ai))) O)))
   (ak (aN (cF (N:=["place","part","least"]) (cap:=[i',i',f' 2]) O (cz (osc:=az yv) (XN:=["places","parts","least","place","part"]) O O (by decide +kernel)) (uk rfl T.Z9 (af (pv 0) (af (pv 1) ai))) (fun cl C s H fp aa=>(kW (K:=K) (n:=2) O O (bo (aG (i:=0) (show(["place","part","least"]:List C').Nodup by decide +kernel) rfl (by first|exact UL rfl|exact UK O)) (bo (aG (i:=1) (show(["place","part","least"]:List C').Nodup by decide +kernel) rfl (by first|exact UL rfl|exact UK O)) fu)))) (fun cl C s H fp aa=>cR) (fun cl C s H fp aa=>(br jL (pv 0) (gb (cI hr) (pv 2) (pv 1) (fun _ _=>O))))))))),?_⟩
  refine fun d nd=>?_
  have s1:ae H (upd H d (.dK [])):=ae.new nd
  have h1:upd H d (.dK []) d=f' (.dK []):=ag
  generalize upd H d (.dK [])=H1 at s1 h1 ⊢
  have AL:Wf ([]:U7):=fun p hp=>by cases hp
  refine⟨_,O,_,O,p,t,O,⟨_,s1.Ve hp⟩,⟨_,s1.Ve ht⟩,CU (K:=K) (l1:=p) (l2:=t) (xs:=pl.map V.int) (ys:=nums pt) ex (fun i σ G=>∃ v3 v4,σ=[f' (.ref p),f' (.ref t),f' (.ref d),v3,v4]∧ae H G∧G d=f' (.dK (((pl.zip pt).take i).foldl WL [])))
   ⟨i',i',rfl,s1,h1⟩ ?_ ?_ ?_⟩
  .rintro i σ G _ ⟨_,_,rfl,sg,_⟩
   exact⟨sg.Ve hp,sg.Ve ht⟩
  .rintro i x y tt σ G hx hy nt ⟨v3,v4,rfl,sg,hG⟩
   obtain⟨u,v,rfl,rfl,hz⟩:=lP i x y hx hy
   have s3:ae G (upd G tt (.tup [.int u,.int (v:Nat)])):=ae.new nt
   have h3:upd G tt (.tup [.int u,.int (v:Nat)]) tt=f' (.tup [.int u,.int (v:Nat)]):=ag
   generalize upd G tt (.tup [.int u,.int (v:Nat)])=G3 at s3 h3 ⊢
   have jN:=s3 _ _ hG
   obtain⟨o1,o2⟩:=xU ((pl.zip pt).take i) AL
   have lt:=List.length_take_le i (pl.zip pt)
   have l2:(((pl.zip pt).take i).foldl WL []).length≤1000:=by
    have:=Rm (i:=i) (l:=pl.zip pt)
    have z:([]:U7).length=0:=rfl
    lia
   have fo:((pl.zip pt).take (i + 1)).foldl WL []=WL (((pl.zip pt).take i).foldl WL []) (u,v):=by rw[cM hz,Sr];rfl
   rw[fo]
   generalize ((pl.zip pt).take i).foldl WL []=now at jN o1 l2 ⊢
   refine⟨tt,_,O,UW.of h3,O,_,_,O,_,_,O,O,?_⟩
   have gd:=o1.QaO (v:=v) jN
   refine⟨_,O,_,O,d,O,.inl ⟨now,.inl jN⟩,_,O,_,O,_,gd,u,(gI now v).getD u,?_,_,O,_,O,d,_,O,.inl ⟨now,U5 ((v:Nat):Int),jN,O,by rw[Q9];lia,O⟩,_,_,O,du nd (sg.trans s3),?_⟩
   .cases gI now v <;> rfl
   .rw[ag]
    unfold WL
    have e:(if (gI now v).getD u<u then(gI now v).getD u else u)=min u ((gI now v).getD u):=by
     by_cases c1:(gI now v).getD u<u
     .rw[UH c1]
      lia
     .rw[UF c1]
      lia
    rw[e]
  .rintro σ G ⟨v3,v4,rfl,sg,hG⟩
   have ez:(pl.map V.int).length=(pl.zip pt).length:=by rw[lz,Q3]
   rw[ez,Rt] at hG
   have hG:G d=f' (.dK (YQ pl pt)):=hG
   have wf:Wf (YQ pl pt):=(xU (pl.zip pt) AL).1
   obtain⟨W8,_⟩:=QmR pl pt
   refine⟨_,O,_,O,p,t,O,⟨_,sg.Ve hp⟩,⟨_,sg.Ve ht⟩,fun D hD=>?_⟩
   refine Ee (K:=K) (l1:=p) (l2:=t) (xs:=pl.map V.int) (ys:=nums pt) ex (fun i τ G'=>∃ v1 v2,τ=[v1,v2,f' (.ref d)]∧ae G G'∧G' D=f' (.lst ((((pl.zip pt).take i).map fun x=>x.1 - (gI (YQ pl pt) x.2).getD 0).map V.int))) ⟨i',i',O,ae.new hD,ag⟩ ?_ ?_ ?_
   .rintro i τ G' _ ⟨_,_,rfl,bT,_⟩
    exact⟨bT.Ve (sg.Ve hp),bT.Ve (sg.Ve ht)⟩
   .rintro i x y tt τ G' hx hy nt ⟨v1,v2,rfl,bT,cX⟩
    obtain⟨u,v,rfl,rfl,hz⟩:=lP i x y hx hy
    have s3:ae G' (upd G' tt (.tup [.int u,.int (v:Nat)])):=ae.new nt
    have h3:upd G' tt (.tup [.int u,.int (v:Nat)]) tt=f' (.tup [.int u,.int (v:Nat)]):=ag
    generalize upd G' tt (.tup [.int u,.int (v:Nat)])=G3 at s3 h3 ⊢
    obtain⟨m,em,_⟩:=W8 _ (Rp hz)
    have em:gI (YQ pl pt) v=f' m:=em
    have gd:=wf.QaO (v:=v) (s3 _ _ (bT _ _ hG))
    rw[em] at gd
    refine⟨tt,_,O,UW.of h3,O,_,_,O,_,_,O,O,?_⟩
    dsimp only[dQ]
    rw[UH rfl]
    refine⟨_,O,_,O,_,O,d,_,O,gd,_,_,O,O,_,s3 _ _ cX,?_,_,_,O,du hD (bT.trans s3),?_⟩
    .rw[Q3,Q3,Rm,Q9]
     lia
    .rw[ag,cM hz,Q8,Q8]
     show _=f' (HO.lst (_++[V.int (u - (gI (YQ pl pt) v).getD 0)]))
     rw[em]
     rfl
   .rintro τ G' ⟨v1,v2,rfl,bT,cX⟩
    rw[ez,Rt] at cX
    exact k D G' (sg.trans bT) (none_of sg hD) cX
end
namespace Nt
abbrev U7:=List (Key×V)
def abc:C':="abcdefghijklmnopqrstuvwxyz"
def small (c:Nat):Bool:=!(ZI abc ⟨#[c]⟩ 0 abc.length 1).isEmpty
def dr (n:C'):Bool:=decide (1≤n.length) && decide (n.length≤8) && n.cps.toList.all small
def has (kvs:U7) (n:C'):Bool:=(a8 kvs (UN n)).isSome
def iT (dh da:F') (nn:Int) (ls lm:F'):List (C'×V):=[("halves",.ref dh),("arrows_by_number",.ref da),("next_number",.int nn),("same_pairs",.ref ls),("most_bounds",.ref lm)]
theorem Lj {ls:F'}{m:Int}:aS "next_number" (.int m) (iT dh da n ls lm)=iT dh da m ls lm:=by
 have h1:¬ (("halves":C')="next_number"):=by decide +kernel
 have h2:¬ (("arrows_by_number":C')="next_number"):=by decide +kernel
 simp only[iT,aS,h1,h2,VO,WE]
structure Ar where
 num:Int
 one:C'
 other:C'
 span:Int
 weight:Int
def W9 (q:Ar):List V:=[.str q.one,.str q.other,.int q.span,.int q.weight]
def WM (q:Ar):Dt:=.tup [.int q.num,.str q.one,.str q.other,.int q.span,.int q.weight]
def rl (q:C'×C'):Dt:=.tup [.str q.1,.str q.2]
def rm (q:C'×C'×Int):Dt:=.tup [.str q.1,.str q.2.1,.int q.2.2]
def gZ (K:R') (H:Hp):List Ar→U7→Prop
 | [],kvs=>kvs=[]
 | q::qs,kvs=>∃ t r,kvs=(U5 q.num,.ref t)::r∧UW K H t (W9 q)∧gZ K H qs r
structure Rec where
 dh:F'
 da:F'
 ls:F'
 lm:F'
structure bq where
 kvs:U7
 arr:List Ar
 nn:Int
 ss:List (C'×C')
 mm:List (C'×C'×Int)
structure bF (K:R') (C:F') (H:Hp) (p:F') (r:Rec) (v:bq):Prop where
 ex:∃ dx,H p=f' (.ins C dx (iT r.dh r.da v.nn r.ls r.lm))
 hh:H r.dh=f' (.dK v.kvs)
 ha:∃ bK,H r.da=f' (.dK bK)∧gZ K H v.arr bK
 hs:∃ xs,H r.ls=f' (.lst xs)∧bv K H (v.ss.map rl) xs
 hm:∃ xs,H r.lm=f' (.lst xs)∧bv K H (v.mm.map rm) xs
 n1:r.da≠r.dh
 n2:r.ls≠r.lm
theorem Nr {n:Nat} (q:Ar):kZ (n + 1) (WM q):=by cases n <;> exact⟨trivial,trivial,trivial,trivial,trivial,trivial⟩
theorem _root_.L2.Tk.arr {K:R'}{H H':Hp} (e:Tk H H'):∀ {qs:List Ar}{kvs:U7},gZ K H qs kvs→gZ K H' qs kvs
 | [],_,h=>h
 | q::qs,_,h=>by
  obtain⟨t,r,e1,h1,h2⟩:=h
  exact⟨t,r,e1,e.VI h1,e.arr h2⟩
theorem gZ.length {K:R'}{H:Hp}:∀ {qs:List Ar}{kvs:U7},gZ K H qs kvs→qs.length=kvs.length
 | [],_,h=>by rw[show _=[] from h];rfl
 | q::qs,_,h=>by
  obtain⟨t,r,rfl,h1,h2⟩:=h
  show qs.length + 1=r.length + 1
  rw[h2.length]
theorem gZ.get {K:R'}{H:Hp}:∀ {qs:List Ar}{kvs:U7}{i:Nat}{k:Key}{x:V},gZ K H qs kvs→kvs[i]?=f' (k,x)→∃ q t,qs[i]?=f' q∧k=U5 q.num∧x=.ref t∧UW K H t (W9 q)
 | [],_,i,k,x,h,e=>by rw[show _=[] from h] at e;simp at e
 | q::qs,_,i,k,x,h,e=>by
  obtain⟨t,r,rfl,h1,h2⟩:=h
  cases i with
  | zero=>simp at e;exact⟨q,t,O,e.1.symm,e.2.symm,h1⟩
  | succ i=>exact h2.get (by simpa using e)
theorem gZ.snoc {K:R'}{H:Hp}{q:Ar}{t:F'} (ht:UW K H t (W9 q)):∀ {qs:List Ar}{kvs:U7},gZ K H qs kvs→gZ K H (qs++[q]) (kvs++[(U5 q.num,.ref t)])
 | [],_,h=>by rw[show _=[] from h];exact⟨t,[],O,ht,O⟩
 | q'::qs,_,h=>by
  obtain⟨t',r,rfl,h1,h2⟩:=h
  exact⟨t',_,O,h1,h2.snoc ht⟩
theorem bF.same {K:R'}{r:Rec}{v:bq} (n:bF K C H p r v) (e:ae H H'):bF K C H' p r v:=by
 obtain⟨⟨dx,h1⟩,h2,⟨bK,h3,h4⟩,⟨xs,h5,h6⟩,⟨ys,h7,h8⟩,n1,n2⟩:=n
 exact⟨⟨dx,e _ _ h1⟩,e _ _ h2,⟨bK,e _ _ h3,(Tk.of e).arr h4⟩,⟨xs,e _ _ h5,e.U' h6⟩,⟨ys,e _ _ h7,e.U' h8⟩,n1,n2⟩
def Kp (p:F') (r:Rec) (H H':Hp):Prop:=∀ b o,H b=f' o→b≠p→b≠r.dh→b≠r.da→b≠r.ls→b≠r.lm→H' b=f' o
theorem Kp.of {r:Rec} (e:ae H H'):Kp p r H H':=fun b o h _ _ _ _ _=>e b o h
theorem Kp.trans {r:Rec} (a:Kp p r H H1) (b:Kp p r H1 H2):Kp p r H H2:=fun c o h z1 z2 z3 z4 z5=>b c o (a c o h z1 z2 z3 z4 z5) z1 z2 z3 z4 z5
theorem Wm {a:C'}{v:V}{r:List (C'×V)}:(((a,v)::r):List (C'×V)).lookup a=f' v:=by
 rw[R6,ZE]
theorem Vl {a:C'}{v:V}{r:List (C'×V)} (h:(a == b)=K'):(((b,v)::r):List (C'×V)).lookup a=r.lookup a:=by
 rw[R6,h]
theorem ub {ls:F'}:(iT dh da n ls lm).lookup ("halves":C')=f' (.ref dh):=Wm
theorem rA {ls:F'}:(iT dh da n ls lm).lookup ("arrows_by_number":C')=f' (.ref da):=(Vl (by decide +kernel)).trans Wm
theorem QmS {ls:F'}:(iT dh da n ls lm).lookup ("next_number":C')=f' (.int n):=(Vl (by decide +kernel)).trans ((Vl (by decide +kernel)).trans Wm)
theorem ym {ls:F'}:(iT dh da n ls lm).lookup ("same_pairs":C')=f' (.ref ls):=(Vl (by decide +kernel)).trans ((Vl (by decide +kernel)).trans ((Vl (by decide +kernel)).trans Wm))
theorem zH {ls:F'}:(iT dh da n ls lm).lookup ("most_bounds":C')=f' (.ref lm):=(Vl (by decide +kernel)).trans ((Vl (by decide +kernel)).trans ((Vl (by decide +kernel)).trans ((Vl (by decide +kernel)).trans Wm)))
section
variable {K:R'}
def Kc:Sp:=fun vs H Q _=>∃ n:C',vs=[.str n]∧n.length≤1000∧∀ H',ae H H'→Q (.bl (dr n)) H'
theorem Kd (T:Tx K mg a):Vd P w K mg base U8 1 "is_name" ["name"] [] Kc:=T.QiN.U2 fun f fd F=>by
 refine F.ok OO (fun vs H Q E h=>?_) (fun ay A outer s H vs Q E hr h=>?_)
 .obtain⟨n,rfl,_⟩:=h
  rfl
 .obtain⟨n,rfl,hn,k⟩:=h
  have hz:n.length≤S':=RT hn (by rw[Q9];decide)
  refine⟨_,(ao (aU (PW.pt (ig (gi (eG (bj yc O T.Wl fX (af (pv 0) (af (uH O T.Qb7 xV) ai))))) (ig (bf pD (bj ue O T.VP dm (af (pv 0) ai)) au (aZ _)) (kU (bf rW (bj ue O T.VP dm (af (pv 0) ai)) (fZ O T.Qjy) (aZ _)))))) (ak (aN nH)) aQ)
   (ak (aN (bj rB rfl T.Z8 rZ (af (cF (N:=["sign"]) (cap:=[i']) O (cz (osc:=az xZ) (XN:=["name"]) O O (by decide +kernel)) (Fj (pv 0)) (fun cl C s H fp aa=>(aG (i:=0) (show(["sign"]:List C').Nodup by decide +kernel) rfl (by first|exact UL rfl|exact UK O))) (fun cl C s H fp aa=>cR) (fun cl C s H fp aa=>(kh Dp (pv 0) (EW O T.QjF) (by with_unfolding_all rfl)))) ai))))),?_⟩
  refine⟨_,O,_,_,_,_,_,O,O,.str _,T.QjP,B',O,?_⟩
  refine dP O ?_
  refine⟨_,O,_,O,hz,_,_,O,O,_,O,?_⟩
  refine bi (fun c1=>?_) (fun c1=>?_)
  .have e:dr n=K':=by
    have:(n.length:Int)<1:=Rv c1
    simp only[dr,Sj,R3]
    exact .inl (.inl (by lia))
   refine eh ?_
   show Q (.bl K') _
   rw[← e]
   exact k H (ae.refl H)
  .refine⟨_,O,_,O,hz,_,_,O,O,_,O,?_⟩
   have h1:1≤n.length:=by
    have:¬ (n.length:Int)<1:=RF c1
    lia
   refine bi (fun c2=>?_) (fun c2=>?_)
   .have e:dr n=K':=by
     have:(8:Int)<n.length:=Rv c2
     simp only[dr,Sj,R3]
     exact .inl (.inr (by lia))
    show Q (.bl K') _
    rw[← e]
    exact k H (ae.refl H)
   .have h2:n.length≤8:=by
     have:¬ (8:Int)<n.length:=RF c2
     lia
    refine⟨_,O,n,O,fun D hD=>?_⟩
    refine CV (x:=n) (fun i τ H'=>∃ v,τ=[v]∧ae H H'∧H' D=f' (.lst (((n.cps.toList.take i).map small).map V.bl))) ⟨i',rfl,ae.new hD,ag⟩ ?_ ?_
    .rintro i c τ H' hc ⟨v,rfl,sm,hl⟩
     dsimp only[bL,dQ]
     rw[UH rfl]
     refine⟨_,O,_,_,O,O,_,hl,?_,_,O,?_,?_⟩
     .rw[Q3,Q3,Rm,Q9]
      have:n.cps.toList.length=n.length:=by rw[SI];rfl
      lia
     .intro b o e
      rw[aj (aq e hD)]
      exact sm b o e
     .have jk:n.cps.toList[i]?=f' c:=by rw[SW];exact hc
      have ht:n.cps.toList.take (i + 1)=n.cps.toList.take i++[c]:=by
       rw[TQ,jk]
       rfl
      rw[ag,ht,Q8,Q8]
      rfl
    .rintro τ H' ⟨v,rfl,sm,hl⟩
     refine⟨D,(n.cps.toList.take n.cps.size).map small,O,P'.of hl,?_⟩
     have e:(List.map small (n.cps.toList.take n.cps.size)).all id=dr n:=by
      rw[RX (by rw[SI];exact Q7 _),SX]
      simp only[dr,Rj h1,Rj h2,Uo]
      rfl
     rw[e]
     exact k H' sm
def Nv:Sp:=fun vs H Q _=>∃ i,vs=[.int i]∧Q (.bl B') H
theorem CS (T:Tx K mg a):Vd P w K mg base U8 1 "is_whole" ["number"] [] Nv:=T.QiO.U2 fun f fd F=>by
 refine F.ok OT (fun vs H Q E h=>?_) (fun ay A outer s H vs Q E hr h=>?_)
 .obtain⟨n,rfl,_⟩:=h
  rfl
 .obtain⟨i,rfl,q⟩:=h
  refine⟨_,(ak (aN (vd (bj yc O T.Wl fX (af (pv 0) (af (uH O T.Qb6 xI) ai))) (sv (QgJ (bj yc O T.Wl fX (af (pv 0) (af (uH O T.QmB Og) ai)))))))),?_⟩
  refine⟨_,O,_,_,_,_,_,O,O,.int _,T.QjQ,B',O,?_⟩
  refine eh ?_
  exact⟨_,O,_,_,_,_,_,O,O,.int _,T.QjR,K',O,q⟩
def Nz:Sp:=fun vs H Q _=>∃ i l g,vs=[.int i,.int l,.int g]∧Q (.bl (decide (l≤i) && decide (i≤g))) H
theorem rE (T:Tx K mg a):Vd P w K mg base U8 2 "in_range" ["number","least","greatest"] [] Nz:=T.QiP.U2 fun f fd F=>by
 have cr:=CS (P:=P) (w:=w) (base:=base) T
 refine F.ok Pd (fun vs H Q E h=>?_) (fun ay A outer s H vs Q E hr h=>?_)
 .obtain⟨n,_,_,rfl,_⟩:=h
  rfl
 .obtain⟨i,l,g,rfl,q⟩:=h
  refine⟨_,(ak (aN (vd (bC cr (hr.mono (by decide)) rfl (af (pv 0) ai)) (vd (kh o7 (pv 0) (pv 1) (aZ _)) (sv (kh Qdd (pv 0) (pv 2) (aZ _))))))),?_⟩
  refine⟨_,O,_,O,B',O,?_⟩
  refine eh ?_
  refine⟨_,O,_,O,_,_,O,O,_,O,?_⟩
  refine bi (fun c=>?_) (fun c=>?_)
  .refine⟨_,O,_,O,_,_,O,O,?_⟩
   rw[c] at q
   exact q
  .rw[c] at q
   exact q
inductive Due where
 | name | taken | number | many | done
theorem KL {x y:F'}{o:HO}:upd H x o y=i'↔y≠x∧H y=i':=by
 unfold upd
 by_cases h:y=x <;> simp[h]
theorem nR {x y:F'}{o:HO}:upd H x o y=if y=x then f' o else H y:=rfl
theorem NI {ls:F'}:aS "most_bounds" (.ref lm) (aS "same_pairs" (.ref ls) (aS "next_number" (.int 0) (aS "arrows_by_number" (.ref da) (aS "halves" (.ref dh) []))))=iT dh da 0 ls lm:=by
 have h1:¬ (("halves":C')="arrows_by_number"):=by decide +kernel
 have h2:¬ (("halves":C')="next_number"):=by decide +kernel
 have h3:¬ (("halves":C')="same_pairs"):=by decide +kernel
 have h4:¬ (("halves":C')="most_bounds"):=by decide +kernel
 have h5:¬ (("arrows_by_number":C')="next_number"):=by decide +kernel
 have h6:¬ (("arrows_by_number":C')="same_pairs"):=by decide +kernel
 have h7:¬ (("arrows_by_number":C')="most_bounds"):=by decide +kernel
 have h8:¬ (("next_number":C')="same_pairs"):=by decide +kernel
 have h9:¬ (("next_number":C')="most_bounds"):=by decide +kernel
 have h0:¬ (("same_pairs":C')="most_bounds"):=by decide +kernel
 simp only[aS,h1,h2,h3,h4,h5,h6,h7,h8,h9,h0,VO]
 rfl
def VM:bq:=⟨[],[],0,[],[]⟩
def KN (K:R') (C:F'):Sp:=fun vs H Q _=>∃ p dx,vs=[.ref p]∧H p=f' (.ins C dx [])∧∀ r H',(∀ b o,H b=f' o→b≠p→H' b=f' o)→(∀ b o,H b=f' o→b≠r.dh∧b≠r.da∧b≠r.ls∧b≠r.lm)→bF K C H' p r VM→Q .UO H'
theorem yi (T:Tx K mg a):nF P w K mg base U8 1 a.Net "Net" ["self"] (KN K a.Net):=T.YL.U2 fun f fd F=>by
 refine F.ok Pq (fun vs H Q E h=>?_) (fun ay A outer s H vs Q E hr h=>?_)
 .obtain⟨p,dx,rfl,_⟩:=h
  rfl
 .obtain⟨p,dx,rfl,hp,k⟩:=h
  refine⟨_,(ao (eA (pv 0) sk O)
   (ao (eA (pv 0) sk rfl)
   (ao (eA (pv 0) au rfl)
   (ao (eA (pv 0) (bY ai) rfl)
   (ak (eA (pv 0) (bY ai) rfl)))))),?_⟩
  refine fun d1 n1=>⟨_,O,p,a.Net,dx,[],O,by rw[aj (aq hp n1)];exact hp,T.Va,T.Z2,by decide,?_⟩
  refine fun d2 n2=>⟨_,O,p,a.Net,dx,_,O,by rw[aj (aq ag n2)];exact ag,T.Va,T.Zk,by show 1<1000;decide,?_⟩
  refine⟨_,O,p,a.Net,dx,_,O,ag,T.Va,T.QbQ,by show 2<1000;decide,?_⟩
  refine⟨by show 0≤S';decide,fun l1 n3=>⟨_,O,p,a.Net,dx,_,O,by rw[aj (aq ag n3)];exact ag,T.Va,T.QaG,by show 3<1000;decide,?_⟩⟩
  refine⟨by show 0≤S';decide,fun l2 n4=>⟨_,O,p,a.Net,dx,_,O,by rw[aj (aq ag n4)];exact ag,T.Va,T.QaF,by show 4<1000;decide,?_⟩⟩
  have p1:p≠d1:=aq hp n1
  simp only[KL] at n2 n3 n4
  show Q .UO _
  rw[NI]
  have ne:∀ b o,H b=f' o→∀ c,H c=i'→b≠c:=fun b o e c h z=>by rw[z,h] at e;cases e
  refine k ⟨d1,d2,l1,l2⟩ _ (fun b o e hb=>?_) (fun b o e=>⟨ne b o e _ n1,ne b o e _ n2.2.2,ne b o e _ n3.2.2.2.2.2,ne b o e _ n4.2.2.2.2.2.2.2⟩) ⟨⟨dx,ag⟩,?_,⟨[],?_,O⟩,⟨[],?_,O⟩,⟨[],?_,O⟩,n2.2.1,UM n4.2.1⟩
  .simp[nR,hb,ne b o e _ n1,ne b o e _ n2.2.2,ne b o e _ n3.2.2.2.2.2,ne b o e _ n4.2.2.2.2.2.2.2,e]
  .show _=f' (HO.dK [])
   simp[nR,UM p1,UM n2.2.1,UM n3.2.2.2.2.1,UM n4.2.2.2.2.2.2.1]
  .simp[nR,n2,UM n3.2.2.1,UM n4.2.2.2.2.1]
  .simp[nR,n3,UM n4.2.1]
  .simp[nR,n4]
def uo (C:F') (f:C'):Sp:=fun vs H Q _=>∃ x t y,vs=[.ref x,y]∧H x=f' (cy C t x i')∧∀ dx,H dx=i'→Q .UO (upd (upd H dx (.xd [(f,y)])) x (cy C t x (f' dx)))
theorem yx (T:Tx K mg a):lW P w K mg base U8 1 a.NoPoint "NoPoint" ["self","name"] (uo a.NoPoint "name"):=T.QiF.U2 fun f fd F=>by
 refine F.ok NW (fun vs H Q E h=>?_) (fun ay A outer s H vs Q E hr h=>?_)
 .obtain⟨x,t,y,rfl,_⟩:=h
  rfl
 .obtain⟨x,t,y,rfl,hx,k⟩:=h
  refine⟨_,(ak (uU (pv 0) (pv 1) O)),?_⟩
  exact⟨_,O,_,O,x,a.NoPoint,t,O,hx,T.QiG,fun dx nd=>k dx nd⟩
def jB (kvs:U7):List V:=kvs.map fun kv=>kV kv.1
def Qj (K:R') (C:F'):Sp:=fun vs H Q _=>∃ p r v,vs=[.ref p]∧bF K C H p r v∧∀ l,H l=i'→Q (.ref l) (upd H l (.lst (jB v.kvs)))
theorem py (T:Tx K mg a):dJ P w K mg base U8 1 a.Net "points" ["self"] [] (Qj K a.Net):=T.WV.U2 fun f fd F=>by
 refine F.ok ME (fun vs H Q E h=>?_) (fun ay A outer s H vs Q E hr h=>?_)
 .obtain⟨p,r,v,rfl,_⟩:=h
  rfl
 .obtain⟨p,r,v,rfl,N,k⟩:=h
  obtain⟨dx,hp⟩:=N.ex
  refine⟨_,(ak (aN (mh K3 O T.QaN tL (af (bA (pv 0) O) ai)))),?_⟩
  exact⟨_,O,p,a.Net,dx,_,_,O,hp,T.Va,T.Z2,ub,r.dh,v.kvs,O,N.hh,fun l hl=>k l hl⟩
inductive Er where
 | name | taken | point (n:C') | alone | number | many | such (i:Int)
def kX (a:Vg) (E:XK):Er→Hp→Prop
 | .name,H=>E (.ref a.NoName) i' H
 | .taken,H=>E (.ref a.Taken) i' H
 | .point n,H=>∀ dx,H dx=f' (.xd [("name",.str n)])→E (.ref a.NoPoint) (f' dx) H
 | .alone,H=>E (.ref a.Alone) i' H
 | .number,H=>E (.ref a.NoNumber) i' H
 | .many,H=>E (.ref a.TooMany) i' H
 | .such i,H=>∀ dx,H dx=f' (.xd [("number",.int i)])→E (.ref a.NoSuch) (f' dx) H
def df (kvs:U7) (n:C') (h:Int):Option Er:=
 if dr n=K' then f' .name else if has kvs n=B' then f' .taken else if h<0∨50<h then f' .number else if 20≤kvs.length then f' .many else i'
def yU (K:R') (a:Vg):Sp:=fun vs H Q E=>∃ p r v n h,vs=[.ref p,.str n,.int h]∧n.length≤1000∧bF K a.Net H p r v∧v.kvs.length≤1000 ∧
 (∀ er,df v.kvs n h=f' er→∀ H',ae H H'→kX a E er H')∧(df v.kvs n h=i'→∀ H',Kp p r H H'→bF K a.Net H' p r { v with kvs:=v.kvs++[(UN n,.int h)] }→Q .UO H')
theorem C4 (T:Tx K mg a) (f:F') (fd:WO) (F:gu K "put_point" "Net.put_point" va f fd):cE P w K mg base (Vn P w) 3 f fd ["self","name","half"] (yU K a):=by
 have iH:=Kd (P:=P) (w:=w) (base:=base) T
 have aE:=rE (P:=P) (w:=w) (base:=base) T
 refine F.VS NM (fun vs H Q E h=>?_) (fun ay A outer s H vs Q E hr h=>?_)
 .obtain⟨p,r,v,n,h,rfl,_⟩:=h
  rfl
 .obtain⟨p,r,v,n,h,rfl,hn,N,hk,k1,k2⟩:=h
  refine⟨_,(ao (aU (gi (eG (bC iH (hr.mono (by decide)) rfl (af (pv 1) ai)))) (ak (iw aV T.Qif rfl T.QdI)) aQ)
   (ao (aU (ko (Qhq (cI hr) (pv 1) (bA (pv 0) rfl))) (ak (iw aV T.Qih rfl T.QdJ)) aQ)
   (ao (aU (gi (eG (bC aE (hr.mono (by decide)) rfl (af (pv 2) (af au (af (fZ rfl T.QjG) ai)))))) (ak (iw aV T.QbO rfl T.QaD)) aQ)
   (ao (aU (bf o7 (bj Dv rfl T.VP dm (af (bA (pv 0) rfl) ai)) (fZ rfl T.QjD) (aZ _)) (ak (iw aV T.QaE rfl T.Z1)) aQ)
   (ak (rV (cI hr) (bA (pv 0) rfl) (pv 1) (pv 2) rfl)))))),?_⟩
  refine⟨_,O,n,O,hn,fun H1 s1=>⟨_,O,?_⟩⟩
  have N1:=N.same s1
  obtain⟨dx,hp⟩:=N1.ex
  refine bi (fun c=>?_) (fun c=>?_)
  .have c':dr n=K':=by simpa using c
   exact⟨by show 0≤S';decide,k1 .name (by simp only[df,UH c']) H1 s1⟩
  have c1:¬ dr n=K':=by
   have:dr n=B':=by simpa using c
   rw[this];decide
  refine⟨_,O,_,O,p,a.Net,dx,_,_,O,hp,T.Va,T.Z2,ub,r.dh,_,O,ci.k (k:=UN n) N1.hh,_,O,?_⟩
  refine bi (fun c=>?_) (fun c=>?_)
  .have c':has v.kvs n=B':=c
   exact⟨by show 0≤S';decide,k1 .taken (by simp only[df,UF c1,UH c']) H1 s1⟩
  have c2:¬ has v.kvs n=B':=by rw[show has v.kvs n=K' from c];decide
  refine⟨_,O,h,0,50,O,_,O,?_⟩
  refine bi (fun c=>?_) (fun c=>?_)
  .have c':h<0∨50<h:=by
    simp only[So,Sj,R3] at c
    lia
   exact⟨by show 0≤S';decide,k1 .number (by simp only[df,UF c1,UF c2,UH c']) H1 s1⟩
  have c3:¬ (h<0∨50<h):=by
   simp only[Tc,Rn,Sq] at c
   lia
  refine⟨_,O,p,a.Net,dx,_,_,O,hp,T.Va,T.Z2,ub,r.dh,v.kvs,O,N1.hh,_,_,O,O,_,O,?_⟩
  refine bi (fun c=>?_) (fun c=>?_)
  .have c':20≤v.kvs.length:=by
    have:(20:Int)≤v.kvs.length:=Rv c
    lia
   exact⟨by show 0≤S';decide,k1 .many (by simp only[df,UF c1,UF c2,UF c3,UH c']) H1 s1⟩
  have c4:¬ 20≤v.kvs.length:=by
   have:¬ (20:Int)≤v.kvs.length:=RF c
   lia
  refine⟨_,O,_,O,p,a.Net,dx,_,_,O,hp,T.Va,T.Z2,ub,_,O,r.dh,_,O,pB.k (k:=UN n) N1.hh (by rw[Q9];lia),?_⟩
  show Q .UO _
  have e:a8 v.kvs (UN n)=i':=by
   have:(a8 v.kvs (UN n)).isSome=K':=c2 |> fun z=>by simpa [has] using z
   simpa using this
  rw[sy (.int h) e]
  refine k2 (by simp only[df,UF c1,UF c2,UF c3,UF c4]) _ (fun b o q _ z2 _ _ _=>by rw[aj z2];exact s1 _ _ q) ?_
  obtain⟨_,h2,⟨bK,h3,h4⟩,⟨xs,h5,h6⟩,⟨ys,h7,h8⟩,n1,n2⟩:=N1
  have tk:Tk H1 (upd H1 r.dh (.dK (v.kvs++[(UN n,.int h)]))):=Tk.upd h2 rfl
  exact⟨⟨dx,by rw[aj (bN hp h2 (by intro z;cases z))];exact hp⟩,ag,⟨bK,by rw[aj n1];exact h3,tk.arr h4⟩,⟨xs,by rw[aj (bN h5 h2 (by intro z;cases z))];exact h5,tk.U' (cu (fun _=>O) _) h6⟩,
   ⟨ys,by rw[aj (bN h7 h2 (by intro z;cases z))];exact h7,tk.U' (cu (fun _=>O) _) h8⟩,n1,n2⟩
theorem Cq (T:Tx K mg a):dJ P w K mg base (Vn P w) 3 a.Net "put_point" ["self","name","half"] [] (yU K a):=T.Zm.U2 fun f fd F=>C4 T f fd F
def QmT (K:R') (a:Vg):Sp:=fun vs H Q E=>∃ p r v n,vs=[.ref p,.str n]∧bF K a.Net H p r v∧(has v.kvs n=B'→∀ H',ae H H'→Q .UO H') ∧
 (has v.kvs n=K'→∀ H',ae H H'→kX a E (.point n) H')
theorem FT (n:C'):∀ kvs:U7,XZ (.str n) (jB kvs)=has kvs n
 | []=>rfl
 | (k,v)::r=>by
  have ih:=FT n r
  show(WK (kV k) (.str n) || XZ (.str n) (jB r))=has ((k,v)::r) n
  rw[ih]
  cases k with
  | inl i=>
   have:¬ (U5 i:Key)=UN n:=by intro z;cases z
   unfold has
   rw[cw (p:=(U5 i,v)) this]
   rfl
  | inr m=>
   by_cases h:m=n
   .subst h
    unfold has
    rw[di (p:=(UN m,v)) rfl]
    simp[kV,WK]
   .have:¬ (UN m:Key)=UN n:=by intro z;cases z;exact h rfl
    unfold has
    rw[cw (p:=(UN m,v)) this]
    simp[kV,WK,h]
theorem Ff:∀ kvs:U7,(jB kvs).all jb=B'
 | []=>rfl
 | (k,v)::r=>by
  show(jb (kV k) && (jB r).all jb)=B'
  rw[Ff r]
  cases k <;> rfl
theorem Qk (T:Tx K mg a):dJ P w K mg base (Vn P w) 3 a.Net "need_point" ["self","name"] [] (QmT K a):=T.QaJ.U2 fun f fd F=>by
 have WV:=py (P:=P) (w:=w) (base:=base) T
 have bD:=yx (P:=P) (w:=w) (base:=base) T
 refine F.VS Ng (fun vs H Q E h=>?_) (fun ay A outer s H vs Q E hr h=>?_)
 .obtain⟨p,r,v,n,rfl,_⟩:=h
  rfl
 .obtain⟨p,r,v,n,rfl,N,k1,k2⟩:=h
  obtain⟨dx,hp⟩:=N.ex
  refine⟨_,(ak (aU (bf MN (pv 1) (jj (pv 0) T.Va WV (hr.mono (by decide))) (by with_unfolding_all rfl)) (ak (j7 aV bD (hr.mono (by decide)) rfl (af (pv 1) ai))) aQ)),?_⟩
  refine⟨_,O,_,O,p,dx,_,O,hp,by rfl,p,r,v,O,N,fun l hl=>⟨l,_,O,.inl (P'.of ag),O,Ff v.kvs,_,O,?_⟩⟩
  rw[FT]
  refine bi (fun c=>?_) (fun c=>?_)
  .have c':has v.kvs n=K':=by simpa using c
   refine⟨_,O,by show 1≤S';decide,fun x t hx=>⟨x,t,_,O,ag,fun d nd=>⟨O,f' d,ag,?_⟩⟩⟩
   have xd:d≠x:=fun z=>by rw[z,ag] at nd;cases nd
   have e:del (upd (upd (upd (upd H l (.lst (jB v.kvs))) x (cy a.NoPoint t x i')) d (.xd [("name",.str n)])) x (cy a.NoPoint t x (f' d))) x=upd (upd H l (.lst (jB v.kvs))) d (.xd [("name",.str n)]):=by
    funext b
    unfold del
    by_cases h1:b=x
    .subst h1
     rw[UH rfl,aj (UM xd),hx]
    .rw[UF h1,aj h1]
     by_cases h2:b=d
     .subst h2;rw[ag,ag]
     .rw[aj h2,aj h1,aj h2]
   show E _ _ _
   rw[e]
   have iA:upd H l (.lst (jB v.kvs)) d=i':=by rw[aj xd] at nd;exact nd
   exact k2 c' _ ((ae.new hl).trans (ae.new iA)) d ag
  .have c':has v.kvs n=B':=by simpa using c
   exact k1 c' _ (ae.new hl)
end
section
variable {K:R'}
theorem CN  (h:UW K H q [.str o,.str t]):VC K H (rl (o,t)) (.ref q):=⟨q,_,O,h,_,_,O,O,_,_,O,O,O⟩
theorem Fl  (h:UW K H q [.str o,.str t,.int n]):VC K H (rm (o,t,n)) (.ref q):=⟨q,_,O,h,_,_,O,O,_,_,O,O,_,_,O,O,O⟩
theorem yk {x:Ar} (h:UW K H q (.int x.num::W9 x)):VC K H (WM x) (.ref q):=⟨q,_,O,h,_,_,O,O,_,_,O,O,_,_,O,O,_,_,O,O,_,_,O,O,O⟩
theorem DB  (h:VC K H (rl (o,t)) x):∃ q,x=.ref q∧UW K H q [.str o,.str t]:=by
 obtain⟨q,xs,rfl,h1,y1,xB,rfl,rfl,y2,sY,rfl,rfl,h2⟩:=h
 rw[show sY=[] from h2] at h1
 exact⟨q,O,h1⟩
theorem Ew  (h:VC K H (rm (o,t,n)) x):∃ q,x=.ref q∧UW K H q [.str o,.str t,.int n]:=by
 obtain⟨q,xs,rfl,h1,y1,xB,rfl,rfl,y2,sY,rfl,rfl,y3,wo,rfl,rfl,h2⟩:=h
 rw[show wo=[] from h2] at h1
 exact⟨q,O,h1⟩
def two (kvs:U7) (o t:C'):Option Er:=
 if has kvs o=K' then f' (.point o) else if has kvs t=K' then f' (.point t) else if o=t then f' .alone else i'
def QmU (K:R') (a:Vg):Sp:=fun vs H Q E=>∃ p r v o t,vs=[.ref p,.str o,.str t]∧bF K a.Net H p r v∧(two v.kvs o t=i'→∀ H',ae H H'→Q .UO H') ∧
 (∀ er,two v.kvs o t=f' er→∀ H',ae H H'→kX a E er H')
theorem zQ (T:Tx K mg a):dJ P w K mg base (Vn P w) 4 a.Net "need_two_points" ["self","one","other"] [] (QmU K a):=T.YN.U2 fun f fd F=>by
 have QaJ:=Qk (P:=P) (w:=w) (base:=base) T
 refine F.VS J7 (fun vs H Q E h=>?_) (fun ay A outer s H vs Q E hr h=>?_)
 .obtain⟨p,r,v,o,t,rfl,_⟩:=h
  rfl
 .obtain⟨p,r,v,o,t,rfl,N,k1,k2⟩:=h
  obtain⟨dx,hp⟩:=N.ex
  refine⟨_,(ao (bp (eu (pv 0) T.Va QaJ aV (hr.mono (by decide)) (af (pv 1) ai)))
   (ao (bp (eu (pv 0) T.Va QaJ aV (hr.mono (by decide)) (af (pv 2) ai)))
   (ak (aU (bf cG (pv 1) (pv 2) (aZ _)) (ak (iw aV T.Qij rfl T.QdK)) aQ)))),?_⟩
  refine⟨_,O,p,dx,_,O,hp,by rfl,_,O,p,r,v,o,O,N,fun c1 H1 s1=>?_,fun c=>k2 _ (by simp only[two,UH c])⟩
  have wY:¬ has v.kvs o=K':=by rw[c1];decide
  refine⟨_,O,p,dx,_,O,s1 _ _ hp,by rfl,_,O,p,r,v,t,O,N.same s1,fun c2 H2 s2=>?_,fun c H2 s2=>k2 _ (by simp only[two,UF wY,UH c]) H2 (s1.trans s2)⟩
  have AU:¬ has v.kvs t=K':=by rw[c2];decide
  refine⟨_,O,_,O,O,_,O,?_⟩
  refine bi (fun c=>?_) (fun c=>?_)
  .have c3:o=t:=by simpa using c
   exact⟨by show 0≤S';decide,k2 .alone (by simp only[two,UF wY,UF AU,UH c3]) H2 (s1.trans s2)⟩
  .have c3:¬ o=t:=by simpa using c
   exact k1 (by simp only[two,UF wY,UF AU,UF c3]) H2 (s1.trans s2)
def bad:Option Int→Bool
 | none=>K'
 | some n=>decide (n<0) || decide (99<n)
def lim (kvs:U7) (m:Nat) (o t:C') (nh:Option Int):Option Er:=
 match two kvs o t with
 | some er=>f' er
 | none=>if bad nh=B' then f' .number else if 20≤m then f' .many else i'
theorem uZ {kvs:U7}{er:Er} (h:two kvs o t=f' er):lim kvs m o t nh=f' er:=by unfold lim;rw[h]
theorem Dw {kvs:U7} (h:two kvs o t=i'):lim kvs m o t nh=if bad nh=B' then f' .number else if 20≤m then f' .many else i':=by unfold lim;rw[h]
def QmV (K:R') (a:Vg):Sp:=fun vs H Q E=>∃ p r v o t,vs=[.ref p,.str o,.str t]∧bF K a.Net H p r v∧v.ss.length≤1000 ∧
 (lim v.kvs v.ss.length o t i'=i'→∀ H',Kp p r H H'→bF K a.Net H' p r { v with ss:=v.ss++[(o,t)] }→Q .UO H') ∧
 (∀ er,lim v.kvs v.ss.length o t i'=f' er→∀ H',ae H H'→kX a E er H')
theorem De (T:Tx K mg a):dJ P w K mg base (Vn P w) 5 a.Net "put_same" ["self","one","other"] [] (QmV K a):=T.Z6.U2 fun f fd F=>by
 have YN:=zQ (P:=P) (w:=w) (base:=base) T
 refine F.VS J4 (fun vs H Q E h=>?_) (fun ay A outer s H vs Q E hr h=>?_)
 .obtain⟨p,r,v,o,t,rfl,_⟩:=h
  rfl
 .obtain⟨p,r,v,o,t,rfl,N,hk,k1,k2⟩:=h
  obtain⟨dx,hp⟩:=N.ex
  refine⟨_,(ao (bp (eu (pv 0) T.Va YN aV (hr.mono (by decide)) (af (pv 1) (af (pv 2) ai))))
   (ao (aU (bf o7 (bj eZ rfl T.VP dm (af (bA (pv 0) rfl) ai)) (fZ rfl T.QjE) (aZ _)) (ak (iw aV T.QaE rfl T.Z1)) aQ)
   (ak (bp (ej V5 Wo Wy fS (bA (pv 0) rfl) (af (gk (af (pv 1) (af (pv 2) ai))) ai)))))),?_⟩
  refine⟨_,O,p,dx,_,O,hp,by rfl,_,O,_,O,p,r,v,o,t,O,N,fun c1 H1 s1=>?_,fun er c=>k2 er (uZ c)⟩
  rw[Dw c1] at k1 k2
  have N1:=N.same s1
  obtain⟨xs,h5,h6⟩:=N1.hs
  have aC:=s1 _ _ hp
  have hl:xs.length=v.ss.length:=by rw[← h6.length,Q3]
  refine⟨_,O,p,a.Net,dx,_,_,O,aC,T.Va,T.QaG,ym,r.ls,xs,O,.inl (P'.of h5),_,_,O,O,_,O,?_⟩
  refine bi (fun c=>?_) (fun c=>?_)
  .have c':20≤v.ss.length:=by
    have:(20:Int)≤xs.length:=Rv c
    lia
   exact⟨by show 0≤S';decide,k2 .many (by rw[UF (show ¬ bad i'=B' by decide),UH c']) H1 s1⟩
  have c':¬ 20≤v.ss.length:=by
   have:¬ (20:Int)≤xs.length:=RF c
   lia
  refine⟨_,O,p,a.Net,dx,_,_,O,aC,T.Va,T.QaG,ym,.inl ⟨O,_,P'.of h5⟩,_,O,_,O,(by show 2≤S';decide),fun q nq=>?_⟩
  have s2:ae H1 (upd H1 q (.tup [.str o,.str t])):=ae.new nq
  have hq:UW K (upd H1 q (.tup [.str o,.str t])) q [.str o,.str t]:=UW.of ag
  generalize upd H1 q (.tup [.str o,.str t])=H2 at s2 hq ⊢
  refine⟨r.ls,xs,_,O,O,s2 _ _ h5,by rw[Q9];lia,?_⟩
  refine k1 (by rw[UF (show ¬ bad i'=B' by decide),UF c']) _ (fun b u e _ _ _ z4 _=>by rw[aj z4];exact s2 _ _ (s1 _ _ e)) ?_
  obtain⟨⟨js,dz⟩,h2,⟨bK,h3,h4⟩,⟨Gj,kN,Ia⟩,⟨ys,h7,h8⟩,n1,n2⟩:=N1.same s2
  have tk:Tk H2 (upd H2 r.ls (.lst (xs++[.ref q]))):=Tk.upd kN rfl
  exact⟨⟨js,by rw[aj (bN dz kN (by intro z;cases z))];exact dz⟩,by rw[aj (bN h2 kN (by intro z;cases z))];exact h2,⟨bK,by rw[aj (bN h3 kN (by intro z;cases z))];exact h3,tk.arr h4⟩,
   ⟨_,ag,by rw[Q8];exact bv.snoc (CN (tk.VI hq)) (tk.U' (cu (fun _=>O) _) (s2.U' h6))⟩,⟨ys,by rw[aj (UM n2)];exact h7,tk.U' (cu (fun _=>O) _) h8⟩,n1,n2⟩
def QmW (K:R') (a:Vg):Sp:=fun vs H Q E=>∃ p r v o t n,vs=[.ref p,.str o,.str t,.int n]∧bF K a.Net H p r v∧v.mm.length≤1000 ∧
 (lim v.kvs v.mm.length o t (f' n)=i'→∀ H',Kp p r H H'→bF K a.Net H' p r { v with mm:=v.mm++[(o,t,n)] }→Q .UO H') ∧
 (∀ er,lim v.kvs v.mm.length o t (f' n)=f' er→∀ H',ae H H'→kX a E er H')
theorem NK (T:Tx K mg a):dJ P w K mg base (Vn P w) 5 a.Net "put_most" ["self","one","other","number"] [] (QmW K a):=T.QbV.U2 fun f fd F=>by
 have YN:=zQ (P:=P) (w:=w) (base:=base) T
 have aE:=rE (P:=P) (w:=w) (base:=base) T
 refine F.VS Pw (fun vs H Q E h=>?_) (fun ay A outer s H vs Q E hr h=>?_)
 .obtain⟨p,r,v,o,t,n,rfl,_⟩:=h
  rfl
 .obtain⟨p,r,v,o,t,n,rfl,N,hk,k1,k2⟩:=h
  obtain⟨dx,hp⟩:=N.ex
  refine⟨_,(ao (bp (eu (pv 0) T.Va YN aV (hr.mono (by decide)) (af (pv 1) (af (pv 2) ai))))
   (ao (aU (gi (eG (bC aE (hr.mono (by decide)) rfl (af (pv 3) (af au (af (fZ rfl T.Qju) ai)))))) (ak (iw aV T.QbO rfl T.QaD)) aQ)
   (ao (aU (bf o7 (bj eZ rfl T.VP dm (af (bA (pv 0) rfl) ai)) (fZ rfl T.QjC) (aZ _)) (ak (iw aV T.QaE rfl T.Z1)) aQ)
   (ak (bp (ej V5 Wo Wy fS (bA (pv 0) rfl) (af (gk (af (pv 1) (af (pv 2) (af (pv 3) ai)))) ai))))))),?_⟩
  refine⟨_,O,p,dx,_,O,hp,by rfl,_,O,_,O,p,r,v,o,t,O,N,fun c1 H1 s1=>?_,fun er c=>k2 er (uZ c)⟩
  rw[Dw c1] at k1 k2
  have N1:=N.same s1
  obtain⟨xs,h5,h6⟩:=N1.hm
  have aC:=s1 _ _ hp
  have hl:xs.length=v.mm.length:=by rw[← h6.length,Q3]
  refine⟨_,O,n,0,99,O,_,O,?_⟩
  refine bi (fun c=>?_) (fun c=>?_)
  .have c':bad (f' n)=B':=by
    simp only[So,Sj,R3] at c
    simp only[bad,SO,Sq]
    lia
   exact⟨by show 0≤S';decide,k2 .number (by rw[UH c']) H1 s1⟩
  have c3:¬ bad (f' n)=B':=by
   simp only[Tc,Rn,Sq] at c
   simp only[bad,SO,Sq]
   lia
  rw[UF c3] at k1 k2
  refine⟨_,O,p,a.Net,dx,_,_,O,aC,T.Va,T.QaF,zH,r.lm,xs,O,.inl (P'.of h5),_,_,O,O,_,O,?_⟩
  refine bi (fun c=>?_) (fun c=>?_)
  .have c':20≤v.mm.length:=by
    have:(20:Int)≤xs.length:=Rv c
    lia
   exact⟨by show 0≤S';decide,k2 .many (by rw[UH c']) H1 s1⟩
  have c':¬ 20≤v.mm.length:=by
   have:¬ (20:Int)≤xs.length:=RF c
   lia
  refine⟨_,O,p,a.Net,dx,_,_,O,aC,T.Va,T.QaF,zH,.inl ⟨O,_,P'.of h5⟩,_,O,_,O,_,O,(by show 3≤S';decide),fun q nq=>?_⟩
  have s2:ae H1 (upd H1 q (.tup [.str o,.str t,.int n])):=ae.new nq
  have hq:UW K (upd H1 q (.tup [.str o,.str t,.int n])) q [.str o,.str t,.int n]:=UW.of ag
  generalize upd H1 q (.tup [.str o,.str t,.int n])=H2 at s2 hq ⊢
  refine⟨r.lm,xs,_,O,O,s2 _ _ h5,by rw[Q9];lia,?_⟩
  refine k1 (by rw[UF c']) _ (fun b u e _ _ _ _ z5=>by rw[aj z5];exact s2 _ _ (s1 _ _ e)) ?_
  obtain⟨⟨js,dz⟩,h2,⟨bK,h3,h4⟩,⟨ys,h7,h8⟩,⟨Gj,kN,Ia⟩,n1,n2⟩:=N1.same s2
  have tk:Tk H2 (upd H2 r.lm (.lst (xs++[.ref q]))):=Tk.upd kN rfl
  exact⟨⟨js,by rw[aj (bN dz kN (by intro z;cases z))];exact dz⟩,by rw[aj (bN h2 kN (by intro z;cases z))];exact h2,⟨bK,by rw[aj (bN h3 kN (by intro z;cases z))];exact h3,tk.arr h4⟩,
   ⟨ys,by rw[aj n2];exact h7,tk.U' (cu (fun _=>O) _) h8⟩,⟨_,ag,by rw[Q8];exact bv.snoc (Fl (tk.VI hq)) (tk.U' (cu (fun _=>O) _) (s2.U' h6))⟩,n1,n2⟩
def j4 (v:bq) (o t:C') (sp wt:Int):Option Er:=
 match two v.kvs o t with
 | some er=>f' er
 | none=>if (sp<1∨20<sp)∨(wt<1∨1000000<wt) then f' .number else if 40≤v.arr.length then f' .many else i'
theorem xX {v:bq}{wt:Int}{er:Er} (h:two v.kvs o t=f' er):j4 v o t sp wt=f' er:=by unfold j4;rw[h]
theorem DE {v:bq}{wt:Int} (h:two v.kvs o t=i'):j4 v o t sp wt=if (sp<1∨20<sp)∨(wt<1∨1000000<wt) then f' .number else if 40≤v.arr.length then f' .many else i':=by unfold j4;rw[h]
def xH (K:R') (a:Vg):Sp:=fun vs H Q E=>∃ p r v o t sp wt,vs=[.ref p,.str o,.str t,.int sp,.int wt]∧bF K a.Net H p r v∧v.arr.length≤1000∧(∀ q∈v.arr,q.num<v.nn) ∧
 (j4 v o t sp wt=i'→∀ H',Kp p r H H'→bF K a.Net H' p r { v with arr:=v.arr++[⟨v.nn,o,t,sp,wt⟩],nn:=v.nn + 1 }→Q (.int v.nn) H') ∧
 (∀ er,j4 v o t sp wt=f' er→∀ H',ae H H'→kX a E er H')
theorem FI {H:Hp}{n:Int}:∀ {qs:List Ar}{kvs:U7},gZ K H qs kvs→(∀ q∈qs,q.num<n)→a8 kvs (U5 n)=i'
 | [],_,h,_=>by rw[show _=[] from h];rfl
 | q::qs,_,h,l=>by
  obtain⟨t,r,rfl,h1,h2⟩:=h
  have ne:¬ (U5 q.num:Key)=U5 n:=fun z=>by
   have:=l q Rr
   cases z
   lia
  rw[cw (p:=(U5 q.num,V.ref t)) ne]
  exact FI h2 fun q' cO=>l q' (Rc _ cO)
theorem Cr (T:Tx K mg a) (f:F') (fd:WO) (F:gu K "put_arrow" "Net.put_arrow" rH f fd):cE P w K mg base (Vn P w) 5 f fd ["self","one","other","span","weight"] (xH K a):=by
 have YN:=zQ (P:=P) (w:=w) (base:=base) T
 have aE:=rE (P:=P) (w:=w) (base:=base) T
 refine F.VS ER (fun vs H Q E h=>?_) (fun ay A outer s H vs Q E hr h=>?_)
 .obtain⟨p,r,v,o,t,sp,wt,rfl,_⟩:=h
  rfl
 .obtain⟨p,r,v,o,t,sp,wt,rfl,N,hk,Gq,k1,k2⟩:=h
  obtain⟨dx,hp⟩:=N.ex
  refine⟨_,(ao (bp (eu (pv 0) T.Va YN aV (hr.mono (by decide)) (af (pv 1) (af (pv 2) ai))))
   (ao (aU (PW.pt (ig (gi (eG (bC aE (hr.mono (by decide)) rfl (af (pv 3) (af au (af (fZ rfl T.Qjz) ai)))))) (kU (gi (eG (bC aE (hr.mono (by decide)) rfl (af (pv 4) (af au (af (fZ rfl T.Qjw) ai))))))))) (ak (iw aV T.QbO rfl T.QaD)) aQ)
   (ao (aU (bf o7 (bj Dv rfl T.VP dm (af (bA (pv 0) rfl) ai)) (fZ rfl T.QjA) (aZ _)) (ak (iw aV T.QaE rfl T.Z1)) aQ)
   (ao (aW (i:=5) ER.nd O (by first|exact UL rfl|exact UK O) (bA (pv 0) O))
   (ao (rV (cI hr) (bA (pv 0) rfl) (pv 5) (gk (af (pv 1) (af (pv 2) (af (pv 3) (af (pv 4) ai))))) rfl)
   (ao (eA (pv 0) (br nP (pv 5) au) rfl)
   (ak (aN (pv 5))))))))),?_⟩
  refine⟨_,O,p,dx,_,O,hp,by rfl,_,O,_,O,p,r,v,o,t,O,N,fun c1 H1 s1=>?_,fun er c=>k2 er (xX c)⟩
  rw[DE c1] at k1 k2
  have N1:=N.same s1
  obtain⟨bK,h3,h4⟩:=N1.ha
  have aC:=s1 _ _ hp
  have hl:bK.length=v.arr.length:=by rw[← h4.length]
  have qT:((sp<1∨20<sp)∨(wt<1∨1000000<wt))→_:=fun c=>k2 .number (by rw[UH c]) H1 s1
  refine⟨_,O,sp,1,20,O,_,O,?_⟩
  refine bi (fun c=>?_) (fun c=>?_)
  .have c':sp<1∨20<sp:=by
    simp only[So,Sj,R3] at c
    lia
   exact eh ⟨by show 0≤S';decide,qT (.inl c')⟩
  have c3:¬ (sp<1∨20<sp):=by
   simp only[Tc,Rn,Sq] at c
   lia
  refine⟨_,O,wt,1,1000000,O,_,O,?_⟩
  refine bi (fun c=>?_) (fun c=>?_)
  .have c':wt<1∨1000000<wt:=by
    simp only[So,Sj,R3] at c
    lia
   exact⟨by show 0≤S';decide,qT (.inr c')⟩
  have c4:¬ (wt<1∨1000000<wt):=by
   simp only[Tc,Rn,Sq] at c
   lia
  rw[UF (fun z=>z.elim c3 c4)] at k1 k2
  refine⟨_,O,p,a.Net,dx,_,_,O,aC,T.Va,T.Zk,rA,r.da,bK,O,h3,_,_,O,O,_,O,?_⟩
  refine bi (fun c=>?_) (fun c=>?_)
  .have c':40≤v.arr.length:=by
    have:(40:Int)≤bK.length:=Rv c
    lia
   exact⟨by show 0≤S';decide,k2 .many (by rw[UH c']) H1 s1⟩
  have c':¬ 40≤v.arr.length:=by
   have:¬ (40:Int)≤bK.length:=RF c
   lia
  refine⟨_,O,p,a.Net,dx,_,_,O,aC,T.Va,T.QbQ,QmS,?_⟩
  refine⟨_,O,_,O,_,O,_,O,(by show 4≤S';decide),fun q nq=>?_⟩
  have s2:ae H1 (upd H1 q (.tup [.str o,.str t,.int sp,.int wt])):=ae.new nq
  have hq:UW K (upd H1 q (.tup [.str o,.str t,.int sp,.int wt])) q (W9 ⟨v.nn,o,t,sp,wt⟩):=UW.of ag
  generalize upd H1 q (.tup [.str o,.str t,.int sp,.int wt])=H2 at s2 hq ⊢
  have dz:=s2 _ _ aC
  have oH:=s2 _ _ h3
  refine⟨_,O,p,a.Net,dx,_,_,O,dz,T.Va,T.Zk,rA,_,O,r.da,_,O,pB.k (k:=U5 v.nn) oH (by rw[Q9];lia),?_⟩
  rw[sy (.ref q) (FI h4 Gq)]
  have BS:upd H2 r.da (.dK (bK++[(U5 v.nn,.ref q)])) p=f' (.ins a.Net dx (iT r.dh r.da v.nn r.ls r.lm)):=by rw[aj (bN dz oH (by intro z;cases z))];exact dz
  refine⟨_,O,_,_,O,O,_,O,p,a.Net,dx,_,O,BS,T.Va,T.QbQ,by show 5<1000;decide,?_⟩
  rw[Lj]
  refine⟨_,O,?_⟩
  show Q (.int v.nn) _
  refine k1 (by rw[UF c']) _ (fun b u e z1 _ z3 _ _=>by rw[aj z1,aj z3];exact s2 _ _ (s1 _ _ e)) ?_
  obtain⟨⟨js,_⟩,h2,_,⟨xs,h5,h6⟩,⟨ys,h7,h8⟩,n1,n2⟩:=N1.same s2
  have tk:Tk H2 (upd (upd H2 r.da (.dK (bK++[(U5 v.nn,.ref q)]))) p (.ins a.Net dx (iT r.dh r.da (v.nn + 1) r.ls r.lm))):=(Tk.upd oH O).trans (Tk.upd BS O)
  have ne:∀ b u,H2 b=f' u→b≠p→b≠r.da→upd (upd H2 r.da (.dK (bK++[(U5 v.nn,.ref q)]))) p (.ins a.Net dx (iT r.dh r.da (v.nn + 1) r.ls r.lm)) b=f' u:=fun b u e z1 z3=>by rw[aj z1,aj z3];exact e
  exact⟨⟨dx,ag⟩,ne _ _ h2 (bN h2 dz (by intro z;cases z)) (UM n1),⟨_,(by rw[aj (bN oH dz (by intro z;cases z))];exact ag),(tk.arr ((Tk.of s2).arr h4)).snoc (tk.VI hq)⟩,
   ⟨xs,ne _ _ h5 (bN h5 dz (by intro z;cases z)) (bN h5 oH (by intro z;cases z)),tk.U' (cu (fun _=>O) _) h6⟩,⟨ys,ne _ _ h7 (bN h7 dz (by intro z;cases z)) (bN h7 oH (by intro z;cases z)),tk.U' (cu (fun _=>O) _) h8⟩,n1,n2⟩
theorem Mx (T:Tx K mg a):dJ P w K mg base (Vn P w) 5 a.Net "put_arrow" ["self","one","other","span","weight"] [] (xH K a):=T.QbT.U2 fun f fd F=>Cr T f fd F
def yr (K:R') (C:F') (f:bq→List Dt):Sp:=fun vs H Q _=>∃ p r v,vs=[.ref p]∧bF K C H p r v∧(f v).length≤1000∧∀ l H' xs,ae H H'→H l=i'→H' l=f' (.lst xs)→bv K H' (f v) xs→V4 H' xs→Q (.ref l) H'
theorem Mg (T:Tx K mg a):dJ P w K mg base U8 1 a.Net "sames" ["self"] [] (yr K a.Net fun v=>v.ss.map rl):=T.QbW.U2 fun f fd F=>by
 refine F.ok MK (fun vs H Q E h=>?_) (fun ay A outer s H vs Q E hr h=>?_)
 .obtain⟨p,r,v,rfl,_⟩:=h
  rfl
 .obtain⟨p,r,v,rfl,N,hk,k⟩:=h
  obtain⟨dx,hp⟩:=N.ex
  obtain⟨xs,h5,h6⟩:=N.hs
  have hl:v.ss.length=xs.length:=by rw[← h6.length,Q3]
  dsimp only at hk
  rw[Q3] at hk
  refine⟨_,(ak (aN (cF (N:=["one","other"]) (cap:=[i',i']) O (cz (osc:=az zn) (XN:=["self"]) O O (by decide +kernel)) (bV (bA (pv 0) rfl)) (fun cl C s H fp aa=>(kW (K:=K) (n:=2) O O (bo (aG (i:=0) (show(["one","other"]:List C').Nodup by decide +kernel) rfl (by first|exact UL rfl|exact UK O)) (bo (aG (i:=1) (show(["one","other"]:List C').Nodup by decide +kernel) rfl (by first|exact UL rfl|exact UK O)) fu)))) (fun cl C s H fp aa=>cR) (fun cl C s H fp aa=>(gk (af (pv 0) (af (pv 1) ai))))))),?_⟩
  refine⟨_,O,p,a.Net,dx,_,_,O,hp,T.Va,T.QaG,ym,r.ls,O,⟨_,P'.of h5⟩,fun D hD=>?_⟩
  refine fq (K:=K) (a:=r.ls) (xs:=xs) (fun i τ H'=>∃ v1 v2 ys,τ=[v1,v2]∧ae H H'∧H' D=f' (.lst ys)∧bv K H' ((v.ss.take i).map rl) ys∧V4 H' ys) ⟨i',i',[],rfl,ae.new hD,ag,rfl,V4.nil⟩ ?_ ?_ ?_
  .rintro i τ H' _ ⟨v1,v2,ys,rfl,sm,hy,hd,tp⟩
   exact P'.of (sm _ _ h5)
  .rintro i x τ H' hx ⟨v1,v2,ys,rfl,sm,hy,hd,tp⟩
   obtain⟨⟨o,t⟩,hq,dq⟩:=gv h6 hx
   obtain⟨q,rfl,h1⟩:=DB (sm.dt dq)
   have sP:ys.length≤v.ss.length:=by rw[← hd.length,Q3,Rm];exact T4 _ _
   refine⟨q,_,O,h1,O,_,_,O,_,_,O,O,?_⟩
   dsimp only[dQ]
   rw[UH rfl]
   refine⟨_,O,_,O,(by show 2≤S';decide),fun z nz=>⟨ys,by rw[aj (aq hy nz)];exact hy,by rw[Q9];lia,_,_,_,O,?_,ag,?_,?_⟩⟩
   .intro b u e
    rw[aj (aq e hD)]
    exact(sm.trans (ae.new nz)) b u e
   .have s3:ae H' (upd H' z (.tup [.str o,.str t])):=ae.new nz
    have hz:UW K (upd H' z (.tup [.str o,.str t])) z [.str o,.str t]:=UW.of ag
    have gB:=s3 _ _ hy
    generalize upd H' z (.tup [.str o,.str t])=H3 at s3 hz gB ⊢
    have tk:Tk H3 (upd H3 D (.lst (ys++[.ref z]))):=Tk.upd gB rfl
    rw[cM hq,Q8]
    exact bv.snoc (CN (tk.VI hz)) (tk.U' (cu (fun _=>O) _) (s3.U' hd))
   .have s3:ae H' (upd H' z (.tup [.str o,.str t])):=ae.new nz
    have hz:upd H' z (.tup [.str o,.str t]) z=f' (.tup [.str o,.str t]):=ag
    have gB:=s3 _ _ hy
    generalize upd H' z (.tup [.str o,.str t])=H3 at s3 hz gB ⊢
    exact((tp.tk (Tk.of s3)).snoc hz).tk (Tk.upd gB O)
  .rintro τ H' ⟨v1,v2,ys,rfl,sm,hy,hd,tp⟩
   rw[← hl,Rt] at hd
   exact k D H' ys sm hD hy hd tp
theorem OP (T:Tx K mg a):dJ P w K mg base U8 1 a.Net "mosts" ["self"] [] (yr K a.Net fun v=>v.mm.map rm):=T.QbX.U2 fun f fd F=>by
 refine F.ok PQ (fun vs H Q E h=>?_) (fun ay A outer s H vs Q E hr h=>?_)
 .obtain⟨p,r,v,rfl,_⟩:=h
  rfl
 .obtain⟨p,r,v,rfl,N,hk,k⟩:=h
  obtain⟨dx,hp⟩:=N.ex
  obtain⟨xs,h5,h6⟩:=N.hm
  have hl:v.mm.length=xs.length:=by rw[← h6.length,Q3]
  dsimp only at hk
  rw[Q3] at hk
  refine⟨_,(ak (aN (cF (N:=["one","other","number"]) (cap:=[i',i',i']) O (cz (osc:=az yR) (XN:=["self"]) O O (by decide +kernel)) (bV (bA (pv 0) rfl)) (fun cl C s H fp aa=>(kW (K:=K) (n:=3) O O (bo (aG (i:=0) (show(["one","other","number"]:List C').Nodup by decide +kernel) rfl (by first|exact UL rfl|exact UK O)) (bo (aG (i:=1) (show(["one","other","number"]:List C').Nodup by decide +kernel) rfl (by first|exact UL rfl|exact UK O)) (bo (aG (i:=2) (show(["one","other","number"]:List C').Nodup by decide +kernel) rfl (by first|exact UL rfl|exact UK O)) fu))))) (fun cl C s H fp aa=>cR) (fun cl C s H fp aa=>(gk (af (pv 0) (af (pv 1) (af (pv 2) ai)))))))),?_⟩
  refine⟨_,O,p,a.Net,dx,_,_,O,hp,T.Va,T.QaF,zH,r.lm,O,⟨_,P'.of h5⟩,fun D hD=>?_⟩
  refine fq (K:=K) (a:=r.lm) (xs:=xs) (fun i τ H'=>∃ v1 v2 v3 ys,τ=[v1,v2,v3]∧ae H H'∧H' D=f' (.lst ys)∧bv K H' ((v.mm.take i).map rm) ys∧V4 H' ys) ⟨i',i',i',[],rfl,ae.new hD,ag,rfl,V4.nil⟩ ?_ ?_ ?_
  .rintro i τ H' _ ⟨v1,v2,v3,ys,rfl,sm,hy,hd,tp⟩
   exact P'.of (sm _ _ h5)
  .rintro i x τ H' hx ⟨v1,v2,v3,ys,rfl,sm,hy,hd,tp⟩
   obtain⟨⟨o,t,n⟩,hq,dq⟩:=gv h6 hx
   obtain⟨q,rfl,h1⟩:=Ew (sm.dt dq)
   have sP:ys.length≤v.mm.length:=by rw[← hd.length,Q3,Rm];exact T4 _ _
   refine⟨q,_,O,h1,O,_,_,O,_,_,O,_,_,O,O,?_⟩
   dsimp only[dQ]
   rw[UH rfl]
   refine⟨_,O,_,O,_,O,(by show 3≤S';decide),fun z nz=>⟨ys,by rw[aj (aq hy nz)];exact hy,by rw[Q9];lia,_,_,_,_,O,?_,ag,?_,?_⟩⟩
   .intro b u e
    rw[aj (aq e hD)]
    exact(sm.trans (ae.new nz)) b u e
   .have s3:ae H' (upd H' z (.tup [.str o,.str t,.int n])):=ae.new nz
    have hz:UW K (upd H' z (.tup [.str o,.str t,.int n])) z [.str o,.str t,.int n]:=UW.of ag
    have gB:=s3 _ _ hy
    generalize upd H' z (.tup [.str o,.str t,.int n])=H3 at s3 hz gB ⊢
    have tk:Tk H3 (upd H3 D (.lst (ys++[.ref z]))):=Tk.upd gB rfl
    rw[cM hq,Q8]
    exact bv.snoc (Fl (tk.VI hz)) (tk.U' (cu (fun _=>O) _) (s3.U' hd))
   .have s3:ae H' (upd H' z (.tup [.str o,.str t,.int n])):=ae.new nz
    have hz:upd H' z (.tup [.str o,.str t,.int n]) z=f' (.tup [.str o,.str t,.int n]):=ag
    have gB:=s3 _ _ hy
    generalize upd H' z (.tup [.str o,.str t,.int n])=H3 at s3 hz gB ⊢
    exact((tp.tk (Tk.of s3)).snoc hz).tk (Tk.upd gB O)
  .rintro τ H' ⟨v1,v2,v3,ys,rfl,sm,hy,hd,tp⟩
   rw[← hl,Rt] at hd
   exact k D H' ys sm hD hy hd tp
theorem xN (T:Tx K mg a):dJ P w K mg base U8 1 a.Net "arrows" ["self"] [] (yr K a.Net fun v=>v.arr.map WM):=T.YM.U2 fun f fd F=>by
 refine F.ok Mi (fun vs H Q E h=>?_) (fun ay A outer s H vs Q E hr h=>?_)
 .obtain⟨p,r,v,rfl,_⟩:=h
  rfl
 .obtain⟨p,r,v,rfl,N,hk,k⟩:=h
  obtain⟨dx,hp⟩:=N.ex
  obtain⟨bK,h2,h4⟩:=N.ha
  have hl:=h4.length
  dsimp only at hk
  rw[Q3] at hk
  refine⟨_,(ak (aN (Of (cF (N:=["number","arrow"]) (cap:=[i',i']) O (cz (osc:=az yN) (XN:=["self"]) O O (by decide +kernel)) (P7 (Qhf QaW QeE PySem.F.type_dict_items MX (bA (pv 0) rfl))) (fun cl C s H fp aa=>(kW (K:=K) (n:=2) O O (bo (aG (i:=0) (show(["number","arrow"]:List C').Nodup by decide +kernel) rfl (by first|exact UL rfl|exact UK O)) (bo (aG (i:=1) (show(["number","arrow"]:List C').Nodup by decide +kernel) rfl (by first|exact UL rfl|exact UK O)) fu)))) (fun cl C s H fp aa=>cR) (fun cl C s H fp aa=>(gk (af (pv 0) (af (aK (kY (K:=K) O) (pv 1) au (fun _ _=>O)) (af (aK (kY (K:=K) O) (pv 1) au (fun _ _=>O)) (af (aK (kY (K:=K) O) (pv 1) au (fun _ _=>O)) (af (aK (kY (K:=K) O) (pv 1) au (fun _ _=>O)) ai))))))))))),?_⟩
  refine⟨r.da,bK,h2,_,O,p,a.Net,dx,_,_,O,hp,T.Va,T.Zk,rA,.inr (.inr (.inl ⟨O,.inl ⟨_,h2⟩⟩)),r.da,bK,O,O,h2,fun w nw=>⟨w,r.da,bK,O,ag,by rw[aj (aq h2 nw)];exact h2,fun o D hD=>?_⟩⟩
  have dw:r.da≠w:=aq h2 nw
  have dD:r.da≠D:=aq ag hD
  have nD:upd H w (rJ w r.da) D=i':=by rw[aj (UM dD)] at hD;exact hD
  have HD:H D=i':=by
   cases hq:H D with
   | none=>rfl
   | some u=>
    have:=(ae.new (o:=rJ w r.da) nw) D u hq
    rw[nD] at this
    cases this
  refine NX (d:=r.da) (o:=o) (kvs:=bK) (fun i τ H'=>∃ v1 v2 ys,τ=[v1,v2]∧(∀ b u,H b=f' u→b≠r.da→H' b=f' u)∧H' r.da=f' (.UT o (.dK bK))∧H' D=f' (.lst ys)∧bv K H' ((v.arr.take i).map WM) ys∧V4 H' ys)
   ⟨i',i',[],rfl,fun b u e hb=>by rw[aj (aq e HD),aj hb];exact ae.new nw b u e,by rw[aj dD];exact ag,ag,O,V4.nil⟩ ?_ ?_ ?_
  .rintro i τ H' _ ⟨v1,v2,ys,rfl,fr,hz,hy,hd,tp⟩
   exact hz
  .rintro i ky x T' τ H' hx hT ⟨v1,v2,ys,rfl,fr,hf,hy,hd,tp⟩
   obtain⟨q,t,hq,rfl,rfl,h1⟩:=h4.get hx
   have Gf:Tk H H':=fun b u e z=>fr b u e fun w=>by subst w;rw[h2] at e;cases e;cases z
   have sP:ys.length≤v.arr.length:=by rw[← hd.length,Q3,Rm];exact T4 _ _
   have s1:ae H' (upd H' T' (.tup [kV (U5 q.num),.ref t])):=ae.new hT
   have gL:=s1.VI (Gf.VI h1)
   have Ac:UW K (upd H' T' (.tup [kV (U5 q.num),.ref t])) T' [kV (U5 q.num),.ref t]:=UW.of ag
   have cX:=s1 _ _ hy
   have BP:=s1 _ _ hf
   have cY:=s1.U' hd
   have BK:=s1
   have qO:∀ b u,H b=f' u→b≠r.da→upd H' T' (.tup [kV (U5 q.num),.ref t]) b=f' u:=fun b u e z=>s1 _ _ (fr b u e z)
   generalize upd H' T' (.tup [kV (U5 q.num),.ref t])=H1 at gL Ac cX BP cY BK qO ⊢
   refine⟨T',_,O,Ac,O,_,_,O,_,_,O,O,?_⟩
   dsimp only[dQ]
   rw[UH rfl]
   refine⟨_,O,_,O,t,W9 q,_,_,O,O,gL,O,_,O,t,W9 q,_,_,O,O,gL,O,_,O,t,W9 q,_,_,O,O,gL,O,_,O,t,W9 q,_,_,O,O,gL,O,(by show 5≤S';decide),fun z nz=>?_⟩
   have s3:ae H1 (upd H1 z (.tup [kV (U5 q.num),.str q.one,.str q.other,.int q.span,.int q.weight])):=ae.new nz
   have A1:upd H1 z (.tup [kV (U5 q.num),.str q.one,.str q.other,.int q.span,.int q.weight]) z=f' (.tup (.int q.num::W9 q)):=ag
   have Ag:=(tp.tk (Tk.of BK)).tk (Tk.of s3)
   have hz:UW K (upd H1 z (.tup [kV (U5 q.num),.str q.one,.str q.other,.int q.span,.int q.weight])) z (.int q.num::W9 q):=UW.of ag
   have gB:=s3 _ _ cX
   have jW:=s3.U' cY
   have Bg:=s3 _ _ BP
   have qk:∀ b u,H b=f' u→b≠r.da→upd H1 z (.tup [kV (U5 q.num),.str q.one,.str q.other,.int q.span,.int q.weight]) b=f' u:=fun b u e w=>s3 _ _ (qO b u e w)
   generalize upd H1 z (.tup [kV (U5 q.num),.str q.one,.str q.other,.int q.span,.int q.weight])=H3 at hz A1 Ag gB jW Bg qk ⊢
   have tk:Tk H3 (upd H3 D (.lst (ys++[.ref z]))):=Tk.upd gB rfl
   refine⟨ys,gB,by rw[Q9];lia,_,_,_,O,fun b u e w=>by rw[aj (aq e HD)];exact qk b u e w,by rw[aj dD];exact Bg,ag,?_,(Ag.snoc A1).tk tk⟩
   rw[cM hq,Q8]
   exact bv.snoc (yk (tk.VI hz)) (tk.U' (cu (fun _=>O) _) jW)
  .rintro τ H' ⟨v1,v2,ys,rfl,fr,hf,hy,hd,tp⟩
   rw[← hl,Rt] at hd
   refine⟨o,hf,?_⟩
   have tk:Tk H' (upd H' r.da (.dK bK)):=Tk.upd hf rfl
   refine k D _ ys (fun b u e=>?_) HD (by rw[aj (UM dD)];exact hy) (tk.U' (cu (fun _=>O) _) hd) (tp.tk tk)
   by_cases hb:b=r.da
   .subst hb
    rw[h2] at e;cases e
    exact ag
   .rw[aj hb]
    exact fr b u e hb
end
section
variable {K:R'}
theorem Cs (T:Tx K mg a):lW P w K mg base U8 1 a.NoSuch "NoSuch" ["self","number"] (uo a.NoSuch "number"):=T.QiH.U2 fun f fd F=>by
 refine F.ok OV (fun vs H Q E h=>?_) (fun ay A outer s H vs Q E hr h=>?_)
 .obtain⟨x,t,y,rfl,_⟩:=h
  rfl
 .obtain⟨x,t,y,rfl,hx,k⟩:=h
  refine⟨_,(ak (uU (pv 0) (pv 1) O)),?_⟩
  exact⟨_,O,_,O,x,a.NoSuch,t,O,hx,T.QiI,fun dx nd=>k dx nd⟩
def pk (arr:List Ar) (i:Int):Bool:=arr.any fun q=>decide (q.num=i)
def lY (arr:List Ar) (i:Int):List Ar:=arr.filter fun q=>decide (q.num≠i)
theorem xR {H:Hp}{i:Int}:∀ {qs:List Ar}{kvs:U7},gZ K H qs kvs→(a8 kvs (U5 i)).isSome=pk qs i
 | [],_,h=>by rw[show _=[] from h];rfl
 | q::qs,_,h=>by
  obtain⟨t,r,rfl,h1,h2⟩:=h
  show _=(decide (q.num=i) || pk qs i)
  by_cases e:q.num=i
  .rw[di (p:=(U5 q.num,V.ref t)) (by rw[e]),Rj e]
   rfl
  .rw[cw (p:=(U5 q.num,V.ref t)) (fun z=>e (QcG z)),Rs e,xR h2]
   rfl
theorem x9 {H:Hp}{i:Int}:∀ {qs:List Ar}{kvs:U7},gZ K H qs kvs→gZ K H (lY qs i) (iU kvs (U5 i))
 | [],_,h=>by rw[show _=[] from h];rfl
 | q::qs,_,h=>by
  obtain⟨t,r,rfl,h1,h2⟩:=h
  by_cases e:q.num=i
  .rw[Lh (p:=(U5 q.num,V.ref t)) (by rw[e])]
   have:lY (q::qs) i=lY qs i:=by unfold lY;rw[RM,UF (by simp[e])]
   rw[this]
   exact x9 h2
  .rw[NP (p:=(U5 q.num,V.ref t)) (fun z=>e (QcG z))]
   have:lY (q::qs) i=q::lY qs i:=by unfold lY;rw[RM,UH (by simp[e])]
   rw[this]
   exact⟨t,_,O,h1,x9 h2⟩
def QmX (K:R') (a:Vg):Sp:=fun vs H Q E=>∃ p r v i,vs=[.ref p,.int i]∧bF K a.Net H p r v ∧
 (pk v.arr i=B'→∀ H',Kp p r H H'→bF K a.Net H' p r { v with arr:=lY v.arr i }→Q .UO H') ∧
 (pk v.arr i=K'→∀ H',ae H H'→kX a E (.such i) H')
theorem DO (T:Tx K mg a):dJ P w K mg base (Vn P w) 3 a.Net "take_arrow" ["self","number"] [] (QmX K a):=T.Z7.U2 fun f fd F=>by
 have cr:=CS (P:=P) (w:=w) (base:=base) T
 have dC:=Cs (P:=P) (w:=w) (base:=base) T
 refine F.VS Mt (fun vs H Q E h=>?_) (fun ay A outer s H vs Q E hr h=>?_)
 .obtain⟨p,r,v,i,rfl,_⟩:=h
  rfl
 .obtain⟨p,r,v,i,rfl,N,k1,k2⟩:=h
  obtain⟨dx,hp⟩:=N.ex
  obtain⟨bK,h3,h4⟩:=N.ha
  refine⟨_,(ao (aU (PW.pt (ig (gi (eG (bC cr (hr.mono (by decide)) rfl (af (pv 1) ai)))) (kU (ko (xK (cI hr) (pv 1) (bA (pv 0) rfl)))))) (ak (j7 aV dC (hr.mono (by decide)) rfl (af (pv 1) ai))) aQ)
   (ak (bp (Pa (bA (pv 0) rfl) (pv 1) ⟨rfl,rfl,rfl,rfl⟩)))),?_⟩
  refine⟨_,O,i,O,_,O,dP O ?_⟩
  refine⟨_,O,_,O,p,a.Net,dx,_,_,O,hp,T.Va,T.Zk,rA,r.da,_,O,ci.k (k:=U5 i) h3,_,O,?_⟩
  rw[xR h4]
  refine bi (fun c=>?_) (fun c=>?_)
  .have c':pk v.arr i=K':=by simpa using c
   refine⟨_,O,by show 1≤S';decide,fun x t hx=>⟨x,t,_,O,ag,fun d nd=>⟨O,f' d,ag,?_⟩⟩⟩
   have xd:d≠x:=fun z=>by rw[z,ag] at nd;cases nd
   have e:del (upd (upd (upd H x (cy a.NoSuch t x i')) d (.xd [("number",.int i)])) x (cy a.NoSuch t x (f' d))) x=upd H d (.xd [("number",.int i)]):=by
    funext b
    unfold del
    by_cases h1:b=x
    .subst h1
     rw[UH rfl,aj (UM xd),hx]
    .rw[UF h1,aj h1]
     by_cases h2:b=d
     .subst h2;rw[ag,ag]
     .rw[aj h2,aj h1,aj h2]
   show E _ _ _
   rw[e]
   have iA:H d=i':=by rw[aj xd] at nd;exact nd
   exact k2 c' _ (ae.new iA) d ag
  .have c':pk v.arr i=B':=by simpa using c
   obtain⟨y,hy⟩:=Xj.mp ((xR (i:=i) h4).trans c')
   refine⟨_,O,p,a.Net,dx,_,_,O,hp,T.Va,T.Zk,rA,r.da,O,.inl ⟨_,.inl h3⟩,_,O,bK,U5 i,y,h3,O,hy,?_⟩
   refine k1 c' _ (fun b u e _ _ z3 _ _=>by rw[aj z3];exact e) ?_
   obtain⟨_,h2,_,⟨xs,h5,h6⟩,⟨ys,h7,h8⟩,n1,n2⟩:=N
   have tk:Tk H (upd H r.da (.dK (iU bK (U5 i)))):=Tk.upd h3 rfl
   exact⟨⟨dx,by rw[aj (bN hp h3 (by intro z;cases z))];exact hp⟩,by rw[aj (UM n1)];exact h2,⟨_,ag,tk.arr (x9 h4)⟩,⟨xs,by rw[aj (bN h5 h3 (by intro z;cases z))];exact h5,tk.U' (cu (fun _=>O) _) h6⟩,
    ⟨ys,by rw[aj (bN h7 h3 (by intro z;cases z))];exact h7,tk.U' (cu (fun _=>O) _) h8⟩,n1,n2⟩
theorem Nb (T:Tx K mg a):dJ P w K mg base (Vn P w) 3 a.Net "put_point" ["self","name","half"] [.int 0] (yU K a):=T.Z5.U2 fun f fd F=>C4 T f fd F
theorem Qi (T:Tx K mg a):dJ P w K mg base (Vn P w) 5 a.Net "put_arrow" ["self","one","other","span","weight"] [.int 1,.int 1] (xH K a):=T.QbU.U2 fun f fd F=>Cr T f fd F
end
inductive nL (ar:List Ar) (s:C'):C'→List Int→Prop
 | nil:nL ar s s []
 | snoc {p:C'}{zs:List Int}{q:Ar}:nL ar s p zs→q∈ar→q.one=p→nL ar s q.other (zs++[q.num])
def iV (ar:List Ar) (s t:C'):Prop:=∃ zs,nL ar s t zs
theorem md {kvs:U7}{x y:C'}{v:V} (h:has kvs x=K'):has (kvs++[(UN x,v)]) y=(decide (y=x) || has kvs y):=by
 unfold has at h ⊢
 have e:a8 kvs (UN x)=i':=by simpa using h
 rw[r6 (UN x) (UN y) v kvs e]
 by_cases z:y=x
 .rw[UH (by rw[z]),Rj z]
  rfl
 .rw[UF (fun q=>z (W0 q)),Rs z]
  rfl
def ke (ar:List Ar) (kvs:U7):Nat:=(ar.filter fun q=>!has kvs q.other).length
theorem Cc (ar:List Ar) (kvs:U7):ke ar kvs≤ar.length:=Si _ _
theorem Fa {α:Type}{f g:α→Bool}:∀ {l:List α}{q:α},(∀ x,g x=B'→f x=B')→q∈l→f q=B'→g q=K'→(l.filter g).length<(l.filter f).length
 | x::l,q,h,hq,h1,h2=>by
  rw[RM,RM]
  have le:∀ l:List α,(l.filter g).length≤(l.filter f).length:=fun l=>by
   induction l with
   | nil=>exact Q7 _
   | cons y l ih=>
    rw[RM,RM]
    cases e:g y with
    | true=>rw[UH O,UH (h y e)];exact TX ih
    | false=>
     rw[UF (by decide)]
     split
     .exact RN ih
     .exact ih
  rcases RS.mp hq with rfl|hq
  .rw[UF (by rw[h2];decide),UH h1]
   exact Nat.lt_succ_of_le (le l)
  .have ih:=Fa h hq h1 h2
   cases e:g x with
   | true=>rw[UH O,UH (h x e)];exact Nat.succ_lt_succ ih
   | false=>
    rw[UF (by decide)]
    split
    .exact R0 ih
    .exact ih
theorem Fc {ar:List Ar}{kvs:U7}{q:Ar}{v:V} (hq:q∈ar) (h:has kvs q.other=K'):ke ar (kvs++[(UN q.other,v)])<ke ar kvs:=by
 refine Fa (q:=q) (fun x hx=>?_) hq (by rw[h];rfl) (by rw[md h,Rj rfl];rfl)
 rw[md h] at hx
 cases e:has kvs x.other with
 | false=>rfl
 | true=>rw[e,SH] at hx;cases hx
def QmY (K:R') (H:Hp) (l:F') (ar:List Ar):Prop:=∃ xs,P' K H l xs∧bv K H (ar.map WM) xs
structure Bf (K:R') (H0 H:Hp) (D wt:F') (ar:List Ar) (s:C') (kvs:U7) (wl:List C'):Prop where
 old:ae H0 H
 d:H D=f' (.dK kvs)
 w:H wt=f' (.lst (wl.map V.str))
 ok:∀ x v,a8 kvs (UN x)=f' v→∃ r zs,v=.ref r∧H r=f' (.lst ((zs:List Int).map V.int))∧r≠wt∧nL ar s x zs∧zs.length<kvs.length∧H0 r=i'
 k:kvs.length + ke ar kvs≤1 + ar.length
 root:has kvs s=B'
 sub:∀ x∈wl,has kvs x=B'
 wk:wl.length + 2 * ke ar kvs≤1 + 2 * ar.length
theorem Bf.same {K:R'}{ar:List Ar}{kvs:U7} (b:Bf K H0 H D wt ar s kvs wl) (e:ae H H'):Bf K H0 H' D wt ar s kvs wl:=
 ⟨b.old.trans e,e _ _ b.d,e _ _ b.w,fun x v hv=>by
  obtain⟨r,zs,h1,h2,h3⟩:=b.ok x v hv
  exact⟨r,zs,h1,e _ _ h2,h3⟩,b.k,b.root,b.sub,b.wk⟩
theorem Bf.Qef {K:R'}{ar:List Ar}{kvs:U7}{wl2:List C'} (b:Bf K H0 H D wt ar s kvs wl) (hw:H0 wt=i') (nd:D≠wt) (hs:∀ x∈wl2,has kvs x=B') (hk:wl2.length + 2 * ke ar kvs≤1 + 2 * ar.length) :
  Bf K H0 (upd H wt (.lst (wl2.map V.str))) D wt ar s kvs wl2:=
 ⟨fun x o e=>by rw[aj (aq e hw)];exact b.old x o e,by rw[aj nd];exact b.d,ag,fun x v hv=>by
  obtain⟨r,zs,h1,h2,h3,h4⟩:=b.ok x v hv
  exact⟨r,zs,h1,by rw[aj h3];exact h2,h3,h4⟩,b.k,b.root,hs,hk⟩
theorem Bf.put {K:R'}{r2:F'}{ar:List Ar}{kvs:U7}{q:Ar} (b:Bf K H0 H D wt ar s kvs wl) (hD:H0 D=i') (nd:D≠wt) (hq:q∈ar) (hp:nL ar s q.one zs) (hr:H r2=f' (.lst ((zs++[q.num]).map V.int)))
  (n2:r2≠wt) (n3:H0 r2=i') (hn:has kvs q.other=K') (hz:zs.length<kvs.length):Bf K H0 (upd H D (.dK (kvs++[(UN q.other,.ref r2)]))) D wt ar s (kvs++[(UN q.other,.ref r2)]) wl:=by
 have lt:=Fc (v:=.ref r2) hq hn
 have hl:(kvs++[(UN q.other,V.ref r2)]).length=kvs.length + 1:=by rw[Ro];rfl
 have nn:a8 kvs (UN q.other)=i':=by unfold has at hn;simpa using hn
 refine⟨fun x o e=>by rw[aj (aq e hD)];exact b.old x o e,ag,by rw[aj (UM nd)];exact b.w,fun x v hv=>?_,?_,?_,fun x hx=>?_,?_⟩
 .rw[r6 (UN q.other) (UN x) _ kvs nn] at hv
  by_cases z:x=q.other
  .rw[UH (by rw[z])] at hv
   cases hv
   subst z
   exact⟨r2,zs++[q.num],O,by rw[aj (bN hr b.d (by intro z;cases z))];exact hr,n2,.snoc hp hq O,by rw[Ro,hl];show _ + 1<_;lia,n3⟩
  .rw[UF (fun e=>z (W0 e))] at hv
   obtain⟨r,ys,h1,h2,h3,h4,h5,h6⟩:=b.ok x v hv
   exact⟨r,ys,h1,by rw[aj (bN h2 b.d (by intro z;cases z))];exact h2,h3,h4,by lia,h6⟩
 .rw[hl]
  have:=b.k
  lia
 .rw[md hn,b.root,SH]
 .rw[md hn,b.sub x hx,SH]
 .have:=b.wk
  lia
theorem Bf.QmZ {K:R'}{ar:List Ar}{kvs:U7} (b:Bf K H0 H D wt ar s kvs []) (cl:∀ x,has kvs x=B'→∀ q∈ar,q.one=x→has kvs q.other=B') (t:C'):has kvs t=B'↔iV ar s t:=by
 constructor
 .intro h
  obtain⟨v,hv⟩:=Xj.mp h
  obtain⟨r,zs,_,_,_,hp,_,_⟩:=b.ok t v hv
  exact⟨zs,hp⟩
 .rintro⟨zs,hp⟩
  induction hp with
  | nil=>exact b.root
  | snoc _ hq e ih=>exact cl _ ih _ hq e
section
variable {K:R'}
theorem uq {q:Ar} (h:VC K H (WM q) x):∃ t,x=.ref t∧UW K H t (.int q.num::W9 q):=by
 obtain⟨t,xs,rfl,h1,y1,xB,rfl,rfl,y2,sY,rfl,rfl,y3,wo,rfl,rfl,y4,BY,rfl,rfl,y5,Gz,rfl,rfl,h2⟩:=h
 rw[show Gz=[] from h2] at h1
 exact⟨t,O,h1⟩
def Qm0 (K:R'):Sp:=fun vs H Q _=>∃ l ar s t,vs=[.ref l,.str s,.str t]∧QmY K H l ar∧ar.length≤100 ∧
 (∀ r zs H',nL ar s t zs→ae H H'→H' r=f' (.lst ((zs:List Int).map V.int))→zs.length≤101→H r=i'→Q (.ref r) H')∧(¬ iV ar s t→∀ H',ae H H'→Q .UO H')
theorem Qm1 (T:Tx K mg a):Vd P w K mg base U8 1 "way" ["arrows","start","end"] [] (Qm0 K):=T.Qi2.U2 fun f fd F=>by
 refine F.ok li (fun vs H Q E h=>?_) (fun ay A outer s0 H vs Q E hr h=>?_)
 .obtain⟨l,ar,s,t,rfl,_⟩:=h
  rfl
 .obtain⟨l,ar,s,t,rfl,⟨xs,hl,hd⟩,hk,k1,k2⟩:=h
  have iD:ar.length=xs.length:=by rw[← hd.length,Q3]
  refine⟨_,(ao (aW (i:=3) li.nd O (by first|exact UL rfl|exact UK O) (Dq (CG (pv 1) (bY ai) CQ) O O (by decide) (by decide)))
   (ao (aW (i:=4) li.nd O (by first|exact UL rfl|exact UK O) (bY (af (pv 1) ai)))
   (ao (uj Wb (MC (pv 4) (fun _=>O)) (ao (aW (i:=5) li.nd O (by first|exact UL rfl|exact UK O) (ej V5 QfT PySem.F.type_list_pop Ka (pv 4) (af au ai)))
   (ak (ei Wb rfl (bV (pv 0)) (kj rfl (bo (aG (i:=6) li.nd O (by first|exact UL rfl|exact UK O)) (bo (aG (i:=7) li.nd O (by first|exact UL rfl|exact UK O)) (bo (aG (i:=8) li.nd O (by first|exact UL rfl|exact UK O)) (bo (aG (i:=9) li.nd O (by first|exact UL rfl|exact UK O)) (bo (aG (i:=10) li.nd O (by first|exact UL rfl|exact UK O)) fu)))))) (ak (aU (PW.pt (QgE (bf cG (pv 7) (pv 5) (aZ _)) (Ob (ko (xK (cI hr) (pv 8) (pv 3)))))) (ao (rV (cI hr) (pv 3) (pv 8) (br sf (gb (cI hr) (pv 3) (pv 5) (fun _ _=>O)) (bY (af (pv 6) ai))) O)
   (ak (bp (ej V5 Wo Wy fS (pv 4) (af (pv 8) ai))))) aQ))))))
   (ak (aN (KR (cI hr) (pv 3) (pv 2) ⟨rfl,rfl,rfl,rfl⟩)))))),?_⟩
  refine fun D hD=>⟨_,O,(by show 0≤S';decide),fun r0 xE=>⟨ae.new xE _ _ ag,[(UN s,.ref r0)],O,(by show 1≤15;decide),_,O,(by show 1≤S';decide),fun wt Gn=>?_⟩⟩
  have Am:D≠r0:=aq ag xE
  have qx:H r0=i':=by
   have e:=xE
   rw[aj (UM Am)] at e
   exact e
  have d9:=Gn
  rw[nR] at d9
  have om:wt≠D:=fun e=>by rw[UH e] at d9;cases d9
  rw[UF om,nR] at d9
  have wj:wt≠r0:=fun e=>by rw[UH e] at d9;cases d9
  rw[UF wj,aj om] at d9
  have e0:jC [] [(UN s,V.ref r0)]=[(UN s,V.ref r0)]:=rfl
  have lK:has [(UN s,V.ref r0)] s=B':=by
   unfold has
   rw[di (p:=(UN s,V.ref r0)) rfl]
   rfl
  have b0:Bf K H (upd (upd (upd (upd H D (.dK [])) r0 (.lst [])) D (.dK (jC [] [(UN s,V.ref r0)]))) wt (.lst [V.str s])) D wt ar s [(UN s,.ref r0)] [s]:=by
   refine⟨fun b o e=>?_,?_,ag,fun x v hv=>?_,?_,lK,fun x hx=>?_,?_⟩
   .rw[aj (aq e d9),aj (aq e hD),aj (aq e qx),aj (aq e hD)]
    exact e
   .rw[aj (UM om),ag,e0]
   .by_cases z:s=x
    .subst z
     rw[di (p:=(UN s,V.ref r0)) rfl] at hv
     cases hv
     exact⟨r0,[],O,by rw[aj (UM wj),aj (UM Am),ag];rfl,UM wj,.nil,(by show 0<1;decide),qx⟩
    .rw[cw (p:=(UN s,V.ref r0)) (fun q=>z (W0 q))] at hv
     cases hv
   .show 1 + _≤_
    have:=Cc ar [(UN s,V.ref r0)]
    lia
   .rw[Vb.mp hx]
    exact lK
   .show 1 + _≤_
    have:=Cc ar [(UN s,V.ref r0)]
    lia
  generalize upd (upd (upd (upd H D (.dK [])) r0 (.lst [])) D (.dK (jC [] [(UN s,V.ref r0)]))) wt (.lst [V.str s])=H1 at b0 ⊢
  refine⟨fun m σ H'=>∃ v5 v6 v7 v8 v9 qv kvs wl,σ=[f' (.ref l),f' (.str s),f' (.str t),f' (.ref D),f' (.ref wt),v5,v6,v7,v8,v9,qv]∧m=wl.length + 2 * ke ar kvs∧Bf K H H' D wt ar s kvs wl∧∀ x,has kvs x=B'→x∈wl∨∀ q∈ar,q.one=x→has kvs q.other=B',
   ⟨_,i',i',i',i',i',i',_,_,rfl,rfl,b0,fun x hx=>?_⟩,?_⟩
  .by_cases z:s=x
   .exact .inl (Vb.mpr z.symm)
   .unfold has at hx
    rw[cw (p:=(UN s,V.ref r0)) (fun q=>z (W0 q))] at hx
    cases hx
  rintro m σ H2 ⟨v5,v6,v7,v8,v9,qv,kvs,wl,rfl,rfl,b2,Bm⟩
  refine⟨_,O,_,.inl ⟨_,P'.of b2.w,O⟩,?_⟩
  refine bi (fun c=>?_) (fun c=>?_)
  ·-- one more point is looked at
   obtain⟨x,gh,rfl⟩:∃ x gh,wl=x::gh:=by
    cases wl with
    | nil=>cases c
    | cons x gh=>exact⟨x,gh,O⟩
   refine⟨_,fun σ' H' q=>q,?_⟩
   refine⟨_,O,.inl ⟨O,_,P'.of b2.w⟩,wt,_,0,0,_,O,O,b2.w,by decide,by decide,?_,O,?_⟩
   .show Qal 0 (((x::gh).map V.str).length)=f' 0
    rw[Q3]
    unfold Qal
    simp
   have mY:((x::gh).map V.str).eraseIdx 0=gh.map V.str:=rfl
   rw[mY]
   have QL:=b2.wk
   have b3:=b2.Qef (wl2:=gh) d9 (UM om) (fun y hy=>b2.sub y (Rc _ hy)) (by have:(x::gh).length=gh.length + 1:=rfl;lia)
   have Ib:=b2.sub x Rr
   generalize upd H2 wt (.lst (gh.map V.str))=H3 at b3 ⊢
   refine⟨_,O,l,O,⟨_,b3.old.Ve hl⟩,iN (K:=K) (a:=l) (xs:=xs) (fun i σ H'=>∃ v6 v7 v8 v9 qv bE wl2,σ=[f' (.ref l),f' (.str s),f' (.str t),f' (.ref D),f' (.ref wt),f' (.str x),v6,v7,v8,v9,qv]∧Bf K H H' D wt ar s bE wl2∧wl2.length + 2 * ke ar bE≤gh.length + 2 * ke ar kvs∧(∀ y,has bE y=B'→y∈wl2∨y=x∨∀ q∈ar,q.one=y→has bE q.other=B')∧has bE x=B'∧∀ q∈ar.take i,q.one=x→has bE q.other=B')
    ⟨v6,v7,v8,v9,qv,kvs,gh,rfl,b3,Q7 _,fun y hy=>?_,Ib,fun q hq=>by rw[SD] at hq;cases hq⟩ ?_ ?_ ?_⟩
   .rcases Bm y hy with z|z
    .rcases RS.mp z with z|z
     .exact .inr (.inl z)
     .exact .inl z
    .exact .inr (.inr z)
   .rintro i σ H' _ ⟨_,_,_,_,_,bE,wl2,rfl,b4,_⟩
    exact b4.old.Ve hl
   .rintro i y σ H' hy ⟨u6,u7,u8,u9,JA,bE,wl2,rfl,b4,vw,p6,qI,lG⟩
    obtain⟨q,hq,dq⟩:=gv hd hy
    obtain⟨tq,rfl,HX⟩:=uq (b4.old.dt dq)
    have tz:=Rp hq
    refine⟨tq,_,O,HX,O,_,_,O,_,_,O,_,_,O,_,_,O,_,_,O,O,?_⟩
    have skip:(q.one=x→has bE q.other=B')→∀ z∈ar.take (i + 1),z.one=x→has bE z.other=B':=fun h z hz e=>by
     rw[cM hq] at hz
     rcases V9.mp hz with h1|h1
     .exact lG z h1 e
     .rw[Vb.mp h1] at e ⊢
      exact h e
    refine⟨_,O,_,O,O,_,O,?_⟩
    refine bi (fun c1=>?_) (fun c1=>iL ⟨_,_,_,_,_,bE,wl2,O,b4,vw,p6,qI,skip fun e=>?_⟩)
    .have e1:q.one=x:=by simpa using c1
     refine⟨_,O,_,O,D,_,O,ci.k (k:=UN _) b4.d,_,O,?_⟩
     refine bi (fun c2=>?_) (fun c2=>⟨_,_,_,_,_,bE,wl2,O,b4,vw,p6,qI,skip fun _=>?_⟩)
     .have hn:has bE q.other=K':=by
       unfold has
       simpa using c2
      obtain⟨vx,Bj⟩:=Xj.mp qI
      obtain⟨rx,zs,rfl,HI,QQ,px,zx,_⟩:=b4.ok x vx Bj
      have gx:ci H' D (.str x) (f' (.ref rx)):=by
       rw[← Bj]
       exact ci.k (k:=UN x) b4.d
      have kb:=b4.k
      refine⟨_,O,_,O,D,_,O,gx,_,O,(by show 1≤S';decide),fun z nz=>⟨rx,z,_,_,O,O,ae.new nz _ _ HI,ag,(by rw[Q3,Q9];show _ + 1≤_;lia),fun r2 wB=>?_⟩⟩
      have s5:ae H' (upd (upd H' z (.lst [V.int q.num])) r2 (.lst (zs.map V.int++[V.int q.num]))):=(ae.new nz).trans (ae.new wB)
      have h5:upd (upd H' z (.lst [V.int q.num])) r2 (.lst (zs.map V.int++[V.int q.num])) r2=f' (.lst ((zs++[q.num]).map V.int)):=by rw[ag,Q8];rfl
      have n5:r2≠wt:=fun e=>by
       have:=ae.new (o:=.lst [V.int q.num]) nz _ _ b4.w
       rw[← e,wB] at this
       cases this
      have n6:H r2=i':=by
       cases e:H r2 with
       | none=>rfl
       | some o=>
        have:=ae.new (o:=.lst [V.int q.num]) nz _ _ (b4.old _ _ e)
        rw[wB] at this
        cases this
      generalize upd (upd H' z (.lst [V.int q.num])) r2 (.lst (zs.map V.int++[V.int q.num]))=H5 at s5 h5 ⊢
      have b5:=b4.same s5
      refine⟨_,O,_,O,D,_,O,.inl ⟨bE,UN q.other,b5.d,O,by rw[Q9];lia,O⟩,?_⟩
      rw[sy (.ref r2) (by unfold has at hn;simpa using hn)]
      have b6:=b5.put hD (UM om) tz (by rw[e1];exact px) h5 n5 n6 hn zx
      have Qy:=Fc (v:=.ref r2) tz hn
      have up:∀ y,has bE y=B'→has (bE++[(UN q.other,V.ref r2)]) y=B':=fun y hy=>by rw[md hn,hy,SH]
      generalize upd H5 D (.dK (bE++[(UN q.other,V.ref r2)]))=H6 at b6 ⊢
      have QR:=b6.wk
      have QH:=b4.wk
      refine⟨_,O,.inl ⟨O,_,P'.of b6.w⟩,_,O,wt,_,_,O,O,b6.w,(by rw[Q3,Q9];lia),?_⟩
      have h7:wl2.map V.str++[V.str q.other]=(wl2++[q.other]).map V.str:=by rw[Q8];rfl
      have Af:(wl2++[q.other]).length=wl2.length + 1:=by rw[Ro];rfl
      rw[h7]
      have b7:=b6.Qef (wl2:=wl2++[q.other]) d9 (UM om) (fun y hy=>by
       rcases V9.mp hy with h1|h1
       .exact b6.sub y h1
       .rw[Vb.mp h1,md hn,Rj rfl];rfl) (by lia)
      refine⟨_,_,_,_,_,_,wl2++[q.other],O,b7,by lia,fun y hy=>?_,up _ qI,fun y hy e=>?_⟩
      .rw[md hn] at hy
       by_cases zz:y=q.other
       .exact .inl (RA _ (by rw[zz];exact Vb.mpr O))
       .rw[Rs zz,Um] at hy
        rcases p6 y hy with h1|h1|h1
        .exact .inl (Rz _ h1)
        .exact .inr (.inl h1)
        .exact .inr (.inr fun q' cO e'=>up _ (h1 q' cO e'))
      .rw[cM hq] at hy
       rcases V9.mp hy with h1|h1
       .exact up _ (lG y h1 e)
       .rw[Vb.mp h1,md hn,Rj rfl];rfl
     .unfold has
      simpa using c2
    .have:¬ q.one=x:=by simpa using c1
     exact UR e this
   .rintro σ H' ⟨u6,u7,u8,u9,JA,bE,wl2,rfl,b4,vw,p6,qI,lG⟩
    rw[← iD,Rt] at lG
    refine⟨wl2.length + 2 * ke ar bE,?_,_,_,_,_,_,_,bE,wl2,O,O,b4,fun y hy=>?_⟩
    .have:(x::gh).length=gh.length + 1:=rfl
     lia
    .rcases p6 y hy with h1|h1|h1
     .exact .inl h1
     .exact .inr fun q hq e=>lG q hq (e.trans h1)
     .exact .inr h1
  .obtain rfl:wl=[]:=by
    cases wl with
    | nil=>rfl
    | cons x gh=>cases c
   have vy:=b2.QmZ (fun x hx=>(Bm x hx).resolve_left (fun z=>by cases z)) t
   refine⟨_,O,D,O,.inl ⟨_,.inl b2.d⟩,_,O,_,ci.k (k:=UN t) b2.d,?_⟩
   cases e:a8 kvs (UN t) with
   | none=>
    refine k2 (fun z=>?_) H2 b2.old
    have:=vy.mpr z
    unfold has at this
    rw[e] at this
    cases this
   | some v=>
    obtain⟨r,zs,rfl,h1,h2,h3,h4,h5⟩:=b2.ok t v e
    have:=b2.k
    exact k1 r zs H2 h3 b2.old h1 (by lia) h5
end
open Classical in
def dI (ks:List Ar) (q:Ar):List Ar:=if iV ks q.other q.one then ks else ks++[q]
def jJ (ar:List Ar):List Ar:=ar.foldl dI []
open Classical in
def k9 (kf:List Ar×List Int) (q:Ar):List Ar×List Int:=if iV kf.1 q.other q.one then(kf.1,kf.2++[q.num]) else(kf.1++[q],kf.2)
def fz (ar:List Ar):List Int:=(ar.foldl k9 ([],[])).2
def WN (ks:List Ar) (q:Ar):Bool:=(ks.map WM).any fun e=>VN e (WM q)
theorem rM {ks:List Ar}{q:Ar} (h:iV ks q.other q.one):dI ks q=ks:=by unfold dI;rw[UH h]
theorem o6 {ks:List Ar}{q:Ar} (h:¬ iV ks q.other q.one):dI ks q=ks++[q]:=by unfold dI;rw[UF h]
theorem LS {ks:List Ar}{fs:List Int}{q:Ar} (h:iV ks q.other q.one):k9 (ks,fs) q=(ks,fs++[q.num]):=by unfold k9;rw[UH h]
theorem Eu {ks:List Ar}{fs:List Int}{q:Ar} (h:¬ iV ks q.other q.one):k9 (ks,fs) q=(ks++[q],fs):=by unfold k9;rw[UF h]
theorem C8:∀ (l ks:List Ar),(l.foldl dI ks).length≤ks.length + l.length
 | [],_=>Q7 _
 | q::l,ks=>by
  show(l.foldl dI (dI ks q)).length≤_
  have:=C8 l (dI ks q)
  by_cases h:iV ks q.other q.one
  .rw[rM h] at this ⊢
   rw[Rh]
   lia
  .rw[o6 h,Ro] at this
   rw[o6 h,Rh]
   have e:([q]:List Ar).length=1:=rfl
   lia
theorem yJ:∀ {l ks:List Ar}{x:Ar},x∈ks→x∈l.foldl dI ks
 | [],_,_,h=>h
 | q::l,ks,x,h=>by
  show x∈l.foldl dI (dI ks q)
  by_cases e:iV ks q.other q.one
  .rw[rM e];exact yJ h
  .rw[o6 e];exact yJ (Rz _ h)
theorem yn:∀ {l ks:List Ar}{x:Ar},x∈l.foldl dI ks→x∈ks∨x∈l
 | [],_,_,h=>.inl h
 | q::l,ks,x,h=>by
  replace h:x∈l.foldl dI (dI ks q):=h
  by_cases e:iV ks q.other q.one
  .rw[rM e] at h
   rcases yn h with z|z
   .exact .inl z
   .exact .inr (Rc _ z)
  .rw[o6 e] at h
   rcases yn h with z|z
   .rcases V9.mp z with z|z
    .exact .inl z
    .exact .inr (Vb.mp z ▸ Rr)
   .exact .inr (Rc _ z)
theorem On {ks:List Ar}{q:Ar} (h:WN ks q=B'):∃ e∈ks,e.num=q.num:=by
 obtain⟨d,hd,e⟩:=Qaf.mp h
 obtain⟨k,hk,rfl⟩:=Wq.mp hd
 refine⟨k,hk,?_⟩
 have z:(VN (.int k.num) (.int q.num) && dO [.str k.one,.str k.other,.int k.span,.int k.weight] [.str q.one,.str q.other,.int q.span,.int q.weight])=B':=e
 have:=((Rn _ _).mp z).1
 exact eq_of_beq this
theorem MS {ks:List Ar}{q:Ar} (h:q∈ks):WN ks q=B':=Qaf.mpr ⟨WM q,Wq.mpr ⟨q,h,O⟩,ut _⟩
theorem yy:∀ (l ks:List Ar) (fs:List Int) (F:List Ar),F=l.foldl dI ks→(l.map Ar.num).Nodup→(∀ x∈ks,∀ q∈l,x.num≠q.num)→(l.foldl k9 (ks,fs)).2=fs++(l.filter fun q=>!WN F q).map Ar.num
 | [],_,fs,_,_,_,_=>by simp
 | q::l,ks,fs,F,hF,nd,ap=>by
  have iA:(q.num::l.map Ar.num).Nodup:=nd
  rw[XD] at iA
  replace hF:F=l.foldl dI (dI ks q):=hF
  show(l.foldl k9 (k9 (ks,fs) q)).2=_
  by_cases h:iV ks q.other q.one
  .rw[LS h]
   rw[rM h] at hF
   rw[yy l ks _ F hF iA.2 fun x hx z hz=>ap x hx z (Rc _ hz)]
   have hq:WN F q=K':=by
    cases e:WN F q with
    | false=>rfl
    | true=>
     obtain⟨k,hk,en⟩:=On e
     rw[hF] at hk
     rcases yn hk with z|z
     .exact UR en (ap k z q Rr)
     .exact UR (Wq.mpr ⟨k,z,en⟩) iA.1
   rw[RM,hq,UH (by rfl),RL,Sn]
   rfl
  .rw[Eu h]
   rw[o6 h] at hF
   rw[yy l _ fs F hF iA.2 fun x hx z hz=>by
    rcases V9.mp hx with y|y
    .exact ap x y z (Rc _ hz)
    .rw[Vb.mp y]
     exact fun e=>iA.1 (Wq.mpr ⟨z,hz,e.symm⟩)]
   have hq:WN F q=B':=MS (by rw[hF];exact yJ (RA _ (Vb.mpr O)))
   rw[RM,hq,UF (by decide)]
theorem O9 {ar:List Ar} (nd:(ar.map Ar.num).Nodup):(ar.filter fun q=>!WN (jJ ar) q).map Ar.num=fz ar:=by
 unfold fz
 rw[yy ar [] [] (jJ ar) rfl nd fun x hx=>by cases hx]
 rfl
section
variable {K:R'}
def Qm2 (K:R') (C:F'):Sp:=fun vs H Q _=>∃ p r v,vs=[.ref p]∧bF K C H p r v∧v.arr.length≤100∧∀ k ys H',ae H H'→H k=i'→H' k=f' (.lst ys)→bv K H' ((jJ v.arr).map WM) ys→Q (.ref k) H'
theorem M5 (T:Tx K mg a):Vd P w K mg base U8 2 "kept_arrows" ["net"] [] (Qm2 K a.Net):=T.Qi3.U2 fun f fd F=>by
 have pY:=Qm1 (P:=P) (w:=w) (base:=base) T
 have YM:=xN (P:=P) (w:=w) (base:=base) T
 refine F.ok xJ (fun vs H Q E h=>?_) (fun ay A outer s H vs Q E hr h=>?_)
 .obtain⟨p,r,v,rfl,_⟩:=h
  rfl
 .obtain⟨p,r,v,rfl,N,hk,k⟩:=h
  refine⟨_,(ao (aW (i:=1) xJ.nd O (by first|exact UL rfl|exact UK O) (bY ai))
   (ao (ei Wb rfl (bV (jj (pv 0) T.Va YM (hr.mono (by decide)))) (aG (i:=2) xJ.nd O (by first|exact UL rfl|exact UK O)) (ak (aU (ko (uz (bC pY (hr.mono (by decide)) rfl (af (pv 1) (af (aK ff (pv 2) au (fun _ _=>O)) (af (aK ff (pv 2) au (fun _ _=>O)) ai)))))) (ak (bp (ej V5 Wo Wy fS (pv 1) (af (pv 2) ai)))) aQ)))
   (ak (aN (pv 1))))),?_⟩
  refine⟨(by show 0≤S';decide),fun g ng=>?_⟩
  have s1:ae H (upd H g (.lst [])):=ae.new ng
  have h1:upd H g (.lst []) g=f' (.lst []):=ag
  generalize upd H g (.lst [])=H1 at s1 h1 ⊢
  have N1:=N.same s1
  obtain⟨dx,hp⟩:=N1.ex
  refine⟨_,O,p,dx,_,O,hp,by rfl,p,r,v,O,N1,by rw[Q3];lia,fun l H2 xs s2 nl h2 d2 _=>?_⟩
  have iD:v.arr.length=xs.length:=by rw[← d2.length,Q3]
  have Jr:l≠g:=fun e=>by rw[e,h1] at nl;cases nl
  refine⟨l,O,⟨_,P'.of h2⟩,iN (K:=K) (a:=l) (xs:=xs) (fun i σ H'=>∃ v2 ys,σ=[f' (.ref p),f' (.ref g),v2]∧(∀ b o,H2 b=f' o→b≠g→H' b=f' o)∧H' g=f' (.lst ys)∧bv K H' (((v.arr.take i).foldl dI []).map WM) ys)
   ⟨i',[],rfl,fun b o e _=>e,s2 _ _ h1,O⟩ ?_ ?_ ?_⟩
  .rintro i σ H' _ ⟨_,_,rfl,o3,_⟩
   exact P'.of (o3 _ _ h2 Jr)
  .rintro i x σ H3 hx ⟨v2,ys,rfl,o3,h3,d3⟩
   have Jc:Tk H2 H3:=fun b o e z=>o3 b o e (fun q=>by rw[q,s2 _ _ h1] at e;cases e;cases z)
   obtain⟨q,hq,dq⟩:=gv d2 hx
   obtain⟨t,rfl,qE⟩:=uq dq
   have ht:=Jc.VI qE
   have kl:=C8 (v.arr.take i) []
   have vJ:(v.arr.take i).length≤100:=by rw[Rm];lia
   have sP:ys.length≤100:=by
    rw[← d3.length,Q3]
    have e:([]:List Ar).length=0:=rfl
    lia
   have e1:(v.arr.take (i + 1)).foldl dI []=dI ((v.arr.take i).foldl dI []) q:=by
    rw[cM hq,Sr]
    rfl
   dsimp only[bL]
   refine⟨_,O,_,O,t,_,_,_,O,O,ht,O,_,O,t,_,_,_,O,O,ht,O,g,(v.arr.take i).foldl dI [],q.other,q.one,O,⟨ys,P'.of h3,d3⟩,by rw[← Q3 (f:=WM),d3.length];exact sP,fun r2 zs H4 pt s4 h4 _ _=>?_,fun JP H4 s4=>?_⟩
   .refine⟨_,O,dP O ?_⟩
    refine⟨_,ys,O,fun b o e ne=>s4 _ _ (o3 b o e ne),s4 _ _ h3,?_⟩
    rw[e1,rM ⟨zs,pt⟩]
    exact s4.U' d3
   .refine⟨_,O,ji O ?_⟩
    have h4:=s4 _ _ h3
    refine⟨_,O,.inl ⟨O,_,P'.of h4⟩,_,O,g,_,_,O,O,h4,by rw[Q9];lia,?_⟩
    have tk:Tk H4 (upd H4 g (.lst (ys++[.ref t]))):=Tk.upd h4 rfl
    refine⟨_,_,O,fun b o e ne=>by rw[aj ne];exact s4 _ _ (o3 b o e ne),ag,?_⟩
    rw[e1,o6 JP,Q8]
    exact bv.snoc (yk (tk.VI (s4.VI ht))) (tk.U' (cu (fun _=>O) _) (s4.U' d3))
  .rintro σ H3 ⟨v2,ys,rfl,o3,h3,d3⟩
   rw[← iD,Rt] at d3
   exact⟨_,O,k g ys H3 (fun b o e=>o3 b o (s2 _ _ (s1 _ _ e)) (aq e ng)) ng h3 d3⟩
def Od (K:R') (C:F'):Sp:=fun vs H Q _=>∃ p r v,vs=[.ref p]∧bF K C H p r v∧v.arr.length≤100∧(v.arr.map Ar.num).Nodup∧∀ k H',ae H H'→H k=i'→H' k=f' (.lst ((fz v.arr).map V.int))→Q (.ref k) H'
theorem Kq (T:Tx K mg a):Vd P w K mg base U8 3 "turned" ["net"] [] (Od K a.Net):=T.Qi4.U2 fun f fd F=>by
 have dX:=M5 (P:=P) (w:=w) (base:=base) T
 have YM:=xN (P:=P) (w:=w) (base:=base) T
 refine F.ok Fk (fun vs H Q E h=>?_) (fun ay A outer s H vs Q E hr h=>?_)
 .obtain⟨p,r,v,rfl,_⟩:=h
  rfl
 .obtain⟨p,r,v,rfl,N,hk,nd,k⟩:=h
  refine⟨_,(ao (aW (i:=1) Fk.nd O (by first|exact UL rfl|exact UK O) (bC dX (hr.mono (by decide)) rfl (af (pv 0) ai)))
   (ak (aN (cF (N:=["arrow","kept"]) (cap:=[i',f' 1]) O (cz (osc:=az zK) (XN:=["net","kept"]) O O (by decide +kernel)) (bV (jj (pv 0) T.Va YM (hr.mono (by decide)))) (fun cl C s H fp aa=>(aG (i:=0) (show(["arrow","kept"]:List C').Nodup by decide +kernel) rfl (by first|exact UL rfl|exact UK O))) (fun cl C s H fp aa=>xT (bf (NN (K:=K) O hr.units) (pv 0) (pv 1) (by with_unfolding_all rfl))) (fun cl C s H fp aa=>(aK (kY (K:=K) O) (pv 0) au (fun _ _=>O))))))),?_⟩
  refine⟨_,O,p,r,v,O,N,hk,fun g ys H1 s1 ng h1 d1=>?_⟩
  have N1:=N.same s1
  obtain⟨dx,hp⟩:=N1.ex
  refine⟨_,O,p,dx,_,O,hp,by rfl,p,r,v,O,N1,by rw[Q3];lia,fun l H2 xs s2 nl h2 d2 _=>?_⟩
  have iD:v.arr.length=xs.length:=by rw[← d2.length,Q3]
  refine⟨l,O,⟨_,P'.of h2⟩,fun D hD=>?_⟩
  refine fq (K:=K) (a:=l) (xs:=xs) (fun i τ H'=>∃ v1,τ=[v1,f' (.ref g)]∧ae H2 H'∧H' D=f' (.lst ((((v.arr.take i).filter fun q=>!WN (jJ v.arr) q).map Ar.num).map V.int))) ⟨i',O,ae.new hD,ag⟩ ?_ ?_ ?_
  .rintro i τ H' _ ⟨v1,rfl,sm,hy⟩
   exact P'.of (sm _ _ h2)
  .rintro i x τ H' hx ⟨v1,rfl,sm,hy⟩
   obtain⟨q,hq,dq⟩:=gv d2 hx
   obtain⟨t,rfl,ht⟩:=uq (sm.dt dq)
   have fl:(v.arr.take (i + 1)).filter (fun q=>!WN (jJ v.arr) q)=(v.arr.take i).filter (fun q=>!WN (jJ v.arr) q)++(if (!WN (jJ v.arr) q)=B' then[q] else[]):=by
    rw[cM hq,Tb]
    cases e:WN (jJ v.arr) q <;> simp[e]
   dsimp only[bL]
   refine⟨_,O,_,O,g,(jJ v.arr).map WM,ys,WM q,O,P'.of (sm _ _ (s2 _ _ h1)),sm.U' (s2.U' d1),yk ht,Fs (fun q=>Nr q) _,_,O,?_⟩
   show if (!WN (jJ v.arr) q)=B' then _ else _
   refine bi (fun c=>?_) (fun c=>?_)
   .refine⟨_,O,t,_,_,_,O,O,ht,O,_,hy,?_,_,O,?_,?_⟩
    .rw[Q3,Q3,Q9]
     have:=Si (fun q=>!WN (jJ v.arr) q) (v.arr.take i)
     rw[Rm] at this
     lia
    .intro b u e
     rw[aj (aq e hD)]
     exact sm b u e
    .rw[ag,fl,UH c,Q8,Q8]
     rfl
   .refine⟨_,O,sm,?_⟩
    rw[fl,UF (by rw[c];decide),Sx]
    exact hy
  .rintro τ H' ⟨v1,rfl,sm,hy⟩
   rw[← iD,Rt,O9 nd] at hy
   have s3:=s1.trans (s2.trans sm)
   refine k D H' s3 ?_ hy
   cases e:H D with
   | none=>rfl
   | some o=>
    rw[(s1.trans s2) _ _ e] at hD
    cases hD
end
end Nt
theorem Ez {k:Key}:∀ (kvs m:List (Key×V)),(∀ kv∈kvs,kv.1≠k)→a8 (kvs.foldl fR m) k=a8 m k
 | [],_,_=>rfl
 | kv::r,m,h=>by
  show a8 (r.foldl fR (fR m kv)) k=_
  rw[Ez r _ fun x hx=>h x (Rc _ hx)]
  unfold fR
  rw[tO,UF (UM (h kv Rr))]
theorem B6 {α:Type}{x:α}:∀ {l:List α}{i:Nat},l[i]?=f' x→l=l.take i++x::l.drop (i + 1)
 | y::l,0,h=>by
  obtain rfl:y=x:=VE h
  rfl
 | y::l,i + 1,h=>by
  show y::l=y::(l.take i++x::l.drop (i + 1))
  rw[← B6 (show l[i]?=f' x from h)]
theorem LQ {kvs:List (Key×V)}{kv:Key×V} (nd:(kvs.map (·.1)).Nodup) (h:kvs[i]?=f' kv):a8 (WC kvs) kv.1=f' kv.2:=by
 have es:=B6 h
 generalize kvs.take i=l at es
 generalize kvs.drop (i + 1)=r at es
 subst es
 unfold WC
 rw[Sr]
 show a8 (r.foldl fR (fR (l.foldl fR []) kv)) kv.1=_
 rw[Q8,RL,Qfi,XD] at nd
 rw[Ez r _ fun x hx e=>nd.2.1.1 (Wq.mpr ⟨x,hx,e⟩)]
 unfold fR
 rw[tO,UH rfl]
def ix (ws:List C') (n:C'):Int:=(ws.idxOf n:Nat)
theorem Qm3 {n:C'} (h:n∈ws):ws[ws.idxOf n]?=f' n:=by
 have:=TH h
 rw[Rf this,List.getElem_idxOf]
def fh:Nat→List C'→List (Key×V)
 | _,[]=>[]
 | i,n::r=>(UN n,.int (i:Int))::fh (i + 1) r
theorem yP:∀ (ws:List C') (i:Nat),(fh i ws).length=ws.length
 | [],_=>rfl
 | n::r,i=>by show(fh (i + 1) r).length + 1=_;rw[yP r];rfl
theorem Ci:∀ (ws:List C') (i:Nat),(fh i ws).map (·.1)=ws.map UN
 | [],_=>rfl
 | n::r,i=>by show UN n::(fh (i + 1) r).map (·.1)=_;rw[Ci r];rfl
theorem Cy:∀ (ws:List C') (i j:Nat) (n:C'),ws[j]?=f' n→(fh i ws)[j]?=f' (UN n,.int ((i + j:Nat):Int))
 | x::r,i,0,n,h=>by
  obtain rfl:x=n:=VE h
  rfl
 | x::r,i,j + 1,n,h=>by
  show(fh (i + 1) r)[j]?=_
  rw[Cy r (i + 1) j n h]
  congr 3
  lia
theorem Eh:∀ (ws:List C') (i:Nat) (n:C'),fh i (ws++[n])=fh i ws++[(UN n,.int ((i + ws.length:Nat):Int))]
 | [],i,n=>rfl
 | x::r,i,n=>by
  show _::fh (i + 1) (r++[n])=_::(fh (i + 1) r++_)
  rw[Eh r (i + 1) n,Rh,show i + 1 + r.length=i + (r.length + 1) by lia]
def Qaa (ws:List C'):List (Key×V):=WC (fh 0 ws)
theorem zo  (nd:ws.Nodup){n:C'} (h:n∈ws):a8 (Qaa ws) (UN n)=f' (.int (ix ws n)):=by
 have h1:=Cy ws 0 _ n (Qm3 h)
 have iA:((fh 0 ws).map (·.1)).Nodup:=by
  rw[Ci,TL,List.pairwise_map]
  rw[TL] at nd
  exact nd.imp fun z e=>z (W0 e)
 have:=LQ iA h1
 rw[T3] at this
 exact this
section
variable {K:R'}
theorem fw.tk {H H':Hp} (t:Tk H H'):∀ {kvs:List (Key×V)}{ys:List V},fw K H kvs ys→fw K H' kvs ys
 | [],_,h=>h
 | _::_,_,h=>by
  obtain⟨q,kT,e,h1,h2⟩:=h
  exact⟨q,kT,e,t.VI h1,fw.tk t h2⟩
theorem fw.snoc {H:Hp}{kv:Key×V}{t:F'} (ht:UW K H t [kV kv.1,kv.2]):∀ {kvs:List (Key×V)}{ys:List V},fw K H kvs ys→fw K H (kvs++[kv]) (ys++[.ref t])
 | [],_,h=>by
  obtain rfl:_=[]:=h
  exact⟨t,[],O,ht,O⟩
 | _::_,_,h=>by
  obtain⟨q,kT,rfl,h1,h2⟩:=h
  exact⟨q,_,O,h1,fw.snoc ht h2⟩
theorem fw.len {H:Hp}:∀ {kvs:List (Key×V)}{ys:List V},fw K H kvs ys→kvs.length=ys.length
 | [],_,h=>by rw[show _=[] from h];rfl
 | _::_,_,h=>by
  obtain⟨q,kT,rfl,h1,h2⟩:=h
  rw[Rh,Rh,fw.len h2]
end
namespace Nt
def gq (ws:List C') (tn:List Int) (q:Ar):Wi:=if q.num∈tn then(ix ws q.other,ix ws q.one,q.span,q.weight) else(ix ws q.one,ix ws q.other,q.span,q.weight)
def mi (ws:List C') (q:C'×C'):List Wi:=[(ix ws q.1,ix ws q.2,0,0),(ix ws q.2,ix ws q.1,0,0)]
def rR (ws:List C') (q:C'×C'×Int):Wi:=(ix ws q.2.1,ix ws q.1,0 - q.2.2,0)
def fc (ws:List C') (v:bq):List Wi:=v.arr.map (gq ws (fz v.arr))++v.ss.flatMap (mi ws)++v.mm.map (rR ws)
section
variable {K:R'}
structure Acc (K:R') (g:F') (B H:Hp) (dn:List Wi):Prop where
 old:∀ b o,B b=f' o→b≠g→H b=f' o
 tp:∀ ys,H g=f' (.lst ys)→V4 H ys
 l:∃ ys,H g=f' (.lst ys)∧bv K H (dn.map wD) ys
theorem Acc.put {g z:F'}{B:Hp}{dn:List Wi}{ys:List V}{q:Wi} (old:∀ b o,B b=f' o→b≠g→H b=f' o) (tp:V4 H ys) (hy:H g=f' (.lst ys)) (dy:bv K H (dn.map wD) ys) (s:ae H H1) (hz:H1 z=f' (.tup (wV q))):Acc K g B (upd H1 g (.lst (ys++[.ref z]))) (dn++[q]):=by
 have zY:=s _ _ hy
 have tk:Tk H1 (upd H1 g (.lst (ys++[.ref z]))):=Tk.upd zY rfl
 have F0:z≠g:=bN hz zY (by intro q;cases q)
 refine⟨fun b o e ne=>by rw[aj ne];exact s _ _ (old b o e ne),fun kT e=>?_,_,ag,?_⟩
 .rw[ag] at e
  cases e
  exact V4.snoc (tp.tk ((Tk.of s).trans tk)) (by rw[aj F0];exact hz)
 rw[Q8]
 exact bv.snoc (QmJ (tk.VI (UW.of hz))) (tk.U' (cu (fun _=>O) _) (s.U' dy))
structure Wn (ws:List C') (v:bq):Prop where
 keys:jB v.kvs=ws.map V.str
 nd:ws.Nodup
 len:ws.length≤100
 nums:(v.arr.map Ar.num).Nodup
 la:v.arr.length≤100
 ls:v.ss.length≤100
 lm:v.mm.length≤100
 ea:∀ q∈v.arr,q.one∈ws∧q.other∈ws
 es:∀ q∈v.ss,q.1∈ws∧q.2∈ws
 em:∀ q∈v.mm,q.1∈ws∧q.2.1∈ws
def Qd (K:R') (C:F'):Sp:=fun vs H Q _=>∃ p r v ws,vs=[.ref p]∧bF K C H p r v∧Wn ws v∧∀ l ys H',ae H H'→H l=i'→H' l=f' (.lst ys)→bv K H' ((fc ws v).map wD) ys→V4 H' ys→Q (.ref l) H'
theorem Kh (l:List Int):(l.map V.int).all jb=B':=by
 induction l with
 | nil=>rfl
 | cons x l ih=>exact ih
theorem O5 (n:Int) (l:List Int):XZ (.int n) (l.map V.int)=decide (n∈l):=by
 induction l with
 | nil=>rfl
 | cons x l ih=>
  show(WK (.int x) (.int n) || XZ (.int n) (l.map V.int))=_
  rw[ih]
  by_cases h:x=n
  .subst h
   simp[WK]
  .simp[WK,h,UM h]
theorem uN (ws:List C'):∀ l:List (C'×C'),(l.flatMap (mi ws)).length=2 * l.length
 | []=>rfl
 | q::l=>by rw[List.flatMap_cons,Ro,uN ws l,Rh];show 2 + _=_;lia
theorem zG (T:Tx K mg a):Vd P w K mg base U8 4 "wishes_of" ["net"] [] (Qd K a.Net):=T.Qi6.U2 fun f fd F=>by
 have jo:=Kq (P:=P) (w:=w) (base:=base) T
 have WV:=py (P:=P) (w:=w) (base:=base) T
 have YM:=xN (P:=P) (w:=w) (base:=base) T
 have QbW:=Mg (P:=P) (w:=w) (base:=base) T
 have QbX:=OP (P:=P) (w:=w) (base:=base) T
 refine F.ok ii (fun vs H Q E h=>?_) (fun ay A outer s H vs Q E hr h=>?_)
 .obtain⟨p,r,v,ws,rfl,_⟩:=h
  rfl
 .obtain⟨p,r,v,ws,rfl,N,W,k⟩:=h
  obtain⟨dx,hp⟩:=N.ex
  refine⟨_,(ao (aW (i:=1) ii.nd O (by first|exact UL rfl|exact UK O) (mh LA O T.Qea Ce (af (cF (N:=["number","name"]) (cap:=[i',i']) O (cz (osc:=az zS) (XN:=["net","numbers","turned_about","wishes","number","one","other","span","weight"]) O O (by decide +kernel)) (uT rfl T.QaM (af (jj (pv 0) T.Va WV (hr.mono (by decide))) ai)) (fun cl C s H fp aa=>(kW (K:=K) (n:=2) O O (bo (aG (i:=0) (show(["number","name"]:List C').Nodup by decide +kernel) rfl (by first|exact UL rfl|exact UK O)) (bo (aG (i:=1) (show(["number","name"]:List C').Nodup by decide +kernel) rfl (by first|exact UL rfl|exact UK O)) fu)))) (fun cl C s H fp aa=>cR) (fun cl C s H fp aa=>(gk (af (pv 1) (af (pv 0) ai))))) ai)))
   (ao (aW (i:=2) ii.nd O (by first|exact UL rfl|exact UK O) (bC jo (hr.mono (by decide)) rfl (af (pv 0) ai)))
   (ao (aW (i:=3) ii.nd O (by first|exact UL rfl|exact UK O) (bY ai))
   (ao (ei Wb rfl (bV (jj (pv 0) T.Va YM (hr.mono (by decide)))) (kj rfl (bo (aG (i:=4) ii.nd O (by first|exact UL rfl|exact UK O)) (bo (aG (i:=5) ii.nd O (by first|exact UL rfl|exact UK O)) (bo (aG (i:=6) ii.nd O (by first|exact UL rfl|exact UK O)) (bo (aG (i:=7) ii.nd O (by first|exact UL rfl|exact UK O)) (bo (aG (i:=8) ii.nd O (by first|exact UL rfl|exact UK O)) fu)))))) (ak (aU (bf B7 (pv 4) (pv 2) (by with_unfolding_all rfl)) (ak (bp (ej V5 Wo Wy fS (pv 3) (af (gk (af (gb (cI hr) (pv 1) (pv 6) (fun _ _=>O)) (af (gb (cI hr) (pv 1) (pv 5) (fun _ _=>O)) (af (pv 7) (af (pv 8) ai))))) ai)))) (ak (bp (ej V5 Wo Wy fS (pv 3) (af (gk (af (gb (cI hr) (pv 1) (pv 5) (fun _ _=>O)) (af (gb (cI hr) (pv 1) (pv 6) (fun _ _=>O)) (af (pv 7) (af (pv 8) ai))))) ai)))))))
   (ao (ei Wb rfl (bV (jj (pv 0) T.Va QbW (hr.mono (by decide)))) (kj rfl (bo (aG (i:=5) ii.nd O (by first|exact UL rfl|exact UK O)) (bo (aG (i:=6) ii.nd O (by first|exact UL rfl|exact UK O)) fu))) (ao (bp (ej V5 Wo Wy fS (pv 3) (af (gk (af (gb (cI hr) (pv 1) (pv 5) (fun _ _=>O)) (af (gb (cI hr) (pv 1) (pv 6) (fun _ _=>O)) (af au (af au ai))))) ai)))
   (ak (bp (ej V5 Wo Wy fS (pv 3) (af (gk (af (gb (cI hr) (pv 1) (pv 6) (fun _ _=>O)) (af (gb (cI hr) (pv 1) (pv 5) (fun _ _=>O)) (af au (af au ai))))) ai))))))
   (ao (ei Wb rfl (bV (jj (pv 0) T.Va QbX (hr.mono (by decide)))) (kj rfl (bo (aG (i:=5) ii.nd O (by first|exact UL rfl|exact UK O)) (bo (aG (i:=6) ii.nd O (by first|exact UL rfl|exact UK O)) (bo (aG (i:=4) ii.nd O (by first|exact UL rfl|exact UK O)) fu)))) (ak (bp (ej V5 Wo Wy fS (pv 3) (af (gk (af (gb (cI hr) (pv 1) (pv 6) (fun _ _=>O)) (af (gb (cI hr) (pv 1) (pv 5) (fun _ _=>O)) (af (br jL au (pv 4)) (af au ai))))) ai)))))
   (ak (aN (pv 3))))))))),?_⟩
  refine⟨_,O,p,dx,_,O,hp,by rfl,p,r,v,O,N,fun l nl=>?_⟩
  rw[W.keys]
  have s1:ae H (upd H l (.lst (ws.map V.str))):=ae.new nl
  have h1:upd H l (.lst (ws.map V.str)) l=f' (.lst (ws.map V.str)):=ag
  generalize upd H l (.lst (ws.map V.str))=H1 at s1 h1 ⊢
  refine⟨l,O,⟨_,P'.of h1⟩,fun D hD=>?_⟩
  refine Lw (K:=K) (l:=l) (xs:=ws.map V.str) (fun j τ H'=>∃ v1 v2 us,τ=[v1,v2]∧ae H1 H'∧H' D=f' (.lst us)∧fw K H' (fh 0 (ws.take j)) us) ⟨i',i',[],rfl,ae.new hD,ag,by rw[SD];rfl⟩ ?_ ?_ ?_
  .rintro j τ H' _ ⟨_,_,_,rfl,sm,_⟩
   exact P'.of (sm _ _ h1)
  .rintro j y tt τ H' hy nt ⟨v1,v2,us,rfl,sm,vL,Ay⟩
   obtain⟨n,hn,rfl⟩:=Zq.mp ((Rx (f:=V.str) (l:=ws) (i:=j)).symm.trans hy)
   have hj:j<ws.length:=(VD.mp hn).1
   have hW:=W.len
   have ul:us.length≤j:=by
    rw[← fw.len Ay,yP,Rm]
    lia
   have s3:ae H' (upd H' tt (.tup [.int j,.str n])):=ae.new nt
   have Av:upd H' tt (.tup [.int j,.str n]) tt=f' (.tup [.int j,.str n]):=ag
   generalize upd H' tt (.tup [.int j,.str n])=H3 at s3 Av ⊢
   refine⟨tt,_,O,UW.of Av,O,_,_,O,_,_,O,O,?_⟩
   refine⟨_,O,_,O,(by show 2≤S';decide),fun z nz=>?_⟩
   have s4:ae H3 (upd H3 z (.tup [.str n,.int j])):=ae.new nz
   have BQ:upd H3 z (.tup [.str n,.int j]) z=f' (.tup [.str n,.int j]):=ag
   generalize upd H3 z (.tup [.str n,.int j])=H4 at s4 BQ ⊢
   have t4:=s3.trans s4
   have BZ:=t4 _ _ vL
   have tk:Tk H4 (upd H4 D (.lst (us++[.ref z]))):=Tk.upd BZ rfl
   refine⟨_,BZ,by rw[Q9];lia,_,_,_,O,fun b u e=>by rw[aj (aq e hD)];exact t4 _ _ (sm b u e),ag,?_⟩
   rw[cM hn,Eh,Rm,Ts (R9 hj),T3]
   exact fw.snoc (kv:=(UN n,.int (j:Int))) (tk.VI (UW.of BQ)) (((Tk.of t4).trans tk |> fun t=>fw.tk t Ay))
  rintro τ H2 ⟨v1,v2,us,rfl,s2,qr,p2⟩
  rw[Q3,Rt] at p2
  refine⟨D,us,fh 0 ws,O,P'.of qr,p2,by rw[yP];have:=W.len;lia,fun d nd=>?_⟩
  have s3:ae H2 (upd H2 d (.dK (Qaa ws))):=ae.new nd
  have tH:upd H2 d (.dK (Qaa ws)) d=f' (.dK (Qaa ws)):=ag
  change upd H2 d (.dK (WC (fh 0 ws))) d=_ at tH
  change ae H2 (upd H2 d (.dK (WC (fh 0 ws)))) at s3
  generalize upd H2 d (.dK (WC (fh 0 ws)))=H3 at s3 tH ⊢
  have t3:=s1.trans (s2.trans s3)
  have N3:=N.same t3
  refine⟨_,O,p,r,v,O,N3,W.la,W.nums,fun ab H4 s4 QO h4=>?_⟩
  refine⟨(by show 0≤S';decide),fun g ng=>?_⟩
  have mz:H g=i':=by
   cases e:H g with
   | none=>rfl
   | some o=>
    have:=s4 _ _ (t3 _ _ e)
    rw[ng] at this
    cases this
  have s5:ae H4 (upd H4 g (.lst [])):=ae.new ng
  have rg:upd H4 g (.lst []) g=f' (.lst []):=ag
  have dg:d≠g:=aq (s4 _ _ tH) ng
  have IW:ab≠g:=aq h4 ng
  generalize upd H4 g (.lst [])=H5 at s5 rg ⊢
  have Ae:=s5 _ _ (s4 _ _ tH)
  have Jl:=s5 _ _ h4
  have N5:=(N3.same s4).same s5
  have t5:ae H H5:=t3.trans (s4.trans s5)
  clear s4 s3 p2 qr s2 h1 s1 h4 N3 t3
  obtain⟨Gc,IL⟩:=N5.ex
  have wl:=W.la
  have QW:=W.ls
  have QY:=W.lm
  refine⟨_,O,p,Gc,_,O,IL,by rfl,p,r,v,O,N5,by rw[Q3];lia,fun l6 H6 xs s6 n6 h6 d6 _=>?_⟩
  have iD:v.arr.length=xs.length:=by rw[← d6.length,Q3]
  have lg:l6≠g:=fun e=>by rw[e,rg] at n6;cases n6
  refine⟨l6,O,⟨_,P'.of h6⟩,iN (K:=K) (a:=l6) (xs:=xs) (fun i σ H'=>∃ v4 v5 v6 v7 v8,σ=[f' (.ref p),f' (.ref d),f' (.ref ab),f' (.ref g),v4,v5,v6,v7,v8]∧Acc K g H6 H' ((v.arr.take i).map (gq ws (fz v.arr)))) ⟨i',i',i',i',i',rfl,⟨fun b o e _=>e,(fun ys e=>by rw[s6 _ _ rg] at e;cases e;exact V4.nil),[],s6 _ _ rg,by rw[SD];rfl⟩⟩ ?_ ?_ ?_⟩
  .rintro i σ H' _ ⟨_,_,_,_,_,rfl,A7⟩
   exact P'.of (A7.old _ _ h6 lg)
  .rintro i y σ H7 hy ⟨v4,v5,v6,v7,v8,rfl,A7⟩
   obtain⟨q,hq,dq⟩:=gv d6 hy
   have vJ:i<v.arr.length:=(VD.mp hq).1
   have IZ:Tk H6 H7:=fun b o e z=>A7.old b o e (fun w=>by rw[w,s6 _ _ rg] at e;cases e;cases z)
   obtain⟨tq,rfl,qq⟩:=uq dq
   have tz:=Rp hq
   obtain⟨e1,e2⟩:=W.ea q tz
   obtain⟨ys,i7,pS⟩:=A7.l
   have yl:ys.length≤i:=by
    rw[← pS.length,Q3,Q3,Rm]
    lia
   have qB:=A7.old _ _ (s6 _ _ Ae) dg
   have GE:=A7.old _ _ (s6 _ _ Jl) IW
   have gN:∀ n∈ws,ci H7 d (.str n) (f' (.int (ix ws n))):=fun n hn=>by
    rw[← zo W.nd hn]
    exact ci.k (k:=UN n) qB
   have et:(v.arr.take (i + 1)).map (gq ws (fz v.arr))=(v.arr.take i).map (gq ws (fz v.arr))++[gq ws (fz v.arr) q]:=by rw[cM hq,Q8];rfl
   refine⟨tq,_,O,IZ.VI qq,O,_,_,O,_,_,O,_,_,O,_,_,O,_,_,O,O,?_⟩
   refine⟨_,O,_,O,ab,_,O,.inl (P'.of GE),O,Kh _,_,O,?_⟩
   rw[O5]
   refine bi (fun c=>?_) (fun c=>?_)
   .have c':q.num∈fz v.arr:=Rv c
    refine⟨_,O,.inl ⟨O,_,P'.of i7⟩,_,O,_,O,d,_,O,gN _ e2,_,O,_,O,d,_,O,gN _ e1,_,O,_,O,(by show 4≤S';decide),fun z nz=>?_⟩
    have s8:=ae.new (o:=.tup [.int (ix ws q.other),.int (ix ws q.one),.int q.span,.int q.weight]) nz
    refine⟨g,_,_,O,O,s8 _ _ i7,by rw[Q9];lia,_,_,_,_,_,O,?_⟩
    rw[et]
    exact Acc.put A7.old (A7.tp _ i7) i7 pS s8 (by rw[ag];unfold gq;rw[UH c'];rfl)
   .have c':q.num∉fz v.arr:=RF c
    refine⟨_,O,.inl ⟨O,_,P'.of i7⟩,_,O,_,O,d,_,O,gN _ e1,_,O,_,O,d,_,O,gN _ e2,_,O,_,O,(by show 4≤S';decide),fun z nz=>?_⟩
    have s8:=ae.new (o:=.tup [.int (ix ws q.one),.int (ix ws q.other),.int q.span,.int q.weight]) nz
    refine⟨g,_,_,O,O,s8 _ _ i7,by rw[Q9];lia,_,_,_,_,_,O,?_⟩
    rw[et]
    exact Acc.put A7.old (A7.tp _ i7) i7 pS s8 (by rw[ag];unfold gq;rw[UF c'];rfl)
  rintro σ H7 ⟨v4,v5,v6,v7,v8,rfl,A7⟩
  rw[← iD,Rt] at A7
  have vz:∀ b o,H5 b=f' o→b≠g→H7 b=f' o:=fun b o e ne=>A7.old b o (s6 _ _ e) ne
  have t7:ae H H7:=fun b o e=>vz b o (t5 _ _ e) (aq e mz)
  have N7:=N.same t7
  have qB:=vz _ _ Ae dg
  obtain⟨y7,i7,pS⟩:=A7.l
  have HM:=A7.tp _ i7
  clear A7 vz d6 h6 s6 n6 lg iD
  obtain⟨Gd,Hu⟩:=N7.ex
  refine⟨_,O,p,Gd,_,O,Hu,by rfl,p,r,v,O,N7,by rw[Q3];lia,fun l6 H8 xs s8 n6 h6 d6 _=>?_⟩
  have iD:v.ss.length=xs.length:=by rw[← d6.length,Q3]
  have lg:l6≠g:=fun e=>by rw[e,i7] at n6;cases n6
  have lE:=s8 _ _ i7
  refine⟨l6,O,⟨_,P'.of h6⟩,iN (K:=K) (a:=l6) (xs:=xs) (fun i σ H'=>∃ v4 v5 v6 v7 v8,σ=[f' (.ref p),f' (.ref d),f' (.ref ab),f' (.ref g),v4,v5,v6,v7,v8]∧Acc K g H8 H' (v.arr.map (gq ws (fz v.arr))++(v.ss.take i).flatMap (mi ws))) ⟨v4,v5,v6,v7,v8,rfl,⟨fun b o e _=>e,(fun ys e=>by rw[lE] at e;cases e;exact HM.tk (Tk.of s8)),y7,lE,by rw[SD,List.flatMap_nil,Sx];exact s8.U' pS⟩⟩ ?_ ?_ ?_⟩
  .rintro i σ H' _ ⟨_,_,_,_,_,rfl,A9⟩
   exact P'.of (A9.old _ _ h6 lg)
  .rintro i y σ H9 hy ⟨v4,v5,v6,v7,v8,rfl,A9⟩
   obtain⟨⟨o,t⟩,hq,dq⟩:=gv d6 hy
   have vJ:i<v.ss.length:=(VD.mp hq).1
   have HW:Tk H8 H9:=fun b o e z=>A9.old b o e (fun w=>by rw[w,lE] at e;cases e;cases z)
   obtain⟨tq,rfl,qq⟩:=DB dq
   obtain⟨e1,e2⟩:=W.es _ (Rp hq)
   dsimp only at e1 e2
   obtain⟨ys,lM,sS⟩:=A9.l
   have fl:=uN ws (v.ss.take i)
   have yl:ys.length≤300:=by
    rw[← sS.length,Q3,Ro,Q3,fl,Rm]
    lia
   have sU:=A9.old _ _ (s8 _ _ qB) dg
   have gN:∀ {G:Hp},G d=f' (.dK (Qaa ws))→∀ n∈ws,ci G d (.str n) (f' (.int (ix ws n))):=fun hG n hn=>by
    rw[← zo W.nd hn]
    exact ci.k (k:=UN n) hG
   refine⟨tq,_,O,HW.VI qq,O,_,_,O,_,_,O,O,?_⟩
   refine⟨_,O,.inl ⟨O,_,P'.of lM⟩,_,O,_,O,d,_,O,gN sU _ e1,_,O,_,O,d,_,O,gN sU _ e2,(by show 4≤S';decide),fun z nz=>?_⟩
   have sa:=ae.new (o:=.tup [.int (ix ws o),.int (ix ws t),.int 0,.int 0]) nz
   refine⟨g,_,_,O,O,sa _ _ lM,by rw[Q9];lia,?_⟩
   have Aa:=Acc.put (q:=(ix ws o,ix ws t,0,0)) A9.old (A9.tp _ lM) lM sS sa ag
   have nW:upd (upd H9 z (.tup [.int (ix ws o),.int (ix ws t),.int 0,.int 0])) g (.lst (ys++[.ref z])) g=f' (.lst (ys++[.ref z])):=ag
   generalize upd (upd H9 z (.tup [.int (ix ws o),.int (ix ws t),.int 0,.int 0])) g (.lst (ys++[.ref z]))=Ha at Aa nW ⊢
   obtain⟨yb,BG,Gx⟩:=Aa.l
   rw[nW] at BG
   obtain rfl:ys++[.ref z]=yb:=by cases BG;rfl
   have tE:=Aa.old _ _ (s8 _ _ qB) dg
   refine⟨_,O,.inl ⟨O,_,P'.of nW⟩,_,O,_,O,d,_,O,gN tE _ e2,_,O,_,O,d,_,O,gN tE _ e1,(by show 4≤S';decide),fun z2 JQ=>?_⟩
   have sb:=ae.new (o:=.tup [.int (ix ws t),.int (ix ws o),.int 0,.int 0]) JQ
   refine⟨g,_,_,O,O,sb _ _ nW,by rw[Ro,Q9];show _ + 1<_;lia,?_⟩
   have Ab:=Acc.put (q:=(ix ws t,ix ws o,0,0)) Aa.old (Aa.tp _ nW) nW Gx sb ag
   refine⟨_,_,_,_,_,O,?_⟩
   have et:v.arr.map (gq ws (fz v.arr))++(v.ss.take (i + 1)).flatMap (mi ws)=v.arr.map (gq ws (fz v.arr))++(v.ss.take i).flatMap (mi ws)++[(ix ws o,ix ws t,0,0)]++[(ix ws t,ix ws o,0,0)]:=by
    rw[cM hq,List.flatMap_append,Sn,Sn]
    rfl
   rw[et]
   exact Ab
  rintro σ H9 ⟨v4,v5,v6,v7,v8,rfl,A9⟩
  rw[← iD,Rt] at A9
  have vQ:∀ b o,H7 b=f' o→b≠g→H9 b=f' o:=fun b o e ne=>A9.old b o (s8 _ _ e) ne
  have t9:ae H H9:=fun b o e=>vQ b o (t7 _ _ e) (aq e mz)
  have N9:=N.same t9
  have sU:=vQ _ _ qB dg
  obtain⟨y9,lM,sS⟩:=A9.l
  have JS:=A9.tp _ lM
  clear A9 vQ d6 h6 s8 n6 lg iD lE
  obtain⟨GL,F9⟩:=N9.ex
  refine⟨_,O,p,GL,_,O,F9,by rfl,p,r,v,O,N9,by rw[Q3];lia,fun l6 H8 xs s8 n6 h6 d6 _=>?_⟩
  have iD:v.mm.length=xs.length:=by rw[← d6.length,Q3]
  have lg:l6≠g:=fun e=>by rw[e,lM] at n6;cases n6
  have lE:=s8 _ _ lM
  refine⟨l6,O,⟨_,P'.of h6⟩,iN (K:=K) (a:=l6) (xs:=xs) (fun i σ H'=>∃ v4 v5 v6 v7 v8,σ=[f' (.ref p),f' (.ref d),f' (.ref ab),f' (.ref g),v4,v5,v6,v7,v8]∧Acc K g H8 H' (v.arr.map (gq ws (fz v.arr))++v.ss.flatMap (mi ws)++(v.mm.take i).map (rR ws))) ⟨v4,v5,v6,v7,v8,rfl,⟨fun b o e _=>e,(fun ys e=>by rw[lE] at e;cases e;exact JS.tk (Tk.of s8)),y9,lE,by rw[SD,Uu,Sx];exact s8.U' sS⟩⟩ ?_ ?_ ?_⟩
  .rintro i σ H' _ ⟨_,_,_,_,_,rfl,Aa⟩
   exact P'.of (Aa.old _ _ h6 lg)
  .rintro i y σ Ha hy ⟨v4,v5,v6,v7,v8,rfl,Aa⟩
   obtain⟨⟨o,t,m⟩,hq,dq⟩:=gv d6 hy
   have vJ:i<v.mm.length:=(VD.mp hq).1
   have Gv:Tk H8 Ha:=fun b o e z=>Aa.old b o e (fun w=>by rw[w,lE] at e;cases e;cases z)
   obtain⟨tq,rfl,qq⟩:=Ew dq
   obtain⟨e1,e2⟩:=W.em _ (Rp hq)
   dsimp only at e1 e2
   obtain⟨ys,mF,sE⟩:=Aa.l
   have fl:=uN ws v.ss
   have yl:ys.length≤400:=by
    rw[← sE.length,Q3,Ro,Ro,Q3,Q3,fl,Rm]
    lia
   have tE:=Aa.old _ _ (s8 _ _ sU) dg
   have gN:∀ n∈ws,ci Ha d (.str n) (f' (.int (ix ws n))):=fun n hn=>by
    rw[← zo W.nd hn]
    exact ci.k (k:=UN n) tE
   refine⟨tq,_,O,Gv.VI qq,O,_,_,O,_,_,O,_,_,O,O,?_⟩
   refine⟨_,O,.inl ⟨O,_,P'.of mF⟩,_,O,_,O,d,_,O,gN _ e2,_,O,_,O,d,_,O,gN _ e1,_,O,_,_,O,O,(by show 4≤S';decide),fun z nz=>?_⟩
   have sa:=ae.new (o:=.tup [.int (ix ws t),.int (ix ws o),.int (0 - m),.int 0]) nz
   refine⟨g,_,_,O,O,sa _ _ mF,by rw[Q9];lia,_,_,_,_,_,O,?_⟩
   have et:v.arr.map (gq ws (fz v.arr))++v.ss.flatMap (mi ws)++(v.mm.take (i + 1)).map (rR ws)=v.arr.map (gq ws (fz v.arr))++v.ss.flatMap (mi ws)++(v.mm.take i).map (rR ws)++[rR ws (o,t,m)]:=by
    rw[cM hq,Q8,← Sn]
    rfl
   rw[et]
   exact Acc.put Aa.old (Aa.tp _ mF) mF sE sa ag
  rintro σ Ha ⟨v4,v5,v6,v7,v8,rfl,Aa⟩
  rw[← iD,Rt] at Aa
  obtain⟨ya,mF,sE⟩:=Aa.l
  exact⟨_,O,k g ya Ha (fun b o e=>Aa.old b o (s8 _ _ (t9 _ _ e)) (aq e mz)) mz mF sE (Aa.tp _ mF)⟩
end
theorem ka {n:C'} (h:n∈ws):0≤ix ws n∧ix ws n<ws.length:=by
 have:=TH h
 unfold ix
 lia
theorem FK {v:bq} (W:Wn ws v):∀ q∈fc ws v,Z' ws.length q:=by
 intro q hq
 unfold fc at hq
 rcases V9.mp hq with hq|hq
 .rcases V9.mp hq with hq|hq
  .obtain⟨x,hx,rfl⟩:=Wq.mp hq
   obtain⟨e1,e2⟩:=W.ea x hx
   unfold gq
   split
   .exact⟨ka e2,ka e1⟩
   .exact⟨ka e1,ka e2⟩
  .obtain⟨x,hx,hq⟩:=Qfk.mp hq
   obtain⟨e1,e2⟩:=W.es x hx
   rcases RS.mp hq with rfl|hq
   .exact⟨ka e1,ka e2⟩
   .rw[Vb.mp hq]
    exact⟨ka e2,ka e1⟩
 .obtain⟨x,hx,rfl⟩:=Wq.mp hq
  obtain⟨e1,e2⟩:=W.em x hx
  exact⟨ka e2,ka e1⟩
theorem yZ:Small 0:=⟨by decide,by decide⟩
theorem NB {v:bq} (h:∀ q∈v.arr,Small q.weight):∀ q∈fc ws v,Small q.2.2.2:=by
 intro q hq
 unfold fc at hq
 rcases V9.mp hq with hq|hq
 .rcases V9.mp hq with hq|hq
  .obtain⟨x,hx,rfl⟩:=Wq.mp hq
   unfold gq
   split
   .exact h x hx
   .exact h x hx
  .obtain⟨x,hx,hq⟩:=Qfk.mp hq
   rcases RS.mp hq with rfl|hq
   .exact yZ
   .rw[Vb.mp hq]
    exact yZ
 .obtain⟨x,hx,rfl⟩:=Wq.mp hq
  exact yZ
theorem C6 {v:bq} (W:Wn ws v):(fc ws v).length≤400:=by
 unfold fc
 rw[Ro,Ro,Q3,Q3,uN]
 have:=W.la
 have:=W.ls
 have:=W.lm
 lia
def uV (kvs:U7) (ws:List C') (ps:List Int):Prop:=ps.length=ws.length∧∀ (i:Nat) (n:C'),ws[i]?=f' n→∃ z,ps[i]?=f' z∧a8 kvs (UN n)=f' (.int z)
section
variable {K:R'}
def Qa (K:R') (C:F'):Sp:=fun vs H Q _=>∃ p r v ws lv kvs ps,vs=[.ref p,.ref lv]∧bF K C H p r v∧Wn ws v∧H lv=f' (.dK kvs)∧uV kvs ws ps∧∀ l H',ae H H'→H l=i'→H' l=f' (.lst (ps.map V.int))→Q (.ref l) H'
theorem Fp (T:Tx K mg a):Vd P w K mg base U8 2 "places_by" ["net","levels"] [] (Qa K a.Net):=T.Qi7.U2 fun f fd F=>by
 have WV:=py (P:=P) (w:=w) (base:=base) T
 refine F.ok MW (fun vs H Q E h=>?_) (fun ay A outer s H vs Q E hr h=>?_)
 .obtain⟨p,r,v,ws,lv,kvs,ps,rfl,_⟩:=h
  rfl
 .obtain⟨p,r,v,ws,lv,kvs,ps,rfl,N,W,hl,⟨L1,L2⟩,k⟩:=h
  obtain⟨dx,hp⟩:=N.ex
  have hW:=W.len
  refine⟨_,(ak (aN (cF (N:=["name","levels"]) (cap:=[i',f' 1]) O (cz (osc:=az yO) (XN:=["net","levels"]) O O (by decide +kernel)) (bV (jj (pv 0) T.Va WV (hr.mono (by decide)))) (fun cl C s H fp aa=>(aG (i:=0) (show(["name","levels"]:List C').Nodup by decide +kernel) rfl (by first|exact UL rfl|exact UK O))) (fun cl C s H fp aa=>cR) (fun cl C s H fp aa=>(gb (cI hr) (pv 1) (pv 0) (fun _ _=>O)))))),?_⟩
  refine⟨_,O,p,dx,_,O,hp,by rfl,p,r,v,O,N,fun l nl=>?_⟩
  rw[W.keys]
  have s1:ae H (upd H l (.lst (ws.map V.str))):=ae.new nl
  have h1:upd H l (.lst (ws.map V.str)) l=f' (.lst (ws.map V.str)):=ag
  generalize upd H l (.lst (ws.map V.str))=H1 at s1 h1 ⊢
  refine⟨l,O,⟨_,P'.of h1⟩,fun D hD=>?_⟩
  refine fq (K:=K) (a:=l) (xs:=ws.map V.str) (fun j τ H'=>∃ v1,τ=[v1,f' (.ref lv)]∧ae H1 H'∧H' D=f' (.lst ((ps.take j).map V.int))) ⟨i',rfl,ae.new hD,ag⟩ ?_ ?_ ?_
  .rintro j τ H' _ ⟨_,rfl,sm,_⟩
   exact P'.of (sm _ _ h1)
  .rintro j y τ H' hy ⟨v1,rfl,sm,vL⟩
   obtain⟨n,hn,rfl⟩:=Zq.mp ((Rx (f:=V.str) (l:=ws) (i:=j)).symm.trans hy)
   obtain⟨z,hz,hv⟩:=L2 j n hn
   have gz:ci H' lv (.str n) (f' (.int z)):=by
    rw[← hv]
    exact ci.k (k:=UN n) (sm _ _ (s1 _ _ hl))
   dsimp only[bL]
   refine⟨_,O,_,O,lv,_,O,gz,_,vL,by rw[Q3,Rm,Q9];lia,_,O,fun b u e=>by rw[aj (aq e hD)];exact sm b u e,?_⟩
   rw[ag,cM hz,Q8]
   rfl
  rintro τ H2 ⟨v1,rfl,s2,qr⟩
  rw[Q3,← L1,Rt] at qr
  refine k D H2 (s1.trans s2) ?_ qr
  cases e:H D with
  | none=>rfl
  | some o=>
   have:=s1 _ _ e
   rw[hD] at this
   cases this
def Mf (K:R') (C:F'):Sp:=fun vs H Q _=>∃ p r v ws lv kvs ps,vs=[.ref p,.ref lv]∧bF K C H p r v∧Wn ws v∧H lv=f' (.dK kvs)∧uV kvs ws ps∧∀ H',ae H H'→Q (.bl ((fc ws v).all (keep ps))) H'
theorem Nc (T:Tx K mg a):Vd P w K mg base U8 5 "keeps_net" ["net","levels"] [] (Mf K a.Net):=T.Qi8.U2 fun f fd F=>by
 have WV:=py (P:=P) (w:=w) (base:=base) T
 have bg:=zG (P:=P) (w:=w) (base:=base) T
 have bU:=Fp (P:=P) (w:=w) (base:=base) T
 have mn:=Kk (P:=P) (w:=w) (base:=base) T
 refine F.ok M6 (fun vs H Q E h=>?_) (fun ay A outer s H vs Q E hr h=>?_)
 .obtain⟨p,r,v,ws,lv,kvs,ps,rfl,_⟩:=h
  rfl
 .obtain⟨p,r,v,ws,lv,kvs,ps,rfl,N,W,hl,L,k⟩:=h
  obtain⟨dx,hp⟩:=N.ex
  refine⟨_,(ak (aN (bC mn (hr.mono (by decide)) rfl (af (bj eZ rfl T.VP dm (af (jj (pv 0) T.Va WV (hr.mono (by decide))) ai)) (af (bC bg (hr.mono (by decide)) rfl (af (pv 0) ai)) (af (bC bU (hr.mono (by decide)) rfl (af (pv 0) (af (pv 1) ai))) ai)))))),?_⟩
  refine⟨_,O,p,dx,_,O,hp,by rfl,p,r,v,O,N,fun l nl=>?_⟩
  rw[W.keys]
  have s1:ae H (upd H l (.lst (ws.map V.str))):=ae.new nl
  have h1:upd H l (.lst (ws.map V.str)) l=f' (.lst (ws.map V.str)):=ag
  generalize upd H l (.lst (ws.map V.str))=H1 at s1 h1 ⊢
  refine⟨l,_,O,.inl (P'.of h1),_,O,p,r,v,ws,O,N.same s1,W,fun l2 ys H2 s2 n2 h2 d2 _=>?_⟩
  have t2:=s1.trans s2
  refine⟨_,O,_,O,p,r,v,ws,lv,kvs,ps,O,N.same t2,W,t2 _ _ hl,L,fun l3 H3 s3 n3 h3=>?_⟩
  refine⟨_,l2,fc ws v,l3,ps,O,⟨ys,P'.of (s3 _ _ h2),s3.U' d2⟩,P'.of h3,by have:=C6 W;lia,fun _ q hq=>by rw[L.1];exact FK W q hq,fun H4 s4=>?_⟩
  have e:nV ((ws.map V.str).length:Nat) (fc ws v) ps=(fc ws v).all (keep ps):=by
   unfold nV
   rw[Rj (by rw[L.1,Q3]),Uo]
  rw[e]
  exact k H4 (t2.trans (s3.trans s4))
def Oy (K:R') (C:F'):Sp:=fun vs H Q _=>∃ p r v ws lv kvs ps,vs=[.ref p,.ref lv]∧bF K C H p r v∧Wn ws v∧(∀ q∈v.arr,Small q.weight)∧H lv=f' (.dK kvs)∧uV kvs ws ps∧∀ H',ae H H'→Q (.int (yo (fc ws v) ps)) H'
theorem PZ (T:Tx K mg a):Vd P w K mg base U8 5 "length" ["net","levels"] [] (Oy K a.Net):=T.Qi9.U2 fun f fd F=>by
 have bg:=zG (P:=P) (w:=w) (base:=base) T
 have bU:=Fp (P:=P) (w:=w) (base:=base) T
 have kH:=Oa (P:=P) (w:=w) (base:=base) T
 refine F.ok Px (fun vs H Q E h=>?_) (fun ay A outer s H vs Q E hr h=>?_)
 .obtain⟨p,r,v,ws,lv,kvs,ps,rfl,_⟩:=h
  rfl
 .obtain⟨p,r,v,ws,lv,kvs,ps,rfl,N,W,sm,hl,L,k⟩:=h
  refine⟨_,(ak (aN (bC kH (hr.mono (by decide)) rfl (af (bC bg (hr.mono (by decide)) rfl (af (pv 0) ai)) (af (bC bU (hr.mono (by decide)) rfl (af (pv 0) (af (pv 1) ai))) ai))))),?_⟩
  refine⟨_,O,p,r,v,ws,O,N,W,fun l2 ys H2 s2 n2 h2 d2 _=>?_⟩
  refine⟨_,O,_,O,p,r,v,ws,lv,kvs,ps,O,N.same s2,W,s2 _ _ hl,L,fun l3 H3 s3 n3 h3=>?_⟩
  refine⟨l2,fc ws v,l3,ps,O,⟨ys,P'.of (s3 _ _ h2),s3.U' d2⟩,P'.of h3,by have:=C6 W;lia,fun q hq=>⟨by rw[L.1];exact FK W q hq,NB sm q hq⟩,fun H4 s4=>?_⟩
  exact k H4 (s2.trans (s3.trans s4))
end
def cl (s:C'):List Nat:=s.cps.toList
theorem rS (s:C'):(cl s).length=s.length:=by simp[cl,QcP]
theorem Qm4 {x y:C'} (h:cl x=cl y):x=y:=PyProof.Rows.str_of_list h
def tn (n:Int):C':=UI (toString n)
theorem r9 (m:Nat):cl (tn (m:Int))=(Wr 10 m).map Xe:=Qok m
theorem Oi  (h:c∈(Wr 10 m).map Xe):48≤c∧c≤57:=by
 obtain⟨ch,fg,rfl⟩:=Wq.mp h
 have r:=Nat.isDigit_of_mem_toDigits (by decide) (by decide) fg
 unfold Char.isDigit at r
 rw[Rn,RI,RI] at r
 exact⟨r.1,r.2⟩
theorem EK  (h:0≤n):∀ c∈cl (tn n),48≤c∧c≤57:=by
 obtain⟨m,rfl⟩:=SJ h
 intro c hc
 rw[r9] at hc
 exact Oi hc
theorem yL  (h:0≤n) (h7:n<10000000):1≤(tn n).length∧(tn n).length≤7:=by
 obtain⟨m,rfl⟩:=SJ h
 rw[← rS,r9,Q3]
 exact⟨Qca 10 m,Qoh (by decide) (by lia)⟩
theorem Qn:∀ {m:Nat},m≠0→((Wr 10 m).map Xe).head?≠f' 48:=by
 intro m
 induction m using QcD with
 | _ m ih=>
  intro h0
  by_cases h:m<10
  .rw[Ss h]
   revert h0
   exact(by decide:∀ d:Nat,d<10→d≠0→(([ZG d].map Xe).head?≠f' 48)) m h
  .have hm:m % 10<10:=Qgr m (by decide)
   have t:Wr 10 (m / 10)++Wr 10 (m % 10)=Wr 10 (10 * (m / 10) + m % 10):=SY (by decide) (by lia) hm
   rw[QfE] at t
   rw[← t,Q8,List.head?_append]
   have z:=ih (m / 10) (by lia) (by lia)
   cases e:((Wr 10 (m / 10)).map Xe).head? with
   | none=>
    have:=Qca 10 (m / 10)
    rw[Uc,Ur] at e
    rw[e] at this
    exact UR this (by decide)
   | some c=>
    rw[e] at z
    exact z
theorem OA  (h:0≤n) (h0:n≠0):∃ c,(cl (tn n))[0]?=f' c∧c≠48:=by
 obtain⟨m,rfl⟩:=SJ h
 have z:=Qn (m:=m) (by lia)
 rw[r9,← Ud]
 cases e:((Wr 10 m).map Xe).head? with
 | none=>
  have:=Qca 10 m
  rw[Uc,Ur] at e
  rw[e] at this
  exact UR this (by decide)
 | some c=>exact⟨c,O,fun z'=>z (by rw[e,z'])⟩
def Qab:C':="0123456789"
def WX (c:Nat):Bool:=!(ZI Qab ⟨#[c]⟩ 0 Qab.length 1).isEmpty
theorem Ek  (h:48≤c∧c≤57):WX c=B':=by
 unfold WX
 rw[Qcq]
 exact(by decide:∀ c:Nat,c<58→48≤c→decide (c∈Qab.cps.toList)=B') c (by lia) h.1
theorem tT  (h:(ws.map V.str)[i]?=f' y):∃ s,ws[i]?=f' s∧y=.str s:=by
 rw[Rx] at h
 cases e:ws[i]? with
 | none=>rw[e] at h;cases h
 | some s=>rw[e] at h;cases h;exact⟨s,O,O⟩
theorem P1:WX c=B'↔48≤c∧c≤57:=by
 refine⟨fun h=>?_,Ek⟩
 unfold WX at h
 rw[Qcq] at h
 have h':c∈Qab.cps.toList:=Rv h
 exact(by decide:∀ c∈Qab.cps.toList,48≤c∧c≤57) c h'
def ir (ds:List Nat):Nat:=ds.foldl (fun a d=>10 * a + (d - 48)) 0
theorem Ft (ds:List Nat) (d:Nat):ir (ds++[d])=10 * ir ds + (d - 48):=by
 unfold ir
 rw[Sr]
 rfl
theorem B3:∀ (ds:List Nat),(∀ c∈ds,c≤57)→∀ a,ds.foldl (fun a d=>10 * a + (d - 48)) a<(a + 1) * 10 ^ ds.length
 | [],_,a=>by show a<(a + 1) * 1;lia
 | d::ds,h,a=>by
  have h1:=h d (Rr ..)
  have h2:=B3 ds (fun c hc=>h c (Rc _ hc)) (10 * a + (d - 48))
  rw[Qfw,Rh,Nat.pow_succ]
  have h3:(10 * a + (d - 48) + 1) * 10 ^ ds.length≤(a + 1) * 10 * 10 ^ ds.length:=Nat.mul_le_mul_right _ (by lia)
  have e:(a + 1) * (10 ^ ds.length * 10)=(a + 1) * 10 * 10 ^ ds.length:=by rw[Qga (10 ^ ds.length),Nat.mul_assoc]
  lia
theorem EQ:∀ (n:Nat) (ds:List Nat),ds.length=n + 1→(∀ c∈ds,48≤c∧c≤57)→(ds.head?≠f' 48∨n=0)→(Wr 10 (ir ds)).map Xe=ds
 | 0,ds,hl,h,_=>by
  match ds,hl with
  | [d],_=>
   have hd:=h d (Rr ..)
   have e:ir [d]=d - 48:=by show 10 * 0 + (d - 48)=_;lia
   rw[e,Ss (by lia)]
   exact(by decide:∀ d:Nat,d<58→48≤d→[ZG (d - 48)].map Xe=[d]) d (by lia) hd.1
 | n + 1,ds,hl,h,hh=>by
  have gg:ds≠[]:=fun z=>by rw[z] at hl;cases hl
  have e:=(List.dropLast_concat_getLast gg).symm
  have oh:ds.dropLast.length=n + 1:=by rw[List.length_dropLast,hl];rfl
  generalize hb:ds.dropLast=b at e oh
  generalize hd:ds.getLast gg=d at e
  subst e
  have wg:b.head?≠f' 48:=by
   rcases hh with hh|hh
   .intro z
    apply hh
    cases b with
    | nil=>cases z
    | cons x b=>exact z
   .cases hh
  have HV:∀ c∈b,48≤c∧c≤57:=fun c hc=>h c (Rz _ hc)
  have ih:=EQ n b oh HV (.inl wg)
  have eY:=h d (RA _ (Rr ..))
  have pos:0<ir b:=by
   rcases Ta (ir b) with z|z
   .rw[z] at ih
    rw[← ih] at wg
    exact UR (by decide) wg
   .exact z
  have hm:d - 48<10:=by lia
  have t:Wr 10 (ir b)++Wr 10 (d - 48)=Wr 10 (10 * ir b + (d - 48)):=SY (by decide) pos hm
  rw[Ft,← t,Q8,ih,Ss hm]
  congr 1
  exact(by decide:∀ d:Nat,d<58→48≤d→[ZG (d - 48)].map Xe=[d]) d (by lia) eY.1
theorem K1:∀ m:Nat,ir ((Wr 10 m).map Xe)=m:=by
 intro m
 induction m using QcD with
 | _ m ih=>
  by_cases h:m<10
  .rw[Ss h]
   exact(by decide:∀ d:Nat,d<10→ir ([ZG d].map Xe)=d) m h
  .have hm:m % 10<10:=Qgr m (by decide)
   have t:Wr 10 (m / 10)++Wr 10 (m % 10)=Wr 10 (10 * (m / 10) + m % 10):=SY (by decide) (by lia) hm
   rw[QfE] at t
   rw[← t,Q8,Ss hm]
   show ir ((Wr 10 (m / 10)).map Xe++[(ZG (m % 10)).toNat])=m
   rw[Ft,ih (m / 10) (by lia),(by decide:∀ d:Nat,d<10→(ZG d).toNat - 48=d) _ hm]
   lia
def dH (w:C'):Bool:=decide (1≤w.length) && decide (w.length≤7) && (cl w).all WX && (decide (w=UI "0") || !decide ((cl w)[0]?=f' 48))
def nv (w:C'):Int:=(ir (cl w):Nat)
theorem OB {w:C'} (h:dH w=B'):w=tn (nv w)∧0≤nv w∧nv w<10000000:=by
 unfold dH at h
 rw[Rn,Rn,Rn,RI,RI,Sd,SO,RI,So,R3] at h
 obtain⟨⟨⟨h1,h7⟩,hf⟩,hz⟩:=h
 have hd:∀ c∈cl w,48≤c∧c≤57:=fun c hc=>P1.mp (hf c hc)
 rw[← rS] at h1 h7
 have lt:=B3 (cl w) (fun c hc=>(hd c hc).2) 0
 have p:10 ^ (cl w).length≤10 ^ 7:=Ul (by decide) h7
 refine⟨Qm4 ?_,by unfold nv;lia,?_⟩
 .rw[show nv w=((ir (cl w):Nat):Int) from rfl,r9]
  refine(EQ ((cl w).length - 1) (cl w) (by lia) hd ?_).symm
  rcases hz with z|z
  .right
   rw[z]
   rfl
  .left
   rw[Ud]
   exact z
 .have e:nv w=((Qai (fun a d=>10 * a + (d - 48)) 0 (cl w):Nat):Int):=rfl
  rw[e]
  have:Qai (fun a d=>10 * a + (d - 48)) 0 (cl w)<10000000:=Rq lt (by lia)
  lia
theorem Qm5  (h:0≤n):nv (tn n)=n:=by
 obtain⟨m,rfl⟩:=SJ h
 unfold nv
 rw[r9,K1]
theorem Mp  (h:0≤n) (h7:n<10000000):dH (tn n)=B':=by
 obtain⟨l1,l7⟩:=yL h h7
 unfold dH
 rw[Rn,Rn,Rn,RI,RI,Sd,SO,RI,So,R3]
 refine⟨⟨⟨l1,l7⟩,fun c hc=>Ek (EK h c hc)⟩,?_⟩
 by_cases h0:n=0
 .left
  rw[h0]
  rfl
 .right
  obtain⟨c,hc,Hs⟩:=OA h h0
  rw[hc]
  exact fun z=>Hs (VE z)
section
variable {K:R'}
def Qm6:Sp:=fun vs H Q _=>∃ w:C',vs=[.str w]∧w.length≤1000∧∀ H',ae H H'→Q (.bl (dH w)) H'
theorem CM (T:Tx K mg a):Vd P w K mg base U8 1 "is_written_number" ["word"] [] Qm6:=T.Qjd.U2 fun f fd F=>by
 refine F.ok O0 (fun vs H Q E h=>?_) (fun ay A outer s H vs Q E hr h=>?_)
 .obtain⟨n,rfl,_⟩:=h
  rfl
 .obtain⟨n,rfl,hn,k⟩:=h
  have hz:n.length≤S':=by rw[Q9];lia
  have no:dH n=K'→Q (.bl K') H:=fun e=>by
   have:=k H (ae.refl H)
   rw[e] at this
   exact this
  refine⟨_,(ao (aU (PW.pt (ig (bf pD (bj ue O T.VP dm (af (pv 0) ai)) au (aZ _)) (ig (bf rW (bj ue O T.VP dm (af (pv 0) ai)) (fZ O T.QjB) (aZ _)) (kU (gi (eG (bj rB O T.Z8 rZ (af (cF (N:=["sign"]) (cap:=[i']) O (cz (osc:=az zI) (XN:=["word"]) O O (by decide +kernel)) (Fj (pv 0)) (fun cl C s H fp aa=>(aG (i:=0) (show(["sign"]:List C').Nodup by decide +kernel) rfl (by first|exact UL rfl|exact UK O))) (fun cl C s H fp aa=>cR) (fun cl C s H fp aa=>(kh Dp (pv 0) (EW O T.Qjs) (by with_unfolding_all rfl)))) ai)))))))) (ak (aN nH)) aQ)
   (ak (aN (QgI (kh cG (pv 0) bh (aZ _)) (sv (kh nN (aK Ec (pv 0) au (fun _ _=>O)) bh (aZ _))))))),?_⟩
  refine⟨_,O,_,O,hz,_,_,O,O,_,O,bi (fun c1=>?_) (fun c1=>?_)⟩
  .have c1:=Rv c1
   exact eh (no (by unfold dH;rw[Rs (show ¬ 1≤n.length by lia)];rfl))
  have c1:=RF c1
  refine⟨_,O,_,O,hz,_,_,O,O,_,O,bi (fun c2=>?_) (fun c2=>?_)⟩
  .have c2:=Rv c2
   exact no (by unfold dH;rw[Rs (show ¬ n.length≤7 by lia),SV];rfl)
  have c2:=RF c2
  have i0:dH n=((cl n).all WX && (decide (n=UI "0") || !decide ((cl n)[0]?=f' 48))):=by
   unfold dH
   rw[Rj (show 1≤n.length by lia),Rj (show n.length≤7 by lia)]
   rfl
  refine⟨_,O,n,O,fun D hD=>?_⟩
  refine CV (x:=n) (fun i τ H'=>∃ v,τ=[v]∧ae H H'∧H' D=f' (.lst ((((cl n).take i).map WX).map V.bl))) ⟨i',rfl,ae.new hD,ag⟩ ?_ ?_
  .rintro i c τ H' hc ⟨v,rfl,sm,hl⟩
   have jk:(cl n)[i]?=f' c:=by
    show n.cps.toList[i]?=_
    rw[SW]
    exact hc
   dsimp only[bL,dQ]
   rw[UH rfl]
   refine⟨_,O,_,_,O,O,_,hl,by rw[Q3,Q3,Rm,rS,Q9];lia,_,O,du hD sm,?_⟩
   rw[ag,cM jk,Q8,Q8]
   rfl
  .rintro τ H' ⟨v,rfl,sm,hl⟩
   rw[RX (show(cl n).length≤n.cps.size by rw[rS];exact Q7 _)] at hl
   refine⟨D,_,O,P'.of hl,_,O,?_⟩
   have e:((cl n).map WX).all id=(cl n).all WX:=by rw[SX];rfl
   rw[e]
   have k':=k H' sm
   rw[i0] at k'
   refine bi (fun c=>?_) (fun c=>?_)
   .have c:(cl n).all WX=K':=by simpa using c
    rw[c] at k'
    exact k'
   .have c:(cl n).all WX=B':=by simpa using c
    rw[c,Uo] at k'
    refine⟨_,O,O,_,O,?_⟩
    refine bi (fun z=>?_) (fun z=>?_)
    .have z:n=UI "0":=by simpa using z
     rw[Rj z,QfW] at k'
     exact k'
    .have z:¬ n=UI "0":=by simpa using z
     rw[Rs z,Um] at k'
     cases hc:(cl n)[0]? with
     | none=>
      have:=List.getElem?_eq_none_iff.mp hc
      rw[rS] at this
      lia
     | some c=>
     refine⟨_,O,n,_,c,O,O,hz,?_,O,?_⟩
     .rw[jG (Tg 0)]
      exact hc
     .rw[hc] at k'
      have e2:(!decide (V.str (⟨#[c]⟩:C')=V.str (UI "0")))=!decide ((f' c:Option Nat)=f' 48):=by
       rw[show UI "0"=(⟨#[48]⟩:C') from by decide]
       by_cases q:c=48
       .subst q;rfl
       .rw[Rs (fun z=>q (VE z)),Rs (fun z=>q (by injection z with z;injection z with z;injection z with z;injection z))]
      rw[e2]
      exact k'
end
theorem Co (n i:Nat):HT.U3 n 0 (f' (i:Int))=min i n:=HT.ziA _ _ i
theorem Cp (xs:List V) (i:Nat):iM xs (f' (i:Int)) i'=xs.drop i:=by
 unfold iM
 rw[HT.znw,Co]
 by_cases h:i≤xs.length
 .rw[Ts h]
  exact RX (by rw[SE];exact Q7 _)
 .rw[Qfr (by lia),Nat.sub_self,SD]
  exact(List.drop_of_length_le (by lia)).symm
theorem zt {x:F'} (s:ae H H') (n:H' x=i'):H x=i':=by
 cases e:H x with
 | none=>rfl
 | some o=>exact UR (s _ _ e) (by rw[n];intro z;cases z)
def iu (k:Nat) (Vj:List Int) (ws:List C'):Bool:=decide (k≤ws.length) && decide (ws.length≤k + Vj.length) && ws.all dH
section
variable {K:R'}
theorem oY (T:Tx K mg a):lW P w K mg base U8 1 a.NoLine "NoLine" ["self","number"] (uo a.NoLine "number"):=T.QiJ.U2 fun f fd F=>by
 refine F.ok Qf (fun vs H Q E h=>?_) (fun ay A outer s H vs Q E hr h=>?_)
 .obtain⟨x,t,y,rfl,_⟩:=h
  rfl
 .obtain⟨x,t,y,rfl,hx,k⟩:=h
  refine⟨_,(ak (uU (pv 0) (pv 1) O)),?_⟩
  exact⟨_,O,_,O,x,a.NoLine,t,O,hx,T.QiK,fun dx nd=>k dx nd⟩
theorem pj {i:V} (k:∀ H' dx,ae H H'→H' dx=f' (.xd [("number",i)])→E (.ref a.NoLine) (f' dx) H') :
  ([i]:List V).length≤S'∧∀ x t',H x=i'→uo a.NoLine "number" (.ref x::([i]++[])) (upd H x (cy a.NoLine t' x i')) (fun v H2=>v=.UO∧∃ dx,H2 x=f' (cy a.NoLine t' x dx)∧E (.ref a.NoLine) dx (del H2 x)) E:=by
 refine⟨by show 1≤S';decide,fun x t hx=>⟨x,t,_,O,ag,fun d nd=>⟨O,f' d,ag,?_⟩⟩⟩
 have xd:d≠x:=fun z=>by rw[z,ag] at nd;cases nd
 have e:del (upd (upd (upd H x (cy a.NoLine t x i')) d (.xd [("number",i)])) x (cy a.NoLine t x (f' d))) x=upd H d (.xd [("number",i)]):=by
  funext b
  unfold del
  by_cases h1:b=x
  .subst h1
   rw[UH rfl,aj (UM xd),hx]
  .rw[UF h1,aj h1]
   by_cases h2:b=d
   .subst h2;rw[ag,ag]
   .rw[aj h2,aj h1,aj h2]
 rw[e]
 have iA:H d=i':=by rw[aj xd] at nd;exact nd
 exact k _ d (ae.new iA) ag
def Qm7 (K:R') (a:Vg):Sp:=fun vs H Q E=>∃ p,∃ ws:List C',∃ k:Nat,∃ t,∃ Vj:List Int,vs=[.ref p,.int (k:Int),.ref t]∧H p=f' (.lst (ws.map V.str))∧(∀ n∈ws,n.length≤1000)∧UW K H t (Vj.map V.int)∧ws.length≤1000∧Vj.length≤10 ∧
 (iu k Vj ws=B'→∀ l H',ae H H'→H l=i'→H' l=f' (.lst ((ws.map nv++Vj.drop (ws.length - k)).map V.int))→Q (.ref l) H') ∧
 (iu k Vj ws=K'→∀ H' dx,ae H H'→H' dx=f' (.xd [("number",.int 0)])→E (.ref a.NoLine) (f' dx) H')
theorem Qe (T:Tx K mg a):Vd P w K mg base (Vn P w) 3 "numbers_of" ["words","needed","left_out"] [] (Qm7 K a):=T.Qje.U2 fun f fd F=>by
 have aP:=CM (P:=P) (w:=w) (base:=base) T
 have aF:=oY (P:=P) (w:=w) (base:=base) T
 refine F.VS Di (fun vs H Q E h=>?_) (fun ay A outer s H vs Q E hr h=>?_)
 .obtain⟨p,ns,k,t,Vj,rfl,_⟩:=h
  rfl
 .obtain⟨p,ws,k,t,Vj,rfl,hp,hn,ht,b3,b4,q,er⟩:=h
  have ll:((Vj.map V.int).length:Int)=Vj.length:=by rw[Q3]
  have ln:((ws.map V.str).length:Int)=ws.length:=by rw[Q3]
  have bad:iu k Vj ws=K'→∀ G,ae H G→∀ H' dx,ae G H'→H' dx=f' (.xd [("number",.int 0)])→E (.ref a.NoLine) (f' dx) H':=fun e G sg H' dx s1 hd=>er e H' dx (sg.trans s1) hd
  refine⟨_,(ao (aW (i:=3) Di.nd O (by first|exact UL rfl|exact UK O) (br jL (br nP (pv 1) (bj eZ O T.VP dm (af (pv 2) ai))) (bj eZ O T.VP dm (af (pv 0) ai))))
   (ao (aU (PW.pt (ig (bf pD (pv 3) au (aZ _)) (ig (bf rW (pv 3) (bj eZ rfl T.VP dm (af (pv 2) ai)) (aZ _)) (kU (gi (eG (bj rB rfl T.Z8 rZ (af (cF (N:=["word"]) (cap:=[i']) O (cz (osc:=az uS) (XN:=["words","needed","left_out","missing"]) O O (by decide +kernel)) (bV (pv 0)) (fun cl C s H fp aa=>(aG (i:=0) (show(["word"]:List C').Nodup by decide +kernel) rfl (by first|exact UL rfl|exact UK O))) (fun cl C s H fp aa=>cR) (fun cl C s H fp aa=>(bC aP (hr.mono (by decide)) rfl (af (pv 0) ai)))) ai)))))))) (ak (j7 aV aF (hr.mono (by decide)) rfl (af au ai))) aQ)
   (ak (aN (br sf (cF (N:=["word"]) (cap:=[i']) O (cz (osc:=az uS) (XN:=["words","needed","left_out","missing"]) O O (by decide +kernel)) (bV (pv 0)) (fun cl C s H fp aa=>(aG (i:=0) (show(["word"]:List C').Nodup by decide +kernel) rfl (by first|exact UL rfl|exact UK O))) (fun cl C s H fp aa=>cR) (fun cl C s H fp aa=>(mh FA O T.Qb6 xI (af (pv 0) ai)))) (mh EB O T.QaN tL (af (uD OW (pv 2) (sj (br jL (bj eZ O T.VP dm (af (pv 2) ai)) (pv 3))) zj) ai))))))),?_⟩
  refine⟨_,O,_,O,t,_,O,.inr ht,_,_,O,O,_,O,p,_,O,.inl (P'.of hp),_,_,O,O,?_⟩
  dsimp only[bL]
  rw[ll,ln]
  refine⟨_,O,_,_,O,O,_,O,bi (fun c=>?_) (fun c1=>?_)⟩
  .have c:=Rv c
   exact eh (pj (bad (by unfold iu;rw[Rs (show ¬ ws.length≤k + Vj.length by lia),SV];rfl) H (ae.refl _)))
  have c1:=RF c1
  refine⟨_,O,_,O,t,_,O,.inr ht,_,_,O,O,_,O,bi (fun c=>?_) (fun c2=>?_)⟩
  .have c:=Rv c
   rw[ll] at c
   exact pj (bad (by unfold iu;rw[Rs (show ¬ k≤ws.length by lia)];rfl) H (ae.refl _))
  have c2:=RF c2
  rw[ll] at c2
  have n0:iu k Vj ws=ws.all dH:=by
   unfold iu
   rw[Rj (show k≤ws.length by lia),Rj (show ws.length≤k + Vj.length by lia)]
   rfl
  refine⟨_,O,p,O,⟨_,P'.of hp⟩,fun D hD=>?_⟩
  refine fq (K:=K) (a:=p) (xs:=ws.map V.str) (fun j τ G=>∃ v1,τ=[v1]∧ae H G∧G D=f' (.lst (((ws.take j).map dH).map V.bl))) ⟨i',rfl,ae.new hD,ag⟩ ?_ ?_ ?_
  .rintro j τ G _ ⟨_,rfl,sg,_⟩
   exact P'.of (sg _ _ hp)
  .rintro j y τ G hy ⟨v1,rfl,sg,hG⟩
   obtain⟨z,hz,rfl⟩:=tT hy
   have hj:j<ws.length:=(VD.mp hz).1
   dsimp only[bL,dQ]
   rw[UH rfl]
   refine⟨_,O,z,O,hn z (Rp hz),fun G1 Br=>?_⟩
   refine⟨_,Br _ _ hG,by rw[Q3,Q3,Rm,Q9];lia,_,O,du hD (sg.trans Br),?_⟩
   rw[ag,cM hz,Q8,Q8]
   rfl
  rintro τ G ⟨v1,rfl,sg,hG⟩
  rw[Q3,Rt] at hG
  refine⟨D,_,O,P'.of hG,_,O,?_⟩
  have e:((ws.map dH).all id)=ws.all dH:=by rw[SX];rfl
  rw[e]
  refine bi (fun c=>?_) (fun c=>?_)
  .have c:ws.all dH=K':=by simpa using c
   exact pj (bad (n0.trans c) G sg)
  have c:ws.all dH=B':=by simpa using c
  have num:∀ z∈ws,dH z=B':=Sd.mp c
  refine⟨_,O,p,O,⟨_,P'.of (sg _ _ hp)⟩,fun D2 iW=>?_⟩
  refine fq (K:=K) (a:=p) (xs:=ws.map V.str) (fun j τ G'=>∃ v1,τ=[v1]∧ae G G'∧G' D2=f' (.lst (((ws.take j).map nv).map V.int))) ⟨i',rfl,ae.new iW,ag⟩ ?_ ?_ ?_
  .rintro j τ G' _ ⟨_,rfl,bT,_⟩
   exact P'.of (bT _ _ (sg _ _ hp))
  .rintro j y τ G' hy ⟨v1,rfl,bT,eD⟩
   obtain⟨z,hz,rfl⟩:=tT hy
   have hj:j<ws.length:=(VD.mp hz).1
   obtain⟨e1,m0,m7⟩:=OB (num z (Rp hz))
   dsimp only[bL,dQ]
   rw[UH rfl]
   refine⟨_,O,nv z,Wv (fun x=>[V.str x]) e1,m0,by lia,?_⟩
   refine⟨_,eD,by rw[Q3,Q3,Rm,Q9];lia,_,O,du iW bT,?_⟩
   rw[ag,cM hz,Q8,Q8]
   rfl
  rintro τ G' ⟨QX,rfl,bT,eD⟩
  rw[Q3,Rt] at eD
  have s2:=sg.trans bT
  have qE:=(Tk.of s2).VI ht
  have q:=q (n0.trans c)
  have aT:∀ (q1:F') (G1:Hp),ae G' G1→UW K G1 q1 ((Vj.drop (ws.length - k)).map V.int)→_:=fun q1 G1 s3 h1=>show ∃ p ys,[V.ref q1]=[.ref p]∧(P' K G1 p ys∨UW K G1 p ys)∧∀ l,G1 l=i'→∃ l' b xs zs,V.ref D2=.ref l'∧V.ref l=.ref b∧(upd G1 l (.lst ys)) l'=f' (.lst xs)∧(upd G1 l (.lst ys)) b=f' (.lst zs)∧xs.length + zs.length≤S'∧∀ p,(upd G1 l (.lst ys)) p=i'→Q (.ref p) (upd (upd G1 l (.lst ys)) p (.lst (xs++zs))) from⟨q1,_,rfl,.inr h1,fun l nl=>⟨D2,l,_,_,O,O,(ae.new nl) _ _ (s3 _ _ eD),ag,by rw[Q3,Q3,Q3,SE,Q9];lia,fun r nr=>q r _ (((s2.trans s3).trans (ae.new nl)).trans (ae.new nr)) (zt ((s2.trans s3).trans (ae.new nl)) nr) (by rw[ag,Q8])⟩⟩
  have eL:(Vj.length:Int) - ((k:Int) + Vj.length - ws.length)=((ws.length - k:Nat):Int):=by lia
  refine⟨_,O,_,O,t,_,O,.inr qE,_,O,_,_,O,O,_,O,t,_,O,qE,fun hw=>?_,fun hw q1 wM=>?_⟩
  .skip
   rw[ll,eL,Co,Q3] at hw
   refine aT t G' (ae.refl _) ?_
   rw[show Vj.drop (ws.length - k)=Vj by
    by_cases z:ws.length - k=0
    .rw[z];rfl
    .have:Vj.length=0:=by have:=hw.1;lia
     rw[List.eq_nil_of_length_eq_zero this];simp]
   exact qE
  .rw[ll,eL,Cp,← QfK]
   exact aT q1 _ (ae.new wM) (UW.of ag)
end
abbrev bk:C':=UI " "
abbrev nl:C':=UI "\n"
abbrev YR:C':=UI "point"
abbrev YS:C':=UI "arrow"
abbrev kSm:C':=UI "same"
abbrev kMs:C':=UI "most"
theorem Qeg:bk=⟨#[32]⟩:=by decide
theorem Qm8:nl=⟨#[10]⟩:=by decide
def jf (k:C'):Option (Nat×Nat×List Int):=
 if k=YR then f' (1,0,[0]) else if k=YS then f' (2,0,[1,1]) else if k=kSm then f' (2,0,[]) else if k=kMs then f' (2,1,[]) else i'
structure Rd where
 k:C'
 ns:List C'
 xs:List Int
def look:List C'→Option Rd
 | []=>i'
 | k::r=>match jf k with
  | none=>i'
  | some (nn,nd,Vj)=>if r.length<nn then i' else if iu nd Vj (r.drop nn)=B' then f' ⟨k,r.take nn,(r.drop nn).map nv++Vj.drop ((r.drop nn).length - nd)⟩ else i'
def Rd.nm (q:Rd) (i:Nat):C':=q.ns.getD i Vr
def Rd.nu (q:Rd) (i:Nat):Int:=q.xs.getD i 0
def Rd.err (v:bq) (q:Rd):Option Er:=
 if q.k=YR then df v.kvs (q.nm 0) (q.nu 0) else if q.k=YS then j4 v (q.nm 0) (q.nm 1) (q.nu 0) (q.nu 1) else if q.k=kSm then lim v.kvs v.ss.length (q.nm 0) (q.nm 1) i' else lim v.kvs v.mm.length (q.nm 0) (q.nm 1) (f' (q.nu 0))
def Rd.put (v:bq) (q:Rd):bq:=
 if q.k=YR then { v with kvs:=v.kvs++[(UN (q.nm 0),.int (q.nu 0))] } else if q.k=YS then { v with arr:=v.arr++[⟨v.nn,q.nm 0,q.nm 1,q.nu 0,q.nu 1⟩],nn:=v.nn + 1 } else if q.k=kSm then { v with ss:=v.ss++[(q.nm 0,q.nm 1)] } else { v with mm:=v.mm++[(q.nm 0,q.nm 1,q.nu 0)] }
def je (v:bq) (ws:List C'):Option bq:=match look ws with
 | none=>i'
 | some q=>match q.err v with
  | none=>f' (q.put v)
  | some _=>i'
def bM (v:bq) (l:C'):Option bq:=je v (VX l bk)
def ft:bq→List C'→Option bq
 | v,[]=>f' v
 | v,l::r=>match bM v l with
  | none=>i'
  | some v'=>ft v' r
theorem yD:∀ (ls ms:List C') (v:bq),ft v (ls++ms)=(ft v ls).bind fun v'=>ft v' ms
 | [],ms,v=>rfl
 | l::r,ms,v=>by
  show(match bM v l with|none=>i'|some v'=>ft v' (r++ms))=Option.bind (match bM v l with|none=>i'|some v'=>ft v' r) _
  cases bM v l with
  | none=>rfl
  | some v'=>exact yD r ms v'
theorem Lp {v v1 v2:bq} (h:ft v ls=f' v1) (h2:bM v1 l=f' v2):ft v (ls++[l])=f' v2:=by
 rw[yD,h]
 show(match bM v1 l with|none=>i'|some v'=>ft v' [])=_
 rw[h2]
 rfl
structure jh (m:Nat) (v:bq):Prop where
 k:v.kvs.length≤m
 a:v.arr.length≤m
 n:∀ q∈v.arr,q.num<v.nn
 s:v.ss.length≤m
 m:v.mm.length≤m
theorem JX {v:bq} (h:jh m v) (q:Rd):jh (m + 1) (q.put v):=by
 obtain⟨h1,h2,h3,h4,h5⟩:=h
 unfold Rd.put
 split
 .exact⟨by show(_++[_]).length≤_;rw[Ro];exact S0 h1 1,RN h2,h3,RN h4,RN h5⟩
 split
 .refine⟨RN h1,by show(_++[_]).length≤_;rw[Ro];exact S0 h2 1,fun q' hq=>?_,RN h4,RN h5⟩
  show q'.num<v.nn + 1
  rcases V9.mp hq with hq|hq
  .have:=h3 q' hq
   lia
  .rw[Vb.mp hq]
   show v.nn<v.nn + 1
   lia
 split
 .exact⟨RN h1,RN h2,h3,by show(_++[_]).length≤_;rw[Ro];exact S0 h4 1,RN h5⟩
 .exact⟨RN h1,RN h2,h3,RN h4,by show(_++[_]).length≤_;rw[Ro];exact S0 h5 1⟩
theorem Ql {v v':bq} (h:bM v l=f' v'):∃ q,look (VX l bk)=f' q∧q.err v=i'∧v'=q.put v:=by
 unfold bM je at h
 split at h
 .cases h
 .rename_i q hq
  split at h
  .rename_i he
   cases h
   exact⟨q,hq,he,O⟩
  .cases h
theorem Qb {v v':bq} (h:jh m v) (e:bM v l=f' v'):jh (m + 1) v':=by
 obtain⟨q,_,_,rfl⟩:=Ql e
 exact JX h q
theorem Nd:∀ x∈VX l bk,x.length≤l.length:=by
 have e:Qan bk (VX l bk)=l:=by
  rw[Qeg]
  exact QeZ _ _
 intro x hx
 cases h:VX l bk with
 | nil=>rw[h] at hx;cases hx
 | cons y r=>
  rw[h] at hx e
  have e2:=Wv QcP e
  rw[Qes] at e2
  have:∀ (ys:List C'),x∈ys→x.length≤(ys.map fun s:C'=>s.length).sum:=fun ys=>by
   induction ys with
   | nil=>intro h;cases h
   | cons z ys ih=>
    intro h
    rw[RL,QfJ]
    rcases RS.mp h with rfl|h
    .lia
    .have:=ih h
     lia
  have:=this _ hx
  lia
theorem Ca {α:Type}{f:α→Nat}{n:Nat}:∀ {l:List α},(∀ x∈l,f x≤n)→(l.map f).sum≤n * l.length
 | [],_=>by simp
 | x::l,h=>by
  have h1:=h x (Rr ..)
  have h2:=Ca (l:=l) fun y hy=>h y (Rc _ hy)
  rw[RL,QfJ,Rh,Nat.mul_succ]
  lia
theorem P4 (c:C') (l:List C') (hc:c.length=1){n:Nat} (h:∀ x∈l,x.length≤n):(W2 c l).length≤(n + 1) * l.length:=by
 have h1:=Ca (f:=fun s:C'=>s.length) h
 cases l with
 | nil=>exact RY _
 | cons x r=>
  show(Qon c (x::r)).length≤_
  rw[QeM,Qes,hc,Nat.mul_one,Nat.add_mul,Rh]
  rw[Rh] at h1
  lia
structure Qm9 (K:R') (a:Vg) (k:C') (nn nd:Nat) (Vj:List Int) (t t2:F'):Prop where
 val:a8 (fk a) (UN k)=f' (.ref t)
 q1:∀ H,UW K H t [.int (nn:Int),.int (nd:Int),.ref t2]
 q2:∀ H,UW K H t2 (Vj.map V.int)
 b1:nn≤2
 b4:Vj.length≤2
theorem JZ {K:R'} (T:Tx K mg a){k:C'} (h:jf k=f' (nn,nd,Vj)):∃ t t2,Qm9 K a k nn nd Vj t t2:=by
 have ne:∀ x y:C',¬ y=x→¬ ((UN x:Key)=UN y):=fun x y h z=>h (W0 z).symm
 unfold jf at h
 split at h
 .rename_i e
  cases h
  exact⟨_,_,by subst e;unfold fk;exact di O,T.QjI,T.QjH,by decide,by decide⟩
 rename_i n1
 split at h
 .rename_i e
  cases h
  exact⟨_,_,by subst e;unfold fk;rw[cw (ne _ _ n1)];exact di O,T.QjK,T.QjJ,by decide,by decide⟩
 rename_i n2
 split at h
 .rename_i e
  cases h
  exact⟨_,_,by subst e;unfold fk;rw[cw (ne _ _ n1),cw (ne _ _ n2)];exact di O,T.QjM,T.QjL,by decide,by decide⟩
 rename_i n3
 split at h
 .rename_i e
  cases h
  exact⟨_,_,by subst e;unfold fk;rw[cw (ne _ _ n1),cw (ne _ _ n2),cw (ne _ _ n3)];exact di O,T.QjO,T.QjN,by decide,by decide⟩
 .cases h
theorem MG {k:C'} (h:jf k=i'):a8 (fk a) (UN k)=i':=by
 have ne:∀ x y:C',¬ y=x→¬ ((UN x:Key)=UN y):=fun x y h z=>h (W0 z).symm
 unfold jf at h
 split at h
 .cases h
 rename_i n1
 split at h
 .cases h
 rename_i n2
 split at h
 .cases h
 rename_i n3
 split at h
 .cases h
 rename_i n4
 unfold fk
 rw[cw (ne _ _ n1),cw (ne _ _ n2),cw (ne _ _ n3),cw (ne _ _ n4)]
 rfl
theorem Na {k:Nat} (h:iu k Vj ws=B'):(ws.map nv++Vj.drop (ws.length - k)).length=k + Vj.length:=by
 unfold iu at h
 rw[Rn,Rn,RI,RI] at h
 rw[Ro,Q3,SE]
 lia
theorem KJ (x:V) (xs:List V) (n:Nat):iM (x::xs) (f' 1) (f' (1 + (n:Int)))=xs.take n:=by
 unfold iM
 have e1:HT.U3 (x::xs).length 0 (f' 1)=min 1 (x::xs).length:=HT.ziA _ _ 1
 have e2:HT.U3 (x::xs).length (x::xs).length (f' (1 + (n:Int)))=min (1 + n) (x::xs).length:=by
  rw[show(1:Int) + (n:Int)=((1 + n:Nat):Int) by lia]
  exact HT.ziA _ _ _
 rw[e1,e2,Rh,show min 1 (xs.length + 1)=1 by lia,List.drop_one,List.tail_cons,show min (1 + n) (xs.length + 1) - 1=min n xs.length by lia]
 by_cases h:n≤xs.length
 .rw[Ts h]
 .rw[Qfr (by lia),Rt,RX (by lia)]
theorem iP {α:Type}{xs:List α}{x:α} (h:xs[i]?=f' x):VB xs (i:Int)=f' x:=by
 rw[jG (by lia),show((i:Int)).toNat=i by lia]
 exact h
theorem uK {α:Type}{xs:List α}{d:α} (h:i<xs.length):xs[i]?=f' (xs.getD i d):=by
 rw[Rl,Rf h]
 rfl
section
variable {K:R'}
def WY (a:Vg):List F':=[a.NoName,a.Taken,a.NoPoint,a.Alone,a.NoNumber,a.TooMany,a.NoSuch,a.NoLine]
theorem Ll  (k:∀ C dd,C∈WY a→E (.ref C) dd H):∀ er,kX a E er H
 | .name=>k _ _ (by simp[WY])
 | .taken=>k _ _ (by simp[WY])
 | .point n=>fun dx _=>k _ _ (by simp[WY])
 | .alone=>k _ _ (by simp[WY])
 | .number=>k _ _ (by simp[WY])
 | .many=>k _ _ (by simp[WY])
 | .such i=>fun dx _=>k _ _ (by simp[WY])
def OF (K:R') (a:Vg):Sp:=fun vs H Q E=>∃ p r v l,vs=[.ref p,.str l]∧l.length≤900∧bF K a.Net H p r v∧jh 1000 v ∧
 (∀ v',bM v l=f' v'→∀ x H',(x=.UO∨x=.int v.nn)→Kp p r H H'→bF K a.Net H' p r v'→Q x H')∧(bM v l=i'→∀ C dd H',ae H H'→C∈WY a→E (.ref C) dd H')
theorem Fq (T:Tx K mg a) (Z:KD P w K a.LINES (fk a)):Vd P w K mg base (Vn P w) 7 "put_line" ["net","line"] [] (OF K a):=T.Qjf.U2 fun f fd F=>by
 have eR:=Qe (P:=P) (w:=w) (base:=base) T
 have aF:=oY (P:=P) (w:=w) (base:=base) T
 have Zm:=Cq (P:=P) (w:=w) (base:=base) T
 have QbT:=Mx (P:=P) (w:=w) (base:=base) T
 have Z6:=De (P:=P) (w:=w) (base:=base) T
 have QbV:=NK (P:=P) (w:=w) (base:=base) T
 refine F.VS oQ (fun vs H Q E h=>?_) (fun ay A outer s H vs Q E hr h=>?_)
 .obtain⟨p,r,v,l,rfl,_⟩:=h
  rfl
 .obtain⟨p,r,v,l,rfl,hl,N,VW,k,er⟩:=h
  have wl:∀ x∈VX l bk,x.length≤1000:=fun x hx=>by have:=Nd x hx;lia
  have wc:(VX l bk).length≤1000:=by have:=PyProof.Rows.split_le l bk;lia
  have wp:=PyProof.Rows.split_pos l bk
  have er:je v (VX l bk)=i'→∀ G,ae H G→∀ C dd,C∈WY a→E (.ref C) dd G:=fun e G sg C dd hC=>er e C dd G sg hC
  have k:∀ v',je v (VX l bk)=f' v'→∀ x H',(x=.UO∨x=.int v.nn)→Kp p r H H'→bF K a.Net H' p r v'→Q x H':=k
  refine⟨_,(ao (aW (i:=2) oQ.nd O (by first|exact UL rfl|exact UK O) (ej QaY ZC Qcg zw (pv 1) (af bh ai)))
   (ao (aW (i:=3) oQ.nd O (by first|exact UL rfl|exact UK O) (aK bB (pv 2) au (fun _ _=>O)))
   (ao (aU (ko (Pt (pv 3) (g6 rfl T.Qd0))) (ak (j7 aV aF (hr.mono (by decide)) rfl (af au ai))) aQ)
   (ao (aW (i:=4) oQ.nd O (by first|exact UL rfl|exact UK O) (OQ (g6 O T.Qd0) (pv 3) (fun _ _=>O)))
   (ao (aW (i:=5) oQ.nd O (by first|exact UL rfl|exact UK O) (uD yd (pv 2) (sj au) (sj (br nP au (aK ff (pv 4) au (fun _ _=>O))))))
   (ao (aU (bf pD (bj eZ rfl T.VP dm (af (pv 5) ai)) (aK ff (pv 4) au (fun _ _=>O)) (aZ _)) (ak (j7 aV aF (hr.mono (by decide)) rfl (af au ai))) aQ)
   (ao (aW (i:=6) oQ.nd O (by first|exact UL rfl|exact UK O) (fe eR aV (hr.mono (by decide)) rfl (af (uD yd (pv 2) (sj (br nP au (aK ff (pv 4) au (fun _ _=>O)))) zj) (af (aK ff (pv 4) au (fun _ _=>O)) (af (aK ff (pv 4) au (fun _ _=>O)) ai)))))
   (ao (aU (bf cG (pv 3) bh (aZ _)) (ak (aN (eu (pv 0) T.Va Zm aV (hr.mono (by decide)) (af (aK bB (pv 5) au (fun _ _=>O)) (af (aK bB (pv 6) au (fun _ _=>O)) ai))))) aQ)
   (ao (aU (bf cG (pv 3) bh (aZ _)) (ak (aN (eu (pv 0) T.Va QbT aV (hr.mono (by decide)) (af (aK bB (pv 5) au (fun _ _=>O)) (af (aK bB (pv 5) au (fun _ _=>O)) (af (aK bB (pv 6) au (fun _ _=>O)) (af (aK bB (pv 6) au (fun _ _=>O)) ai))))))) aQ)
   (ao (aU (bf cG (pv 3) bh (aZ _)) (ak (aN (eu (pv 0) T.Va Z6 aV (hr.mono (by decide)) (af (aK bB (pv 5) au (fun _ _=>O)) (af (aK bB (pv 5) au (fun _ _=>O)) ai))))) aQ)
   (ak (aN (eu (pv 0) T.Va QbV aV (hr.mono (by decide)) (af (aK bB (pv 5) au (fun _ _=>O)) (af (aK bB (pv 5) au (fun _ _=>O)) (af (aK bB (pv 6) au (fun _ _=>O)) ai)))))))))))))))),?_⟩
  refine⟨_,O,O,l,bk,O,O,O,by rw[Q9];lia,fun wd mL=>?_⟩
  generalize VX l bk=ws at wl wc wp er k mL ⊢
  cases ws with
  | nil=>exact UR wp (by decide)
  | cons kd r0=>
  have s1:ae H (upd H wd (.lst ((kd::r0).map V.str))):=ae.new mL
  have h1:upd H wd (.lst ((kd::r0).map V.str)) wd=f' (.lst ((kd::r0).map V.str)):=ag
  generalize upd H wd (.lst ((kd::r0).map V.str))=H1 at s1 h1 ⊢
  have bad:je v (kd::r0)=i'→∀ G,ae H1 G→∀ H' dx,ae G H'→H' dx=f' (.xd [("number",.int 0)])→E (.ref a.NoLine) (f' dx) H':=fun e G sg H' dx s2 _=>er e H' (s1.trans (sg.trans s2)) _ _ (by simp[WY])
  refine⟨_,O,wd,_,_,.str kd,O,O,P'.of h1,iP (i:=0) O,?_⟩
  refine⟨_,O,a.LINES,fk a,UN kd,O,Z,O,_,O,?_⟩
  cases hf:jf kd with
  | none=>
   rw[MG hf]
   refine eh (pj (bad ?_ H1 (ae.refl _)))
   unfold je look
   dsimp only
   rw[hf]
  | some fm=>
  obtain⟨nn,nd,Vj⟩:=fm
  obtain⟨t,t2,L⟩:=JZ T hf
  have b1:=L.b1
  have b4:=L.b4
  rw[L.val]
  refine bi (fun c=>UR c Rk) (fun _=>?_)
  refine⟨_,O,a.LINES,fk a,UN kd,_,O,Z,O,L.val,?_⟩
  have a0:VB [V.int (nn:Int),.int (nd:Int),.ref t2] 0=f' (.int (nn:Int)):=rfl
  have a1:VB [V.int (nn:Int),.int (nd:Int),.ref t2] 1=f' (.int (nd:Int)):=rfl
  have a2:VB [V.int (nn:Int),.int (nd:Int),.ref t2] 2=f' (.ref t2):=rfl
  refine⟨_,O,_,O,_,O,t,_,_,_,O,O,L.q1 _,a0,_,_,O,O,_,O,wd,_,O,P'.of h1,fun nm JL=>?_⟩
  dsimp only
  have ec:iM ((kd::r0).map V.str) (f' 1) (f' (1 + (nn:Int)))=(r0.take nn).map V.str:=by
   rw[RL,KJ,List.map_take]
  rw[ec]
  have s2:ae H1 (upd H1 nm (.lst ((r0.take nn).map V.str))):=ae.new JL
  have h2:upd H1 nm (.lst ((r0.take nn).map V.str)) nm=f' (.lst ((r0.take nn).map V.str)):=ag
  generalize upd H1 nm (.lst ((r0.take nn).map V.str))=H2 at s2 h2 ⊢
  refine⟨_,O,nm,_,O,.inl (P'.of h2),_,O,t,_,_,_,O,O,L.q1 _,a0,_,_,O,O,_,O,?_⟩
  refine bi (fun c=>?_) (fun c=>?_)
  .have c:=Rv c
   rw[Q3,Rm] at c
   refine pj (bad ?_ H2 s2)
   unfold je look
   dsimp only
   rw[hf]
   dsimp only
   rw[UH (by lia)]
  have c:=RF c
  rw[Q3,Rm] at c
  have c0:¬ r0.length<nn:=by lia
  refine⟨_,O,_,O,t,_,_,_,O,O,L.q1 _,a0,_,_,O,O,_,O,wd,_,O,P'.of (s2 _ _ h1),fun q nq=>?_⟩
  dsimp only
  have ed:iM ((kd::r0).map V.str) (f' (1 + (nn:Int))) i'=(r0.drop nn).map V.str:=by
   rw[show(1:Int) + (nn:Int)=((1 + nn:Nat):Int) by lia,Cp,Qgb 1,RL,List.drop_succ_cons,QfK]
  rw[ed]
  have s3:ae H2 (upd H2 q (.lst ((r0.drop nn).map V.str))):=ae.new nq
  have h3:upd H2 q (.lst ((r0.drop nn).map V.str)) q=f' (.lst ((r0.drop nn).map V.str)):=ag
  generalize upd H2 q (.lst ((r0.drop nn).map V.str))=H3 at s3 h3 ⊢
  have A3:=s2.trans s3
  rw[Rh] at wc
  refine⟨_,O,t,_,_,_,O,O,L.q1 _,a1,_,O,t,_,_,_,O,O,L.q1 _,a2,q,r0.drop nn,nd,t2,Vj,O,h3,fun n hn=>wl n (Rc _ (List.mem_of_mem_drop hn)),L.q2 _,by rw[SE];lia,by lia,fun ok nu H4 s4 Q2 pT=>?_,fun ok H' dx s4 gM=>?_⟩
  rotate_left
  .refine bad ?_ H3 A3 H' dx s4 gM
   unfold je look
   dsimp only
   rw[hf]
   dsimp only
   rw[UF c0,UF (by rw[ok];decide)]
  have xl:=Na ok
  have lk:look (kd::r0)=f' ⟨kd,r0.take nn,(r0.drop nn).map nv++Vj.drop ((r0.drop nn).length - nd)⟩:=by
   unfold look
   dsimp only
   rw[hf]
   dsimp only
   rw[UF c0,UH ok]
  have nl:(r0.take nn).length=nn:=by rw[Rm];lia
  have lD:∀ x∈r0.take nn,x.length≤1000:=fun x hx=>wl x (Rc _ (List.mem_of_mem_take hx))
  generalize (r0.drop nn).map nv++Vj.drop ((r0.drop nn).length - nd)=xs at xl lk pT
  generalize r0.take nn=ns at nl lk h2 lD
  have vR:=s1.trans (A3.trans s4)
  have N4:=N.same vR
  obtain⟨dx,sT⟩:=N4.ex
  have gw:=(s3.trans s4) _ _ h2
  have kp:∀ {H5:Hp},Kp p r H4 H5→Kp p r H H5:=fun k5=>(Kp.of vR).trans k5
  have no:∀ {x y:C'},x≠y→decide (V.str x=V.str y)=K':=fun h=>Rs (fun z=>h (by injection z))
  have kJ:∀ q:Rd,look (kd::r0)=f' q→q.err v=i'→∀ x H5,(x=.UO∨x=.int v.nn)→Kp p r H4 H5→bF K a.Net H5 p r (q.put v)→Q x H5:=fun q hq he x H5 hx k5 N5=>by
   refine k (q.put v) ?_ x H5 hx (kp k5) N5
   unfold je
   rw[hq]
   dsimp only
   rw[he]
  have ia:∀ q:Rd,look (kd::r0)=f' q→∀ e,q.err v=f' e→∀ H5,ae H4 H5→kX a E e H5:=fun q hq e he H5 s5=>by
   refine Ll (fun C dd hC=>er ?_ H5 (vR.trans s5) C dd hC) e
   unfold je
   rw[hq]
   dsimp only
   rw[he]
  have ni:∀ {i:Nat},i<nn→(ns.map V.str)[i]?=f' (.str (ns.getD i Vr)):=fun h=>by rw[Rx,uK (d:=Vr) (by lia)];rfl
  have xi:∀ {i:Nat},i<nd + Vj.length→(xs.map V.int)[i]?=f' (.int (xs.getD i 0)):=fun h=>by rw[Rx,uK (d:=(0:Int)) (by lia)];rfl
  have QD:=lk
  unfold jf at hf
  split at hf
  .rename_i ek
   cases hf
   have E0:(Rd.mk kd ns xs).err v=df v.kvs (ns.getD 0 Vr) (xs.getD 0 0):=UH ek
   have P0:(Rd.mk kd ns xs).put v={ v with kvs:=v.kvs++[(UN (ns.getD 0 Vr),.int (xs.getD 0 0))] }:=UH ek
   refine⟨_,O,O,_,O,ji (Rj (Wv V.str ek)) ?_⟩
   refine⟨_,O,p,dx,_,O,sT,by rfl,_,O,nm,_,_,.str _,O,O,P'.of gw,iP (i:=0) (ni (by decide)),_,O,nu,_,_,.int _,O,O,P'.of pT,iP (i:=0) (xi (by decide)),p,r,v,_,_,O,?_,N4,VW.k,(fun e he=>ia _ lk e (E0.trans he)),fun he H5 k5 N5=>kJ _ lk (E0.trans he) _ H5 (.inl O) k5 (by rw[P0];exact N5)⟩
   refine lD _ ?_
   exact Rp (uK (d:=Vr) (i:=0) (by lia))
  rename_i k1
  refine⟨_,O,O,_,O,dP (no k1) ?_⟩
  split at hf
  .rename_i ek
   cases hf
   have E0:(Rd.mk kd ns xs).err v=j4 v (ns.getD 0 Vr) (ns.getD 1 Vr) (xs.getD 0 0) (xs.getD 1 0):=(UF k1).trans (UH ek)
   have P0:(Rd.mk kd ns xs).put v={ v with arr:=v.arr++[⟨v.nn,ns.getD 0 Vr,ns.getD 1 Vr,xs.getD 0 0,xs.getD 1 0⟩],nn:=v.nn + 1 }:=(UF k1).trans (UH ek)
   refine⟨_,O,O,_,O,ji (Rj (Wv V.str ek)) ?_⟩
   exact⟨_,O,p,dx,_,O,sT,by rfl,_,O,nm,_,_,.str _,O,O,P'.of gw,iP (i:=0) (ni (by decide)),_,O,nm,_,_,.str _,O,O,P'.of gw,iP (i:=1) (ni (by decide)),_,O,nu,_,_,.int _,O,O,P'.of pT,iP (i:=0) (xi (by decide)),_,O,nu,_,_,.int _,O,O,P'.of pT,iP (i:=1) (xi (by decide)),p,r,v,_,_,_,_,O,N4,VW.a,VW.n,(fun he H5 k5 N5=>kJ _ lk (E0.trans he) _ H5 (.inr O) k5 (by rw[P0];exact N5)),fun e he=>ia _ lk e (E0.trans he)⟩
  rename_i k2
  refine⟨_,O,O,_,O,dP (no k2) ?_⟩
  split at hf
  .rename_i ek
   cases hf
   have E0:(Rd.mk kd ns xs).err v=lim v.kvs v.ss.length (ns.getD 0 Vr) (ns.getD 1 Vr) i':=(UF k1).trans ((UF k2).trans (UH ek))
   have P0:(Rd.mk kd ns xs).put v={ v with ss:=v.ss++[(ns.getD 0 Vr,ns.getD 1 Vr)] }:=(UF k1).trans ((UF k2).trans (UH ek))
   refine⟨_,O,O,_,O,ji (Rj (Wv V.str ek)) ?_⟩
   exact⟨_,O,p,dx,_,O,sT,by rfl,_,O,nm,_,_,.str _,O,O,P'.of gw,iP (i:=0) (ni (by decide)),_,O,nm,_,_,.str _,O,O,P'.of gw,iP (i:=1) (ni (by decide)),p,r,v,_,_,O,N4,VW.s,(fun he H5 k5 N5=>kJ _ lk (E0.trans he) _ H5 (.inl O) k5 (by rw[P0];exact N5)),fun e he=>ia _ lk e (E0.trans he)⟩
  rename_i k3
  refine⟨_,O,O,_,O,dP (no k3) ?_⟩
  split at hf
  .rename_i ek
   cases hf
   have E0:(Rd.mk kd ns xs).err v=lim v.kvs v.mm.length (ns.getD 0 Vr) (ns.getD 1 Vr) (f' (xs.getD 0 0)):=(UF k1).trans ((UF k2).trans (UF k3))
   have P0:(Rd.mk kd ns xs).put v={ v with mm:=v.mm++[(ns.getD 0 Vr,ns.getD 1 Vr,xs.getD 0 0)] }:=(UF k1).trans ((UF k2).trans (UF k3))
   exact⟨_,O,p,dx,_,O,sT,by rfl,_,O,nm,_,_,.str _,O,O,P'.of gw,iP (i:=0) (ni (by decide)),_,O,nm,_,_,.str _,O,O,P'.of gw,iP (i:=1) (ni (by decide)),_,O,nu,_,_,.int _,O,O,P'.of pT,iP (i:=0) (xi (by decide)),p,r,v,_,_,_,O,N4,VW.m,(fun he H5 k5 N5=>kJ _ lk (E0.trans he) _ H5 (.inl O) k5 (by rw[P0];exact N5)),fun e he=>ia _ lk e (E0.trans he)⟩
  .cases hf
end
structure rO (ls:List C'):Prop where
 nn:∀ l∈ls,10∉cl l
 le:∀ l∈ls,l.length≤100
 VW:ls.length≤200
 ne:ls=[]∨(ls≠[]∧W2 nl ls≠UI "")
theorem rO.split {ls:List C'} (h:rO ls) (h0:ls≠[]):VX (W2 nl ls) nl=ls:=by
 rw[Qm8]
 exact EY h0 h.nn
theorem rO.len  (h:rO ls):(W2 nl ls).length≤101 * ls.length:=P4 nl ls (by decide) h.le
def tU (H:Hp) (x:F') (r:Rec):Prop:=∀ b o,H b=f' o→b≠x∧b≠r.dh∧b≠r.da∧b≠r.ls∧b≠r.lm
theorem tU.kp {x:F'}{r:Rec} (a:tU H x r) (s:ae H H1) (k:Kp x r H1 H2):ae H H2:=fun b o e=>by
 obtain⟨e1,e2,e3,e4,e5⟩:=a b o e
 exact k b o (s _ _ e) e1 e2 e3 e4 e5
theorem NA:jh 0 VM:=⟨Q7 _,Q7 _,(fun _ h=>by cases h),Q7 _,Q7 _⟩
section
variable {K:R'}
theorem draws (T:Tx K mg a) (h:C∈WY a):Vh K C (.ref a.DrawError)=f' B':=by
 unfold WY at h
 rcases RS.mp h with rfl|h
 .exact T.Qd1
 rcases RS.mp h with rfl|h
 .exact T.Qd2
 rcases RS.mp h with rfl|h
 .exact T.Qd6
 rcases RS.mp h with rfl|h
 .exact T.Qd3
 rcases RS.mp h with rfl|h
 .exact T.Qd4
 rcases RS.mp h with rfl|h
 .exact T.Qd5
 rcases RS.mp h with rfl|h
 .exact T.Qd7
 .rw[Vb.mp h]
  exact T.Qd8
def P5 (K:R') (a:Vg):Sp:=fun vs H Q E=>∃ ls,vs=[.str (W2 nl ls)]∧rO ls ∧
 (∀ v,ft VM ls=f' v→∀ x r H',ae H H'→bF K a.Net H' x r v→Q (.ref x) H') ∧
 (∀ i l v,ls[i]?=f' l→ft VM (ls.take i)=f' v→bM v l=i'→∀ H' dx,ae H H'→H' dx=f' (.xd [("number",.int (i:Int))])→E (.ref a.NoLine) (f' dx) H')
theorem Pm (T:Tx K mg a) (Z:KD P w K a.LINES (fk a)):Vd P w K mg base (Vn P w) 8 "read_net" ["text"] [] (P5 K a):=T.Qjg.U2 fun f fd F=>by
 have cj:=Fq (P:=P) (w:=w) (base:=base) T Z
 have YL:=yi (P:=P) (w:=w) (base:=base) T
 have aF:=oY (P:=P) (w:=w) (base:=base) T
 refine F.VS tR (fun vs H Q E h=>?_) (fun ay A outer s H vs Q E hr h=>?_)
 .obtain⟨ls,rfl,_⟩:=h
  rfl
 .obtain⟨ls,rfl,R,k,er⟩:=h
  have tl:=R.len
  have Hk:=R.VW
  refine⟨_,(ao (aW (i:=1) tR.nd O (by first|exact UL rfl|exact UK O) (tK YL (hr.mono (by decide)) rfl))
   (ao (aU (bf cG (pv 0) bh (aZ _)) (ak (aN (pv 1))) aQ)
   (ao (ei YX rfl (uT rfl T.QaM (af (ej QaY ZC Qcg zw (pv 0) (af bh ai)) ai)) (kj rfl (bo (aG (i:=2) tR.nd O (by first|exact UL rfl|exact UK O)) (bo (aG (i:=3) tR.nd O (by first|exact UL rfl|exact UK O)) fu))) (ak (K2 ⟨O,O⟩ O aV (fun _=>Qom) O T.QbN T.QdG T.QdH (by decide) (fun a H₀ pn dz=>(ak (Li dz aF (hr.mark.mono (by decide)) rfl (af (pv 2) ai)))) (fun pn E1 R1 aC qN=>(ak (bp (fe cj aC (hr.mono (by decide)) rfl (af (pv 1) (af (pv 3) ai)))))) aQ)))
   (ak (aN (pv 1)))))),?_⟩
  refine fun x dx nx kQ AZ=>⟨x,dx,O,ag,fun r H2 fr fo N2=>⟨O,?_⟩⟩
  have s2:ae H H2:=fun b o e=>fr b o (by rw[aj (aq e nx),aj (aq e kQ)];exact e) (aq e nx)
  have ap:tU H x r:=fun b o e=>⟨aq e nx,fo b o (by rw[aj (aq e nx),aj (aq e kQ)];exact e)⟩
  refine⟨_,O,O,_,O,?_⟩
  rcases R.ne with h0|⟨h0,gg⟩
  .subst h0
   refine ji (Rj O) ?_
   exact⟨_,O,k VM O x r H2 s2 N2⟩
  .refine dP (Rs (fun z=>gg (by injection z))) ?_
   refine⟨_,O,O,W2 nl ls,nl,O,O,O,by rw[Q9];lia,fun y ny=>?_⟩
   rw[R.split h0]
   have s3:ae H2 (upd H2 y (.lst (ls.map V.str))):=ae.new ny
   have h3:upd H2 y (.lst (ls.map V.str)) y=f' (.lst (ls.map V.str)):=ag
   have qK:y≠x∧y≠r.dh∧y≠r.da∧y≠r.ls∧y≠r.lm:=by
    have ql:∀ b o,H2 b=f' o→b≠y:=fun b o e=>aq e ny
    obtain⟨⟨dx,e1⟩,e2,⟨bK,e3,_⟩,⟨xs,e4,_⟩,⟨ys,e5,_⟩,_⟩:=N2
    exact⟨UM (ql _ _ e1),UM (ql _ _ e2),UM (ql _ _ e3),UM (ql _ _ e4),UM (ql _ _ e5)⟩
   have N3:=N2.same s3
   generalize upd H2 y (.lst (ls.map V.str))=H3 at s3 h3 N3 ⊢
   refine⟨y,O,⟨_,P'.of h3⟩,zc (K:=K) (l:=y) (xs:=ls.map V.str) (fun i σ G=>∃ v2 v3 v,σ=[f' (.str (W2 nl ls)),f' (.ref x),v2,v3]∧ae H G∧G y=f' (.lst (ls.map V.str))∧ft VM (ls.take i)=f' v∧jh i v∧bF K a.Net G x r v) ⟨i',i',VM,rfl,s2.trans s3,h3,rfl,NA,N3⟩ ?_ ?_ ?_⟩
   .rintro i σ G _ ⟨_,_,_,rfl,_,hy,_⟩
    exact P'.of hy
   .rintro i z t σ G hz nt ⟨v2,v3,v,rfl,sg,hy,hv,fv,NG⟩
    obtain⟨l,el,rfl⟩:=tT hz
    have hi:i<ls.length:=(VD.mp el).1
    have st:ae G (upd G t (.tup [.int (i:Int),.str l])):=ae.new nt
    have ht:UW K (upd G t (.tup [.int (i:Int),.str l])) t [.int (i:Int),.str l]:=UW.of ag
    generalize upd G t (.tup [.int (i:Int),.str l])=G1 at st ht ⊢
    have JE:=R.le l (Rp el)
    refine⟨t,_,O,ht,O,_,_,O,_,_,O,O,?_⟩
    dsimp only[bL]
    refine⟨_,O,_,O,x,r,v,l,O,by lia,NG.same st,⟨by have:=fv.k;lia,by have:=fv.a;lia,fv.n,by have:=fv.s;lia,by have:=fv.m;lia⟩,fun v' hs vx H4 _ AA N4=>?_,fun hs C dd H4 s4 hC=>?_⟩
    .refine⟨_,_,v',O,ap.kp (sg.trans st) AA,AA _ _ (st _ _ hy) qK.1 qK.2.1 qK.2.2.1 qK.2.2.2.1 qK.2.2.2.2,?_,Qb fv hs,N4⟩
     rw[cM el]
     exact Lp hv hs
    .refine⟨C,B',O,draws T hC,eh (fun e ob he ho cT hf=>?_)⟩
     have s5:ae H (upd H4 e (.UT ob (.own e))):=((sg.trans st).trans s4).trans (ae.new he)
     refine⟨_,O,pj fun H' dx s6 gM=>?_⟩
     exact er i l v el hv hs H' dx (s5.trans s6) gM
   .rintro σ G ⟨v2,v3,v,rfl,sg,hy,hv,fv,NG⟩
    rw[Q3,Rt] at hv
    exact⟨_,O,k v hv x r G sg NG⟩
end
inductive Ln where
 | pt (n:C') (ns:List Int)
 | ar (o t:C') (ns:List Int)
 | sm (o t:C')
 | ms (o t:C') (m:Int)
def Ln.words:Ln→List C'
 | .pt n ns=>UI "point"::n::ns.map tn
 | .ar o t ns=>UI "arrow"::o::t::ns.map tn
 | .sm o t=>[UI "same",o,t]
 | .ms o t m=>[UI "most",o,t,tn m]
def Ln.text (l:Ln):C':=W2 bk l.words
def NOk (n:Int):Prop:=0≤n∧n<10000000
def Ln.Ok:Ln→Prop
 | .pt n ns=>dr n=B'∧ns.length≤1∧∀ m∈ns,NOk m
 | .ar o t ns=>dr o=B'∧dr t=B'∧ns.length≤2∧∀ m∈ns,NOk m
 | .sm o t=>dr o=B'∧dr t=B'
 | .ms o t m=>dr o=B'∧dr t=B'∧NOk m
theorem Qna:∀ c∈cl abc,97≤c∧c≤122:=by decide +kernel
theorem Dz {n:C'} (h:dr n=B'):(∀ c∈cl n,97≤c)∧n.length≤8:=by
 unfold dr at h
 rw[Rn,Rn,RI,RI] at h
 refine⟨fun c hc=>?_,h.1.2⟩
 have:=Sd.mp h.2 c hc
 unfold small at this
 rw[Qcq] at this
 exact(Qna c (Rv this)).1
def YT (s:C'):Prop:=(∀ c∈cl s,48≤c)∧s.length≤8
theorem nE {n:C'} (h:dr n=B'):YT n:=⟨fun c hc=>by have:=(Dz h).1 c hc;lia,(Dz h).2⟩
theorem zE  (h:NOk n):YT (tn n):=⟨fun c hc=>(EK h.1 c hc).1,by have:=(yL h.1 h.2).2;lia⟩
theorem OM:YT (UI "point")∧YT (UI "arrow")∧YT (UI "same")∧YT (UI "most"):=by
 refine⟨⟨?_,?_⟩,⟨?_,?_⟩,⟨?_,?_⟩,⟨?_,?_⟩⟩ <;> decide
theorem Ln.wok {l:Ln} (h:l.Ok):∀ x∈l.words,YT x:=by
 obtain⟨k1,k2,k3,k4⟩:=OM
 intro x hx
 cases l with
 | pt n ns=>
  obtain⟨h1,h2,h3⟩:=h
  rcases RS.mp hx with rfl|hx
  .exact k1
  rcases RS.mp hx with rfl|hx
  .exact nE h1
  obtain⟨m,hm,rfl⟩:=Wq.mp hx
  exact zE (h3 m hm)
 | ar o t ns=>
  obtain⟨h1,gL,h2,h3⟩:=h
  rcases RS.mp hx with rfl|hx
  .exact k2
  rcases RS.mp hx with rfl|hx
  .exact nE h1
  rcases RS.mp hx with rfl|hx
  .exact nE gL
  obtain⟨m,hm,rfl⟩:=Wq.mp hx
  exact zE (h3 m hm)
 | sm o t=>
  obtain⟨h1,gL⟩:=h
  rcases RS.mp hx with rfl|hx
  .exact k3
  rcases RS.mp hx with rfl|hx
  .exact nE h1
  rw[Vb.mp hx]
  exact nE gL
 | ms o t m=>
  obtain⟨h1,gL,h2⟩:=h
  rcases RS.mp hx with rfl|hx
  .exact k4
  rcases RS.mp hx with rfl|hx
  .exact nE h1
  rcases RS.mp hx with rfl|hx
  .exact nE gL
  rw[Vb.mp hx]
  exact zE h2
theorem Ln.VW {l:Ln} (h:l.Ok):1≤l.words.length∧l.words.length≤5:=by
 cases l with
 | pt n ns=>
  obtain⟨h1,h2,h3⟩:=h
  show 1≤(UI "point"::n::ns.map tn).length∧(UI "point"::n::ns.map tn).length≤5
  rw[Rh,Rh,Q3]
  lia
 | ar o t ns=>
  obtain⟨h1,gL,h2,h3⟩:=h
  show 1≤(UI "arrow"::o::t::ns.map tn).length∧(UI "arrow"::o::t::ns.map tn).length≤5
  rw[Rh,Rh,Rh,Q3]
  lia
 | sm o t=>exact⟨by show 1≤3;decide,by show 3≤5;decide⟩
 | ms o t m=>exact⟨by show 1≤4;decide,by show 4≤5;decide⟩
theorem Ln.split {l:Ln} (h:l.Ok):VX l.text bk=l.words:=by
 unfold Ln.text
 rw[Qeg]
 refine EY (fun e=>?_) fun y hy z=>?_
 .have:=(Ln.VW h).1
  rw[e] at this
  exact UR this (by decide)
 .have:=(Ln.wok h y hy).1 32 z
  lia
def Ln.rd:Ln→Rd
 | .pt n ns=>⟨YR,[n],ns++([0]:List Int).drop ns.length⟩
 | .ar o t ns=>⟨YS,[o,t],ns++([1,1]:List Int).drop ns.length⟩
 | .sm o t=>⟨kSm,[o,t],[]⟩
 | .ms o t m=>⟨kMs,[o,t],[m]⟩
theorem x6  (h:∀ m∈ns,NOk m):(ns.map tn).all dH=B'∧(ns.map tn).map nv=ns:=by
 refine⟨?_,?_⟩
 .rw[SX,Sd]
  exact fun m hm=>Mp (h m hm).1 (h m hm).2
 .rw[Tu]
  exact(List.map_congr_left fun m hm=>Qm5 (h m hm).1).trans (List.map_id _)
theorem Mv:jf YR=f' (1,0,[0]):=UH rfl
theorem OU:jf YS=f' (2,0,[1,1]):=(UF (by decide)).trans (UH rfl)
theorem MD:jf kSm=f' (2,0,[]):=(UF (by decide)).trans ((UF (by decide)).trans (UH rfl))
theorem LB:jf kMs=f' (2,1,[]):=(UF (by decide)).trans ((UF (by decide)).trans ((UF (by decide)).trans (UH rfl)))
theorem uy {k:C'}{r:List C'} (hf:jf k=f' (nn,nd,Vj)) (h1:¬ r.length<nn) (h2:iu nd Vj (r.drop nn)=B'):look (k::r)=f' ⟨k,r.take nn,(r.drop nn).map nv++Vj.drop ((r.drop nn).length - nd)⟩:=by
 unfold look
 dsimp only
 rw[hf]
 dsimp only
 rw[UF h1,UH h2]
theorem Ln.Qnb {l:Ln} (h:l.Ok):look l.words=f' l.rd:=by
 cases l with
 | pt n ns=>
  obtain⟨h1,h2,h3⟩:=h
  obtain⟨e1,e2⟩:=x6 h3
  refine(uy (r:=n::ns.map tn) Mv (by simp) ?_).trans ?_
  .unfold iu
   show(decide (0≤(ns.map tn).length) && decide ((ns.map tn).length≤0 + 1) && (ns.map tn).all dH)=B'
   rw[e1,Rj (RY _),Rj (show(ns.map tn).length≤0 + 1 by rw[Q3];lia)]
   rfl
  .show f' (Rd.mk YR [n] ((ns.map tn).map nv++QcR ((ns.map tn).length - 0) [0]))=_
   rw[e2,Q3]
   rfl
 | ar o t ns=>
  obtain⟨h1,gL,h2,h3⟩:=h
  obtain⟨e1,e2⟩:=x6 h3
  refine(uy (r:=o::t::ns.map tn) OU (by simp) ?_).trans ?_
  .unfold iu
   show(decide (0≤(ns.map tn).length) && decide ((ns.map tn).length≤0 + 2) && (ns.map tn).all dH)=B'
   rw[e1,Rj (RY _),Rj (show(ns.map tn).length≤0 + 2 by rw[Q3];lia)]
   rfl
  .show f' (Rd.mk YS [o,t] ((ns.map tn).map nv++QcR ((ns.map tn).length - 0) [1,1]))=_
   rw[e2,Q3]
   rfl
 | sm o t=>exact(uy (r:=[o,t]) MD (by simp) rfl).trans rfl
 | ms o t m=>
  obtain⟨e1,e2⟩:=x6 (ns:=[m]) fun x hx=>by rw[Vb.mp hx];exact h.2.2
  refine(uy (r:=[o,t,tn m]) LB (by simp) ?_).trans ?_
  .unfold iu
   show(decide (1≤1) && decide (1≤1) && ([m].map tn).all dH)=B'
   rw[e1]
   rfl
  .show f' (Rd.mk kMs [o,t] (([m].map tn).map nv++[]))=_
   rw[e2]
   rfl
theorem Ln.step {l:Ln}{v:bq} (h:l.Ok):bM v l.text=match l.rd.err v with|none=>f' (l.rd.put v)|some _=>i':=by
 unfold bM
 rw[Ln.split h]
 unfold je
 rw[Ln.Qnb h]
 try rfl
structure j6 (v:bq) (names:List C') (k a s m:Nat):Prop where
 has:∀ x,has v.kvs x=B'↔x∈names
 kl:v.kvs.length=k
 al:v.arr.length=a
 sl:v.ss.length=s
 ml:v.mm.length=m
theorem Ow:j6 VM [] 0 0 0 0:=⟨fun x=>⟨fun h=>(by cases h),fun h=>(by cases h)⟩,rfl,rfl,rfl,rfl⟩
theorem FQ {kvs:U7}{n x:C'} (h:has kvs n=K'):has (kvs++[(UN n,y)]) x=(decide (x=n) || has kvs x):=by
 have hn:a8 kvs (UN n)=i':=by
  unfold has at h
  cases e:a8 kvs (UN n) with
  | none=>rfl
  | some z=>rw[e] at h;cases h
 unfold has
 rw[r6 _ _ _ _ hn]
 by_cases e:x=n
 .rw[UH (Wv UN e),Rj e]
  rfl
 .rw[UF (fun z=>e (W0 z)),Rs e]
  rfl
section
variable {v:bq}{k a s:Nat}
theorem j6.no (p:j6 v names k a s m){x:C'} (h:x∉names):K07.Nt.has v.kvs x=K':=by
 cases e:K07.Nt.has v.kvs x with
 | false=>rfl
 | true=>exact UR ((p.has x).mp e) h
theorem FC (p:j6 v names k a s m){n:C'} (ok:(Ln.pt n ns).Ok) (h0:0≤ns.getD 0 0∧ns.getD 0 0≤50) (hn:n∉names) (hk:k<20):∃ v',bM v (Ln.pt n ns).text=f' v'∧j6 v' (names++[n]) (k + 1) a s m:=by
 have e0:(Ln.pt n ns).rd.nu 0=ns.getD 0 0:=by
  match ns,ok.2.1 with
  | [],_=>rfl
  | [x],_=>rfl
 have e1:(Ln.pt n ns).rd.err v=i':=by
  refine(UH O).trans ?_
  show df v.kvs n ((Ln.pt n ns).rd.nu 0)=i'
  rw[e0]
  unfold df
  rw[UF (by rw[ok.1];decide),UF (by rw[p.no hn];decide),UF (by lia),UF (by rw[p.kl];lia)]
 refine⟨_,(Ln.step ok).trans (by rw[e1]),?_⟩
 rw[show(Ln.pt n ns).rd.put v={ v with kvs:=v.kvs++[(UN n,.int ((Ln.pt n ns).rd.nu 0))] } from UH rfl]
 refine⟨fun x=>?_,?_,p.al,p.sl,p.ml⟩
 .rw[FQ (p.no hn),SO,RI,p.has x,V9,Vb]
  exact Or.comm
 .show(v.kvs++[_]).length=k + 1
  rw[Ro,p.kl]
  rfl
theorem Qnc  (ok:(Ln.ar o t ns).Ok):(Ln.ar o t ns).rd.err v=j4 v o t (ns.getD 0 1) (ns.getD 1 1):=by
 refine(UF (show YS≠YR by decide)).trans ((UH rfl).trans ?_)
 show j4 v o t ((Ln.ar o t ns).rd.nu 0) ((Ln.ar o t ns).rd.nu 1)=_
 match ns,ok.2.2.1 with
 | [],_=>rfl
 | [x],_=>rfl
 | [x,y],_=>rfl
end
end Nt
theorem KQ:aS "flow" (.ref d) (bW r)=bW { r with f:=d }:=by
 have h1:¬ (("ones":C')="flow"):=by decide +kernel
 have h2:¬ (("others":C')="flow"):=by decide +kernel
 have h3:¬ (("leasts":C')="flow"):=by decide +kernel
 have h4:¬ (("places":C')="flow"):=by decide +kernel
 simp only[bW,aS,h1,h2,h3,h4,VO,WE]
theorem OD:aS "needs" (.ref d) (bW r)=bW { r with n:=d }:=by
 have h1:¬ (("ones":C')="needs"):=by decide +kernel
 have h2:¬ (("others":C')="needs"):=by decide +kernel
 have h3:¬ (("leasts":C')="needs"):=by decide +kernel
 have h4:¬ (("places":C')="needs"):=by decide +kernel
 have h5:¬ (("flow":C')="needs"):=by decide +kernel
 simp only[bW,aS,h1,h2,h3,h4,h5,VO,WE]
def Qnd (ws:List Wt):Prop:=∃ n,n<ws.length∧∀ c P,Vf (wn ws c) P n<0
theorem Qne {ws:List Wt} (cB:∀ x∈ws,x.1<c∧x.2.1<c):(wn ws c).Ok:=by
 refine⟨fun n hn=>?_,fun n hn=>?_⟩
 .have hn:n<ws.length:=hn
  show(ws.getD n (0,0,0,0)).1<c
  rw[Rl,Rf hn]
  exact(cB _ (T2 hn)).1
 .have hn:n<ws.length:=hn
  show(ws.getD n (0,0,0,0)).2.1<c
  rw[Rl,Rf hn]
  exact(cB _ (T2 hn)).2
structure L0 (C:F') (H G:Hp) (q:F') (c:Nat) (r:LR):Prop where
 s:ae H G
 ex:∃ dx,G q=f' (.ins C dx (bW r))
 hp:G r.p=f' (.lst ((UX c (0:Int)).map V.int))
 hf:G r.f=f' (.lst [])
variable {G1:Hp}{dd od:Option F'}{i0 i1 m u z:Int}{l lv p0 p1 p2 p3:F'}{sl:Array (Option L')}{t0 t1 t2 t3:VY}{v:bq}
theorem ON:∀ j,((UX c (0:Int)).take j).map (fun x=>decide (0<x))=UX (min j c) K':=fun j=>by
 rw[List.take_replicate,List.map_replicate]
 rfl
section
variable {K:R'}
def Qnf (K:R') (t:Vg):Sp:=fun vs H Q E=>∃ l ws,∃ c:Nat,vs=[.int c,.ref l]∧im K H l ((ws:List Wt).map wI)∧(∀ x∈ws,x.1<c∧x.2.1<c)∧ws.length≤200∧c≤200∧(ws=[]∨Qnd ws) ∧
 (ws=[]→∀ g pA fA H',ae H H'→H' g=f' (.tup [.ref pA,.ref fA])→H pA=i'→H' pA=f' (.lst ((frN (UX c 0) (VH c)).map V.int))→H' fA=f' (.lst [])→Q (.ref g) H') ∧
 ∀ ring lr dx H',ae H H'→H' dx=f' (.xd [("ring",.ref lr)])→H' lr=f' (.lst (nums ring))→uW (wn ws c) ring→E (.ref t.Ring) (f' dx) H'
theorem FW (T:Tx K mg a):Vd P w K mg base (Vn P w) 6 "laid" ["count","wishes"] [] (Qnf K a):=T.Qi1.U2 fun f fd F=>by
 have QbY:=Pc (P:=P) (w:=w) (base:=base) T
 have qy:=QmI (P:=P) (w:=w) (base:=base) T
 have bG:=CP (P:=P) (w:=w) (base:=base) T
 have cZ:=NO (P:=P) (w:=w) (base:=base) T
 have aO:=Dm (P:=P) (w:=w) (base:=base) T
 have dW:=P6 (P:=P) (w:=w) (base:=base) T
 have gG:=PV (P:=P) (w:=w) (base:=base) T
 refine F.VS uO (fun vs H Q E h=>?_) (fun ay A outer s H vs Q E hr h=>?_)
 .obtain⟨l,ws,c,rfl,_⟩:=h
  rfl
 .obtain⟨l,ws,c,rfl,BF,cB,hw,hc,pO,k1,k2⟩:=h
  have ok:=Qne cB
  refine⟨_,(ao (aW (i:=2) uO.nd O (by first|exact UL rfl|exact UK O) (Cu QbY (hr.mono (by decide)) rfl (af (pv 0) (af (pv 1) ai))))
   (ao (bp (fe qy aV (hr.mono (by decide)) rfl (af (pv 2) ai)))
   (ao (aW (i:=3) uO.nd O (by first|exact UL rfl|exact UK O) (bC bG (hr.mono (by decide)) rfl (af (pv 1) ai)))
   (ao (ei YX rfl (bV (bC cZ (hr.mono (by decide)) rfl (af (pv 3) ai))) (aG (i:=4) uO.nd O (by first|exact UL rfl|exact UK O)) (ao (eA (pv 2) (cF (N:=["amount"]) (cap:=[i']) O (cz (osc:=az rX) (XN:=["count","wishes","layout","weights","worth"]) O O (by decide +kernel)) (bV (bA (pv 2) rfl)) (fun cl C s H fp aa=>(aG (i:=0) (show(["amount"]:List C').Nodup by decide +kernel) rfl (by first|exact UL rfl|exact UK O))) (fun cl C s H fp aa=>cR) (fun cl C s H fp aa=>(br rD (pv 0) (fZ O T.QaL)))) O)
   (ao (eA (pv 2) (bC aO (hr.mono (by decide)) rfl (af (pv 0) (af (pv 1) (af (cF (N:=["weight","worth"]) (cap:=[i',f' 4]) O (cz (osc:=az rX) (XN:=["count","wishes","layout","weights","worth"]) O O (by decide +kernel)) (bV (pv 3)) (fun cl C s H fp aa=>(aG (i:=0) (show(["weight","worth"]:List C').Nodup by decide +kernel) rfl (by first|exact UL rfl|exact UK O))) (fun cl C s H fp aa=>cR) (fun cl C s H fp aa=>(br km (br Po (pv 0) (pv 1)) (fZ O T.QaL)))) ai)))) O)
   (ak (uj YX (eG (bj EH rfl T.Qd9 Cn (af (cF (N:=["need"]) (cap:=[i']) O (cz (osc:=az rX) (XN:=["count","wishes","layout","weights","worth"]) O O (by decide +kernel)) (bV (bA (pv 2) rfl)) (fun cl C s H fp aa=>(aG (i:=0) (show(["need"]:List C').Nodup by decide +kernel) rfl (by first|exact UL rfl|exact UK O))) (fun cl C s H fp aa=>cR) (fun cl C s H fp aa=>(kh rW (pv 0) au (aZ _)))) ai))) (ak (bp ip)))))))
   (ak (aN (gk (af (bC dW (hr.mono (by decide)) rfl (af (bA (pv 2) rfl) (af (bC gG (hr.mono (by decide)) rfl (af (pv 0) (af (pv 1) ai))) ai))) (af (bA (pv 2) rfl) ai))))))))),?_⟩
  refine⟨_,O,_,O,fun q dx nq nd ne=>?_⟩
  have wM:upd H dx (.own q) q=i':=by rw[aj (UM ne)];exact nq
  have sa:ae H (upd (upd H dx (.own q)) q (.ins a.Layout dx [])):=(ae.new nd).trans (ae.new wM)
  have qa:upd (upd H dx (.own q)) q (.ins a.Layout dx []) q=f' (.ins a.Layout dx []):=ag
  generalize upd (upd H dx (.own q)) q (.ins a.Layout dx [])=Ha at sa qa ⊢
  refine⟨q,dx,l,ws,c,O,qa,BF.same sa,cB,by lia,by lia,fun r0 Hb FY Lb Jm JM Ix np nf nn=>⟨O,?_⟩⟩
  have sb:ae H Hb:=fun b o e=>FY b o (sa b o e) fun y=>by
   rw[Vb.mp y,nq] at e
   cases e
  have At:=none_of sa np
  refine⟨_,O,q,r0,ws,c,O,Lb,Jm,ok,hw,hc,fun fits JT Hc oy xy=>?_,fun ring lr HP Hc oy gM sI Xy len=>?_⟩
  rotate_left
  .refine k2 ring lr HP Hc (fun b o e=>oy b o (sb b o e) fun y=>?_) gM sI Xy
   rw[Vb.mp y,At] at e
   cases e
  rcases pO with GU|⟨n,hn,bad⟩
  rotate_left
  .exact UR (fits n hn) (by have:=bad c (fn (pc ws c));lia)
  have sc:ae H Hc:=fun b o e=>oy b o (sb b o e) fun y=>by
   rw[Vb.mp y,At] at e
   cases e
  have Lc:iy a.Layout Hc q r0 ws c:=Lb.kx oy fun y hy=>.inl (Vb.mp hy)
  have Ap:Hc r0.f=f' (.lst ((UX ws.length (0:Int)).map V.int)):=oy _ _ JM (by simp[UM Lb.pf])
  subst GU
  have fp:pc [] c=UX c 0:=by
   have:=xG (ws:=[]) (c:=c) (P:=UX c 0) (j:=0) (fun n h=>UR h (Sg n)) c
   rw[T3] at this
   exact this
  rw[fp] at xy
  have BM:L0 a.Layout H Hc q c r0:=⟨sc,Lc.ex,xy,Ap⟩
  have lL:∃ nd,Hc r0.n=f' (.lst nd):=⟨_,oy _ _ Ix (by simp[UM Lb.pn])⟩
  have qp:r0.p≠q:=UM Lc.nq.1
  have wP:∀ {G},ae H G→im K G l (([]:List Wt).map wI):=fun sg=>BF.same sg
  refine⟨_,O,l,[],O,wP sc,by decide,fun wl Hd sd Hq cN=>?_⟩
  have cN:Hd wl=f' (.lst (([]:List Int).map V.int)):=cN
  refine⟨_,O,wl,[],O,P'.of cN,(fun x hx=>by cases hx),fun m g He se ng hg WX QG=>?_⟩
  have kK:=sd.trans se
  have vZ:=se _ _ cN
  have Ai:wl≠q:=fun z=>by
   obtain⟨Ig,e⟩:=Lc.ex
   rw[← z,Hq] at e
   cases e
  have AV:g≠q:=fun z=>by
   obtain⟨Ig,e⟩:=Lc.ex
   rw[← z] at e
   rw[sd _ _ e] at ng
   cases ng
  have m0:m=0:=by
   rcases Ta m with z|z
   .exact z
   .have:=WX.1 0 z
    exact UR this (by decide)
  subst m0
  obtain⟨QC,HF⟩:=Lc.ex
  refine⟨g,O,⟨_,P'.of hg⟩,iN (K:=K) (a:=g) (xs:=(pw 0).map V.int) (fun i σ G=>∃ r v4,σ=[f' (.int (c:Nat)),f' (.ref l),f' (.ref q),f' (.ref wl),v4]∧L0 a.Layout H G q c r∧r.p=r0.p∧G wl=f' (.lst [])∧G g=f' (.lst ((pw 0).map V.int)))
   ⟨r0,i',rfl,⟨sc.trans kK,⟨_,kK _ _ HF⟩,kK _ _ xy,kK _ _ Ap⟩,rfl,vZ,hg⟩ ?_ ?_ ?_⟩
  .rintro i σ G _ ⟨r,v4,rfl,_,_,_,xo⟩
   exact P'.of xo
  .rintro i x σ G hx ⟨r,v4,rfl,lp,ep,AR,BA⟩
   have ex:x=.int 1:=by
    match i,hx with
    | 0,hx=>exact(VE hx).symm
    | i + 1,hx=>exact UR hx (by simp[pw])
   subst ex
   obtain⟨cc,oO⟩:=lp.ex
   dsimp only[bL]
   refine⟨_,O,q,a.Layout,cc,_,_,O,oO,T.VG,T.QaH,Dh,r.f,O,⟨_,P'.of lp.hf⟩,fun D hD=>?_⟩
   refine fq (K:=K) (a:=r.f) (xs:=[]) (fun j τ G'=>∃ v1,τ=[v1]∧ae G G'∧G' D=f' (.lst [])) ⟨i',rfl,ae.new hD,ag⟩ ?_ ?_ ?_
   .rintro j τ G' _ ⟨v1,rfl,sg,_⟩
    exact P'.of (sg _ _ lp.hf)
   .rintro j y τ G' hy _
    simp at hy
   rintro τ G1 ⟨v1,rfl,s1,Hg⟩
   refine⟨_,O,q,a.Layout,cc,_,O,s1 _ _ oO,T.VG,T.QaH,(by show 8<1000;decide),?_⟩
   rw[KQ]
   have Az:D≠q:=UM (aq oO hD)
   have pq:r.p≠q:=by rw[ep];exact qp
   have vW:=lp.s.trans s1
   have up:∀ {G':Hp}{o:HO},ae H G'→ae H (upd G' q o):=fun sg=>du nq sg
   have q2:upd G1 q (.ins a.Layout cc (bW { r with f:=D })) q=f' (.ins a.Layout cc (bW { r with f:=D })):=ag
   have S2:ae H (upd G1 q (.ins a.Layout cc (bW { r with f:=D }))):=up vW
   have p2:upd G1 q (.ins a.Layout cc (bW { r with f:=D })) r.p=f' (.lst ((UX c (0:Int)).map V.int)):=by rw[aj pq];exact s1 _ _ lp.hp
   have f2:upd G1 q (.ins a.Layout cc (bW { r with f:=D })) D=f' (.lst []):=by rw[aj Az];exact Hg
   have w2:upd G1 q (.ins a.Layout cc (bW { r with f:=D })) wl=f' (.lst []):=by rw[aj Ai];exact s1 _ _ AR
   have g2:upd G1 q (.ins a.Layout cc (bW { r with f:=D })) g=f' (.lst ((pw 0).map V.int)):=by rw[aj AV];exact s1 _ _ BA
   generalize upd G1 q (.ins a.Layout cc (bW { r with f:=D }))=G2 at q2 S2 p2 f2 w2 g2 ⊢
   refine⟨_,O,_,O,_,O,wl,O,⟨_,P'.of w2⟩,fun Z hZ=>?_⟩
   refine fq (K:=K) (a:=wl) (xs:=[]) (fun j τ G'=>∃ v1,τ=[v1,f' (.int 1)]∧ae G2 G'∧G' Z=f' (.lst [])) ⟨i',rfl,ae.new hZ,ag⟩ ?_ ?_ ?_
   .rintro j τ G' _ ⟨v1,rfl,sg,_⟩
    exact P'.of (sg _ _ w2)
   .rintro j y τ G' hy _
    simp at hy
   rintro τ G3 ⟨v2,rfl,s3,Ho⟩
   refine⟨(c:Int),l,[],Z,[],O,wP (S2.trans s3),P'.of Ho,O,by lia,by lia,(fun q hq=>by cases hq),fun nA G4 s4 GP h4=>?_⟩
   rw[Ru] at h4
   have h4:G4 nA=f' (.lst ((UX c (0:Int)).map V.int)):=h4
   have ou:=s3.trans s4
   refine⟨_,O,q,a.Layout,cc,_,O,ou _ _ q2,T.VG,T.QbR,(by show 8<1000;decide),?_⟩
   rw[OD]
   have JN:nA≠q:=UM (aq q2 (none_of s3 GP))
   have q5:upd G4 q (.ins a.Layout cc (bW { { r with f:=D } with n:=nA })) q=f' (.ins a.Layout cc (bW { { r with f:=D } with n:=nA })):=ag
   have S5:ae H (upd G4 q (.ins a.Layout cc (bW { { r with f:=D } with n:=nA }))):=up (S2.trans ou)
   have p5:upd G4 q (.ins a.Layout cc (bW { { r with f:=D } with n:=nA })) r.p=f' (.lst ((UX c (0:Int)).map V.int)):=by rw[aj pq];exact ou _ _ p2
   have f5:upd G4 q (.ins a.Layout cc (bW { { r with f:=D } with n:=nA })) D=f' (.lst []):=by rw[aj Az];exact ou _ _ f2
   have n5:upd G4 q (.ins a.Layout cc (bW { { r with f:=D } with n:=nA })) nA=f' (.lst ((UX c (0:Int)).map V.int)):=by rw[aj JN];exact h4
   have w5:upd G4 q (.ins a.Layout cc (bW { { r with f:=D } with n:=nA })) wl=f' (.lst []):=by rw[aj Ai];exact ou _ _ w2
   have g5:upd G4 q (.ins a.Layout cc (bW { { r with f:=D } with n:=nA })) g=f' (.lst ((pw 0).map V.int)):=by rw[aj AV];exact ou _ _ g2
   generalize upd G4 q (.ins a.Layout cc (bW { { r with f:=D } with n:=nA }))=G5 at q5 S5 p5 f5 n5 w5 g5 ⊢
   refine⟨fun mm σ G=>G5=G∧mm=0∧σ=[f' (.int (c:Nat)),f' (.ref l),f' (.ref q),f' (.ref wl),f' (.int 1)],⟨0,O,O,O⟩,?_⟩
   rintro mm σ G6 ⟨rfl,rfl,rfl⟩
   refine⟨_,O,q,a.Layout,cc,_,_,O,q5,T.VG,T.QbR,P3,nA,O,⟨_,P'.of n5⟩,fun Y hY=>?_⟩
   refine fq (K:=K) (a:=nA) (xs:=(UX c (0:Int)).map V.int) (fun j τ G'=>∃ v1,τ=[v1]∧ae G5 G'∧G' Y=f' (.lst ((((UX c (0:Int)).take j).map fun x=>decide (0<x)).map V.bl))) ⟨i',O,ae.new hY,ag⟩ ?_ ?_ ?_
   .rintro j τ G' _ ⟨v1,rfl,sg,_⟩
    exact P'.of (sg _ _ n5)
   .rintro j y τ G' hy ⟨v1,rfl,sg,eD⟩
    obtain⟨z,hz,rfl⟩:=rG hy
    dsimp only[bL,dQ]
    rw[UH rfl]
    refine⟨_,O,_,_,O,O,_,eD,?_,_,O,du hY sg,?_⟩
    .rw[Q3,Q3,Rm,RZ,Q9]
     lia
    .rw[ag,cM hz,Q8,Q8]
     rfl
   rintro τ G7 ⟨v3,rfl,s7,GK⟩
   refine⟨Y,_,O,P'.of GK,_,O,?_⟩
   rw[ON]
   refine bi (fun c1=>?_) (fun c1=>?_)
   .obtain⟨x,hx,oM⟩:=Qaf.mp c1
    rw[List.eq_of_mem_replicate hx] at oM
    cases oM
   .exact⟨{ { r with f:=D } with n:=nA },_,O,⟨S5.trans s7,⟨_,s7 _ _ q5⟩,s7 _ _ p5,s7 _ _ f5⟩,ep,s7 _ _ w5,s7 _ _ g5⟩
  .rintro σ G ⟨r,v4,rfl,lp,ep,AR,BA⟩
   obtain⟨cc,oO⟩:=lp.ex
   refine⟨_,O,q,a.Layout,cc,_,_,O,oO,T.VG,T.YK,o9,_,O,_,O,l,[],c,O,wP lp.s,(fun x hx=>by cases hx),by lia,fun gp G1 s1 n1 h1=>?_⟩
   refine⟨r.p,gp,_,VH c,O,P'.of (s1 _ _ lp.hp),P'.of h1,by rw[RZ,SU],by rw[RZ];lia,fun gn G2 s2 n2 h2=>?_⟩
   have oE:=s1.trans s2
   refine⟨_,O,q,a.Layout,cc,_,_,O,oE _ _ oO,T.VG,T.QaH,Dh,(by show 2≤S';decide),fun gt JD=>?_⟩
   have s3:ae G2 (upd G2 gt (.tup [.ref gn,.ref r.f])):=ae.new JD
   exact k1 O gt gn r.f _ (lp.s.trans (oE.trans s3)) ag (none_of lp.s (none_of s1 n2)) (s3 _ _ h2) (s3 _ _ (oE _ _ lp.hf))
end
namespace Nt
abbrev nA:C':=UI "a"
abbrev nB:C':=UI "b"
structure AB (v:bq):Prop where
 k:jB v.kvs=[nA,nB].map V.str
 s:v.ss=[]
 m:v.mm=[]
theorem Qeh:([nA,nB]:List C').Nodup:=by decide
theorem AB.wn0  (h:AB v) (e:v.arr=[]):Wn [nA,nB] v:=by
 refine⟨h.k,Qeh,by decide,?_,?_,?_,?_,?_,?_,?_⟩
 .rw[e];exact Su
 .rw[e];decide
 .rw[h.s];decide
 .rw[h.m];decide
 .rw[e];intro q hq;cases hq
 .rw[h.s];intro q hq;cases hq
 .rw[h.m];intro q hq;cases hq
theorem AB.wn1  (h:AB v){q:Ar} (e:v.arr=[q]) (h1:q.one=nA) (h2:q.other=nB):Wn [nA,nB] v:=by
 refine⟨h.k,Qeh,by decide,?_,?_,?_,?_,?_,?_,?_⟩
 .rw[e];exact XD.mpr ⟨RD,Su⟩
 .rw[e];show 1≤100;decide
 .rw[h.s];decide
 .rw[h.m];decide
 .rw[e];intro x hx;rw[Vb.mp hx,h1,h2];exact⟨by decide,by decide⟩
 .rw[h.s];intro q hq;cases hq
 .rw[h.m];intro q hq;cases hq
theorem AB.none  (h:AB v) (e:v.arr=[]):fc [nA,nB] v=[]:=by
 unfold fc
 rw[e,h.s,h.m]
 rfl
def eK:U7:=[(UN nA,.int 0),(UN nB,.int 0)]
theorem yB:uV eK [nA,nB] [0,0]:=by
 refine⟨O,fun i n e=>?_⟩
 match i,e with
 | 0,e=>cases e;exact⟨0,O,di O⟩
 | 1,e=>cases e;exact⟨0,O,(cw (fun z=>UR (W0 z) (by decide))).trans (di rfl)⟩
 | i + 2,e=>simp at e
theorem fr0:frN (UX 2 0) (VH 2)=[0,0]:=by decide
theorem mk0:WC (([nA,nB].map UN).zip (([0,0]:List Int).map V.int))=eK:=by
 show cg (cg [] (UN nA) (.int 0)) (UN nB) (.int 0)=eK
 rw[sy (κ:=Key) (.int 0) (show a8 [] (UN nA)=i' from rfl)]
 have e2:a8 ([]++[((UN nA:Key),V.int 0)]) (UN nB)=i':=(cw (p:=((UN nA:Key),V.int 0)) (r:=[]) (fun z=>UR (W0 z) (by decide))).trans rfl
 rw[sy (κ:=Key) (.int 0) e2]
 rfl
section
variable {K:R'}
def Qng (K:R') (t:Vg):Sp:=fun vs H Q _=>∃ p r v,vs=[.ref p]∧bF K t.Net H p r v∧AB v∧v.arr=[] ∧
 ∀ g d fA H',ae H H'→H' g=f' (.tup [.ref d,.ref fA])→H d=i'→H' d=f' (.dK eK)→Q (.ref g) H'
theorem K7 (T:Tx K mg a):Vd P w K mg base (Vn P w) 8 "levelled" ["net"] [] (Qng K a):=T.Qja.U2 fun f fd F=>by
 have gE:=FW (P:=P) (w:=w) (base:=base) T
 have bg:=zG (P:=P) (w:=w) (base:=base) T
 have WV:=py (P:=P) (w:=w) (base:=base) T
 refine F.VS yG (fun vs H Q E h=>?_) (fun ay A outer s H vs Q E hr h=>?_)
 .obtain⟨p,r,v,rfl,_⟩:=h
  rfl
 .obtain⟨p,r,v,rfl,N,ab,e0,k1⟩:=h
  have wn:=ab.wn0 e0
  obtain⟨dx,hp⟩:=N.ex
  refine⟨_,(ao (aW (i:=1) yG.nd O (by first|exact UL rfl|exact UK O) (jj (pv 0) T.Va WV (hr.mono (by decide))))
   (ao (aW (i:=2) yG.nd O (by first|exact UL rfl|exact UK O) (fe gE aV (hr.mono (by decide)) rfl (af (bj eZ rfl T.VP dm (af (pv 1) ai)) (af (bC bg (hr.mono (by decide)) rfl (af (pv 0) ai)) ai))))
   (ak (aN (gk (af (Kl rfl T.Qea rfl T.Z9 (af (pv 1) (af (aK ff (pv 2) au (fun _ _=>O)) ai))) (af (aK ff (pv 2) au (fun _ _=>O)) ai))))))),?_⟩
  refine⟨_,O,p,dx,_,O,hp,by rfl,p,r,v,O,N,fun l nl=>?_⟩
  rw[wn.keys]
  have s1:ae H (upd H l (.lst ([nA,nB].map V.str))):=ae.new nl
  have h1:upd H l (.lst ([nA,nB].map V.str)) l=f' (.lst ([nA,nB].map V.str)):=ag
  generalize upd H l (.lst ([nA,nB].map V.str))=H1 at s1 h1 ⊢
  refine⟨_,O,l,_,O,.inl (P'.of h1),_,O,p,r,v,[nA,nB],O,N.same s1,wn,fun l2 ys H2 s2 tG bO eY _=>?_⟩
  rw[ab.none e0] at eY
  have t2:=s1.trans s2
  refine⟨l2,[],2,O,⟨ys,P'.of bO,eY⟩,(fun x hx=>by cases hx),by decide,by decide,.inl rfl,fun _ gt pA fA H3 s3 AC QM B0 QN=>?_,fun ring lr dx H3 s3 _ _ Xy=>?_⟩
  rotate_left
  .obtain⟨_,_,pu,p,_,fi,_,pM,_⟩:=Xy.Xy
   have h0:(pu p).isSome=B':=pM 0
   cases e:pu p with
   | none=>rw[e] at h0;cases h0
   | some n=>exact UR (fi.a p n e).1 (Sg n)
  rw[fr0] at B0
  have Iv:=s3 _ _ (s2 _ _ h1)
  refine⟨_,O,_,O,gt,_,_,_,O,O,UW.of AC,O,l,pA,[nA,nB].map UN,([0,0]:List Int).map V.int,O,by rw[Tu];exact P'.of Iv,P'.of B0,by decide,by decide,fun d nd=>?_⟩
  rw[mk0]
  have s4:ae H3 (upd H3 d (.dK eK)):=ae.new nd
  have h4:upd H3 d (.dK eK) d=f' (.dK eK):=ag
  generalize upd H3 d (.dK eK)=H4 at s4 h4 ⊢
  refine⟨_,O,gt,_,_,_,O,O,UW.of (s4 _ _ AC),O,(by show 2≤S';decide),fun q nq=>?_⟩
  have s5:ae H4 (upd H4 q (.tup [.ref d,.ref fA])):=ae.new nq
  exact k1 q d fA _ (t2.trans (s3.trans (s4.trans s5))) ag (none_of (t2.trans s3) nd) (s5 _ _ h4)
end
def fW (n l:F'):List (C'×V):=[("net",.ref n),("levels",.ref l)]
theorem rL {n:F'}:(fW n l).lookup ("net":C')=f' (.ref n):=Wm
theorem zh {n:F'}:(fW n l).lookup ("levels":C')=f' (.ref l):=(Vl (by decide +kernel)).trans Wm
theorem Kn {n l':F'}:aS "levels" (.ref l') (fW n l)=fW n l':=by
 have h1:¬ (("net":C')="levels"):=by decide +kernel
 simp only[fW,aS,h1,VO,WE]
structure gm (K:R') (a:Vg) (H:Hp) (d p:F') (r:Rec) (v:bq) (lv:F') (kvs:U7):Prop where
 ex:∃ dx,H d=f' (.ins a.Desk dx (fW p lv))
 net:bF K a.Net H p r v
 lev:H lv=f' (.dK kvs)
 n1:lv≠r.dh
 n2:lv≠r.da
def YU (d p:F') (r:Rec) (H H':Hp):Prop:=∀ b o,H b=f' o→b≠d→b≠p→b≠r.dh→b≠r.da→b≠r.ls→b≠r.lm→H' b=f' o
theorem gm.same {K:R'}{a:Vg}{H H':Hp}{d p:F'}{r:Rec}{v:bq}{lv:F'}{kvs:U7} (h:gm K a H d p r v lv kvs) (s:ae H H'):gm K a H' d p r v lv kvs:=by
 obtain⟨⟨dx,e⟩,n,l,n1,n2⟩:=h
 exact⟨⟨dx,s _ _ e⟩,n.same s,s _ _ l,n1,n2⟩
theorem gm.kp {K:R'}{r:Rec}{v':bq}{kvs:U7} (h:gm K a H d p r v lv kvs) (k:Kp p r H H') (n:bF K a.Net H' p r v'):gm K a H' d p r v' lv kvs:=by
 obtain⟨⟨dx,e⟩,N,l,n1,n2⟩:=h
 obtain⟨⟨dp,e1⟩,e2,⟨bK,e3,_⟩,⟨xs,e4,_⟩,⟨ys,e5,_⟩,_⟩:=N
 refine⟨⟨dx,k d _ e (bN e e1 (by intro z;injection z with _ _ z;cases z)) (bN e e2 (by intro z;cases z)) (bN e e3 (by intro z;cases z)) (bN e e4 (by intro z;cases z)) (bN e e5 (by intro z;cases z))⟩,n,k lv _ l (bN l e1 (by intro z;cases z)) n1 n2 (bN l e4 (by intro z;cases z)) (bN l e5 (by intro z;cases z)),n1,n2⟩
section
variable {K:R'}
structure Stl (K:R') (a:Vg) (H:Hp) (p:F') (r:Rec) (v:bq) (lv:F'):Prop where
 net:bF K a.Net H p r v
 wn:Wn [nA,nB] v
 lev:H lv=f' (.dK eK)
 no:(fc [nA,nB] v).all (keep [0,0])=K'
def LJ (K:R') (a:Vg):Sp:=fun vs H _ E=>∃ p r v lv,vs=[.ref p,.ref lv]∧Stl K a H p r v lv∧∀ H',ae H H'→E (.ref a.Stale) i' H'
theorem DC (T:Tx K mg a):Vd P w K mg base (Vn P w) 6 "kept_rows" ["net","levels"] [] (LJ K a):=T.Qji.U2 fun f fd F=>by
 have fJ:=Nc (P:=P) (w:=w) (base:=base) T
 have WV:=py (P:=P) (w:=w) (base:=base) T
 have bD:=yx (P:=P) (w:=w) (base:=base) T
 refine F.VS D0 (fun vs H Q E h=>?_) (fun ay A outer s H vs Q E hr h=>?_)
 .obtain⟨p,r,v,lv,rfl,_⟩:=h
  rfl
 .obtain⟨p,r,v,lv,rfl,S,k⟩:=h
  obtain⟨dx,hp⟩:=S.net.ex
  refine⟨_,(ao (ei YX O (bV (jj (pv 0) T.Va WV (hr.mono (by decide)))) (aG (i:=2) D0.nd O (by first|exact UL rfl|exact UK O)) (ak (aU (ko (xK (cI hr) (pv 2) (pv 1))) (ak (j7 aV bD (hr.mono (by decide)) rfl (af (pv 2) ai))) aQ)))
   (ao (aU (gi (eG (bC fJ (hr.mono (by decide)) rfl (af (pv 0) (af (pv 1) ai))))) (ak (iw aV T.Qiq rfl T.QdN)) aQ)
   (ak (aN ip)))),?_⟩
  refine⟨_,O,p,dx,_,O,hp,by rfl,p,r,v,O,S.net,fun l nl=>?_⟩
  rw[S.wn.keys]
  have s1:ae H (upd H l (.lst ([nA,nB].map V.str))):=ae.new nl
  have h1:upd H l (.lst ([nA,nB].map V.str)) l=f' (.lst ([nA,nB].map V.str)):=ag
  generalize upd H l (.lst ([nA,nB].map V.str))=H1 at s1 h1 ⊢
  refine⟨l,O,⟨_,P'.of h1⟩,iN (K:=K) (a:=l) (xs:=[nA,nB].map V.str) (fun i σ G=>∃ v2,σ=[f' (.ref p),f' (.ref lv),v2]∧H1=G) ⟨i',rfl,rfl⟩ ?_ ?_ ?_⟩
  .rintro i σ G _ ⟨v2,rfl,rfl⟩
   exact P'.of h1
  .rintro i x σ G hx ⟨v2,rfl,rfl⟩
   obtain⟨n,hn,rfl⟩:=tT hx
   obtain⟨z,_,hz⟩:=yB.2 i n hn
   dsimp only[bL]
   refine⟨_,O,_,O,lv,_,O,ci.k (k:=UN n) (s1 _ _ S.lev),_,O,?_⟩
   rw[hz]
   exact iL ⟨_,O,O⟩
  .rintro σ G ⟨v2,rfl,rfl⟩
   refine⟨_,O,_,O,p,r,v,[nA,nB],lv,eK,[0,0],O,S.net.same s1,S.wn,s1 _ _ S.lev,yB,fun H2 s2=>⟨_,O,?_⟩⟩
   rw[S.no]
   exact eh ⟨by show 0≤S';decide,k H2 (s1.trans s2)⟩
def KB (K:R') (a:Vg):Sp:=fun vs H _ E=>∃ p r v lv,vs=[.ref p,.ref lv]∧Stl K a H p r v lv∧∀ H',ae H H'→E (.ref a.Stale) i' H'
theorem Mz (T:Tx K mg a):Vd P w K mg base (Vn P w) 7 "cross_text" ["net","levels"] [] (KB K a):=T.Qjj.U2 fun f fd F=>by
 have bS:=DC (P:=P) (w:=w) (base:=base) T
 refine F.VS tZ (fun vs H Q E h=>?_) (fun ay A outer s H vs Q E hr h=>?_)
 .obtain⟨p,r,v,lv,rfl,_⟩:=h
  rfl
 .obtain⟨p,r,v,lv,rfl,S,k⟩:=h
  refine⟨_,(ao (aW (i:=2) tZ.nd O (by first|exact UL rfl|exact UK O) (fe bS aV (hr.mono (by decide)) rfl (af (pv 0) (af (pv 1) ai))))
   (ao (aW (i:=3) tZ.nd O (by first|exact UL rfl|exact UK O) ip)
   (ao (aW (i:=4) tZ.nd O (by first|exact UL rfl|exact UK O) ip)
   (ak (aN ip))))),?_⟩
  exact⟨_,O,_,O,p,r,v,lv,O,S,k⟩
def PD (K:R') (a:Vg):Sp:=fun vs H _ E=>∃ p r v lv g,vs=[.ref p,.ref lv,.int g]∧Stl K a H p r v lv∧∀ H',ae H H'→E (.ref a.Stale) i' H'
theorem KO (T:Tx K mg a):Vd P w K mg base (Vn P w) 7 "draw_text" ["net","levels","gap"] [] (PD K a):=T.Qjk.U2 fun f fd F=>by
 have bS:=DC (P:=P) (w:=w) (base:=base) T
 refine F.VS tY (fun vs H Q E h=>?_) (fun ay A outer s H vs Q E hr h=>?_)
 .obtain⟨p,r,v,lv,g,rfl,_⟩:=h
  rfl
 .obtain⟨p,r,v,lv,g,rfl,S,k⟩:=h
  refine⟨_,(ao (aW (i:=3) tY.nd O (by first|exact UL rfl|exact UK O) (fe bS aV (hr.mono (by decide)) rfl (af (pv 0) (af (pv 1) ai))))
   (ao (aW (i:=4) tY.nd O (by first|exact UL rfl|exact UK O) ip)
   (ao (aW (i:=5) tY.nd O (by first|exact UL rfl|exact UK O) (aK ff ip au (fun _ _=>O)))
   (ak (aN ip))))),?_⟩
  exact⟨_,O,_,O,p,r,v,lv,O,S,k⟩
def Nu (K:R') (a:Vg):Sp:=fun vs H Q _=>∃ p r v l v',vs=[.ref p,.str l]∧l.length≤900∧bF K a.Net H p r v∧jh 1000 v∧0≤v.nn∧v.nn≤1000∧bM v l=f' v'∧∀ x H',Kp p r H H'→bF K a.Net H' p r v'→Q x H'
theorem Mo (T:Tx K mg a) (Z:KD P w K a.LINES (fk a)):Vd P w K mg base (Vn P w) 8 "put_text" ["net","line"] [] (Nu K a):=T.Qjh.U2 fun f fd F=>by
 have cj:=Fq (P:=P) (w:=w) (base:=base) T Z
 refine F.VS Es (fun vs H Q E h=>?_) (fun ay A outer s H vs Q E hr h=>?_)
 .obtain⟨p,r,v,l,v',rfl,_⟩:=h
  rfl
 .obtain⟨p,r,v,l,v',rfl,hl,N,VW,n0,n1,hs,k⟩:=h
  refine⟨_,(ao (aW (i:=2) Es.nd O (by first|exact UL rfl|exact UK O) (fe cj aV (hr.mono (by decide)) rfl (af (pv 0) (af (pv 1) ai))))
   (ak (aN (C5 (ko (uz (pv 2))) bh (Pr (Cd bh (Cd (K8 (pv 2)) Qh6))))))),?_⟩
  refine⟨_,O,_,O,p,r,v,l,O,hl,N,VW,fun w hw x H' hx kp N'=>?_,fun e=>by rw[hs] at e;cases e⟩
  rw[hs] at hw
  cases hw
  dsimp only[bL]
  rcases hx with rfl|rfl
  .exact⟨_,O,_,O,ji (Rj O) (k _ H' kp N')⟩
  .have Ax:0≤v.nn∧v.nn<10000000:=⟨n0,by lia⟩
   have l7:=(yL Ax.1 Ax.2).2
   have lg:v.nn.natAbs.log2<1920:=by
    by_cases z:v.nn.natAbs=0
    .rw[z];decide
    .have:v.nn.natAbs.log2<24:=(Nat.log2_lt z).mpr (by show v.nn.natAbs<16777216;lia)
     lia
   have l1:(Vr++UI "arrow ").length≤S':=by decide +kernel
   have l2:(Vr++UI "arrow "++tn v.nn).length≤S':=by
    have e6:(Vr++UI "arrow ").length=6:=by decide +kernel
    rw[Qey,e6,Q9]
    lia
   exact⟨_,O,_,O,dP (Rs (by intro z;cases z)) ⟨_,rfl,l1,_,rfl,v.nn,rfl,lg,_,rfl,l2,l2,k _ H' kp N'⟩⟩
end
section
variable {K:R'}
def M9 (K:R') (a:Vg):Sp:=fun vs H Q _=>∃ d dx,vs=[.ref d]∧H d=f' (.ins a.Desk dx [])∧∀ p r lv H',(∀ b o,H b=f' o→b≠d→H' b=f' o)→(∀ b o,H b=f' o→b≠p∧b≠r.dh∧b≠r.da∧b≠r.ls∧b≠r.lm)→gm K a H' d p r VM lv []→Q .UO H'
theorem Ml (T:Tx K mg a):nF P w K mg base U8 3 a.Desk "Desk" ["self"] (M9 K a):=T.Qb2.U2 fun f fd F=>by
 have YL:=yi (P:=P) (w:=w) (base:=base) T
 refine F.ok K9 (fun vs H Q E h=>?_) (fun ay A outer s H vs Q E hr h=>?_)
 .obtain⟨d,dx,rfl,_⟩:=h
  rfl
 .obtain⟨d,dx,rfl,hd,k⟩:=h
  refine⟨_,(ao (eA (pv 0) (tK YL (hr.mono (by decide)) rfl) rfl)
   (ak (eA (pv 0) sk rfl))),?_⟩
  refine fun x dn nx JU AZ=>⟨x,dn,O,ag,fun r H2 fr fo N2=>⟨O,?_⟩⟩
  have e0:∀ b o,H b=f' o→upd (upd H dn (.own x)) x (.ins a.Net dn []) b=f' o:=fun b o e=>by rw[aj (aq e nx),aj (aq e JU)];exact e
  have s2:ae H H2:=fun b o e=>fr b o (e0 b o e) (aq e nx)
  have ap:∀ b o,H b=f' o→b≠x∧b≠r.dh∧b≠r.da∧b≠r.ls∧b≠r.lm:=fun b o e=>⟨aq e nx,fo b o (e0 b o e)⟩
  have eY:=s2 _ _ hd
  refine⟨_,O,d,a.Desk,dx,[],O,eY,T.Wx,T.Zl,by decide,?_⟩
  obtain⟨ax,BV,z8,A0,Bk⟩:=ap _ _ hd
  have N3:bF K a.Net (upd H2 d (.ins a.Desk dx (aS "net" (.ref x) []))) x r VM:=by
   obtain⟨⟨dy,h1⟩,h2,⟨bK,h3,h4⟩,⟨xs,h5,h6⟩,⟨ys,h7,h8⟩,n1,n2⟩:=N2
   have tk:Tk H2 (upd H2 d (.ins a.Desk dx (aS "net" (.ref x) []))):=Tk.upd eY rfl
   exact⟨⟨dy,by rw[aj (UM ax)];exact h1⟩,by rw[aj (UM BV)];exact h2,⟨bK,by rw[aj (UM z8)];exact h3,tk.arr h4⟩,⟨xs,by rw[aj (UM A0)];exact h5,tk.U' (cu (fun _=>O) _) h6⟩,⟨ys,by rw[aj (UM Bk)];exact h7,tk.U' (cu (fun _=>O) _) h8⟩,n1,n2⟩
  have q3:upd H2 d (.ins a.Desk dx (aS "net" (.ref x) [])) d=f' (.ins a.Desk dx (aS "net" (.ref x) [])):=ag
  have k3:∀ b o,H b=f' o→b≠d→upd H2 d (.ins a.Desk dx (aS "net" (.ref x) [])) b=f' o:=fun b o e z=>by rw[aj z];exact s2 _ _ e
  generalize upd H2 d (.ins a.Desk dx (aS "net" (.ref x) []))=H3 at N3 q3 k3 ⊢
  refine fun lv pJ=>⟨_,O,d,a.Desk,dx,_,O,by rw[aj (aq q3 pJ)];exact q3,T.Wx,T.Z4,by show 1<1000;decide,?_⟩
  have s4:ae H3 (upd H3 lv (.dK [])):=ae.new pJ
  have h4:upd H3 lv (.dK []) lv=f' (.dK []):=ag
  have N4:=N3.same s4
  have q4:=s4 _ _ q3
  have BO:lv≠r.dh∧lv≠r.da:=by
   obtain⟨_,h2,⟨bK,h3,_⟩,_⟩:=N3
   exact⟨UM (aq h2 pJ),UM (aq h3 pJ)⟩
  have ld:lv≠d:=UM (aq q3 pJ)
  generalize upd H3 lv (.dK [])=H4 at s4 h4 N4 q4 ⊢
  have ef:aS "levels" (.ref lv) (aS "net" (.ref x) [])=fW x lv:=by
   have z:¬ (("net":C')="levels"):=by decide +kernel
   simp only[fW,aS,z,VO]
  show Q .UO _
  rw[ef]
  have N5:bF K a.Net (upd H4 d (.ins a.Desk dx (fW x lv))) x r VM:=by
   obtain⟨⟨dy,h1⟩,h2,⟨bK,h3,h4⟩,⟨xs,h5,h6⟩,⟨ys,h7,h8⟩,n1,n2⟩:=N4
   have tk:Tk H4 (upd H4 d (.ins a.Desk dx (fW x lv))):=Tk.upd q4 rfl
   exact⟨⟨dy,by rw[aj (UM ax)];exact h1⟩,by rw[aj (UM BV)];exact h2,⟨bK,by rw[aj (UM z8)];exact h3,tk.arr h4⟩,⟨xs,by rw[aj (UM A0)];exact h5,tk.U' (cu (fun _=>O) _) h6⟩,⟨ys,by rw[aj (UM Bk)];exact h7,tk.U' (cu (fun _=>O) _) h8⟩,n1,n2⟩
  exact k x r lv _ (fun b o e z=>by rw[aj z];exact s4 _ _ (k3 b o e z)) ap ⟨⟨dx,ag⟩,N5,by rw[aj ld];exact h4,BO.1,BO.2⟩
def Ke (K:R') (a:Vg):Sp:=fun vs H Q _=>∃ d p r v lv kvs g l2 fA,vs=[.ref d,.ref g]∧gm K a H d p r v lv kvs∧AB v∧v.arr=[]∧H g=f' (.tup [.ref l2,.ref fA])∧H l2=f' (.dK eK)∧l2≠r.dh∧l2≠r.da∧∀ x H',YU d p r H H'→gm K a H' d p r v l2 eK→Q x H'
theorem Qnh:yo [] [0,0]=0:=by decide
theorem LC (T:Tx K mg a):dJ P w K mg base U8 6 a.Desk "level_by" ["self","answer"] [] (Ke K a):=T.QaK.U2 fun f fd F=>by
 have jt:=PZ (P:=P) (w:=w) (base:=base) T
 refine F.ok OI (fun vs H Q E h=>?_) (fun ay A outer s H vs Q E hr h=>?_)
 .obtain⟨d,p,r,v,lv,kvs,g,l2,fA,rfl,_⟩:=h
  rfl
 .obtain⟨d,p,r,v,lv,kvs,g,l2,fA,rfl,D,ab,e0,hg,bO,n1,n2,k⟩:=h
  obtain⟨dx,hd⟩:=D.ex
  refine⟨_,(ao (eA (pv 0) (aK ff (pv 1) au (fun _ _=>O)) O)
   (ak (aN (br sA bh (mh EV rfl T.Qb7 xV (af (bC jt (hr.mono (by decide)) rfl (af (bA (pv 0) rfl) (af (bA (pv 0) rfl) ai))) ai)))))),?_⟩
  refine⟨_,O,g,_,_,_,O,O,UW.of hg,O,_,O,d,a.Desk,dx,_,O,hd,T.Wx,T.Z4,(by show 2<1000;decide),?_⟩
  rw[Kn]
  have kd:YU d p r H (upd H d (.ins a.Desk dx (fW p l2))):=fun b o e z _ _ _ _ _=>by rw[aj z];exact e
  have q1:upd H d (.ins a.Desk dx (fW p l2)) d=f' (.ins a.Desk dx (fW p l2)):=ag
  have mY:upd H d (.ins a.Desk dx (fW p l2)) l2=f' (.dK eK):=by rw[aj (bN bO hd (by intro z;cases z))];exact bO
  have N1:bF K a.Net (upd H d (.ins a.Desk dx (fW p l2))) p r v:=by
   obtain⟨⟨dy,h1⟩,h2,⟨bK,h3,h4⟩,⟨xs,h5,h6⟩,⟨ys,h7,h8⟩,m1,m2⟩:=D.net
   have tk:Tk H (upd H d (.ins a.Desk dx (fW p l2))):=Tk.upd hd rfl
   exact⟨⟨dy,by rw[aj (bN h1 hd (by intro z;injection z with _ _ z;cases z))];exact h1⟩,by rw[aj (bN h2 hd (by intro z;cases z))];exact h2,⟨bK,by rw[aj (bN h3 hd (by intro z;cases z))];exact h3,tk.arr h4⟩,⟨xs,by rw[aj (bN h5 hd (by intro z;cases z))];exact h5,tk.U' (cu (fun _=>O) _) h6⟩,⟨ys,by rw[aj (bN h7 hd (by intro z;cases z))];exact h7,tk.U' (cu (fun _=>O) _) h8⟩,m1,m2⟩
  generalize upd H d (.ins a.Desk dx (fW p l2))=H1 at kd q1 mY N1 ⊢
  refine⟨_,O,d,a.Desk,dx,_,_,O,q1,T.Wx,T.Zl,rL,_,O,d,a.Desk,dx,_,_,O,q1,T.Wx,T.Z4,zh,p,r,v,[nA,nB],l2,eK,[0,0],O,N1,ab.wn0 e0,(by rw[e0];intro q hq;cases hq),mY,yB,fun H2 s2=>?_⟩
  rw[ab.none e0,Qnh]
  exact⟨0,O,by decide,_,_,O,O,(by decide +kernel),k _ H2 (fun b o e z1 z2 z3 z4 z5 z6=>s2 _ _ (kd b o e z1 z2 z3 z4 z5 z6)) ⟨⟨dx,s2 _ _ q1⟩,N1.same s2,s2 _ _ mY,n1,n2⟩⟩
def Stale (K:R') (a:Vg) (H:Hp) (d p:F') (r:Rec) (v:bq) (lv:F') (E:XK):Prop:=gm K a H d p r v lv eK∧Wn [nA,nB] v∧(fc [nA,nB] v).all (keep [0,0])=K'∧∀ H',ae H H'→E (.ref a.Stale) i' H'
def J3 (K:R') (a:Vg):Sp:=fun vs H Q E=>∃ d p r v lv kvs wd,vs=[.ref d,.str wd]∧gm K a H d p r v lv kvs ∧
 ((wd=UI "level"∧AB v∧v.arr=[]∧∀ x l2 H',YU d p r H H'→H l2=i'→gm K a H' d p r v l2 eK→Q x H')∨(wd=UI "cross"∧Stale K a H d p r v lv E))
theorem MZ (T:Tx K mg a):dJ P w K mg base (Vn P w) 9 a.Desk "say_word" ["self","word"] [] (J3 K a):=T.Qb4.U2 fun f fd F=>by
 have gR:=K7 (P:=P) (w:=w) (base:=base) T
 have QaK:=LC (P:=P) (w:=w) (base:=base) T
 have eV:=Mz (P:=P) (w:=w) (base:=base) T
 have aF:=oY (P:=P) (w:=w) (base:=base) T
 refine F.VS B5 (fun vs H Q E h=>?_) (fun ay A outer s H vs Q E hr h=>?_)
 .obtain⟨d,p,r,v,lv,kvs,wd,rfl,_⟩:=h
  rfl
 .obtain⟨d,p,r,v,lv,kvs,wd,rfl,D,h⟩:=h
  obtain⟨dx,hd⟩:=D.ex
  have no:∀ {x y:C'},x≠y→decide (V.str x=V.str y)=K':=fun h=>Rs (fun z=>h (by injection z))
  refine⟨_,(ao (aU (bf cG (pv 1) bh (aZ _)) (ak (aN (Qh0 ip (sv bh)))) aQ)
   (ao (aU (bf cG (pv 1) bh (aZ _)) (ak (aN (zF (pv 0) T.Wx QaK (hr.mono (by decide)) (af (fe gR aV (hr.mono (by decide)) rfl (af (bA (pv 0) rfl) ai)) ai)))) aQ)
   (ao (aU (bf cG (pv 1) bh (aZ _)) (ao (aW (i:=2) B5.nd O (by first|exact UL rfl|exact UK O) ip)
   (ak (aN (br sA (br sA (zF (pv 0) T.Wx QaK (hr.mono (by decide)) (af (pv 2) ai)) bh) (mh EV rfl T.Qb7 xV (af (aK ff (pv 2) au (fun _ _=>O)) ai)))))) aQ)
   (ao (aU (bf cG (pv 1) bh (aZ _)) (ak (aN ip)) aQ)
   (ao (aU (bf cG (pv 1) bh (aZ _)) (ak (aN (fe eV aV (hr.mono (by decide)) rfl (af (bA (pv 0) rfl) (af (bA (pv 0) rfl) ai))))) aQ)
   (ao (aU (bf cG (pv 1) bh (aZ _)) (ak (aN ip)) aQ)
   (ak (j7 aV aF (hr.mono (by decide)) rfl (af au ai))))))))),?_⟩
  rcases h with⟨rfl,ab,e0,k⟩|⟨rfl,_,wn,ns,k⟩
  .refine⟨_,O,O,_,O,dP (no (by decide)) ?_⟩
   refine⟨_,O,O,_,O,ji (Rj O) ?_⟩
   refine⟨_,O,d,dx,_,O,hd,by rfl,_,O,d,a.Desk,dx,_,_,O,hd,T.Wx,T.Zl,rL,p,r,v,O,D.net,ab,e0,fun g l2 fA H1 s1 hg tG bO=>?_⟩
   have nn:l2≠r.dh∧l2≠r.da:=by
    obtain⟨_,h2,⟨bK,h3,_⟩,_⟩:=D.net
    exact⟨UM (aq h2 tG),UM (aq h3 tG)⟩
   exact⟨d,p,r,v,lv,kvs,g,l2,fA,O,D.same s1,ab,e0,hg,bO,nn.1,nn.2,fun x H2 kd D2=>k x l2 H2 (fun b o e=>kd b o (s1 _ _ e)) tG D2⟩
  .refine⟨_,O,O,_,O,dP (no (by decide)) ?_⟩
   refine⟨_,O,O,_,O,dP (no (by decide)) ?_⟩
   refine⟨_,O,O,_,O,dP (no (by decide)) ?_⟩
   refine⟨_,O,O,_,O,dP (no (by decide)) ?_⟩
   refine⟨_,O,O,_,O,ji (Rj O) ?_⟩
   rename_i D'
   exact⟨_,O,d,a.Desk,dx,_,_,O,hd,T.Wx,T.Zl,rL,_,O,d,a.Desk,dx,_,_,O,hd,T.Wx,T.Z4,zh,p,r,v,lv,O,⟨D.net,wn,D'.lev,ns⟩,k⟩
def NT (K:R') (a:Vg):Sp:=fun vs H _ E=>∃ d p r v lv l,vs=[.ref d,.str (UI "draw"),.ref l]∧H l=f' (.lst [.str (UI "3")])∧Stale K a H d p r v lv E
theorem Qni:dH (UI "3")=B':=by decide +kernel
theorem Lq (T:Tx K mg a):dJ P w K mg base (Vn P w) 9 a.Desk "say_number" ["self","word","written"] [] (NT K a):=T.Qb5.U2 fun f fd F=>by
 have aP:=CM (P:=P) (w:=w) (base:=base) T
 have aE:=rE (P:=P) (w:=w) (base:=base) T
 have fM:=KO (P:=P) (w:=w) (base:=base) T
 have Z7:=DO (P:=P) (w:=w) (base:=base) T
 have aF:=oY (P:=P) (w:=w) (base:=base) T
 refine F.VS Ey (fun vs H Q E h=>?_) (fun ay A outer s H vs Q E hr h=>?_)
 .obtain⟨d,p,r,v,lv,l,rfl,_⟩:=h
  rfl
 .obtain⟨d,p,r,v,lv,l,rfl,hl,D,wn,ns,k⟩:=h
  have no:∀ {x y:C'},x≠y→decide (V.str x=V.str y)=K':=fun h=>Rs (fun z=>h (by injection z))
  refine⟨_,(ao (aU (PW.pt (ig (bf nN (bj eZ O T.VP dm (af (pv 2) ai)) au (aZ _)) (kU (gi (eG (bC aP (hr.mono (by decide)) rfl (af (aK bB (pv 2) au (fun _ _=>O)) ai))))))) (ak (j7 aV aF (hr.mono (by decide)) rfl (af au ai))) aQ)
   (ao (aW (i:=3) Ey.nd O (by first|exact UL rfl|exact UK O) (mh FA O T.Qb6 xI (af (aK bB (pv 2) au (fun _ _=>O)) ai)))
   (ao (aU (bf cG (pv 1) bh (aZ _)) (ao (bp (eu (bA (pv 0) rfl) T.Va Z7 aV (hr.mono (by decide)) (af (pv 3) ai)))
   (ak (aN bh))) aQ)
   (ao (aU (bf cG (pv 1) bh (aZ _)) (ak (aN ip)) aQ)
   (ao (aU (gi (eG (bC aE (hr.mono (by decide)) rfl (af (pv 3) (af (fZ rfl T.Qjx) (af (fZ rfl T.Qjt) ai)))))) (ak (j7 aV aF (hr.mono (by decide)) rfl (af au ai))) aQ)
   (ak (aN (fe fM aV (hr.mono (by decide)) rfl (af (bA (pv 0) rfl) (af (bA (pv 0) rfl) (af (pv 3) ai))))))))))),?_⟩
  refine⟨_,O,l,_,O,.inl (P'.of hl),O,_,O,iL ?_⟩
  refine⟨_,O,l,_,_,.str (UI "3"),O,O,P'.of hl,O,_,O,by decide +kernel,fun H1 s1=>⟨_,O,?_⟩⟩
  rw[Qni]
  refine iL ?_
  have cV:=s1 _ _ hl
  have D1:=D.same s1
  obtain⟨dx,hd⟩:=D1.ex
  refine⟨_,O,l,_,_,.str (UI "3"),O,O,P'.of cV,O,3,Wv (fun x=>[V.str x]) (by decide +kernel),by decide,by decide,?_⟩
  refine⟨_,O,O,_,O,dP (no (by decide)) ?_⟩
  refine⟨_,O,O,_,O,dP (no (by decide)) ?_⟩
  refine⟨_,O,3,1,50,O,_,O,iL ?_⟩
  exact⟨_,O,d,a.Desk,dx,_,_,O,hd,T.Wx,T.Zl,rL,_,O,d,a.Desk,dx,_,_,O,hd,T.Wx,T.Z4,zh,_,O,p,r,v,lv,3,O,⟨D1.net,wn,D1.lev,ns⟩,fun H2 s2=>k H2 (s1.trans s2)⟩
def DQ (l:C'):Bool:=match VX l bk with
 | x::_::_=>!XZ (.str x) [.str (UI "drop"),.str (UI "ring"),.str (UI "draw")]
 | _=>K'
def Qnj (K:R') (a:Vg):Sp:=fun vs H Q E=>∃ d p r v lv kvs l,vs=[.ref d,.str l]∧gm K a H d p r v lv kvs∧l.length≤900 ∧
 ((DQ l=B'∧jh 1000 v∧0≤v.nn∧v.nn≤1000∧∃ v',bM v l=f' v'∧∀ x H',YU d p r H H'→gm K a H' d p r v' lv kvs→Q x H') ∨
  (l=UI "level"∧AB v∧v.arr=[]∧∀ x l2 H',YU d p r H H'→H l2=i'→gm K a H' d p r v l2 eK→Q x H')∨((l=UI "cross"∨l=UI "draw 3")∧Stale K a H d p r v lv E))
theorem K5:VX (UI "level") bk=[UI "level"]:=by decide +kernel
theorem KG:VX (UI "cross") bk=[UI "cross"]:=by decide +kernel
theorem Pf:VX (UI "draw 3") bk=[UI "draw",UI "3"]:=by decide +kernel
theorem Qnk (T:Tx K mg a) (Z:KD P w K a.LINES (fk a)):dJ P w K mg base (Vn P w) 10 a.Desk "say" ["self","line"] [] (Qnj K a):=T.Qb3.U2 fun f fd F=>by
 have Qb4:=MZ (P:=P) (w:=w) (base:=base) T
 have Qb5:=Lq (P:=P) (w:=w) (base:=base) T
 have gO:=Mo (P:=P) (w:=w) (base:=base) T Z
 refine F.VS D5 (fun vs H Q E h=>?_) (fun ay A outer s H vs Q E hr h=>?_)
 .obtain⟨d,p,r,v,lv,kvs,l,rfl,_⟩:=h
  rfl
 .obtain⟨d,p,r,v,lv,kvs,l,rfl,D,hl,h⟩:=h
  refine⟨_,(ao (aW (i:=2) D5.nd O (by first|exact UL rfl|exact UK O) (ej QaY ZC Qcg zw (pv 1) (af bh ai)))
   (ao (aU (bf cG (bj eZ rfl T.VP dm (af (pv 2) ai)) au (aZ _)) (ak (aN (eu (pv 0) T.Wx Qb4 aV (hr.mono (by decide)) (af (pv 1) ai)))) aQ)
   (ao (aU (bf B7 (aK bB (pv 2) au (fun _ _=>O)) (gk (af bh (af bh (af bh ai)))) (by with_unfolding_all rfl)) (ak (aN (eu (pv 0) T.Wx Qb5 aV (hr.mono (by decide)) (af (aK bB (pv 2) au (fun _ _=>O)) (af (uD yd (pv 2) (sj au) zj) ai))))) aQ)
   (ak (aN (fe gO aV (hr.mono (by decide)) rfl (af (bA (pv 0) rfl) (af (pv 1) ai)))))))),?_⟩
  refine⟨_,O,O,l,bk,O,O,O,by rw[Q9];lia,fun wd mL=>?_⟩
  rcases h with⟨hp,VW,n0,n1,v',hs,k⟩|⟨rfl,ab,e0,k⟩|⟨rfl|rfl,D',wn,ns,k⟩
  .unfold DQ at hp
   cases e:VX l bk with
   | nil=>rw[e] at hp;cases hp
   | cons x r1=>
   cases r1 with
   | nil=>rw[e] at hp;cases hp
   | cons y r2=>
   rw[e] at hp
   have lc:(x::y::r2).length≤1000:=by
    have:=PyProof.Rows.split_le l bk
    rw[e] at this
    lia
   have s1:ae H (upd H wd (.lst ((x::y::r2).map V.str))):=ae.new mL
   have h1:upd H wd (.lst ((x::y::r2).map V.str)) wd=f' (.lst ((x::y::r2).map V.str)):=ag
   generalize upd H wd (.lst ((x::y::r2).map V.str))=H1 at s1 h1 ⊢
   refine⟨_,O,wd,_,O,.inl (P'.of h1),O,_,O,dP (Rs (fun z=>by injection z with z;rw[Q3,Rh,Rh] at z;lia)) ?_⟩
   refine⟨_,O,wd,_,_,.str x,O,O,P'.of h1,iP (i:=0) O,(by show 3≤S';decide),fun q nq=>⟨q,_,O,.inr (UW.of ag),O,O,_,O,?_⟩⟩
   have hp:XZ (.str x) [.str (UI "drop"),.str (UI "ring"),.str (UI "draw")]=K':=by simpa using hp
   dsimp only
   rw[show XZ (V.str x) [V.str (UI "drop"),V.str (UI "ring"),V.str (UI "draw")]=K' from hp]
   refine iL ?_
   have s2:=s1.trans (ae.new (o:=.tup [.str (UI "drop"),.str (UI "ring"),.str (UI "draw")]) nq)
   have D2:=D.same s2
   obtain⟨dx,hd⟩:=D2.ex
   exact⟨_,O,d,a.Desk,dx,_,_,O,hd,T.Wx,T.Zl,rL,_,O,p,r,v,l,v',O,hl,D2.net,VW,n0,n1,hs,fun x H3 kp N3=>k x H3 (fun b o e z1 z2 z3 z4 z5 z6=>kp b o (s2 _ _ e) z2 z3 z4 z5 z6) (D2.kp kp N3)⟩
  .rw[K5]
   have s1:ae H (upd H wd (.lst ([UI "level"].map V.str))):=ae.new mL
   have h1:upd H wd (.lst ([UI "level"].map V.str)) wd=f' (.lst ([UI "level"].map V.str)):=ag
   generalize upd H wd (.lst ([UI "level"].map V.str))=H1 at s1 h1 ⊢
   have D1:=D.same s1
   obtain⟨dx,hd⟩:=D1.ex
   refine⟨_,O,wd,_,O,.inl (P'.of h1),O,_,O,ji (Rj O) ?_⟩
   exact⟨_,O,d,dx,_,O,hd,by rfl,_,O,d,p,r,v,lv,kvs,_,O,D1,.inl ⟨O,ab,e0,fun x l2 H2 kd nl D2=>k x l2 H2 (fun b o e=>kd b o (s1 _ _ e)) (zt s1 nl) D2⟩⟩
  .rw[KG]
   have s1:ae H (upd H wd (.lst ([UI "cross"].map V.str))):=ae.new mL
   have h1:upd H wd (.lst ([UI "cross"].map V.str)) wd=f' (.lst ([UI "cross"].map V.str)):=ag
   generalize upd H wd (.lst ([UI "cross"].map V.str))=H1 at s1 h1 ⊢
   have D1:=D'.same s1
   obtain⟨dx,hd⟩:=D1.ex
   refine⟨_,O,wd,_,O,.inl (P'.of h1),O,_,O,ji (Rj O) ?_⟩
   exact⟨_,O,d,dx,_,O,hd,by rfl,_,O,d,p,r,v,lv,eK,_,O,D1,.inr ⟨O,D1,wn,ns,fun H2 s2=>k H2 (s1.trans s2)⟩⟩
  .rw[Pf]
   have s1:ae H (upd H wd (.lst ([UI "draw",UI "3"].map V.str))):=ae.new mL
   have h1:upd H wd (.lst ([UI "draw",UI "3"].map V.str)) wd=f' (.lst ([UI "draw",UI "3"].map V.str)):=ag
   generalize upd H wd (.lst ([UI "draw",UI "3"].map V.str))=H1 at s1 h1 ⊢
   refine⟨_,O,wd,_,O,.inl (P'.of h1),O,_,O,dP (Rs (fun z=>by injection z with z;exact UR z (by decide))) ?_⟩
   refine⟨_,O,wd,_,_,.str (UI "draw"),O,O,P'.of h1,O,(by show 3≤S';decide),fun q nq=>⟨q,_,O,.inr (UW.of ag),O,O,_,O,?_⟩⟩
   refine ji (by decide +kernel) ?_
   have s2:=s1.trans (ae.new (o:=.tup [.str (UI "drop"),.str (UI "ring"),.str (UI "draw")]) nq)
   have D2:=D'.same s2
   obtain⟨dx,hd⟩:=D2.ex
   have h2:=(ae.new (o:=.tup [.str (UI "drop"),.str (UI "ring"),.str (UI "draw")]) nq) _ _ h1
   refine⟨_,O,d,dx,_,O,hd,by rfl,_,O,wd,_,_,.str (UI "draw"),O,O,P'.of h2,O,_,O,_,O,wd,_,O,P'.of h2,fun q2 HH=>?_⟩
   have s3:=s2.trans (ae.new (o:=.lst [.str (UI "3")]) HH)
   exact⟨d,p,r,v,lv,q2,O,ag,D'.same s3,wn,ns,fun H3 s4=>k H3 (s3.trans s4)⟩
end
def j8 (n:C') (w:Int):List (C'×V):=[("name",.str n),("wide",.int w)]
theorem Ou {n:C'}{w:Int}:(j8 n w).lookup ("name":C')=f' (.str n):=Wm
theorem Nh {n:C'}{w:Int}:aS "wide" (.int w) (aS "name" (.str n) [])=j8 n w:=by
 have h1:¬ (("name":C')="wide"):=by decide +kernel
 simp only[j8,aS,h1,VO]
section
variable {K:R'}
def Qnl (a:Vg):Sp:=fun vs H Q _=>∃ o dx n w,vs=[.ref o,.str n,.int w]∧H o=f' (.ins a.Own dx [])∧Q .UO (upd (upd H o (.ins a.Own dx (aS "name" (.str n) []))) o (.ins a.Own dx (j8 n w)))
theorem OS (T:Tx K mg a):nF P w K mg base U8 1 a.Own "Own" ["self","name","wide"] (Qnl a):=T.Qb0.U2 fun f fd F=>by
 refine F.ok KM (fun vs H Q E h=>?_) (fun ay A outer s H vs Q E hr h=>?_)
 .obtain⟨o,dx,n,w,rfl,_⟩:=h
  rfl
 .obtain⟨o,dx,n,w,rfl,ho,k⟩:=h
  refine⟨_,(ao (eA (pv 0) (pv 1) O)
   (ak (eA (pv 0) (pv 2) rfl))),?_⟩
  refine⟨_,O,_,O,o,a.Own,dx,[],O,ho,T.QaI,T.QdV,by decide,?_⟩
  refine⟨_,O,_,O,o,a.Own,dx,_,O,ag,T.QaI,T.QiE,by show 1<1000;decide,?_⟩
  rw[Nh]
  exact k
def K4 (a:Vg):Sp:=fun vs H Q _=>∃ o dx n w,vs=[.ref o]∧H o=f' (.ins a.Own dx (j8 n w))∧Q (.str n) H
theorem Pi (T:Tx K mg a):dJ P w K mg base U8 1 a.Own "label" ["self"] [] (K4 a):=T.Qb1.U2 fun f fd F=>by
 refine F.ok M4 (fun vs H Q E h=>?_) (fun ay A outer s H vs Q E hr h=>?_)
 .obtain⟨o,dx,n,w,rfl,_⟩:=h
  rfl
 .obtain⟨o,dx,n,w,rfl,ho,k⟩:=h
  refine⟨_,(ak (aN (bA (pv 0) O))),?_⟩
  exact⟨_,O,o,a.Own,dx,_,_,O,ho,T.QaI,T.QdV,Ou,k⟩
structure One (a:Vg) (H:Hp) (l r o:F'):Prop where
 hl:H l=f' (.lst [.ref r])
 hr:H r=f' (.lst [.ref o])
 ho:∃ dx w,H o=f' (.ins a.Own dx (j8 nA w))
theorem One.same {r o:F'} (h:One a H l r o) (s:ae H H'):One a H' l r o:=by
 obtain⟨h1,h2,dx,w,h3⟩:=h
 exact⟨s _ _ h1,s _ _ h2,dx,w,s _ _ h3⟩
theorem uJ  (h:([x]:List V)[i]?=f' y):i=0∧y=x:=by
 match i,h with
 | 0,h=>exact⟨O,(VE h).symm⟩
 | i + 1,h=>simp at h
def Ku (a:Vg):Sp:=fun vs H Q _=>∃ l r o,vs=[.ref l]∧One a H l r o∧∀ m q H',ae H H'→H' m=f' (.lst [.ref q])→H' q=f' (.lst [.str nA])→Q (.ref m) H'
theorem Lz (T:Tx K mg a):Vd P w K mg base U8 2 "marks_of" ["rows"] [] (Ku a):=T.Qjb.U2 fun f fd F=>by
 have Qb1:=Pi (P:=P) (w:=w) (base:=base) T
 refine F.ok zb (fun vs H Q E h=>?_) (fun ay A outer s H vs Q E hr h=>?_)
 .obtain⟨l,r,o,rfl,_⟩:=h
  rfl
 .obtain⟨l,r,o,rfl,U0,k⟩:=h
  refine⟨_,(ao (aW (i:=1) zb.nd O (by first|exact UL rfl|exact UK O) (bY ai))
   (ao (ei Wb rfl (bV (pv 0)) (aG (i:=2) zb.nd O (by first|exact UL rfl|exact UK O)) (ak (bp (ej V5 Wo Wy fS (pv 1) (af (cF (N:=["item"]) (cap:=[i']) O (cz (osc:=az zB) (XN:=["rows","marks","row"]) O O (by decide +kernel)) (bV (pv 2)) (fun cl C s H fp aa=>(aG (i:=0) (show(["item"]:List C').Nodup by decide +kernel) rfl (by first|exact UL rfl|exact UK O))) (fun cl C s H fp aa=>cR) (fun cl C s H fp aa=>(jj (pv 0) T.QaI Qb1 (hr.mono (by decide))))) ai)))))
   (ak (aN (pv 1))))),?_⟩
  refine⟨by show 0≤S';decide,fun m nm=>?_⟩
  have s1:ae H (upd H m (.lst [])):=ae.new nm
  have h1:upd H m (.lst []) m=f' (.lst []):=ag
  generalize upd H m (.lst [])=H1 at s1 h1 ⊢
  have O1:=U0.same s1
  refine⟨_,O,l,O,⟨_,P'.of O1.hl⟩,iN (K:=K) (a:=l) (xs:=[.ref r]) (fun i σ G=>∃ v2,σ=[f' (.ref l),f' (.ref m),v2]∧ae H G∧(i=0→G m=f' (.lst []))∧(i=1→∃ q,G m=f' (.lst [.ref q])∧G q=f' (.lst [.str nA]))) ⟨i',rfl,s1,fun _=>h1,fun z=>by cases z⟩ ?_ ?_ ?_⟩
  .rintro i σ G _ ⟨v2,rfl,sg,_⟩
   exact P'.of (sg _ _ U0.hl)
  .rintro i x σ G hx ⟨v2,rfl,sg,hm,_⟩
   obtain⟨rfl,rfl⟩:=uJ hx
   have hm:=hm rfl
   have OG:=U0.same sg
   dsimp only[bL]
   refine⟨_,O,.inl ⟨O,_,P'.of hm⟩,_,O,r,O,⟨_,P'.of OG.hr⟩,fun D hD=>?_⟩
   refine fq (K:=K) (a:=r) (xs:=[.ref o]) (fun j τ G'=>∃ v1,τ=[v1]∧ae G G'∧(j=0→G' D=f' (.lst []))∧(j=1→G' D=f' (.lst [.str nA]))) ⟨i',rfl,ae.new hD,fun _=>ag,fun z=>by cases z⟩ ?_ ?_ ?_
   .rintro j τ G' _ ⟨v1,rfl,bT,_⟩
    exact P'.of (bT _ _ OG.hr)
   .rintro j y τ G' hy ⟨v1,rfl,bT,eD,_⟩
    obtain⟨rfl,rfl⟩:=uJ hy
    have eD:=eD rfl
    obtain⟨dx,w0,ho⟩:=(OG.same bT).ho
    dsimp only[bL,dQ]
    rw[UH rfl]
    refine⟨_,O,o,dx,_,O,ho,by rfl,o,dx,nA,w0,O,ho,?_⟩
    exact⟨_,eD,by show 0<S';decide,_,O,du hD bT,(fun z=>by cases z),fun _=>ag⟩
   rintro τ G' ⟨v1,rfl,bT,_,eD⟩
   have eD:=eD rfl
   have mD:m≠D:=aq hm hD
   refine⟨m,_,_,O,O,bT _ _ hm,by show 0<S';decide,?_⟩
   exact⟨_,O,du nm (sg.trans bT),(fun z=>by cases z),fun _=>⟨D,ag,by rw[aj (UM mD)];exact eD⟩⟩
  .rintro σ G ⟨v2,rfl,sg,_,hm⟩
   obtain⟨q,hm,hq⟩:=hm rfl
   exact⟨_,O,k m q G sg hm hq⟩
def Ki:Sp:=fun vs H Q _=>∃ m q,vs=[.ref m]∧H m=f' (.lst [.ref q])∧H q=f' (.lst [.str nA])∧∀ l H',ae H H'→H' l=f' (.lst [.str nA])→Q (.ref l) H'
theorem MQ (T:Tx K mg a):Vd P w K mg base U8 1 "marks_in_line" ["rows"] [] Ki:=T.Qi5.U2 fun f fd F=>by
 refine F.ok zk (fun vs H Q E h=>?_) (fun ay A outer s H vs Q E hr h=>?_)
 .obtain⟨m,q,rfl,_⟩:=h
  rfl
 .obtain⟨m,q,rfl,hm,hq,k⟩:=h
  refine⟨_,(ao (aW (i:=1) zk.nd O (by first|exact UL rfl|exact UK O) (bY ai))
   (ao (ei Wb rfl (bV (pv 0)) (aG (i:=2) zk.nd O (by first|exact UL rfl|exact UK O)) (ak (bp (ej V5 Qfo PySem.F.type_list_extend Ph (pv 1) (af (pv 2) ai)))))
   (ak (aN (pv 1))))),?_⟩
  refine⟨by show 0≤S';decide,fun l AY=>?_⟩
  have s1:ae H (upd H l (.lst [])):=ae.new AY
  have h1:upd H l (.lst []) l=f' (.lst []):=ag
  generalize upd H l (.lst [])=H1 at s1 h1 ⊢
  refine⟨_,O,m,O,⟨_,P'.of (s1 _ _ hm)⟩,iN (K:=K) (a:=m) (xs:=[.ref q]) (fun i σ G=>∃ v2,σ=[f' (.ref m),f' (.ref l),v2]∧ae H G∧(i=0→G l=f' (.lst []))∧(i=1→G l=f' (.lst [.str nA]))) ⟨i',rfl,s1,fun _=>h1,fun z=>by cases z⟩ ?_ ?_ ?_⟩
  .rintro i σ G _ ⟨v2,rfl,sg,_⟩
   exact P'.of (sg _ _ hm)
  .rintro i x σ G hx ⟨v2,rfl,sg,hl,_⟩
   obtain⟨rfl,rfl⟩:=uJ hx
   have hl:=hl rfl
   dsimp only[bL]
   refine⟨_,O,.inl ⟨O,_,P'.of hl⟩,_,O,l,q,_,_,O,O,hl,sg _ _ hq,by show 0 + 1≤S';decide,?_⟩
   exact⟨_,O,du AY sg,(fun z=>by cases z),fun _=>ag⟩
  .rintro σ G ⟨v2,rfl,sg,_,hl⟩
   exact⟨_,O,k l G sg (hl O)⟩
def N8 (a:Vg):Sp:=fun vs H _ E=>∃ l r o d,∃ n:Int,vs=[.ref l,.ref d]∧One a H l r o∧H d=f' (.dK [(UN nA,.int n)])∧200<n∧∀ H',ae H H'→E (.ref a.TooLong) i' H'
theorem KU (T:Tx K mg a):Vd P w K mg base (Vn P w) 4 "picture" ["rows","places"] [] (N8 a):=T.Qjc.U2 fun f fd F=>by
 have gC:=Lz (P:=P) (w:=w) (base:=base) T
 have dc:=MQ (P:=P) (w:=w) (base:=base) T
 have aE:=rE (P:=P) (w:=w) (base:=base) T
 refine F.VS MR (fun vs H Q E h=>?_) (fun ay A outer s H vs Q E hr h=>?_)
 .obtain⟨l,r,o,d,n,rfl,_⟩:=h
  rfl
 .obtain⟨l,r,o,d,n,rfl,U0,hd,hn,k⟩:=h
  refine⟨_,(ao (aU (gi (eG (bj rB O T.Z8 rZ (af (cF (N:=["mark","places"]) (cap:=[i',f' 1]) O (cz (osc:=az uv) (XN:=["rows","places"]) O O (by decide +kernel)) (bV (bC dc (hr.mono (by decide)) rfl (af (bC gC (hr.mono (by decide)) rfl (af (pv 0) ai)) ai))) (fun cl C s H fp aa=>(aG (i:=0) (show(["mark","places"]:List C').Nodup by decide +kernel) rfl (by first|exact UL rfl|exact UK O))) (fun cl C s H fp aa=>cR) (fun cl C s H fp aa=>(bC aE (hr.mono (by decide)) rfl (af (gb (cI hr) (pv 1) (pv 0) (fun _ _=>O)) (af au (af (fZ O T.Qjv) ai)))))) ai)))) (ak (iw aV T.Qio O T.QdM)) aQ)
   (ak (aN (ej QaY PySem.F.slot_str_join PySem.F.type_str_join ML bh (af (cF (N:=["row","places"]) (cap:=[i',f' 1]) O (cz (osc:=az uv) (XN:=["rows","places"]) O O (by decide +kernel)) (bV (pv 0)) (fun cl C s H fp aa=>(aG (i:=0) (show(["row","places"]:List C').Nodup by decide +kernel) rfl (by first|exact UL rfl|exact UK O))) (fun cl C s H fp aa=>cR) (fun cl C s H fp aa=>ip)) ai))))),?_⟩
  refine⟨_,O,l,r,o,O,U0,fun m q H1 s1 hm hq=>?_⟩
  refine⟨m,q,O,hm,hq,fun l2 H2 s2 bO=>?_⟩
  have oE:=s1.trans s2
  refine⟨l2,O,⟨_,P'.of bO⟩,fun D hD=>?_⟩
  refine fq (K:=K) (a:=l2) (xs:=[.str nA]) (fun j τ G'=>∃ v1,τ=[v1,f' (.ref d)]∧ae H2 G'∧(j=0→G' D=f' (.lst []))∧(j=1→G' D=f' (.lst ([K'].map V.bl)))) ⟨i',rfl,ae.new hD,fun _=>ag,fun z=>by cases z⟩ ?_ ?_ ?_
  .rintro j τ G' _ ⟨v1,rfl,bT,_⟩
   exact P'.of (bT _ _ bO)
  .rintro j y τ G' hy ⟨v1,rfl,bT,eD,_⟩
   obtain⟨rfl,rfl⟩:=uJ hy
   have eD:=eD rfl
   dsimp only[bL,dQ]
   rw[UH rfl]
   refine⟨_,O,_,O,d,.int n,O,?_,n,0,200,O,?_⟩
   .have:=ci.k (k:=UN nA) (bT _ _ (oE _ _ hd))
    rw[di rfl] at this
    exact this
   .have e:(decide ((0:Int)≤n) && decide (n≤200))=K':=by rw[Rs (show ¬ n≤200 by lia),SV]
    rw[e]
    exact⟨_,eD,by show 0<S';decide,_,O,du hD bT,(fun z=>by cases z),fun _=>ag⟩
  rintro τ G' ⟨v1,rfl,bT,_,eD⟩
  refine⟨D,_,O,P'.of (eD O),_,O,ji O ?_⟩
  exact⟨by show 0≤S';decide,k G' (oE.trans bT)⟩
end
def cK (n:Int):C':=if n % 2=0 then UI "zz" else nB
def Ref (a:Vg) (n:Int) (H:Hp) (C:F') (dd:Option F'):Nat→Prop
 | 0=>C=a.NoName∧dd=i'
 | 1=>C=a.Taken∧dd=i'
 | 2=>C=a.Alone∧dd=i'
 | 3=>C=a.NoNumber∧dd=i'
 | 4=>C=a.TooMany∧dd=i'
 | 5=>C=a.NoFlow∧dd=i'
 | 6=>C=a.TooLong∧dd=i'
 | 7=>C=a.Stale∧dd=i'
 | 8=>C=a.NoPoint∧∃ dx,dd=f' dx∧H dx=f' (.xd [("name",.str (cK n))])
 | 9=>C=a.NoSuch∧∃ dx,dd=f' dx∧H dx=f' (.xd [("number",.int n)])
 | 10=>C=a.NoLine∧∃ dx,dd=f' dx∧H dx=f' (.xd [("number",.int 2)])
 | 11=>C=a.Ring∧∃ dx l,dd=f' dx∧H dx=f' (.xd [("ring",.ref l)])∧H l=f' (.lst [.int 1])
 | _=>False
def pF:Nat→Bool
 | 5=>B'
 | 6=>B'
 | 7=>B'
 | 11=>B'
 | _=>K'
def bx (k:Nat):C':=UI "b"++(⟨#[97 + k]⟩:C')
theorem Qnm:∀ k:Fin 20,dr (bx k.val)=B':=by decide +kernel
theorem Qnn:∀ j k:Fin 20,bx j.val=bx k.val→j=k:=by decide +kernel
theorem Qno:∀ k:Fin 20,bx k.val≠nA:=by decide +kernel
theorem Qnp:∀ k:Fin 20,(UI "abcdefghijklmnopqrst").cps.toList[k.val]?=f' (97 + k.val):=by decide +kernel
theorem Qnq:∀ i:Fin 4,dr ([UI "",UI "A",UI "ninelette",UI "a b"].getD i.val Vr)=K'∧([UI "",UI "A",UI "ninelette",UI "a b"].getD i.val Vr).length≤1000:=by decide +kernel
def dA:bq:={ VM with kvs:=[(UN nA,.int 0)] }
theorem ud:has dA.kvs nA=B':=by
 show(a8 [((UN nA:Key),V.int 0)] (UN nA)).isSome=B'
 rw[di rfl]
 rfl
theorem uh {x:C'} (h:x≠nA):has dA.kvs x=K':=by
 show(a8 [((UN nA:Key),V.int 0)] (UN x)).isSome=K'
 rw[cw (fun z=>h (W0 z).symm)]
 rfl
theorem uX:dr nA=B':=by decide +kernel
theorem uc:dr nB=B':=by decide +kernel
def jK:List C':=[UI "point a",UI "x",UI "",UI "arrow a"]
abbrev lA:C':=UI "point a"
abbrev lB:C':=UI "point b"
theorem No:∀ i:Fin 4,UI "point a\npoint b\n"++jK.getD i.val Vr=W2 nl [lA,lB,jK.getD i.val Vr]:=by decide +kernel
theorem PP:∀ i:Fin 4,(∀ l∈[lA,lB,jK.getD i.val Vr],10∉cl l∧l.length≤100)∧W2 nl [lA,lB,jK.getD i.val Vr]≠UI "":=by decide +kernel
theorem Kb:∀ i:Fin 4,i.val=0∨(look (VX (jK.getD i.val Vr) bk)).isSome=K':=by decide +kernel
theorem tA:lA=(Ln.pt nA []).text:=by decide +kernel
theorem tB:lB=(Ln.pt nB []).text:=by decide +kernel
theorem okA:(Ln.pt nA []).Ok:=⟨uX,RY _,fun m hm=>by cases hm⟩
theorem okB:(Ln.pt nB []).Ok:=⟨uc,RY _,fun m hm=>by cases hm⟩
theorem yq:∃ v,bM VM lA=f' v∧j6 v [nA] 1 0 0 0:=by
 rw[tA]
 exact FC Ow okA ⟨Tg 0,by show(0:Int)≤50;decide⟩ RD (by decide)
theorem Fx  (p:j6 v [nA] 1 0 0 0):∃ v',bM v lB=f' v'∧j6 v' [nA,nB] 2 0 0 0:=by
 rw[tB]
 exact FC p okB ⟨Tg 0,by show(0:Int)≤50;decide⟩ (by decide) (by decide)
theorem Qnr:∃ v,ft VM [lA,lB]=f' v∧j6 v [nA,nB] 2 0 0 0:=by
 obtain⟨v,e,p⟩:=yq
 obtain⟨v',e',p'⟩:=Fx p
 refine⟨v',?_,p'⟩
 show(match bM VM lA with|none=>i'|some v=>ft v [lB])=_
 rw[e]
 show(match bM v lB with|none=>i'|some v=>ft v [])=_
 rw[e']
 rfl
theorem Pb  (p:j6 v [nA,nB] 2 0 0 0) (i:Fin 4):bM v (jK.getD i.val Vr)=i':=by
 rcases Kb i with z|z
 .rw[z]
  show bM v lA=i'
  rw[tA,Ln.step okA]
  have e:(Ln.pt nA []).rd.err v=f' .taken:=by
   have:(Ln.pt nA []).rd.err v=df v.kvs nA 0:=UH rfl
   rw[this]
   unfold df
   rw[UF (by rw[uX];decide),UH ((p.has nA).mpr (by decide))]
  rw[e]
 .unfold bM je
  cases e:look (VX (jK.getD i.val Vr) bk) with
  | none=>rfl
  | some q=>rw[e] at z;cases z
structure Bs (v:bq) (i:Nat):Prop where
 l:v.kvs.length=i + 1
 h:∀ y,has v.kvs y=B'→y=nA∨∃ j,j<i∧y=bx j
theorem Bs.no  (h:Bs v i) (hi:i<20):has v.kvs (bx i)=K':=by
 cases e:has v.kvs (bx i) with
 | false=>rfl
 | true=>
  rcases h.h _ e with z|⟨j,hj,z⟩
  .exact UR z (Qno ⟨i,hi⟩)
  .have:=Qnn ⟨i,hi⟩ ⟨j,by lia⟩ z
   injection this with this
   lia
section
variable {K:R'}
def Qns (a:Vg):Sp:=fun vs H Q E=>∃ w:Nat,∃ n:Int,vs=[.int (w:Int),.int n]∧w<12∧0≤n∧n<1000000000∧(pF w=B'→∀ H',ae H H'→Q .UO H')∧(pF w=K'→∀ C dd H',ae H H'→Ref a n H' C dd w→E (.ref C) dd H')
theorem W' {w k:Nat} (h:decide (V.int (w:Int)=V.int (k:Int))=B'):w=k:=by
 have:=Rv h
 injection this with this
 lia
theorem Qei {l:List C'} (hn:0≤n) (hl:l.length=4):∃ i:Fin 4,VB (l.map V.str) (n % 4)=f' (.str (l.getD i.val Vr)):=by
 have h1:0≤n % 4:=SQ _ (by decide)
 have h2:n % 4<4:=Sv _ (by decide)
 refine⟨⟨(n % 4).toNat,by lia⟩,?_⟩
 rw[jG h1,Rx,uK (d:=Vr) (by lia)]
 rfl
theorem Qej  (hn:0≤n):VB [V.str (UI "zz"),.str nB] (n % 2)=f' (.str (cK n)):=by
 have h1:0≤n % 2:=SQ _ (by decide)
 have h2:n % 2<2:=Sv _ (by decide)
 unfold cK
 by_cases z:n % 2=0
 .rw[UH z,z]
  rfl
 .rw[UF z,show n % 2=1 by lia]
  rfl
theorem Fe (T:Tx K mg a) (Z:KD P w K a.LINES (fk a)):Vd P w K mg base (Vn P w) 9 "_law_of_nets" ["_law_which","_law_number"] [] (Qns a):=T.Qjn.U2 fun f fd F=>by
 have gS:=Pm (P:=P) (w:=w) (base:=base) T Z
 have YL:=yi (P:=P) (w:=w) (base:=base) T
 have Zm:=Cq (P:=P) (w:=w) (base:=base) T
 have Z5:=Nb (P:=P) (w:=w) (base:=base) T
 have QbU:=Qi (P:=P) (w:=w) (base:=base) T
 have Z6:=De (P:=P) (w:=w) (base:=base) T
 have Z7:=DO (P:=P) (w:=w) (base:=base) T
 refine F.VS xW (fun vs H Q E h=>?_) (fun ay A outer s H vs Q E hr h=>?_)
 .obtain⟨w,n,rfl,_⟩:=h
  rfl
 .obtain⟨w,n,rfl,xr,n0,n9,k1,k2⟩:=h
  refine⟨_,(ao (aW (i:=2) xW.nd O (by first|exact UL rfl|exact UK O) (tK YL (hr.mono (by decide)) rfl))
   (ao (bp (eu (pv 2) T.Va Z5 aV (hr.mono (by decide)) (af bh ai)))
   (ao (aU (bf cG (pv 0) au (aZ _)) (ak (bp (eu (pv 2) T.Va Z5 aV (hr.mono (by decide)) (af (aK bB (bY (af bh (af bh (af bh (af bh ai))))) (br km (pv 1) au) (fun _ _=>O)) ai)))) aQ)
   (ao (aU (bf cG (pv 0) au (aZ _)) (ak (bp (eu (pv 2) T.Va Zm aV (hr.mono (by decide)) (af bh (af (br km (pv 1) au) ai))))) aQ)
   (ao (aU (bf cG (pv 0) au (aZ _)) (ak (bp (eu (pv 2) T.Va QbU aV (hr.mono (by decide)) (af bh (af bh ai))))) aQ)
   (ao (aU (bf cG (pv 0) au (aZ _)) (ak (bp (eu (pv 2) T.Va Zm aV (hr.mono (by decide)) (af bh (af (br nP au (pv 1)) ai))))) aQ)
   (ao (aU (bf cG (pv 0) au (aZ _)) (ak (ei YX rfl (rY rfl T.Zn (af au ai)) (aG (i:=3) xW.nd O (by first|exact UL rfl|exact UK O)) (ak (bp (eu (pv 2) T.Va Z5 aV (hr.mono (by decide)) (af (br sA bh (aK Ec bh (pv 3) (fun _ _=>O))) ai)))))) aQ)
   (ao (aU (bf cG (pv 0) au (aZ _)) (ak (bp (eu (pv 2) T.Va Z6 aV (hr.mono (by decide)) (af bh (af (aK bB (bY (af bh (af bh ai))) (br km (pv 1) au) (fun _ _=>O)) ai))))) aQ)
   (ao (aU (bf cG (pv 0) au (aZ _)) (ak (bp (eu (pv 2) T.Va Z7 aV (hr.mono (by decide)) (af (pv 1) ai)))) aQ)
   (ak (aU (bf cG (pv 0) au (aZ _)) (ak (bp (fe gS aV (hr.mono (by decide)) rfl (af (br sA bh (aK bB (bY (af bh (af bh (af bh (af bh ai))))) (br km (pv 1) au) (fun _ _=>O))) ai)))) aQ))))))))))),?_⟩
  refine fun x dx nx kQ AZ=>⟨x,dx,O,ag,fun r H1 fr fo N1=>⟨O,?_⟩⟩
  have s1:ae H H1:=fun b o e=>fr b o (by rw[aj (aq e nx),aj (aq e kQ)];exact e) (aq e nx)
  have ap:tU H x r:=fun b o e=>⟨aq e nx,fo b o (by rw[aj (aq e nx),aj (aq e kQ)];exact e)⟩
  obtain⟨IJ,aC⟩:=N1.ex
  have Iz:df VM.kvs nA 0=i':=by decide +kernel
  refine⟨_,O,x,IJ,_,O,aC,by rfl,x,r,VM,nA,0,O,by decide,N1,by decide,fun er e=>(by rw[Iz] at e;cases e),fun _ H2 GY N2=>?_⟩
  have s2:ae H H2:=ap.kp s1 GY
  have N2:bF K a.Net H2 x r dA:=N2
  obtain⟨js,dz⟩:=N2.ex
  have one:dA.kvs.length=1:=rfl
  refine⟨_,O,O,_,O,bi (fun c=>?_) (fun c0=>?_)⟩
  .have ew:w=0:=W' c
   subst ew
   refine⟨_,O,x,js,_,O,dz,by rfl,(by show 4≤S';decide),fun q nq=>?_⟩
   obtain⟨i,hi⟩:=Qei (l:=[UI "",UI "A",UI "ninelette",UI "a b"]) n0 rfl
   obtain⟨b1,b2⟩:=Qnq i
   refine⟨_,O,_,_,O,O,(by show(0:Int)<4;decide),q,_,_,_,O,O,P'.of ag,hi,x,r,dA,_,0,O,b2,N2.same (ae.new nq),by decide,fun er e H3 s3=>?_,fun e=>?_⟩
   .unfold df at e
    rw[UH b1] at e
    cases e
    exact k2 O _ _ H3 (s2.trans ((ae.new nq).trans s3)) ⟨O,O⟩
   .unfold df at e
    rw[UH b1] at e
    cases e
  refine⟨_,O,O,_,O,bi (fun c=>?_) (fun c1=>?_)⟩
  .have ew:w=1:=W' c
   subst ew
   have pe:df dA.kvs nA (n % 51)=f' .taken:=by
    unfold df
    rw[UF (by rw[uX];decide),UH ud]
   refine⟨_,O,x,js,_,O,dz,by rfl,_,O,_,_,O,O,(by show(0:Int)<51;decide),x,r,dA,nA,_,O,by decide,N2,by decide,fun er e H3 s3=>?_,fun e=>by rw[pe] at e;cases e⟩
   rw[pe] at e
   cases e
   exact k2 O _ _ H3 (s2.trans s3) ⟨O,O⟩
  refine⟨_,O,O,_,O,bi (fun c=>?_) (fun c2=>?_)⟩
  .have ew:w=2:=W' c
   subst ew
   have tw:two dA.kvs nA nA=f' .alone:=by
    unfold two
    rw[UF (by rw[ud];decide),UF (by rw[ud];decide),UH rfl]
   refine⟨_,O,x,js,_,O,dz,by rfl,x,r,dA,nA,nA,1,1,O,N2,by decide,(fun q hq=>by cases hq),(fun e=>by rw[xX tw] at e;cases e),fun er e H3 s3=>?_⟩
   rw[xX tw] at e
   cases e
   exact k2 O _ _ H3 (s2.trans s3) ⟨O,O⟩
  refine⟨_,O,O,_,O,bi (fun c=>?_) (fun c3=>?_)⟩
  .have ew:w=3:=W' c
   subst ew
   have pe:df dA.kvs nB (51 + n)=f' .number:=by
    unfold df
    rw[UF (by rw[uc];decide),UF (by rw[uh (by decide)];decide),UH (by lia)]
   refine⟨_,O,x,js,_,O,dz,by rfl,_,O,_,_,O,O,x,r,dA,nB,_,O,by decide,N2,by decide,fun er e H3 s3=>?_,fun e=>by rw[pe] at e;cases e⟩
   rw[pe] at e
   cases e
   exact k2 O _ _ H3 (s2.trans s3) ⟨O,O⟩
  refine⟨_,O,O,_,O,bi (fun c=>?_) (fun c4=>?_)⟩
  .have ew:w=4:=W' c
   subst ew
   refine⟨20,O,by decide,by decide,yg (lo:=0) (n:=20) (fun i σ G=>∃ v3 v,σ=[f' (.int 4),f' (.int n),f' (.ref x),v3]∧i≤19∧ae H G∧bF K a.Net G x r v∧Bs v i) ⟨i',dA,rfl,by decide,s2,N2,⟨O,fun y hy=>?_⟩⟩ ?_ ?_⟩
   .by_cases z:y=nA
    .exact .inl z
    .rw[uh z] at hy
     cases hy
   .rintro i σ G hi ⟨v3,v,rfl,zX,sg,NG,bs⟩
    obtain⟨cc,Ij⟩:=NG.ex
    have bk:=Qnm ⟨i,hi⟩
    have bn:=bs.no hi
    have bl:=bs.l
    dsimp only[bL]
    refine⟨_,O,x,cc,_,O,Ij,by rfl,_,O,_,_,97 + i,O,O,(by decide +kernel),?_,_,_,O,O,?_,x,r,v,bx i,0,O,?_,NG,by lia,fun er e H3 s3=>?_,fun e H3 IF N3=>?_⟩
    .rw[jG (by lia),show((0:Int) + (i:Int)).toNat=i by lia]
     exact Qnp ⟨i,hi⟩
    .have e1:(UI "b").length=1:=by decide
     have e2:(⟨#[97 + i]⟩:C').length=1:=rfl
     rw[e1,e2,Q9]
     decide
    .show(UI "b"++(⟨#[97 + i]⟩:C')).length≤1000
     have e1:(UI "b").length=1:=by decide
     have e2:(⟨#[97 + i]⟩:C').length=1:=rfl
     rw[Qey,e1,e2]
     decide
    .unfold df at e
     rw[UF (by rw[bk];decide),UF (by rw[bn];decide),UF (by decide)] at e
     split at e
     .cases e
      exact k2 O _ _ H3 (sg.trans s3) ⟨O,O⟩
     .cases e
    .unfold df at e
     rw[UF (by rw[bk];decide),UF (by rw[bn];decide),UF (by decide)] at e
     split at e
     .cases e
     .rename_i h20
      refine⟨_,_,O,by lia,ap.kp sg IF,N3,⟨?_,fun y hy=>?_⟩⟩
      .show(v.kvs++[_]).length=i + 1 + 1
       rw[Ro,bl]
       rfl
      .rw[FQ bn,SO,RI] at hy
       rcases hy with z|z
       .exact .inr ⟨i,by lia,z⟩
       .rcases bs.h y z with z|⟨j,hj,z⟩
        .exact .inl z
        .exact .inr ⟨j,by lia,z⟩
   .rintro σ G ⟨v3,v,rfl,zX,_⟩
    exact UR zX (by decide)
  refine⟨_,O,O,_,O,bi (fun c=>?_) (fun c8=>?_)⟩
  .have ew:w=8:=W' c
   subst ew
   refine⟨_,O,x,js,_,O,dz,by rfl,(by show 2≤S';decide),fun q nq=>?_⟩
   have Gh:cK n≠nA:=by
    unfold cK
    split <;> decide
   have tw:two dA.kvs nA (cK n)=f' (.point (cK n)):=by
    unfold two
    rw[UF (by rw[ud];decide),UH (uh Gh)]
   refine⟨_,O,_,_,O,O,(by show(0:Int)<2;decide),q,_,_,_,O,O,P'.of ag,Qej n0,x,r,dA,nA,cK n,O,N2.same (ae.new nq),by decide,(fun e=>by rw[uZ tw] at e;cases e),fun er e H3 s3=>?_⟩
   rw[uZ tw] at e
   cases e
   exact fun dx gM=>k2 O _ _ H3 (s2.trans ((ae.new nq).trans s3)) ⟨O,dx,O,gM⟩
  refine⟨_,O,O,_,O,bi (fun c=>?_) (fun c9=>?_)⟩
  .have ew:w=9:=W' c
   subst ew
   refine⟨_,O,x,js,_,O,dz,by rfl,_,O,x,r,dA,n,O,N2,(fun e=>by cases e),fun _ H3 s3=>?_⟩
   exact fun dx gM=>k2 O _ _ H3 (s2.trans s3) ⟨O,dx,O,gM⟩
  refine⟨_,O,O,_,O,bi (fun c=>?_) (fun IS=>?_)⟩
  .have ew:w=10:=W' c
   subst ew
   refine⟨(by show 4≤S';decide),fun q nq=>?_⟩
   obtain⟨i,hi⟩:=Qei (l:=jK) n0 rfl
   obtain⟨o1,o2⟩:=PP i
   obtain⟨v,hv,pv⟩:=Qnr
   have st:=Pb pv i
   have tl:(UI "point a\npoint b\n").length + (jK.getD i.val Vr).length≤S':=by
    have:=(o1 (jK.getD i.val Vr) (by simp)).2
    have e1:(UI "point a\npoint b\n").length=16:=by decide +kernel
    rw[e1,Q9]
    lia
   have tx:=No i
   generalize jK.getD i.val Vr=th at hi o1 o2 st tl tx
   refine⟨_,O,_,_,O,O,(by show(0:Int)<4;decide),q,_,_,_,O,O,P'.of ag,hi,_,_,O,O,tl,[lA,lB,th],Wv (fun x=>[V.str x]) tx,⟨fun l h=>(o1 l h).1,fun l h=>(o1 l h).2,by show 3≤200;decide,.inr ⟨by simp,o2⟩⟩,fun v' e=>?_,fun j l v' el cW hs H3 dx s3 gM=>?_⟩
   .have:ft VM [lA,lB,th]=i':=by
     rw[show([lA,lB,th]:List C')=[lA,lB]++[th] from rfl,yD,hv]
     show(match bM v th with|none=>i'|some v'=>ft v' [])=i'
     rw[st]
    rw[this] at e
    cases e
   .have j2:j=2:=by
     match j,el,cW with
     | 0,el,cW=>
      cases el
      cases cW
      obtain⟨v0,e0,_⟩:=yq
      rw[hs] at e0
      cases e0
     | 1,el,cW=>
      cases el
      obtain⟨v0,e0,p0⟩:=yq
      have cW:(match bM VM lA with|none=>i'|some v=>ft v [])=f' v':=cW
      rw[e0] at cW
      cases cW
      obtain⟨v1,e1,_⟩:=Fx p0
      rw[hs] at e1
      cases e1
     | 2,_,_=>rfl
     | j + 3,el,_=>simp at el
    subst j2
    exact k2 O _ _ H3 (s2.trans ((ae.new nq).trans s3)) ⟨O,dx,O,gM⟩
  have lt:pF w=B':=by
   have ne:∀ k:Nat,decide (V.int (w:Int)=V.int (k:Int))=K'→w≠k:=fun k h z=>by
    rw[z,Rj rfl] at h
    cases h
   have e0:=ne 0 c0
   have e1:=ne 1 c1
   have e2:=ne 2 c2
   have e3:=ne 3 c3
   have e4:=ne 4 c4
   have e8:=ne 8 c8
   have e9:=ne 9 c9
   have Ic:=ne 10 IS
   match w,xr,e0,e1,e2,e3,e4,e8,e9,Ic with
   | 5,_,_,_,_,_,_,_,_,_=>rfl
   | 6,_,_,_,_,_,_,_,_,_=>rfl
   | 7,_,_,_,_,_,_,_,_,_=>rfl
   | 11,_,_,_,_,_,_,_,_,_=>rfl
  exact k1 lt H2 s2
end
def iq:bq:={ VM with kvs:=[(UN nA,.int 0),(UN nB,.int 0)] }
def pG:bq:={ iq with arr:=[⟨0,nA,nB,1,1⟩],nn:=1 }
abbrev X3:C':=UI "arrow a b"
theorem tAr:X3=(Ln.ar nA nB []).text:=by decide +kernel
theorem Qek:(Ln.ar nA nB []).Ok:=⟨uX,uc,RY _,fun m hm=>by cases hm⟩
theorem B8:has iq.kvs nA=B'∧has iq.kvs nB=B':=by
 refine⟨?_,?_⟩
 .show(a8 [((UN nA:Key),V.int 0),(UN nB,.int 0)] (UN nA)).isSome=B'
  rw[di rfl]
  rfl
 .show(a8 [((UN nA:Key),V.int 0),(UN nB,.int 0)] (UN nB)).isSome=B'
  rw[cw (fun z=>UR (W0 z) (by decide)),di rfl]
  rfl
theorem YO:bM VM lA=f' dA:=by
 have e:(Ln.pt nA []).rd.err VM=i':=by
  have:(Ln.pt nA []).rd.err VM=df VM.kvs nA 0:=UH rfl
  rw[this]
  decide +kernel
 rw[tA,Ln.step okA,e]
 rfl
theorem WJ:bM dA lB=f' iq:=by
 have e:(Ln.pt nB []).rd.err dA=i':=by
  have:(Ln.pt nB []).rd.err dA=df dA.kvs nB 0:=UH rfl
  rw[this]
  unfold df
  rw[UF (by rw[uc];decide),UF (by rw[uh (by decide)];decide),UF (by decide),UF (by decide)]
 rw[tB,Ln.step okB,e]
 rfl
theorem XA:bM iq X3=f' pG:=by
 have e:(Ln.ar nA nB []).rd.err iq=i':=by
  have tw:two iq.kvs nA nB=i':=by
   unfold two
   rw[UF (by rw[B8.1];decide),UF (by rw[B8.2];decide),UF (by decide)]
  rw[Qnc Qek,DE tw]
  decide
 rw[tAr,Ln.step Qek,e]
 rfl
theorem ab0:AB iq:=⟨O,O,O⟩
theorem ab1:AB pG:=⟨O,O,O⟩
theorem Qnt:jh 1000 VM:=⟨by decide,by decide,(fun _ h=>by cases h),by decide,by decide⟩
theorem Qnu:jh 1000 dA:=⟨by decide,by decide,(fun _ h=>by cases h),by decide,by decide⟩
theorem Qnv:jh 1000 iq:=⟨by decide,by decide,(fun _ h=>by cases h),by decide,by decide⟩
theorem N6  (h:s≠t):¬ iV [] s t:=by
 rintro⟨zs,p⟩
 cases p with
 | nil=>exact h rfl
 | snoc _ hq _=>cases hq
theorem Ot:fz [⟨0,nA,nB,1,1⟩]=[]:=by
 show(k9 ([],[]) ⟨0,nA,nB,1,1⟩).2=[]
 rw[Eu (N6 (by decide))]
theorem Qnw:(fc [nA,nB] pG).all (keep [0,0])=K':=by
 unfold fc
 show([gq [nA,nB] (fz [⟨0,nA,nB,1,1⟩]) ⟨0,nA,nB,1,1⟩]++[]++[]).all (keep [0,0])=K'
 rw[Ot]
 decide
theorem KY  (h:0≤n):jZ 1 [(0,0,1,1)] [0 - 1 - n]=K':=by
 unfold jZ
 show(decide (1=1) && (!(decide (0 - 1 - n<0) || false) && _))=K'
 rw[Rj (show 0 - 1 - n<0 by lia)]
 rfl
section
variable {K:R'}
theorem ws1 {t:F'}{x y:Int} (ht:H t=f' (.tup [.int x,.int y,.int z,.int u])) (hl:H l=f' (.lst [.ref t])):im K H l [(x,y,z,u)]:=
 ⟨_,P'.of hl,_,_,rfl,⟨t,_,rfl,UW.of ht,_,_,rfl,rfl,_,_,rfl,rfl,_,_,rfl,rfl,_,_,rfl,rfl,rfl⟩,rfl⟩
theorem ws2 {t t':F'}{x y x' y' z' u':Int} (ht:H t=f' (.tup [.int x,.int y,.int z,.int u])) (sO:H t'=f' (.tup [.int x',.int y',.int z',.int u'])) (hl:H l=f' (.lst [.ref t,.ref t'])):im K H l [(x,y,z,u),(x',y',z',u')]:=
 ⟨_,P'.of hl,_,_,rfl,⟨t,_,rfl,UW.of ht,_,_,rfl,rfl,_,_,rfl,rfl,_,_,rfl,rfl,_,_,rfl,rfl,rfl⟩,_,_,rfl,⟨t',_,rfl,UW.of sO,_,_,rfl,rfl,_,_,rfl,rfl,_,_,rfl,rfl,_,_,rfl,rfl,rfl⟩,rfl⟩
theorem Qnx {ring:List Nat} (h:uW (wn [(0,1,0,1),(1,1,m,3)] 2) ring):ring=[1]:=by
 obtain⟨Pl,t,pu,p,k,fi,p2,pM,er,cQ,first⟩:=h.Xy
 have mN:∀ v n,pu v=f' n→v=1∧n<2:=fun v n e=>by
  obtain⟨h1,h2,_⟩:=fi.a v n e
  have h1:n<2:=h1
  match n,h1,h2 with
  | 0,_,h2=>exact⟨h2.symm,by decide⟩
  | 1,_,h2=>exact⟨h2.symm,by decide⟩
 have p1:p=1:=by
  have:=pM 0
  cases e:pu p with
  | none=>rw[show U4 (K07.bk (wn [(0,1,0,1),(1,1,m,3)] 2) pu) 0 p=p from rfl,e] at this;cases this
  | some n=>exact(mN p n e).1
 subst p1
 have b1:K07.bk (wn [(0,1,0,1),(1,1,m,3)] 2) pu 1=1:=by
  have:=pM 1
  cases e:pu (K07.bk (wn [(0,1,0,1),(1,1,m,3)] 2) pu 1) with
  | none=>rw[show U4 (K07.bk (wn [(0,1,0,1),(1,1,m,3)] 2) pu) 1 1=K07.bk (wn [(0,1,0,1),(1,1,m,3)] 2) pu 1 from rfl,e] at this;cases this
  | some n=>exact(mN _ n e).1
 have k0:k=0:=by
  rcases Ta k with z|z
  .exact z
  .exact UR b1 (first 1 (Q7 _) z)
 subst k0
 have IH:pu 1=f' 1:=by
  have h0:=pM 0
  cases e:pu 1 with
  | none=>rw[show U4 (K07.bk (wn [(0,1,0,1),(1,1,m,3)] 2) pu) 0 1=1 from rfl,e] at h0;cases h0
  | some n=>
   obtain⟨_,n2⟩:=mN 1 n e
   match n,n2,e with
   | 0,_,e=>
    have:K07.bk (wn [(0,1,0,1),(1,1,m,3)] 2) pu 1=0:=by
     rw[ye (by rw[e];rfl),show cn pu 1=0 by unfold cn;rw[e];rfl]
     rfl
    rw[b1] at this
    cases this
   | 1,_,_=>rfl
 rw[er]
 show[cn pu 1]=[1]
 unfold cn
 rw[IH]
 rfl
end
section
variable {K:R'}
def LL (a:Vg):Sp:=fun vs H Q E=>∃ w:Nat,∃ n:Int,vs=[.int (w:Int),.int n]∧w<12∧0≤n∧n<1000000000∧pF w=B'∧∀ C dd H',ae H H'→Ref a n H' C dd w→E (.ref C) dd H'
def Qny:Nat→bq
 | 0=>VM
 | 1=>dA
 | 2=>iq
 | 3=>iq
 | _=>pG
def Qnz:Nat→U7
 | 3=>eK
 | 4=>eK
 | _=>[]
theorem Mb {w:Nat} (h:w<12) (l:pF w=B') (e5:w≠5) (e6:w≠6) (e7:w≠7) (Be:w≠11):False:=by
 have:∀ w:Fin 12,pF w.val=B'→w.val=5∨w.val=6∨w.val=7∨w.val=11:=by decide
 have:=this ⟨w,h⟩ l
 dsimp only at this
 lia
theorem three {z:V}:∃ u,VB [x,y,z] (n % 3)=f' u∧(u=x∨u=y∨u=z):=by
 have h1:0≤n % 3:=SQ _ (by decide)
 have h2:n % 3<3:=Sv _ (by decide)
 have:n % 3=0∨n % 3=1∨n % 3=2:=by lia
 rcases this with e|e|e <;> rw[e]
 .exact⟨x,O,.inl O⟩
 .exact⟨y,O,.inr (.inl O)⟩
 .exact⟨z,O,.inr (.inr O)⟩
theorem QnA:∃ u,VB [x,y] (n % 2)=f' u∧(u=x∨u=y):=by
 have h1:0≤n % 2:=SQ _ (by decide)
 have h2:n % 2<2:=Sv _ (by decide)
 have:n % 2=0∨n % 2=1:=by lia
 rcases this with e|e <;> rw[e]
 .exact⟨x,O,.inl O⟩
 .exact⟨y,O,.inr O⟩
theorem FX (T:Tx K mg a) (Z:KD P w K a.LINES (fk a)):Vd P w K mg base (Vn P w) 11 "_law_of_stages" ["_law_which","_law_number"] [] (LL a):=T.Qjo.U2 fun f fd F=>by
 have kA:=Os (P:=P) (w:=w) (base:=base) T
 have iB:=KU (P:=P) (w:=w) (base:=base) T
 have gE:=FW (P:=P) (w:=w) (base:=base) T
 have Qb0:=OS (P:=P) (w:=w) (base:=base) T
 have Qb2:=Ml (P:=P) (w:=w) (base:=base) T
 have Qb3:=Qnk (P:=P) (w:=w) (base:=base) T Z
 refine F.VS zv (fun vs H Q E h=>?_) (fun ay A outer s H vs Q E hr h=>?_)
 .obtain⟨w,n,rfl,_⟩:=h
  rfl
 .obtain⟨w,n,rfl,xr,n0,n9,lt,k⟩:=h
  refine⟨_,(ao (aU (bf cG (pv 0) au (aZ _)) (ak (bp (yW kA aV (hr.mono (by decide)) rfl (bP eI (bP (j9 (bP (zu (bP eI (bP eI (bP eI (bP eI gr))))) gr)) (bP (Qdv bB (j9 (bP (j9 gr) (bP (j9 (bP (Z0 jL (Z0 jL eI eI) (Wa.mk (pv 1))) gr)) (bP (j9 (bP eI (bP eI gr))) gr)))) (Z0 km (Wa.mk (pv 1)) eI) (fun _ _=>O)) gr)))))) aQ) (ao (aU (bf cG (pv 0) au (aZ _)) (ak (bp (yW iB aV (hr.mono (by decide)) rfl (bP (j9 (bP (j9 (bP (Wa.mk (Cu Qb0 (hr.mono (by decide)) rfl (af bh (af au ai)))) gr)) gr)) (bP (Qib (CG bh (br nP au (pv 1)) CQ) rfl rfl (by decide) (by decide)) gr))))) aQ) (ao (Qid (bf cG (pv 0) au (aZ _)) (Oz (PSb.mk (aW (i:=2) zv.nd O (by first|exact UL rfl|exact UK O) (tK Qb2 (hr.mono (by decide)) rfl))) (Qic (Qie YX rfl (j9 (bP pC (bP pC (bP pC (bP pC (bP (Qdv bB (j9 (bP pC (bP pC gr))) (Z0 km (Wa.mk (pv 1)) eI) (fun _ _=>O)) gr)))))) (aG (i:=3) zv.nd O (by first|exact UL rfl|exact UK O)) (ak (bp (eu (pv 2) T.Wx Qb3 aV (hr.mono (by decide)) (af (pv 3) ai))))))) aQ) (ak (aU (bf cG (pv 0) au (aZ _)) (ak (bp (yW gE aV (hr.mono (by decide)) rfl (bP eI (bP (j9 (bP (zu (bP eI (bP eI (bP eI (bP eI gr))))) (bP (zu (bP eI (bP eI (bP (Z0 nP eI (Wa.mk (pv 1))) (bP eI gr))))) gr))) gr))))) aQ))))),?_⟩
  refine⟨_,O,O,_,O,bi (fun c=>?_) (fun c5=>?_)⟩
  .have ew:w=5:=W' c
   subst ew
   refine⟨(by show 4≤S';decide),fun t nt=>⟨(by show 1≤S';decide),fun l nl=>?_⟩⟩
   have s1:ae H (upd (upd H t (.tup [.int 0,.int 0,.int 1,.int 1])) l (.lst [.ref t])):=(ae.new nt).trans (ae.new nl)
   have ht:upd (upd H t (.tup [.int 0,.int 0,.int 1,.int 1])) l (.lst [.ref t]) t=f' (.tup [.int 0,.int 0,.int 1,.int 1]):=(ae.new nl) _ _ ag
   have hl:upd (upd H t (.tup [.int 0,.int 0,.int 1,.int 1])) l (.lst [.ref t]) l=f' (.lst [.ref t]):=ag
   generalize upd (upd H t (.tup [.int 0,.int 0,.int 1,.int 1])) l (.lst [.ref t])=H1 at s1 ht hl ⊢
   refine⟨(by show 0≤S';decide),fun e1 m1=>⟨_,_,O,O,_,O,_,_,O,O,(by show 1≤S';decide),fun e2 m2=>⟨(by show 2≤S';decide),fun e3 m3=>⟨(by show 3≤S';decide),fun e4 m4=>?_⟩⟩⟩⟩
   have s2:ae H1 (upd (upd (upd (upd H1 e1 (.lst [])) e2 (.lst [.int (0 - 1 - n)])) e3 (.lst [.int 1,.int 1])) e4 (.lst [.ref e1,.ref e2,.ref e3])):=(((ae.new m1).trans (ae.new m2)).trans (ae.new m3)).trans (ae.new m4)
   have g1:upd (upd (upd (upd H1 e1 (.lst [])) e2 (.lst [.int (0 - 1 - n)])) e3 (.lst [.int 1,.int 1])) e4 (.lst [.ref e1,.ref e2,.ref e3]) e1=f' (.lst []):=(((ae.new m2).trans (ae.new m3)).trans (ae.new m4)) _ _ ag
   have g2:upd (upd (upd (upd H1 e1 (.lst [])) e2 (.lst [.int (0 - 1 - n)])) e3 (.lst [.int 1,.int 1])) e4 (.lst [.ref e1,.ref e2,.ref e3]) e2=f' (.lst [.int (0 - 1 - n)]):=((ae.new m3).trans (ae.new m4)) _ _ ag
   have g3:upd (upd (upd (upd H1 e1 (.lst [])) e2 (.lst [.int (0 - 1 - n)])) e3 (.lst [.int 1,.int 1])) e4 (.lst [.ref e1,.ref e2,.ref e3]) e3=f' (.lst [.int 1,.int 1]):=(ae.new m4) _ _ ag
   have g4:upd (upd (upd (upd H1 e1 (.lst [])) e2 (.lst [.int (0 - 1 - n)])) e3 (.lst [.int 1,.int 1])) e4 (.lst [.ref e1,.ref e2,.ref e3]) e4=f' (.lst [.ref e1,.ref e2,.ref e3]):=ag
   generalize upd (upd (upd (upd H1 e1 (.lst [])) e2 (.lst [.int (0 - 1 - n)])) e3 (.lst [.int 1,.int 1])) e4 (.lst [.ref e1,.ref e2,.ref e3])=H2 at s2 g1 g2 g3 g4 ⊢
   obtain⟨u,hu,pO⟩:=three (n:=n) (x:=.ref e1) (y:=.ref e2) (z:=.ref e3)
   obtain⟨e,fl,rfl,he,gf,fl5⟩:∃ e fl,u=.ref e∧H2 e=f' (.lst ((fl:List Int).map V.int))∧jZ 1 [(0,0,1,1)] fl=K'∧fl.length≤1000:=by
    rcases pO with rfl|rfl|rfl
    .exact⟨e1,[],O,g1,by decide,by decide⟩
    .exact⟨e2,[0 - 1 - n],O,g2,KY n0,by show 1≤1000;decide⟩
    .exact⟨e3,[1,1],O,g3,by decide,by decide⟩
   refine⟨_,O,_,_,O,O,(by show(0:Int)<3;decide),e4,_,_,_,O,O,P'.of g4,hu,1,l,[(0,0,1,1)],e,fl,O,ws1 (s2 _ _ ht) (s2 _ _ hl),P'.of he,by decide,fl5,by decide,by decide,?_,(fun g=>by rw[show(1:Int).toNat=1 from rfl,gf] at g;cases g),fun _ H3 s3=>k _ _ H3 (s1.trans (s2.trans s3)) ⟨O,O⟩⟩
   intro q hq
   rw[Vb.mp hq]
   exact⟨⟨⟨by decide,by decide⟩,by decide,by decide⟩,by decide,by decide⟩
  refine⟨_,O,O,_,O,bi (fun c=>?_) (fun c6=>?_)⟩
  .have ew:w=6:=W' c
   subst ew
   refine fun o dx no kQ ne=>⟨o,dx,nA,0,O,ag,O,?_⟩
   have IE:upd H dx (.own o) o=i':=by rw[aj (UM ne)];exact no
   have s1:ae H (upd (upd (upd (upd H dx (.own o)) o (.ins a.Own dx [])) o (.ins a.Own dx (aS "name" (.str nA) []))) o (.ins a.Own dx (j8 nA 0))):=du no (du no ((ae.new kQ).trans (ae.new IE)))
   have h1:upd (upd (upd (upd H dx (.own o)) o (.ins a.Own dx [])) o (.ins a.Own dx (aS "name" (.str nA) []))) o (.ins a.Own dx (j8 nA 0)) o=f' (.ins a.Own dx (j8 nA 0)):=ag
   generalize upd (upd (upd (upd H dx (.own o)) o (.ins a.Own dx [])) o (.ins a.Own dx (aS "name" (.str nA) []))) o (.ins a.Own dx (j8 nA 0))=H1 at s1 h1 ⊢
   refine⟨(by show 1≤S';decide),fun r nr=>⟨(by show 1≤S';decide),fun l nl=>?_⟩⟩
   have U0:One a (upd (upd H1 r (.lst [.ref o])) l (.lst [.ref r])) l r o:=⟨ag,(ae.new nl) _ _ ag,dx,0,((ae.new nr).trans (ae.new nl)) _ _ h1⟩
   have s2:ae H (upd (upd H1 r (.lst [.ref o])) l (.lst [.ref r])):=s1.trans ((ae.new nr).trans (ae.new nl))
   generalize upd (upd H1 r (.lst [.ref o])) l (.lst [.ref r])=H2 at s2 U0 ⊢
   refine fun d nd=>⟨_,O,_,_,O,O,ag,[(UN nA,.int (201 + n))],O,by show 1≤15;decide,?_⟩
   have s3:ae H2 (upd (upd H2 d (.dK [])) d (.dK (jC [] [(UN nA,.int (201 + n))]))):=du nd (ae.new nd)
   have h3:upd (upd H2 d (.dK [])) d (.dK (jC [] [(UN nA,.int (201 + n))])) d=f' (.dK [(UN nA,.int (201 + n))]):=ag
   generalize upd (upd H2 d (.dK [])) d (.dK (jC [] [(UN nA,.int (201 + n))]))=H3 at s3 h3 ⊢
   exact⟨l,r,o,d,201 + n,O,U0.same s3,h3,by lia,fun H4 s4=>k _ _ H4 (s2.trans (s3.trans s4)) ⟨O,O⟩⟩
  refine⟨_,O,O,_,O,bi (fun c=>?_) (fun c7=>?_)⟩
  .have ew:w=7:=W' c
   subst ew
   refine fun d dx nd kQ ne=>⟨d,dx,O,ag,fun p r lv H1 fr ap D=>⟨O,?_⟩⟩
   have e0:∀ b o,H b=f' o→upd (upd H dx (.own d)) d (.ins a.Desk dx []) b=f' o:=fun b o e=>by rw[aj (aq e nd),aj (aq e kQ)];exact e
   have s1:ae H H1:=fun b o e=>fr b o (e0 b o e) (aq e nd)
   have kd:∀ {G G':Hp},ae H G→YU d p r G G'→ae H G':=fun sg kp b o e=>by
    obtain⟨z1,z2,z3,z4,z5⟩:=ap b o (e0 b o e)
    exact kp b o (sg b o e) (aq e nd) z1 z2 z3 z4 z5
   refine⟨(by show 2≤S';decide),fun q nq=>?_⟩
   obtain⟨u,hu,pO⟩:=QnA (n:=n) (x:=.str (UI "cross")) (y:=.str (UI "draw 3"))
   obtain⟨th,rfl,BL⟩:∃ th,u=.str th∧(th=UI "cross"∨th=UI "draw 3"):=by
    rcases pO with rfl|rfl
    .exact⟨_,O,.inl O⟩
    .exact⟨_,O,.inr O⟩
   refine⟨_,O,_,_,O,O,(by show(0:Int)<2;decide),q,_,_,_,O,O,P'.of ag,hu,(by show 5≤S';decide),fun ll zV=>?_⟩
   have s2:ae H1 (upd (upd H1 q (.lst [.str (UI "cross"),.str (UI "draw 3")])) ll (.lst [.str lA,.str lB,.str (UI "level"),.str X3,.str th])):=(ae.new nq).trans (ae.new zV)
   have h2:upd (upd H1 q (.lst [.str (UI "cross"),.str (UI "draw 3")])) ll (.lst [.str lA,.str lB,.str (UI "level"),.str X3,.str th]) ll=f' (.lst [.str lA,.str lB,.str (UI "level"),.str X3,.str th]):=ag
   have og:H1 ll=i':=zt (ae.new nq) zV
   have oJ:ll≠d∧ll≠p∧ll≠r.dh∧ll≠r.da∧ll≠r.ls∧ll≠r.lm:=by
    obtain⟨⟨dd,ed⟩,⟨⟨dy,e1⟩,e2,⟨bK,e3,_⟩,⟨xs,e4,_⟩,⟨ys,e5,_⟩,_⟩,_⟩:=D
    exact⟨UM (aq ed og),UM (aq e1 og),UM (aq e2 og),UM (aq e3 og),UM (aq e4 og),UM (aq e5 og)⟩
   have D2:=D.same s2
   have S2:=s1.trans s2
   generalize upd (upd H1 q (.lst [.str (UI "cross"),.str (UI "draw 3")])) ll (.lst [.str lA,.str lB,.str (UI "level"),.str X3,.str th])=H2 at s2 h2 D2 S2 ⊢
   refine⟨ll,O,⟨_,P'.of h2⟩,iN (K:=K) (a:=ll) (xs:=[.str lA,.str lB,.str (UI "level"),.str X3,.str th]) (fun i σ G=>∃ v3 lv,σ=[f' (.int 7),f' (.int n),f' (.ref d),v3]∧i≤4∧ae H G∧G ll=f' (.lst [.str lA,.str lB,.str (UI "level"),.str X3,.str th])∧gm K a G d p r (Qny i) lv (Qnz i)) ⟨i',lv,rfl,by decide,S2,h2,D2⟩ ?_ ?_ ?_⟩
   .rintro i σ G _ ⟨v3,lv,rfl,_,_,hG,_⟩
    exact P'.of hG
   .rintro i x σ G hx ⟨v3,lv,rfl,i4,sg,hG,DG⟩
    obtain⟨cc,qe⟩:=DG.ex
    have kl:∀ {G'},YU d p r G G'→G' ll=f' (.lst [.str lA,.str lB,.str (UI "level"),.str X3,.str th]):=fun kp=>kp _ _ hG oJ.1 oJ.2.1 oJ.2.2.1 oJ.2.2.2.1 oJ.2.2.2.2.1 oJ.2.2.2.2.2
    match i,i4,hx,DG with
    | 0,_,hx,DG=>
     cases hx
     dsimp only[bL]
     exact⟨_,O,d,cc,_,O,qe,by rfl,_,O,d,p,r,VM,lv,_,_,O,DG,by decide +kernel,.inl ⟨by decide +kernel,Qnt,by decide,by decide,dA,YO,fun x H3 kp D3=>⟨_,lv,O,by decide,kd sg kp,kl kp,D3⟩⟩⟩
    | 1,_,hx,DG=>
     cases hx
     dsimp only[bL]
     exact⟨_,O,d,cc,_,O,qe,by rfl,_,O,d,p,r,dA,lv,_,_,O,DG,by decide +kernel,.inl ⟨by decide +kernel,Qnu,by decide,by decide,iq,WJ,fun x H3 kp D3=>⟨_,lv,O,by decide,kd sg kp,kl kp,D3⟩⟩⟩
    | 2,_,hx,DG=>
     cases hx
     dsimp only[bL]
     exact⟨_,O,d,cc,_,O,qe,by rfl,_,O,d,p,r,iq,lv,_,_,O,DG,by decide +kernel,.inr (.inl ⟨O,ab0,O,fun x l2 H3 kp _ D3=>⟨_,l2,O,by decide,kd sg kp,kl kp,D3⟩⟩)⟩
    | 3,_,hx,DG=>
     cases hx
     dsimp only[bL]
     exact⟨_,O,d,cc,_,O,qe,by rfl,_,O,d,p,r,iq,lv,_,_,O,DG,by decide +kernel,.inl ⟨by decide +kernel,Qnv,by decide,by decide,pG,XA,fun x H3 kp D3=>⟨_,lv,O,by decide,kd sg kp,kl kp,D3⟩⟩⟩
    | 4,_,hx,DG=>
     cases hx
     dsimp only[bL]
     refine⟨_,O,d,cc,_,O,qe,by rfl,_,O,d,p,r,pG,lv,_,_,O,DG,?_,.inr (.inr ⟨BL,DG,ab1.wn1 rfl rfl rfl,Qnw,fun H3 s3=>k _ _ H3 (sg.trans s3) ⟨O,O⟩⟩)⟩
     rcases BL with rfl|rfl <;> decide +kernel
   .rintro σ G ⟨v3,lv,rfl,i4,_⟩
    exact UR (show 5≤4 from i4) (by decide)
  refine⟨_,O,O,_,O,bi (fun c=>?_) (fun Gu=>?_)⟩
  .have ew:w=11:=W' c
   subst ew
   refine⟨(by show 4≤S';decide),fun t nt=>⟨_,O,_,_,O,O,(by show 4≤S';decide),fun t' BW=>⟨(by show 2≤S';decide),fun l nl=>?_⟩⟩⟩
   have s1:ae H (upd (upd (upd H t (.tup [.int 0,.int 1,.int 0,.int 1])) t' (.tup [.int 1,.int 1,.int (1 + n),.int 3])) l (.lst [.ref t,.ref t'])):=((ae.new nt).trans (ae.new BW)).trans (ae.new nl)
   have ht:upd (upd (upd H t (.tup [.int 0,.int 1,.int 0,.int 1])) t' (.tup [.int 1,.int 1,.int (1 + n),.int 3])) l (.lst [.ref t,.ref t']) t=f' (.tup [.int 0,.int 1,.int 0,.int 1]):=((ae.new BW).trans (ae.new nl)) _ _ ag
   have sO:upd (upd (upd H t (.tup [.int 0,.int 1,.int 0,.int 1])) t' (.tup [.int 1,.int 1,.int (1 + n),.int 3])) l (.lst [.ref t,.ref t']) t'=f' (.tup [.int 1,.int 1,.int (1 + n),.int 3]):=(ae.new nl) _ _ ag
   have hl:upd (upd (upd H t (.tup [.int 0,.int 1,.int 0,.int 1])) t' (.tup [.int 1,.int 1,.int (1 + n),.int 3])) l (.lst [.ref t,.ref t']) l=f' (.lst [.ref t,.ref t']):=ag
   generalize upd (upd (upd H t (.tup [.int 0,.int 1,.int 0,.int 1])) t' (.tup [.int 1,.int 1,.int (1 + n),.int 3])) l (.lst [.ref t,.ref t'])=H1 at s1 ht sO hl ⊢
   refine⟨l,[(0,1,0,1),(1,1,1 + n,3)],2,O,ws2 ht sO hl,?_,by show 2≤200;decide,by decide,.inr ⟨1,by show 1<2;decide,fun c Pl=>?_⟩,(fun e=>by cases e),fun ring lr dx H2 s2 gM sI Xy=>?_⟩
   .intro x hx
    simp only[RS,RD,Wu] at hx
    rcases hx with rfl|rfl
    .exact⟨by decide,by decide⟩
    .exact⟨show 1<2 by decide,show 1<2 by decide⟩
   .show Pl 1 - Pl 1 - (1 + n)<0
    lia
   .rw[Qnx Xy] at sI
    exact k _ _ H2 (s1.trans s2) ⟨O,dx,lr,O,gM,sI⟩
  exfalso
  have ne:∀ k:Nat,decide (V.int (w:Int)=V.int (k:Int))=K'→w≠k:=fun k h z=>by
   rw[z,Rj rfl] at h
   cases h
  have e5:=ne 5 c5
  have e6:=ne 6 c6
  have e7:=ne 7 c7
  have Be:=ne 11 Gu
  exact Mb xr lt e5 e6 e7 Be
end
def eJ (a:Vg):Nat→F'
 | 0=>a.NoName
 | 1=>a.Taken
 | 2=>a.Alone
 | 3=>a.NoNumber
 | 4=>a.TooMany
 | 5=>a.NoFlow
 | 6=>a.TooLong
 | 7=>a.Stale
 | 8=>a.NoPoint
 | 9=>a.NoSuch
 | 10=>a.NoLine
 | _=>a.Ring
def row (i:Nat):List Bool:=(VH 12).map fun j=>decide (i=j)
section
variable {K:R'}
theorem kt0 (T:Tx K mg a):∀ i:Fin 12,UE K (.ref (eJ a i.val)) (.ref a.NoName)=f' (decide (i.val=0))
 | ⟨0,_⟩=>T.Qj0
 | ⟨1,_⟩=>T.Qkc
 | ⟨2,_⟩=>T.Qko
 | ⟨3,_⟩=>T.QkA
 | ⟨4,_⟩=>T.QkM
 | ⟨5,_⟩=>T.QkY
 | ⟨6,_⟩=>T.Qla
 | ⟨7,_⟩=>T.Qlm
 | ⟨8,_⟩=>T.Qly
 | ⟨9,_⟩=>T.QlK
 | ⟨10,_⟩=>T.QlW
 | ⟨11,_⟩=>T.Ql8
theorem kt1 (T:Tx K mg a):∀ i:Fin 12,UE K (.ref (eJ a i.val)) (.ref a.Taken)=f' (decide (i.val=1))
 | ⟨0,_⟩=>T.Qj1
 | ⟨1,_⟩=>T.Qkd
 | ⟨2,_⟩=>T.Qkp
 | ⟨3,_⟩=>T.QkB
 | ⟨4,_⟩=>T.QkN
 | ⟨5,_⟩=>T.QkZ
 | ⟨6,_⟩=>T.Qlb
 | ⟨7,_⟩=>T.Qln
 | ⟨8,_⟩=>T.Qlz
 | ⟨9,_⟩=>T.QlL
 | ⟨10,_⟩=>T.QlX
 | ⟨11,_⟩=>T.Ql9
theorem kt2 (T:Tx K mg a):∀ i:Fin 12,UE K (.ref (eJ a i.val)) (.ref a.Alone)=f' (decide (i.val=2))
 | ⟨0,_⟩=>T.Qj2
 | ⟨1,_⟩=>T.Qke
 | ⟨2,_⟩=>T.Qkq
 | ⟨3,_⟩=>T.QkC
 | ⟨4,_⟩=>T.QkO
 | ⟨5,_⟩=>T.Qk0
 | ⟨6,_⟩=>T.Qlc
 | ⟨7,_⟩=>T.Qlo
 | ⟨8,_⟩=>T.QlA
 | ⟨9,_⟩=>T.QlM
 | ⟨10,_⟩=>T.QlY
 | ⟨11,_⟩=>T.Qma
theorem kt3 (T:Tx K mg a):∀ i:Fin 12,UE K (.ref (eJ a i.val)) (.ref a.NoNumber)=f' (decide (i.val=3))
 | ⟨0,_⟩=>T.Qj3
 | ⟨1,_⟩=>T.Qkf
 | ⟨2,_⟩=>T.Qkr
 | ⟨3,_⟩=>T.QkD
 | ⟨4,_⟩=>T.QkP
 | ⟨5,_⟩=>T.Qk1
 | ⟨6,_⟩=>T.Qld
 | ⟨7,_⟩=>T.Qlp
 | ⟨8,_⟩=>T.QlB
 | ⟨9,_⟩=>T.QlN
 | ⟨10,_⟩=>T.QlZ
 | ⟨11,_⟩=>T.Qmb
theorem kt4 (T:Tx K mg a):∀ i:Fin 12,UE K (.ref (eJ a i.val)) (.ref a.TooMany)=f' (decide (i.val=4))
 | ⟨0,_⟩=>T.Qj4
 | ⟨1,_⟩=>T.Qkg
 | ⟨2,_⟩=>T.Qks
 | ⟨3,_⟩=>T.QkE
 | ⟨4,_⟩=>T.QkQ
 | ⟨5,_⟩=>T.Qk2
 | ⟨6,_⟩=>T.Qle
 | ⟨7,_⟩=>T.Qlq
 | ⟨8,_⟩=>T.QlC
 | ⟨9,_⟩=>T.QlO
 | ⟨10,_⟩=>T.Ql0
 | ⟨11,_⟩=>T.Qmc
theorem kt5 (T:Tx K mg a):∀ i:Fin 12,UE K (.ref (eJ a i.val)) (.ref a.NoFlow)=f' (decide (i.val=5))
 | ⟨0,_⟩=>T.Qj5
 | ⟨1,_⟩=>T.Qkh
 | ⟨2,_⟩=>T.Qkt
 | ⟨3,_⟩=>T.QkF
 | ⟨4,_⟩=>T.QkR
 | ⟨5,_⟩=>T.Qk3
 | ⟨6,_⟩=>T.Qlf
 | ⟨7,_⟩=>T.Qlr
 | ⟨8,_⟩=>T.QlD
 | ⟨9,_⟩=>T.QlP
 | ⟨10,_⟩=>T.Ql1
 | ⟨11,_⟩=>T.Qmd
theorem kt6 (T:Tx K mg a):∀ i:Fin 12,UE K (.ref (eJ a i.val)) (.ref a.TooLong)=f' (decide (i.val=6))
 | ⟨0,_⟩=>T.Qj6
 | ⟨1,_⟩=>T.Qki
 | ⟨2,_⟩=>T.Qku
 | ⟨3,_⟩=>T.QkG
 | ⟨4,_⟩=>T.QkS
 | ⟨5,_⟩=>T.Qk4
 | ⟨6,_⟩=>T.Qlg
 | ⟨7,_⟩=>T.Qls
 | ⟨8,_⟩=>T.QlE
 | ⟨9,_⟩=>T.QlQ
 | ⟨10,_⟩=>T.Ql2
 | ⟨11,_⟩=>T.Qme
theorem kt7 (T:Tx K mg a):∀ i:Fin 12,UE K (.ref (eJ a i.val)) (.ref a.Stale)=f' (decide (i.val=7))
 | ⟨0,_⟩=>T.Qj7
 | ⟨1,_⟩=>T.Qkj
 | ⟨2,_⟩=>T.Qkv
 | ⟨3,_⟩=>T.QkH
 | ⟨4,_⟩=>T.QkT
 | ⟨5,_⟩=>T.Qk5
 | ⟨6,_⟩=>T.Qlh
 | ⟨7,_⟩=>T.Qlt
 | ⟨8,_⟩=>T.QlF
 | ⟨9,_⟩=>T.QlR
 | ⟨10,_⟩=>T.Ql3
 | ⟨11,_⟩=>T.Qmf
theorem kt8 (T:Tx K mg a):∀ i:Fin 12,UE K (.ref (eJ a i.val)) (.ref a.NoPoint)=f' (decide (i.val=8))
 | ⟨0,_⟩=>T.Qj8
 | ⟨1,_⟩=>T.Qkk
 | ⟨2,_⟩=>T.Qkw
 | ⟨3,_⟩=>T.QkI
 | ⟨4,_⟩=>T.QkU
 | ⟨5,_⟩=>T.Qk6
 | ⟨6,_⟩=>T.Qli
 | ⟨7,_⟩=>T.Qlu
 | ⟨8,_⟩=>T.QlG
 | ⟨9,_⟩=>T.QlS
 | ⟨10,_⟩=>T.Ql4
 | ⟨11,_⟩=>T.Qmg
theorem kt9 (T:Tx K mg a):∀ i:Fin 12,UE K (.ref (eJ a i.val)) (.ref a.NoSuch)=f' (decide (i.val=9))
 | ⟨0,_⟩=>T.Qj9
 | ⟨1,_⟩=>T.Qkl
 | ⟨2,_⟩=>T.Qkx
 | ⟨3,_⟩=>T.QkJ
 | ⟨4,_⟩=>T.QkV
 | ⟨5,_⟩=>T.Qk7
 | ⟨6,_⟩=>T.Qlj
 | ⟨7,_⟩=>T.Qlv
 | ⟨8,_⟩=>T.QlH
 | ⟨9,_⟩=>T.QlT
 | ⟨10,_⟩=>T.Ql5
 | ⟨11,_⟩=>T.Qmh
theorem QnB (T:Tx K mg a):∀ i:Fin 12,UE K (.ref (eJ a i.val)) (.ref a.NoLine)=f' (decide (i.val=10))
 | ⟨0,_⟩=>T.Qka
 | ⟨1,_⟩=>T.Qkm
 | ⟨2,_⟩=>T.Qky
 | ⟨3,_⟩=>T.QkK
 | ⟨4,_⟩=>T.QkW
 | ⟨5,_⟩=>T.Qk8
 | ⟨6,_⟩=>T.Qlk
 | ⟨7,_⟩=>T.Qlw
 | ⟨8,_⟩=>T.QlI
 | ⟨9,_⟩=>T.QlU
 | ⟨10,_⟩=>T.Ql6
 | ⟨11,_⟩=>T.Qmi
theorem QnC (T:Tx K mg a):∀ i:Fin 12,UE K (.ref (eJ a i.val)) (.ref a.Ring)=f' (decide (i.val=11))
 | ⟨0,_⟩=>T.Qkb
 | ⟨1,_⟩=>T.Qkn
 | ⟨2,_⟩=>T.Qkz
 | ⟨3,_⟩=>T.QkL
 | ⟨4,_⟩=>T.QkX
 | ⟨5,_⟩=>T.Qk9
 | ⟨6,_⟩=>T.Qll
 | ⟨7,_⟩=>T.Qlx
 | ⟨8,_⟩=>T.QlJ
 | ⟨9,_⟩=>T.QlV
 | ⟨10,_⟩=>T.Ql7
 | ⟨11,_⟩=>T.Qmj
theorem ktv (T:Tx K mg a):∀ i:Fin 12,UE K (.ref (eJ a i.val)) (.type "ValueError")=f' B'
 | ⟨0,_⟩=>T.Qmk
 | ⟨1,_⟩=>T.Qml
 | ⟨2,_⟩=>T.Qmm
 | ⟨3,_⟩=>T.Qmn
 | ⟨4,_⟩=>T.Qmo
 | ⟨5,_⟩=>T.Qmp
 | ⟨6,_⟩=>T.Qmq
 | ⟨7,_⟩=>T.Qmr
 | ⟨8,_⟩=>T.Qms
 | ⟨9,_⟩=>T.Qmt
 | ⟨10,_⟩=>T.Qmu
 | ⟨11,_⟩=>T.Qmv
theorem mrs (T:Tx K mg a):∀ i:Fin 12,Vh K (eJ a i.val) (.ref a.DrawError)=f' B'
 | ⟨0,_⟩=>T.Qd1
 | ⟨1,_⟩=>T.Qd2
 | ⟨2,_⟩=>T.Qd3
 | ⟨3,_⟩=>T.Qd4
 | ⟨4,_⟩=>T.Qd5
 | ⟨5,_⟩=>T.QjS
 | ⟨6,_⟩=>T.QjT
 | ⟨7,_⟩=>T.QjU
 | ⟨8,_⟩=>T.Qd6
 | ⟨9,_⟩=>T.Qd7
 | ⟨10,_⟩=>T.Qd8
 | ⟨11,_⟩=>T.QjV
theorem xis (T:Tx K mg a):∀ i:Fin 12,V' K (eJ a i.val)
 | ⟨0,_⟩=>T.Qig
 | ⟨1,_⟩=>T.Qii
 | ⟨2,_⟩=>T.Qik
 | ⟨3,_⟩=>T.Qil
 | ⟨4,_⟩=>T.Qim
 | ⟨5,_⟩=>T.Qin
 | ⟨6,_⟩=>T.Qip
 | ⟨7,_⟩=>T.Qir
 | ⟨8,_⟩=>T.Qiu
 | ⟨9,_⟩=>T.Qix
 | ⟨10,_⟩=>T.QiA
 | ⟨11,_⟩=>T.QiD
theorem Vo.same {x:F'} (h:Vo H x C dd) (e:ae H H'):Vo H' x C dd:=by
 obtain⟨o,u,h1,r⟩:=h.at_
 exact⟨o,u,e _ _ h1,r⟩
theorem rn  (s:ae H H'):∀ {dd:Option F'},Yl H dd→Yl H' dd
 | none,_=>trivial
 | some _,⟨fs,h⟩=>⟨fs,s _ _ h⟩
theorem Nk:∀ w:Nat,Ref a n H C dd w→C=eJ a w∧Yl H dd
 | 0,⟨e1,e2⟩=>⟨e1,by rw[e2];trivial⟩
 | 1,⟨e1,e2⟩=>⟨e1,by rw[e2];trivial⟩
 | 2,⟨e1,e2⟩=>⟨e1,by rw[e2];trivial⟩
 | 3,⟨e1,e2⟩=>⟨e1,by rw[e2];trivial⟩
 | 4,⟨e1,e2⟩=>⟨e1,by rw[e2];trivial⟩
 | 5,⟨e1,e2⟩=>⟨e1,by rw[e2];trivial⟩
 | 6,⟨e1,e2⟩=>⟨e1,by rw[e2];trivial⟩
 | 7,⟨e1,e2⟩=>⟨e1,by rw[e2];trivial⟩
 | 8,⟨e1,dx,e2,e3⟩=>⟨e1,by rw[e2];exact⟨_,e3⟩⟩
 | 9,⟨e1,dx,e2,e3⟩=>⟨e1,by rw[e2];exact⟨_,e3⟩⟩
 | 10,⟨e1,dx,e2,e3⟩=>⟨e1,by rw[e2];exact⟨_,e3⟩⟩
 | 11,⟨e1,dx,l,e2,e3,_⟩=>⟨e1,by rw[e2];exact⟨_,e3⟩⟩
 | _ + 12,h=>h.elim
def J9 (a:Vg):Sp:=fun vs H Q _=>∃ e,∃ i:Fin 12,∃ dd,vs=[.ref e]∧Vo H e (eJ a i.val) dd∧Yl H dd∧∀ l H',ae H H'→H' l=f' (.lst ((row i.val).map V.bl))→Q (.ref l) H'
theorem DR (T:Tx K mg a):Vd P w K mg base U8 1 "_law_kinds" ["_law_e"] [] (J9 a):=T.Qjm.U2 fun f fd F=>by
 refine F.ok zM (fun vs H Q E h=>?_) (fun ay A outer s H vs Q E hr h=>?_)
 .obtain⟨e,i,dd,rfl,_⟩:=h
  rfl
 .obtain⟨e,i,dd,rfl,ix,xd,k⟩:=h
  have iz:=xis T i
  refine⟨_,(ao (aW (i:=1) zM.nd O (by first|exact UL rfl|exact UK O) (bY (af (bj io O T.Wl fX (af (pv 0) (af (g6 O T.QdI) ai))) (af (bj io O T.Wl fX (af (pv 0) (af (g6 O T.QdJ) ai))) (af (bj io O T.Wl fX (af (pv 0) (af (g6 O T.QdK) ai))) (af (bj io O T.Wl fX (af (pv 0) (af (g6 O T.QaD) ai))) ai))))))
   (ao (aW (i:=1) zM.nd O (by first|exact UL rfl|exact UK O) (br sf (pv 1) (bY (af (bj io O T.Wl fX (af (pv 0) (af (g6 O T.Z1) ai))) (af (bj io O T.Wl fX (af (pv 0) (af (g6 O T.QbP) ai))) (af (bj io O T.Wl fX (af (pv 0) (af (g6 O T.QdM) ai))) (af (bj io O T.Wl fX (af (pv 0) (af (g6 O T.QdN) ai))) ai)))))))
   (ak (aN (br sf (pv 1) (bY (af (bj io rfl T.Wl fX (af (pv 0) (af (g6 rfl T.QdO) ai))) (af (bj io rfl T.Wl fX (af (pv 0) (af (g6 rfl T.QdP) ai))) (af (bj io rfl T.Wl fX (af (pv 0) (af (g6 rfl T.QdQ) ai))) (af (bj io rfl T.Wl fX (af (pv 0) (af (g6 rfl T.QdR) ai))) ai)))))))))),?_⟩
  refine⟨_,O,e,_,dd,_,_,_,O,ix,xd,iz,(fun _ r=>r),kt0 T i,_,O,e,_,dd,_,_,_,O,ix,xd,iz,(fun _ r=>r),kt1 T i,_,O,e,_,dd,_,_,_,O,ix,xd,iz,(fun _ r=>r),kt2 T i,_,O,e,_,dd,_,_,_,O,ix,xd,iz,(fun _ r=>r),kt3 T i,(by show 4≤S';decide),fun l1 n1=>?_⟩
  have s1:=ae.new (o:=.lst [.bl (decide (i.val=0)),.bl (decide (i.val=1)),.bl (decide (i.val=2)),.bl (decide (i.val=3))]) n1
  have h1:=ag (H:=H) (a:=l1) (o:=HO.lst [.bl (decide (i.val=0)),.bl (decide (i.val=1)),.bl (decide (i.val=2)),.bl (decide (i.val=3))])
  have nY:=Vo.same ix s1
  have oN:=rn s1 xd
  generalize upd H l1 (.lst [.bl (decide (i.val=0)),.bl (decide (i.val=1)),.bl (decide (i.val=2)),.bl (decide (i.val=3))])=H1 at s1 h1 nY oN ⊢
  refine⟨_,O,_,O,e,_,dd,_,_,_,O,nY,oN,iz,(fun _ r=>r),kt4 T i,_,O,e,_,dd,_,_,_,O,nY,oN,iz,(fun _ r=>r),kt5 T i,_,O,e,_,dd,_,_,_,O,nY,oN,iz,(fun _ r=>r),kt6 T i,_,O,e,_,dd,_,_,_,O,nY,oN,iz,(fun _ r=>r),kt7 T i,(by show 4≤S';decide),fun l2 n2=>?_⟩
  refine⟨l1,l2,_,_,O,O,(ae.new n2) _ _ h1,ag,(by show 4 + 4≤S';decide),fun l3 n3=>?_⟩
  have s2:=(ae.new (o:=.lst [.bl (decide (i.val=4)),.bl (decide (i.val=5)),.bl (decide (i.val=6)),.bl (decide (i.val=7))]) n2).trans (ae.new (o:=.lst ([.bl (decide (i.val=0)),.bl (decide (i.val=1)),.bl (decide (i.val=2)),.bl (decide (i.val=3))]++[.bl (decide (i.val=4)),.bl (decide (i.val=5)),.bl (decide (i.val=6)),.bl (decide (i.val=7))])) n3)
  have h3:=ag (H:=upd H1 l2 (.lst [.bl (decide (i.val=4)),.bl (decide (i.val=5)),.bl (decide (i.val=6)),.bl (decide (i.val=7))])) (a:=l3) (o:=HO.lst ([.bl (decide (i.val=0)),.bl (decide (i.val=1)),.bl (decide (i.val=2)),.bl (decide (i.val=3))]++[.bl (decide (i.val=4)),.bl (decide (i.val=5)),.bl (decide (i.val=6)),.bl (decide (i.val=7))]))
  have qc:=Vo.same nY s2
  have lS:=rn s2 oN
  generalize upd (upd H1 l2 (.lst [.bl (decide (i.val=4)),.bl (decide (i.val=5)),.bl (decide (i.val=6)),.bl (decide (i.val=7))])) l3 (.lst ([.bl (decide (i.val=0)),.bl (decide (i.val=1)),.bl (decide (i.val=2)),.bl (decide (i.val=3))]++[.bl (decide (i.val=4)),.bl (decide (i.val=5)),.bl (decide (i.val=6)),.bl (decide (i.val=7))]))=H2 at s2 h3 qc lS ⊢
  refine⟨_,O,_,O,e,_,dd,_,_,_,O,qc,lS,iz,(fun _ r=>r),kt8 T i,_,O,e,_,dd,_,_,_,O,qc,lS,iz,(fun _ r=>r),kt9 T i,_,O,e,_,dd,_,_,_,O,qc,lS,iz,(fun _ r=>r),QnB T i,_,O,e,_,dd,_,_,_,O,qc,lS,iz,(fun _ r=>r),QnC T i,(by show 4≤S';decide),fun l4 n4=>?_⟩
  refine⟨l3,l4,_,_,O,O,(ae.new n4) _ _ h3,ag,(by show 8 + 4≤S';decide),fun l5 n5=>?_⟩
  exact k l5 _ (s1.trans (s2.trans ((ae.new n4).trans (ae.new n5)))) ag
def QnD:Sp:=fun vs H Q _=>∃ w:Fin 12,∃ n:Int,vs=[.int (w.val:Int),.int n]∧0≤n∧n<1000000000∧∀ l H',ae H H'→H' l=f' (.lst ((row w.val++[B']).map V.bl))→Q (.ref l) H'
theorem Ld (T:Tx K mg a) (Z:KD P w K a.LINES (fk a)):Vd P w K mg base U8 12 "_law_kind" ["_law_which","_law_number"] [] QnD:=T.Qjp.U2 fun f fd F=>by
 have aM:=Fe (P:=P) (w:=w) (base:=base) T Z
 have a9:=FX (P:=P) (w:=w) (base:=base) T Z
 have bI:=DR (P:=P) (w:=w) (base:=base) T
 refine F.ok ui (fun vs H Q E h=>?_) (fun ay A outer s H vs Q E hr h=>?_)
 .obtain⟨i,n,rfl,_⟩:=h
  rfl
 .obtain⟨i,n,rfl,n0,n9,k⟩:=h
  refine⟨_,(ao (aW (i:=2) ui.nd O (by first|exact UL rfl|exact UK O) yj)
   (ao (si ⟨rfl,rfl⟩ rfl (Wk.Ym (i:=3) O T.QbN T.QdG T.QdH (by decide) ui.nd rfl rfl (fun a H₀=>(ak (aW (i:=2) ui.nd O (by first|exact UL rfl|exact UK O) (br sf (bC bI (hr.mark.mono (by decide)) rfl (af (pv 3) ai)) (bY (af (bj (OY (K:=K) O) O T.Wl fX (af (pv 3) (af (uH O T.QmA KS) ai))) ai)))))) Wk.nil) (fun pn E1 R1 aC qN=>(ao (bp (fe aM aC (hr.mono (by decide)) rfl (af (pv 0) (af (pv 1) ai))))
   (ak (bp (fe a9 aC (hr.mono (by decide)) rfl (af (pv 0) (af (pv 1) ai))))))) aQ)
   (ak (aN (pv 2))))),?_⟩
  apply QhR (I:=fun(C:F') (dd:Option F') H'=>ae H H'∧Ref a n H' C dd i.val)
  case g=>
   intro bb
   refine⟨_,O,_,O,i.val,n,O,i.isLt,n0,n9,fun lt H1 s1=>?_,fun _ C dd H1 s1 rf=>bb C dd H1 ⟨s1,rf⟩⟩
   exact⟨_,O,_,O,i.val,n,O,i.isLt,n0,n9,lt,fun C dd H2 s2 rf=>bb C dd H2 ⟨s1.trans s2,rf⟩⟩
  case h=>
  rintro C dd H1 ⟨s1,rf⟩
  obtain⟨rfl,xd⟩:=Nk i.val rf
  refine⟨_,B',O,mrs T i,eh (fun x ob hx ho cT hf=>?_)⟩
  have s2:=ae.new (o:=.UT ob (.own x)) hx
  have ix:Vo (upd H1 x (.UT ob (.own x))) x (eJ a i.val) dd:=⟨ob,.own x,ag,ho,cT,hf⟩
  have lS:=rn s2 xd
  refine⟨_,O,x,i,dd,O,ix,lS,fun l H3 s3 hl=>?_⟩
  refine⟨_,O,x,_,dd,_,_,B',O,Vo.same ix s3,rn s3 lS,xis T i,(fun _ r=>r),ktv T i,(by show 1≤S';decide),fun l2 n2=>?_⟩
  refine⟨l,l2,_,_,O,O,(ae.new n2) _ _ hl,ag,(by show 12 + 1≤S';decide),fun l3 n3=>?_⟩
  refine⟨_,O,?_⟩
  exact k l3 _ (s1.trans (s2.trans (s3.trans ((ae.new n2).trans (ae.new n3))))) (by rw[ag,Q8];rfl)
end
section
variable {K:R'}
def PY:Sp:=fun vs H Q _=>∃ n:Int,vs=[.int n]∧0≤n∧n<1000000000∧∀ H',ae H H'→Q (.bl B') H'
def Qb9 (n:Int):Dt:=.lst [.str (cK n),.int n,.int 2,.lst [.int 1]]
theorem CL  (h:H p=f' (.lst [.str (cK n),.int n,.int 2,.ref q])) (h':H q=f' (.lst [.int 1])):VC K H (Qb9 n) (.ref p):=
 ⟨p,_,rfl,P'.of h,_,_,rfl,rfl,_,_,rfl,rfl,_,_,rfl,rfl,_,_,rfl,⟨q,_,rfl,P'.of h',_,_,rfl,rfl,rfl⟩,rfl⟩
theorem KZ (T:Tx K mg a) (Z:KD P w K a.LINES (fk a)):Vd P w K mg base U8 13 "_law_fields" ["_law_number"] [] PY:=T.Qjq.U2 fun f fd F=>by
 have aM:=Fe (P:=P) (w:=w) (base:=base) T Z
 have a9:=FX (P:=P) (w:=w) (base:=base) T Z
 refine F.ok pi (fun vs H Q E h=>?_) (fun ay A outer s H vs Q E hr h=>?_)
 .obtain⟨n,rfl,_⟩:=h
  rfl
 .obtain⟨n,rfl,n0,n9,k⟩:=h
  refine⟨_,(ao (aW (i:=1) pi.nd O (by first|exact UL rfl|exact UK O) (bY ai))
   (ao (si ⟨rfl,rfl⟩ rfl (Wk.Ym (i:=2) O T.QdO T.Qis T.Qit (by decide) pi.nd rfl rfl (fun a H₀=>(ak (bp (tQ (K:=K) O V5 Wo Wy fS (pv 1) (af (uC (K:=K) O (pv 2) O) ai))))) Wk.nil) (fun pn E1 R1 aC qN=>(ak (bp (fe aM aC (hr.mono (by decide)) rfl (af au (af (pv 0) ai)))))) aQ)
   (ao (si ⟨rfl,rfl⟩ rfl (Wk.Ym (i:=2) O T.QdP T.Qiv T.Qiw (by decide) pi.nd rfl rfl (fun a H₀=>(ak (bp (tQ (K:=K) O V5 Wo Wy fS (pv 1) (af (uC (K:=K) O (pv 2) O) ai))))) Wk.nil) (fun pn E1 R1 aC qN=>(ak (bp (fe aM aC (hr.mono (by decide)) rfl (af au (af (pv 0) ai)))))) aQ)
   (ao (si ⟨rfl,rfl⟩ rfl (Wk.Ym (i:=2) O T.QdQ T.Qiy T.Qiz (by decide) pi.nd rfl rfl (fun a H₀=>(ak (bp (tQ (K:=K) O V5 Wo Wy fS (pv 1) (af (uC (K:=K) O (pv 2) O) ai))))) Wk.nil) (fun pn E1 R1 aC qN=>(ak (bp (fe aM aC (hr.mono (by decide)) rfl (af au (af (pv 0) ai)))))) aQ)
   (ao (si ⟨rfl,rfl⟩ rfl (Wk.Ym (i:=2) O T.QdR T.QiB T.QiC (by decide) pi.nd rfl rfl (fun a H₀=>(ak (bp (tQ (K:=K) O V5 Wo Wy fS (pv 1) (af (uC (K:=K) O (pv 2) O) ai))))) Wk.nil) (fun pn E1 R1 aC qN=>(ak (bp (fe a9 aC (hr.mono (by decide)) rfl (af au (af (pv 0) ai)))))) aQ)
   (ak (aN (kh (Qhx hr.units) (pv 1) (bY (af (aK bB (bY (af bh (af bh ai))) (br km (pv 0) au) (fun _ _=>O)) (af (pv 0) (af au (af (bY (af au ai)) ai))))) (aZ _))))))))),?_⟩
  refine⟨(by show 0≤S';decide),fun p np=>?_⟩
  have s1:ae H (upd H p (.lst [])):=ae.new np
  have h1:upd H p (.lst []) p=f' (.lst []):=ag
  generalize upd H p (.lst [])=H1 at s1 h1 ⊢
  refine⟨_,O,8,n,O,by decide,n0,n9,(fun e=>by cases e),fun _ C dd H2 s2 rf=>?_⟩
  obtain⟨rfl,dx,rfl,e2⟩:=rf
  refine⟨_,B',O,T.QjW,eh (fun x ob hx ho cT hf=>?_)⟩
  have ix:Vo (upd H2 x (.UT ob (.own x))) x a.NoPoint (f' dx):=⟨ob,.own x,ag,ho,cT,hf⟩
  have sx:=ae.new (o:=.UT ob (.own x)) hx
  refine⟨_,O,.inl ⟨O,_,P'.of (sx _ _ (s2 _ _ h1))⟩,_,O,x,_,dx,_,_,O,ix,sx _ _ e2,T.QdW,O,p,_,_,O,O,sx _ _ (s2 _ _ h1),by show 0<S';decide,?_⟩
  have t1:ae H (upd (upd H2 x (.UT ob (.own x))) p (.lst ([]++[.str (cK n)]))):=du np (s1.trans (s2.trans sx))
  have h2:upd (upd H2 x (.UT ob (.own x))) p (.lst ([]++[.str (cK n)])) p=f' (.lst [.str (cK n)]):=ag
  clear s1 h1 s2 e2 ix sx
  generalize upd (upd H2 x (.UT ob (.own x))) p (.lst ([]++[.str (cK n)]))=H3 at t1 h2 ⊢
  refine⟨_,O,9,n,O,by decide,n0,n9,(fun e=>by cases e),fun _ C dd H4 s2 rf=>?_⟩
  obtain⟨rfl,dx,rfl,e2⟩:=rf
  refine⟨_,B',O,T.QjX,eh (fun x ob hx ho cT hf=>?_)⟩
  have ix:Vo (upd H4 x (.UT ob (.own x))) x a.NoSuch (f' dx):=⟨ob,.own x,ag,ho,cT,hf⟩
  have sx:=ae.new (o:=.UT ob (.own x)) hx
  refine⟨_,O,.inl ⟨O,_,P'.of (sx _ _ (s2 _ _ h2))⟩,_,O,x,_,dx,_,_,O,ix,sx _ _ e2,T.QdX,O,p,_,_,O,O,sx _ _ (s2 _ _ h2),by show 1<S';decide,?_⟩
  have t2:ae H (upd (upd H4 x (.UT ob (.own x))) p (.lst ([.str (cK n)]++[.int n]))):=du np (t1.trans (s2.trans sx))
  have h3:upd (upd H4 x (.UT ob (.own x))) p (.lst ([.str (cK n)]++[.int n])) p=f' (.lst [.str (cK n),.int n]):=ag
  clear t1 h2 s2 e2 ix sx
  generalize upd (upd H4 x (.UT ob (.own x))) p (.lst ([.str (cK n)]++[.int n]))=H5 at t2 h3 ⊢
  refine⟨_,O,10,n,O,by decide,n0,n9,(fun e=>by cases e),fun _ C dd H6 s2 rf=>?_⟩
  obtain⟨rfl,dx,rfl,e2⟩:=rf
  refine⟨_,B',O,T.QjY,eh (fun x ob hx ho cT hf=>?_)⟩
  have ix:Vo (upd H6 x (.UT ob (.own x))) x a.NoLine (f' dx):=⟨ob,.own x,ag,ho,cT,hf⟩
  have sx:=ae.new (o:=.UT ob (.own x)) hx
  refine⟨_,O,.inl ⟨O,_,P'.of (sx _ _ (s2 _ _ h3))⟩,_,O,x,_,dx,_,_,O,ix,sx _ _ e2,T.QdY,O,p,_,_,O,O,sx _ _ (s2 _ _ h3),by show 2<S';decide,?_⟩
  have t3:ae H (upd (upd H6 x (.UT ob (.own x))) p (.lst ([.str (cK n),.int n]++[.int 2]))):=du np (t2.trans (s2.trans sx))
  have h4:upd (upd H6 x (.UT ob (.own x))) p (.lst ([.str (cK n),.int n]++[.int 2])) p=f' (.lst [.str (cK n),.int n,.int 2]):=ag
  clear t2 h3 s2 e2 ix sx
  generalize upd (upd H6 x (.UT ob (.own x))) p (.lst ([.str (cK n),.int n]++[.int 2]))=H7 at t3 h4 ⊢
  refine⟨_,O,11,n,O,by decide,n0,n9,O,fun C dd H8 s2 rf=>?_⟩
  obtain⟨rfl,dx,l,rfl,e2,e3⟩:=rf
  refine⟨_,B',O,T.QjZ,eh (fun x ob hx ho cT hf=>?_)⟩
  have ix:Vo (upd H8 x (.UT ob (.own x))) x a.Ring (f' dx):=⟨ob,.own x,ag,ho,cT,hf⟩
  have sx:=ae.new (o:=.UT ob (.own x)) hx
  have nl:l≠p:=fun e=>by
   have q:=s2 _ _ h4
   rw[e,q] at e3
   cases e3
  refine⟨_,O,.inl ⟨O,_,P'.of (sx _ _ (s2 _ _ h4))⟩,_,O,x,_,dx,_,_,O,ix,sx _ _ e2,T.QdZ,O,p,_,_,O,O,sx _ _ (s2 _ _ h4),by show 3<S';decide,?_⟩
  have t4:ae H (upd (upd H8 x (.UT ob (.own x))) p (.lst ([.str (cK n),.int n,.int 2]++[.ref l]))):=du np (t3.trans (s2.trans sx))
  have h5:upd (upd H8 x (.UT ob (.own x))) p (.lst ([.str (cK n),.int n,.int 2]++[.ref l])) p=f' (.lst [.str (cK n),.int n,.int 2,.ref l]):=ag
  have h6:upd (upd H8 x (.UT ob (.own x))) p (.lst ([.str (cK n),.int n,.int 2]++[.ref l])) l=f' (.lst [.int 1]):=by rw[aj nl];exact sx _ _ e3
  clear t3 h4 s2 e2 e3 ix sx
  generalize upd (upd H8 x (.UT ob (.own x))) p (.lst ([.str (cK n),.int n,.int 2]++[.ref l]))=H9 at t4 h5 h6 ⊢
  refine⟨_,O,(by show 2≤S';decide),fun q nq=>?_⟩
  refine⟨_,O,_,_,O,O,(by show(0:Int)<2;decide),q,_,_,_,O,O,P'.of ag,Qej n0,_,O,(by show 1≤S';decide),fun r nr=>⟨(by show 4≤S';decide),fun u nu=>?_⟩⟩
  have s7:=(ae.new (o:=.lst [.str (UI "zz"),.str nB]) nq).trans ((ae.new (o:=.lst [.int 1]) nr).trans (ae.new (o:=.lst [.str (cK n),.int n,.int 2,.ref r]) nu))
  refine⟨Qb9 n,Qb9 n,O,O,CL (s7 _ _ h5) (s7 _ _ h6),CL ag ((ae.new nu) _ _ ag),⟨trivial,trivial,trivial,⟨trivial,trivial⟩,trivial⟩,?_⟩
  show Q (.bl (VN _ _)) _
  rw[ut]
  exact k _ (t4.trans s7)
end
section
variable {K:R'}
theorem made {x:F'}{o1 o2 o3:HO}{ob:UZ} (nx:H x=i') (s:ae (upd H x o1) G1) (nd:G1 dx=i') (ho:ob.cls=.ref C) (hd:ob.dict=f' dx) (hf:∃ vs,ob.data=.fields vs) :
  ae H (upd (del (upd (upd G1 dx o2) x o3) x) x (.UT ob (.own x)))∧Vo (upd (del (upd (upd G1 dx o2) x o3) x) x (.UT ob (.own x))) x C (f' dx)∧upd (del (upd (upd G1 dx o2) x o3) x) x (.UT ob (.own x)) dx=f' o2∧∀ b u,b≠x→G1 b=f' u→upd (del (upd (upd G1 dx o2) x o3) x) x (.UT ob (.own x)) b=f' u:=by
 have n1:dx≠x:=fun e=>by
  have q:=s x _ ag
  rw[e,q] at nd
  cases nd
 have k:∀ b u,b≠x→G1 b=f' u→upd (del (upd (upd G1 dx o2) x o3) x) x (.UT ob (.own x)) b=f' u:=fun b u n q=>by
  rw[aj n,ly n,aj n,aj (aq q nd)]
  exact q
 refine⟨fun b u q=>?_,⟨ob,.own x,ag,ho,hd,hf⟩,?_,k⟩
 .have n:=aq q nx
  exact k b u n (s b u (by rw[aj n];exact q))
 .rw[aj n1,ly n1,aj n1,ag]
def mdD (n:Int):Dt:=.lst [.str (UI "ab"),.int n,.int n,.lst [.int 0,.int n]]
theorem DM  (h:H p=f' (.lst [.str (UI "ab"),.int n,.int n,.ref q])) (h':H q=f' (.lst [.int 0,.int n])):VC K H (mdD n) (.ref p):=
 ⟨p,_,rfl,P'.of h,_,_,rfl,rfl,_,_,rfl,rfl,_,_,rfl,rfl,_,_,rfl,⟨q,_,rfl,P'.of h',_,_,rfl,rfl,_,_,rfl,rfl,rfl⟩,rfl⟩
theorem QnE:∀ i:Fin 12,((row i.val).filter id).length=1:=by decide
theorem QnF:∀ i:Fin 12,((row i.val++[B']).filter id).length=2:=by decide
theorem Nn {bs:List Bool} (h:(bs.map V.bl)[j]?=f' y):∃ b,bs[j]?=f' b∧y=.bl b:=by
 rw[Rx] at h
 cases e:bs[j]? with
 | none=>rw[e] at h;cases h
 | some b=>rw[e] at h;cases h;exact⟨b,O,O⟩
theorem Fb {bs:List Bool} (hl:G1 l=f' (.lst (bs.map V.bl))) (hD:G1 D=i') (lb:bs.length≤100) (k:∀ G,ae G1 G→G D=f' (.lst ((bs.filter id).map V.bl))→Q (.ref D) G):jD (Zd K l) D [i'] (upd G1 D (.lst [])) (bL 0) (L2.tB (ZT 0)) (ZT 0) Q:=by
 refine fq (K:=K) (a:=l) (xs:=bs.map V.bl) (fun j τ G=>∃ v1,τ=[v1]∧ae G1 G∧G D=f' (.lst (((bs.take j).filter id).map V.bl))) ⟨i',rfl,ae.new hD,ag⟩ ?_ ?_ ?_
 .rintro j τ G _ ⟨_,rfl,sg,_⟩
  exact P'.of (sg _ _ hl)
 .rintro j y τ G hy ⟨v1,rfl,sg,hG⟩
  obtain⟨b,hb,rfl⟩:=Nn hy
  have hj:j<bs.length:=(VD.mp hb).1
  have fl:=Si id (bs.take j)
  rw[Rm] at fl
  have e1:bs.take (j + 1)=bs.take j++[b]:=by rw[List.take_succ,hb];rfl
  dsimp only[bL]
  refine⟨_,O,_,O,?_⟩
  rw[e1,Tb]
  cases b with
  | true=>exact eh ⟨_,O,_,hG,by rw[Q3,Q9];lia,_,O,du hD sg,by rw[ag,Q8];rfl⟩
  | false=>exact iL ⟨_,O,sg,by rw[hG];simp⟩
 .rintro τ G ⟨_,rfl,sg,hG⟩
  rw[Q3,Rt] at hG
  exact k _ sg hG
def QnG:Sp:=fun vs H Q _=>∃ n:Int,vs=[.int n]∧∀ H',Q (.bl B') H'
theorem OH (T:Tx K mg a):Vd P w K mg base U8 3 "_law_made" ["_law_number"] [] QnG:=T.Qjr.U2 fun f fd F=>by
 have bD:=yx (P:=P) (w:=w) (base:=base) T
 have dC:=Cs (P:=P) (w:=w) (base:=base) T
 have aF:=oY (P:=P) (w:=w) (base:=base) T
 have gD:=EU (P:=P) (w:=w) (base:=base) T
 have bI:=DR (P:=P) (w:=w) (base:=base) T
 refine F.ok oR (fun vs H Q E h=>?_) (fun ay A outer s H vs Q E hr h=>?_)
 .obtain⟨n,rfl,_⟩:=h
  rfl
 .obtain⟨n,rfl,k⟩:=h
  refine⟨_,(ao (aW (i:=1) oR.nd O (by first|exact UL rfl|exact UK O) (t8 bD (hr.mono (by decide)) rfl (af bh ai)))
   (ao (aW (i:=2) oR.nd O (by first|exact UL rfl|exact UK O) (t8 dC (hr.mono (by decide)) rfl (af (pv 0) ai)))
   (ao (aW (i:=3) oR.nd O (by first|exact UL rfl|exact UK O) (t8 aF (hr.mono (by decide)) rfl (af (pv 0) ai)))
   (ao (aW (i:=4) oR.nd O (by first|exact UL rfl|exact UK O) (t8 gD (hr.mono (by decide)) rfl (af (bY (af au (af (pv 0) ai))) ai)))
   (ao (aU (bf (DN hr.units) (bY (af (rC (pv 1) rfl) (af (rC (pv 2) rfl) (af (rC (pv 3) rfl) (af (rC (pv 4) rfl) ai))))) (bY (af bh (af (pv 0) (af (pv 0) (af (bY (af au (af (pv 0) ai))) ai))))) (aZ _)) (ak (aN nH)) aQ)
   (ao (ei Wb rfl (bV (bY (af (pv 1) (af (pv 2) (af (pv 3) (af (pv 4) ai)))))) (aG (i:=5) oR.nd O (by first|exact UL rfl|exact UK O)) (ak (aU (PW.pt (ig (gi (eG (bj io O T.Wl fX (af (pv 5) (af (g6 O T.QbN) ai))))) (kU (bf nN (bj eZ O T.VP dm (af (cF (N:=["_law_kind_here"]) (cap:=[i']) O (cz (osc:=az yf) (XN:=["_law_number","_law_one","_law_two","_law_three","_law_four","_law_e"]) O O (by decide +kernel)) (bV (bC bI (hr.mono (by decide)) rfl (af (pv 5) ai))) (fun cl C s H fp aa=>(aG (i:=0) (show(["_law_kind_here"]:List C').Nodup by decide +kernel) rfl (by first|exact UL rfl|exact UK O))) (fun cl C s H fp aa=>xT (eG (pv 0))) (fun cl C s H fp aa=>(pv 0))) ai)) au (aZ _))))) (ak (aN nH)) aQ)))
   (ak (aN nH)))))))),?_⟩
  refine⟨(by show 1≤S';decide),fun x1 t1 Il=>⟨x1,t1,_,O,ag,fun d1 Ga=>⟨O,f' d1,ag,fun b1 o1 p1 f1=>?_⟩⟩⟩
  obtain⟨-,i1,g1,-⟩:=made (o2:=.xd [("name",.str (UI "ab"))]) (o3:=cy a.NoPoint t1 x1 (f' d1)) Il (ae.refl _) Ga o1 p1 f1
  generalize upd (del (upd (upd (upd H x1 _) d1 _) x1 _) x1) x1 _=H1 at i1 g1 ⊢
  refine⟨_,O,(by show 1≤S';decide),fun x2 t2 JK=>⟨x2,t2,_,O,ag,fun d2 kD=>⟨O,f' d2,ag,fun b2 o2 p2 f2=>?_⟩⟩⟩
  obtain⟨s2,i2,g2,-⟩:=made (o2:=.xd [("number",.int n)]) (o3:=cy a.NoSuch t2 x2 (f' d2)) JK (ae.refl _) kD o2 p2 f2
  have i1:=Vo.same i1 s2
  have g1:=s2 _ _ g1
  generalize upd (del (upd (upd (upd H1 x2 _) d2 _) x2 _) x2) x2 _=H2 at s2 i1 g1 i2 g2 ⊢
  refine⟨_,O,(by show 1≤S';decide),fun x3 t3 FZ=>⟨x3,t3,_,O,ag,fun d3 xj=>⟨O,f' d3,ag,fun b3 o3 p3 f3=>?_⟩⟩⟩
  obtain⟨s3,i3,g3,-⟩:=made (o2:=.xd [("number",.int n)]) (o3:=cy a.NoLine t3 x3 (f' d3)) FZ (ae.refl _) xj o3 p3 f3
  have i1:=Vo.same i1 s3
  have g1:=s3 _ _ g1
  have i2:=Vo.same i2 s3
  have g2:=s3 _ _ g2
  generalize upd (del (upd (upd (upd H2 x3 _) d3 _) x3 _) x3) x3 _=H3 at s3 i1 g1 i2 g2 i3 g3 ⊢
  refine⟨_,O,(by show 2≤S';decide),fun l4 n4=>⟨(by show 1≤S';decide),fun x4 t4 A5=>⟨x4,t4,l4,_,O,ag,by rw[aj (aq ag A5),ag],fun l5 n5 d4 Hz=>⟨O,f' d4,ag,fun b4 o4 p4 f4=>?_⟩⟩⟩⟩
  obtain⟨s4,i4,g4,k4⟩:=made (o2:=.xd [("ring",.ref l5)]) (o3:=cy a.Ring t4 x4 (f' d4)) A5 (ae.new n5) Hz o4 p4 f4
  have s4:=(ae.new n4).trans s4
  have r4:=k4 l5 _ (fun e=>by rw[e,ag] at n5;cases n5) ag
  have i1:=Vo.same i1 s4
  have g1:=s4 _ _ g1
  have i2:=Vo.same i2 s4
  have g2:=s4 _ _ g2
  have i3:=Vo.same i3 s4
  have g3:=s4 _ _ g3
  clear k4
  generalize upd (del (upd (upd (upd (upd _ x4 _) l5 _) d4 _) x4 _) x4) x4 _=H4 at s4 i1 g1 i2 g2 i3 g3 i4 g4 r4 ⊢
  refine⟨_,O,x1,_,d1,_,_,O,i1,g1,T.QdW,O,_,O,x2,_,d2,_,_,O,i2,g2,T.QdX,O,_,O,x3,_,d3,_,_,O,i3,g3,T.QdY,O,_,O,x4,_,d4,_,_,O,i4,g4,T.QdZ,O,(by show 4≤S';decide),fun u nu=>?_⟩
  refine⟨_,O,_,O,_,O,(by show 2≤S';decide),fun v nv=>⟨(by show 4≤S';decide),fun z nz=>?_⟩⟩
  have su:=ae.new (o:=.lst [.str (UI "ab"),.int n,.int n,.ref l5]) nu
  have sz:=(ae.new (o:=.lst [.int 0,.int n]) nv).trans (ae.new (o:=.lst [.str (UI "ab"),.int n,.int n,.ref v]) nz)
  refine⟨mdD n,mdD n,O,O,DM (sz _ _ ag) (sz _ _ (su _ _ r4)),DM ag ((ae.new nz) _ _ ag),⟨trivial,trivial,trivial,⟨trivial,trivial,trivial⟩,trivial⟩,_,O,dP (by rw[ut];rfl) ?_⟩
  have s5:=su.trans sz
  have i1:=Vo.same i1 s5
  have g1:=s5 _ _ g1
  have i2:=Vo.same i2 s5
  have g2:=s5 _ _ g2
  have i3:=Vo.same i3 s5
  have g3:=s5 _ _ g3
  have i4:=Vo.same i4 s5
  have g4:=s5 _ _ g4
  generalize upd (upd (upd H4 u _) v _) z _=H5 at i1 g1 i2 g2 i3 g3 i4 g4 ⊢
  refine⟨_,O,_,O,_,O,_,O,(by show 4≤S';decide),fun q nq=>?_⟩
  have sq:=ae.new (o:=.lst [.ref x1,.ref x2,.ref x3,.ref x4]) nq
  have hq:upd H5 q (.lst [.ref x1,.ref x2,.ref x3,.ref x4]) q=_:=ag
  have al:∀ y∈[V.ref x1,.ref x2,.ref x3,.ref x4],∃ x:F',∃ i:Fin 12,∃ dx,y=.ref x∧Vo (upd H5 q (.lst [.ref x1,.ref x2,.ref x3,.ref x4])) x (eJ a i.val) (f' dx)∧Yl (upd H5 q (.lst [.ref x1,.ref x2,.ref x3,.ref x4])) (f' dx)∧UE K (.ref (eJ a i.val)) (.ref a.DrawError)=f' B':=by
   intro y hy
   simp only[RS,RD,Wu] at hy
   rcases hy with rfl|rfl|rfl|rfl
   .exact⟨x1,8,d1,O,Vo.same i1 sq,⟨_,sq _ _ g1⟩,T.Qmw⟩
   .exact⟨x2,9,d2,O,Vo.same i2 sq,⟨_,sq _ _ g2⟩,T.Qmx⟩
   .exact⟨x3,10,d3,O,Vo.same i3 sq,⟨_,sq _ _ g3⟩,T.Qmy⟩
   .exact⟨x4,11,d4,O,Vo.same i4 sq,⟨_,sq _ _ g4⟩,T.Qmz⟩
  generalize upd H5 q (.lst [.ref x1,.ref x2,.ref x3,.ref x4])=H6 at hq al ⊢
  refine⟨q,O,⟨_,P'.of hq⟩,iN (K:=K) (a:=q) (xs:=[.ref x1,.ref x2,.ref x3,.ref x4]) (fun k σ G=>∃ v5,σ=[f' (.int n),f' (.ref x1),f' (.ref x2),f' (.ref x3),f' (.ref x4),v5]∧ae H6 G) ⟨_,rfl,ae.refl _⟩ ?_ ?_ ?_⟩
  .rintro k σ G _ ⟨_,rfl,sg⟩
   exact P'.of (sg _ _ hq)
  .rintro j y σ G hy ⟨v5,rfl,sg⟩
   obtain⟨x,i,dx,rfl,ix,xd,kd⟩:=al y (Rp hy)
   have ix:=Vo.same ix sg
   have xd:=rn sg xd
   dsimp only[bL]
   refine⟨_,O,x,_,_,_,_,B',O,ix,xd,xis T i,(fun _ r=>r),kd,_,O,dP O ?_⟩
   refine⟨_,O,x,i,_,O,ix,xd,fun l G1 nX hl=>?_⟩
   refine⟨l,O,⟨_,P'.of hl⟩,fun D hD=>?_⟩
   refine Fb hl hD (by show 12≤100;decide) fun G2 mo ww=>?_
   refine⟨D,_,O,.inl (P'.of ww),O,_,O,?_⟩
   rw[Q3,QnE i]
   exact iL ⟨_,O,sg.trans (nX.trans mo)⟩
  .rintro σ G ⟨v5,rfl,_⟩
   exact k _
end
end Nt
section
open Nt
section
variable {K:R'}
def MA (K:R'):Sp:=fun vs H Q _=>∃ p,∃ ns:List Int,∃ k,vs=[.ref p,.int k]∧P' K H p (ns.map V.int)∧0≤k∧∀ c,Q (.int c) H
theorem LD (T:Tx K mg a):Vd P w K mg base U8 1 "_law_cell_at" ["_law_script","_law_k"] [] (MA K):=T.Qjl.U2 fun f fd F=>by
 refine F.ok NS (fun vs H Q E h=>?_) (fun ay A outer s H vs Q E hr h=>?_)
 .obtain⟨p,ns,k,rfl,_⟩:=h
  rfl
 .obtain⟨p,ns,k,rfl,hS,h0,q⟩:=h
  refine⟨_,(ao (aU (bf pD (pv 1) (bj eZ O T.VP dm (af (pv 0) ai)) (aZ _)) (ak (aN (aK bB (pv 0) (pv 1) (fun _ _=>O)))) aQ)
   (ak (aN au))),?_⟩
  refine⟨_,O,_,O,p,_,O,.inl hS,_,_,O,O,_,O,?_⟩
  refine bi (fun c=>?_) (fun c=>?_)
  .have h1:k<ns.length:=by
    have:=Rv c
    rwa [Q3] at this
   obtain⟨z,hz⟩:=QhQ h0 h1
   exact⟨_,O,_,O,p,_,_,_,O,O,hS,hz,q z⟩
  .exact q 0
theorem QnH:∀ i:Fin 12,VB ((row i.val++[B']).map V.bl) (i.val:Int)=f' (.bl B'):=by decide
theorem LK:∀ i:Fin 12,VB ((row i.val++[B']).map V.bl) (-1)=f' (.bl B'):=by decide
theorem Qq:∀ i:Fin 12,(row i.val++[B']).length≤100:=by decide
def Qel (K:R'):Sp:=fun vs H Q _=>∃ (p:F') (ns:List Int),vs=[.ref p]∧P' K H p (ns.map V.int)∧ns.length≤63∧∀ H',Q (.bl B') H'
theorem QnI (T:Tx K mg a) (Z:KD P w K a.LINES (fk a)) (f:F') (fd:WO) (F:gu K "law" "law" oU f fd):cE P w K mg base U8 16 f fd ["_law_script"] (Qel K):=by
 have bR:=LD (P:=P) (w:=w) (base:=base) T
 have fN:=Ld (P:=P) (w:=w) (base:=base) T Z
 have dY:=KZ (P:=P) (w:=w) (base:=base) T Z
 have fB:=OH (P:=P) (w:=w) (base:=base) T
 refine F.ok uR (fun vs H Q E h=>?_) (fun ay A outer s H vs Q E hr h=>?_)
 .obtain⟨p,ns,rfl,_⟩:=h
  rfl
 .obtain⟨p,ns,rfl,hS,av,kq⟩:=h
  refine⟨_,(ao (ei Wb O (rY O T.Zn (af au ai)) (aG (i:=1) uR.nd O (by first|exact UL rfl|exact UK O)) (ao (aW (i:=2) uR.nd O (by first|exact UL rfl|exact UK O) (bC fN (hr.mono (by decide)) rfl (af (pv 1) (af (br km (bC bR (hr.mono (by decide)) rfl (af (pv 0) (af (pv 1) ai))) (br Fh au au)) ai))))
   (ak (aU (PW.pt (ig (ko (uz (pv 2))) (ig (bf nN (bj eZ rfl T.VP dm (af (cF (N:=["_law_one"]) (cap:=[i']) O (cz (osc:=az oU) (XN:=["_law_script","_law_which","_law_found","_law_number"]) O O (by decide +kernel)) (bV (pv 2)) (fun cl C s H fp aa=>(aG (i:=0) (show(["_law_one"]:List C').Nodup by decide +kernel) rfl (by first|exact UL rfl|exact UK O))) (fun cl C s H fp aa=>xT (eG (pv 0))) (fun cl C s H fp aa=>(pv 0))) ai)) au (aZ _)) (ig (gi (eG (aK bB (pv 2) (pv 1) (fun _ _=>O)))) (kU (gi (eG (aK bB (pv 2) (QgX Qg0 au) (fun _ _=>O))))))))) (ak (aN nH)) aQ))))
   (ao (aW (i:=3) uR.nd O (by first|exact UL rfl|exact UK O) (br km (bC bR (hr.mono (by decide)) rfl (af (pv 0) (af au ai))) (br Fh au au)))
   (ak (aN (vd (bC dY (hr.mono (by decide)) rfl (af (pv 3) ai)) (sv (bC fB (hr.mono (by decide)) rfl (af (pv 3) ai)))))))),?_⟩
  refine⟨12,O,by decide,by decide,yg (lo:=0) (n:=12) (fun i σ G=>∃ v1 v2,σ=[f' (.ref p),v1,v2,i']∧ae H G) ⟨i',i',rfl,ae.refl _⟩ ?_ ?_⟩
  .rintro i σ G hi ⟨v1,v2,rfl,sg⟩
   dsimp only[bL]
   simp only[Int.zero_add]
   refine⟨_,O,_,O,_,O,p,ns,_,O,sg.Ve hS,Int.natCast_nonneg i,fun c=>?_⟩
   refine⟨_,_,O,O,⟨by decide,by decide,by decide⟩,_,_,O,O,(by show(0:Int)<10 ^ 9;decide),⟨i,hi⟩,_,O,SQ _ (by decide),Sv _ (by decide),fun l G1 nX hl=>?_⟩
   have kL:P' K G1 l _:=P'.of hl
   refine⟨_,O,_,O,dP O ?_⟩
   refine⟨_,O,l,O,⟨_,kL⟩,fun D hD=>Fb hl hD (Qq ⟨i,hi⟩) fun G2 mo ww=>?_⟩
   refine⟨D,_,O,.inl (P'.of ww),O,_,O,?_⟩
   rw[Q3,QnF ⟨i,hi⟩]
   refine dP O ?_
   have ja:=mo.Ve kL
   refine⟨_,O,_,O,l,_,_,_,O,O,ja,QnH ⟨i,hi⟩,_,O,dP O ?_⟩
   refine⟨_,O,_,O,l,_,_,_,O,O,ja,LK ⟨i,hi⟩,_,O,iL ?_⟩
   exact⟨_,_,O,sg.trans (nX.trans mo)⟩
  .rintro σ G ⟨v1,v2,rfl,sg⟩
   refine⟨_,O,p,ns,12,O,sg.Ve hS,by decide,fun c=>?_⟩
   refine⟨_,_,O,O,⟨by decide,by decide,by decide⟩,_,_,O,O,(by show(0:Int)<10 ^ 9;decide),?_⟩
   refine⟨_,O,_,O,SQ _ (by decide),Sv _ (by decide),fun H' s'=>?_⟩
   exact⟨B',O,eh ⟨_,O,_,O,fun A2=>kq _⟩⟩
end
end
theorem zng {K:R'}{n:Nat} (h:K.lookup p=f' ⟨.type "tuple",od,.seq #[] n,sl⟩):∀ H,UW K H p []:=fun _=>.inr ⟨_,_,_,h,O,O,(by show 0≤S';decide),.nil⟩
theorem znh {K:R'}{n:Nat} (h:K.lookup p=f' ⟨.type "tuple",od,.seq #[.int i0 t0] n,sl⟩):∀ H,UW K H p [.int i0]:=fun _=>.inr ⟨_,_,_,h,O,O,(by show 1≤S';decide),.cons ⟨_,O⟩ (.nil)⟩
theorem zjZ {K:R'}{n:Nat} (h:K.lookup p=f' ⟨.type "tuple",od,.seq #[.int i0 t0,.int i1 t1] n,sl⟩):∀ H,UW K H p [.int i0,.int i1]:=fun _=>.inr ⟨_,_,_,h,O,O,(by show 2≤S';decide),.cons ⟨_,O⟩ (.cons ⟨_,O⟩ (.nil))⟩
theorem ziq {K:R'}{n:Nat}{i2:F'} (h:K.lookup p=f' ⟨.type "tuple",od,.seq #[.int i0 t0,.int i1 t1,.ref i2] n,sl⟩):∀ H,UW K H p [.int i0,.int i1,.ref i2]:=fun _=>.inr ⟨_,_,_,h,O,O,(by show 3≤S';decide),.cons ⟨_,O⟩ (.cons ⟨_,O⟩ (.cons rfl (.nil)))⟩
theorem kd4_mk {pr:Vz}{K:R'}{ep:Nat}{k0:C'}{k1:C'}{k2:C'}{k3:C'} (h:K.lookup p=f' ⟨.type "dict",i',.dict #[⟨ZN w (UN k0),.str k0 t0,.ref p0⟩,⟨ZN w (UN k1),.str k1 t1,.ref p1⟩,⟨ZN w (UN k2),.str k2 t2,.ref p2⟩,⟨ZN w (UN k3),.str k3 t3,.ref p3⟩] ep,#[]⟩) (hs:(p == We)=K') (hn:[(UN k0:Key),(UN k1:Key),(UN k2:Key),(UN k3:Key)].Nodup):KD pr w K p [(UN k0,.ref p0),(UN k1,.ref p1),(UN k2,.ref p2),(UN k3,.ref p3)]:=by
 refine⟨hs,[(UN k0,.ref p0),(UN k1,.ref p1),(UN k2,.ref p2),(UN k3,.ref p3)],.cons ⟨O,O⟩ (.cons ⟨O,O⟩ (.cons ⟨O,O⟩ (.cons ⟨O,O⟩ (.nil)))),_,h,_,_,⟨O,O,O⟩,O,fun e he=>?_,.cons ki O (.cons ki O (.cons ki O (.cons ki O (.nil)))),hn⟩
 simp only[List.mem_toArray,RS,RD,Wu] at he
 rcases he with rfl|rfl|rfl|rfl <;> exact⟨_,ki,O⟩
theorem all_mk {l:Qbw}{K:R'}{h:U6}{fa f:F'}{TS:List F'}{q0 q1 q2 q3 q4 q5 q6 q7 q8 q9 Gi Ju Je Jn Go HR Hx IK IG xw Hl Bb Ir Ah Jq Ao Hi Bz:F'}{oc:L'}{an:Option F'}{eS:Array (Option L')}{kV ce pm ay ct:L'} (X:K.In h) (G:h.Ns VU mg) (JF:mg "law"=f' (.ref fa)) (gl0:YZ K VU "LINES"=f' (f' (.ref xw))) (kz0:KD l.prog w K xw [(UN "point",.ref Bb),(UN "arrow",.ref Ah),(UN "same",.ref Ao),(UN "most",.ref Bz)]) (T:Tx K mg ⟨q0,q1,q2,q3,q4,q5,q6,q7,q8,q9,Gi,Ju,Je,Jn,Go,HR,Hx,IK,IG,xw,Hl,Bb,Ir,Ah,Jq,Ao,Hi,Bz⟩) (al:YZ K VU "law"=f' (f' (.ref f))) (ll:K.lookup f=f' ⟨oc,od,.func (X2 "law" "law" oU kV ce pm an ay ct),eS⟩) (cl:XE K ay "law"=B') (hnd:([]:List F').Nodup) :
  ∃ (fd:WO) (ts:List Tab) (sp:Sp),(∀ (s:UG) (u:L'),Y9 s fd ⟨[u],[]⟩ [("_law_script",u)])∧(ts.map (·.1)).Nodup∧(∀ t∈ts,t.1∈TS∧(∃ c,Qae K c t.1=B')∧K.lookup t.1=i') ∧
    (∀ (H:Hp) (a:F') (ns:List Int),ns.length≤63→sB ts H→P' K H a (ns.map V.int)→sp [.ref a] H (fun v _=>v=.bl B') fun _ _ _=>False) ∧
    ∀ base:U6,K.In base→base.Ns VU mg→cE l.prog w K mg base U8 16 fa fd ["_law_script"] sp:=by
 have e:=JF.symm.trans (ZF X G al)
 cases e
 refine⟨_,[],Qel K,fun s v=>.of_eq O,hnd,?_,?_,fun base _ _=>QnI T kz0 _ _ (o8 (st:=oU) ll cl)⟩
 .intro t ht
  cases ht
 .exact fun H p ns hl hO hS=>⟨p,ns,O,hS,hl,fun _=>O⟩
theorem walk {l:Qbw}{q:Vz}{eE:List C'}{XP:(C'→Option L')→U6→Prop}{YP:Vw→U6→Prop}{d:DefRec}{K:Params→R'}{TS:List F'} (hn:l.most=f' 63) (lJ:d.params.defaults=[])
  (hY:∀ (w:Vw) (h:U6),YP w h→(K w.params).In h∧∀ P∈TS,h.get? P=f' (Qcy #[]))
  (F:∀ (w:Vw) (mg:C'→Option L') (fa:F') (h:U6),(K w.params).In h→h.Ns VU mg→mg d.name=f' (.ref fa)→∃ (fd:WO) (ts:List Tab) (sp:Sp),(∀ (s:UG) (u:L'),Y9 s fd ⟨[u],[]⟩ [("_law_script",u)])∧(ts.map (·.1)).Nodup∧(∀ t∈ts,t.1∈TS∧(∃ c,Qae (K w.params) c t.1=B')∧(K w.params).lookup t.1=i') ∧
    (∀ (H:Hp) (a:F') (ns:List Int),ns.length≤63→sB ts H→P' (K w.params) H a (ns.map V.int)→sp [.ref a] H (fun v _=>v=.bl B') fun _ _ _=>False) ∧
    ∀ base:U6,(K w.params).In base→base.Ns VU mg→cE l.prog w (K w.params) mg base U8 16 fa fd ["_law_script"] sp) :
  PySem.W.WalkO q eE XP YP l.row.toRowW d [] (fun f vs=>QcM f vs):=
 L2.znM (n:=63) (k:=16) (x:="_law_script") hn (by decide) lJ ⟨by decide,by decide⟩ hY F
end K07
namespace PySem.W.Fast
def tw6580236485648500431:=()
def tw2979225338422815498:=()
def tw14006759099445657787:=()
def tw8304889347245434663:=()
def tw18375932414857868552:=()
def tw15389366331973953862:=()
def tw2504450361627085764:=()
def tw13815391173166739917:=()
def tw8523012545523576399:=()
def tw266332566654083328:=()
def tw293025124925610258:=()
def tw11329609751578664270:=()
def tw8523188693984520048:=()
def tw8494895360325914386:=()
def tw12039578918030934449:=()
def tw10840057117203497403:=()
def tw6208099902938348282:=()
def tw7646985959406921702:=()
def tw49555616149114651:=()
def tw18302928148154286218:=()
def tw16504261636479920036:=()
def tw2405567122359418640:=()
def tw7099659863445342032:=()
def tw2835147223183070843:=()
def tw3807513198548435576:=()
def tw17035434965684344512:=()
def tw17763328604488211471:=()
def tw14847784270014469989:=()
def tw305015307671400902:=()
def tw4570083660188330264:=()
def tw5265823200245539399:=()
def tw10903612413911037777:=()
def tw4623829814710701490:=()
def tw11029379074010278858:=()
def tw1222953919414489531:=()
def tw8015733703483563324:=()
def tw5350027066607570798:=()
def tw4435881620838305124:=()
def tw5034807172203359546:=()
def tw8813893256791396689:=()
def tw10022226190065359177:=()
def tw12983560209040038240:=()
def tw2862139708076659851:=()
def tw5584518480563883690:=()
def tw11400949606479176186:=()
def tw12492522120786578826:=()
def tw4803480597399265078:=()
def tw17776429671601400916:=()
def tw8822165123636323326:=()
def tw7123090330526420945:=()
def tw2286900229953180324:=()
def tw12692624988955172146:=()
def tw11945847684767572283:=()
def tw3358421319923699433:=()
def tw953603262512852432:=()
def tw3529892241733411561:=()
def tw14575148963051807750:=()
def tw17344225940267747989:=()
def tw1831236905033049654:=()
def tw12905935864331166450:=()
def tw16096303379081133686:=()
def tw2522607338413745774:=()
def tw15222416294481345588:=()
def tw11251291769797299852:=()
def tw7755775929766922057:=()
def tw12926168214170249826:=()
def tw17913033751722056011:=()
def tw13828574348822263244:=()
def tw2955078286047703329:=()
def tw3561446068174036942:=()
def tw16509966008465790978:=()
def tw14520769201080787028:=()
def tw11809893699875058166:=()
def tw16595289636497161583:=()
def tw7352364037818128832:=()
def tw14598123685973867738:=()
def tw17469489262029258364:=()
def tw553172550759207584:=()
def tw2560716268235368734:=()
def tw5995304440300290811:=()
def tw3155997602933245831:=()
def tw6341438406477186261:=()
def tw12936255279585751203:=()
def tw11956675438734692413:=()
def tw16153640111755435033:=()
def tw16528593888427023979:=()
def tw17920781515507582400:=()
def tw9984150474772274816:=()
def tw4711592649879999874:=()
def tw7802570896914439035:=()
def tw3382891795829439618:=()
def tw18188717325062224495:=()
def tw8393624496297419152:=()
def tw1451797008309122800:=()
def tw12559731875932825064:=()
def tw14936466641778442238:=()
def tw17268783974961879711:=()
def tw17873530140241632972:=()
def tw16551462287566366924:=()
def tw7576857879945876889:=()
def tw13126975233560457017:=()
def tw3782694042663034751:=()
def tw2432957104844517515:=()
def tw17235120616782820601:=()
def tw16668128813979519923:=()
def tw14337310155197629877:=()
def tw14100388927168161461:=()
def tw8794149917101305471:=()
def tw10896647530615148569:=()
def tw392116744370486591:=()
def tw18249066914450145998:=()
def tw13795238733947751411:=()
def tw11426930394816904535:=()
def tw3553377737700331970:=()
def tw14209077872788970649:=()
def tw18193218108814719200:=()
def tw16220741514328648113:=()
def tw1615827235892753945:=()
def tw18164010442054306873:=()
def tw2079739805443774763:=()
def tw14196473446890792954:=()
def tw5206938764545871488:=()
def tw14946063967674948946:=()
end PySem.W.Fast
open PySem PySem.W PyProof.Rows
set_option maxRecDepth 100000 in
set_option maxHeartbeats 0 in
theorem PySem.Challenge.cw_layerdraw_k07_each_refusal_by_itself_holds : PySem.Challenge.rw_layerdraw_k07_each_refusal_by_itself.Holds := by
 w_on;o_law;k_head;(case hw=>w_witness2)
 k_fill
 refine K07.walk (l:=PySem.Challenge.rw_layerdraw_k07_each_refusal_by_itself) (TS:=[]) rfl rfl (fun w h Y=>⟨PySem.W.km_in_of Y,fun _ hP=>nomatch hP⟩) ?F
 case F=>
  intro w mg fa h KX G re
  refine' K07.all_mk KX G re ?gl0 ?kz0 ?T ?al ?ll ?cl ?hnd
  case gl0=>k_is
  case kz0=>(refine' K07.kd4_mk ?u0 ?u2 ?u3;(case u0=>k_is);(case u2=>first|k_is|kit_is|kernel_rfl|rfl);(case u3=>decide))
  case T=>
   constructor
   any_goals dsimp only
   any_goals first|k_is|kit_is|(refine' PySem.W.mg_of KX G ?_;k_is)|(refine' PySem.W.mg_none_of KX G ?_;k_is)|(refine' L2.int_mk KX G ?_;any_goals first|k_is|kit_is|kernel_rfl|rfl)|(refine' L2.str_mk KX G ?_;any_goals first|k_is|kit_is|kernel_rfl|rfl)|(unfold L2.zbj;k_is)|(refine' K07.zng ?u0;(case u0=>k_is))|(refine' K07.znh ?u0;(case u0=>k_is))|(refine' K07.zjZ ?u0;(case u0=>k_is))|(refine' K07.ziq ?u0;(case u0=>k_is))|((first|refine' L2.ziP ?u0 ?u1 ?u2 ?u3 ?u4 ?u5 .nil ?u7|refine' L2.ziP ?u0 ?u1 ?u2 ?u3 ?u4 ?u5 L2.vals1i ?u7|refine' L2.ziP ?u0 ?u1 ?u2 ?u3 ?u4 ?u5 L2.vals2i ?u7);(case u0=>k_is);(case u1=>first|k_is|kit_is|kernel_rfl|rfl);(case u2=>first|k_is|kit_is|kernel_rfl|rfl);(case u3=>first|k_is|kit_is|kernel_rfl|rfl);(case u4=>first|k_is|kit_is|kernel_rfl|rfl);(case u5=>first|k_is|kit_is|kernel_rfl|rfl);(case u7=>intro td s us KI hl;first|(have h9:us.length=2:=(by simpa using hl);clear hl;revert us;exact L2.len2 fun _ _=>PySem.W.binds_K KI rfl td rfl rfl rfl)|(have h9:us.length=3:=(by simpa using hl);clear hl;revert us;exact L2.len3 fun _ _ _=>PySem.W.binds_K KI rfl td rfl rfl rfl)|(have h9:us.length=4:=(by simpa using hl);clear hl;revert us;exact L2.len4 fun _ _ _ _=>PySem.W.binds_K KI rfl td rfl rfl rfl)|(have h9:us.length=5:=(by simpa using hl);clear hl;revert us;exact L2.len5 fun _ _ _ _ _=>PySem.W.binds_K KI rfl td rfl rfl rfl)))|((first|refine' L2.def_mk KX G ?_ ?_ ?_ ?_ ?_|refine' L2.met_mk ?_ ?_ ?_ ?_ ?_ ?_|refine' L2.ini_mk KX G ?_ ?_ ?_ ?_ ?_ ?_ ?_ ?_|refine' L2.zpV KX G ?_ ?_ ?_ ?_ ?_ ?_ ?_ ?_);any_goals (first|k_is|kit_is|kernel_rfl|exact L2.len1 fun _=>rfl|exact L2.len2 fun _ _=>rfl|exact L2.len3 fun _ _ _=>rfl|exact L2.len4 fun _ _ _ _=>rfl|exact L2.len5 fun _ _ _ _ _=>rfl);done)|(refine' L2.lam_mk KX G ?u0 ?u1 ?u2 ?u3 ?u4 ?u5 ?u6;(case u0=>first|k_is|kit_is|kernel_rfl|rfl);(case u1=>first|k_is|kit_is|kernel_rfl|rfl);(case u2=>rfl);(case u3=>first|k_is|kit_is|kernel_rfl|rfl);(case u4=>rfl);(case u5=>first|k_is|kit_is|kernel_rfl|rfl);(case u6=>first|k_is|kit_is|kernel_rfl|rfl))|(constructor <;> first|k_is|kit_is|kernel_rfl|rfl)
   any_goals first|(refine' K07.zng ?u0;(case u0=>k_is))|(refine' K07.znh ?u0;(case u0=>k_is))|(refine' K07.zjZ ?u0;(case u0=>k_is))|(refine' K07.ziq ?u0;(case u0=>k_is))
  any_goals first|k_is|kit_is|exact List.mem_cons_self|(simp;done)|decide
