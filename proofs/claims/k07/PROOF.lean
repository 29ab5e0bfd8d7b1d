import PyProof.Rows.All
import Wide.All
import OpenK.AllK
import Wide.FinOn
import Lean
import PyProof.EqAt
import PyProof.EqKinds
import PyProof.TupleCall
import PyProof.NeKinds
import PySem.Challenge.RW_layerdraw_k07_each_refusal_by_itself
set_option Elab.async false
set_option linter.all false
set_option maxRecDepth 100000
set_option maxHeartbeats 16000000
set_option genInjectivity false
set_option genSizeOf false
noncomputable section
theorem O.{u}{α:Sort u}{a:α}:a=a:=rfl
section
open PySem PySem.Spec PyProof.Rows
def mK:=@wpAny_bind
def Q9:=@List.length_map
def Ra:=@Heap.get?_push_of_some
def Rb:=@wpAny_pure
def Rc:=@Heap.lt_size
def Re:=@Nat.le_refl
def Rf:=@List.map_append
def Rh:=@sizeLine_eq
def Ri:=@Heap.get?_push_size
def Rj:=@Nat.ne_of_lt
def Rk:=@List.mem_cons_of_mem
def Rl:=@List.size_toArray
def Rm:=@List.getElem?_eq_getElem
def Rn:=@List.length_cons
def Ro:=@Heap.get?_update_other
def Rp:=@decide_eq_true
def Rq:=@Bool.false_ne_true
def Rr:=@List.getD_eq_getElem?_getD
def Rs:=@List.length_take
def Rt:=@Bool.and_eq_true
def Ru:=@List.length_append
def Rv:=@List.mem_of_getElem?
def Rw:=@Nat.lt_of_lt_of_le
def Rx:=@List.mem_cons_self
def Ry:=@decide_eq_false
def Rz:=@List.take_length
def RA:=@Int.toNat_natCast
def RB:=@of_decide_eq_true
def RC:=@Heap.get?_update_self
def RD:=@List.getElem?_map
def RE:=@Nat.lt_irrefl
def RF:=@List.mem_append_left
def RG:=@List.mem_append_right
def RH:=@wpAny_field
def RI:=@wpAny_holding
def RJ:=@List.not_mem_nil
def RL:=@Heap.size_push
def RM:=@of_decide_eq_false
def RN:=@wpAny_callSpecial?_slot
def RO:=@Nat.le_add_right
def RP:=@decide_eq_true_iff
def RQ:=@Nat.le_succ
def RS:=@List.map_cons
def RT:=@List.filter_cons
def RU:=@Nat.le_succ_of_le
def RV:=@Bool.false_eq_true
def RW:=@wpAny_mono
def RX:=@wpAny_Call_Name_kw
def RY:=@List.mem_cons
def RZ:=@Nat.le_trans
def R0:=@wpAny_seqItems
def R3:=@wpAny_call_entry
def R4:=@wpAny_loadPart_at
def R5:=@List.take_of_length_le
def R6:=@Nat.zero_le
def R7:=@List.length_replicate
def R8:=@Nat.lt_succ_of_lt
def R9:=@decide_eq_false_iff_not
def Sa:=@wpAny_attempt
def Sb:=@wpAny_isInstance
def Sc:=@List.lookup_cons
def Sd:=@wpAny_truthy_bool
def Sf:=@wpAny_setField
def Sg:=@Nat.le_of_lt
def Sh:=@Nat.ne_of_gt
def Si:=@Nat.lt_succ_self
def Sj:=@Nat.lt_of_le_of_lt
def Sk:=@List.all_eq_true
def Sl:=@wpAny_updateSeq
def Sm:=@Nat.not_lt_zero
def Sn:=@List.replicate_succ
def So:=@List.length_filter_le
def Sq:=@Bool.and_eq_false_iff
def Sr:=@wpAny_rule
def Ss:=@wpAny_call
def Su:=@Nat.lt_or_ge
def Sv:=@List.append_assoc
def Sw:=@Bool.not_eq_true'
def Sx:=@decide_eq_true_eq
def Sy:=@List.foldl_append
def Sz:=@Nat.toDigits_of_lt_base
def SA:=@List.nodup_nil
def SB:=@Int.emod_lt_of_pos
def SC:=@wpAny_passesOwn
def SD:=@List.append_nil
def SE:=@wpAny_standAt
def SG:=@wpAny_newObj_type
def SH:=@wpAny_pyIter_list
def SI:=@wpAny_letGo
def SJ:=@wpAny_tryCatch
def SK:=@List.take_zero
def SL:=@List.length_drop
def SM:=@wpAny_typeOf
def SN:=@Bool.or_true
def SO:=@Array.length_toList
def SQ:=@Int.eq_ofNat_of_zero_le
def SR:=@List.any_cons
def SS:=@Bool.eq_iff_iff
def SU:=@List.find?_cons
def SV:=@List.forIn_cons
def SW:=@Bool.or_eq_true
def SX:=@Int.emod_nonneg
def SY:=@wpAny_nextOf_list_item
def SZ:=@List.flatten_cons
def S0:=@List.length_range
def S1:=@Bool.and_false
def S3:=@Array.getElem?_toList
def S4:=@List.all_map
def S6:=@Nat.toDigits_append_toDigits
def S7:=@Option.bind_some
def S8:=@Nat.add_le_add_right
def S9:=@List.filterMap_cons
def Ta:=@wpAny_isSubtype_exc
def Tb:=@List.length_set
def Tc:=@List.getElem?_zip_eq_some
def Td:=@List.length_zip
def Te:=@Nat.le_of_eq
def Tf:=@wpAny_setField_rec
def Tg:=@Nat.eq_zero_or_pos
def Th:=@List.filter_append
def Tj:=@Bool.not_eq_false'
def Tl:=@List.getElem?_set_self
def Tn:=@List.range_succ_eq_map
def To:=@Array.getElem?_eq_none
def Tp:=@Int.le_refl
def Tq:=@List.all_cons
def Tr:=@Array.getElem?_setIfInBounds_ne
def Ts:=@List.getElem?_set_ne
def Tu:=@wpAny_execs_nil
def Tv:=@Option.map_some
def Tw:=@Nat.lt_trans
def Tz:=@wpAny_typeNameOfWhole_itemiter
def TB:=@Heap.get?_push_cases
def TC:=@Nat.min_eq_left
def TD:=@List.map_map
def TF:=@wpAny_typeNameOfWhole_keyiter
def TH:=@wpAny_handleBy_cons
def TK:=@List.getElem_of_mem
def TL:=@wpAny_loadPart
def TM:=@List.forIn_nil
def TN:=@wpAny_fieldsOf
def TQ:=@List.contains_cons
def TR:=@List.idxOf_lt_length_of_mem
def TU:=@List.getElem?_append_right
def TV:=@List.nodup_iff_pairwise_ne
def TW:=@Option.isSome_map
def TX:=@wpAny_Call_method
def TY:=@List.take_add_one
def TZ:=@List.getElem?_append_left
def T0:=@wpAny_check_type_call_sub
def T2:=@wpAny_typeNameOf_itemiter
def T3:=@Array.getElem?_eq_getElem
def T4:=@Nat.succ_le_succ
def T5:=@wpAny_comprehension_free
def T6:=@wpAny_typeNameOf_keyiter
def T7:=@wpAny_pyIter_zip
def T8:=@List.getElem_mem
def T9:=@Nat.zero_add
def Ua:=@Nat.min_le_right
def Ub:=@wpAny_pyNext_range_item
def Uc:=@List.getElem?_replicate
def Ud:=@wpAny_specialOf
def Ue:=@List.of_mem_zip
def Uf:=@wpAny_of_eq
def Ug:=@wpAny_pyNext_list_item
def Uh:=@wpAny_pyIter_rangeiter
def Ui:=@List.head?_eq_none_iff
def Uj:=@List.head?_eq_getElem?
def Uk:=@wpAny_isTrue_Compare1
def Ul:=@wpAny_pyIter_listiter
def Um:=@List.length_singleton
def Uo:=@wpAny_pyNext_zip_item
def Up:=@List.getElem?_eq_none
def Uq:=@wpAny_notOrdered_dict
def Ur:=@wpAny_check_new_subT
def Us:=@Nat.pow_le_pow_right
def Ut:=@Bool.false_or
def Uu:=@Bool.true_and
def Uv:=@wpAny_dictSet_pairs
def Uw:=@Array.toList_append
def Ux:=@List.map_eq_nil_iff
def Uy:=@wpAny_Constant_int
def Uz:=@wpAny_pyIter_range
def UA:=@List.map_nil
def UB:=@List.forIn_toArray
def UC:=@List.map_set
def UD:=@wpAny_assign_Name
def UE:=@Heap.Ns1.of_empty
def UF:=@wpAny_dictEntries
def UG:=@Nat.lt_of_succ_lt
def UH:=@wpAny_pyIter_enum
def UI:=@wpAny_Name
end
open Array renaming getElem?_eq_some_iff->Qck,toList->QfT
open Bool renaming true->B',false->K',and_eq_true->Qfr,or_false->QfR,not_true->QfS,true_or->Qf2
open Char renaming toNat->Xk
open False renaming elim->VR
open ForInStep renaming yield->Qa9
open Int.ofNat renaming inj->Qbh
open List renaming replicate->U5,mem_singleton->Vh,getElem?_eq_some_iff->VJ,range->VO,mem_append->We,mem_map->Wx,nodup_cons->XJ,mem_iff_getElem?->X',lookup->Y7,any_eq_true->Qak,foldl->Qan,length_eq_zero_iff->Qcm,drop->QcW,mem_filterMap->Qfk,nodup_append->Qfo,mem_flatMap->Qfq,range_succ->Qfy,nil_append->Qfz,mem_filter->QfA,length_nil->QfB,foldl_cons->QfC,filter_nil->QfD,sum_cons->QfP,map_drop->QfQ
open List.Pairwise renaming nil->Qop
open List.cons renaming inj->Qal
open Nat renaming toDigits->Wy,digitChar->ZM,not_lt->Qbs,strongRecOn->QcI,min_eq_right->Qfx,div_add_mod->QfK,succ_mul->Qgf,mul_comm->Qgg,add_comm->Qgh,mod_lt->Qgx
open Ne renaming symm->US
open Option renaming some->f',none->i',isSome_iff_exists->Xp,map_eq_some_iff->Zw,bind_eq_some_iff->QeR,getD_none->Qfj
open Option.some renaming inj->VL,injEq->QoQ
open Or renaming inr->UQ,inl->UR
open PyProof.Rows renaming AllBare->XW,envOfC->XY,Keyed->Yk,callWith_type1->Yt,slot_tuple_getitem->Y4,IsTup->Zh,IntsAre->Qay,Constant_none->Qbq,tDigits_len_ge->Qcf,subscriptTail->QcS,Subscript_->Qc2,len_join_cons->Qey,subscriptTail_builtinR->Qfn,entry_tuple_getitem->QfJ,args_tuple_getitem->QfO,slicePart_none->Qgw,kws_nil->QoH,kws_cons->QoI,digits10_le->QoJ,callWith_kw->QoK,callWith_builtin1->QoL
open PySem renaming Str->C',Addr->F',Value->L',wpAny->M',sizeLine->S',model->UJ,Shared->UM,Stmt->UY,starEach->U1,eval->U2,Expr->U3,Obj->U6,Heap->Vb,Program->Vv,rawInt->Vw,backTo->Vx,pyNext->Vz,World->VA,cLine->VB,Pos->VC,wpAny_bind->VE,Around->VX,mainGlobals->V1,Tok->V4,Env->V5,wpAny_pure->V7,argBest->V8,Sem->V9,bootBuiltins->Wb,field->Wc,sysModules->Wm,compareOp->Wp,codeAny->Wq,Flow->WM,FuncData->WV,IsPair->WW,Scope->WX,NameKind->W9,Builtin->W',keywordEach->Xj,backToKw->Xl,plainId_quiet->Xs,typeLookup->Xt,binaryOp->Xu,holding->Xv,getItem->Xw,stored->Xx,isSubtype_stop->XO,assignEach->XS,ZipApart->XU,IsPart->XX,IsZip->XZ,codeAny_builtin->Yb,attributeBase->Yc,call_meets->Ye,intItems->Yf,valueAt->Yg,Keyword->Yh,numAt->Yi,atKey->Yj,codeAny_mono->YA,isInstance->YC,updateSeq->YD,standAt->YE,assign->YF,bindL->YG,bindC->YH,behindInMarks->Y6,sliceBounds->Y8,IsRangeIter->Y9,builtinsNs->Y',tupleKind->Za,seqItems?->Zb,getMethod->Zc,callerA->Zd,BindsTo->Ze,Paired->Zf,Walks->Zg,mem_of_lookup->Zy,codeAny_call_builtin->Zz,tupleKind_room_in1->ZG,call_meetsIn->ZN,swapsWith->ZQ,getAttr?->ZR,isTrue->ZT,ExceptHandler->Qam,excClassObj->Qao,typeIs_str->Qap,seqIndex?->Qaq,noteFrame->Qar,PassesOwn->Qat,callWith->Qau,bindArgs->Qav,getAttr->Qaw,ItemsOf->Qax,slot_listiter_next->Qba,getattributeRaised->Qbb,wpAny_newObj_type->Qbd,foldedSetIterable->Qbe,letOwnedTupleGo->Qbl,am_miss_of_fast->Qbm,firstArgMember->Qbo,callType_codes->Qbp,wpAny_typeOf->Qbr,subscripted->Qbt,setFlight->Qbu,raiseStmt->Qbv,getAttrBy->Qbw,setField->Qbx,entryFor->Qby,Operator->Qbz,GenState->QbA,codeAny_handlers_test->Qcs,sub_AttributeError->QcC,Within->QcM,call->QcR,seqIndex_neg->QcT,wpAny_field->QcX,seqIndex_of->QcY,typeIs_int->QcZ,getAttrBy?->Qc0,PlainAttrs->Qc1,cellsFrom->Qc3,Arguments->Qc4,plainObj_wpAny_Assign_Attribute->QeJ,codeAny_call_builtin_code->Qe7,wpAny_callSpecial?_slot->Qfd,codeAny_call_builtin_at->Qfe,codeAny_handlers_suite->Qfl,unbindBehindTheSuite->Qfs,codeAny_exc_new_subT->Qft,entry_listiter_next->QfE,args_listiter_next->QfL,wpAny_sequenceKey->QfU,slot_list_getitem->QfV,wpAny_madeBy_exc->Qf3,wpAny_lookBehind->Qf4,wpAny_getItem_of->Qf5,wpAny_execs_cons->Qf6,wpAny_call_entry->Qf7,wpAny_Try_except->Qf8,pastItsLine_dict->Qf9,kt_code_dict_new->Qga,entryFor_of_tree->Qgb,callGetattribute->Qgc,wpAny_dictEpoch->Qgi,getAttrByItsOwn->Qgj,codeAny_of_tree->Qgk,wpAny_notIn_of->Qgo,recursionLimit->Qgp,fitsIndex_both->Qgq,entry_typeCall->Qgr,entryFor_alias->Qgs,boundAndCalled->Qgt,arm_exec_Raise->Qgu
open PySem.Around renaming under_plainId->Yu,under->QcK
open PySem.Builtin.Builtins renaming bindParams->Qet
open PySem.Builtin.Dict renaming updateFrom->QaZ,selfAndRest->QeA,pairItems->QeC
open PySem.Builtin.Dict_items renaming ownsTuple->Qes
open PySem.Builtin.List renaming listExtendWith->Ys,listTooLong->QaX,listSameRef->QaY,listItems->Qa0,listFitsIndex->Qcg,listUpdate->QeB,listLengthHint->QoG
open PySem.Builtin.Range renaming rangeFitsLong->Qev,rangeSize->Qez,small->QeG
open PySem.Builtin.Slice renaming slicePlaces->QaU,sliceAdjust->Qch,sliceApplied->Qex,slicePartIndex->Qon,sliceFields->Qoo
open PySem.Builtin.SmallTypes renaming nextOf->XH,ownedTupleIsFree->Zv
open PySem.Builtin.Str renaming occurrences->ZO,glued->QoP
open PySem.Builtin.Tuple renaming tupleExact->QaW,tupleItemsOf->Qew
open PySem.Calls renaming spliced_cons->Y2,spliced_nil->ZE,callWith_builtin->Qah,evalArgs_plain->Qa7,Name_function_global->Qcj,loadGlobal_global->QeY
open PySem.Challenge renaming pw_layerdraw_k07_each_refusal_by_itself->Qob
open PySem.CmpOp renaming NotIn->Qf1,In->Qgv
open PySem.Code renaming quiet_builtin->ZA,isFrame->QcO,frames->Qge
open PySem.EntryCells renaming newEntry->QeQ
open PySem.EqMixed renaming ne_str_int->Qof,ne_str_bool->Qog,ne_int_str->Qoh,ne_bool_str->Qoi,eq_str_int->Qoj,eq_str_bool->Qok,eq_int_str->Qol,eq_bool_str->Qom
open PySem.EqNone renaming ne_str_none->Qos,ne_none_str->Qot,ne_none_none->Qou,ne_none_int->Qov,ne_none_bool->Qow,ne_int_none->Qox,ne_bool_none->Qoy,eq_str_none->Qoz,eq_none_str->QoA,eq_none_none->QoB,eq_none_int->QoC,eq_none_bool->QoD,eq_int_none->QoE,eq_bool_none->QoF
open PySem.F renaming plainAttrs_list->Wa,slot_list_append->Wv,type_list_append->WE,plain_max_loop->Yw,slot_dict_get->Zx,slot_str_split->ZI,slot_zip_next->ZJ,excBase_ValueError->QaV,plainAttrs_dict->Qa1,slot_list_getattribute->Qa2,plainAttrs_str->Qa3,entry_dict_get->Qa4,slot_zip_getattribute->Qa5,entry_max_loop->Qbg,slot_dict_itemiterator_next->Qci,type_str_split->Qcl,plain_extend_loop->Qcy,slot_list_insert->QcA,args_str_split_2->QcB,entry_str_split->QcF,args_zip_next_1->QcG,entry_zip_next->QcH,slot_dict_itemiterator_iter->Qeu,excAttr_ValueError->QeD,slot_dict_getitem->QeF,type_list_insert->QeH,slot_str_ascii_iterator_next->QeI,slot_dict_items->QeK,args_dict_get_3->QeL,args_dict_get_2->QeM,slot_dict_keyiterator_next->QeP,type_dict_get->QeV,slot_dict_pop->QeW,entry_bexc_ga->QeX,slot_tuple_iterator_next->QeZ,slot_range_iterator_next->Qe0,args_bexc_ga->Qe1,slot_str_iterator_next->Qe6,slot_enumerate_next->Qfi,kt_typeCall_dict_1->Qfm,slot_list_extend->Qfu,args_list_init_2->Qfv,args_dict_init_2->Qfw,typeCall_list_1->QfG,entry_list_init->QfH,entry_dict_init->QfI,kt_called_dict->QfN,slot_list_pop->QfZ,slot_int_rmul->Qf0,called_list->Qgn
open PySem.Heap renaming ExtBut->Xi,SameBut->XR
open PySem.Heap.DictOf renaming new->Qcw
open PySem.Heap.IsSliceOf renaming new->Qoc
open PySem.Heap.SameBut renaming update->Xg,refl->Qor
open PySem.ItemsOf renaming nil->QfF
open PySem.Moved renaming trans->QcQ
open PySem.NameKind renaming free->Ww,cell->XQ
open PySem.Obj renaming mapSeq->Wl,mapFields->Xr,data_mapFields->ZC,isFreed_of_fields->Qa6,cls_mapFields->Qfp
open PySem.Paired renaming length->Qbk,snoc->QfM
open PySem.PassesOwn renaming never->Wj,leaving->Y3,looking->Qe3
open PySem.PassesOwnAt renaming leaving->QoO
open PySem.SeqAt renaming EqAt->X0,notIn_listAt->Qfc
open PySem.SeqAt.EqAt renaming of_refs->QcN,same->QcV,str_int->QeT,int_str->QeU,str_str->QoR,str_none->QoS,str_bool->QoT,none_str->QoU,none_int->QoV,none_bool->QoW,int_none->QoX,int_int->QoY,int_bool->QoZ,bool_str->Qo0,bool_none->Qo1,bool_int->Qo2,bool_bool->Qo3
open PySem.SeqAt.RcAt renaming lists_lengths->Qfh,tuples->Qgd,lists->Qgm
open PySem.Shared renaming TypeIs->Qbj
open PySem.Str renaming ofString->UO,empty->Vy,join->Qas,length->QcU,length_append->QeE,cps_append->QeO
open PySem.StrLaws renaming found_one->Qcv,glued_eq_join->QeS,join_split->Qe5
open PySem.Txt renaming split->V3,join->W8
open PySem.Value renaming ref->UW,none->Vq,bool->W7,int->XT,type->YB,str->ZP,builtin->Qbn,isStrOf->QcJ,float->QcP,isInt->QfX,bytes->QfY
open PySem.W renaming Frag->R',kitOne->UK,mroIn->Vn,findIn->V0,typeIn->Wk,keepIn->W5,kia_one->Xh,Looks->Xq,looks_findIn->XI,codeIn->XM,emptyDict->Ya,fnOf->Yd,callWith_K->Yv,instObj->Yx,InstAt->Yy,isFn->Yz,nsIn->Y5,hasDictIn->ZD,any_some->ZH,mg_of->ZL,looks_mroIn->Qai,codeHdIn->Qaj,plainGet->Qa8,takerIn->Qbc,lookIn->Qbf,clsIn->Qbi,OpenLaw->QbB,methodCall_KW->Qcn,plainGet_of->Qco,looks_clsIn->Qcp,callWith_K0->Qcq,check_slot->Qcr,specialIn->Qct,methodObj->Qcu,handedIn->Qcx,makesIn->Qcz,tabObj->QcD,notCls->QcE,cellsFrom_some->QeN,findObj_own->Qe2,looks_find->Qe4,set_plain->Qe8,plainOver->Qe9,kitx_list->Qfa,kitx_dict->Qfb,takesIn->Qff,findObj->Qfg
open PySem.W.KIN renaming signs_num->QoM,call_num->QoN
open PySem.W.Looks renaming here->Y1,of_pure->Qod,ld->Qoe
open PySem.W.WData renaming int->Qgl
open PySem.W.WShape renaming has->QfW
open PySem.Within renaming cons->Qoq
open Sum renaming inr->UT,inl->Va
open Sum.inl renaming inj->QcL
open Sum.inr renaming inj->W6
open True renaming intro->Wz
def UL:=@if_neg
def UN:=@if_pos
def UX:=@absurd
def VU:=@if_false
def Wo:=@beq_iff_eq
def WA:=@or_false
def WB:=@congrArg
def WL:=@if_true
def ZF:=@beq_eq_false_iff_ne
def ZK:=@beq_self_eq_true
namespace L2
variable {A:Around}{E:Value→Shared→Prop}{G:Prop}{P prog:Program}{Q:Option Value→Shared→Prop}{R:Result→Shared→Prop}{a b e it t:Addr}{cs:List Addr}{env:Env}{h h':Heap}{i:Nat}{pos:Pos}{s:Shared}{vs:Array Value}{w:World}
open PySem PySem.Spec PyProof.Rows
theorem Xy {α:Sort _}{a b:α→Prop} (k:∀ x,a x→b x→G):(∃ x,a x∧b x)→G:=fun⟨x,h1,h2⟩=>k x h1 h2
theorem ex4 {α β:Sort _}{a b:α→β→Prop} (k:∀ x y,a x y→b x y→G):(∃ x y,a x y∧b x y)→G:=fun⟨x,y,h1,h2⟩=>k x y h1 h2
theorem U7 {α β:Sort _}{a b c:α→β→Prop} (k:∀ x y,a x y→b x y→c x y→G):(∃ x y,a x y∧b x y∧c x y)→G:=fun⟨x,y,h1,h2,h3⟩=>k x y h1 h2 h3
theorem PQ:Qby table "proto.unchain"=f' W'.«proto.unchain»:=Qgb (by kernel_rfl)
def X1 (cs:List F') (j:Nat):L':=match cs[j]? with|none=>Vq|some b=>UW b
def Vi (h:Vb) (cs:List F'):Prop:=cs.Nodup∧∀ j a,cs[j]?=f' a→∃ o vs,h.get? a=f' o∧o.data=.fields vs∧vs[2]?=f' (X1 cs (j+1))
def Hd (A:VX) (h:Vb):Prop:=A.handled=i'∨∃ a cs,A.handled=f' (.ref a)∧Vi h (a::cs)
theorem Hd.keeps (x:Hd A h) (k:∀ b o,h.get? b=f' o→h'.get? b=f' o):Hd A h':=by
 rcases x with e|⟨a,cs,e,nd,c⟩
 .exact .inl e
 .refine .inr ⟨a,cs,e,nd,fun j b hb=>?_⟩
  obtain⟨o,vs,ho,r⟩:=c j b hb
  exact⟨o,vs,k b o ho,r⟩
theorem Hd.but {oi:U6} (x:Hd A h) (aZ:h.get? it=f' oi) (wj:∀ vs,oi.data=.fields vs→vs.size<3∨vs[2]?≠f' Vq∧∀ b,vs[2]?≠f' (.ref b)) (k:∀ b o,b≠it→h.get? b=f' o→h'.get? b=f' o):Hd A h':=by
 rcases x with e|⟨a,cs,e,nd,c⟩
 .exact .inl e
 .refine .inr ⟨a,cs,e,nd,fun j b hb=>?_⟩
  obtain⟨o,vs,ho,hd,h2⟩:=c j b hb
  refine⟨o,vs,k b o (fun z=>?_) ho,hd,h2⟩
  subst z
  rw[aZ] at ho
  cases ho
  rcases wj vs hd with q|⟨q1,q2⟩
  .have:=(Qck.mp h2).1
   lia
  .unfold X1 at h2
   cases hz:(a::cs)[j+1]? with
   | none=>rw[hz] at h2;exact q1 h2
   | some y=>rw[hz] at h2;exact q2 y h2
theorem LD (c:Vi s.heap cs) (he:e∉cs) (hR:R (.ok (.ret .none)) s):∀ (n j i:Nat) (o sl:F') (tg:Bool),cs.length-j=n→cs[j]?=f' o→cs[i]?=f' sl→i≤j →
  Wq (UJ prog w) A (.builtin "proto.unchain" ⟨[.ref e,.ref o,.ref sl,.bool tg],[]⟩) R s:=by
 intro n
 induction n with
 | zero=>
  intro j i o sl tg hn hj _ _
  have:=(VJ.mp hj).1
  lia
 | succ n ih=>
  intro j i o sl tg hn hj hi Q8
  obtain⟨oo,vs,ho,hd,h2⟩:=c.2 j o hj
  refine Yb PQ ?_
  unfold W'.«proto.unchain»
  refine mK (RH ho hd h2 ?_)
  cases hz:cs[j+1]? with
  | none=>
   simp only[X1,hz]
   rw[UN (by rfl)]
   refine mK (Rb (Rb ?_))
   exact hR
  | some b=>
   simp only[X1,hz]
   have hb:b∈cs:=Rv hz
   have kP:b≠e:=fun z=>he (z ▸ hb)
   have Gd:b≠sl:=fun z=>by
    subst z
    have e1:=VJ.mp hz
    have e2:=VJ.mp hi
    have lt:i<j+1:=by lia
    exact(List.pairwise_iff_getElem.mp c.1) i (j+1) e2.1 e1.1 lt (e2.2.trans e1.2.symm)
   rw[UL (by simp),UL (by simpa using kP),UL (by simpa using Gd)]
   have Jn:∃ b',cs[i+1]?=f' b':=by
    have e1:=(VJ.mp hz).1
    exact⟨_,Rm (by lia)⟩
   obtain⟨b',mG⟩:=Jn
   cases tg with
   | false=>
    rw[UL (by simp)]
    refine mK (Rb (Rb ?_))
    exact(⟨ZA _ (by decide +kernel),ih (j+1) i b sl B' (by lia) hz hi (by lia)⟩)
   | true=>
    rw[UN rfl]
    obtain⟨os,ws,kG,mC,fQ⟩:=c.2 i sl hi
    simp only[X1,mG] at fQ
    refine mK (RH kG mC fQ (Rb ?_))
    exact(⟨ZA _ (by decide +kernel),ih (j+1) (i+1) b b' K' (by lia) hz mG (by lia)⟩)
theorem um {α:Type}{oe:U6}{Q:α→UM→Prop} (hd:A.handled=i'∨∃ a cs,A.handled=f' (.ref a)∧Vi s.heap (a::cs)∧e∉a::cs) (he:s.heap.get? e=f' oe) (hf:oe.data=.fields vs) (h2:2<vs.size)
  (h:∀ h' o' iY,(∀ b o,b≠e→s.heap.get? b=f' o→h'.get? b=f' o)→h'.get? e=f' o'→o'.cls=oe.cls→o'.dict=oe.dict→o'.data=.fields iY→iY.size=vs.size→iY[1]?=vs[1]?→iY[2]?=(match A.handled with|none=>vs[2]?|some v=>f' v)→E (.ref e) {s with heap:=h'}) :
  M' (UJ prog w) A (raiseNew (.ref e):V9 α) Q E s:=by
 unfold raiseNew
 refine mK (wpAny_handled ?_)
 rcases hd with hn|⟨a,cs,ha,c,cB⟩
 .rw[hn]
  exact mK (Rb (wpAny_throw (h s.heap oe vs (fun _ _ _ q=>q) he O O hf O O (by rw[hn]))))
 .rw[ha]
  have JU:a≠e:=fun z=>cB (by simp[z])
  show M' _ _ (if (UW a != UW e)=B' then _ else _) _ _ s
  rw[UN (by simpa using JU)]
  refine mK (RI (wpAny_runValue (LD c cB ?_ _ 0 0 a a K' O O O (Re _))))
  have up:=ZC hf (·.setIfInBounds 2 (UW a))
  refine mK (show M' _ _ (Qbx (.ref e) 2 (.ref a)) _ _ s from Sf he hf h2 (wpAny_throw (h _ _ _ (fun b q hb hq=>(Ro _ _ (US hb)).trans hq) (RC _ he (Qa6 up)) (Qfp _ _) ?_ up (by simp) ?_ ?_)))
  .obtain⟨c1,d1,dt,sl⟩:=oe
   cases dt<;>rfl
  .rw[Tr (by decide)]
  .rw[ha];simp[h2]
theorem Vi.lt (c:Vi h cs):∀ b∈cs,b<h.objs.size:=fun b hb=>by
 obtain⟨j,hj⟩:=X'.mp hb
 obtain⟨o,_,ho,_⟩:=c.2 j b hj
 exact Rc ho
theorem Vi.mono (c:Vi h cs) (k:∀ b o,b∈cs→h.get? b=f' o→h'.get? b=f' o):Vi h' cs:=⟨c.1,fun j a hj=>by
 obtain⟨o,vs,ho,r⟩:=c.2 j a hj
 exact⟨o,vs,k a o (Rv hj) ho,r⟩⟩
theorem l9 {α:Type}{Q:α→UM→Prop} (hd:Hd A s.heap)
  (h:∀ h' e,(∀ b o,s.heap.get? b=f' o→h'.get? b=f' o)→(∃ o',h'.get? e=f' o'∧o'.cls=.type "StopIteration")→E (.ref e) {s with heap:=h'}) :
  M' (UJ prog w) A (newExc (.type "StopIteration") [] >>= fun e=>(raiseNew e:V9 α)) Q E s:=by
 refine mK ?_
 unfold newExc newTuple
 refine mK (SG ?_ (by size_fits))
 refine mK (m:=Qbo _ _) (Uf (a:=Vq) (by first|rfl|(simp only[Qbo];rfl)) (SG ?_ (by size_fits)))
 refine um ?_ (Ri _ O) O (by simp;lia) fun h' o' iY k' e' c' _ _ _ _ _=>
  h h' _ (fun b o q=>k' b o (Rj (by rw[RL];exact R8 (Rc q))) (Ra _ (Ra _ q))) ⟨o',e',c'⟩
 rcases hd with hn|⟨a,cs,ha,c⟩
 .exact .inl hn
 .refine .inr ⟨a,cs,ha,c.mono fun b o _ q=>Ra _ (Ra _ q),fun z=>?_⟩
  have:=c.lt _ z
  rw[RL] at this
  exact UX (Rw this (RQ _)) (RE _)
theorem C5 {l:F'} {items} (hd:Hd A s.heap) (aZ:s.heap.IsListIter it l i) (hl:s.heap.IsList l items) (hx:items[i]?=i')
  (hQ:∀ h',Xi it s.heap h'→Q i' {s with heap:=h'}):M' (UJ prog w) A (Vz (.ref it)) Q E s:=by
 obtain⟨o,ho,hc,aG⟩:=id aZ
 obtain⟨ol,qZ,_,nl,pN⟩:=hl
 unfold Vz
 refine mK (Sa (RN (name:=UO "__next__") aZ.typeIs Qba (R3 Qba aZ.typeIs QfE ?_ (QfL _))))
 refine(show M' _ _ (Wc (.ref it) 0 >>= _) _ _ s from mK (RH ho aG (x:=.ref l) O ?_))
 refine(show M' _ _ (if (UW l == Vq)=B' then _ else _) _ _ s from ?_)
 rw[UL (by simp)]
 refine(show M' _ _ (Wc (.ref it) 1 >>= _) _ _ s from mK (RH ho aG (x:=.int i 0) O ?_))
 refine(show M' _ _ (Zb (.ref l) >>= _) _ _ s from mK (R0 qZ pN ?_))
 simp only[RA,hx]
 refine mK (Sr (mK (Sf ho aG (by simp) ?_)))
 have sb:XR it s.heap (s.heap.update it (Xr (·.setIfInBounds 0 Vq))):=Xg ..
 refine l9 (A:=A.in1) (hd.but ho (fun vs q=>.inl (by rw[aG] at q;cases q;simp)) sb.extBut) fun h' e k' ⟨o',e',c'⟩=>?_
 exact mK (Sb (T:="StopIteration") (b:=B') ⟨o',e',c'⟩ XO (Rb (hQ h' fun b q hb hq=>k' b q (sb.extBut b q hb hq))))
theorem Fg {items} (hd:Hd A s.heap) (aZ:s.heap.IsTupleIter it t i) (ht:s.heap.IsTuple t items) (hx:items[i]?=i')
  (hQ:∀ h',Xi it s.heap h'→Q i' {s with heap:=h'}):M' (UJ prog w) A (Vz (.ref it)) Q E s:=by
 obtain⟨o,ho,hc,aG⟩:=id aZ
 obtain⟨ol,qZ,_,nl,pN⟩:=ht
 unfold Vz
 refine mK (Sa (RN (name:=UO "__next__") aZ.typeIs QeZ (R3 QeZ aZ.typeIs F.entry_tuple_iterator_next ?_ (F.args_tuple_iterator_next_1 _))))
 refine(show M' _ _ (Wc (.ref it) 0 >>= _) _ _ s from mK (RH ho aG (x:=.ref t) O ?_))
 refine(show M' _ _ (if (UW t == Vq)=B' then _ else _) _ _ s from ?_)
 rw[UL (by simp)]
 refine(show M' _ _ (Wc (.ref it) 1 >>= _) _ _ s from mK (RH ho aG (x:=.int i 0) O ?_))
 refine(show M' _ _ (Zb (.ref t) >>= _) _ _ s from mK (R0 qZ pN ?_))
 simp only[RA,hx]
 refine mK (Sr (mK (Sf ho aG (by simp) ?_)))
 have sb:XR it s.heap (s.heap.update it (Xr (·.setIfInBounds 0 Vq))):=Xg ..
 refine l9 (A:=A.in1) (hd.but ho (fun vs q=>.inl (by rw[aG] at q;cases q;simp)) sb.extBut) fun h' e k' ⟨o',e',c'⟩=>?_
 exact mK (Sb (T:="StopIteration") (b:=B') ⟨o',e',c'⟩ XO (Rb (hQ h' fun b q hb hq=>k' b q (sb.extBut b q hb hq))))
theorem Dx {x left step:Int} (hd:Hd A s.heap) (aZ:Y9 s.heap it x left step) (pJ:left≤0)
  (hQ:∀ h',Xi it s.heap h'→Q i' {s with heap:=h'}):M' (UJ prog w) A (Vz (.ref it)) Q E s:=by
 have hT:s.TypeIs (.ref it) "range_iterator":=⟨_,aZ,O⟩
 unfold Vz
 refine mK (Sa (RN (name:=UO "__next__") hT Qe0 (R3 Qe0 hT F.entry_range_iterator_next ?_ (F.args_range_iterator_next_1 _))))
 refine(show M' _ _ (Wc (.ref it) 0 >>= _) _ _ s from mK (RH aZ O (x:=Vw x) O ?_))
 refine(show M' _ _ (Wc (.ref it) 1 >>= _) _ _ s from mK (RH aZ O (x:=Vw left) O ?_))
 refine(show M' _ _ (Wc (.ref it) 2 >>= _) _ _ s from mK (RH aZ O (x:=Vw step) O ?_))
 refine(show M' _ _ (if left≤0 then _ else _) _ _ s from ?_)
 rw[UN pJ]
 refine mK (Sr (mK ?_))
 refine l9 (A:=A.in1) hd fun h' e k' ⟨o',e',c'⟩=>?_
 exact mK (Sb (T:="StopIteration") (b:=B') ⟨o',e',c'⟩ XO (Rb (hQ h' fun b q _ hq=>k' b q hq)))
theorem O3 {items:Array L'}{Q:List L'→UM→Prop} (hd:Hd A s.heap) (ht:Zh s.heap t items)
  (hQ:∀ h',Xi s.heap.objs.size s.heap h'→Q items.toList {s with heap:=h'}):M' (UJ prog w) A (unpackItems (.ref t) items.size i') Q E s:=by
 have b8:t≠s.heap.objs.size:=by obtain⟨o,ho,_⟩:=ht;exact Rj (Rc ho)
 unfold unpackItems
 refine mK ?_
 unfold notIterableAtAll
 refine mK (Ud ht.typeIs slot_tuple_iter.lookup (Rb ?_))
 simp only[RV,VU]
 refine mK (RI (iter_tuple ht (mK (RI (draw_tuple b8 items.size 0 _ _ ⟨_,Ri _ O,O,O⟩ (ht.push _) (by lia) fun h₁ vJ bQ=>?_)))))
 rw[show List.take items.size (QcW 0 items.toList)=items.toList by rw[List.drop_zero];exact R5 (by simp)]
 rw[UL (by simp)]
 have IP:Zh h₁ t items:=(ht.push _).extBut bQ.extBut b8
 have k₁:∀ b o,s.heap.get? b=f' o→h₁.get? b=f' o:=fun b o e=>bQ.extBut b o (Rj (Rc e)) (Ra _ e)
 refine mK (RI (Fg (hd.keeps k₁) vJ (show Vb.IsTuple h₁ t items from IP) (by simp) fun h₂ Iy=>?_))
 simp only[Option.isSome_none,RV,VU]
 exact Rb (hQ h₂ fun b o hb e=>Iy b o hb (k₁ b o e))
theorem M5 {kI:List U3} {x1}{items:Array L'}{Q:Unit→UM→Prop} (hd:Hd A s.heap) (ht:Zh s.heap t items) (hn:(XS kI env).length=items.size) (pM:(XS kI env).findIdx? (·.1)=i')
  (h:∀ h',Xi s.heap.objs.size s.heap h'→M' (UJ prog w) A (assignInOrder ((XS kI env).map (·.2)) items.toList) Q E {s with heap:=h'}):M' (UJ prog w) A (YF (.Tuple kI x1 pos) env (.ref t)) Q E s:=by
 rw[assign_Tuple]
 refine mK (SE ?_)
 unfold unpack
 rw[hn,pM]
 exact mK (RI (O3 hd ht h))
abbrev Key:=Sum Int C'
def ly:Key→L'→Bool
 | .inl k,v=>QfX k v
 | .inr x,v=>QcJ x v
def ZU (w:VA):Key→Int
 | .inl k=>hashInt k
 | .inr x=>hashStr w x
theorem ko:∀ {k:Key}{v:L'},ly k v=B'→(∃ i t,k=Va i∧v=XT i t)∨(∃ x t,k=UT x∧v=ZP x t)
 | .inl i,v,h=>by
  obtain⟨t,e⟩:=L'.isInt_shape (k:=i) (v:=v) h
  exact .inl ⟨i,t,O,e⟩
 | .inr x,v,h=>by
  obtain⟨t,e⟩:=L'.isStrOf_shape (x:=x) (v:=v) h
  exact .inr ⟨x,t,O,e⟩
theorem Qf (i:Int) (t:V4):ly (.inl i) (.int i t)=B':=by simp[ly,QfX]
theorem K1 (x:C') (t:V4):ly (.inr x) (.str x t)=B':=by simp[ly,QcJ]
theorem Qgy (a b:Int):decide ((Va a:Key)=Va b)=(a == b):=by
 by_cases e:a=b
 .subst e;simp
 .have h:¬ (Va a:Key)=Va b:=fun q=>e (QcL q)
  rw[Ry h]
  exact(ZF.mpr e).symm
theorem Qgz (a b:C'):decide ((UT a:Key)=UT b)=decide (a=b):=by
 by_cases e:a=b
 .subst e;simp
 .have h:¬ (UT a:Key)=UT b:=fun q=>e (W6 q)
  rw[Ry h,Ry e]
theorem QgA (a:Int) (b:C'):decide ((Va a:Key)=UT b)=K':=Ry (fun q=>nomatch q)
theorem QgB (a:C') (b:Int):decide ((UT a:Key)=Va b)=K':=Ry (fun q=>nomatch q)
def b9 (prog:Vv) (w:VA):PySem.KeyKind prog w Key where
 is:=ly
 hash:=ZU w
 inj:=fun v a b ha hb=>by
  rcases ko ha with⟨i,t,rfl,rfl⟩|⟨x,t,rfl,rfl⟩
  .rcases ko hb with⟨j,u,rfl,e⟩|⟨y,u,rfl,e⟩
   .injection e with e1 _;rw[e1]
   .exact nomatch e
  .rcases ko hb with⟨j,u,rfl,e⟩|⟨y,u,rfl,e⟩
   .exact nomatch e
   .injection e with e1 _;rw[e1]
 byValue:=fun k v h=>by
  rcases ko h with⟨i,t,rfl,rfl⟩|⟨x,t,rfl,rfl⟩<;>rfl
 pyHash:=fun hv h=>by
  rcases ko hv with⟨i,t,rfl,rfl⟩|⟨x,t,rfl,rfl⟩
  .exact wpAny_pyHash_int h
  .exact wpAny_pyHash_str h
 eqBool:=fun hu hv h=>by
  rcases ko hu with⟨i,t,rfl,rfl⟩|⟨x,t,rfl,rfl⟩
  .rcases ko hv with⟨j,u,rfl,rfl⟩|⟨y,u,rfl,rfl⟩
   .rw[Qgy] at h;exact wpAny_eqBool_int h
   .rw[QgA] at h;exact QeU i t y u _ _ _ _ h
  .rcases ko hv with⟨j,u,rfl,rfl⟩|⟨y,u,rfl,rfl⟩
   .rw[QgB] at h;exact QeT x t j u _ _ _ _ h
   .rw[Qgz] at h;exact wpAny_eqBool_str h
 «strs»:=fun k x t v h=>by
  rcases ko h with⟨i,u,rfl,e⟩|⟨y,u,rfl,e⟩
  .exact nomatch e
  .injection e with e1 _
   subst e1
   cases v<;>rfl
theorem K7 (prog:Vv) (w:VA) (i:Int) (t:V4):(b9 prog w).is (.inl i) (.int i t)=B':=Qf i t
theorem MI (prog:Vv) (w:VA) (x:C') (t:V4):(b9 prog w).is (.inr x) (.str x t)=B':=K1 x t
set_option genInjectivity true
inductive V where
 | UU | bl (b:Bool) | int (i:Int) | str (x:C') | byt (b:Array UInt8) | Yl (b:UInt64) | ref (a:F') | ty (n:String)
 deriving DecidableEq
set_option genInjectivity false
def aC:V→L'→Prop
 | .UU,u=>u=Vq
 | .bl b,u=>u=W7 b
 | .int i,u=>∃ t,u=XT i t
 | .str x,u=>∃ t,u=ZP x t
 | .byt b,u=>∃ t,u=QfY b t
 | .Yl b,u=>∃ t,u=QcP b t
 | .ref a,u=>u=UW a
 | .ty n,u=>u=YB n
abbrev aA:List V→List L'→Prop:=Zf aC
theorem aA.length {xs:List V}{us:List L'} (r:aA xs us):xs.length=us.length:=Qbk r
theorem aA.get:∀ {xs:List V}{us:List L'}{i:Nat}{x:V},aA xs us→xs[i]?=f' x→∃ u,us[i]?=f' u∧aC x u
 | _,_,_,_,.nil,e=>by simp at e
 | _,_,0,_,.cons r _,e=>by simp at e;subst e;exact⟨_,O,r⟩
 | _,_,i+1,x,.cons _ t,e=>by
  obtain⟨u,h1,h2⟩:=aA.get (i:=i) (x:=x) t (by simpa using e)
  exact⟨u,by simpa using h1,h2⟩
theorem aA.set {x:V}{u:L'} (r:aC x u):∀ {xs:List V}{us:List L'} (i:Nat),aA xs us→aA (xs.set i x) (us.set i u)
 | _,_,_,.nil=>.nil
 | _,_,0,.cons _ t=>.cons r t
 | _,_,i+1,.cons q t=>.cons q (aA.set r i t)
theorem aA.append:∀ {xs ys:List V}{us ws:List L'},aA xs us→aA ys ws→aA (xs++ys) (us++ws)
 | _,_,_,_,.nil,s=>s
 | _,_,_,_,.cons r t,s=>.cons r (aA.append t s)
theorem aA.take:∀ {xs:List V}{us:List L'} (n:Nat),aA xs us→aA (xs.take n) (us.take n)
 | _,_,0,_=>.nil
 | _,_,_+1,.nil=>.nil
 | _,_,n+1,.cons r t=>.cons r (aA.take n t)
theorem aA.drop:∀ {xs:List V}{us:List L'} (n:Nat),aA xs us→aA (xs.drop n) (us.drop n)
 | _,_,0,r=>r
 | _,_,_+1,.nil=>.nil
 | _,_,n+1,.cons _ t=>aA.drop n t
def ee:Option V→Option L'→Prop
 | some v,f' u=>aC v u
 | none,i'=>True
 | _,_=>False
def KV {κ:Type}:List (κ×V)→List (κ×L')→Prop:=Zf fun(p:κ×V) (q:κ×L')=>p.1=q.1∧aC p.2 q.2
def kV:Key→V
 | .inl i=>.int i
 | .inr x=>.str x
inductive HO where
 | lst (xs:List V)
 | tup (xs:List V)
 | dK (kvs:List (Key×V)) | dT (kvs:List (List Key×V))
 | set (S:Int→Bool) (n:Nat)
 | ins (C dx:F') (fs:List (C'×V))
 | own (x:F')
 | xd (fs:List (C'×V))
 | met (f x:F')
 | Xa (lo hi:Int)
 | UZ (o:U6) (u:HO)
 | WG (pos:VC) (qual:C')
 | ext (φ:Vb→Prop)
abbrev Hp:=F'→Option HO
def upd (H:Hp) (a:F') (o:HO):Hp:=fun b=>if b=a then f' o else H b
theorem ag {H:Hp}{o:HO}:upd H a o a=f' o:=by unfold upd;rw[UN rfl]
theorem aj {H:Hp}{o:HO} (h:b≠a):upd H a o b=H b:=by unfold upd;rw[UL h]
theorem bN {H:Hp}{o u:HO} (h:H a=f' o) (h':H b=f' u) (d:o≠u):a≠b:=by
 intro e;subst e;rw[h] at h';exact d (VL h')
theorem aq {H:Hp}{o:HO} (h:H a=f' o) (h':H b=i'):a≠b:=by
 intro e;subst e;rw[h] at h';cases h'
section
variable (P:Vv) (w:VA)
def cR (H:Hp) (h:Vb) (a:F'):HO→Prop
 | .lst xs=>xs.length≤S'∧∃ (ah:List L') (n:Nat),aA xs ah∧h.get? a=f' {cls:=.type "list",data:=.seq ah.toArray n}
 | .tup xs=>xs.length≤S'∧∃ ah:List L',aA xs ah∧Zh h a ah.toArray
 | .dK kvs=>kvs.length≤S'∧(a == Wm)=K'∧∃ vs,KV kvs vs∧h.DictOf (b9 P w) a vs
 | .dT kvs=>kvs.length≤S'∧(a == Wm)=K'∧∃ xs:List (List Key×F'×L'),
   Zf (fun(p:List Key×V) (q:List Key×F'×L')=>p.1=q.1∧H q.2.1=f' (.tup (p.1.map kV))∧aC p.2 q.2.2) kvs xs ∧
   ∃ o es ep,h.get? a=f' o∧o.ExactDict∧o.data=.dict es ep∧es.toList=xs.map (entryOfKey (Za (b9 P w)))∧(xs.map (·.1)).Nodup
 | .set S n=>h.SetOf (intKind P w) a S n
 | .ins C dx fs=>H dx=f' (.own a)∧fs.length≤1000∧dx≠a∧h.get? a=f' (Yx C dx) ∧
   ∃ mA,h.Ns1 dx mA∧(∀ f,ee (fs.lookup f) (mA f))∧QcM mA (fs.map (·.1))
 | .own _=>∃ o,h.get? a=f' o
 | .xd fs=>∃ mA,h.Ns1 a mA∧∀ f,ee (fs.lookup f) (mA f)
 | .Xa lo hi=>∃ t u v,h.get? a=f' {cls:=.type "range",data:=.fields #[.int lo t,.int hi u,.int 1 v]}
 | .UZ o u=>h.get? a=f' o∧cR H h a u
 | .WG pos qual=>h.get? a=f' {cls:=.none,data:=.fields #[]}∨∃ c oc vs t,H c=f' (.UZ oc (.own a))∧oc.data=.fields vs∧vs[1]?=f' (.str qual t)∧h.get? a=f' {cls:=.none,data:=.fields #[Vw pos.line,Vw pos.col,.ref c]}
 | .met f x=>h.get? a=f' (Qcu (.ref f) (.ref x))
 | .ext φ=>φ h∧(∃ o,h.get? a=f' o)∧∀ h1 h2:Vb,φ h1→(∀ o,h1.get? a=f' o→h2.get? a=f' o)→φ h2
def VD (H:Hp) (h:Vb):Prop:=∀ a o,H a=f' o→cR P w H h a o
end
section
variable {H H':Hp}{o:HO}
theorem cR.lt (x:cR P w H h a o):a<h.objs.size:=by
 cases o with
 | lst xs=>obtain⟨_,_,_,_,e⟩:=x;exact Rc e
 | tup xs=>obtain⟨_,_,_,p⟩:=x;exact p.lt
 | dK kvs=>obtain⟨_,_,_,_,o,_,_,e,_⟩:=x;exact Rc e
 | dT kvs=>obtain⟨_,_,_,_,o,_,_,e,_⟩:=x;exact Rc e
 | set S n=>obtain⟨o,_,_,_,e,_⟩:=x;exact Rc e
 | ins C dx fs=>obtain⟨_,_,_,e,_⟩:=x;exact Rc e
 | own y=>obtain⟨_,e⟩:=x;exact Rc e
 | xd fs=>obtain⟨_,⟨_,_,_,e,_⟩,_⟩:=x;exact Rc e
 | Xa lo hi=>obtain⟨_,_,_,e⟩:=x;exact Rc e
 | UZ ob u=>obtain⟨e,_⟩:=x;exact Rc e
 | WG pos qual=>
  rcases x with e|⟨_,_,_,_,_,_,_,e⟩
  .exact Rc e
  .exact Rc e
 | met f y=>exact Rc (show h.get? a=f' _ from x)
 | ext φ=>obtain⟨_,⟨_,e⟩,_⟩:=x;exact Rc e
theorem Paired.QbC {α β:Type}{F G:α→β→Prop}:∀ {l₁:List α}{l₂:List β},Zf F l₁ l₂→(∀ a b,F a b→G a b)→Zf G l₁ l₂
 | _,_,.nil,_=>.nil
 | _,_,.cons r t,f=>.cons (f _ _ r) (Paired.QbC t f)
theorem cR.WY (x:cR P w H h a o) (k:∀ b u,(b=a∨H b=f' (.own a))→h.get? b=f' u→h'.get? b=f' u)
  (ho:∀ b,H b=f' (.own a)→H' b=f' (.own a)) (ht:∀ b xs,H b=f' (.tup xs)→H' b=f' (.tup xs)) (hf:∀ b ob,H b=f' (.UZ ob (.own a))→H' b=f' (.UZ ob (.own a)):=by exact fun _ _ q=>q):cR P w H' h' a o:=by
 induction o with
 | lst xs=>obtain⟨z,ah,n,r,e⟩:=x;exact⟨z,ah,n,r,k _ _ (.inl O) e⟩
 | tup xs=>obtain⟨z,ah,r,ob,e,c⟩:=x;exact⟨z,ah,r,ob,k _ _ (.inl O) e,c⟩
 | dK kvs=>obtain⟨z,y,vs,r,ob,es,ep,e,c⟩:=x;exact⟨z,y,vs,r,ob,es,ep,k _ _ (.inl O) e,c⟩
 | dT kvs=>
  obtain⟨z,y,xs,r,ob,es,ep,e,c⟩:=x
  exact⟨z,y,xs,Paired.QbC r fun p q z=>⟨z.1,ht _ _ z.2.1,z.2.2⟩,ob,es,ep,k _ _ (.inl O) e,c⟩
 | set S n=>obtain⟨ob,es,ep,t,e,c⟩:=x;exact⟨ob,es,ep,t,k _ _ (.inl O) e,c⟩
 | ins C dx fs=>
  obtain⟨d,z,ne,e,mA,⟨od,es,ep,e2,c⟩,r⟩:=x
  exact⟨ho _ d,z,ne,k _ _ (.inl O) e,mA,⟨od,es,ep,k _ _ (.inr d) e2,c⟩,r⟩
 | own y=>obtain⟨ob,e⟩:=x;exact⟨ob,k _ _ (.inl O) e⟩
 | xd fs=>obtain⟨mA,⟨od,es,ep,e,c⟩,r⟩:=x;exact⟨mA,⟨od,es,ep,k _ _ (.inl O) e,c⟩,r⟩
 | Xa lo hi=>obtain⟨t,u,v,e⟩:=x;exact⟨t,u,v,k _ _ (.inl O) e⟩
 | UZ ob u ih=>obtain⟨e,q⟩:=x;exact⟨k _ _ (.inl O) e,ih q⟩
 | WG pos qual=>
  rcases x with e|⟨c,oc,vs,t,e1,e2,e3,e⟩
  .exact .inl (k a _ (.inl O) e)
  .exact .inr ⟨c,oc,vs,t,hf c oc e1,e2,e3,k a _ (.inl O) e⟩
 | met f y=>
  have e:h.get? a=f' (Qcu (.ref f) (.ref y)):=x
  show h'.get? a=f' (Qcu (.ref f) (.ref y))
  exact k a _ (.inl O) e
 | ext φ=>obtain⟨p,⟨o,e⟩,st⟩:=x;exact⟨st _ _ p fun o q=>k _ _ (.inl O) q,⟨o,k _ _ (.inl O) e⟩,st⟩
theorem VD.lt (x:VD P w H h) (e:H a=f' o):a<h.objs.size:=(x a o e).lt
theorem VD.fresh (x:VD P w H h) (e:h.objs.size≤a):H a=i':=by
 cases q:H a with
 | none=>rfl
 | some u=>exact UX (Rw (x.lt q) e) (RE _)
theorem VD.kept (x:VD P w H h) (k:∀ b u,h.get? b=f' u→h'.get? b=f' u):VD P w H h':=fun a o e=>
 (x a o e).WY (fun b u _ q=>k b u q) (fun _ q=>q) fun _ _ q=>q
theorem VD.laid (x:VD P w H h) (k:∀ b u,h.get? b=f' u→h'.get? b=f' u) (hp:h.objs.size≤a) (new:cR P w (upd H a o) h' a o):VD P w (upd H a o) h':=fun b u e=>by
 have hn:=x.fresh hp
 by_cases hb:b=a
 .subst hb;rw[ag] at e;cases e;exact new
 .rw[aj hb] at e
  exact(x b u e).WY (fun c v _ q=>k c v q) (fun c q=>by rw[aj (aq q hn)];exact q) (fun c xs q=>by rw[aj (aq q hn)];exact q) fun c ob q=>by rw[aj (aq q hn)];exact q
end
def Rd (H:Hp) (a:F') (u:HO):Prop:=H a=f' u∨∃ o,H a=f' (.UZ o u)
variable {H H':Hp}{M:Model}{N:List C'}{Q:L'→UM→Prop}{aa:List (F'×U6)}{c e:U3}{ch:List F'}{d':Drawn}{g':Array QbA}{o ob:U6}{op:CmpOp}{s':UM}{t':Nat}{u:L'}{v:V}{x:C'}
theorem Rd.ok {u:HO} (r:Rd H a u) (x:VD P w H h):cR P w H h a u:=by
 rcases r with r|⟨o,r⟩
 .exact x a u r
 .obtain⟨_,q⟩:=x a _ r
  exact q
def ZV:Option HO→Prop
 | some (.lst _)=>True
 | some (.dK _)=>True
 | some (.dT _)=>True
 | some (.set _ _)=>True
 | some (.ins _ _ _)=>True
 | some (.ext _)=>True
 | _=>False
section
variable {x e:F'}{o':HO}
theorem VD.write (ok:VD P w H h) (mu:ZV (H x)) (he:e=x∨H e=f' (.own x)) (k:∀ b u,b≠e→h.get? b=f' u→h'.get? b=f' u) (nZ:∃ u,h'.get? e=f' u)
  (new:cR P w (upd H x o') h' x o'):VD P w (upd H x o') h':=fun b u q=>by
 have qR:∀ c y,H c=f' (.own y)→c≠x:=fun c y r z=>by subst z;rw[r] at mu;exact mu
 have xq:∀ c xs,H c=f' (.tup xs)→c≠x:=fun c xs r z=>by subst z;rw[r] at mu;exact mu
 by_cases hb:b=x
 .subst hb;rw[ag] at q;cases q;exact new
 .rw[aj hb] at q
  by_cases kP:b=e
  .have q':H b=f' (.own x):=by
    rcases he with z|z
    .exact UX (kP.trans z) hb
    .rw[kP];exact z
   rw[q] at q';cases q'
   obtain⟨v,hv⟩:=nZ
   exact⟨v,by rw[kP];exact hv⟩
  .refine(ok b u q).WY (fun c v hc r=>k c v ?_ r) (fun c r=>by rw[aj (qR c b r)];exact r) (fun c xs r=>by rw[aj (xq c xs r)];exact r) fun c ob r=>by rw[aj (fun z=>by subst z;rw[r] at mu;exact mu)];exact r
   rcases hc with rfl|hc
   .exact kP
   .rintro rfl
    rcases he with z|z
    .exact qR c b hc z
    .rw[hc] at z;cases z;exact hb rfl
end
structure Un (fs ex:List F') (H H':Hp) (h h':Vb):Prop where
 keep:∀ b o,h.get? b=f' o→H b=i'→b∉fs→b∉ex→h'.get? b=f' o
 slot:∀ b o,h.get? b=f' o→H b=i'→b∈fs→b∉ex→∃ sl,h'.get? b=f' {o with slots:=sl}
 free:∀ b o,h.get? b=f' o→H b=i'→b∉ex→H' b=i'
 there:∀ b o,h.get? b=f' o→b∉ex→∃ o',h'.get? b=f' o'
 WZ:∀ b xs,H b=f' (.tup xs)→H' b=f' (.tup xs)
 WC:∀ b o u,H b=f' (.UZ o u)→H' b=f' (.UZ o u)
 WN:∀ b p q,H b=f' (.WG p q)→H' b=f' (.WG p q)
section
variable {fs HE ex BU:List F'}{H1 H2:Hp}{h1 h2:Vb}{x e:F'}{o:HO}
theorem Un.any (u:Un fs ex H H1 h h1) (q:h.get? b=f' ob) (n:H b=i') (hx:b∉ex):∃ sl,h1.get? b=f' {ob with slots:=sl}:=by
 by_cases hb:b∈fs
 .exact u.slot b ob q n hb hx
 .exact⟨ob.slots,u.keep b ob q n hb hx⟩
theorem Un.trans (a:Un fs ex H H1 h h1) (b:Un fs ex H1 H2 h1 h2):Un fs ex H H2 h h2 where
 keep:=fun c ob q n hc hx=>b.keep c ob (a.keep c ob q n hc hx) (a.free c ob q n hx) hc hx
 slot:=fun c ob q n hc hx=>by
  obtain⟨sl,e1⟩:=a.slot c ob q n hc hx
  obtain⟨vz,e2⟩:=b.slot c _ e1 (a.free c ob q n hx) hc hx
  exact⟨vz,e2⟩
 free:=fun c ob q n hx=>by
  obtain⟨o',e1⟩:=a.there c ob q hx
  exact b.free c o' e1 (a.free c ob q n hx) hx
 there:=fun c ob q hx=>by
  obtain⟨o',e1⟩:=a.there c ob q hx
  exact b.there c o' e1 hx
 WZ:=fun c xs q=>b.WZ c xs (a.WZ c xs q)
 WC:=fun c ob xs q=>b.WC c ob xs (a.WC c ob xs q)
 WN:=fun c p q z=>b.WN c p q (a.WN c p q z)
theorem Un.kept (k:∀ b u,h.get? b=f' u→h'.get? b=f' u):Un fs ex H H h h':=
 ⟨fun b ob q _ _ _=>k b ob q,fun b ob q _ _ _=>⟨ob.slots,k b ob q⟩,fun _ _ _ n _=>n,fun b ob q _=>⟨ob,k b ob q⟩,fun _ _ q=>q,fun _ _ _ q=>q,fun _ _ _ q=>q⟩
theorem Un.refl:Un fs ex H H h h:=Un.kept fun _ _ q=>q
theorem Un.laid (k:∀ b u,h.get? b=f' u→h'.get? b=f' u) (hp:h.objs.size≤a) (hn:H a=i'):Un fs ex H (upd H a o) h h' where
 keep:=fun b u q _ _ _=>k b u q
 slot:=fun b u q _ _ _=>⟨u.slots,k b u q⟩
 free:=fun b u q n _=>by rw[aj (Rj (Rw (Rc q) hp))];exact n
 there:=fun b u q _=>⟨u,k b u q⟩
 WZ:=fun b xs q=>by rw[aj (aq q hn)];exact q
 WC:=fun b u xs q=>by rw[aj (aq q hn)];exact q
 WN:=fun b p r q=>by rw[aj (aq q hn)];exact q
theorem Un.write (mu:ZV (H x)) (he:e=x∨H e=f' (.own x)) (k:∀ b u,b≠e→h.get? b=f' u→h'.get? b=f' u) (nZ:∃ u,h'.get? e=f' u):Un fs ex H (upd H x o) h h':=by
 have hx:∀ b,H b=i'→b≠x:=fun b n z=>by subst z;rw[n] at mu;exact mu
 have hb:∀ b,H b=i'→b≠e:=fun b n z=>by
  subst z
  rcases he with r|r
  .exact hx b n r
  .rw[n] at r;cases r
 have hm:∀ b u,H b=f' u→¬ ZV (f' u)→b≠x:=fun b u q nm z=>by subst z;rw[q] at mu;exact nm mu
 refine⟨fun b u q n _ _=>k b u (hb b n) q,fun b u q n _ _=>⟨u.slots,k b u (hb b n) q⟩,fun b u q n _=>by rw[aj (hx b n)];exact n,fun b u q _=>?_,
  fun b xs q=>by rw[aj (hm b _ q fun z=>z)];exact q,fun b u xs q=>by rw[aj (hm b _ q fun z=>z)];exact q,fun b p r q=>by rw[aj (hm b _ q fun z=>z)];exact q⟩
 by_cases kP:b=e
 .subst kP;exact nZ
 .exact⟨u,k b u kP q⟩
end
def trk (h:Vb) (H:Hp):List F':=(VO h.objs.size).filter fun a=>(H a).isSome
def me (h:Vb) (H:Hp):Vb:=PySem.W.hideAll h (trk h H)
theorem Ov (h:Vb) (H:Hp):(me h H).objs.size=h.objs.size:=PySem.W.hideAll_size _ _
theorem yf (e:h.get? b=f' o) (n:H b=i'):(me h H).get? b=f' o:=
 PySem.W.hideAll_get _ e fun hm=>by
  have q:(H b).isSome=B':=(QfA.mp hm).2
  rw[n] at q;simp at q
theorem N6 (e:(me h H).get? b=f' o):h.get? b=f' o∧H b=i':=by
 have e':h.get? b=f' o:=PySem.W.of_hideAll (trk h H) e
 refine⟨e',?_⟩
 cases q:H b with
 | none=>rfl
 | some x=>
  have hm:b∈trk h H:=QfA.mpr ⟨List.mem_range.mpr (Rc e'),by simp[q]⟩
  have z:(me h H).get? b=i':=PySem.W.hideAll_none (trk h H) hm
  rw[z] at e;cases e
def PP (g h:Vb) (L:F'):List (F'×U6):=(VO h.objs.size).filterMap fun a=>if a=L∨(g.get? a).isSome=B' then i' else(h.get? a).map fun o=>(a,o)
def a7 (g h:Vb) (L d:F'):List (F'×U6):=(PP g h L).filter fun p=>decide (p.1≠d)
structure Mod (K:R') (mg:C'→Option L') (base:Vb):Prop where
 Xb:K.In base
 glob:base.Ns V1 mg
 blt:∃ mb,base.Ns Y' mb∧∀ x:C',x≠"__name__"→mb x=Wb x
 nolimit:base.NoLimit
 bmain:∃ bm ob,mg "__builtins__"=f' (.ref bm)∧bm≠Y'∧base.get? bm=f' ob∧ob.cls=.type "module"∧ob.dict=f' Y'∧ob.data=.plain
structure Cx where
 prog:Vv
 w:VA
 K:R'
 mg:C'→Option L'
 base:Vb
 A:VX
 N:List C'
 s₀:UM
 H₀:Hp
 env:V5
 outer:List V5
 stack:List V5
 ex:List F'
 fn:C'→Bool
 calm:Bool
 pn:List (F'×U6)
 xe:L'→UM→Prop
def VG (l:List V5):List F':=l.filterMap (·.frame)
abbrev Cx.fs (X:Cx):List F':=VG X.outer
def Vis (sc:WX) (x:C'):Prop:=sc.names.lookup x=f' .local∨sc.names.lookup x=f' .cell∨sc.names.lookup x=f' .free
def Loc (sc:WX) (x:C'):Prop:=sc.names.lookup x=f' .local∨sc.names.lookup x=f' .cell
def Look (env:V5) (h:Vb) (m:C'→Option L') (x:C') (u:L'):Prop:=
 (env.kindOf x=f' .local∧m x=f' u)∨((env.kindOf x=f' .cell∨env.kindOf x=f' .free)∧∃ c,env.cells.lookup x=f' c∧h.IsCell c (f' u))
def jC (H:Hp) (cs:List F'):Prop:=cs.Nodup∧∀ j a,cs[j]?=f' a→∃ o u vs,H a=f' (.UZ o u)∧o.data=.fields vs∧vs[2]?=f' (X1 cs (j+1))
def jB (A:VX) (H:Hp):Prop:=A.handled=i'∨∃ a cs,A.handled=f' (.ref a)∧jC H (a::cs)
structure Cx.Ok (X:Cx):Prop where
 mod:Mod X.K X.mg X.base
 kind:X.env.scope.kind=.function
 glob:X.env.globals=V1
 blt:X.env.builtins=Y'
 above:X.s₀.heap.objs.size≤X.env.locals
 inj:∀ x y c,X.env.cells.lookup x=f' c→X.env.cells.lookup y=f' c→x=y
 has:∀ x,(X.env.kindOf x=f' .cell∨X.env.kindOf x=f' .free)→∃ c,X.env.cells.lookup x=f' c
 YI:∀ x c,X.fn x=B'→X.env.cells.lookup x=f' c→X.s₀.heap.objs.size≤c
 hd:jB X.A X.H₀
 frames:X.A.frames=f' X.stack
 YJ:X.stack=X.outer∨(X.stack=X.env::X.outer∧X.env.frame=f' X.env.locals)
 ZW:∀ b∈X.ex,b≠X.env.locals∧∀ x c,X.env.cells.lookup x=f' c→c≠b
 bs:∀ b o,X.base.get? b=f' o→X.s₀.heap.get? b=f' o∧X.H₀ b=i'
 Xm:X.base.objs.size≤X.s₀.heap.objs.size
 Ym:∀ b o,X.base.get? b=f' o→b∉X.ex
 YK:∀ b∈X.ex,b∉X.fs
 WH:X.s₀.heap.FunFrames X.base X.outer
 Xz:∀ b∈X.fs,X.H₀ b=i'
structure Inv (X:Cx) (aa:List (F'×U6)) (σ:List (Option V)) (H:Hp) (s:UM):Prop where
 ok:X.Ok
 os:s.os=X.s₀.os
 bare:XW s.gens
 base:Un X.fs X.ex X.H₀ H X.s₀.heap s.heap
 loc:∃ m,s.heap.Ns X.env.locals m∧∀ (i:Nat) (x:C') (v:V),X.N[i]?=f' x→σ[i]?=f' (f' v)→Vis X.env.scope x→∃ u,aC v u∧Look X.env s.heap m x u
 cell:∀ x c,X.env.cells.lookup x=f' c→∃ v,s.heap.IsCell c v
 free:H X.env.locals=i'
 V6:∀ x c,X.env.cells.lookup x=f' c→H c=i'
 pin:∀ p∈X.pn++aa,s.heap.get? p.1=f' p.2∧H p.1=i'∧p.1≠X.env.locals∧p.1∉X.fs∧∀ v,p.2.data≠.cell v
 UP:VD X.prog X.w H s.heap
 len:σ.length=X.N.length
section
variable {X:Cx}{σ:List (Option V)}
theorem Cx.Ok.QgC (ok:X.Ok) (e:X.base.get? b=f' o):b∉X.fs:=fun hb=>by
 have:=(ok.WH.mem hb).1
 rw[e] at this;cases this
theorem Inv.bs (I:Inv X aa σ H s):∀ b o,X.base.get? b=f' o→s.heap.get? b=f' o∧H b=i':=fun b o e=>
 ⟨I.base.keep b o (I.ok.bs b o e).1 (I.ok.bs b o e).2 (I.ok.QgC e) (I.ok.Ym b o e),I.base.free b o (I.ok.bs b o e).1 (I.ok.bs b o e).2 (I.ok.Ym b o e)⟩
theorem Inv.bk (I:Inv X aa σ H s):∀ b o,X.base.get? b=f' o→s.heap.get? b=f' o:=fun b o e=>(I.bs b o e).1
theorem Inv.mod (I:Inv X aa σ H s):Mod X.K X.mg X.base:=I.ok.mod
theorem Inv.Ve (I:Inv X aa σ H s):X.K.In s.heap:=I.ok.mod.Xb.keeps I.bk
theorem jC.mono (c:jC H cs) (k:∀ b o u,H b=f' (.UZ o u)→H' b=f' (.UZ o u)):jC H' cs:=⟨c.1,fun j a hj=>by
 obtain⟨o,u,vs,h,r⟩:=c.2 j a hj
 exact⟨o,u,vs,k a o u h,r⟩⟩
theorem jC.ZX (c:jC H cs) (k:VD P w H h):Vi h cs:=⟨c.1,fun j a hj=>by
 obtain⟨o,u,vs,q,r⟩:=c.2 j a hj
 obtain⟨z,_⟩:=k a _ q
 exact⟨o,vs,z,r⟩⟩
theorem jC.ZY (c:jC H cs) (hb:H b=i'):b∉cs:=fun z=>by
 obtain⟨j,hj⟩:=X'.mp z
 obtain⟨o,u,vs,q,_⟩:=c.2 j b hj
 rw[hb] at q;cases q
theorem jB.mono {A:VX} (x:jB A H) (k:∀ b o u,H b=f' (.UZ o u)→H' b=f' (.UZ o u)):jB A H':=by
 rcases x with e|⟨a,cs,e,c⟩
 .exact .inl e
 .exact .inr ⟨a,cs,e,c.mono k⟩
theorem Inv.X2 (I:Inv X aa σ H s):jB X.A H:=I.ok.hd.mono I.base.WC
theorem jB.hd (x:jB A H) (k:VD P w H h):Hd A h:=by
 rcases x with e|⟨a,cs,e,c⟩
 .exact .inl e
 .exact .inr ⟨a,cs,e,c.ZX k⟩
theorem jB.new {p:F'}{u:HO} (x:jB A H) (hn:H p=i'):jB A (upd H p u):=x.mono fun b o v q=>by rw[aj (aq q hn)];exact q
theorem Inv.hd (I:Inv X aa σ H s):Hd X.A s.heap:=I.X2.hd I.UP
theorem Inv.lt (I:Inv X aa σ H s):X.env.locals<s.heap.objs.size:=let ⟨_,hn,_⟩:=I.loc;hn.lt
theorem Inv.sz (I:Inv X aa σ H s):X.s₀.heap.objs.size≤s.heap.objs.size:=RZ I.ok.above (Sg I.lt)
theorem Inv.QgD (I:Inv X aa σ H s) (h:s.heap.objs.size≤a):a∉X.fs:=fun hb=>by
 obtain⟨_,o,ho,_⟩:=I.ok.WH.mem hb
 exact UX (Rw (Rc ho) (RZ I.sz h)) (RE _)
theorem Inv.X3 (I:Inv X aa σ H s):∀ x c,X.env.cells.lookup x=f' c→c≠X.env.locals:=fun x c e z=>by
 obtain⟨v,o,ho,hd⟩:=I.cell x c e
 obtain⟨m,⟨o',es,ep,i6,cZ,_⟩,_⟩:=I.loc
 rw[z,i6] at ho;cases ho;rw[cZ] at hd;cases hd
theorem Inv.WH (I:Inv X aa σ H s):s.heap.FunFrames X.base X.outer:=by
 have all:∀ (l:List V5),(∀ b∈VG l,b∈X.fs)→X.s₀.heap.FunFrames X.base l→s.heap.FunFrames X.base l:=by
  intro l
  induction l with
  | nil=>intro _ _;trivial
  | cons env r ih=>
   intro hs hl
   obtain⟨hk,⟨L,o,hf,hn,ho,hd⟩,hr⟩:=hl
   have hL:L∈X.fs:=hs L (by unfold VG;rw[S9,hf];exact Rx)
   obtain⟨sl,e⟩:=I.base.slot L o ho (I.ok.Xz L hL) hL fun z=>I.ok.YK L z hL
   exact⟨hk,⟨L,_,hf,hn,e,hd⟩,ih (fun b hb=>hs b (by unfold VG;rw[S9,hf];exact Rk _ hb)) hr⟩
 exact all X.outer (fun _ hb=>hb) I.ok.WH
theorem Inv.stack (I:Inv X aa σ H s):s.heap.FunFrames X.base X.stack:=by
 rcases I.ok.YJ with e|⟨e,hf⟩
 .rw[e];exact I.WH
 .rw[e]
  obtain⟨m,hn,_⟩:=I.loc
  refine .cons (by rw[I.ok.kind];decide) hf hn ?_ I.WH
  exact Vb.get?_none_of_le (RZ I.ok.Xm I.ok.above)
theorem Inv.W0 (I:Inv X aa σ H s):∀ b∈VG X.stack,b∈X.env.locals::X.fs:=fun b hb=>by
 rcases I.ok.YJ with e|⟨e,hf⟩
 .rw[e] at hb;exact Rk _ hb
 .rw[e] at hb
  unfold VG at hb
  rw[S9,hf] at hb
  exact hb
theorem Inv.Qaz (I:Inv X aa σ H s):∀ b∈VG X.stack,H b=i':=fun b hb=>by
 rcases RY.mp (I.W0 b hb) with e|hb
 .rw[e];exact I.free
 .obtain⟨_,o,ho,_⟩:=I.ok.WH.mem hb
  exact I.base.free b o ho (I.ok.Xz b hb) fun z=>I.ok.YK b z hb
theorem Inv.step (I:Inv X aa σ H s)
  (fh:∀ b∈ch,(b∈X.ex∨X.s₀.heap.objs.size≤b)∧b≠X.env.locals∧(∀ x c,X.env.cells.lookup x=f' c→c≠b)∧∀ p∈X.pn++aa,p.1≠b)
  (keep:∀ b o,b≠X.env.locals→b∉X.fs→b∉ch→s.heap.get? b=f' o→H b=i'→h'.get? b=f' o)
  (slot:∀ b o,b≠X.env.locals→b∈X.fs→b∉ch→s.heap.get? b=f' o→H b=i'→∃ sl,h'.get? b=f' {o with slots:=sl}) (free:∀ b o,b∉ch→s.heap.get? b=f' o→H b=i'→H' b=i')
  (there:∀ b o,b∉ch→s.heap.get? b=f' o→∃ o',h'.get? b=f' o')
  (WZ:∀ b xs,H b=f' (.tup xs)→H' b=f' (.tup xs)) (WC:∀ b o u,H b=f' (.UZ o u)→H' b=f' (.UZ o u)) (WN:∀ b p q,H b=f' (.WG p q)→H' b=f' (.WG p q))
  (ns:∀ m,s.heap.Ns X.env.locals m→h'.Ns X.env.locals m) (UP:VD X.prog X.w H' h') (hg:XW g') :
  Inv X aa σ H' {s with heap:=h',gens:=g',drawn:=d',toks:=t'}:=by
 have AN:∀ b o,X.s₀.heap.get? b=f' o→b≠X.env.locals:=fun b o e=>Rj (Rw (Rc e) I.ok.above)
 have tE:∀ b o,X.s₀.heap.get? b=f' o→b∉X.ex→b∉ch:=fun b o e hx hb=>by
  rcases(fh b hb).1 with z|z
  .exact hx z
  .exact UX (Rw (Rc e) z) (RE _)
 have lF:∀ x c,X.env.cells.lookup x=f' c→∀ v,s.heap.IsCell c v→h'.IsCell c v:=fun x c e v ⟨o,ho,hd⟩=>by
  have qx:c∉ch:=fun z=>(fh c z).2.2.1 x c e rfl
  by_cases hc:c∈X.fs
  .obtain⟨sl,q⟩:=slot c o (I.X3 x c e) hc qx ho (I.V6 x c e)
   exact⟨_,q,hd⟩
  .exact⟨o,keep c o (I.X3 x c e) hc qx ho (I.V6 x c e),hd⟩
 refine⟨I.ok,I.os,hg,⟨fun b o e n hb hx=>?_,fun b o e n hb hx=>?_,fun b o e n hx=>?_,fun b o e hx=>?_,fun b xs e=>WZ b xs (I.base.WZ b xs e),fun b o xs e=>WC b o xs (I.base.WC b o xs e),fun b p q e=>WN b p q (I.base.WN b p q e)⟩,?_,fun x c e=>?_,?_,fun x c e=>?_,fun p hp=>?_,UP,I.len⟩
 .exact keep b o (AN b o e) hb (tE b o e hx) (I.base.keep b o e n hb hx) (I.base.free b o e n hx)
 .obtain⟨sl,e1⟩:=I.base.slot b o e n hb hx
  obtain⟨vz,e2⟩:=slot b _ (AN b o e) hb (tE b o e hx) e1 (I.base.free b o e n hx)
  exact⟨vz,e2⟩
 .obtain⟨o',e1⟩:=I.base.there b o e hx
  exact free b o' (tE b o e hx) e1 (I.base.free b o e n hx)
 .obtain⟨o',e1⟩:=I.base.there b o e hx
  exact there b o' (tE b o e hx) e1
 .obtain⟨m,hn,hl⟩:=I.loc
  refine⟨m,ns m hn,fun i x v e1 e2 e3=>?_⟩
  obtain⟨u,r,l⟩:=hl i x v e1 e2 e3
  refine⟨u,r,?_⟩
  rcases l with l|⟨k,c,e,z⟩
  .exact .inl l
  .exact .inr ⟨k,c,e,lF x c e _ z⟩
 .obtain⟨v,z⟩:=I.cell x c e
  exact⟨v,lF x c e v z⟩
 .obtain⟨m,⟨o,_,_,ho,_⟩,_⟩:=I.loc
  exact free _ o (fun z=>(fh _ z).2.1 O) ho I.free
 .obtain⟨v,o,ho,hd⟩:=I.cell x c e
  exact free c o (fun z=>(fh c z).2.2.1 x c e O) ho (I.V6 x c e)
 .obtain⟨e,n,ne,nf,d⟩:=I.pin p hp
  have qx:p.1∉ch:=fun z=>(fh p.1 z).2.2.2 p hp rfl
  exact⟨keep p.1 p.2 ne nf qx e n,free p.1 p.2 qx e n,ne,nf,d⟩
theorem Inv.un (I:Inv X aa σ H s) (u:Un X.fs [] H H' s.heap h') (UP:VD X.prog X.w H' h'):Inv X aa σ H' {s with heap:=h',toks:=t'}:=by
 obtain⟨m,⟨o,es,ep,ho,r⟩,_⟩:=id I.loc
 obtain⟨sl,hL⟩:=u.any ho I.free (by simp)
 exact I.step (g':=s.gens) (d':=s.drawn) (ch:=[]) (fun _ z=>nomatch z) (fun b o _ hb _ e n=>u.keep b o e n hb (by simp)) (fun b o _ hb _ e n=>u.slot b o e n hb (by simp)) (fun b o _ e n=>u.free b o e n (by simp)) (fun b o _ e=>u.there b o e (by simp)) u.WZ u.WC u.WN (fun m' hm=>by
  obtain⟨o',i9,w4,i6,r'⟩:=hm
  rw[ho] at i6;cases i6
  exact⟨_,i9,w4,hL,r'⟩) UP I.bare
theorem Inv.call (I:Inv X aa σ H s) (u:Un (VG X.stack) ch H H' s.heap h') (UP:VD X.prog X.w H' h') (hg:XW g')
  (fh:∀ b∈ch,(b∈X.ex∨X.s₀.heap.objs.size≤b)∧b≠X.env.locals∧(∀ x c,X.env.cells.lookup x=f' c→c≠b)∧∀ p∈X.pn++aa,p.1≠b) :
  Inv X aa σ H' {s with heap:=h',gens:=g',drawn:=d',toks:=t'}:=by
 obtain⟨m,⟨o,es,ep,ho,r⟩,_⟩:=id I.loc
 obtain⟨sl,hL⟩:=u.any ho I.free fun z=>(fh _ z).2.1 rfl
 exact I.step (ch:=ch) fh (fun b o hL hb hc e n=>u.keep b o e n (fun z=>(RY.mp (I.W0 b z)).elim hL hb) hc) (fun b o _ _ hc e n=>u.any e n hc) (fun b o hc e n=>u.free b o e n hc) (fun b o hc e=>u.there b o e hc) u.WZ u.WC u.WN (fun m' hm=>by
  obtain⟨o',i9,w4,i6,r'⟩:=hm
  rw[ho] at i6;cases i6
  exact⟨_,i9,w4,hL,r'⟩) UP hg
theorem Inv.turned (I:Inv X aa σ H s) (k:∀ b o,b≠it→s.heap.get? b=f' o→h'.get? b=f' o) (hn:H it=i') (hL:it≠X.env.locals)
  (h1:it∈X.ex∨X.s₀.heap.objs.size≤it) (h2:∀ x c,X.env.cells.lookup x=f' c→c≠it) (h3:∀ p∈X.pn++aa,p.1≠it):Inv X aa σ H {s with heap:=h',toks:=t'}:=by
 have Bb:∀ b u,H b=f' u→b≠it:=fun b u e z=>by rw[z,hn] at e;cases e
 refine I.step (g':=s.gens) (d':=s.drawn) (ch:=[it]) (fun b hb=>?_) (fun b o _ _ hc e _=>k b o (fun z=>hc (by simp[z])) e) (fun b o _ _ hc e _=>⟨o.slots,k b o (fun z=>hc (by simp[z])) e⟩) (fun _ _ _ _ n=>n)
  (fun b o hc e=>⟨o,k b o (fun z=>hc (by simp[z])) e⟩) (fun _ _ e=>e) (fun _ _ _ e=>e) (fun _ _ _ e=>e) (fun m hm=>?_) (fun b u e=>?_) I.bare
 .have e:b=it:=by simpa using hb
  subst e
  exact⟨h1,hL,h2,h3⟩
 .obtain⟨o,es,ep,ho,r⟩:=hm
  exact⟨o,es,ep,k _ o (US hL) ho,r⟩
 .refine(I.UP b u e).WY (fun c v hc q=>k c v ?_ q) (fun _ q=>q) fun _ _ q=>q
  rcases hc with z|z
  .rw[z];exact Bb b u e
  .exact Bb c _ z
theorem Inv.tok (I:Inv X aa σ H s) (t:Nat):Inv X aa σ H {s with toks:=t}:=I.un (h':=s.heap) (t':=t) Un.refl I.UP
theorem Inv.kept {t':Nat} (I:Inv X aa σ H s) (k:∀ b u,s.heap.get? b=f' u→h'.get? b=f' u):Inv X aa σ H {s with heap:=h',toks:=t'}:=I.un (Un.kept k) (I.UP.kept k)
theorem Inv.laid {a:F'}{o:HO}{t':Nat} (I:Inv X aa σ H s) (k:∀ b u,s.heap.get? b=f' u→h'.get? b=f' u) (hp:s.heap.objs.size≤a) (new:cR X.prog X.w (upd H a o) h' a o) :
  Inv X aa σ (upd H a o) {s with heap:=h',toks:=t'}:=I.un (Un.laid k hp (I.UP.fresh hp)) (I.UP.laid k hp new)
theorem Inv.write {x e:F'}{o:HO}{t':Nat} (I:Inv X aa σ H s) (mu:ZV (H x)) (he:e=x∨H e=f' (.own x)) (k:∀ b u,b≠e→s.heap.get? b=f' u→h'.get? b=f' u) (nZ:∃ u,h'.get? e=f' u)
  (new:cR X.prog X.w (upd H x o) h' x o):Inv X aa σ (upd H x o) {s with heap:=h',toks:=t'}:=I.un (Un.write mu he k nZ) (I.UP.write mu he k nZ new)
theorem Inv.Qc5 {aX:List (F'×U6)} (I:Inv X aa σ H s) (h:∀ p∈aX,s.heap.get? p.1=f' p.2∧H p.1=i'∧p.1≠X.env.locals∧p.1∉X.fs∧∀ v,p.2.data≠.cell v):Inv X aX σ H s:=
 ⟨I.ok,I.os,I.bare,I.base,I.loc,I.cell,I.free,I.V6,fun p hp=>(We.mp hp).elim (fun z=>I.pin p (RF _ z)) (h p),I.UP,I.len⟩
theorem zB (hN:N.Nodup){j:Nat} (a:N[i]?=f' x) (b:N[j]?=f' x):i=j:=by
 obtain⟨h1,e1⟩:=VJ.mp a
 obtain⟨h2,e2⟩:=VJ.mp b
 exact(List.getElem_inj hN).mp (e1.trans e2.symm)
theorem ET {Q:Unit→UM→Prop} (I:Inv X aa σ H s) (hN:X.N.Nodup) (hi:X.N[i]?=f' x) (hx:Loc X.env.scope x) (r:aC v u)
  (h:∀ s',Inv X aa (σ.set i (f' v)) H s'→(∃ a,XR a s.heap s'.heap∧(a=X.env.locals∨X.env.cells.lookup x=f' a))→Q () s') (hf:X.fn x=B'∨X.env.scope.names.lookup x=f' .local:=by first|exact .inl rfl|exact .inr rfl|assumption):M' M A (storeName X.env x u) Q E s:=by
 obtain⟨m,hn,hl⟩:=id I.loc
 have mZ:(X.env.scope.kind == .class || (X.env.scope.kind == .module && X.env.locals != X.env.globals))=K':=by rw[I.ok.kind];rfl
 have sY:i<σ.length:=by rw[I.len];exact(VJ.mp hi).1
 have X3:=I.X3
 have hV:∀ {a:F'}{h':Vb},(∃ o,s.heap.get? a=f' o∧H a=i')→XR a s.heap h'→VD X.prog X.w H h':=fun {a h'} ha hs b ob e=>by
  obtain⟨_,_,lR⟩:=ha
  refine(I.UP b ob e).WY (fun c w' hc q=>(hs.2 c ?_).trans q) (fun _ q=>q) fun _ _ q=>q
  rintro rfl
  rcases hc with rfl|hc
  .rw[lR] at e;cases e
  .rw[lR] at hc;cases hc
 rcases hx with hk|hk
 .refine wpAny_storeName_local hk hn (fun h' vF hs=>?_) mZ
  obtain⟨oL,_,_,Bv,_⟩:=id hn
  refine h _ ⟨I.ok,I.os,I.bare,⟨fun b o e n hb hx=>?_,fun b o e n hb hx=>?_,I.base.free,fun b o e hx=>?_,I.base.WZ,I.base.WC,I.base.WN⟩,⟨_,vF,fun j y v' e1 e2 e3=>?_⟩,fun y c e=>?_,I.free,I.V6,fun p hp=>?_,hV ⟨oL,Bv,I.free⟩ hs,by simpa using I.len⟩ ⟨_,hs,.inl rfl⟩
  .exact(hs.2 b (Rj (Rw (Rc e) I.ok.above))).trans (I.base.keep b o e n hb hx)
  .obtain⟨sl,e1⟩:=I.base.slot b o e n hb hx
   exact⟨sl,(hs.2 b (Rj (Rw (Rc e) I.ok.above))).trans e1⟩
  .obtain⟨o',e1⟩:=I.base.there b o e hx
   exact⟨o',(hs.2 b (Rj (Rw (Rc e) I.ok.above))).trans e1⟩
  .by_cases hj:j=i
   .subst hj
    rw[hi] at e1;cases e1
    rw[Tl sY] at e2
    cases e2
    exact⟨u,r,.inl ⟨hk,by simp⟩⟩
   .rw[Ts (US hj)] at e2
    obtain⟨u',r',q⟩:=hl j y v' e1 e2 e3
    refine⟨u',r',?_⟩
    rcases q with⟨k,e⟩|⟨k,c,e,z⟩
    .refine .inl ⟨k,?_⟩
     have:y≠x:=fun e=>hj (zB hN e1 (e ▸ hi))
     simp[this,e]
    .exact .inr ⟨k,c,e,z.sameBut hs (X3 y c e)⟩
  .obtain⟨w',z⟩:=I.cell y c e
   exact⟨w',z.sameBut hs (X3 y c e)⟩
  .obtain⟨e,n,ne,nf,d⟩:=I.pin p hp
   exact⟨(hs.2 p.1 ne).trans e,n,ne,nf,d⟩
 .have vW:X.fn x=B':=by
   rcases hf with z|z
   .exact z
   .rw[z] at hk;cases hk
  obtain⟨c,hc⟩:=I.ok.has x (.inl hk)
  obtain⟨w',z⟩:=I.cell x c hc
  refine wpAny_storeName_cell I.ok.kind hk hc z (fun h' jr hs=>?_)
  obtain⟨oc,Bq,wC⟩:=id z
  refine h {s with heap:=h'} ⟨I.ok,I.os,I.bare,⟨fun b o e n hb hx=>?_,fun b o e n hb hx=>?_,I.base.free,fun b o e hx=>?_,I.base.WZ,I.base.WC,I.base.WN⟩,⟨m,hn.sameBut hs (US (X3 x c hc)),fun j y v' e1 e2 e3=>?_⟩,fun y c' e=>?_,I.free,I.V6,fun p hp=>?_,hV ⟨oc,Bq,I.V6 x c hc⟩ hs,by simpa using I.len⟩ ⟨c,hs,.inr hc⟩
  .exact(hs.2 b (Rj (Rw (Rc e) (I.ok.YI x c vW hc)))).trans (I.base.keep b o e n hb hx)
  .obtain⟨sl,e1⟩:=I.base.slot b o e n hb hx
   exact⟨sl,(hs.2 b (Rj (Rw (Rc e) (I.ok.YI x c vW hc)))).trans e1⟩
  .obtain⟨o',e1⟩:=I.base.there b o e hx
   exact⟨o',(hs.2 b (Rj (Rw (Rc e) (I.ok.YI x c vW hc)))).trans e1⟩
  .by_cases hj:j=i
   .subst hj
    rw[hi] at e1;cases e1
    rw[Tl sY] at e2
    cases e2
    exact⟨u,r,.inr ⟨.inl hk,c,hc,jr⟩⟩
   .rw[Ts (US hj)] at e2
    obtain⟨u',r',q⟩:=hl j y v' e1 e2 e3
    refine⟨u',r',?_⟩
    rcases q with q|⟨k,c',e,z'⟩
    .exact .inl q
    .refine .inr ⟨k,c',e,z'.sameBut hs ?_⟩
     rintro rfl
     exact hj (zB hN e1 (I.ok.inj _ _ _ e hc ▸ hi))
  .by_cases zW:c'=c
   .subst zW;exact⟨_,jr⟩
   .obtain⟨w2,z2⟩:=I.cell y c' e
    exact⟨w2,z2.sameBut hs zW⟩
  .obtain⟨e,n,ne,nf,d⟩:=I.pin p hp
   refine⟨(hs.2 p.1 ?_).trans e,n,ne,nf,d⟩
   intro q
   rw[q,Bq] at e
   have q':oc=p.2:=VL e
   exact d w' (by rw[← q'];exact wC)
theorem ym {Q:Unit→UM→Prop} (I:Inv X aa σ H s) (hN:X.N.Nodup) (hi:X.N[i]?=f' x) (hx:Loc X.env.scope x) (r:aC v u)
  (h:∀ s',Inv X aa (σ.set i (f' v)) H s'→Q () s') (hf:X.fn x=B'∨X.env.scope.names.lookup x=f' .local:=by first|exact .inl rfl|exact .inr rfl|assumption):M' M A (storeName X.env x u) Q E s:=
 ET I hN hi hx r (fun s' I' _=>h s' I') hf
theorem Inv.Qc6 (I:Inv X aa σ H s) (ho:s'.os=s.os) (u:Un (VG X.stack) ch H H' s.heap s'.heap) (UP:VD X.prog X.w H' s'.heap) (hg:XW s'.gens)
  (fh:∀ b∈ch,(b∈X.ex∨X.s₀.heap.objs.size≤b)∧b≠X.env.locals∧(∀ x c,X.env.cells.lookup x=f' c→c≠b)∧∀ p∈X.pn++aa,p.1≠b):Inv X aa σ H' s':=by
 obtain⟨h',g',d',t',o'⟩:=s'
 have e:o'=s.os:=ho
 subst e
 exact I.call (g':=g') (t':=t') (d':=d') u UP hg fh
end
abbrev XK:=L'→Option F'→Hp→Prop
abbrev St:=List (Option V)
abbrev VK:=V→Hp→Prop
abbrev TE:=St→Hp→VK→Prop
abbrev TT:=St→Hp→(Bool→Hp→Prop)→Prop
abbrev TA:=St→Hp→(List V→Hp→Prop)→Prop
structure eJ where
 nx:St→Hp→Prop
 rt:VK
 bk:St→Hp→Prop:=fun _ _=>False
 ct:St→Hp→Prop:=fun _ _=>False
abbrev TS:=eJ→St→Hp→Prop
def EP (X:Cx) (aa:List (F'×U6)) (σ:St) (Q:VK) (u:L') (s':UM):Prop:=∃ v H',Inv X aa σ H' s'∧aC v u∧Q v H'
def TP (X:Cx) (aa:List (F'×U6)) (σ:St) (Q:Bool→Hp→Prop) (b:Bool) (s':UM):Prop:=∃ H',Inv X aa σ H' s'∧Q b H'
def AP (X:Cx) (aa:List (F'×U6)) (σ:St) (Q:List V→Hp→Prop) (us:List L') (s':UM):Prop:=∃ vs H',Inv X aa σ H' s'∧aA vs us∧Q vs H'
def SP (X:Cx) (aa:List (F'×U6)) (D:eJ) (f:WM) (s':UM):Prop:=
 match f with
 | .next=>∃ σ' H',Inv X aa σ' H' s'∧D.nx σ' H'
 | .brk=>∃ σ' H',Inv X aa σ' H' s'∧D.bk σ' H'
 | .cont=>∃ σ' H',Inv X aa σ' H' s'∧D.ct σ' H'
 | .ret u=>∃ v σ' H',Inv X aa σ' H' s'∧aC v u∧D.rt v H'
def PE (X:Cx) (e:U3) (t:TE):Prop:=
 ∀ (aa:List (F'×U6)) (s:UM) (σ:St) (H:Hp) (Q:VK),Inv X aa σ H s→t σ H Q→M' (UJ X.prog X.w) X.A (U2 e X.env) (EP X aa σ Q) X.xe s
def PT (X:Cx) (e:U3) (t:TT):Prop:=
 ∀ (aa:List (F'×U6)) (s:UM) (σ:St) (H:Hp) (Q:Bool→Hp→Prop),Inv X aa σ H s→t σ H Q→M' (UJ X.prog X.w) X.A (ZT e X.env (U2 e X.env)) (TP X aa σ Q) X.xe s
def PW (X:Cx) (e:U3) (t:TT):Prop:=
 ∀ (dB:V9 L') (aa:List (F'×U6)) (s:UM) (σ:St) (H:Hp) (Q:Bool→Hp→Prop),Inv X aa σ H s→t σ H Q→M' (UJ X.prog X.w) X.A (ZT e X.env dB) (TP X aa σ Q) X.xe s
theorem PW.pt {X:Cx}{t:TT} (h:PW X e t):PT X e t:=h _
def PA (X:Cx) (es:List U3) (t:TA):Prop:=
 ∀ (pos:VC) (aa:List (F'×U6)) (s:UM) (σ:St) (H:Hp) (Q:List V→Hp→Prop),Inv X aa σ H s→t σ H Q→M' (UJ X.prog X.w) X.A (spliced (Vx pos (U1 es X.env))) (AP X aa σ Q) X.xe s
def PS (X:Cx) (st:UY) (t:TS):Prop:=
 ∀ (aa:List (F'×U6)) (s:UM) (σ:St) (H:Hp) (D:eJ),Inv X aa σ H s→t D σ H→M' (UJ X.prog X.w) X.A (exec st X.env) (SP X aa D) X.xe s
def VY (X:Cx) (st:List UY) (t:TS):Prop:=
 ∀ (aa:List (F'×U6)) (s:UM) (σ:St) (H:Hp) (D:eJ),Inv X aa σ H s→t D σ H→M' (UJ X.prog X.w) X.A (execs st X.env) (SP X aa D) X.xe s
theorem UV {α:Type}{t:V9 α}{Q Q':α→UM→Prop} (h:M' M A t Q E s) (hQ:∀ a s,Q a s→Q' a s):M' M A t Q' E s:=RW h hQ fun _ _ x=>x
section
variable {X:Cx}
inductive QgE (i:Nat) (σ:St) (H:Hp) (Q:VK):Prop where
 | mk (v:V) (h:σ[i]?=f' (f' v)) (k:Q v H)
def ZZ (i:Nat):TE:=fun σ H Q=>QgE i σ H Q
def tC (v:V):TE:=fun _ H Q=>Q v H
theorem QgF (hN:X.N[i]?=f' x) (hv:Vis X.env.scope x) (hd:(x == ("__debug__":C'))=K':=by decide) (ic:(x == ("__classdict__":C'))=K':=by decide):PE X (.Name x pos) (ZZ i):=by
 intro aa s σ H Q I h
 obtain⟨v,e,h⟩:=h
 obtain⟨m,hn,hl⟩:=I.loc
 obtain⟨u,r,l⟩:=hl i x v hN e hv
 have aS:EP X aa σ Q u s:=⟨v,H,I,r,h⟩
 rcases l with⟨hk,hm⟩|⟨hk,c,hc,dC⟩
 .exact UI (wpAny_loadName_local I.ok.kind hk hn hm aS) hd
 .rcases hk with hk|hk
  .exact UI (wpAny_loadName_cell I.ok.kind hk hc dC aS) hd
  .exact UI (wpAny_loadName_free I.ok.kind hk hc dC aS ic) hd
theorem au {i j pos}:PE X (.Constant (.int i) j pos) (tC (.int i)):=fun _ _ _ H _ I h=>Uy ⟨.int i,H,I.tok _,⟨_,O⟩,h⟩
theorem nC {b j pos}:PE X (.Constant (.bool b) j pos) (tC (.bl b)):=fun _ _ _ H _ I h=>Constant_bool ⟨.bl b,H,I,O,h⟩
theorem xJ {j pos}:PE X (.Constant .none j pos) (tC .UU):=fun _ _ _ H _ I h=>Qbq ⟨.UU,H,I,O,h⟩
theorem bh {x j pos}:PE X (.Constant (.str x) j pos) (tC (.str x)):=fun _ _ _ H _ I h=>Calls.Constant_str ⟨.str x,H,I.tok _,⟨_,O⟩,h⟩
def Gl (X:Cx) (x:C'):Prop:=X.env.kindOf x=f' .globalImplicit
theorem lq {σ:St} (I:Inv X aa σ H s) (hg:Gl X x) (hm:X.mg x=f' u) (h:Q u s)
  (hd:(x == ("__debug__":C'))=K':=by decide):M' (UJ X.prog X.w) X.A (U2 (.Name x pos) X.env) Q E s:=
 Qcj I.ok.kind hg (QeY (by rw[I.ok.glob];exact I.mod.glob.keeps I.bk) hm h) hd
theorem jD {σ:St} (I:Inv X aa σ H s) (hg:Gl X x) (hm:X.mg x=i') (hv:Wb x=f' u) (h:Q u s)
  (hn:x≠"__name__":=by decide) (hd:(x == ("__debug__":C'))=K':=by decide):M' (UJ X.prog X.w) X.A (U2 (.Name x pos) X.env) Q E s:=by
 obtain⟨mb,h1,h2⟩:=I.mod.blt
 exact Qcj I.ok.kind hg (Calls.loadGlobal_builtin (by rw[I.ok.glob];exact I.mod.glob.keeps I.bk) hm (by rw[I.ok.blt];exact h1.keeps I.bk) ((h2 x hn).trans hv) h) hd
theorem zP (hg:Gl X x) (hm:X.mg x=f' u) (r:aC v u) (hd:(x == ("__debug__":C'))=K':=by decide):PE X (.Name x pos) (tC v):=
 fun _ _ _ H _ I h=>lq I hg hm ⟨v,H,I,r,h⟩ hd
theorem Mb (hg:Gl X x) (hm:X.mg x=i') (hv:Wb x=f' u) (r:aC v u) (hn:x≠"__name__":=by decide) (hd:(x == ("__debug__":C'))=K':=by decide):PE X (.Name x pos) (tC v):=
 fun _ _ _ H _ I h=>jD I hg hm hv ⟨v,H,I,r,h⟩ hn hd
variable {a b:U3}{ta tb:TE}
def PC (X:Cx) (op:CmpOp) (a b:U3) (t:TE):Prop:=
 ∀ (aa:List (F'×U6)) (s:UM) (σ:St) (H:Hp) (Q:VK),Inv X aa σ H s→t σ H Q →
  M' (UJ X.prog X.w) X.A (U2 a X.env) (fun v s₁=>M' (UJ X.prog X.w) X.A (U2 b X.env) (fun u s₂=>M' (UJ X.prog X.w) X.A (Wp op v u) (EP X aa σ Q) X.xe s₂) X.xe s₁) X.xe s
theorem LV (b:U3) (h:op≠.In) (h2:op≠.NotIn):Y6 op b=K':=by
 have e1:(op == Qgv)=K':=by cases op<;>first|rfl|exact UX O h
 have e2:(op == Qf1)=K':=by cases op<;>first|rfl|exact UX O h2
 cases b<;>simp[Y6,e1,e2]
def QgG (ta:TE):TE:=fun σ H Q=>ta σ H fun x H1=>Q (.bl (decide (x=.UU))) H1
def QgH (ta:TE):TE:=fun σ H Q=>ta σ H fun x H1=>Q (.bl (!decide (x=.UU))) H1
theorem aC.Qc7 {x:V}{v:L'} (r:aC x v):(v == Vq)=decide (x=.UU):=by
 cases x with
 | UU=>cases r;rfl
 | bl _=>cases r;rfl
 | int _=>obtain⟨t,rfl⟩:=r;rfl
 | str _=>obtain⟨t,rfl⟩:=r;rfl
 | byt _=>obtain⟨t,rfl⟩:=r;rfl
 | Yl _=>obtain⟨t,rfl⟩:=r;rfl
 | ref _=>cases r;rfl
 | ty _=>cases r;rfl
theorem uP {j br} (ha:PE X a ta):PC X .Is a (.Constant .none j br) (QgG ta):=by
 intro aa s σ H Q I h
 refine UV (ha aa s σ H _ I h) fun v s1=>L2.U7 fun x H1 I1 r1 q1=>?_
 exact Qbq (is_none_gen ⟨.bl _,H1,I1,by rw[r1.Qc7];rfl,q1⟩)
theorem OO {j br} (ha:PE X a ta):PC X .IsNot a (.Constant .none j br) (QgH ta):=by
 intro aa s σ H Q I h
 refine UV (ha aa s σ H _ I h) fun v s1=>L2.U7 fun x H1 I1 r1 q1=>?_
 exact Qbq (isnot_none_gen ⟨.bl _,H1,I1,by rw[r1.Qc7];rfl,q1⟩)
inductive tBI (Q:(Bool→Hp→Prop)) (x:V) (H1:Hp):Prop
 | mk (c:_) (_:x=.bl c) (_:Q c H1)
def tB (t:TE):TT:=fun σ H Q=>t σ H fun x H1=>tBI Q x H1
theorem j9 {t:TE} (h:PC X op a b t) (h1:Y6 op b=K':=by first|exact LV _ (by decide) (by decide)|rfl):PT X (.Compare a [op] [b] pos) (tB t):=by
 intro aa s σ H Q I hw
 refine Uk (UV (h aa s σ H _ I hw) fun v s1 h1=>UV h1 fun u s2 h2=>UV h2 fun c s3=>L2.U7 fun x H1 I1 r1 q1=>?_) h1
 obtain⟨d,rfl,q⟩:=q1
 cases r1
 exact Sd ⟨H1,I1,q⟩
theorem eG {t:TE} (h:PE X e t) (he:∀ dB,ZT e X.env dB=(do let v ← dB;YE e.pos;Xv [v] (truthy v)):=by intro _;rfl):PT X e (tB t):=by
 intro aa s σ H Q I hw
 refine isTrue_plain (UV (h aa s σ H _ I hw) fun v s1=>L2.U7 fun x H1 I1 r1 q1=>?_) (he _)
 obtain⟨d,rfl,q⟩:=q1
 cases r1
 exact Sd ⟨H1,I1,q⟩
variable {tA sR:TT}{a7:List U3}
def QgI (t u:TT):TT:=fun σ H Q=>t σ H fun c H1=>if c=B' then u σ H1 Q else Q K' H1
def tOr (t u:TT):TT:=fun σ H Q=>t σ H fun c H1=>if c=B' then Q B' H1 else u σ H1 Q
def QgJ (t:TT):TT:=fun σ H Q=>t σ H fun c H1=>Q (!c) H1
theorem Qd (ha:PT X a tA):PW X (.BoolOp .And [a] pos) tA:=by
 intro wh aa s σ H Q I h
 refine isTrue_and (UV (ha aa s σ H Q I h) fun c s1 e=>?_)
 cases c with
 | true=>exact isTrue_and_nil e
 | false=>exact e
theorem k9 (ha:PT X a tA):PW X (.BoolOp .Or [a] pos) tA:=by
 intro wh aa s σ H Q I h
 refine isTrue_or (UV (ha aa s σ H Q I h) fun c s1 e=>?_)
 cases c with
 | false=>exact isTrue_or_nil e
 | true=>exact e
theorem QgK (ha:PT X a tA) (hb:PW X (.BoolOp .And (b::a7) pos) sR):PW X (.BoolOp .And (a::b::a7) pos) (QgI tA sR):=by
 intro wh aa s σ H Q I h
 refine isTrue_and (UV (ha aa s σ H _ I h) fun c s1=>L2.Xy fun H1 I1 q1=>?_)
 cases c with
 | true=>exact hb wh aa s1 σ H1 Q I1 q1
 | false=>exact⟨H1,I1,q1⟩
theorem ig (ha:PT X a tA) (hb:PW X (.BoolOp .Or (b::a7) pos) sR):PW X (.BoolOp .Or (a::b::a7) pos) (tOr tA sR):=by
 intro wh aa s σ H Q I h
 refine isTrue_or (UV (ha aa s σ H _ I h) fun c s1=>L2.Xy fun H1 I1 q1=>?_)
 cases c with
 | true=>exact⟨H1,I1,q1⟩
 | false=>exact hb wh aa s1 σ H1 Q I1 q1
theorem gv (ha:PT X a tA):PT X (.UnaryOp .Not a pos) (QgJ tA):=by
 intro aa s σ H Q I h
 exact isTrue_not (ha aa s σ H (fun c H1=>Q (!c) H1) I h)
inductive QgL (tb:TE) (σ:St) (Q:VK) (x:V) (H1:Hp):Prop
 | mk (c:_) (_:x=.bl c) (_:if c=B' then tb σ H1 Q else Q (.bl K') H1)
def QgM (ta tb:TE):TE:=fun σ H Q=>ta σ H fun x H1=>QgL tb σ Q x H1
inductive QgN (tb:TE) (σ:St) (Q:VK) (x:V) (H1:Hp):Prop
 | mk (c:_) (_:x=.bl c) (_:if c=B' then Q (.bl B') H1 else tb σ H1 Q)
def QgO (ta tb:TE):TE:=fun σ H Q=>ta σ H fun x H1=>QgN tb σ Q x H1
inductive QgP (Q:VK) (x:V) (H1:Hp):Prop
 | mk (c:_) (_:x=.bl c) (_:Q (.bl (!c)) H1)
def QgQ (ta:TE):TE:=fun σ H Q=>ta σ H fun x H1=>QgP Q x H1
theorem rB {op}{t:TE} (h:PE X a t):PE X (.BoolOp op [a] pos) t:=fun aa s σ H Q I hw=>BoolOp_one (h aa s σ H Q I hw)
theorem ub (ha:PE X a ta) (hb:PE X (.BoolOp .And (b::a7) pos) tb):PE X (.BoolOp .And (a::b::a7) pos) (QgM ta tb):=by
 intro aa s σ H Q I h
 refine BoolOp_and (UV (ha aa s σ H _ I h) fun v s1=>L2.U7 fun x H1 I1 r1 q1=>?_)
 obtain⟨c,rfl,q1⟩:=q1
 cases r1
 refine Sd ?_
 cases c with
 | true=>exact hb aa s1 σ H1 Q I1 q1
 | false=>exact⟨.bl K',H1,I1,O,q1⟩
theorem QgR (ha:PE X a ta) (hb:PE X (.BoolOp .Or (b::a7) pos) tb):PE X (.BoolOp .Or (a::b::a7) pos) (QgO ta tb):=by
 intro aa s σ H Q I h
 refine BoolOp_or (UV (ha aa s σ H _ I h) fun v s1=>L2.U7 fun x H1 I1 r1 q1=>?_)
 obtain⟨c,rfl,q1⟩:=q1
 cases r1
 refine Sd ?_
 cases c with
 | false=>exact hb aa s1 σ H1 Q I1 q1
 | true=>exact⟨.bl B',H1,I1,O,q1⟩
theorem QgS (ha:PE X a ta):PE X (.UnaryOp .Not a pos) (QgQ ta):=by
 intro aa s σ H Q I h
 refine UnaryOp_ (UV (ha aa s σ H _ I h) fun v s1=>L2.U7 fun x H1 I1 r1 q1=>?_)
 obtain⟨c,rfl,q1⟩:=q1
 cases r1
 exact not_of (Sd ⟨.bl (!c),H1,I1,O,q1⟩)
def tIf (t:TT) (ta tb:TE):TE:=fun σ H Q=>t σ H fun c H1=>if c=B' then ta σ H1 Q else tb σ H1 Q
theorem Eu (hc:PT X c tA) (ha:PE X a ta) (hb:PE X b tb):PE X (.IfExp c a b pos) (tIf tA ta tb):=by
 intro aa s σ H Q I h
 refine wpAny_IfExp (UV (hc aa s σ H _ I h) fun d s1=>L2.Xy fun H1 I1 q1=>?_)
 cases d with
 | true=>exact ha aa s1 σ H1 Q I1 q1
 | false=>exact hb aa s1 σ H1 Q I1 q1
end
def P' (K:R') (H:Hp) (a:F') (xs:List V):Prop:=
 Rd H a (.lst xs) ∨
  ∃ (o:U6) (ah:Array L') (n:Nat),K.lookup a=f' o∧o.cls=.type "list"∧o.dict=i'∧o.data=.seq ah n∧ah.size≤S'∧aA xs ah.toList
def U4 (K:R') (H:Hp) (a:F') (xs:List V):Prop:=
 Rd H a (.tup xs) ∨
  ∃ (o:U6) (ah:Array L') (n:Nat),K.lookup a=f' o∧o.cls=.type "tuple"∧o.data=.seq ah n∧ah.size≤S'∧aA xs ah.toList
def QgT:L'→Option V
 | .none=>f' .UU
 | .bool b=>f' (.bl b)
 | .int i _=>f' (.int i)
 | .str x _=>f' (.str x)
 | .bytes b _=>f' (.byt b)
 | .float b _=>f' (.Yl b)
 | .ref a=>f' (.ref a)
 | .type n=>f' (.ty n)
 | _=>i'
variable {D:eJ}{X:Cx}{body st:List UY}{br Zi:VC}{es:List U3}{fp:List F'}{lo:Int}{n:Nat}{tb:TS}{tc:TT}{te tl:TE}{tg:U3}{xs:List V}{σ:St}
theorem aC.abs {x:V} (r:aC x u):QgT u=f' x:=by
 cases x with
 | UU=>cases r;rfl
 | bl _=>cases r;rfl
 | int _=>obtain⟨t,rfl⟩:=r;rfl
 | str _=>obtain⟨t,rfl⟩:=r;rfl
 | byt _=>obtain⟨t,rfl⟩:=r;rfl
 | Yl _=>obtain⟨t,rfl⟩:=r;rfl
 | ref _=>cases r;rfl
 | ty _=>cases r;rfl
theorem aC.inj {x y:V}{u:L'} (r:aC x u) (q:aC y u):x=y:=VL (r.abs.symm.trans q.abs)
theorem aA.inj:∀ {xs ys:List V}{us:List L'},aA xs us→aA ys us→xs=ys
 | _,_,_,.nil,.nil=>rfl
 | _,_,_,.cons r t,.cons r' t'=>by rw[r.inj r',aA.inj t t']
section
variable {ys:List V}
theorem P'.of {K:R'} (h:H a=f' (.lst xs)):P' K H a xs:=.inl (.inl h)
theorem U4.of {K:R'} (h:H a=f' (.tup xs)):U4 K H a xs:=.inl (.inl h)
theorem Inv.list (I:Inv X aa σ H s) (h:P' X.K H a xs):∃ ah:List L',aA xs ah∧PlainL s.heap a ah.toArray∧xs.length≤S':=by
 rcases h with h|⟨o,ah,n,hk,hc,hd,hs,hz,r⟩
 .obtain⟨z,ah,n,r,e⟩:=h.ok I.UP
  exact⟨ah,r,⟨_,n,e,O,O,O⟩,z⟩
 .refine⟨ah.toList,r,⟨o,n,I.Ve a o hk,hc,hd,by simpa using hs⟩,?_⟩
  have e:=r.length
  simp only[SO] at e
  lia
theorem Inv.tuple (I:Inv X aa σ H s) (h:U4 X.K H a xs):∃ ah:List L',aA xs ah∧Zh s.heap a ah.toArray∧xs.length≤S':=by
 rcases h with h|⟨o,ah,n,hk,hc,hs,hz,r⟩
 .obtain⟨z,ah,r,p⟩:=h.ok I.UP
  exact⟨ah,r,p,z⟩
 .refine⟨ah.toList,r,⟨o,I.Ve a o hk,hc,n,by simpa using hs⟩,?_⟩
  have e:=r.length
  simp only[SO] at e
  lia
theorem Inv.Z0 (I:Inv X aa σ H s) (h:P' X.K H a xs) (h':P' X.K H a ys):xs=ys:=by
 obtain⟨ah,r,⟨o,n,e,_,_,d⟩,_⟩:=I.list h
 obtain⟨its',r',⟨o',n',e',_,_,d'⟩,_⟩:=I.list h'
 rw[e] at e';cases e'
 rw[d] at d'
 injection d' with d1 _
 have:ah=its':=by simpa using WB QfT d1
 subst this
 exact r.inj r'
theorem Inv.QgU (I:Inv X aa σ H s) (h:U4 X.K H a xs) (h':U4 X.K H a ys):xs=ys:=by
 obtain⟨ah,r,⟨o,e,_,n,d⟩,_⟩:=I.tuple h
 obtain⟨its',r',⟨o',e',_,n',d'⟩,_⟩:=I.tuple h'
 rw[e] at e';cases e'
 rw[d] at d'
 injection d' with d1 _
 have:ah=its':=by simpa using WB QfT d1
 subst this
 exact r.inj r'
end
abbrev Cx.wish (X:Cx) (E:L'→UM→Prop):Cx:={X with xe:=E}
abbrev Cx.nox (X:Cx):Cx:=X.wish fun _ _=>False
theorem Cx.Ok.wish {X:Cx} (ok:X.Ok) (E:L'→UM→Prop):(X.wish E).Ok:=
 ⟨ok.mod,ok.kind,ok.glob,ok.blt,ok.above,ok.inj,ok.has,ok.YI,ok.hd,ok.frames,ok.YJ,ok.ZW,ok.bs,ok.Xm,ok.Ym,ok.YK,ok.WH,ok.Xz⟩
theorem Cx.Ok.Yn (ok:(X.wish E).Ok):X.Ok:=
 ⟨ok.mod,ok.kind,ok.glob,ok.blt,ok.above,ok.inj,ok.has,ok.YI,ok.hd,ok.frames,ok.YJ,ok.ZW,ok.bs,ok.Xm,ok.Ym,ok.YK,ok.WH,ok.Xz⟩
theorem Inv.wish (I:Inv X aa σ H s) (E:L'→UM→Prop):Inv (X.wish E) aa σ H s:=⟨I.ok.wish E,I.os,I.bare,I.base,I.loc,I.cell,I.free,I.V6,I.pin,I.UP,I.len⟩
theorem Inv.Yn (I:Inv (X.wish E) aa σ H s):Inv X aa σ H s:=⟨I.ok.Yn,I.os,I.bare,I.base,I.loc,I.cell,I.free,I.V6,I.pin,I.UP,I.len⟩
theorem SP.Yn {D:eJ}{f:WM}{s':UM} (h:SP (X.wish E) aa D f s'):SP X aa D f s':=by
 cases f with
 | next=>obtain⟨σ',H',I,q⟩:=h;exact⟨σ',H',I.Yn,q⟩
 | brk=>obtain⟨σ',H',I,q⟩:=h;exact⟨σ',H',I.Yn,q⟩
 | cont=>obtain⟨σ',H',I,q⟩:=h;exact⟨σ',H',I.Yn,q⟩
 | ret u=>obtain⟨v,σ',H',I,r,q⟩:=h;exact⟨v,σ',H',I.Yn,r,q⟩
theorem VY.nox {t:TS} (h:VY X.nox st t):VY X st t:=fun aa s σ H D I hw=>
 RW (h aa s σ H D (I.wish _) hw) (fun _ _ q=>q.Yn) fun _ _ z=>VR z
section
variable {st:UY}{a7:List UY}{t u:TS}
def QgV:TS:=fun D σ H=>D.nx σ H
def Qc8 (t u:TS):TS:=fun D σ H=>t {D with nx:=u D} σ H
theorem aP:VY X [] QgV:=fun _ _ σ H _ I h=>Tu ⟨σ,H,I,h⟩
theorem ao (h1:PS X st t) (h2:VY X a7 u):VY X (st::a7) (Qc8 t u):=by
 intro aa s σ H D I h
 refine Qf6 (UV (h1 aa s σ H {D with nx:=u D} I h) fun f s1 q=>?_)
 cases f with
 | next=>
  obtain⟨σ',H',I',q⟩:=q
  exact h2 aa s1 σ' H' D I' q
 | ret v=>exact q
 | brk=>exact q
 | cont=>exact q
theorem ak (h1:PS X st t):VY X [st] t:=by
 intro aa s σ H D I h
 refine Qf6 (UV (h1 aa s σ H D I h) fun f s1 q=>?_)
 cases f with
 | next=>exact Tu q
 | ret v=>exact q
 | brk=>exact q
 | cont=>exact q
theorem Inv.quiet (I:Inv X aa σ H s):interactive X.env=K':=by simp[interactive,I.ok.kind]
def QgW (te:TE):TS:=fun D σ H=>te σ H fun _ H1=>D.nx σ H1
theorem bo (he:PE X e te) (hs:ZQ e i' pos.line X.env=pure K':=by rfl):PS X (.Expr e pos) (QgW te):=by
 intro aa s σ H D I h
 exact wpAny_Expr_any (UV (he aa s σ H _ I h) fun v s1=>L2.U7 fun x H1 I1 r1 q1=>⟨σ,H1,I1,q1⟩) I.quiet hs
def QgX (te:TE):TS:=fun D σ H=>te σ H D.rt
theorem aM (he:PE X e te):PS X (.Return (f' e) pos) (QgX te):=by
 intro aa s σ H D I h
 exact wpAny_Return_some (UV (he aa s σ H _ I h) fun v s1=>L2.U7 fun x H1 I1 r1 q1=>⟨x,σ,H1,I1,r1,q1⟩)
def QgY:TS:=fun D _ H=>D.rt .UU H
theorem M6:PS X (.Return i' pos) QgY:=fun _ _ σ H _ I h=>wpAny_Return_none ⟨.UU,σ,H,I,O,h⟩
def Qc9 (c:TT) (t u:TS):TS:=fun D σ H=>c σ H fun b H1=>if b=B' then t D σ H1 else u D σ H1
theorem aT {a b:List UY} (hc:PT X c tc) (ha:VY X a t) (hb:VY X b u):PS X (.If c a b pos) (Qc9 tc t u):=by
 intro aa s σ H D I h
 refine wpAny_If (UV (hc aa s σ H _ I h) fun d s1=>L2.Xy fun H1 I1 q1=>?_)
 cases d with
 | true=>exact ha aa s1 σ H1 D I1 q1
 | false=>exact hb aa s1 σ H1 D I1 q1
end
abbrev TG:=V→St→Hp→(St→Hp→Prop)→Prop
abbrev YL:=List V→St→Hp→(St→Hp→Prop)→Prop
def PG (X:Cx) (cO:U3) (t:TG):Prop:=
 ∀ (aa:List (F'×U6)) (s:UM) (σ:St) (H:Hp) (v:V) (u:L') (Q:St→Hp→Prop),Inv X aa σ H s→aC v u→t v σ H Q →
  M' (UJ X.prog X.w) X.A (YF cO X.env u) (fun _ s'=>∃ σ' H',Inv X aa σ' H' s'∧Q σ' H') X.xe s
def Z1 (X:Cx) (ts:List U3) (t:YL):Prop:=
 ∀ (aa:List (F'×U6)) (s:UM) (σ:St) (H:Hp) (vs:List V) (us:List L') (Q:St→Hp→Prop),Inv X aa σ H s→aA vs us→t vs σ H Q →
  M' (UJ X.prog X.w) X.A (assignInOrder ((XS ts X.env).map (·.2)) us) (fun _ s'=>∃ σ' H',Inv X aa σ' H' s'∧Q σ' H') X.xe s
abbrev QbD:=V→V→V→Hp→(Hp→Prop)→Prop
def Qda (X:Cx) (t:QbD):Prop:=
 ∀ (aa:List (F'×U6)) (s:UM) (σ:St) (H:Hp) (o i v:V) (ov iv u:L') (Q:Hp→Prop),Inv X aa σ H s→aC o ov→aC i iv→aC v u→t o i v H Q →
  M' (UJ X.prog X.w) X.A (setItem ov iv u) (fun _ s'=>∃ H',Inv X aa σ H' s'∧Q H') X.xe s
abbrev TIp:=V→V→Hp→VK→Prop
def PIp (X:Cx) (op:Qbz) (t:TIp):Prop:=
 ∀ (aa:List (F'×U6)) (s:UM) (σ:St) (H:Hp) (x y:V) (v u:L') (Q:VK),Inv X aa σ H s→aC x v→aC y u→t x y H Q →
  M' (UJ X.prog X.w) X.A (inplaceOp op v u) (EP X aa σ Q) X.xe s
def bM (i:Nat):TG:=fun v σ H Q=>Q (σ.set i (f' v)) H
theorem aF (hN:X.N.Nodup) (hi:X.N[i]?=f' x) (hx:Loc X.env.scope x) (hf:X.fn x=B'∨X.env.scope.names.lookup x=f' .local:=by first|exact .inl rfl|exact .inr rfl|assumption):PG X (.Name x pos) (bM i):=by
 intro aa s σ H v u Q I r h
 exact UD (ym I hN hi hx r (fun s' I'=>⟨_,H,I',h⟩) hf)
def QgZ:YL:=fun vs σ H Q=>vs=[]∧Q σ H
inductive Qg0 (t:TG) (u:YL) (vs:List V) (σ:St) (H:Hp) (Q:(St→Hp→Prop)):Prop
 | mk (v r:_) (_:vs=v::r) (_:t v σ H fun σ' H'=>u r σ' H' Q)
theorem fj:Z1 X [] QgZ:=by
 intro aa s σ H vs us Q I r h
 obtain⟨e,h⟩:=h
 subst e
 cases r
 exact assignInOrder_nil ⟨σ,H,I,h⟩
theorem bj {t:TG}{u:YL} (h1:PG X e t) (h2:Z1 X es u)
  (hs:(XS (e::es) X.env).map (·.2)=YF e X.env::(XS es X.env).map (·.2):=by rfl):Z1 X (e::es) (Qg0 t u):=by
 intro aa s σ H vs us Q I r h
 obtain⟨v,vr,e1,h⟩:=h
 subst e1
 cases r with
 | cons r rr=>
  rw[hs]
  refine assignInOrder_cons (UV (h1 aa s σ H _ _ _ I r h) fun _ s1=>L2.ex4 fun σ1 H1 I1 q1=>?_)
  exact h2 aa s1 σ1 H1 _ _ Q I1 rr q1
inductive Qdb (K:R') (n:Nat) (t:YL) (v:V) (σ:St) (H:Hp) (Q:(St→Hp→Prop)):Prop
 | mk (a xs:_) (_:v=.ref a) (_:U4 K H a xs) (_:xs.length=n) (_:t xs σ H Q)
theorem kg {k:Nat}{t:YL} (hc:X.calm=B') (h:Z1 X es t)
  (hn:(XS es X.env).length=n:=by rfl) (dZ:(XS es X.env).findIdx? (·.1)=i':=by rfl):PG X (.Tuple es k pos) (Qdb X.K n t):=by
 intro aa s σ H v u Q I r hw
 obtain⟨a,xs,e1,hq,hl,hw⟩:=hw
 subst e1
 cases r
 obtain⟨ah,rv,ht,hz⟩:=I.tuple hq
 refine M5 I.hd ht (by simp[hn,← hl,rv.length]) dZ fun h' hx=>?_
 have I1:Inv X aa σ H {s with heap:=h'}:=I.kept (t':=s.toks) fun b o e=>hx b o (Rj (Rc e)) e
 exact h aa _ σ H xs _ Q I1 (by simpa using rv) hw
def Qdc (te:TE) (g:TG):TS:=fun D σ H=>te σ H fun x H1=>g x σ H1 D.nx
theorem aV (hN:X.N.Nodup) (hi:X.N[i]?=f' x) (hx:Loc X.env.scope x) (he:PE X e te) (hs:ZQ e (f' (.Name x br)) pos.line X.env=pure K':=by rfl) (hf:X.fn x=B'∨X.env.scope.names.lookup x=f' .local:=by first|exact .inl rfl|exact .inr rfl|assumption) :
  PS X (.Assign [.Name x br] e pos) (Qdc te (bM i)):=by
 intro aa s σ H D I h
 refine wpAny_Assign_Name (UV (he aa s σ H _ I h) fun v s1=>L2.U7 fun y H1 I1 r1 q1=>?_) hs
 exact ym I1 hN hi hx r1 (fun s2 I2=>⟨_,H1,I2,q1⟩) hf
def Qg1 (to ti te:TE) (kL:V→V→Hp→VK→Prop) (sK:TIp) (kD:QbD):TS:=fun D σ H=>to σ H fun o H1=>ti σ H1 fun i H2=>kL o i H2 fun x H3=>te σ H3 fun y H4=>sK x y H4 fun z H5=>kD o i z H5 fun H6=>D.nx σ H6
def Qdd (X:Cx) (t:V→V→Hp→VK→Prop):Prop:=
 ∀ (aa:List (F'×U6)) (s:UM) (σ:St) (H:Hp) (o i:V) (ov iv:L') (Q:VK),Inv X aa σ H s→aC o ov→aC i iv→t o i H Q →
  M' (UJ X.prog X.w) X.A (Xw ov iv) (EP X aa σ Q) X.xe s
theorem yu {o i:U3}{to ti:TE}{kL:V→V→Hp→VK→Prop}{sK:TIp}{kD:QbD}{op:Qbz} (ho:PE X o to) (hi:PE X i ti) (hg:Qdd X kL) (he:PE X e te) (hp:PIp X op sK) (hs:Qda X kD)
  (ha:∀ ov iv new,augStore i ov iv new=(do Xv [new,ov,iv] (setItem ov iv new);release [new,ov,iv] [];pure .next):=by intros;rfl):PS X (.AugAssign (.Subscript o i Zi) op e pos) (Qg1 to ti te kL sK kD):=by
 intro aa s σ H D I h
 refine wpAny_AugAssign_SubscriptAny (UV (ho aa s σ H _ I h) fun ov s1=>L2.U7 fun x1 H1 I1 r1 q1=>?_) ha
 refine UV (hi aa s1 σ H1 _ I1 q1) fun iv s2=>L2.U7 fun x2 H2 I2 r2 q2=>?_
 refine UV (hg aa s2 σ H2 x1 x2 ov iv _ I2 r1 r2 q2) fun old s3=>L2.U7 fun x3 H3 I3 r3 q3=>?_
 refine UV (he aa s3 σ H3 _ I3 q3) fun v s4=>L2.U7 fun x4 H4 I4 r4 q4=>?_
 refine UV (hp aa s4 σ H4 x3 x4 old v _ I4 r3 r4 q4) fun new s5=>L2.U7 fun x5 H5 I5 r5 q5=>?_
 exact UV (hs aa s5 σ H5 x1 x2 x5 ov iv new _ I5 r1 r2 r5 q5) fun _ s6=>L2.Xy fun H6 I6 q6=>⟨σ,H6,I6,q6⟩
inductive ipI (f:Int→Int→Int) (x:V) (y:V) (H:Hp) (Q:VK):Prop
 | mk (i j:_) (_:x=.int i) (_:y=.int j) (_:Q (.int (f i j)) H)
theorem Dq:PIp X .Add (ipI fun i j=>i+j):=by
 intro aa s σ H x y v u Q I r1 r2 h
 obtain⟨i,j,e1,e2,q⟩:=h
 subst e1;subst e2
 obtain⟨t,rfl⟩:=r1
 obtain⟨t',rfl⟩:=r2
 exact iadd_int ⟨.int _,H,I.tok _,⟨_,O⟩,q⟩
theorem Qg2:PIp X .Sub (ipI fun i j=>i-j):=by
 intro aa s σ H x y v u Q I r1 r2 h
 obtain⟨i,j,e1,e2,q⟩:=h
 subst e1;subst e2
 obtain⟨t,rfl⟩:=r1
 obtain⟨t',rfl⟩:=r2
 exact isub_int ⟨.int _,H,I.tok _,⟨_,O⟩,q⟩
def Qg3 (c:TT) (tb:TS):TS:=fun D σ H=>∃ W:Nat→St→Hp→Prop,(∃ m,W m σ H)∧∀ m σ H,W m σ H →
 c σ H fun b H1=>if b=B' then ∃ N:St→Hp→Prop,(∀ σ' H',N σ' H'→∃ m',m'<m∧W m' σ' H')∧tb {D with nx:=N,ct:=N,bk:=D.nx} σ H1 else D.nx σ H1
theorem uo (hp:Qat (UJ X.prog X.w) X.A X.env X.xe) (hc:PT X c tc) (hb:VY X body tb):PS X (.While c body [] pos) (Qg3 tc tb):=by
 intro aa s σ H D I h
 obtain⟨W,⟨m0,w0⟩,gD⟩:=h
 refine wpAny_While (codeAny_whileLoop (fun n s'=>∃ σ' H',Inv X aa σ' H' s'∧W n σ' H') ?_ m0 ⟨σ,H,I,w0⟩)
 rintro n s1 ⟨σ1,H1,I1,w1⟩
 refine SC hp (UV (hc aa s1 σ1 H1 _ I1 (gD n σ1 H1 w1)) fun b s2=>L2.Xy fun H2 I2 q2=>?_)
 cases b with
 | true=>
  obtain⟨N,hN,q2⟩:=q2
  rw[UN rfl]
  refine SC hp (UV (hb aa s2 σ1 H2 _ I2 q2) fun f s3 q3=>?_)
  cases f with
  | next=>
   obtain⟨σ3,H3,I3,n3⟩:=q3
   obtain⟨m',hm,w3⟩:=hN σ3 H3 n3
   exact⟨m',hm,σ3,H3,I3,w3⟩
  | cont=>
   obtain⟨σ3,H3,I3,n3⟩:=q3
   obtain⟨m',hm,w3⟩:=hN σ3 H3 n3
   exact⟨m',hm,σ3,H3,I3,w3⟩
  | brk=>exact q3
  | ret v=>exact q3
 | false=>
  rw[UL Rq]
  exact Tu ⟨σ1,H2,I2,q2⟩
structure It where
 go:Nat→Hp→Prop
 Z2:Nat→Hp→V→Hp→Prop
 stop:Nat→Hp→Prop
def cI (X:Cx) (aa:List (F'×U6)) (H:Hp) (b:F'):Prop:=
 H b=i'∧b≠X.env.locals∧b∉X.fs∧(b∈X.ex∨X.s₀.heap.objs.size≤b)∧(∀ x c,X.env.cells.lookup x=f' c→c≠b)∧∀ p∈X.pn++aa,p.1≠b
theorem Inv.WO (I:Inv X aa σ H s) (hb:s.heap.objs.size≤b) (hn:H' b=i'):cI X aa H' b:=by
 refine⟨hn,Sh (Rw I.lt hb),I.QgD hb,.inr (RZ I.sz hb),fun x c e z=>?_,fun p hp z=>?_⟩
 .obtain⟨v,q⟩:=I.cell x c e
  exact UX (Rw q.lt (by rw[z];exact hb)) (RE _)
 .exact UX (Rw (Rc (I.pin p hp).1) (by rw[z];exact hb)) (RE _)
structure mf (P:Vv) (w:VA) (K:R') (tg:U3) (J:It) (fp:List F') (it:F') (tn:Nat→Vb→Prop):Prop where
 mem:it∈fp
 obj:∀ i h,tn i h→∀ b∈fp,∃ o,h.get? b=f' o∧∀ v,o.data≠.cell v
 keep:∀ i h h',tn i h→(∀ b∈fp,∀ o,h.get? b=f' o→h'.get? b=f' o)→tn i h'
 item:∀ (X:Cx),X.prog=P→X.w=w→X.K=K→X.calm=B'→∀ (i:Nat) (aa:List (F'×U6)) (s:UM) (σ:St) (H:Hp) (E:L'→UM→Prop),Inv X aa σ H s→(∀ b∈fp,cI X aa H b)→tn i s.heap→J.go i H →
  M' (UJ P w) X.A (Vz (.ref it)) (fun r s1=>∃ u,r=f' u ∧
   M' (UJ P w) X.A (Qbl tg (.ref it) u) (fun _ s2=>∃ x H',Inv X aa σ H' s2∧aC x u∧J.Z2 i H x H'∧tn (i+1) s2.heap∧∀ b∈fp,H' b=i') E s1) E s
 done:∀ (X:Cx),X.prog=P→X.w=w→X.K=K→X.calm=B'→∀ (i:Nat) (aa:List (F'×U6)) (s:UM) (σ:St) (H:Hp) (E:L'→UM→Prop),Inv X aa σ H s→(∀ b∈fp,cI X aa H b)→tn i s.heap→J.stop i H →
  M' (UJ P w) X.A (Vz (.ref it)) (fun r s1=>r=i'∧Inv X aa σ H s1) E s
 self:∀ (A:VX) (i:Nat) (s:UM) (Q:L'→UM→Prop) (E:L'→UM→Prop),tn i s.heap→Q (.ref it) s→M' (UJ P w) A (pyIter (.ref it)) Q E s
abbrev TI:=St→Hp→(It→Hp→Prop)→Prop
def PIE (X:Cx) (aa:List (F'×U6)) (σ:St) (tg:U3) (R:It→Hp→Prop) (sD:L') (s2:UM):Prop:=
 ∃ (it:F') (fp:List F') (tn:Nat→Vb→Prop) (J:It) (H':Hp),sD=.ref it∧Inv X aa σ H' s2∧mf X.prog X.w X.K tg J fp it tn∧tn 0 s2.heap∧(∀ b∈fp,cI X aa H' b)∧R J H'
def PI (X:Cx) (tg iter:U3) (wi:TI):Prop:=
 ∀ (aa:List (F'×U6)) (s:UM) (σ:St) (H:Hp) (R:It→Hp→Prop),Inv X aa σ H s→wi σ H R →
  M' (UJ X.prog X.w) X.A (U2 iter X.env) (fun v s1=>M' (UJ X.prog X.w) X.A (pyIter v) (PIE X aa σ tg R) X.xe s1) X.xe s
theorem uD {n:String}{Q:Unit→UM→Prop} (ho:s.heap.get? it=f' o) (hc:o.cls=.type n) (hd:o.data=.fields vs)
    (hn:["enumerate","zip","dict_itemiterator","dict_reverseitemiterator","odict_iterator","itertools.zip_longest","itertools.pairwise"].contains n=K') (hQ:Q () s):M' M A (Qbl tg (.ref it) u) Q E s:=by
  unfold Qbl
  cases tg<;>first
    | exact Rb hQ
    | (cases u<;>first
        | exact Rb hQ
        | (refine mK (wpAny_load ho ?_)
           rw[hc,hd]
           show M' M A (if (["enumerate","zip","dict_itemiterator","dict_reverseitemiterator","odict_iterator","itertools.zip_longest","itertools.pairwise"].contains n && vs[0]? == f' (Vw _))=B' then _ else _) Q E s
           rw[UL (by intro h;rw[hn,Bool.false_and] at h;cases h)]
           exact Rb hQ))
def Zj (K:R') (a:F'):It:=
 ⟨fun i H=>∃ xs x,P' K H a xs∧xs[i]?=f' x,fun i H x H'=>H'=H∧∀ xs,P' K H a xs→xs[i]?=f' x,fun i H=>∃ xs,P' K H a xs∧xs.length≤i⟩
def Zk (lo:Int) (n:Nat):It:=⟨fun i _=>i<n,fun i H x H'=>H'=H∧x=.int (lo+i),fun i _=>n≤i⟩
theorem OR {K:R'} (a it:F'):mf P w K tg (Zj K a) [it] it (fun i h=>h.IsListIter it a i) where
 mem:=by simp
 obj:=fun i h st b hb=>by
  have e:b=it:=by simpa using hb
  subst e
  obtain⟨o,e,c,d⟩:=st
  exact⟨o,e,fun v z=>by rw[d] at z;cases z⟩
 keep:=fun i h h' st k=>st.at fun o e=>k it (by simp) o e
 item:=by
  intro X hP hw hK hc i aa s σ H E I hf st hg
  subst hP hw hK
  obtain⟨xs,x,hq,hx⟩:=hg
  obtain⟨ah,rv,p,hz⟩:=I.list hq
  obtain⟨u,hu,ru⟩:=rv.get hx
  obtain⟨f0,f1,f2,f3,f4,f5⟩:=hf it (by simp)
  refine Ug st p.isList (x:=u) (by simpa using hu) fun h' ia sb=>?_
  have I1:Inv X aa σ H {s with heap:=h'}:=I.turned (t':=s.toks) (fun b o hb e=>(sb.2 b hb).trans e) f0 f1 f3 f4 f5
  obtain⟨o,e,c,d⟩:=id ia
  exact⟨u,O,uD (s:={s with heap:=h'}) e c d (by decide) ⟨x,H,I1,ru,⟨O,fun ys hy=>by rw[I.Z0 hy hq];exact hx⟩,ia,fun b hb=>(hf b hb).1⟩⟩
 done:=by
  intro X hP hw hK hc i aa s σ H E I hf st hg
  subst hP hw hK
  obtain⟨xs,hq,hx⟩:=hg
  obtain⟨ah,rv,p,hz⟩:=I.list hq
  obtain⟨f0,f1,f2,f3,f4,f5⟩:=hf it (by simp)
  have hl:=rv.length
  exact C5 I.hd st p.isList (by simp;lia) fun h' eb=>⟨O,I.turned (t':=s.toks) (fun b o hb e=>eb b o hb e) f0 f1 f3 f4 f5⟩
 self:=fun _ _ _ _ _ st h=>Ul st h
theorem KU {K:R'} (it:F') (lo:Int) (n:Nat):mf P w K tg (Zk lo n) [it] it (fun i h=>Y9 h it (lo+(i:Nat)*1) ((n:Int)-(i:Nat)) 1) where
 mem:=by simp
 obj:=fun i h st b hb=>by
  have e:b=it:=by simpa using hb
  subst e
  exact⟨_,st,fun v z=>by
   have z':Data.fields _=Data.cell v:=z
   cases z'⟩
 keep:=fun i h h' st k=>k it (by simp) _ st
 item:=by
  intro X hP hw hK hc i aa s σ H E I hf st hg
  subst hP hw hK
  obtain⟨f0,f1,f2,f3,f4,f5⟩:=hf it (by simp)
  refine Ub st (by have:i<n:=hg;lia) fun h' i7 sb=>?_
  have ia:Y9 h' it (lo+((i+1:Nat):Int)*1) ((n:Int)-((i+1:Nat):Int)) 1:=by
   rw[show lo+((i+1:Nat):Int)*1=lo+(i:Int)*1+1 by lia,show(n:Int)-((i+1:Nat):Int)=(n:Int)-(i:Int)-1 by lia]
   exact i7
  have I1:Inv X aa σ H {s with heap:=h',toks:=s.toks+1}:=I.turned (fun b o hb e=>sb.extBut b o hb e) f0 f1 f3 f4 f5
  exact⟨_,O,uD (s:={s with heap:=h',toks:=s.toks+1}) (n:="range_iterator") ia O O (by decide) ⟨.int (lo+i),H,I1,⟨_,by rw[Int.mul_one]⟩,⟨O,O⟩,ia,fun b hb=>(hf b hb).1⟩⟩
 done:=by
  intro X hP hw hK hc i aa s σ H E I hf st hg
  subst hP hw hK
  obtain⟨f0,f1,f2,f3,f4,f5⟩:=hf it (by simp)
  exact Dx I.hd st (by have:n≤i:=hg;lia) fun h' eb=>⟨O,I.turned (t':=s.toks) (fun b o hb e=>eb b o hb e) f0 f1 f3 f4 f5⟩
 self:=fun _ _ _ _ _ st h=>Uh st h
inductive Qg4 (K:R') (R:(It→Hp→Prop)) (x:V) (H1:Hp):Prop
 | mk (a:_) (_:x=.ref a) (_:(∃ xs,P' K H1 a xs)) (_:R (Zj K a) H1)
def Qde (K:R') (tl:TE):TI:=fun σ H R=>tl σ H fun x H1=>Qg4 K R x H1
theorem bV {l:U3} (hl:PE X l tl):PI X tg l (Qde X.K tl):=by
 intro aa s σ H R I h
 refine UV (hl aa s σ H _ I h) fun v s1=>L2.U7 fun x H1 I1 r1 q1=>?_
 obtain⟨a,e,⟨xs,hq⟩,q⟩:=q1
 subst e
 cases r1
 obtain⟨ah,rv,p,hz⟩:=I1.list hq
 refine SH p.isList ?_
 refine⟨s1.heap.objs.size,[s1.heap.objs.size],_,_,H1,O,I1.kept (t':=s1.toks) fun b o e=>Ra _ e,OR a _,⟨_,Ri _ O,O,O⟩,fun b hb=>?_,q⟩
 have e:b=s1.heap.objs.size:=by simpa using hb
 subst e
 exact I1.WO (Re _) (I1.UP.fresh (Re _))
theorem Oy {R:It→Hp→Prop}{hi:Int}{t u v:V4}{tk:Nat} (I:Inv X aa σ H s) (h1:-(2 ^ 62)≤lo) (h2:lo<2 ^ 62) (h3:-(2 ^ 62)≤hi) (h4:hi<2 ^ 62)
  (q:R (Zk lo (hi-lo).toNat) H):M' (UJ X.prog X.w) X.A (pyIter (.ref s.heap.objs.size)) (PIE X aa σ tg R) E {s with heap:=s.heap.push {cls:=.type "range",data:=.fields #[.int lo t,.int hi u,.int 1 v]},toks:=tk}:=by
 refine Uz (IsRange.new ..) (small_one h1 h2 h3 h4) ?_
 have I1:Inv X aa σ H {s with heap:=s.heap.push {cls:=.type "range",data:=.fields #[.int lo t,.int hi u,.int 1 v]},toks:=tk}:=I.kept fun b o e=>Ra _ e
 refine⟨(s.heap.push {cls:=.type "range",data:=.fields #[.int lo t,.int hi u,.int 1 v]}).objs.size,[(s.heap.push {cls:=.type "range",data:=.fields #[.int lo t,.int hi u,.int 1 v]}).objs.size],_,_,H,O,
  I1.kept (t':=tk) fun b o e=>Ra _ e,KU _ lo (hi-lo).toNat,?_,fun b hb=>?_,q⟩
 .have e1:lo+((0:Nat):Int)*1=lo:=by simp
  have e2:(((hi-lo).toNat:Nat):Int)-((0:Nat):Int)=Qez lo hi 1:=by rw[rangeSize_one];split<;>lia
  show Y9 _ _ (lo+((0:Nat):Int)*1) ((((hi-lo).toNat:Nat):Int)-((0:Nat):Int)) 1
  rw[e1,e2]
  exact Ri _ rfl
 .have e:b=(s.heap.push {cls:=.type "range",data:=.fields #[.int lo t,.int hi u,.int 1 v]}).objs.size:=by simpa using hb
  subst e
  exact I1.WO (Re _) (I1.UP.fresh (Re _))
inductive Qg5 (R:(It→Hp→Prop)) (vs:List V) (H1:Hp):Prop
 | mk (j:Int) (_:vs=[.int j]) (_:-(2 ^ 62)≤j) (_:j<2 ^ 62) (_:R (Zk 0 j.toNat) H1)
def Qg6 (ta:TA):TI:=fun σ H R=>ta σ H fun vs H1=>Qg5 R vs H1
theorem rm {a:U3}{ta:TA}{p:VC} (hg:Gl X "range") (hm:X.mg "range"=i') (ha:PA X [a] ta) (hs:U1 [a] X.env=[(K',U2 a X.env)]:=by rfl):PI X tg (.Call (.Name "range" p) [a] [] pos) (Qg6 ta):=by
 intro aa s σ H R I h
 refine Call_ (jD I hg hm boot_range (Yt (UV (ha pos aa s σ H _ I h) fun us s1=>L2.U7 fun vs H1 I1 r1 q1=>?_) hs O))
 obtain⟨j,e,q1,q2,q⟩:=q1
 subst e
 cases r1 with
 | cons r rr=>
  cases rr
  obtain⟨t,rfl⟩:=r
  exact call_range_1 (Oy I1 (by lia) (by lia) q1 q2 (by simpa using q))
def Qdf (wi:TI) (g:TG) (tb:TS):TS:=fun D σ H=>wi σ H fun J H1=>∃ W:Nat→Nat→St→Hp→Prop,(∃ m,W 0 m σ H1)∧∀ i m σ H,W i m σ H →
 (J.stop i H∧D.nx σ H)∨(J.go i H∧∃ N:St→Hp→Prop,(∀ σ' H',N σ' H'→∃ m',m'<m∧W (i+1) m' σ' H')∧∀ x H',J.Z2 i H x H'→g x σ H' fun σ2 H2=>tb {D with nx:=N,ct:=N,bk:=D.nx} σ2 H2)
def rq (fp:List F') (h:Vb):List (F'×U6):=fp.filterMap fun b=>(h.get? b).map fun o=>(b,o)
theorem uZ (hb:b∈fp) (e:h.get? b=f' o):(b,o)∈rq fp h:=Qfk.mpr ⟨b,hb,by rw[e];rfl⟩
theorem P5 {p:F'×U6} (hp:p∈rq fp h):p.1∈fp∧h.get? p.1=f' p.2:=by
 obtain⟨b,hb,e⟩:=Qfk.mp hp
 cases q:h.get? b with
 | none=>rw[q] at e;cases e
 | some o=>
  rw[q] at e
  have e':(b,o)=p:=VL e
  subst e'
  exact⟨hb,q⟩
theorem Inv.pinned (I:Inv X aa σ H s) (hf:∀ b∈fp,cI X aa H b) (ho:∀ b∈fp,∃ o,s.heap.get? b=f' o∧∀ v,o.data≠.cell v):Inv X (aa++rq fp s.heap) σ H s:=
 I.Qc5 fun p hp=>(We.mp hp).elim (fun z=>I.pin p (RG _ z)) fun z=>by
  obtain⟨hb,e⟩:=P5 z
  obtain⟨f0,f1,f2,_⟩:=hf p.1 hb
  obtain⟨o,e',d⟩:=ho p.1 hb
  rw[e] at e';cases e'
  exact⟨e,f0,f1,f2,d⟩
theorem Inv.QaA {pl:List (F'×U6)} (I:Inv X (aa++pl) σ H s):Inv X aa σ H s:=I.Qc5 fun p hp=>I.pin p (RG _ (RF _ hp))
theorem ej {iter:U3}{wi:TI}{g:TG} (hp:Qat (UJ X.prog X.w) X.A X.env X.xe) (hc:X.calm=B') (hi:PI X tg iter wi) (hg:PG X tg g) (hb:VY X body tb)
  (hs:∀ x,Qbe iter X.env x=pure x:=by intro _;rfl):PS X (.For tg iter body [] pos) (Qdf wi g tb):=by
 intro aa s σ H D I h
 refine wpAny_For (UV (hi aa s σ H _ I h) fun v s1 h1=>UV h1 fun sD s2 h2=>?_) hs
 obtain⟨it,fp,tn,J,H2,e,I2,T,WQ,f2,W,⟨m0,w0⟩,gD⟩:=h2
 subst e
 have gJ:∀ {H':Hp},(∀ b∈fp,H' b=i')→∀ b∈fp,cI X aa H' b:=fun hn b hb=>⟨hn b hb,(f2 b hb).2⟩
 refine codeAny_forLoop_any (fun n s'=>∃ i σ' H',Inv X aa σ' H' s'∧tn i s'.heap∧(∀ b∈fp,H' b=i')∧W i n σ' H') ?_ m0 ⟨0,σ,H2,I2,WQ,fun b hb=>(f2 b hb).1,w0⟩
 rintro n s3 ⟨i,σ3,H3,I3,jO,qe,w3⟩
 rcases gD i n σ3 H3 w3 with⟨stop,qn⟩|⟨go,N,hN,step⟩
 .refine SC hp (UV (T.done X O O O hc i aa s3 σ3 H3 X.xe I3 (gJ qe) jO stop) fun r s4 ⟨hr,I4⟩=>?_)
  subst hr
  exact Tu ⟨σ3,H3,I4,qn⟩
 .refine SC hp (UV (T.item X O O O hc i aa s3 σ3 H3 X.xe I3 (gJ qe) jO go) fun r s4 ⟨u,hr,h4⟩=>?_)
  subst hr
  refine SC hp (UV h4 fun _ s5=>L2.U7 fun x H5 I5 r5 aW=>?_)
  obtain⟨y5,fD,wx⟩:=aW
  have wb:=I5.pinned (gJ wx) (T.obj _ _ fD)
  refine SC hp (UV (hg _ s5 σ3 H5 x u _ wb r5 (step x H5 y5)) fun _ s6=>L2.ex4 fun σ6 H6 I6 q6=>?_)
  refine SC hp (UV (hb _ s6 σ6 H6 _ I6 q6) fun f s7 q7=>?_)
  have again:∀ {σ7:St}{H7:Hp},Inv X (aa++rq fp s5.heap) σ7 H7 s7→N σ7 H7→∃ m,m<n∧∃ i σ' H',Inv X aa σ' H' s7∧tn i s7.heap∧(∀ b∈fp,H' b=i')∧W i m σ' H':=fun {σ7 H7} I7 n7=>by
   obtain⟨m',hm,w7⟩:=hN σ7 H7 n7
   refine⟨m',hm,i+1,σ7,H7,I7.QaA,T.keep _ _ _ fD fun b hb o e=>(I7.pin (b,o) (RG _ (RG _ (uZ hb e)))).1,fun b hb=>?_,w7⟩
   obtain⟨o,e,d⟩:=T.obj _ _ fD b hb
   exact(I7.pin (b,o) (RG _ (RG _ (uZ hb e)))).2.1
  cases f with
  | next=>obtain⟨σ7,H7,I7,n7⟩:=q7;exact again I7 n7
  | cont=>obtain⟨σ7,H7,I7,n7⟩:=q7;exact again I7 n7
  | brk=>obtain⟨σ7,H7,I7,q7⟩:=q7;exact⟨σ7,H7,I7.QaA,q7⟩
  | ret v=>obtain⟨x7,σ7,H7,I7,r7,q7⟩:=q7;exact⟨x7,σ7,H7,I7.QaA,r7,q7⟩
def WkW (J:It) (E:St→Hp→Prop) (B:(St→Hp→Prop)→V→St→Hp→Prop) (σ:St) (H:Hp):Prop:=∃ W:Nat→Nat→St→Hp→Prop,(∃ m,W 0 m σ H)∧∀ i m σ H,W i m σ H→(J.stop i H∧E σ H)∨(J.go i H∧∃ N:St→Hp→Prop,(∀ σ' H',N σ' H'→∃ m',m'<m∧W (i+1) m' σ' H')∧∀ x H',J.Z2 i H x H'→B N x σ H')
theorem X4 {J:It}{E:St→Hp→Prop}{B:(St→Hp→Prop)→V→St→Hp→Prop} (Pv:Nat→St→Hp→Prop) (h0:Pv 0 σ H) (hg:∀ i σ H,i≤n→Pv i σ H→(i<n→J.go i H)∧(n≤i→J.stop i H)) (hs:∀ i x σ H H',i<n→Pv i σ H→J.Z2 i H x H'→B (Pv (i+1)) x σ H') (hd:∀ σ H,Pv n σ H→E σ H):WkW J E B σ H:=by
 refine⟨fun i m σ H=>m=n-i∧i≤n∧Pv i σ H,⟨n,by simp,R6 _,h0⟩,?_⟩
 rintro i m σ H ⟨rfl,hi,p⟩
 obtain⟨q1,q2⟩:=hg i σ H hi p
 by_cases b8:i<n
 .exact .inr ⟨q1 b8,Pv (i+1),fun σ' H' p'=>⟨n-(i+1),by lia,O,b8,p'⟩,fun x H' y=>hs i x σ H H' b8 p y⟩
 .have e:i=n:=by lia
  subst e
  exact .inl ⟨q2 (Re _),hd σ H p⟩
def QaB (J:It) (D:eJ) (g:TG) (tb:TS) (σ:St) (H:Hp):Prop:=WkW J D.nx (fun N x σ H'=>g x σ H' fun σ2 H2=>tb {D with nx:=N,ct:=N,bk:=D.nx} σ2 H2) σ H
theorem iN {K:R'}{g:TG} (Pv:Nat→St→Hp→Prop) (h0:Pv 0 σ H) (hl:∀ i σ H,i≤xs.length→Pv i σ H→P' K H a xs)
  (hs:∀ i x σ H,xs[i]?=f' x→Pv i σ H→g x σ H fun σ2 H2=>tb {D with nx:=Pv (i+1),ct:=Pv (i+1),bk:=D.nx} σ2 H2) (hd:∀ σ H,Pv xs.length σ H→D.nx σ H):QaB (Zj K a) D g tb σ H:=
 X4 (n:=xs.length) Pv h0 (fun i σ H hi p=>⟨fun h=>⟨xs,xs[i],hl i σ H hi p,by simp[h]⟩,fun h=>⟨xs,hl i σ H hi p,h⟩⟩) (fun i x σ H H' hi p y=>by
 obtain⟨rfl,y⟩:=y
 exact hs i x σ _ (y xs (hl i σ _ (Sg hi) p)) p) hd
theorem zp {g:TG} (Pv:Nat→St→Hp→Prop) (h0:Pv 0 σ H)
  (hs:∀ i σ H,i<n→Pv i σ H→g (.int (lo+i)) σ H fun σ2 H2=>tb {D with nx:=Pv (i+1),ct:=Pv (i+1),bk:=D.nx} σ2 H2) (hd:∀ σ H,Pv n σ H→D.nx σ H):QaB (Zk lo n) D g tb σ H:=
 X4 (n:=n) Pv h0 (fun _ _ _ _ _=>⟨id,id⟩) (fun i x σ H H' hi p y=>by
 obtain⟨rfl,rfl⟩:=y
 exact hs i σ _ hi p) hd
abbrev R2:=V→V→Hp→VK→Prop
def VM (X:Cx) (f:L'→L'→V9 L') (r:R2):Prop:=
 ∀ (aa:List (F'×U6)) (s:UM) (σ:St) (H:Hp) (x y:V) (v u:L') (Q:VK),Inv X aa σ H s→aC x v→aC y u→r x y H Q →
  M' (UJ X.prog X.w) X.A (f v u) (EP X aa σ Q) X.xe s
def UnR (X:Cx) (f:L'→V9 L') (r:V→Hp→VK→Prop):Prop:=
 ∀ (aa:List (F'×U6)) (s:UM) (σ:St) (H:Hp) (x:V) (v:L') (Q:VK),Inv X aa σ H s→aC x v→r x H Q →
  M' (UJ X.prog X.w) X.A (f v) (EP X aa σ Q) X.xe s
def fZ (X:Cx) (f:L') (r:List V→Hp→VK→Prop):Prop:=
 ∀ (aa:List (F'×U6)) (s:UM) (σ:St) (H:Hp) (xs:List V) (us:List L') (Q:VK),Inv X aa σ H s→aA xs us→r xs H Q →
  M' (UJ X.prog X.w) X.A (call f us) (EP X aa σ Q) X.xe s
def Qg7 (X:Cx) (r:V→Hp→(Bool→Hp→Prop)→Prop):Prop:=
 ∀ (aa:List (F'×U6)) (s:UM) (σ:St) (H:Hp) (x:V) (v:L') (Q:Bool→Hp→Prop),Inv X aa σ H s→aC x v→r x H Q →
  M' (UJ X.prog X.w) X.A (truthy v) (TP X aa σ Q) X.xe s
def YM (r:R2) (ta tb:TE):TE:=fun σ H Q=>ta σ H fun x H1=>tb σ H1 fun y H2=>r x y H2 Q
def tUn (r:V→Hp→VK→Prop) (ta:TE):TE:=fun σ H Q=>ta σ H fun x H1=>r x H1 Q
inductive rI (C:Int→Int→Prop) (g:Int→Int→V) (x:V) (y:V) (H:Hp) (Q:VK):Prop
 | mk (i j:_) (_:x=.int i) (_:y=.int j) (_:C i j) (_:Q (g i j) H)
inductive Yo (g:Int→Int→V) (x:V) (y:V) (H:Hp) (Q:VK):Prop
 | mk (i j:_) (_:x=.int i) (_:y=.int j) (_:Q (g i j) H)
inductive rU (g:Int→V) (x:V) (H:Hp) (Q:VK):Prop
 | mk (i:_) (_:x=.int i) (_:Q (g i) H)
variable {C dx:F'}{b kA:Bool}{f:L'→L'→V9 L'}{g:Int→Int→Int}{kw:List (C'×L')}{m name:C'}{mA:C'→Option L'}{o:Option L'}{pl:V9 Bool}{r:R2}{ta tb tc:TE}{us vs:List L'}{x y:V}
section
variable {a b:U3}
theorem QbE (ha:PE X a ta) (hb:PE X b tb){R:V→V→Hp→Prop} (I:Inv X aa σ H s)
  (h:ta σ H fun x H1=>tb σ H1 fun y H2=>R x y H2)
  (hf:∀ v u s2 x y H2,Inv X aa σ H2 s2→aC x v→aC y u→R x y H2→M' (UJ X.prog X.w) X.A (f v u) Q X.xe s2) :
  M' (UJ X.prog X.w) X.A (U2 a X.env) (fun v s₁=>M' (UJ X.prog X.w) X.A (U2 b X.env) (fun u s₂=>M' (UJ X.prog X.w) X.A (f v u) Q X.xe s₂) X.xe s₁) X.xe s:=by
 refine UV (ha aa s σ H _ I h) fun v s1=>L2.U7 fun x H1 I1 r1 q1=>?_
 refine UV (hb aa s1 σ H1 _ I1 q1) fun u s2=>L2.U7 fun y H2 I2 r2 q2=>?_
 exact hf v u s2 x y H2 I2 r1 r2 q2
theorem bq {op:Qbz} (ho:VM X (Xu op) r) (ha:PE X a ta) (hb:PE X b tb):PE X (.BinOp a op b pos) (YM r ta tb):=by
 intro aa s σ H Q I h
 exact wpAny_BinOp (QbE ha hb I h fun v u s2 x y H2 I2 rx ry q=>ho aa s2 σ H2 x y v u Q I2 rx ry q)
theorem Qg8 {op:UnaryOp}{r:V→Hp→VK→Prop} (ho:UnR X (unaryOp op) r) (ha:PE X a ta):PE X (.UnaryOp op a pos) (tUn r ta):=by
 intro aa s σ H Q I h
 exact UnaryOp_ (UV (ha aa s σ H _ I h) fun v s1=>L2.U7 fun x H1 I1 r1 q1=>ho aa s1 σ H1 x v Q I1 r1 q1)
theorem opI {C:Int→Int→Prop}
  (rule:∀ (i j:Int) (t u:V4) (s:UM) (Q:L'→UM→Prop) (E:L'→UM→Prop),C i j→Q (.int (g i j) s.toks) {s with toks:=s.toks+1}→M' (UJ X.prog X.w) X.A (f (.int i t) (.int j u)) Q E s) :
  VM X f (rI C fun i j=>.int (g i j)):=by
 intro aa s σ H x y v u Q I rx ry h
 obtain⟨i,j,rfl,rfl,hc,q⟩:=h
 obtain⟨t,rfl⟩:=rx
 obtain⟨t',rfl⟩:=ry
 exact rule i j t t' s _ _ hc ⟨.int (g i j),H,I.tok _,⟨_,O⟩,q⟩
theorem Qdg 
  (rule:∀ (i j:Int) (t u:V4) (s:UM) (Q:L'→UM→Prop) (E:L'→UM→Prop),Q (.int (g i j) s.toks) {s with toks:=s.toks+1}→M' (UJ X.prog X.w) X.A (f (.int i t) (.int j u)) Q E s) :
  VM X f (Yo fun i j=>.int (g i j)):=by
 intro aa s σ H x y v u Q I rx ry h
 obtain⟨i,j,rfl,rfl,q⟩:=h
 obtain⟨t,rfl⟩:=rx
 obtain⟨t',rfl⟩:=ry
 exact rule i j t t' s _ _ ⟨.int (g i j),H,I.tok _,⟨_,O⟩,q⟩
theorem QaC {g:Int→Int→Bool}
  (rule:∀ (i j:Int) (t u:V4) (s:UM) (Q:L'→UM→Prop) (E:L'→UM→Prop),Q (.bool (g i j)) s→M' (UJ X.prog X.w) X.A (f (.int i t) (.int j u)) Q E s) :
  VM X f (Yo fun i j=>.bl (g i j)):=by
 intro aa s σ H x y v u Q I rx ry h
 obtain⟨i,j,rfl,rfl,q⟩:=h
 obtain⟨t,rfl⟩:=rx
 obtain⟨t',rfl⟩:=ry
 exact rule i j t t' s _ _ ⟨.bl (g i j),H,I,O,q⟩
def Qg9 (i j:Int):Prop:=0<j∧j<1073741824
def Qha (i j:Int):Prop:=0≤j∧j≤1000000∧i.natAbs<2 ^ 64
def QbF (i j:Int):Prop:=(-(2 ^ 64)<i∧i<2 ^ 64)∨(-(2 ^ 64)<j∧j<2 ^ 64)
theorem QbF.ok {i j:Int} (h:QbF i j):IntMulOk i j:=by
 rcases h with⟨h1,h2⟩|⟨h1,h2⟩
 .exact .of_left (intBits_le_64 h1 h2)
 .exact .of_right (intBits_le_64 h1 h2)
theorem nR:VM X (Xu .Add) (Yo fun i j=>.int (i+j)):=Qdg fun _ _ _ _ _ _ _ q=>add_int q
theorem jJ:VM X (Xu .Sub) (Yo fun i j=>.int (i-j)):=Qdg fun _ _ _ _ _ _ _ q=>sub_int q
theorem rN:VM X (Xu .Mult) (rI QbF fun i j=>.int (i*j)):=opI fun _ _ _ _ _ _ _ hc q=>mul_int q hc.ok
theorem Km:VM X (Xu .FloorDiv) (rI Qg9 fun i j=>.int (i / j)):=opI fun i j _ _ _ _ _ hc q=>by
 have h1:(0:Int)<j:=hc.1
 have h2:j<1073741824:=hc.2
 exact floordiv_int (by lia) (by rw[Int.fdiv_eq_ediv_of_nonneg i (by lia)];exact q) (.inl (PyProof.noPylong_small (by lia)))
theorem ke:VM X (Xu .Mod) (rI (fun _ j=>0<j) fun i j=>.int (i % j)):=opI fun i j _ _ _ _ _ hc q=>by
 have h1:(0:Int)<j:=hc
 exact mod_int' (by lia) (by rw[Int.fmod_eq_emod_of_nonneg i (by lia)];exact q)
theorem Fb:VM X (Xu .Pow) (rI Qha fun i j=>.int (i ^ j.toNat)):=opI fun _ _ _ _ _ _ _ hc q=>pow_int_small hc.1 hc.2.1 hc.2.2 q
theorem unI {f:L'→V9 L'}{g:Int→Int}
  (rule:∀ (i:Int) (t:V4) (s:UM) (Q:L'→UM→Prop) (E:L'→UM→Prop),Q (.int (g i) s.toks) {s with toks:=s.toks+1}→M' (UJ X.prog X.w) X.A (f (.int i t)) Q E s) :
  UnR X f (rU fun i=>.int (g i)):=by
 intro aa s σ H x v Q I rx h
 obtain⟨i,rfl,q⟩:=h
 obtain⟨t,rfl⟩:=rx
 exact rule i t s _ _ ⟨.int (g i),H,I.tok _,⟨_,O⟩,q⟩
theorem Qhb:UnR X (unaryOp .USub) (rU fun i=>.int (-i)):=unI fun _ _ _ _ _ q=>neg_int q
end
def Qdh:V→V→Bool
 | .UU,.UU=>B' | .UU,.int _=>B' | .int _,.UU=>B' | .UU,.bl _=>B' | .bl _,.UU=>B' | .UU,.str _=>B' | .str _,.UU=>B'
 | .int _,.int _=>B' | .bl _,.bl _=>B' | .str _,.str _=>B' | .byt _,.byt _=>B'
 | .int _,.str _=>B' | .str _,.int _=>B' | .bl _,.str _=>B' | .str _,.bl _=>B'
 | _,_=>K'
def rEq:R2:=fun x y H Q=>Qdh x y=B'∧Q (.bl (decide (x=y))) H
def rNe:R2:=fun x y H Q=>Qdh x y=B'∧Q (.bl (!decide (x=y))) H
theorem CJ {i j:Int}:decide (V.int i=V.int j)=(i == j):=by
 rw[SS]
 simp
theorem DV {i j:Bool}:decide (V.bl i=V.bl j)=(i == j):=by
 rw[SS]
 simp
theorem Et {i j:C'}:decide (V.str i=V.str j)=(i == j):=by
 rw[SS]
 simp
theorem C6 {i j:Array UInt8}:decide (V.byt i=V.byt j)=(i.toList == j.toList):=by
 rw[SS]
 cases i
 cases j
 simp
section
variable {a b:U3}
theorem cu {Q:VK}{k k':Bool} (I:Inv X aa σ H s) (q:Q (.bl k) H) (e:k=k'):EP X aa σ Q (.bool k') s:=by
 subst e
 exact⟨.bl k,H,I,O,q⟩
theorem cF:VM X (Wp .Eq) rEq:=by
 intro aa s σ H x y v u Q I rx ry h
 obtain⟨hs,q⟩:=h
 cases x with
 | UU=>
  cases rx
  cases y with
  | UU=>cases ry;exact QoB (cu I q (by simp))
  | bl j=>cases ry;exact QoD (cu I q (by simp))
  | int j=>obtain⟨t',rfl⟩:=ry;exact QoC (cu I q (by simp))
  | str j=>obtain⟨t',rfl⟩:=ry;exact QoA (cu I q (by simp))
  | _=>exact UX (show K'=B' from hs) Rq
 | bl i=>
  cases rx
  cases y with
  | UU=>cases ry;exact QoF (cu I q (by simp))
  | bl j=>cases ry;exact eq_bool (cu I q DV)
  | str j=>obtain⟨t',rfl⟩:=ry;exact Qom (cu I q (by simp))
  | _=>exact UX (show K'=B' from hs) Rq
 | int i=>
  obtain⟨t,rfl⟩:=rx
  cases y with
  | UU=>cases ry;exact QoE (cu I q (by simp))
  | int j=>obtain⟨t',rfl⟩:=ry;exact eq_int (cu I q CJ)
  | str j=>obtain⟨t',rfl⟩:=ry;exact Qol (cu I q (by simp))
  | _=>exact UX (show K'=B' from hs) Rq
 | str i=>
  obtain⟨t,rfl⟩:=rx
  cases y with
  | UU=>cases ry;exact Qoz (cu I q (by simp))
  | bl j=>cases ry;exact Qok (cu I q (by simp))
  | int j=>obtain⟨t',rfl⟩:=ry;exact Qoj (cu I q (by simp))
  | str j=>obtain⟨t',rfl⟩:=ry;exact eq_str (cu I q Et)
  | _=>exact UX (show K'=B' from hs) Rq
 | byt i=>
  obtain⟨t,rfl⟩:=rx
  cases y with
  | byt j=>obtain⟨t',rfl⟩:=ry;exact PySem.W.eq_bytes (cu I q C6)
  | _=>exact UX (show K'=B' from hs) Rq
 | _=>cases y<;>exact UX (show K'=B' from hs) Rq
theorem nG:VM X (Wp .NotEq) rNe:=by
 intro aa s σ H x y v u Q I rx ry h
 obtain⟨hs,q⟩:=h
 cases x with
 | UU=>
  cases rx
  cases y with
  | UU=>cases ry;exact Qou (cu I q (by simp))
  | bl j=>cases ry;exact Qow (cu I q (by simp))
  | int j=>obtain⟨t',rfl⟩:=ry;exact Qov (cu I q (by simp))
  | str j=>obtain⟨t',rfl⟩:=ry;exact Qot (cu I q (by simp))
  | _=>exact UX (show K'=B' from hs) Rq
 | bl i=>
  cases rx
  cases y with
  | UU=>cases ry;exact Qoy (cu I q (by simp))
  | bl j=>cases ry;exact ne_bool (cu I q (WB not DV))
  | str j=>obtain⟨t',rfl⟩:=ry;exact Qoi (cu I q (by simp))
  | _=>exact UX (show K'=B' from hs) Rq
 | int i=>
  obtain⟨t,rfl⟩:=rx
  cases y with
  | UU=>cases ry;exact Qox (cu I q (by simp))
  | int j=>obtain⟨t',rfl⟩:=ry;exact ne_int (cu I q (WB not CJ))
  | str j=>obtain⟨t',rfl⟩:=ry;exact Qoh (cu I q (by simp))
  | _=>exact UX (show K'=B' from hs) Rq
 | str i=>
  obtain⟨t,rfl⟩:=rx
  cases y with
  | UU=>cases ry;exact Qos (cu I q (by simp))
  | bl j=>cases ry;exact Qog (cu I q (by simp))
  | int j=>obtain⟨t',rfl⟩:=ry;exact Qof (cu I q (by simp))
  | str j=>obtain⟨t',rfl⟩:=ry;exact ne_str (cu I q (WB not Et))
  | _=>exact UX (show K'=B' from hs) Rq
 | byt i=>
  obtain⟨t,rfl⟩:=rx
  cases y with
  | byt j=>obtain⟨t',rfl⟩:=ry;exact PySem.W.ne_bytes (cu I q (WB not C6))
  | _=>exact UX (show K'=B' from hs) Rq
 | _=>cases y<;>exact UX (show K'=B' from hs) Rq
theorem pc:VM X (Wp .Lt) (Yo fun i j=>.bl (decide (i<j))):=QaC fun _ _ _ _ _ _ _ q=>lt_int q
theorem Qdi:VM X (Wp .LtE) (Yo fun i j=>.bl (decide (i≤j))):=QaC fun _ _ _ _ _ _ _ q=>le_int q
theorem rC:VM X (Wp .Gt) (Yo fun i j=>.bl (decide (j<i))):=QaC fun _ _ _ _ _ _ _ q=>gt_int q
theorem oW:VM X (Wp .GtE) (Yo fun i j=>.bl (decide (j≤i))):=QaC fun _ _ _ _ _ _ _ q=>ge_int q
theorem Ef:VM X (Wp .In) (fun x y H Q=>∃ i j,x=.str i∧y=.str j∧Q (.bl (!(ZO j i 0 j.length 1).isEmpty)) H):=by
 intro aa s σ H x y v u Q I rx ry h
 obtain⟨i,j,rfl,rfl,q⟩:=h
 obtain⟨t,rfl⟩:=rx
 obtain⟨t',rfl⟩:=ry
 exact in_str (cu I q O)
theorem aY (b:U3) (h:op≠.In:=by decide) (h2:op≠.NotIn:=by decide):Y6 op b=K':=by
 have e1:(op == Qgv)=K':=by cases op<;>first|rfl|exact UX O h
 have e2:(op == Qf1)=K':=by cases op<;>first|rfl|exact UX O h2
 cases b<;>simp[Y6,e1,e2]
theorem kn (ho:VM X (Wp op) r) (ha:PE X a ta) (hb:PE X b tb) (hm:Y6 op b=K'):PE X (.Compare a [op] [b] pos) (YM r ta tb):=by
 intro aa s σ H Q I h
 exact wpAny_Compare1 (QbE ha hb I h fun v u s2 x y H2 I2 rx ry q=>ho aa s2 σ H2 x y v u Q I2 rx ry q) hm
inductive Qhc (Q:(Bool→Hp→Prop)) (x:V) (H':Hp):Prop
 | mk (k:_) (_:x=.bl k) (_:Q k H')
def Qhd (t:TE):TT:=fun σ H Q=>t σ H fun x H'=>Qhc Q x H'
theorem bb (ho:VM X (Wp op) r) (ha:PE X a ta) (hb:PE X b tb) (hm:Y6 op b=K'):PT X (.Compare a [op] [b] pos) (Qhd (YM r ta tb)):=by
 intro aa s σ H Q I h
 refine Uk (UV (ha aa s σ H _ I h) fun v s1=>L2.U7 fun x H1 I1 r1 q1=>UV (hb aa s1 σ H1 _ I1 q1) fun u s2=>L2.U7 fun y H2 I2 r2 q2=>
  UV (ho aa s2 σ H2 x y v u _ I2 r1 r2 q2) fun c s3 ⟨z,H3,I3,r3,k,e,q3⟩=>?_) hm
 subst e
 cases r3
 exact Sd ⟨H3,I3,q3⟩
def QbG (K:R') (x:V) (H:Hp) (k:Bool):Prop:=
 match x with
 | .UU=>k=K'
 | .bl b=>k=b
 | .int i=>k=(i != 0)
 | .str y=>y.length≤S'∧k=((y.length:Int) != 0)
 | .byt y=>y.size≤S'∧k=((y.size:Int) != 0)
 | .ref p=>(∃ xs,P' K H p xs∧k=!xs.isEmpty)∨(∃ xs,U4 K H p xs∧k=!xs.isEmpty)∨∃ kvs,H p=f' (.dK kvs)∧k=!kvs.isEmpty
 | _=>False
theorem ME {κ:Type}{kvs:List (κ×V)}{vs:List (κ×L')} (r:KV kvs vs):(!vs.isEmpty)=!kvs.isEmpty:=by
 cases r<;>rfl
theorem FF {ah:List L'} (r:aA xs ah):(!ah.toArray.isEmpty)=!xs.isEmpty:=by
 cases r<;>simp
theorem lX:(S':Nat)<2 ^ 63:=by rw[Rh];decide
theorem EN:Qg7 X (fun x H Q=>∃ k,QbG X.K x H k∧Q k H):=by
 intro aa s σ H x v Q I rx h
 obtain⟨k,e,q⟩:=h
 have hl:=lX
 have hs:S'=16777216:=Rh
 cases x with
 | UU=>
  cases rx
  have e':k=K':=e
  subst e'
  exact truthy_none ⟨H,I,q⟩
 | bl b=>
  cases rx
  have e':k=b:=e
  subst e'
  exact Sd ⟨H,I,q⟩
 | int i=>
  obtain⟨t,rfl⟩:=rx
  have e':k=(i != 0):=e
  subst e'
  exact PySem.P.truthy_int ⟨H,I,q⟩
 | str y=>
  obtain⟨t,rfl⟩:=rx
  obtain⟨hy,e'⟩:y.length≤S'∧k=((y.length:Int) != 0):=e
  subst e'
  exact PySem.P.truthy_str (by lia) ⟨H,I.tok _,q⟩
 | byt y=>
  obtain⟨t,rfl⟩:=rx
  obtain⟨hy,e'⟩:y.size≤S'∧k=((y.size:Int) != 0):=e
  subst e'
  exact PySem.W.truthy_bytes (by lia) ⟨H,I.tok _,q⟩
 | ref p=>
  cases rx
  have e':(∃ xs,P' X.K H p xs∧k=!xs.isEmpty)∨(∃ xs,U4 X.K H p xs∧k=!xs.isEmpty)∨∃ kvs,H p=f' (.dK kvs)∧k=!kvs.isEmpty:=e
  rcases e' with⟨xs,hx,e'⟩|⟨xs,hx,e'⟩|⟨kvs,hx,e'⟩
  .subst e'
   obtain⟨ah,r,pl,hz⟩:=I.list hx
   have av:=r.length
   exact wpAny_truthy_list pl.isList (by simp only[Rl];lia) ⟨H,I.tok _,by rw[FF r];exact q⟩
  .subst e'
   obtain⟨ah,r,pl,hz⟩:=I.tuple hx
   have av:=r.length
   exact truthy_tuple pl (by simp only[Rl];lia) ⟨H,I.tok _,by rw[FF r];exact q⟩
  .subst e'
   obtain⟨hz,hS,vs,r,m⟩:kvs.length≤S'∧(p == Wm)=K'∧∃ vs,KV kvs vs∧s.heap.DictOf (b9 X.prog X.w) p vs:=I.UP p _ hx
   have av:kvs.length=vs.length:=Qbk r
   exact wpAny_truthy_dict hS m (by lia) ⟨H,I.tok _,by rw[ME r];exact q⟩
 | _=>exact(show False from e).elim
theorem Ko (ha:PE X a ta) (he:∀ dB,ZT a X.env dB=(do let v ← dB;YE a.pos;Xv [v] (truthy v))) :
  PT X a (fun σ H Q=>ta σ H fun x H'=>∃ k,QbG X.K x H' k∧Q k H'):=by
 intro aa s σ H Q I h
 exact isTrue_plain (UV (ha aa s σ H _ I h) fun v s1=>L2.U7 fun x H1 I1 r1 q1=>EN aa s1 σ H1 x v Q I1 r1 q1) (he _)
theorem rF:VM X (Xu .Add) (fun x y H Q=>∃ i j,x=.str i∧y=.str j∧i.length+j.length≤S'∧Q (.str (i++j)) H):=by
 intro aa s σ H x y v u Q I rx ry h
 obtain⟨i,j,rfl,rfl,hz,q⟩:=h
 obtain⟨t,rfl⟩:=rx
 obtain⟨t',rfl⟩:=ry
 exact add_str (fun t' tk=>⟨.str (i++j),H,I.tok _,⟨_,O⟩,q⟩) hz
theorem gY (r:aA [x] us):∃ u,us=[u]∧aC x u:=by
 cases r with
 | cons r1 r2=>cases r2;exact⟨_,O,r1⟩
theorem nJ (r:aA [x,y] us):∃ u w',us=[u,w']∧aC x u∧aC y w':=by
 cases r with
 | cons r1 r2=>
  cases r2 with
  | cons r3 r4=>cases r4;exact⟨_,_,O,r1,r3⟩
theorem Du:fZ X (.type "str") (fun xs H Q=>∃ i,xs=[.int i]∧i.natAbs.log2<1920∧Q (.str (toString i)) H):=by
 intro aa s σ H xs us Q I r h
 obtain⟨i,rfl,hz,q⟩:=h
 obtain⟨u,rfl,t,rfl⟩:=gY r
 exact PySem.P.str_of_int hz ⟨.str _,H,I.tok _,⟨_,O⟩,q⟩
end
structure nM (h:Vb) (x dx C:F') (mA:C'→Option L'):Prop where
 obj:h.get? x=f' (Yx C dx)
 ns:h.Ns1 dx mA
 ne:dx≠x
theorem zu (n:h.Ns1 dx mA):∃ od,h.get? dx=f' od∧∀ name,Qbf name od=f' (mA name):=by
 obtain⟨o,es,ep,ho,hd,hk,_,hm⟩:=n
 refine⟨o,ho,fun name=>?_⟩
 have e:=hm name
 unfold nsFind findBy at e
 rw[← Array.find?_toList] at e
 unfold Qbf
 rw[hd]
 dsimp only
 split
 .rename_i y q
  rw[q] at e
  exact WB f' e
 .rename_i q
  rw[q] at e
  have a:es.toList.any (·.refKey)=K':=by
   rw[List.any_eq_false]
   intro y hy
   obtain⟨z,t,d8⟩:=hk y (Array.mem_toList_iff.mp hy)
   simp[DictEntry.refKey,d8]
  have a':¬ es.toList.any (·.refKey)=B':=by rw[a];exact Rq
  rw[UL a']
  exact WB f' e
theorem nM.look {x:F'} (I:nM h x dx C mA):∃ od,Yy h x (Yx C dx) C (f' od)∧∀ name,Qbf name od=f' (mA name):=
 let ⟨od,ho,hl⟩:=zu I.ns
 ⟨od,⟨I.obj,rfl,rfl,ho⟩,hl⟩
section
variable {K:R'}{x f:F'}{v:L'}
theorem Ox (X:K.In s.heap) (I:nM s.heap x dx C mA) (hg:Qa8 K C name=B') (hh:ZD K C=B')
  (ha:V0 K (.ref C) name=f' i') (hv:mA name=f' v) (cX:Qcx v=B') (h:Q v {s with toks:=s.toks+1}) :
  M' (UJ prog w) A (Qaw (.ref x) name kA) Q E s:=by
 obtain⟨od,J,hl⟩:=I.look
 exact PySem.W.get_value X J (Qco hg).1 (Qe2 hh ha O (by rw[hl,hv])) cX h
theorem Pr {Q:L'×List L'→UM→Prop} (X:K.In s.heap) (I:nM s.heap x dx C mA) (hg:Qa8 K C name=B')
  (hf:V0 K (.ref C) name=f' (f' (.ref f))) (ht:Yz K (.ref f)=B') (hv:mA name=i') (h:Q (.ref f,[.ref x]) s) :
  M' (UJ prog w) A (Zc (.ref x) name pl) Q E s:=by
 obtain⟨od,J,hl⟩:=I.look
 exact PySem.W.method_fn X J (Qco hg).1 (Qco hg).2 hf (Wo.mp ht) (by show(Qbf name od).map (·.isSome)=f' K';rw[hl,hv];rfl) h
theorem OP {ns:List C'}{Q:Unit→UM→Prop} (X:K.In s.heap) (I:nM s.heap x dx C mA)
  (hs:V0 K (.ref C) "__setattr__"=f' (f' (.builtin "object.__setattr__"))) (hp:Qe9 K C=B') (ht:Qbc K C name=f' i') (hh:ZD K C=B')
  (hw:QcM mA ns) (hsz:ns.length≤S')
  (h:∀ h',nM h' x dx C (fun y=>if y=name then f' v else mA y)→XR dx s.heap h'→Q () {s with heap:=h',toks:=s.toks+2}) :
  M' (UJ prog w) A (setAttr (.ref x) name v) Q E s:=by
 obtain⟨od,J,hl⟩:=I.look
 refine Qe8 X J hs (PySem.W.osa_open (s:={s with toks:=s.toks+1}) (r:=i') X J hp ht fun b=>?_)
 obtain⟨cd,hc,cZ⟩:=ZH hh
 have hx:s.heap.get? x=f' ⟨.ref C,f' dx,.plain,#[]⟩:=I.obj
 refine mK (Rb (mK (mK (TL hx (mK (Y1 (s:={s with toks:=s.toks+1}) (Qcp X hc) ?_))))))
 rw[cZ]
 refine Rb (a:=f' dx) (mK (Rb (mK ?_)))
 refine wpAny_nsSet1 (s:={s with toks:=s.toks+1}) I.ns fun h' nj fQ=>?_
 obtain⟨oD,Ju,IY,wo,vC,js⟩:=nj.count (Qoq name v hw)
 refine mK (Qf4 wo (by rw[vC];exact Qf9 (RZ js (by rw[Rn];lia))) ?_)
 exact Rb (h _ ⟨(fQ.2 _ (US I.ne)).trans I.obj,nj,I.ne⟩ fQ)
theorem Qq (X:K.In s.heap) (hm:Qcz K C=B')
  (hi:V0 K (.ref C) "__init__"=f' (f' (.ref f))) (hf:Wk K (.ref f)=f' (.type "function"))
  (h:Wq (UJ prog w) (A.under (.builtin "type.__call__" ⟨.ref C::vs,kw⟩)) (.call (.ref f) ⟨.ref (s.heap.objs.size+1)::vs,kw⟩) (PySem.W.InitBack (s.heap.objs.size+1) R)
   {s with heap:=(s.heap.push Ya).push (Yx C s.heap.objs.size)}) :
  Wq (UJ prog w) A (.call (.ref C) ⟨vs,kw⟩) R s:=by
 obtain⟨hh,g,d,t,os⟩:=s
 exact PySem.W.make_core (PySem.W.makes_of X hm) (XI X hi) (fun self=>PySem.W.bind_fn X self hf) (.inl O) h
end
def aR (f:C') (v:V):List (C'×V)→List (C'×V)
 | []=>[(f,v)]
 | (g,x)::r=>if g=f then(g,v)::r else(g,x)::aR f v r
theorem Fj (f g:C') (v:V):∀ fs:List (C'×V),(aR f v fs).lookup g=if g=f then f' v else fs.lookup g
 | []=>by
  show Y7 g [(f,v)]=_
  by_cases h:g=f
  .have hb:(g == f)=B':=Wo.mpr h
   simp only[Y7,hb,UN h]
  .have hb:(g == f)=K':=ZF.mpr h
   simp only[Y7,hb,UL h]
 | (k,x)::r=>by
  have ih:=Fj f g v r
  rw[show aR f v ((k,x)::r)=(if k=f then(k,v)::r else(k,x)::aR f v r) from rfl]
  by_cases hk:k=f
  .rw[UN hk]
   by_cases h:g=k
   .have hb:(g == k)=B':=Wo.mpr h
    simp only[Y7,hb,UN (h.trans hk)]
   .have hb:(g == k)=K':=ZF.mpr h
    simp only[Y7,hb,UL (fun e:g=f=>h (e.trans hk.symm))]
  .rw[UL hk]
   by_cases h:g=k
   .have hb:(g == k)=B':=Wo.mpr h
    simp only[Y7,hb,UL (fun e:g=f=>hk (h.symm.trans e))]
   .have hb:(g == k)=K':=ZF.mpr h
    simp only[Y7,hb]
    exact ih
theorem zR (f:C') (v:V):∀ fs:List (C'×V),f∈(aR f v fs).map (·.1)∧∀ g,g∈fs.map (·.1)→g∈(aR f v fs).map (·.1)
 | []=>⟨by simp[aR],fun g h=>by simp at h⟩
 | (k,x)::r=>by
  obtain⟨i1,i2⟩:=zR f v r
  rw[show aR f v ((k,x)::r)=(if k=f then(k,v)::r else(k,x)::aR f v r) from rfl]
  by_cases hk:k=f
  .rw[UN hk]
   subst hk
   exact⟨by simp,fun g h=>by simpa using h⟩
  .rw[UL hk]
   refine⟨?_,fun g h=>?_⟩
   .rw[RS]
    exact Rk _ i1
   .rw[RS] at h ⊢
    rcases RY.mp h with e|e
    .exact RY.mpr (.inl e)
    .exact Rk _ (i2 g e)
theorem CM (f:C') (v:V):∀ fs:List (C'×V),(aR f v fs).length≤fs.length+1
 | []=>by simp[aR]
 | (k,x)::r=>by
  have ih:=CM f v r
  rw[show aR f v ((k,x)::r)=(if k=f then(k,v)::r else(k,x)::aR f v r) from rfl]
  by_cases hk:k=f
  .rw[UN hk,Rn,Rn];lia
  .rw[UL hk,Rn,Rn];lia
theorem ee.some_of (r:ee (f' v) o):∃ u,o=f' u∧aC v u:=by
 cases o with
 | none=>exact(show False from r).elim
 | some u=>exact⟨u,O,r⟩
theorem ee.none_of (r:ee i' o):o=i':=by
 cases o with
 | none=>rfl
 | some u=>exact(show False from r).elim
theorem EC (r:aC v u):Qcx u=B':=by
 cases v with
 | UU=>cases (show u=Vq from r);rfl
 | bl b=>cases (show u=W7 b from r);rfl
 | int i=>obtain⟨t,e⟩:=(show ∃ t,u=XT i t from r);cases e;rfl
 | str x=>obtain⟨t,e⟩:=(show ∃ t,u=ZP x t from r);cases e;rfl
 | byt b=>obtain⟨t,e⟩:=(show ∃ t,u=QfY b t from r);cases e;rfl
 | Yl b=>obtain⟨t,e⟩:=(show ∃ t,u=QcP b t from r);cases e;rfl
 | ref a=>cases (show u=UW a from r);rfl
 | ty n=>cases (show u=YB n from r);rfl
section
variable {fs HE:List (C'×V)}
theorem uG (UP:VD P w H h) (e:H a=f' (.ins C dx fs)):∃ mA,nM h a dx C mA∧(∀ f,ee (fs.lookup f) (mA f))∧QcM mA (fs.map (·.1))∧fs.length≤1000∧H dx=f' (.own a):=by
 obtain⟨d,z,ne,ob,mA,n,r,q⟩:=(show cR P w H h a (.ins C dx fs) from UP a _ e)
 exact⟨mA,⟨ob,n,ne⟩,r,q,z,d⟩
end
structure Wd (K:R') (C:F'):Prop where
 pg:Qa8 K C Vy=B'
 hd:ZD K C=B'
 po:Qe9 K C=B'
 sa:V0 K (.ref C) "__setattr__"=f' (f' (.builtin "object.__setattr__"))
theorem Wd.get {K:R'}{C:F'} (c:Wd K C) (f:C'):Qa8 K C f=B':=c.pg
def zbj (K:R') (C:F') (f:C'):Prop:=V0 K (.ref C) f=f' i'
theorem zbj.Qhe {K:R'}{f:C'} (n:zbj K C f):Qbc K C f=f' i':=by
 unfold Qbc
 rw[show V0 K (.ref C) f=f' i' from n]
 rfl
structure Con (K:R') (C:F') (f:C') (v:V) (u:L'):Prop where
 at_:V0 K (.ref C) f=f' (f' u)
 rel:aC v u
 get:Qct K u "__get__"=f' i'
 cp:PySem.W.copiedNames.contains f=K'
structure Z3 (K:R') (C:F') (m:C') (f:F'):Prop where
 at_:V0 K (.ref C) m=f' (f' (.ref f))
 fn:Yz K (.ref f)=B'
 kp:W5 K (.ref f)=B'
section
variable {fs:List (C'×V)}{f:C'}
theorem OS (I:Inv X aa σ H s) (e:H a=f' (.ins C dx fs)) (c:Wd X.K C) (n:zbj X.K C f) (l:fs.lookup f=f' v)
  (h:∀ u s',Inv X aa σ H s'→aC v u→Q u s'):M' (UJ X.prog X.w) A (Qaw (.ref a) f b) Q E s:=by
 obtain⟨mA,U0,r,_,_,_⟩:=uG I.UP e
 obtain⟨u,hu,ru⟩:=ee.some_of (v:=v) (o:=mA f) (by rw[← l];exact r f)
 exact Ox I.Ve U0 (c.get f) c.hd n hu (EC ru) (h u _ (I.tok _) ru)
theorem yA {g:F'}{Q:L'×List L'→UM→Prop} (I:Inv X aa σ H s) (e:H a=f' (.ins C dx fs)) (c:Wd X.K C) (k:Z3 X.K C m g) (l:fs.lookup m=i')
  (h:Q (.ref g,[.ref a]) s):M' (UJ X.prog X.w) A (Zc (.ref a) m pl) Q E s:=by
 obtain⟨mA,U0,r,_,_,_⟩:=uG I.UP e
 have hn:mA m=i':=ee.none_of (by rw[← l];exact r m)
 exact Pr I.Ve U0 (c.get m) k.at_ k.fn hn h
theorem Ou {Q:Unit→UM→Prop} (I:Inv X aa σ H s) (e:H a=f' (.ins C dx fs)) (c:Wd X.K C) (n:zbj X.K C f) (hl:fs.length<1000) (ry:aC y u)
  (h:∀ s',Inv X aa σ (upd H a (.ins C dx (aR f y fs))) s'→Q () s'):M' (UJ X.prog X.w) A (setAttr (.ref a) f u) Q E s:=by
 obtain⟨mA,U0,r,wi,_,ho⟩:=uG I.UP e
 have hz:(fs.map (·.1)).length≤S':=by rw[Q9,Rh];lia
 refine OP I.Ve U0 c.sa c.po n.Qhe c.hd wi hz fun h' O' sb=>h _ ?_
 have hd:∃ o,h'.get? dx=f' o:=let ⟨o,_,_,e',_⟩:=O'.ns;⟨o,e'⟩
 refine I.write (x:=a) (e:=dx) (by rw[e];exact Wz) (.inr ho) (fun b q hb z=>(sb.2 b hb).trans z) hd ?_
 refine⟨by rw[aj U0.ne];exact ho,?_,U0.ne,O'.obj,_,O'.ns,fun g=>?_,fun g hg=>?_⟩
 .have:=CM f y fs;lia
 .show ee ((aR f y fs).lookup g) (if g=f then f' u else mA g)
  rw[Fj]
  by_cases q:g=f
  .rw[UN q,UN q];exact ry
  .rw[UL q,UL q];exact r g
 .by_cases q:g=f
  .rw[q];exact(zR f y fs).1
  .refine(zR f y fs).2 g (wi g fun z=>hg ?_)
   show(if g=f then f' u else mA g)=i'
   rw[UL q];exact z
theorem Inv.made (I:Inv X aa σ H s):Inv X aa σ (upd (upd H s.heap.objs.size (.own (s.heap.objs.size+1))) (s.heap.objs.size+1) (.ins C s.heap.objs.size []))
  {s with heap:=(s.heap.push Ya).push (Yx C s.heap.objs.size)}:=by
 have e1:(s.heap.push Ya).get? s.heap.objs.size=f' Ya:=Ri s.heap rfl
 have e2:((s.heap.push Ya).push (Yx C s.heap.objs.size)).get? (s.heap.objs.size+1)=f' (Yx C s.heap.objs.size):=by
  have:=Ri (s.heap.push Ya) (o:=Yx C s.heap.objs.size) rfl
  rwa [RL] at this
 have e3:(s.heap.push Ya).Ns s.heap.objs.size (fun _=>i'):=⟨Ya,#[],_,e1,O,(fun e he=>UX he (by simp)),fun _=>O⟩
 have I1:=I.laid (a:=s.heap.objs.size) (o:=.own (s.heap.objs.size+1)) (h':=s.heap.push Ya) (t':=s.toks) (fun b u q=>Ra _ q) (Re _) ⟨_,e1⟩
 refine I1.laid (a:=s.heap.objs.size+1) (o:=.ins C s.heap.objs.size []) (t':=s.toks) (fun b u q=>Ra _ q) (Te (RL _ _)) ?_
 have ne:s.heap.objs.size≠s.heap.objs.size+1:=Rj (Si _)
 refine⟨by rw[aj ne,ag],R6 _,ne,e2,fun _=>i',(UE e3).at fun o q=>Ra _ q,fun _=>Wz,fun y hy=>UX O hy⟩
theorem B4 {f:C'} (hb:Yc e f env (U2 e env)=U2 e env)
  (h:M' (UJ prog w) A (U2 e env) (fun o s₁=>M' (UJ prog w) A (Qaw o f B') Q E s₁) E s):M' (UJ prog w) A (U2 (.Attribute e f pos) env) Q E s:=
 Attribute_any_ h (by rw[arm_eval_Attribute,hb])
end
inductive Qhf (K:R') (f:C') (Q:VK) (x:V) (H1:Hp):Prop
 | mk (a C dx fs v:_) (_:x=.ref a) (_:H1 a=f' (.ins C dx fs)) (_:Wd K C) (_:zbj K C f) (_:fs.lookup f=f' v) (_:Q v H1)
def Qhg (K:R') (ta:TE) (f:C'):TE:=fun σ H Q=>ta σ H fun x H1=>Qhf K f Q x H1
inductive Qhh (K:R') (f:C') (D:eJ) (σ:St) (y:V) (x:V) (H2:Hp):Prop
 | mk (a C dx fs:_) (_:x=.ref a) (_:H2 a=f' (.ins C dx fs)) (_:Wd K C) (_:zbj K C f) (_:fs.length<1000) (_:D.nx σ (upd H2 a (.ins C dx (aR f y fs))))
def Qhi (K:R') (ta tv:TE) (f:C'):TS:=fun D σ H=>tv σ H fun y H1=>ta σ H1 fun x H2=>Qhh K f D σ y x H2
section
variable {o value:U3}{f:C'}{tv:TE}
theorem bw (he:PE X e ta) (hb:Yc e f X.env (U2 e X.env)=U2 e X.env):PE X (.Attribute e f pos) (Qhg X.K ta f):=by
 intro aa s σ H Q I h
 refine B4 hb (UV (he aa s σ H _ I h) fun u s1=>L2.U7 fun x H1 I1 rx aW=>?_)
 obtain⟨a,C,dx,fs,v,ex,ea,c,n,l,q⟩:=aW
 subst ex
 obtain rfl:u=UW a:=rx
 exact OS I1 ea c n l fun u' s2 I2 ru=>⟨v,H1,I2,ru,q⟩
theorem eh (ha:PE X o ta) (hv:PE X value tv) (hs:ZQ value (f' (.Attribute o f br)) pos.line X.env=pure K'):PS X (.Assign [.Attribute o f br] value pos) (Qhi X.K ta tv f):=by
 intro aa s σ H D I h
 refine QeJ (UV (hv aa s σ H _ I h) fun u s1=>L2.U7 fun y H1 I1 ry q=>UV (ha aa s1 σ H1 _ I1 q) fun ov s2=>L2.U7 fun x H2 I2 rx aW=>?_) hs
 obtain⟨a,C,dx,fs,ex,ea,c,n,l,q2⟩:=aW
 subst ex
 obtain rfl:ov=UW a:=rx
 exact Ou I2 ea c n l ry fun s3 I3=>⟨σ,_,I3,q2⟩
end
section
variable {c:L'}
inductive iO (K:R') (H:Hp):V→L'→Prop where
 | UU:iO K H .UU (.type "NoneType")
 | bl (x:Bool):iO K H (.bl x) (.type "bool")
 | int (i:Int):iO K H (.int i) (.type "int")
 | str (x:C'):iO K H (.str x) (.type "str")
 | Yl (x:UInt64):iO K H (.Yl x) (.type "float")
 | lst {a:F'}{xs:List V} (e:H a=f' (.lst xs)):iO K H (.ref a) (.type "list")
 | UZ {a:F'}{o:U6}{xs:List V} (e:H a=f' (.UZ o (.lst xs))):iO K H (.ref a) (.type "list")
 | tup {a:F'}{xs:List V} (e:H a=f' (.tup xs)):iO K H (.ref a) (.type "tuple")
 | dK {a:F'}{kvs:List (Key×V)} (e:H a=f' (.dK kvs)):iO K H (.ref a) (.type "dict")
 | dT {a:F'}{kvs:List (List Key×V)} (e:H a=f' (.dT kvs)):iO K H (.ref a) (.type "dict")
 | ins {a C dx:F'}{fs:List (C'×V)} (e:H a=f' (.ins C dx fs)) (cl:Wd K C) (ha:V0 K (.ref C) "__class__"=f' (f' (.builtin "object.__class__")))
   (hn:Qct K (.builtin "object.__class__") "__get__"=f' (f' (.builtin "getset_descriptor.__get__"))) (htk:Qff K (.builtin "object.__class__")=f' B')
   (hm:Vn K C (.type "object")=f' B'):iO K H (.ref a) (.ref C)
theorem MS {t:L'} (I:Inv X aa σ H s) (rx:aC x u) (ty:iO X.K H x t) (e:UK X.K t c=f' b) (h:∀ tk,Q (.bool b) {s with toks:=tk}) :
  M' (UJ X.prog X.w) A (call (.builtin "isinstance") [u,c]) Q E s:=by
 cases ty with
 | UU=>cases (show u=Vq from rx);exact Xh PySem.W.kitx_none I.Ve Wz e (fun z=>nomatch z) h
 | bl y=>cases (show u=W7 y from rx);exact Xh PySem.W.kitx_bool I.Ve Wz e (fun z=>nomatch z) h
 | int i=>obtain⟨t,q⟩:=(show ∃ t,u=XT i t from rx);cases q;exact Xh PySem.W.kitx_int I.Ve Wz e (fun z=>nomatch z) h
 | str y=>obtain⟨t,q⟩:=(show ∃ t,u=ZP y t from rx);cases q;exact Xh PySem.W.kitx_str I.Ve Wz e (fun z=>nomatch z) h
 | Yl y=>obtain⟨t,q⟩:=(show ∃ t,u=QcP y t from rx);cases q;exact Xh PySem.W.kitx_float I.Ve Wz e (fun z=>nomatch z) h
 | @lst a xs ea=>
  cases (show u=UW a from rx)
  obtain⟨_,_,n,_,h1⟩:=(show cR X.prog X.w H s.heap a (.lst xs) from I.UP a _ ea)
  exact Xh Qfa I.Ve ⟨_,h1,O⟩ e (fun z=>nomatch z) h
 | @UZ a ob xs ea=>
  cases (show u=UW a from rx)
  obtain⟨_,_,_,n,_,h1⟩:=(show cR X.prog X.w H s.heap a (.UZ ob (.lst xs)) from I.UP a _ ea)
  exact Xh Qfa I.Ve ⟨_,h1,O⟩ e (fun z=>nomatch z) h
 | @tup a xs ea=>
  cases (show u=UW a from rx)
  obtain⟨_,_,_,p⟩:=(show cR X.prog X.w H s.heap a (.tup xs) from I.UP a _ ea)
  obtain⟨o,h1,h2,_⟩:=p
  exact Xh PySem.W.kitx_tuple I.Ve ⟨o,h1,h2⟩ e (fun z=>nomatch z) h
 | @dK a kvs ea=>
  cases (show u=UW a from rx)
  obtain⟨_,_,vs,_,p⟩:=(show cR X.prog X.w H s.heap a (.dK kvs) from I.UP a _ ea)
  obtain⟨o,es,ep,h1,h2,_⟩:=p
  exact Xh Qfb I.Ve ⟨o,h1,h2.1⟩ e (fun z=>nomatch z) h
 | @dT a kvs ea=>
  cases (show u=UW a from rx)
  obtain⟨_,_,xs,_,o,es,ep,h1,h2,_⟩:=(show cR X.prog X.w H s.heap a (.dT kvs) from I.UP a _ ea)
  exact Xh Qfb I.Ve ⟨o,h1,h2.1⟩ e (fun z=>nomatch z) h
 | @ins a C dx fs ea cl ha hn htk hm=>
  cases (show u=UW a from rx)
  obtain⟨mA,U0,_⟩:=uG I.UP ea
  obtain⟨od,J,_⟩:=U0.look
  exact Xh (PySem.W.kitx_own (cl.get _) cl.hd ha hn htk hm) I.Ve J e (fun z=>nomatch z) h
end
structure bu (k:Nat) (A:VX):Prop where
 dp:A.depth+3*k+5<Qgp
 un:A.units+16*k+200<VB
theorem bu.mono {j k:Nat} (r:bu k A) (h:j≤k):bu j A:=⟨by have:=r.dp;lia,by have:=r.un;lia⟩
theorem bu.deeper {k:Nat}{A:VX} (r:bu (k+1) A) (env:V5):bu k (A.deeper env):=
 ⟨by have:=r.dp;show A.depth+1+3*k+5<_;lia,by have:=r.un;show A.units+3+16*k+200<_;lia⟩
theorem MB:(A.under (.builtin "type.__call__" ⟨.ref C::us,kw⟩)).depth=A.depth+1:=by
 first|rfl|simp[QcK,Code.weight,Code.isCreation,Code.isGuard,Code.isCaller,Qge,QcO,guardIds]
theorem K2:(A.under (.builtin "type.__call__" ⟨.ref C::us,kw⟩)).units=A.units+1:=by
 first|rfl|simp[QcK,Code.cUnits,Qge,QcO]
theorem bu.make {k:Nat} (r:bu (k+1) A) (C:F') (us:List L') (kw:List (C'×L')):bu k (A.under (.builtin "type.__call__" ⟨.ref C::us,kw⟩)):=
 ⟨by have:=r.dp;rw[MB];lia,by have:=r.un;rw[K2];lia⟩
theorem bu.depth {k:Nat}{A:VX} (r:bu k A):A.depth<Qgp:=by have:=r.dp;lia
theorem bu.units {k:Nat}{A:VX} (r:bu k A):A.units+64<VB:=by have:=r.un;lia
def mj:TA:=fun _ H Q=>Q [] H
def Qdj (ta:TE) (tr:TA):TA:=fun σ H Q=>ta σ H fun x H1=>tr σ H1 fun xs H2=>Q (x::xs) H2
section
variable {t:TA}
theorem ai:PA X [] mj:=fun _ _ _ _ H Q I h=>ZE ⟨[],H,I,.nil,h⟩
theorem af (ha:PE X e te) (hr:PA X es t) (hs:U1 (e::es) X.env=(K',U2 e X.env)::U1 es X.env:=by rfl):PA X (e::es) (Qdj te t):=by
 intro pos aa s σ H Q I h
 rw[hs]
 show M' _ _ (spliced ((K',U2 e X.env)::Vx pos (U1 es X.env))) _ _ s
 refine Y2 (UV (ha aa s σ H _ I h) fun u s1=>L2.U7 fun x H1 I1 r1 q1=>?_)
 exact UV (hr pos aa s1 σ H1 _ I1 q1) fun us s2 ⟨xs,H2,I2,r2,q2⟩=>⟨x::xs,H2,I2,.cons r1 r2,q2⟩
def Qdk (t:TA):TE:=fun σ H Q=>t σ H fun xs H1=>xs.length≤S'∧∀ p,H1 p=i'→Q (.ref p) (upd H1 p (.tup xs))
def QbH (t:TA):TE:=fun σ H Q=>t σ H fun xs H1=>xs.length≤S'∧∀ p,H1 p=i'→Q (.ref p) (upd H1 p (.lst xs))
theorem gj {x1} (h:PA X es t):PE X (.Tuple es x1 pos) (Qdk t):=by
 intro aa s σ H Q I hq
 refine wpAny_Tuple_spliced (UV (h pos aa s σ H _ I hq) fun us s1 ⟨xs,H1,I1,r,z,q⟩=>⟨by rw[← r.length];exact z,?_⟩)
 have hf:H1 s1.heap.objs.size=i':=I1.UP.fresh (Re _)
 refine⟨.ref s1.heap.objs.size,upd H1 s1.heap.objs.size (.tup xs),I1.laid (t':=s1.toks) (fun b u e=>Ra _ e) (Re _) ?_,O,q _ hf⟩
 exact⟨z,us,r,⟨_,Ri _ O,O,_,O⟩⟩
theorem bY (h:PA X es t):PE X (.List es pos) (QbH t):=by
 intro aa s σ H Q I hq
 refine wpAny_List_spliced (UV (h pos aa s σ H _ I hq) fun us s1 ⟨xs,H1,I1,r,z,q⟩=>⟨by rw[← r.length];exact z,?_⟩)
 have hf:H1 s1.heap.objs.size=i':=I1.UP.fresh (Re _)
 refine⟨.ref s1.heap.objs.size,upd H1 s1.heap.objs.size (.lst xs),I1.laid (t':=s1.toks) (fun b u e=>Ra _ e) (Re _) ?_,O,q _ hf⟩
 exact⟨z,us,0,r,Ri _ O⟩
end
abbrev Sp:=List V→Hp→VK→XK→Prop
abbrev Xc:=List V5→Hp→UM→XK→L'→UM→Prop
structure nK (P:Vv) (w:VA) (K:R') (mg:C'→Option L') (base:Vb) (A:VX) (outer:List V5) (s:UM) (H:Hp):Prop where
 frames:A.frames=f' outer
 mod:Mod K mg base
 bs:∀ b o,base.get? b=f' o→s.heap.get? b=f' o∧H b=i'
 Xm:base.objs.size≤s.heap.objs.size
 WH:s.heap.FunFrames base outer
 Xz:∀ b∈VG outer,H b=i'
 UP:VD P w H s.heap
 bare:XW s.gens
 hd:jB A H
variable {CX:Xc}{E:XK}{Q:VK}{base:Vb}{f:F'}{fd:WV}{mg:C'→Option L'}{outer:List V5}{ps:List C'}{qual x:C'}{scope:WX}{sp:Sp}{t:TA}{vs:List V}
def CE (outer:List V5) (P:Vv) (w:VA) (H:Hp) (s:UM) (Q:VK) (u:L') (s':UM):Prop:=
 ∃ v H',s'.os=s.os∧XW s'.gens∧Un (VG outer) [] H H' s.heap s'.heap∧VD P w H' s'.heap∧aC v u∧Q v H'
def CR (CX:Xc) (outer:List V5) (P:Vv) (w:VA) (H:Hp) (s:UM) (Q:VK) (E:XK) (r:Result) (s':UM):Prop:=
 match r with
 | .ok (.ret u)=>CE outer P w H s Q u s'
 | .ok _=>False
 | .error e=>CX outer H s E e s'
structure cE (P:Vv) (w:VA) (K:R') (mg:C'→Option L') (base:Vb) (CX:Xc) (k:Nat) (f:F') (fd:WV) (ps:List C') (sp:Sp):Prop where
 len:∀ vs H Q E,sp vs H Q E→vs.length=ps.length
 run:∀ (A:VX) (outer:List V5) (s:UM) (H:Hp) (args:Args) (us:List L') (vs:List V) (Q:VK) (E:XK),bu k A→nK P w K mg base A outer s H→Ze s fd args (ps.zip us)→aA vs us→sp vs H Q E →
  Wq (UJ P w) A (.call (.ref f) args) (CR CX outer P w H s Q E) s
theorem nK.make {K:R'} (e:nK P w K mg base A outer s H) (C:F') (us:List L') (kw:List (C'×L')) :
  nK P w K mg base (A.under (.builtin "type.__call__" ⟨.ref C::us,kw⟩)) outer s H:=⟨by first|exact e.frames|(simpa [QcK,Code.envs,QcO,pushEnvs] using e.frames),e.mod,e.bs,e.Xm,e.WH,e.Xz,e.UP,e.bare,e.hd⟩
theorem Inv.Zl (I:Inv X aa σ H s):nK X.prog X.w X.K X.mg X.base X.A X.stack s H:=
 ⟨I.ok.frames,I.ok.mod,I.bs,RZ I.ok.Xm I.sz,I.stack,I.Qaz,I.UP,I.bare,I.X2⟩
theorem Inv.after (I:Inv X aa σ H s) (h:CE X.stack X.prog X.w H s Q u s'):EP X aa σ Q u s':=by
 obtain⟨v,H',os,bare,un,UP,r,q⟩:=h
 obtain⟨hh,g,d,t,tG⟩:=s'
 obtain rfl:tG=s.os:=os
 exact⟨v,H',I.call (h':=hh) (g':=g) (d':=d) (t':=t) (ch:=[]) un UP bare (fun b z=>UX z (by simp)),r,q⟩
def Qdl (sp:Sp) (aH:List V) (E:XK) (t:TA):TE:=fun σ H Q=>t σ H fun vs H1=>sp (vs++aH) H1 Q E
inductive Qhj (C:F') (m:C') (sp:Sp) (aH:List V) (E:XK) (t:TA) (σ:St) (Q:VK) (x:V) (H1:Hp):Prop
 | mk (a dx fs:_) (_:x=.ref a) (_:H1 a=f' (.ins C dx fs)) (_:fs.lookup m=i') (_:t σ H1 fun vs H2=>sp (x::(vs++aH)) H2 Q E)
def uq (C:F') (m:C') (sp:Sp) (aH:List V) (E:XK) (ta:TE) (t:TA):TE:=fun σ H Q=>ta σ H fun x H1=>Qhj C m sp aH E t σ Q x H1
def t6 (C:F') (sp:Sp) (aH:List V) (E:XK) (t:TA):TE:=fun σ H Q=>t σ H fun vs H1=>∀ x dx,H1 x=i'→H1 dx=i'→dx≠x →
 sp (.ref x::(vs++aH)) (upd (upd H1 dx (.own x)) x (.ins C dx [])) (fun v H2=>v=.UU∧Q (.ref x) H2) E
def dR (K:R') (fd:WV) (ps:List C') (ds:List L'):Prop:=
 ∀ (s:UM) (us:List L'),K.In s.heap→(us++ds).length=ps.length→Ze s fd ⟨us,[]⟩ (ps.zip (us++ds))
theorem dR.all {K:R'} (h:∀ us:List L',us.length=ps.length→Qav fd ⟨us,[]⟩=pure (ps.zip us)):dR K fd ps []:=fun s us _ hl=>by
 rw[SD] at hl ⊢
 exact .of_eq (h us hl)
def lw (CX:Xc) (X:Cx) (E:XK):Prop:=∀ (aa:List (F'×U6)) (σ:St) (H:Hp) (s:UM) (e:L') (s':UM),Inv X aa σ H s→CX X.stack H s E e s'→X.xe e s'
section
variable {k:Nat}{aH:List V}{ds:List L'}{p aI:VC}{o:U3}
theorem zi (F:cE X.prog X.w X.K X.mg X.base CX k f fd ps sp) (hr:bu k X.A) (hb:dR X.K fd ps ds) (hd:aA aH ds) (hx:lw CX X E)
  (I:Inv X aa σ H s) (r:aA vs us) (h:sp (vs++aH) H Q E):M' (UJ X.prog X.w) X.A (call (.ref f) us) (EP X aa σ Q) X.xe s:=by
 have r2:aA (vs++aH) (us++ds):=r.append hd
 have hl:(us++ds).length=ps.length:=by rw[← r2.length];exact F.len _ _ _ _ h
 refine Ss (YA (F.run X.A X.stack s H ⟨us,[]⟩ (us++ds) (vs++aH) Q E hr I.Zl (hb s us I.Ve hl) r2 h) fun r s' hq=>?_)
 cases r with
 | error e=>exact hx aa σ H s e s' I hq
 | ok fl=>
  cases fl with
  | ret u=>exact I.after hq
  | next=>exact VR hq
  | brk=>exact VR hq
  | cont=>exact VR hq
theorem Oo (F:cE X.prog X.w X.K X.mg X.base CX k f fd ps sp) (hr:bu k X.A) (hg:Gl X x) (hm:X.mg x=f' (.ref f)) (hk:W5 X.K (.ref f)=B') (hb:dR X.K fd ps ds) (hd:aA aH ds) (hx:lw CX X E)
  (ha:PA X (e::es) t) (Vo:(x == ("__debug__":C'))=K':=by decide) (he:U1 (e::es) X.env=(K',U2 e X.env)::U1 es X.env:=by rfl) (bH:(Vx pos (U1 es X.env)).any (·.1)=K':=by rfl) :
  PE X (.Call (.Name x p) (e::es) [] pos) (Qdl sp aH E t):=by
 intro aa s σ H Q I h
 refine RX (lq I hg hm ?_ Vo)
 refine Yv (h₀:=X.base) I.ok.mod.Xb hk (UV (ha pos aa s σ H _ I h) fun us s1=>L2.U7 fun vs H1 I1 r q=>⟨I1.Ve,?_⟩) he bH
 exact zi F hr hb hd hx I1 r q
theorem Nb (he:PE X o ta) (c:Wd X.K C) (hm:Z3 X.K C m f) (F:cE X.prog X.w X.K X.mg X.base CX k f fd ps sp) (hr:bu k X.A) (hb:dR X.K fd ps ds) (hd:aA aH ds) (hx:lw CX X E) (ha:PA X (e::es) t)
  (dZ:U1 (e::es) X.env=(K',U2 e X.env)::U1 es X.env:=by rfl) (bH:(Vx pos (U1 es X.env)).any (·.1)=K':=by rfl)
  (ht:U2 (.Call (.Attribute o m aI) (e::es) [] pos) X.env=(do
   let ov ← U2 o X.env
   YE aI.atName
   let (f,first) ← Xv [ov] (Zc ov m pl)
   Qau pos f first (Vx pos (U1 (e::es) X.env)) (Xl pos (Xj [] X.env))):=by rfl) :
  PE X (.Call (.Attribute o m aI) (e::es) [] pos) (uq C m sp aH E ta t):=by
 intro aa s σ H Q I h
 refine Qcn (pl:=pl) (UV (he aa s σ H _ I h) fun u s1=>L2.U7 fun x H1 I1 rx aW=>?_) ht
 obtain⟨a,dx,fs,ex,ea,l,q⟩:=aW
 subst ex
 obtain rfl:u=UW a:=rx
 refine yA I1 ea c hm l ?_
 refine Yv (first:=[.ref a]) (h₀:=X.base) I.ok.mod.Xb hm.kp (UV (ha pos aa s1 σ H1 _ I1 q) fun us s2=>L2.U7 fun vs H2 I2 r q2=>⟨I2.Ve,?_⟩) dZ bH
 exact zi (us:=.ref a::us) (vs:=.ref a::vs) F hr hb hd hx I2 (.cons O r) q2
theorem No (he:PE X o ta) (c:Wd X.K C) (hm:Z3 X.K C m f) (F:cE X.prog X.w X.K X.mg X.base CX k f fd ps sp) (hr:bu k X.A) (hb:dR X.K fd ps ds) (hd:aA aH ds) (hx:lw CX X E)
  (ht:U2 (.Call (.Attribute o m aI) [] [] pos) X.env=(do
   let ov ← U2 o X.env
   YE aI.atName
   let (f,first) ← Xv [ov] (Zc ov m pl)
   Qau pos f first (Vx pos (U1 [] X.env)) (Xl pos (Xj [] X.env))):=by rfl) :
  PE X (.Call (.Attribute o m aI) [] [] pos) (uq C m sp aH E ta mj):=by
 intro aa s σ H Q I h
 refine Qcn (pl:=pl) (UV (he aa s σ H _ I h) fun u s1=>L2.U7 fun x H1 I1 rx aW=>?_) ht
 obtain⟨a,dx,fs,ex,ea,l,q⟩:=aW
 subst ex
 obtain rfl:u=UW a:=rx
 refine yA I1 ea c hm l ?_
 exact Qcq (first:=[.ref a]) I1.Ve hm.kp (zi (us:=[.ref a]) (vs:=[.ref a]) F hr hb hd hx I1 (.cons O .nil) q)
structure Mk (K:R') (C f:F'):Prop where
 makes:Qcz K C=B'
 init:V0 K (.ref C) "__init__"=f' (f' (.ref f))
 fn:Yz K (.ref f)=B'
 kp:W5 K (.ref C)=B'
theorem Cu (M:Mk X.K C f) (F:cE X.prog X.w X.K X.mg X.base CX k f fd ps sp) (hr:bu (k+1) X.A) (hb:dR X.K fd ps ds) (hd:aA aH ds)
  (hx:lw CX X E) (I:Inv X aa σ H s) (r:aA vs us)
  (h:∀ x dx,H x=i'→H dx=i'→dx≠x→sp (.ref x::(vs++aH)) (upd (upd H dx (.own x)) x (.ins C dx [])) (fun v H2=>v=.UU∧Q (.ref x) H2) E) :
  M' (UJ X.prog X.w) X.A (call (.ref C) us) (EP X aa σ Q) X.xe s:=by
 have hq:=h (s.heap.objs.size+1) s.heap.objs.size (I.UP.fresh (RQ _)) (I.UP.fresh (Re _)) (Rj (Si _))
 have I2:=Inv.made (C:=C) I
 have r2:aA (V.ref (s.heap.objs.size+1)::(vs++aH)) (UW (s.heap.objs.size+1)::(us++ds)):=.cons O (r.append hd)
 have hl:(UW (s.heap.objs.size+1)::us++ds).length=ps.length:=by
  have e:=r2.length
  rw[F.len _ _ _ _ hq] at e
  exact e.symm
 refine Ss (Qq (f:=f) I.Ve M.makes M.init (Wo.mp M.fn) (YA (F.run _ X.stack _ _ ⟨UW (s.heap.objs.size+1)::us,[]⟩ (UW (s.heap.objs.size+1)::(us++ds)) _ _ E (hr.make C us [])
  (I2.Zl.make C us []) (hb _ (UW (s.heap.objs.size+1)::us) I2.Ve hl) r2 hq) fun r s' cQ=>?_))
 cases r with
 | error e=>exact hx aa σ _ _ e s' I2 cQ
 | ok fl=>
  cases fl with
  | ret u=>
   obtain⟨v,H',I3,rv,ev,q3⟩:=I2.after cQ
   subst ev
   exact⟨rv,⟨V.ref (s.heap.objs.size+1),H',I3,O,q3⟩⟩
  | next=>exact VR cQ
  | brk=>exact VR cQ
  | cont=>exact VR cQ
theorem Pq (M:Mk X.K C f) (F:cE X.prog X.w X.K X.mg X.base CX k f fd ps sp) (hr:bu (k+1) X.A) (hg:Gl X x) (hm:X.mg x=f' (.ref C)) (hb:dR X.K fd ps ds) (hd:aA aH ds) (hx:lw CX X E)
  (ha:PA X (e::es) t) (Vo:(x == ("__debug__":C'))=K':=by decide) (he:U1 (e::es) X.env=(K',U2 e X.env)::U1 es X.env:=by rfl) (bH:(Vx pos (U1 es X.env)).any (·.1)=K':=by rfl) :
  PE X (.Call (.Name x p) (e::es) [] pos) (t6 C sp aH E t):=by
 intro aa s σ H Q I h
 refine RX (lq I hg hm ?_ Vo)
 refine Yv (h₀:=X.base) I.ok.mod.Xb M.kp (UV (ha pos aa s σ H _ I h) fun us s1=>L2.U7 fun vs H1 I1 r q=>⟨I1.Ve,?_⟩) he bH
 exact Cu M F hr hb hd hx I1 r q
theorem KM (M:Mk X.K C f) (F:cE X.prog X.w X.K X.mg X.base CX k f fd ps sp) (hr:bu (k+1) X.A) (hg:Gl X x) (hm:X.mg x=f' (.ref C)) (hb:dR X.K fd ps ds) (hd:aA aH ds) (hx:lw CX X E)
  (Vo:(x == ("__debug__":C'))=K':=by decide):PE X (.Call (.Name x p) [] [] pos) (t6 C sp aH E mj):=by
 intro aa s σ H Q I h
 refine RX (lq I hg hm ?_ Vo)
 exact Qcq I.Ve M.kp (Cu (us:=[]) M F hr hb hd hx I .nil h)
end
section
variable {k:Nat}{ks:List C'}{p aI jA:VC}{o:U3}{QS:List Yh}{tk:TA}{nm:Option C'}
structure KBinds (K:R') (fd:WV) (ps ks:List C') (g:List L'→List L'→List L') (gV:List V→List V→List V):Prop where
 to:∀ (s:UM) (us ws:List L'),K.In s.heap→(g us ws).length=ps.length→Ze s fd ⟨us,ks.zip ws⟩ (ps.zip (g us ws))
 rel:∀ {vs:List V}{us:List L'}{zs:List V}{ws:List L'},aA vs us→aA zs ws→aA (gV vs zs) (g us ws)
variable {g:List L'→List L'→List L'}{gV:List V→List V→List V}
end
structure aJ (N P:List C') (sc:WX):Prop where
 kind:sc.kind=.function
 co:sc.isCoroutine=K'
 gen:sc.isGenerator=K'
 nd:N.Nodup
 pre:N.take P.length=P
 par:∀ x∈P,sc.names.lookup x=f' .local∨sc.names.lookup x=f' .cell
 Qhk:∀ y∈sc.names,y.2≠.free
theorem Fe {kindOf:C'→Option W9}{x:C'}:∀ {fL:List (C'×L')}{m:C'→Option L'},(∀ v,(x,v)∉fL)→YG kindOf fL m x=m x
 | [],_,_=>rfl
 | (n,v)::r,m,h=>by
  unfold YG
  rw[Fe fun w hw=>h w (Rk _ hw)]
  split
  .have:x≠n:=by rintro rfl;exact h v Rx
   simp[this]
  .rfl
theorem DY {kindOf:C'→Option W9}{x:C'}:∀ {fL:List (C'×L')}{m:C'→Option L'},(∀ v,(x,v)∉fL)→YH kindOf fL m x=m x
 | [],_,_=>rfl
 | (n,v)::r,m,h=>by
  unfold YH
  rw[DY fun w hw=>h w (Rk _ hw)]
  split
  .rfl
  .have:x≠n:=by rintro rfl;exact h v Rx
   simp[this]
theorem FL {kindOf:C'→Option W9}{x:C'}{v:L'}:∀ {P:List C'}{vs:List L'}{i:Nat}{m:C'→Option L'},P.Nodup→P[i]?=f' x→vs[i]?=f' v→kindOf x=f' .local →
  YG kindOf (P.zip vs) m x=f' v
 | [],_,_,_,_,h,_,_=>by simp at h
 | _::_,[],_,_,_,_,h,_=>by simp at h
 | p::P,w::vs,0,m,nd,h1,h2,hk=>by
  simp at h1 h2;subst h1;subst h2
  show YG kindOf ((p,w)::P.zip vs) m p=_
  unfold YG
  rw[Fe fun v hv=>(XJ.mp nd).1 (Ue hv).1,UN hk]
  simp
 | p::P,w::vs,i+1,m,nd,h1,h2,hk=>by
  show YG kindOf ((p,w)::P.zip vs) m x=_
  unfold YG
  exact FL (i:=i) (XJ.mp nd).2 (by simpa using h1) (by simpa using h2) hk
theorem Ek {kindOf:C'→Option W9}{x:C'}{v:L'}:∀ {P:List C'}{vs:List L'}{i:Nat}{m:C'→Option L'},P.Nodup→P[i]?=f' x→vs[i]?=f' v→kindOf x≠f' .local →
  YH kindOf (P.zip vs) m x=f' v
 | [],_,_,_,_,h,_,_=>by simp at h
 | _::_,[],_,_,_,_,h,_=>by simp at h
 | p::P,w::vs,0,m,nd,h1,h2,hk=>by
  simp at h1 h2;subst h1;subst h2
  show YH kindOf ((p,w)::P.zip vs) m p=_
  unfold YH
  rw[DY fun v hv=>(XJ.mp nd).1 (Ue hv).1,UL hk]
  simp
 | p::P,w::vs,i+1,m,nd,h1,h2,hk=>by
  show YH kindOf ((p,w)::P.zip vs) m x=_
  unfold YH
  exact Ek (i:=i) (XJ.mp nd).2 (by simpa using h1) (by simpa using h2) hk
def start (N:List C') (vs:List V):St:=vs.map f'++U5 (N.length-vs.length) i'
def ka (CX:Xc) (P:Vv) (w:VA) (K:R') (mg:C'→Option L') (base:Vb) (N:List C') (qual:C') (scope:WX) (f:F') (cd:L') (A:VX) (outer:List V5) (s:UM) (H:Hp) (E:XK):Cx where
 prog:=P
 w:=w
 K:=K
 mg:=mg
 base:=base
 A:=A.deeper (XY qual scope s.heap.objs.size f cd)
 N:=N
 s₀:=s
 H₀:=H
 env:=XY qual scope s.heap.objs.size f cd
 outer:=outer
 stack:=XY qual scope s.heap.objs.size f cd::outer
 ex:=[]
 calm:=B'
 fn:=fun _=>B'
 pn:=[]
 xe:=fun e s'=>M' (UJ P w) (A.deeper (XY qual scope s.heap.objs.size f cd)) (leaving (XY qual scope s.heap.objs.size f cd) e) (fun _ wq=>CX outer H s E e wq) (fun e' wq=>CX outer H s E e' wq) s'
theorem FN {sc:WX} (h:sc.names.lookup x=f' .cell):∃ c,(Qc3 n sc.names []).lookup x=f' c:=by
 have q:=QeN sc.names n [] (.inl h)
 exact Xp.mp q
theorem O2 {K:R'}{cd:L'}{s1:UM}
  (S:aJ N ps scope) (e0:nK P w K mg base A outer s H) (hl:vs.length=ps.length) (r:aA vs us)
  (x:InCallC s s.heap.objs.size (YG (XY qual scope s.heap.objs.size f cd).kindOf (ps.zip us) fun _=>i') (Qc3 (s.heap.objs.size+1) scope.names []) (YH (XY qual scope s.heap.objs.size f cd).kindOf (ps.zip us) fun _=>i') s1) :
  Inv (ka CX P w K mg base N qual scope f cd A outer s H E) [] (start N vs) H s1:=by
 have bH:ps.length≤N.length:=by have:=WB List.length S.pre;rw[Rs] at this;lia
 obtain⟨h1,tk,rfl,hk⟩:=x.done
 have vw:∀ b:F',b∉(ka CX P w K mg base N qual scope f cd A outer s H E).ex:=fun b z=>UX (show b∈([]:List F') from z) (by simp)
 refine⟨⟨e0.mod,S.kind,O,O,Re _,fun y z c h1 h2=>?_,fun y hy=>?_,fun y c _ h=>?_,e0.hd,VX.frames_deeper e0.frames,.inr ⟨O,O⟩,fun b z=>UX z (vw b),e0.bs,e0.Xm,fun b _ _=>vw b,fun b z=>UX z (vw b),e0.WH,e0.Xz⟩,
  rfl,e0.bare,Un.kept hk,⟨_,x.toInCall.ns,fun i y v h1 h2 h3=>?_⟩,fun y c h=>⟨_,x.cell y c h⟩,e0.UP.fresh (Re _),fun y c h=>?_,fun p hp=>UX (show p∈([]:List (F'×U6)) from hp) (by simp),e0.UP.kept hk,?_⟩
 .exact name_of_addr x.apart (Zy h1) (Zy h2)
 .have hy:scope.names.lookup y=f' .cell∨scope.names.lookup y=f' .free:=hy
  rcases hy with hy|hy
  .exact FN hy
  .exact UX O (S.Qhk _ (Zy hy))
 .exact Sg (x.above y c (Zy h))
 .have hi:i<vs.length:=by
   unfold start at h2
   by_cases hi:i<vs.length
   .exact hi
   .rw[TU (by simpa using hi)] at h2
    rw[Uc] at h2
    split at h2<;>cases h2
  have ha:vs[i]?=f' v:=by
   unfold start at h2
   rw[TZ (by simpa using hi),RD] at h2
   cases e:vs[i]? with
   | none=>rw[e] at h2;cases h2
   | some a=>rw[e] at h2;cases h2;rfl
  obtain⟨u,hu,rv⟩:=r.get ha
  have hp:ps[i]?=f' y:=by
   rw[← S.pre,List.getElem?_take_of_lt (by lia)];exact h1
  have BJ:ps.Nodup:=by rw[← S.pre];exact S.nd.sublist (List.take_sublist _ _)
  refine⟨u,rv,?_⟩
  rcases S.par y (Rv hp) with k|k
  .exact .inl ⟨k,FL BJ hp hu k⟩
  .obtain⟨c,e⟩:=FN (n:=s.heap.objs.size+1) k
   refine .inr ⟨.inl k,c,e,?_⟩
   have q:=x.cell y c e
   rw[Ek BJ hp hu (by show scope.names.lookup y≠_;rw[k];decide)] at q
   exact q
 .exact e0.UP.fresh (Sg (x.above y c (Zy h)))
 .unfold start
  show _=N.length
  rw[Ru,Q9,R7]
  lia
theorem Qdm {K:R'}{k:Nat}{params:Qc4}{dV kV cf pm ay ct oc:L'}{an od:Option F'}
  {eQ:Array (Option L')} (lk:K.lookup f=f' ⟨oc,od,.func (Yd name qual params body scope dV kV cf pm an ay ct),eQ⟩) (ic:XM K ay qual=B') (S:aJ N ps scope)
  (len:∀ vs H Q E,sp vs H Q E→vs.length=ps.length)
  (fG:∀ (A:VX) (outer:List V5) (s:UM) (H:Hp) (vs:List V) (Q:VK) (E:XK),bu k (A.deeper (XY qual scope s.heap.objs.size f ay))→sp vs H Q E →
   ∃ t,VY (ka CX P w K mg base N qual scope f ay A outer s H E) body t∧t {nx:=fun _ H'=>Q .UU H',rt:=Q} (start N vs) H) :
  cE P w K mg base CX (k+1) f (Yd name qual params body scope dV kV cf pm an ay ct) ps sp:=by
 refine⟨len,fun A outer s H args us vs Q E hr e0 hb r jV=>?_⟩
 have hl:=len _ _ _ _ jV
 have KX:K.In s.heap:=e0.mod.Xb.keeps fun b o e=>(e0.bs b o e).1
 have lim:s.heap.NoLimit:=e0.mod.nolimit.keeps fun b o e=>(e0.bs b o e).1
 have cC:∀ y∈ps.zip us,scope.names.lookup y.1=f' .local∨(scope.names.lookup y.1=f' .cell∧((Qc3 (s.heap.objs.size+1) scope.names []).lookup y.1).isSome=B'):=fun⟨n,v⟩ hy=>by
  rcases S.par n (Ue hy).1 with q|q
  .exact .inl q
  .exact .inr ⟨q,QeN _ _ _ (.inl q)⟩
 refine codeAny_call_function hr.depth (KX _ _ lk) O S.co S.gen O (PySem.W.codeRec_of KX ic) (hb _ _ _ _ ?_)
 refine wpAny_newFunctionEnv_cells S.kind cC fun env he s1 x=>?_
 subst he
 refine⟨lim.keeps x.toInCall.keep,codeAny_func ?_⟩
 obtain⟨t,ht,hq⟩:=fG A outer s H vs Q E (hr.deeper _) jV
 have I:Inv (ka CX P w K mg base N qual scope f ay A outer s H E) [] (start N vs) H s1:=O2 S e0 hl r x
 refine RW (ht [] s1 (start N vs) H _ I hq) (fun fl s' hs=>?_) fun e s' hs=>hs
 have aS:∀ {σ':St}{H':Hp}{v:V}{u:L'},Inv (ka CX P w K mg base N qual scope f ay A outer s H E) [] σ' H' s'→aC v u→Q v H'→CE outer P w H s Q u s':=
  fun {σ' H' v u} J rv q=>⟨v,H',J.os,J.bare,J.base,J.UP,rv,q⟩
 cases fl with
 | ret u=>
  obtain⟨v,σ',H',J,rv,q⟩:=hs
  exact aS J rv q
 | next=>
  obtain⟨σ',H',J,q⟩:=hs
  exact aS (v:=V.UU) (u:=Vq) J O q
 | brk=>
  obtain⟨_,_,_,q⟩:=hs
  exact VR q
 | cont=>
  obtain⟨_,_,_,q⟩:=hs
  exact VR q
section
variable {p:VC}{id T:String}{r:List V→Hp→VK→Prop}
def tCB (r:List V→Hp→VK→Prop) (t:TA):TE:=fun σ H Q=>t σ H fun vs H1=>r vs H1 Q
theorem bi (hc:fZ X (.builtin id) r) (hg:Gl X x) (hm:X.mg x=i') (hv:Wb x=f' (.builtin id)) (ha:PA X (e::es) t) (hn:x≠"__name__":=by decide) (Vo:(x == ("__debug__":C'))=K':=by decide)
  (he:U1 (e::es) X.env=(K',U2 e X.env)::U1 es X.env:=by rfl) (bH:(Vx pos (U1 es X.env)).any (·.1)=K':=by rfl):PE X (.Call (.Name x p) (e::es) [] pos) (tCB r t):=by
 intro aa s σ H Q I h
 refine RX (jD I hg hm hv ?_ hn Vo)
 exact QoL (UV (ha pos aa s σ H _ I h) fun us s1=>L2.U7 fun vs H1 I1 r1 q1=>hc aa s1 σ H1 vs us Q I1 r1 q1) he bH
theorem mh (hc:fZ X (.type T) r) (hg:Gl X x) (hm:X.mg x=i') (hv:Wb x=f' (.type T)) (ha:PA X (e::es) t) (hn:x≠"__name__":=by decide) (Vo:(x == ("__debug__":C'))=K':=by decide)
  (he:U1 (e::es) X.env=(K',U2 e X.env)::U1 es X.env:=by rfl) (bH:(Vx pos (U1 es X.env)).any (·.1)=K':=by rfl):PE X (.Call (.Name x p) (e::es) [] pos) (tCB r t):=by
 intro aa s σ H Q I h
 refine RX (jD I hg hm hv ?_ hn Vo)
 exact Yt (UV (ha pos aa s σ H _ I h) fun us s1=>L2.U7 fun vs H1 I1 r1 q1=>hc aa s1 σ H1 vs us Q I1 r1 q1) he bH
end
end L2
namespace HT
variable {sl:Addr}
open PySem PyProof.Rows
section
open PySem.SeqAt
open PySem.AutoSeq1 (wpAny_loadPart')
open PySem.MeetsSeq PySem.MeetsSeq2 PySem.MeetsSeq3
end
section
variable {prog:Vv}{w:VA}{A:VX}{E:L'→UM→Prop}{s:UM}
def U9 (n d:Nat):Option Int→Nat
 | none=>d
 | some v=>if v<0 then(v+(n:Int)).toNat else min v.toNat n
theorem znw (n d:Nat):U9 n d i'=d:=rfl
theorem ziA (n d k:Nat):U9 n d (f' (k:Int))=min k n:=by
 show(if (k:Int)<0 then((k:Int)+(n:Int)).toNat else min (k:Int).toNat n)=min k n
 rw[UL (by lia),Int.toNat_natCast]
theorem Qhl (n d:Nat) (hd:d≤n) (o:Option Int):U9 n d o≤n:=by
 cases o with
 | none=>exact hd
 | some v=>
  show(if v<0 then(v+(n:Int)).toNat else min v.toNat n)≤n
  by_cases hv:v<0
  .rw[UN hv];lia
  .rw[UL hv];exact Nat.min_le_right _ _
theorem DQ (v:Int) (n d:Nat):(if v<0 then max (v+(n:Int)) 0 else min v (n:Int))=((U9 n d (f' v):Nat):Int):=by
 show(if v<0 then max (v+(n:Int)) 0 else min v (n:Int))=(((if v<0 then(v+(n:Int)).toNat else min v.toNat n):Nat):Int)
 by_cases hv:v<0
 .simp only[UN hv];lia
 .simp only[UL hv];lia
theorem Kk (lo hi:Option Int) (n:Nat):Qch lo hi 1 (n:Int)=(((U9 n 0 lo:Nat):Int),((U9 n n hi:Nat):Int)):=by
 have h1:¬ ((1:Int)<0):=by lia
 unfold Qch
 simp only[h1,VU]
 refine Prod.ext ?_ ?_
 .cases lo with
  | none=>rfl
  | some v=>exact DQ v n 0
 .cases hi with
  | none=>rfl
  | some v=>exact DQ v n n
theorem Ks (i j:Nat):QaU (i:Int) (j:Int) 1=j-i:=by
 unfold QaU
 have h1:(1:Int) > 0:=by lia
 simp only[h1,WL,Int.ediv_one]
 split<;>lia
theorem Eg {v:L'}{o:Option Int}{Q:Option Int→UM→Prop} (p:XX v o) (h:Q o s):M' (UJ prog w) A (Qon v) Q E s:=by
 cases p with
 | none=>exact Qgw h
 | int i t=>exact slicePart_int h
theorem DW {vl vu:L'}{lo hi:Option Int}{n:Nat}{Q:Int×Int×Nat→UM→Prop} (hs:s.heap.IsSliceOf sl vl vu .none) (pl:XX vl lo) (pu:XX vu hi)
  (h:Q (((U9 n 0 lo:Nat):Int),1,U9 n n hi-U9 n 0 lo) s):M' (UJ prog w) A (Qex (.ref sl) (pure (n:Int))) Q E s:=by
 obtain⟨os,kG,cU,mC⟩:=id hs
 unfold Qex Qoo
 refine VE (VE (QcX kG mC (x:=vl) O (VE (QcX kG mC (x:=vu) O (VE (QcX kG mC (x:=.none) O (V7 ?_)))))))
 refine VE (Qgw ?_)
 show M' _ _ (if ((1:Int) == 0)=B' then _ else _) _ _ s
 rw[UL (by decide)]
 refine VE (Eg pl (VE (Eg pu (VE (V7 ?_)))))
 show M' _ _ (match Qch lo hi 1 (n:Int) with|(lo,hi)=>pure (lo,(1:Int),QaU lo hi 1)) _ _ s
 rw[Kk lo hi n]
 show M' _ _ (pure (((U9 n 0 lo:Nat):Int),(1:Int),QaU ((U9 n 0 lo:Nat):Int) ((U9 n n hi:Nat):Int) 1)) _ _ s
 rw[Ks]
 exact V7 h
theorem LC (xs:Array L') (i k:Nat):((VO k).filterMap fun(m:Nat)=>xs[((i:Int)+(m:Int)*1).toNat]?).toArray=((xs.toList.drop i).take k).toArray:=by
 have e:(fun(m:Nat)=>xs[((i:Int)+(m:Int)*1).toNat]?)=fun m=>xs[i+m]?:=by
  funext m
  have:((i:Int)+(m:Int)*1).toNat=i+m:=by lia
  rw[this]
 rw[e]
 have:=pick_run xs i k
 rw[List.filterMap_map] at this
 have e2:((fun x=>xs[x]?) ∘ fun x=>i+x)=fun m=>xs[i+m]?:=rfl
 rw[e2] at this
 rw[this]
theorem zel {t:F'}{items:Array L'}{vl vu:L'}{lo hi:Option Int}{Q:L'→UM→Prop} (ht:Zh s.heap t items) (hs:s.heap.IsSliceOf sl vl vu .none) (pl:XX vl lo) (pu:XX vu hi)
  (hw:¬ (U9 items.size 0 lo=0∧U9 items.size items.size hi=items.size))
  (h:Q (.ref s.heap.objs.size) {s with heap:=s.heap.push {cls:=.type "tuple",data:=.seq ((items.toList.drop (U9 items.size 0 lo)).take (U9 items.size items.size hi-U9 items.size 0 lo)).toArray} })
  (hsz:items.size≤S'):M' (UJ prog w) A (Xw (.ref t) (.ref sl)) Q E s:=by
 have hJ:sizeOk (.seq ((items.toList.drop (U9 items.size 0 lo)).take (U9 items.size items.size hi-U9 items.size 0 lo)).toArray):=by
  show((items.toList.drop (U9 items.size 0 lo)).take (U9 items.size items.size hi-U9 items.size 0 lo)).toArray.size≤S'
  rw[List.size_toArray,List.length_take,List.length_drop,Array.length_toList]
  lia
 have hj:U9 items.size items.size hi≤items.size:=Qhl _ _ (Nat.le_refl _) hi
 obtain⟨os,kG,cU,mC⟩:=id hs
 have xG:s.TypeIs (.ref sl) "slice":=⟨os,kG,cU⟩
 unfold Xw
 try with_reducible refine wpAny_holding ?_
 first|refine VE (V7 ?_)|skip
 refine VE (QfU ht.typeIs (by decide) ?_)
 refine VE (Qfd (name:=UO "__getitem__") ht.typeIs Y4
  (Qf7 Y4 ht.typeIs QfJ ?_ (QfO _ _)))
 show M' _ _ (Qew (.ref t) >>= _) _ _ s
 refine VE (tupleItemsOf_ ht ?_)
 refine VE (Qbr xG ?_)
 rw[UN (by decide)]
 refine VE (DW hs pl pu ?_)
 have wj:¬ ((((U9 items.size 0 lo:Nat):Int) == 0 && (1:Int) == 1 && (U9 items.size items.size hi-U9 items.size 0 lo) == items.size)=B'):=by
  intro q
  rw[Qfr,Qfr] at q
  have q1:((U9 items.size 0 lo:Nat):Int)=0:=eq_of_beq q.1.1
  have q2:U9 items.size items.size hi-U9 items.size 0 lo=items.size:=eq_of_beq q.2
  exact hw ⟨by lia,by lia⟩
 show M' _ _ (if (((U9 items.size 0 lo:Nat):Int) == 0 && (1:Int) == 1 && (U9 items.size items.size hi-U9 items.size 0 lo) == items.size)=B' then _ else _) _ _ s
 rw[UL wj,LC]
 first
  | exact VE (m:=QaW _) (Qbd (V7 ⟨_,O,V7 h⟩) hJ)
  | exact VE (m:=QaW _) (Qbd (VE (V7 (V7 ⟨_,O,V7 h⟩))) hJ)
  | exact VE (VE (m:=QaW _) (Qbd (V7 (V7 ⟨_,O,V7 h⟩)) hJ))
  | exact VE (VE (m:=QaW _) (Qbd (V7 ⟨_,O,V7 h⟩) hJ))
end
end HT
namespace L2
variable {A:Around}{E Q:Value→Shared→Prop}{H H':Hp}{P prog:Program}{T id:String}{X:Cx}{a b p:Addr}{aa:List (Addr×Obj)}{ah its' more:List Value}{e value:Expr}{h':Heap}{i:Int}{iW:List (TE×TE)}{kvs:List (List Key×V)}{n t':Nat}{o:Option V}{pos:Pos}{s:Shared}{u v:Value}{w:World}{x y:V}{xs:List (List Key×Addr×Value)}{σ:St}
open PySem PySem.Spec PyProof.Rows
abbrev TO:=St→Hp→(Option Int→Hp→Prop)→Prop
def PO (X:Cx) (e:Option U3) (t:TO):Prop:=
 ∀ (aa:List (F'×U6)) (s:UM) (σ:St) (H:Hp) (Q:Option Int→Hp→Prop),Inv X aa σ H s→t σ H Q →
  M' (UJ X.prog X.w) X.A (evalPart e X.env) (fun u s'=>∃ o H',Inv X aa σ H' s'∧XX u o∧Q o H') X.xe s
def NI:TO:=fun _ H Q=>Q i' H
inductive Qhm (Q:(Option Int→Hp→Prop)) (x:V) (H1:Hp):Prop
 | mk (i:_) (_:x=.int i) (_:Q (f' i) H1)
def Qhn (t:TE):TO:=fun σ H Q=>t σ H fun x H1=>Qhm Q x H1
section
variable {te:TE}{lo hi:Option U3}{tl th:TO}{p2:VC}
theorem zh:PO X i' NI:=by
 intro aa s σ H Q I h
 rw[evalPart_none]
 exact Rb ⟨i',H,I,.none,h⟩
theorem sv (h:PE X e te):PO X (f' e) (Qhn te):=by
 intro aa s σ H Q I hw
 rw[evalPart_some]
 refine UV (h aa s σ H _ I hw) fun u s1=>L2.U7 fun x H1 I1 r1 q1=>?_
 obtain⟨i,rfl,q⟩:=q1
 obtain⟨t,rfl⟩:=r1
 exact⟨f' i,H1,I1,.int i t,q⟩
def SlR (X:Cx) (r:V→Option Int→Option Int→Hp→VK→Prop):Prop:=
 ∀ (aa:List (F'×U6)) (s:UM) (σ:St) (H:Hp) (x:V) (v vl vu:L') (lo hi:Option Int) (sl:F') (Q:VK),Inv X aa σ H s→aC x v→s.heap.IsSliceOf sl vl vu .none→XX vl lo→XX vu hi→r x lo hi H Q →
  ∃ T id,Xt (.type T) "__getitem__"=pure (f' (.builtin id))∧s.TypeIs v T∧M' (UJ X.prog X.w) X.A (Xw v (.ref sl)) (EP X aa σ Q) X.xe s
def tSl (r:V→Option Int→Option Int→Hp→VK→Prop) (te:TE) (tl th:TO):TE:=fun σ H Q=>te σ H fun x H1=>tl σ H1 fun l H2=>th σ H2 fun u H3=>r x l u H3 Q
theorem ut {r:V→Option Int→Option Int→Hp→VK→Prop} (hr:SlR X r) (he:PE X e te) (hl:PO X lo tl) (hu:PO X hi th):PE X (.Subscript e (.Slice lo hi i' p2) pos) (tSl r te tl th):=by
 intro aa s σ H Q I h
 refine Qc2 (UV (he aa s σ H _ I h) fun v s1=>L2.U7 fun x H1 I1 r1 q1=>?_)
 refine wpAny_Slice (UV (hl aa s1 σ H1 _ I1 q1) fun vl s2 ⟨l,H2,I2,pl,q2⟩=>UV (hu aa s2 σ H2 _ I2 q2) fun vu s3=>L2.U7 fun u H3 I3 pu q3=>?_)
 rw[evalPart_none]
 refine Rb ?_
 have I4:Inv X aa σ H3 {s3 with heap:=s3.heap.push {cls:=.type "slice",data:=.fields #[vl,vu,.none]} }:=I3.kept (t':=s3.toks) fun b ob q=>Ra _ q
 obtain⟨T,id,hT,ht,hg⟩:=hr aa {s3 with heap:=s3.heap.push {cls:=.type "slice",data:=.fields #[vl,vu,.none]} } σ H3 x v vl vu l u s3.heap.objs.size Q I4 r1 (Qoc ..) pl pu q3
 show M' (UJ X.prog X.w) X.A (QcS e (.Slice lo hi i' p2) v (.ref s3.heap.objs.size)) (EP X aa σ Q) X.xe {s3 with heap:=s3.heap.push {cls:=.type "slice",data:=.fields #[vl,vu,.none]} }
 exact tail_any (ops:=[.ref s3.heap.objs.size,v]) ht hT hg (by with_unfolding_all rfl)
def iQ (xs:List V) (lo hi:Option Int):List V:=(xs.drop (HT.U9 xs.length 0 lo)).take (HT.U9 xs.length xs.length hi-HT.U9 xs.length 0 lo)
theorem FV (xs:List V) (lo hi:Option Int):(iQ xs lo hi).length≤xs.length:=by
 unfold iQ
 rw[Rs,SL]
 lia
inductive Qho (K:R') (x:V) (lo:Option Int) (hi:Option Int) (H:Hp) (Q:VK):Prop
 | mk (a xs:_) (_:x=.ref a) (_:U4 K H a xs) (_:¬ (HT.U9 xs.length 0 lo=0∧HT.U9 xs.length xs.length hi=xs.length)) (_:∀ p,H p=i'→Q (.ref p) (upd H p (.tup (iQ xs lo hi))))
theorem Qhp:SlR X (Qho X.K):=by
 intro aa s σ H x v vl vu lo hi sl Q I rx hs pl pu h
 obtain⟨a,xs,rfl,hx,hw,q⟩:=h
 cases rx
 obtain⟨ah,r,ht,hz⟩:=I.tuple hx
 have av:ah.toArray.size=xs.length:=by rw[Rl];exact r.length.symm
 refine⟨"tuple",_,Y4.lookup,ht.typeIs,?_⟩
 refine HT.zel ht hs pl pu (by rw[av];exact hw) ?_ (by rw[av];exact hz)
 rw[av]
 refine⟨.ref s.heap.objs.size,_,I.laid (t':=s.toks) (o:=.tup (iQ xs lo hi)) (fun b ob q=>Ra _ q) (Re _) ?_,O,q _ (I.UP.fresh (Re _))⟩
 exact⟨RZ (FV xs lo hi) hz,_,(r.drop (HT.U9 xs.length 0 lo)).take (HT.U9 xs.length xs.length hi-HT.U9 xs.length 0 lo),Zh.new _ _⟩
end
def XA (n:Nat) (i:Int):Option Nat:=if 0≤i then(if i<n then f' i.toNat else i') else if -(n:Int)≤i then f' (i+n).toNat else i'
def VH {α:Type} (xs:List α) (i:Int):Option α:=(XA xs.length i).bind fun j=>xs[j]?
theorem Cw {j:Nat} (h:XA n i=f' j):Qaq i n=f' j∧j<n∧-(n:Int)≤i∧i<n:=by
 unfold XA at h
 by_cases h0:0≤i
 .rw[UN h0] at h
  by_cases h1:i<n
  .rw[UN h1] at h
   have e:i.toNat=j:=VL h
   exact⟨by rw[QcY h0 h1,e],by lia,by lia,h1⟩
  .rw[UL h1] at h;cases h
 .rw[UL h0] at h
  by_cases h1:-(n:Int)≤i
  .rw[UN h1] at h
   have e:(i+n).toNat=j:=VL h
   exact⟨by rw[QcT (by lia) h1,e],by lia,h1,by lia⟩
  .rw[UL h1] at h;cases h
theorem yI {α:Type}{xs:List α}{v:α} (h:VH xs i=f' v):∃ j,Qaq i xs.length=f' j∧xs[j]?=f' v∧j<xs.length∧-(xs.length:Int)≤i∧i<xs.length:=by
 unfold VH at h
 cases e:XA xs.length i with
 | none=>rw[e] at h;cases h
 | some j=>
  rw[e] at h
  obtain⟨h1,h2,h3,h4⟩:=Cw e
  exact⟨j,h1,h,h2,h3,h4⟩
def CP (b:U3):Prop:=∀ o i,Qbt b K' o i=operate [o,i] (Xw o i)
def YN (X:Cx) (r:R2):Prop:=
 ∀ (value slice:U3) (aa:List (F'×U6)) (s:UM) (σ:St) (H:Hp) (x y:V) (v u:L') (Q:VK),Inv X aa σ H s→aC x v→aC y u→r x y H Q →
  Qbt slice K' v u=operate [v,u] (Xw v u)→M' (UJ X.prog X.w) X.A (QcS value slice v u) (EP X aa σ Q) X.xe s
def Zm (X:Cx) (id:String) (r:V→List V→Hp→VK→Prop):Prop:=
 ∀ (aa:List (F'×U6)) (s:UM) (σ:St) (H:Hp) (x:V) (xs:List V) (v:L') (us:List L') (Q:VK),Inv X aa σ H s→aC x v→aA xs us→r x xs H Q →
  M' (UJ X.prog X.w) X.A (call (.builtin id) (v::us)) (EP X aa σ Q) X.xe s
section
variable {a b:U3}{ta tb:TE}
theorem aK {r:R2} (hr:YN X r) (ha:PE X a ta) (hb:PE X b tb) (hs:CP b):PE X (.Subscript a b pos) (YM r ta tb):=by
 intro aa s σ H Q I h
 exact Qc2 (QbE ha hb I h fun v u s2 x y H2 I2 rx ry q=>hr a b aa s2 σ H2 x y v u Q I2 rx ry q (hs _ _))
inductive Qdn (K:R') (x:V) (y:V) (H:Hp) (Q:VK):Prop
 | mk (p xs i v:_) (_:x=.ref p) (_:y=.int i) (_:P' K H p xs) (_:VH xs i=f' v) (_:Q v H)
inductive QbI (K:R') (x:V) (y:V) (H:Hp) (Q:VK):Prop
 | mk (p xs i v:_) (_:x=.ref p) (_:y=.int i) (_:U4 K H p xs) (_:VH xs i=f' v) (_:Q v H)
inductive Qhq (x:V) (y:V) (H:Hp) (Q:VK):Prop
 | mk (z i c:_) (_:x=.str z) (_:y=.int i) (_:z.length≤S') (_:VH z.cps.toList i=f' c) (_:Q (.str ⟨#[c]⟩) H)
theorem bA:YN X (Qdn X.K):=by
 intro value slice aa s σ H x y v u Q I rx ry h hs
 obtain⟨p,xs,i,z,rfl,rfl,hq,he,q⟩:=h
 cases rx
 obtain⟨t,rfl⟩:=ry
 obtain⟨ah,r,pl,hz⟩:=I.list hq
 obtain⟨j,h1,h2,h3,h4,h5⟩:=yI he
 obtain⟨w,ew,dU⟩:=r.get h2
 have hl:=r.length
 have hn:=lX
 have aS:EP X aa σ Q w s:=⟨z,H,I,dU,q⟩
 by_cases h0:0≤i
 .have hj:i.toNat=j:=by
   rw[QcY h0 h5] at h1
   exact VL h1
  exact item_listR pl.isList h0 (by lia) (by rw[hj];simpa using ew) aS hs
 .have hj:(i+(ah.toArray.size:Int)).toNat=j:=by
   rw[QcT (by lia) h4] at h1
   rw[Rl,← hl]
   exact VL h1
  exact Qfn (x:=w) pl.isList.typeIs QfV.lookup
   (wpAny_getItem_list_neg (Q:=fun r s'=>r=w∧EP X aa σ Q r s') pl.isList (by lia) (by rw[Rl]<;>lia) (by lia) (by rw[hj];simpa using ew) ⟨O,aS⟩) hs
theorem fe:YN X (QbI X.K):=by
 intro value slice aa s σ H x y v u Q I rx ry h hs
 obtain⟨p,xs,i,z,rfl,rfl,hq,he,q⟩:=h
 cases rx
 obtain⟨t,rfl⟩:=ry
 obtain⟨ah,r,pl,hz⟩:=I.tuple hq
 obtain⟨j,h1,h2,h3,h4,h5⟩:=yI he
 obtain⟨w,ew,dU⟩:=r.get h2
 have hl:=r.length
 have hn:=lX
 have aS:EP X aa σ Q w s:=⟨z,H,I,dU,q⟩
 exact Qfn (x:=w) pl.typeIs Y4.lookup
  (getItem_tuple (j:=j) (Q:=fun r s'=>r=w∧EP X aa σ Q r s') pl (by lia) (by lia) (by rw[Rl,← hl];exact h1) (by simpa using ew) ⟨O,aS⟩) hs
theorem Fc:YN X Qhq:=by
 intro value slice aa s σ H x y v u Q I rx ry h hs
 obtain⟨z,i,c,rfl,rfl,hz,he,q⟩:=h
 obtain⟨t,rfl⟩:=rx
 obtain⟨t',rfl⟩:=ry
 obtain⟨j,h1,h2,h3,h4,h5⟩:=yI he
 have hl:z.cps.toList.length=z.length:=by simp[QcU]
 rw[hl] at h1 h4 h5
 have hn:=lX
 exact tail_any (Qap s z t) slot_str_getitem.lookup (getItem_str (c:=c) (by
  have e1:decide (i< -(2 ^ 63:Int))=K':=Ry (by lia)
  have e2:decide (i ≥ 2 ^ 63)=K':=Ry (by lia)
  rw[e1,e2,QfR]) (by rw[h1];simpa using h2) ⟨.str ⟨#[c]⟩,H,I.tok _,⟨_,O⟩,q⟩) hs
theorem Mx (ah:List L') (n j:Nat) (u:L'):Wl (·.setIfInBounds j u) {cls:=.type "list",data:=.seq ah.toArray n}={cls:=.type "list",data:=.seq (ah.set j u).toArray n}:=by
 simp[Wl]
theorem Inv.lst {aa:List (F'×U6)}{σ:St}{H:Hp}{s:UM}{p:F'}{xs:List V} (I:Inv X aa σ H s) (h:H p=f' (.lst xs)) :
  ∃ (ah:List L') (n:Nat),aA xs ah∧s.heap.get? p=f' {cls:=.type "list",data:=.seq ah.toArray n}∧xs.length≤S':=by
 obtain⟨z,ah,n,r,e⟩:=I.UP p _ h
 exact⟨ah,n,r,e,z⟩
theorem Inv.Qhr {xs ys:List V}{n':Nat}{f:U6→U6} (I:Inv X aa σ H s) (h:H p=f' (.lst xs))
  (ho:s.heap.get? p=f' {cls:=.type "list",data:=.seq ah.toArray n}) (hf:f {cls:=.type "list",data:=.seq ah.toArray n}={cls:=.type "list",data:=.seq its'.toArray n'}) (r:aA ys its') (hz:ys.length≤S') (t:Nat) :
  Inv X aa σ (upd H p (.lst ys)) {s with heap:=s.heap.update p f,toks:=t}:=by
 have e:(s.heap.update p f).get? p=f' {cls:=.type "list",data:=.seq its'.toArray n'}:=by
  rw[RC f ho (by rw[hf]<;>rfl),hf]
 refine I.write (x:=p) (e:=p) (by rw[h];trivial) (.inl rfl) (fun b u hb q=>(Ro _ _ (US hb)).trans q) ⟨_,e⟩ ?_
 exact⟨hz,its',n',r,e⟩
inductive Qhs (o:V) (i:V) (v:V) (H:Hp) (Q:(Hp→Prop)):Prop
 | mk (p xs k j:_) (_:o=.ref p) (_:i=.int k) (_:H p=f' (.lst xs)) (_:XA xs.length k=f' j) (_:Q (upd H p (.lst (xs.set j v))))
theorem zF:Qda X Qhs:=by
 intro aa s σ H o i v ov iv u Q I ro ri rv h
 obtain⟨p,xs,k,j,rfl,rfl,hp,hj,q⟩:=h
 cases ro
 obtain⟨t,rfl⟩:=ri
 obtain⟨ah,n,r,ho,hz⟩:=I.lst hp
 obtain⟨h1,h2,h3,h4⟩:=Cw hj
 have hl:=r.length
 have hn:=lX
 have I':Inv X aa σ (upd H p (.lst (xs.set j v))) {s with heap:=s.heap.update p (Wl (·.setIfInBounds j u))}:=
  I.Qhr hp ho (Mx ah n j u) (r.set rv j) (by rw[Tb];exact hz) s.toks
 by_cases h0:0≤k
 .have hk:k.toNat=j:=by
   rw[QcY h0 h4] at h1
   exact VL h1
  exact PySem.W.ki_setAt ho h0 (by lia) (by rw[Rl,← hl];exact h4) (by rw[hk];exact⟨_,I',q⟩)
 .have hk:(k+(ah.toArray.size:Int)).toNat=j:=by
   rw[QcT (by lia) h3] at h1
   rw[Rl,← hl]
   exact VL h1
  exact PySem.W.ki_setBack ho (by lia) (by rw[Rl,← hl];exact h3) (by lia) (by rw[hk];exact⟨_,I',q⟩)
theorem La (lo hi:Option Int) (n:Nat):(Y8 lo hi i' n).1=((HT.U9 n 0 lo:Nat):Int)∧(Y8 lo hi i' n).2.1=((HT.U9 n n hi:Nat):Int)∧(Y8 lo hi i' n).2.2=1:=by
 refine⟨?_,?_,O⟩
 .cases lo with
  | none=>simp[Y8,HT.U9]
  | some i=>
   simp only[Y8,HT.U9,Qfj,show(1:Int) > 0 by decide,WL]
   by_cases h:i<0
   .simp only[h,WL]<;>lia
   .simp only[h,VU]<;>lia
 .cases hi with
  | none=>simp[Y8,HT.U9]
  | some i=>
   simp only[Y8,HT.U9,Qfj,show(1:Int) > 0 by decide,WL]
   by_cases h:i<0
   .simp only[h,WL]<;>lia
   .simp only[h,VU]<;>lia
theorem Ms (ah:List L') (lo hi:Option Int):slicePick ah.toArray lo hi i'=((ah.drop (HT.U9 ah.length 0 lo)).take (HT.U9 ah.length ah.length hi-HT.U9 ah.length 0 lo)).toArray:=by
 obtain⟨h1,h2,h3⟩:=La lo hi ah.toArray.size
 unfold slicePick
 rw[h1,h2,h3]
 simp only[sliceRange_one,pick_run,Rl]<;>rfl
inductive Qht (K:R') (x:V) (lo:Option Int) (hi:Option Int) (H:Hp) (Q:VK):Prop
 | mk (a xs:_) (_:x=.ref a) (_:P' K H a xs) (_:∀ p,H p=i'→Q (.ref p) (upd H p (.lst (iQ xs lo hi))))
theorem yy:SlR X (Qht X.K):=by
 intro aa s σ H x v vl vu lo hi sl Q I rx hs pl pu h
 obtain⟨a,xs,rfl,hx,q⟩:=h
 cases rx
 obtain⟨ah,r,ht,hz⟩:=I.list hx
 have av:=r.length
 refine⟨"list",_,QfV.lookup,ht.isList.typeIs,?_⟩
 refine wpAny_getItem_list_slice ht.isList hs pl pu .none (by simp) ?_ (by rw[Rl]<;>lia)
 rw[Ms,← av]
 refine⟨.ref s.heap.objs.size,_,I.laid (t':=s.toks) (o:=.lst (iQ xs lo hi)) (fun b ob q=>Ra _ q) (Re _) ?_,O,q _ (I.UP.fresh (Re _))⟩
 exact⟨RZ (FV xs lo hi) hz,_,0,(r.drop (HT.U9 xs.length 0 lo)).take (HT.U9 xs.length xs.length hi-HT.U9 xs.length 0 lo),Ri _ O⟩
def jh:V→Bool
 | .UU=>B'
 | .bl _=>B'
 | .int _=>B'
 | .str _=>B'
 | _=>K'
def WR:V→V→Bool
 | .UU,.UU=>B'
 | .bl a,.bl b=>a == b
 | .bl a,.int b=>(if a then 1 else 0) == b
 | .int a,.bl b=>a == (if b then 1 else 0)
 | .int a,.int b=>a == b
 | .str a,.str b=>a == b
 | _,_=>K'
theorem fW (ry:aC y u) (rx:aC x v) (fy:jh y=B') (fx:jh x=B'):X0 A s u v (WR y x):=by
 cases y with
 | UU=>
  cases ry
  cases x with
  | UU=>cases rx;exact QcV _
  | bl b=>cases rx;exact QoW b
  | int b=>obtain⟨t,rfl⟩:=rx;exact QoV b t
  | str b=>obtain⟨t,rfl⟩:=rx;exact QoU b t
  | _=>exact UX (show K'=B' from fx) Rq
 | bl a=>
  cases ry
  cases x with
  | UU=>cases rx;exact Qo1 a
  | bl b=>cases rx;exact Qo3 a b
  | int b=>obtain⟨t,rfl⟩:=rx;exact Qo2 a b t
  | str b=>obtain⟨t,rfl⟩:=rx;exact Qo0 a b t
  | _=>exact UX (show K'=B' from fx) Rq
 | int a=>
  obtain⟨t',rfl⟩:=ry
  cases x with
  | UU=>cases rx;exact QoX a t'
  | bl b=>cases rx;exact QoZ a t' b
  | int b=>obtain⟨t,rfl⟩:=rx;exact QoY a t' b t
  | str b=>obtain⟨t,rfl⟩:=rx;exact QeU a t' b t
  | _=>exact UX (show K'=B' from fx) Rq
 | str a=>
  obtain⟨t',rfl⟩:=ry
  cases x with
  | UU=>cases rx;exact QoS a t'
  | bl b=>cases rx;exact QoT a t' b
  | int b=>obtain⟨t,rfl⟩:=rx;exact QeT a t' b t
  | str b=>obtain⟨t,rfl⟩:=rx;exact QoR a t' b t
  | _=>exact UX (show K'=B' from fx) Rq
 | _=>exact UX (show K'=B' from fy) Rq
def WI (x:V) (u:L'):Bool:=match u with
 | .none=>WR .UU x
 | .bool b=>WR (.bl b) x
 | .int i _=>WR (.int i) x
 | .str z _=>WR (.str z) x
 | _=>K'
theorem Fh (r:aC y u) (f:jh y=B'):WI x u=WR y x:=by
 cases y with
 | UU=>cases r;rfl
 | bl b=>cases r;rfl
 | int i=>obtain⟨t,rfl⟩:=r;rfl
 | str z=>obtain⟨t,rfl⟩:=r;rfl
 | _=>exact UX (show K'=B' from f) Rq
theorem sC {x:V}:∀ {xs:List V}{us:List L'},aA xs us→xs.all jh=B'→us.any (WI x)=xs.any fun y=>WR y x
 | _,_,.nil,_=>rfl
 | y::xs,u::us,.cons r t,f=>by
  rw[Tq,Rt] at f
  rw[SR,SR,Fh r f.1,sC t f.2]
theorem sw {A:VX}{s:UM}{x:V}{v:L'} (rx:aC x v) (fx:jh x=B'):∀ {xs:List V}{us:List L'},aA xs us→xs.all jh=B'→∀ u∈us,X0 A s u v (WI x u)
 | _,_,.nil,_=>fun u hu=>by cases hu
 | y::xs,u::us,.cons r t,f=>fun u' hu=>by
  rw[Tq,Rt] at f
  rcases RY.mp hu with rfl|hu
  .rw[Fh r f.1];exact fW r rx f.1 fx
  .exact sw rx fx t f.2 u' hu
def X5 (x:V) (xs:List V):Bool:=xs.any fun y=>WR y x
inductive rIn (K:R') (qY:Bool) (x:V) (y:V) (H:Hp) (Q:VK):Prop
 | mk (p xs:_) (_:y=.ref p) (_:(P' K H p xs∨U4 K H p xs)) (_:jh x=B') (_:xs.all jh=B') (_:Q (.bl (if qY then !X5 x xs else X5 x xs)) H)
theorem Cy:VM X (Wp .In) (rIn X.K K'):=by
 intro aa s σ H x y v u Q I rx ry h
 obtain⟨p,xs,rfl,hq,fx,fs,q⟩:=h
 cases ry
 rcases hq with hq|hq
 .obtain⟨ah,r,pl,hz⟩:=I.list hq
  refine SeqAt.in_listAt (WI x) pl.isList (fun w hw=>sw rx fx r fs w (by simpa using hw)) ⟨.bl _,H,I,O,?_⟩
  rw[show ah.toArray.any (WI x)=ah.any (WI x) by simp,sC r fs]
  exact q
 .obtain⟨ah,r,pl,hz⟩:=I.tuple hq
  refine SeqAt.in_tupleAt (WI x) pl (fun w hw=>sw rx fx r fs w (by simpa using hw)) ⟨.bl _,H,I,O,?_⟩
  rw[show ah.toArray.any (WI x)=ah.any (WI x) by simp,sC r fs]
  exact q
theorem OH:VM X (Wp .NotIn) (rIn X.K B'):=by
 intro aa s σ H x y v u Q I rx ry h
 obtain⟨p,xs,rfl,hq,fx,fs,q⟩:=h
 cases ry
 rcases hq with hq|hq
 .obtain⟨ah,r,pl,hz⟩:=I.list hq
  refine Qfc (WI x) pl.isList (fun w hw=>sw rx fx r fs w (by simpa using hw)) ⟨.bl _,H,I,O,?_⟩
  rw[show ah.toArray.any (WI x)=ah.any (WI x) by simp,sC r fs]
  exact q
 .obtain⟨ah,r,pl,hz⟩:=I.tuple hq
  refine SeqAt.notIn_tupleAt (WI x) pl (fun w hw=>sw rx fx r fs w (by simpa using hw)) ⟨.bl _,H,I,O,?_⟩
  rw[show ah.toArray.any (WI x)=ah.any (WI x) by simp,sC r fs]
  exact q
theorem fg:fZ X (.builtin "len") (fun xs H Q=>∃ p ys,xs=[.ref p]∧(P' X.K H p ys∨U4 X.K H p ys)∧Q (.int ys.length) H):=by
 intro aa s σ H xs us Q I r h
 obtain⟨p,ys,rfl,hq,q⟩:=h
 obtain⟨u,rfl,rx⟩:=gY r
 cases rx
 have hn:=lX
 rcases hq with hq|hq
 .obtain⟨ah,r',pl,hz⟩:=I.list hq
  have av:=r'.length
  exact Calls.call_len_list pl.isList (by simp only[Rl]<;>lia) ⟨.int ys.length,H,I.tok _,⟨s.toks+1,by rw[Rl,av]⟩,q⟩
 .obtain⟨ah,r',pl,hz⟩:=I.tuple hq
  have av:=r'.length
  exact len_tuple pl (by simp only[Rl]<;>lia) ⟨.int ys.length,H,I.tok _,⟨s.toks+1,by rw[Rl,av]⟩,q⟩
theorem uc:fZ X (.builtin "len") (fun xs H Q=>∃ z,xs=[.str z]∧z.length≤S'∧Q (.int z.length) H):=by
 intro aa s σ H xs us Q I r h
 obtain⟨z,rfl,hz,q⟩:=h
 obtain⟨u,rfl,t,rfl⟩:=gY r
 have hn:=lX
 exact len_str (by lia) ⟨.int z.length,H,I.tok _,⟨_,O⟩,q⟩
theorem B6:fZ X (.type "list") (fun xs H Q=>∃ p ys,xs=[.ref p]∧(P' X.K H p ys∨U4 X.K H p ys)∧∀ l,H l=i'→Q (.ref l) (upd H l (.lst ys))):=by
 intro aa s σ H xs us Q I r h
 obtain⟨p,ys,rfl,hq,q⟩:=h
 obtain⟨u,rfl,rx⟩:=gY r
 cases rx
 have aS:∀ (ah:List L'),aA ys ah→ys.length≤S'→∀ (h':Vb) (c':Nat),(∀ b o',s.heap.get? b=f' o'→h'.get? b=f' o') →
   h'.get? s.heap.objs.size=f' {cls:=.type "list",dict:=i',data:=.seq ah.toArray c',slots:=#[]}→EP X aa σ Q (.ref s.heap.objs.size) {s with heap:=h'}:=fun ah r' hz h' c' kp e=>
  ⟨.ref s.heap.objs.size,_,I.laid (t':=s.toks) kp (Re _) (show cR X.prog X.w _ h' _ (.lst ys) from⟨hz,ah,c',r',e⟩),O,q _ (I.UP.fresh (Re _))⟩
 rcases hq with hq|hq
 .obtain⟨ah,r',pl,hz⟩:=I.list hq
  have av:=r'.length
  obtain⟨o,ho,hc,n,hd⟩:=pl.isList
  exact call_list_seq p (.inl O) ho hc hd (fun h' c' kp e=>aS ah r' hz h' c' kp e) (by simp only[Rl]<;>lia)
 .obtain⟨ah,r',pl,hz⟩:=I.tuple hq
  have av:=r'.length
  obtain⟨o,ho,hc,n,hd⟩:=pl
  exact call_list_seq p (.inr O) ho hc hd (fun h' c' kp e=>aS ah r' hz h' c' kp e) (by simp only[Rl]<;>lia)
def tyV (K:R') (T:String) (x:V) (H:Hp):Prop:=match x with
 | .str _=>T="str"
 | .int _=>T="int"
 | .ref p=>(T="list"∧∃ xs,P' K H p xs)∨(T="tuple"∧∃ o,K.lookup p=f' o∧o.cls=.type "tuple"∧o.dict=i') ∨
   (T="dict"∧((∃ kvs,H p=f' (.dK kvs))∨∃ kvs,H p=f' (.dT kvs)))∨(T="set"∧∃ S n,H p=f' (.set S n))
 | _=>False
theorem Ej (I:Inv X aa σ H s) (r:aC x v) (ty:tyV X.K T x H) :
  s.TypeIs v T∧∀ a,v=.ref a→∃ ob,s.heap.get? a=f' ob∧ob.dict=i':=by
 cases x with
 | str z=>
  obtain⟨t,rfl⟩:=r
  cases (show T="str" from ty)
  exact⟨Qap s z t,fun _ e=>nomatch e⟩
 | int i=>
  obtain⟨t,rfl⟩:=r
  cases (show T="int" from ty)
  exact⟨QcZ s i t,fun _ e=>nomatch e⟩
 | ref p=>
  cases r
  rcases ty with⟨rfl,xs,hq⟩|⟨rfl,o,hk,hc,hd⟩|⟨rfl,hk⟩|⟨rfl,S,n,hk⟩
  .obtain⟨ah,_,pl,_⟩:=I.list hq
   refine⟨pl.isList.typeIs,fun a e=>?_⟩
   cases e
   obtain⟨o,n,e,c,hd,_⟩:=pl
   exact⟨o,e,hd⟩
  .refine⟨⟨o,I.Ve p o hk,hc⟩,fun a e=>?_⟩
   cases e
   exact⟨o,I.Ve _ o hk,hd⟩
  .have z:∃ o,s.heap.get? p=f' o∧o.ExactDict:=by
    rcases hk with⟨kvs,hk⟩|⟨kvs,hk⟩
    .obtain⟨_,_,_,_,o,_,_,e,ex,_⟩:=I.UP p _ hk
     exact⟨o,e,ex⟩
    .obtain⟨_,_,_,_,o,_,_,e,ex,_⟩:=I.UP p _ hk
     exact⟨o,e,ex⟩
   obtain⟨o,e,ex⟩:=z
   refine⟨⟨o,e,ex.1⟩,fun a e2=>?_⟩
   cases e2
   exact⟨o,e,ex.2.1⟩
  .obtain⟨o,_,_,_,e,ex,_⟩:=I.UP p _ hk
   refine⟨⟨o,e,ex.1⟩,fun a e2=>?_⟩
   cases e2
   exact⟨o,e,ex.2.1⟩
 | _=>exact VR ty
def Qhu (K:R') (T:String) (r:V→List V→Hp→VK→Prop) (to:TE):TE:=fun σ H Q=>to σ H fun x H1=>tyV K T x H1∧r x [] H1 Q
def tBM (K:R') (T:String) (r:V→List V→Hp→VK→Prop) (to:TE) (t:TA):TE:=fun σ H Q=>to σ H fun x H1=>tyV K T x H1∧t σ H1 fun xs H2=>r x xs H2 Q
variable {o:U3}{es:List U3}{to:TE}{t:TA}{name:C'}{aI aw:VC}{r:V→List V→Hp→VK→Prop}
theorem Qhv (pa:Qc1 T) (slot:Slot T name id) (qv:typeOf (.builtin id)=pure (.type "method_descriptor")) (hm:Zm X id r) (ho:PE X o to)
  (fK:Yc o name X.env (U2 o X.env)=U2 o X.env:=by rfl) (fE:(aI.endLine == aw.line)=B':=by rfl):PE X (.Call (.Attribute o name aI) [] [] aw) (Qhu X.K T r to):=by
 intro aa s σ H Q I h
 refine wpAny_Call_method0_late fK fE (UV (ho aa s σ H _ I h) fun v s1=>L2.U7 fun x H1 I1 r1 aW=>?_)
 obtain⟨ty,q1⟩:=aW
 obtain⟨h1,h2⟩:=Ej I1 r1 ty
 exact⟨T,id,pa,slot,qv,h1,h2,Qah O (PySem.evalArgs_none (hm aa s1 σ H1 x [] v [] Q I1 r1 .nil q1))⟩
theorem eA (pa:Qc1 T) (slot:Slot T name id) (qv:typeOf (.builtin id)=pure (.type "method_descriptor")) (hm:Zm X id r) (ho:PE X o to) (ha:PA X (e::es) t)
  (fK:Yc o name X.env (U2 o X.env)=U2 o X.env:=by rfl)
  (nk:((Vx aw (U1 (e::es) X.env)).all (fun x=>!x.1) && (Xl aw (Xj [] X.env)).all (fun x=>x.1.isSome)
   && decide ((e::es).length+([]:List Yh).length+(if ([]:List Yh).isEmpty then 0 else 1)<30))=B':=by rfl)
  (fE:(aI.endLine == aw.line)=B':=by rfl) (hs:U1 (e::es) X.env=(K',U2 e X.env)::U1 es X.env:=by rfl) (gE:(Vx aw (U1 es X.env)).any (·.1)=K':=by rfl) :
  PE X (.Call (.Attribute o name aI) (e::es) [] aw) (tBM X.K T r to t):=by
 intro aa s σ H Q I h
 refine wpAny_Call_method_late fK nk fE O (UV (ho aa s σ H _ I h) fun v s1=>L2.U7 fun x H1 I1 r1 aW=>?_)
 obtain⟨ty,q1⟩:=aW
 obtain⟨h1,h2⟩:=Ej I1 r1 ty
 refine⟨T,id,pa,slot,qv,h1,h2,?_⟩
 have hA:=ha aw aa s1 σ H1 _ I1 q1
 rw[hs] at hA ⊢
 refine Qah (by show(K' || (Vx aw (U1 es X.env)).any (·.1))=K';rw[gE]<;>rfl) (Qa7 ?_)
 exact UV hA fun us s2=>L2.U7 fun vs H2 I2 r2 q2=>hm aa s2 σ H2 x vs v us Q I2 r1 r2 q2
end
def MtM (X:Cx) (id:String) (r:V→List V→Hp→VK→Prop):Prop:=
 ∀ (aa:List (F'×U6)) (s:UM) (σ:St) (H:Hp) (x:V) (xs:List V) (v:L') (us:List L') (Q:VK),Inv X aa σ H s→aC x v→aA xs us→r x xs H Q →
  M' (UJ X.prog X.w) X.A (call (.builtin id) (v::us)) (EP X aa σ Q) X.xe s
theorem aA.one:∀ {x:V}{us:List L'},aA [x] us→∃ u,us=[u]∧aC x u
 | _,_,.cons r .nil=>⟨_,O,r⟩
theorem aA.eraseIdx:∀ {xs:List V}{us:List L'} (i:Nat),aA xs us→aA (xs.eraseIdx i) (us.eraseIdx i)
 | _,_,_,.nil=>.nil
 | _,_,0,.cons _ t=>t
 | _,_,i+1,.cons r t=>.cons r (aA.eraseIdx i t)
theorem aA.rep {xs:List V}{us:List L'} (h:aA xs us):∀ k:Nat,aA (U5 k xs).flatten (U5 k us).flatten
 | 0=>.nil
 | k+1=>by
  rw[Sn,Sn,SZ,SZ]
  exact aA.append h (aA.rep h k)
theorem FD {α:Type}:∀ (l:List α) (i:Nat),(l.eraseIdx i).length≤l.length
 | [],_=>Re _
 | _::_,0=>RQ _
 | _::r,i+1=>T4 (FD r i)
theorem D5 (ah:List L'):∀ (k:Nat) (acc:List L'),
  Qan (fun x1 x2=>x1++x2) acc.toArray (U5 k ah.toArray)=(acc++(U5 k ah).flatten).toArray
 | 0,acc=>by simp
 | k+1,acc=>by
  have e:acc.toArray++ah.toArray=(acc++ah).toArray:=by simp
  have e2:(acc++ah)++(U5 k ah).flatten=acc++(U5 (k+1) ah).flatten:=by
   rw[Sn,SZ,Sv]
  rw[← e2,← D5 ah k (acc++ah),← e,Sn,QfC]
section
variable {l:F'}{xs ys zs:List V}
theorem Inv.QaD {f:Array L'→Array L'} (I:Inv X aa σ H s) (hH:H l=f' (.lst xs))
  (e:s.heap.get? l=f' {cls:=.type "list",data:=.seq ah.toArray n}) (hf:f ah.toArray=its'.toArray) (hv:aA ys its') (hz:ys.length≤S') :
  Inv X aa σ (upd H l (.lst ys)) {s with heap:=s.heap.update l (Wl f),toks:=t'}:=by
 have q:=PySem.IsL.update e f
 rw[hf] at q
 refine I.write (x:=l) (e:=l) (by rw[hH];exact trivial) (.inl O) (fun b' u hb hu=>(Ro s.heap (Wl f) (US hb)).trans hu) ⟨_,q⟩ ?_
 exact⟨hz,its',_,hv,q⟩
theorem Inv.QbJ (I:Inv X aa σ H s) (hv:aA ys ah) (hz:ys.length≤S') :
  Inv X aa σ (upd H s.heap.objs.size (.lst ys)) {s with heap:=s.heap.push {cls:=.type "list",data:=.seq ah.toArray},toks:=t'}:=
 I.laid (fun _ _ q=>Ra _ q) (Re _) ⟨hz,ah,0,hv,Ri _ O⟩
theorem Inv.fresh (I:Inv X aa σ H s):H s.heap.objs.size=i':=I.UP.fresh (Re _)
theorem Inv.Yp (I:Inv X aa σ H s) (hH:H l=f' (.lst xs)):xs.length≤S'∧∃ (ah:List L') (n:Nat),aA xs ah∧xs.length=ah.length∧s.heap.get? l=f' {cls:=.type "list",data:=.seq ah.toArray n}:=by
 obtain⟨z,ah,n,r,e⟩:=I.UP l _ hH
 exact⟨z,ah,n,r,r.length,e⟩
theorem Fy (h:n≤S'):QaX n=K':=by
 unfold QaX
 exact Ry (by lia)
end
inductive K0 (x:V) (vs:List V) (H:Hp) (Q:VK):Prop
 | mk (l xs y:_) (_:x=.ref l) (_:vs=[y]) (_:H l=f' (.lst xs)) (_:xs.length<S') (_:Q .UU (upd H l (.lst (xs++[y]))))
theorem fS:MtM X "list.append" K0:=by
 intro aa s σ H x vs v us Q I rx rv h
 obtain⟨l,xs,y,rfl,rfl,hH,hz,q⟩:=h
 cases rx
 obtain⟨u,rfl,ru⟩:=rv.one
 obtain⟨z,ah,n,r,hl,e⟩:=I.Yp hH
 refine Ye Wv ⟨_,e,O⟩ F.entry_list_append (F.args_list_append_2 _ _) (PySem.list_append l ah.toArray n u (by rw[Rl];lia)) ⟨e,?_⟩
 refine⟨.UU,_,I.QaD (its':=ah++[u]) hH e (by simp) (r.append (.cons ru .nil)) ?_,O,q⟩
 rw[Ru,Um]
 lia
inductive OY (x:V) (vs:List V) (H:Hp) (Q:VK):Prop
 | mk (l b xs zs:_) (_:x=.ref l) (_:vs=[.ref b]) (_:H l=f' (.lst xs)) (_:H b=f' (.lst zs)) (_:xs.length+zs.length≤S') (_:Q .UU (upd H l (.lst (xs++zs))))
theorem NL:MtM X "list.extend" OY:=by
 intro aa s σ H x vs v us Q I rx rv h
 obtain⟨l,b,xs,zs,rfl,rfl,hH,hB,hz,q⟩:=h
 cases rx
 obtain⟨u,rfl,ru⟩:=rv.one
 cases ru
 obtain⟨z,ah,n,r,hl,e⟩:=I.Yp hH
 obtain⟨z2,gT,n2,r2,bO,e2⟩:=I.Yp hB
 have hsz:ah.toArray.size+gT.toArray.size≤S':=by rw[Rl,Rl];lia
 have ju:¬ (!ah.toArray.isEmpty && QaX (ah.toArray.size+gT.toArray.size))=B':=by
  rw[Fy hsz,S1]
  exact Rq
 refine Ye Qfu ⟨_,e,O⟩ F.entry_list_extend (F.args_list_extend_2 _ _)
  (AutoSeq1.list_extend_list_list_0 l ah.toArray n b gT.toArray n2 ju (by rw[Rl];lia) (by lia)) ⟨e,e2,?_⟩
 refine⟨.UU,_,I.QaD (its':=ah++gT) hH e (by simp) (r.append r2) ?_,O,q⟩
 rw[Ru]
 lia
inductive Qhw (x:V) (vs:List V) (H:Hp) (Q:VK):Prop
 | mk (l xs i k y:_) (_:x=.ref l) (_:vs=[.int i]) (_:H l=f' (.lst xs)) (_:-(2 ^ 63)≤i) (_:i<2 ^ 63) (_:Qaq i xs.length=f' k) (_:xs[k]?=f' y) (_:Q y (upd H l (.lst (xs.eraseIdx k))))
theorem Pj:MtM X "list.pop" Qhw:=by
 intro aa s σ H x vs v us Q I rx rv h
 obtain⟨l,xs,i,k,y,rfl,rfl,hH,h1,h2,hk,hy,q⟩:=h
 cases rx
 obtain⟨u,rfl,ru⟩:=rv.one
 obtain⟨t,rfl⟩:=ru
 obtain⟨z,ah,n,r,hl,e⟩:=I.Yp hH
 obtain⟨w,hw,dU⟩:=r.get hy
 refine Ye QfZ ⟨_,e,O⟩ F.entry_list_pop (F.args_list_pop_2 _ _)
  (MeetsSeq.list_pop_at l ah.toArray n i t k w (Qgq h1 h2) (by rw[Rl,← hl];exact hk) (by rw[← S3];exact hw) (by rw[Rl];lia)) ⟨e,?_⟩
 refine⟨y,_,I.QaD (its':=ah.eraseIdx k) hH e ?_ (r.eraseIdx k) ?_,dU,q⟩
 .show ah.toArray.eraseIdxIfInBounds k=(ah.eraseIdx k).toArray
  rw[List.eraseIdxIfInBounds_toArray]
 .have:=FD xs k
  lia
inductive Qdo (x:V) (y:V) (H:Hp) (Q:VK):Prop
 | mk (l b xs zs:_) (_:x=.ref l) (_:y=.ref b) (_:H l=f' (.lst xs)) (_:H b=f' (.lst zs)) (_:xs.length+zs.length≤S') (_:∀ p,H p=i'→Q (.ref p) (upd H p (.lst (xs++zs))))
theorem rV:VM X (Xu .Add) Qdo:=by
 intro aa s σ H x y v u Q I rx ry h
 obtain⟨l,b,xs,zs,rfl,rfl,hH,hB,hz,q⟩:=h
 cases rx
 cases ry
 obtain⟨z,ah,n,r,hl,e⟩:=I.Yp hH
 obtain⟨z2,gT,n2,r2,bO,e2⟩:=I.Yp hB
 refine PySem.P.add_list e e2 ?_ (by rw[Rl,Rl];lia)
 have ea:ah.toArray++gT.toArray=(ah++gT).toArray:=by simp
 rw[ea]
 exact⟨.ref _,_,I.QbJ (t':=s.toks) (r.append r2) (by rw[Ru];lia),O,q _ I.fresh⟩
inductive Qhx (x:V) (y:V) (H:Hp) (Q:VK):Prop
 | mk (l k xs:_) (_:x=.ref l) (_:y=.int k) (_:H l=f' (.lst xs)) (_:-(2 ^ 63)≤k) (_:k<2 ^ 63) (_:xs.length*k.toNat≤S') (_:∀ p,H p=i'→Q (.ref p) (upd H p (.lst (U5 k.toNat xs).flatten)))
theorem NZ {α:Type} (xs:List α) (k:Nat):(U5 k xs).flatten.length=k*xs.length:=by
 induction k with
 | zero=>simp
 | succ k ih=>rw[Sn,SZ,Ru,ih,Qgf,Qgh]
theorem uy:VM X (Xu .Mult) Qhx:=by
 intro aa s σ H x y v u Q I rx ry h
 obtain⟨l,k,xs,rfl,rfl,hH,h1,h2,hz,q⟩:=h
 cases rx
 obtain⟨t,rfl⟩:=ry
 obtain⟨z,ah,n,r,hl,e⟩:=I.Yp hH
 have av:ah.toArray.size*k.toNat≤S':=by rw[Rl,← hl];exact hz
 have jy:¬ ah.toArray.size*k.toNat > (2 ^ 63-1) / 8:=by
  have:(S':Nat)≤(2 ^ 63-1) / 8:=by decide
  lia
 have vo:¬ (!Qcg k)=B':=by
  rw[Qgq h1 h2]
  exact Rq
 have ju:¬ QaX (ah.toArray.size*k.toNat)=B':=by
  rw[Fy av]
  exact Rq
 have cW:Qan (fun x1 x2=>x1++x2) #[] (U5 (if ah.toArray.isEmpty=B' then 0 else k.toNat) ah.toArray)=(U5 k.toNat ah).flatten.toArray:=by
  have f0:∀ m:Nat,Qan (fun x1 x2=>x1++x2) #[] (U5 m ah.toArray)=(U5 m ah).flatten.toArray:=fun m=>by
   have:=D5 ah m []
   rw[Qfz] at this
   exact this
  rw[f0]
  cases ah with
  | nil=>simp
  | cons a r'=>rw[UL (by simp)]
 refine wpAny_binaryOp_repeat_ref (T:="list") (U:="int") (by decide) ⟨_,e,O⟩ (fun s'=>QcZ s' k t) noFill_list_mul F.fills_int_mul Qf0 repeat_list F.slot_int_index.lookup
  (Ye Qf0 (QcZ s k t) F.entry_int_rmul (F.args_int_rmul_2 _ _) (int___rmul___int_list k t l ah.toArray n)
   ⟨e,rfl,⟨_,e,rfl⟩,Ye F.slot_list_mul ⟨_,e,rfl⟩ F.entry_list_mul (F.args_list_mul_2 _ _) (AutoListH.list___mul___list_int_3 l ah.toArray n k t vo jy ju) ⟨e,?_⟩⟩)
 rw[cW]
 exact⟨.ref _,_,I.QbJ (t':=s.toks) (r.rep k.toNat) (by rw[NZ,Qgg];exact hz),O,q _ I.fresh⟩
section
variable {κ:Type} [DecidableEq κ]
def a8 (kvs:List (κ×V)) (k:κ):Option V:=(kvs.find? fun kv=>decide (kv.1=k)).map (·.2)
def cg (kvs:List (κ×V)) (k:κ) (v:V):List (κ×V):=
 if (kvs.any fun kv=>decide (kv.1=k))=B' then kvs.map (fun kv=>if kv.1=k then(kv.1,v) else kv) else kvs++[(k,v)]
def iU (kvs:List (κ×V)) (k:κ):List (κ×V):=kvs.filter fun kv=>decide (kv.1≠k)
theorem dm {p:κ×V}{r:List (κ×V)}{k:κ} (e:p.1=k):a8 (p::r) k=f' p.2:=by simp[a8,SU,e]
theorem cv {p:κ×V}{r:List (κ×V)}{k:κ} (e:¬ p.1=k):a8 (p::r) k=a8 r k:=by simp[a8,SU,e]
theorem sk (k:κ):∀ kvs:List (κ×V),(kvs.any fun kv=>decide (kv.1=k))=(a8 kvs k).isSome
 | []=>rfl
 | p::r=>by
  rw[SR]
  by_cases e:p.1=k
  .simp only[dm e,Rp e,Qf2,Option.isSome_some]
  .rw[cv e,Ry e,Ut];exact sk k r
theorem FC (k j:κ) (y:V):∀ kvs:List (κ×V),a8 (kvs.map fun kv=>if kv.1=k then(kv.1,y) else kv) j=(a8 kvs j).map fun x=>if j=k then y else x
 | []=>rfl
 | p::r=>by
  have ih:=FC k j y r
  rw[RS]
  by_cases h:p.1=k
  .rw[UN h]
   by_cases e:p.1=j
   .rw[dm (p:=(p.1,y)) e,dm e,Tv,UN (e.symm.trans h)]
   .rw[cv (p:=(p.1,y)) e,cv e,ih]
  .rw[UL h]
   by_cases e:p.1=j
   .rw[dm (p:=p) e,dm e,Tv,UL (fun z=>h (e.trans z))]
   .rw[cv (p:=p) e,cv e,ih]
theorem r9 (k j:κ) (y:V):∀ kvs:List (κ×V),a8 kvs k=i'→a8 (kvs++[(k,y)]) j=if j=k then f' y else a8 kvs j
 | [],_=>by
  by_cases e:k=j
  .rw[UN e.symm];exact dm (p:=(k,y)) e
  .rw[UL (fun z=>e z.symm)];exact cv (p:=(k,y)) e
 | p::r,hn=>by
  rw[List.cons_append]
  have hk:¬ p.1=k:=fun z=>by rw[dm z] at hn;cases hn
  rw[cv hk] at hn
  have ih:=r9 k j y r hn
  by_cases e:p.1=j
  .rw[dm e,dm e,UL (fun z=>hk (e.trans z))]
  .rw[cv e,cv e,ih]
theorem uf (kvs:List (κ×V)) (k j:κ) (y:V):a8 (cg kvs k y) j=if j=k then f' y else a8 kvs j:=by
 unfold cg
 by_cases a:(kvs.any fun kv=>decide (kv.1=k))=B'
 .rw[UN a,FC]
  rw[sk] at a
  by_cases e:j=k
  .obtain⟨x,hx⟩:=Xp.mp a
   rw[UN e,e,hx,Tv,UN rfl]
  .rw[UL e]
   cases a8 kvs j with
   | none=>rfl
   | some x=>rw[Tv,UL e]
 .rw[UL a]
  refine r9 k j y kvs ?_
  rw[sk] at a
  cases q:a8 kvs k with
  | none=>rfl
  | some x=>rw[q] at a;exact(a O).elim
theorem uX (kvs:List (κ×V)) (k:κ) (v:V):(cg kvs k v).length≤kvs.length+1:=by
 unfold cg
 split
 .rw[Q9];lia
 .rw[Ru,Rn,QfB];lia
theorem rS {kvs:List (κ×V)}{k:κ} (v:V) (h:a8 kvs k=i'):cg kvs k v=kvs++[(k,v)]:=by
 unfold cg
 rw[sk,h]
 exact UL (by decide)
theorem ee.Zn {u:Option L'} (r:ee o u):o.isSome=u.isSome:=by
 cases o with
 | none=>cases u with
  | none=>rfl
  | some _=>exact(show False from r).elim
 | some _=>cases u with
  | none=>exact(show False from r).elim
  | some _=>rfl
theorem ee.getD {o:Option V}{u:Option L'}{d:V}{d':L'} (r:ee o u) (rd:aC d d'):aC (o.getD d) (u.getD d'):=by
 cases o with
 | none=>cases u with
  | none=>exact rd
  | some _=>exact(show False from r).elim
 | some _=>cases u with
  | none=>exact(show False from r).elim
  | some _=>exact r
theorem KV.val {kvs:List (κ×V)}{vs:List (κ×L')} (r:KV kvs vs) (k:κ):ee (a8 kvs k) (Yg vs k):=by
 unfold KV at r
 induction r with
 | nil=>exact Wz
 | @cons p q ps qs h t ih=>
  obtain⟨h1,h2⟩:=h
  by_cases e:p.1=k
  .have e':q.1=k:=h1.symm.trans e
   have b:Yg (q::qs) k=f' q.2:=by simp[Yg,SU,e']
   rw[dm e,b];exact h2
  .have e':¬ q.1=k:=fun z=>e (h1.trans z)
   have b:Yg (q::qs) k=Yg qs k:=by simp[Yg,SU,e']
   rw[cv e,b];exact ih
theorem KV.any {kvs:List (κ×V)}{vs:List (κ×L')} (r:KV kvs vs) (k:κ):(kvs.any fun kv=>decide (kv.1=k))=vs.any fun kv=>decide (kv.1=k):=by
 unfold KV at r
 induction r with
 | nil=>rfl
 | cons h t ih=>rw[SR,SR,ih,h.1]
theorem KV.QbK {kvs:List (κ×V)}{vs:List (κ×L')} (r:KV kvs vs) (k:κ) (ry:aC y u) :
  KV (kvs.map fun kv=>if kv.1=k then(kv.1,y) else kv) (vs.map fun kv=>if kv.1=k then(kv.1,u) else kv):=by
 unfold KV at r ⊢
 induction r with
 | nil=>exact .nil
 | @cons p q ps qs h t ih=>
  rw[RS,RS]
  refine .cons ?_ ih
  obtain⟨h1,h2⟩:=h
  by_cases e:p.1=k
  .rw[UN e,UN (h1.symm.trans e)];exact⟨h1,ry⟩
  .rw[UL e,UL (fun z=>e (h1.trans z))];exact⟨h1,h2⟩
theorem KV.put {kvs:List (κ×V)}{vs:List (κ×L')} (r:KV kvs vs) (k:κ) (ry:aC y u):KV (cg kvs k y) (Xx vs k u):=by
 unfold cg Xx
 rw[r.any k]
 by_cases e:(vs.any fun kv=>decide (kv.1=k))=B'
 .rw[UN e,UN e];exact r.QbK k ry
 .rw[UL e,UL e];exact QfM r ⟨O,ry⟩
theorem KV.drop {kvs:List (κ×V)}{vs:List (κ×L')} (r:KV kvs vs) (k:κ):KV (iU kvs k) (without vs k):=by
 unfold KV at r ⊢
 unfold iU without
 induction r with
 | nil=>exact .nil
 | @cons p q ps qs h t ih=>
  obtain⟨h1,h2⟩:=h
  rw[RT,RT]
  by_cases e:p.1=k
  .have a:¬ decide (p.1≠k)=B':=by simp[e]
   have b:¬ decide (q.1≠k)=B':=by simp[h1.symm.trans e]
   rw[UL a,UL b];exact ih
  .have e':¬ q.1=k:=fun z=>e (h1.trans z)
   have a:decide (p.1≠k)=B':=by simp[e]
   have b:decide (q.1≠k)=B':=by simp[e']
   rw[UN a,UN b];exact .cons ⟨h1,h2⟩ ih
theorem KV.length {kvs:List (κ×V)}{vs:List (κ×L')} (r:KV kvs vs):kvs.length=vs.length:=Qbk r
theorem Lv (kvs:List (κ×V)) (k:κ):(iU kvs k).length≤kvs.length:=So _ _
end
theorem iP {k:Key} (r:aC (kV k) u):(b9 P w).is k u=B':=by
 cases k with
 | inl i=>obtain⟨t,e⟩:=(show ∃ t,u=XT i t from r);subst e;exact K7 P w i t
 | inr x=>obtain⟨t,e⟩:=(show ∃ t,u=ZP x t from r);subst e;exact MI P w x t
theorem Ed {P:Vv}{w:VA}:∀ {ks:List Key}{us:List L'},aA (ks.map kV) us→ItemsAre (b9 P w) ks us
 | [],_,r=>by rw[UA] at r;cases r;exact .nil
 | k::ks,_,r=>by
  rw[RS] at r
  cases r with
  | cons h t=>exact .cons (iP h) (Ed t)
abbrev KT (H:Hp):List (List Key×V)→List (List Key×F'×L')→Prop:=Zf fun p q=>p.1=q.1∧H q.2.1=f' (.tup (p.1.map kV))∧aC p.2 q.2.2
theorem KT.val (r:KT H kvs xs) (k:List Key):ee (a8 kvs k) ((Yj xs k).map (·.2)):=by
 induction r with
 | nil=>exact Wz
 | @cons p q ps qs h t ih=>
  obtain⟨h1,_,h2⟩:=h
  by_cases e:p.1=k
  .have e':q.1=k:=h1.symm.trans e
   have b:Yj (q::qs) k=f' q.2:=by simp[Yj,SU,e']
   rw[dm e,b];exact h2
  .have e':¬ q.1=k:=fun z=>e (h1.trans z)
   have b:Yj (q::qs) k=Yj qs k:=by simp[Yj,SU,e']
   rw[cv e,b];exact ih
theorem KT.QbK (r:KT H kvs xs) (k:List Key) (ry:aC y u) :
  KT H (kvs.map fun kv=>if kv.1=k then(kv.1,y) else kv) (xs.map (putAt k u)):=by
 induction r with
 | nil=>exact .nil
 | @cons p q ps qs h t ih=>
  rw[RS,RS]
  refine .cons ?_ ih
  obtain⟨h1,h2,h3⟩:=h
  unfold putAt
  by_cases e:p.1=k
  .rw[UN e,UN (h1.symm.trans e)];exact⟨h1,h2,ry⟩
  .rw[UL e,UL (fun z=>e (h1.trans z))];exact⟨h1,h2,h3⟩
theorem KT.put (r:KT H kvs xs) (k:List Key) (hb:H b=f' (.tup (k.map kV))) (ry:aC y u) :
  KT H (cg kvs k y) (storedH xs k b u):=by
 have e:(kvs.any fun kv=>decide (kv.1=k))=(Yj xs k).isSome:=by
  rw[sk,(r.val k).Zn,TW]
 unfold cg storedH
 rw[e]
 by_cases q:(Yj xs k).isSome=B'
 .rw[UN q,UN q];exact r.QbK k ry
 .rw[UL q,UL q];exact QfM r ⟨O,hb,ry⟩
theorem KT.keeps (r:KT H kvs xs) (ht:∀ b ys,H b=f' (.tup ys)→H' b=f' (.tup ys)):KT H' kvs xs:=
 Paired.QbC r fun _ _ z=>⟨z.1,ht _ _ z.2.1,z.2.2⟩
section
variable {h:Vb}
theorem Qdp {u:HO} (ok:VD P w H h) (e:Rd H a u):cR P w H h a u:=e.ok ok
theorem lf {kvs:List (Key×V)} (ok:VD P w H h) (e:Rd H a (.dK kvs)):kvs.length≤S'∧(a == Wm)=K'∧∃ vs,KV kvs vs∧h.DictOf (b9 P w) a vs:=
 show cR P w H h a (.dK kvs) from Qdp ok e
theorem o5 {kvs:List (Key×V)} (ok:VD P w H h) (e:H a=f' (.dK kvs)):kvs.length≤S'∧(a == Wm)=K'∧∃ vs,KV kvs vs∧h.DictOf (b9 P w) a vs:=lf ok (.inl e)
theorem nE {ks:List Key} (ok:VD P w H h) (e:H a=f' (.tup (ks.map kV))):(Za (b9 P w)).is h ks a:=by
 obtain⟨_,ah,r,o,h1,h2,n,h3⟩:=(show cR P w H h a (.tup (ks.map kV)) from ok a _ e)
 exact⟨o,ah.toArray,n,h1,h2,h3,by simpa using Ed r⟩
theorem md (ok:VD P w H h) (e:Rd H a (.dT kvs)):kvs.length≤S'∧(a == Wm)=K' ∧
  ∃ xs,KT H kvs xs∧h.DictOfH (Za (b9 P w)) a xs:=by
 obtain⟨z,y,xs,r,o,es,ep,h1,h2,h3,h4,h5⟩:=(show cR P w H h a (.dT kvs) from Qdp ok e)
 refine⟨z,y,xs,r,o,es,ep,h1,h2,h3,h4,fun x hx=>?_,h5⟩
 have all:∀ {l:List (List Key×V)}{m:List (List Key×F'×L')},KT H l m→∀ x∈m,(Za (b9 P w)).is h x.1 x.2.1:=by
  intro l m q
  induction q with
  | nil=>intro x hx;exact nomatch hx
  | @cons p q ps qs hq t ih=>
   intro x hx
   rcases RY.mp hx with e|hx
   .subst e
    exact nE ok (by rw[← hq.1];exact hq.2.1)
   .exact ih x hx
 exact all r x hx
theorem Qhy (ok:VD P w H h) (e:H a=f' (.dT kvs)):kvs.length≤S'∧(a == Wm)=K' ∧
  ∃ xs,KT H kvs xs∧h.DictOfH (Za (b9 P w)) a xs:=md ok (.inl e)
end
def ci (H:Hp) (a:F') (y:V) (r:Option V):Prop:=
 (∃ kvs k,Rd H a (.dK kvs)∧y=kV k∧r=a8 kvs k)∨∃ kvs k b,Rd H a (.dT kvs)∧y=.ref b∧H b=f' (.tup (k.map kV))∧r=a8 kvs k
def pk (H:Hp) (a:F') (y v:V) (H':Hp):Prop:=
 (∃ kvs k,H a=f' (.dK kvs)∧y=kV k∧kvs.length<S'∧H'=upd H a (.dK (cg kvs k v))) ∨
 ∃ kvs k b,H a=f' (.dT kvs)∧y=.ref b∧H b=f' (.tup (k.map kV))∧kvs.length<S'∧H'=upd H a (.dT (cg kvs k v))
theorem ci.k {H:Hp}{a:F'}{kvs:List (Key×V)}{k:Key} (e:H a=f' (.dK kvs)):ci H a (kV k) (a8 kvs k):=.inl ⟨kvs,k,.inl e,O,O⟩
theorem pk.k {H:Hp}{a:F'}{kvs:List (Key×V)}{k:Key}{v:V} (e:H a=f' (.dK kvs)) (hl:kvs.length<S'):pk H a (kV k) v (upd H a (.dK (cg kvs k v))):=.inl ⟨kvs,k,e,O,hl,O⟩
section
variable {v:V}{r:L'}
theorem Inv.big (I:Inv X aa σ H s):Wm<s.heap.objs.size:=by
 have h:V1<s.heap.objs.size:=(I.mod.glob.keeps I.bk).lt
 exact Tw (by decide) h
theorem Mq (hu:A.units+1<VB) (I:Inv X aa σ H s) (g:ci H a y (f' v)) (ry:aC y u) (h:∀ w' s',Inv X aa σ H s'→aC v w'→Q w' s') :
  M' (UJ X.prog X.w) A (Xw (.ref a) u) Q E s:=by
 rcases g with⟨kvs,k,e,ey,l⟩|⟨kvs,k,b,e,ey,eb,l⟩
 .subst ey
  obtain⟨z,hd,vs,rel,dd⟩:=lf I.UP e
  obtain⟨w',hw,dU⟩:=ee.some_of (v:=v) (o:=Yg vs k) (by rw[l];exact rel.val k)
  exact Qf5 (iP ry) dd.mapOf hw (h w' _ (I.tok _) dU)
 .subst ey
  cases (show u=UW b from ry)
  obtain⟨z,hd,xs,rel,dd⟩:=md I.UP e
  obtain⟨w',hw,dU⟩:=ee.some_of (v:=v) (o:=(Yj xs k).map (·.2)) (by rw[l];exact rel.val k)
  obtain⟨p,hp,dv⟩:=Zw.mp hw
  refine wpAny_getItem_heap (ZG hu) (nE I.UP eb) dd hp ?_
  rw[dv]
  exact h w' _ (I.tok _) dU
theorem Qhz (hu:A.units+1<VB) (I:Inv X aa σ H s) (g:ci H a y o) (ry:aC y u) (h:∀ s',Inv X aa σ H s'→Q (.bool o.isSome) s') :
  M' (UJ X.prog X.w) A (Wp .In u (.ref a)) Q E s:=by
 rcases g with⟨kvs,k,e,ey,l⟩|⟨kvs,k,b,e,ey,eb,l⟩
 .subst ey
  obtain⟨z,hd,vs,rel,dd⟩:=lf I.UP e
  refine wpAny_in_of (iP ry) hd dd.mapOf ?_
  rw[← (rel.val k).Zn,← l]
  exact h _ (I.tok _)
 .subst ey
  cases (show u=UW b from ry)
  obtain⟨z,hd,xs,rel,dd⟩:=md I.UP e
  refine wpAny_in_heap (ZG hu) (nE I.UP eb) hd dd ?_
  have q:=(rel.val k).Zn
  rw[TW] at q
  rw[← q,← l]
  exact h _ (I.tok _)
theorem LY (hu:A.units+1<VB) (I:Inv X aa σ H s) (g:ci H a y o) (ry:aC y u) (h:∀ s',Inv X aa σ H s'→Q (.bool (!o.isSome)) s') :
  M' (UJ X.prog X.w) A (Wp .NotIn u (.ref a)) Q E s:=by
 rcases g with⟨kvs,k,e,ey,l⟩|⟨kvs,k,b,e,ey,eb,l⟩
 .subst ey
  obtain⟨z,hd,vs,rel,dd⟩:=lf I.UP e
  refine Qgo (iP ry) hd dd.mapOf ?_
  rw[← (rel.val k).Zn,← l]
  exact h _ (I.tok _)
 .subst ey
  cases (show u=UW b from ry)
  obtain⟨z,hd,xs,rel,dd⟩:=md I.UP e
  refine wpAny_notIn_heap (ZG hu) (nE I.UP eb) hd dd ?_
  have q:=(rel.val k).Zn
  rw[TW] at q
  rw[← q,← l]
  exact h _ (I.tok _)
theorem uk {ob:HO} (I:Inv X aa σ H s) (mu:ZV (H a)) (hs:XR a s.heap h') (he:∃ q,h'.get? a=f' q) (new:cR X.prog X.w (upd H a ob) h' a ob) :
  Inv X aa σ (upd H a ob) {s with heap:=h',toks:=t'}:=
 I.write (x:=a) (e:=a) mu (.inl O) (fun b q hb z=>(hs.2 b hb).trans z) he new
theorem zo {kvs:List (Key×V)}{vs:List (Key×L')} (z:kvs.length≤S') (hd:(a == Wm)=K') (rel:KV kvs vs) (dd:h'.DictOf (b9 P w) a vs) :
  cR P w H' h' a (.dK kvs):=⟨z,hd,vs,rel,dd⟩
theorem NK {Q:Unit→UM→Prop} (hu:A.units+1<VB) (I:Inv X aa σ H s) (g:pk H a y v H') (ry:aC y u) (rv:aC v r) (h:∀ s',Inv X aa σ H' s'→Q () s') :
  M' (UJ X.prog X.w) A (setItem (.ref a) u r) Q E s:=by
 rcases g with⟨kvs,k,e,ey,l,eH⟩|⟨kvs,k,b,e,ey,eb,l,eH⟩
 .subst ey eH
  obtain⟨z,hd,vs,rel,dd⟩:=o5 I.UP e
  have hz:vs.length≤S':=by rw[← rel.length];exact z
  have hl:(cg kvs k v).length≤S':=by have:=uX kvs k v;lia
  refine wpAny_setItem_pairs (hsz:=hz) (iP ry) dd fun h' jY hs=>h _ ?_
  have he:∃ q,h'.get? a=f' q:=let ⟨q,_,_,hq,_⟩:=jY;⟨q,hq⟩
  exact uk I (by rw[e];exact Wz) hs he (zo hl hd (rel.put k rv) jY)
 .subst ey eH
  cases (show u=UW b from ry)
  obtain⟨z,hd,xs,rel,dd⟩:=Qhy I.UP e
  have hz:xs.length≤S':=by rw[← Qbk rel];exact z
  have hl:(cg kvs k v).length≤S':=by have:=uX kvs k v;lia
  refine wpAny_setItem_heap (hsz:=hz) (ZG hu) (nE I.UP eb) dd fun h' jY hs=>h _ ?_
  obtain⟨q,es,ep,hq,h2,h3,h4,_,h5⟩:=jY
  refine uk I (by rw[e];exact Wz) hs ⟨q,hq⟩ ⟨hl,hd,_,(rel.put k eb rv).keeps fun c ys ec=>?_,q,es,ep,hq,h2,h3,h4,h5⟩
  rw[aj (bN ec e (fun z=>nomatch z))]
  exact ec
end
section
variable {kvs:List (Key×V)}{k:Key}
theorem QhA {v:V} (I:Inv X aa σ H s) (e:H a=f' (.dK kvs)) (ry:aC (kV k) u) (l:a8 kvs k=f' v) (hm:more=[]∨∃ x,more=[x])
  (h:∀ w' s',Inv X aa σ (upd H a (.dK (iU kvs k))) s'→aC v w'→Q w' s'):M' (UJ X.prog X.w) A (call (.builtin "dict.pop") (.ref a::u::more)) Q E s:=by
 obtain⟨z,hd,vs,rel,dd⟩:=o5 I.UP e
 obtain⟨w',hw,dU⟩:=ee.some_of (v:=v) (o:=Yg vs k) (by rw[← l];exact rel.val k)
 have hp:(keyPart u).isSome=B':=by
  cases k with
  | inl i=>obtain⟨t,q⟩:=(show ∃ t,u=XT i t from ry);subst q;rfl
  | inr x=>obtain⟨t,q⟩:=(show ∃ t,u=ZP x t from ry);subst q;rfl
 have ha:argsOk "dict.pop" ⟨.ref a::u::more,[]⟩:=by
  rcases hm with q|⟨x,q⟩
  .subst q;exact PySem.F.args_dict_pop_2 _ _
  .subst q;exact PySem.F.args_dict_pop_3 _ _ _
 refine ZN QeW dd.typeIs PySem.F.entry_dict_pop ha (meets_dict_pop_there (b9 X.prog X.w) a (iP ry) more hm hp)
  ⟨vs,w',dd,by rw[← rel.length];exact z,hw,fun h' jY hs=>h w' _ ?_ dU⟩
 have he:∃ q,h'.get? a=f' q:=let ⟨q,_,_,hq,_⟩:=jY;⟨q,hq⟩
 exact uk I (by rw[e];exact Wz) hs he (zo (RZ (Lv kvs k) z) hd (rel.drop k) jY)
theorem QhB (I:Inv X aa σ H s) (e:Rd H a (.dK kvs)) (h:∀ t s',Inv X aa σ H s'→Q (.int kvs.length t) s'):M' (UJ X.prog X.w) A (call (.builtin "len") [.ref a]) Q E s:=by
 obtain⟨z,hd,vs,rel,dd⟩:=lf I.UP e
 refine call_len_dict hd dd (by rw[← rel.length];rw[Rh] at z;lia) ?_
 rw[← rel.length]
 exact h _ _ (I.tok _)
end
def QbL (i:U3):Prop:=∀ ov iv,Qbt i K' ov iv=operate [ov,iv] (Xw ov iv)
theorem B7 {env:V5}{slice:U3}
  (hl:Xt (.type T) "__getitem__"=pure (f' (.builtin id))) (hs:QbL slice)
  (h:M' (UJ prog w) A (U2 value env) (fun o s₁=>M' (UJ prog w) A (U2 slice env) (fun i s₂=>s₂.TypeIs o T∧M' (UJ prog w) A (Xw o i) Q E s₂) E s₁) E s) :
  M' (UJ prog w) A (U2 (.Subscript value slice pos) env) Q E s:=by
 refine Qc2 (RW h (fun o s₁ h₁=>RW h₁ (fun i s₂ h₂=>?_) fun _ _ x=>x) fun _ _ x=>x)
 obtain⟨hT,h₂⟩:=h₂
 unfold QcS
 refine mK ?_
 rw[getitemInPython_of_ne hT.not_modules]
 refine mK (Ud hT hl ?_)
 have aS:M' (UJ prog w) A (Qbt slice K' o i) (fun r s₃=>M' (UJ prog w) A (letTemporaryGo value o r >>= fun _=>pure r) Q E s₃) E s₂:=by
  rw[hs o i]
  exact wpAny_operating (RW h₂ (fun r s₃ h₃=>mK (wpAny_letTemporaryGo (Rb h₃))) fun _ _ x=>x)
 first
  | exact Rb (mK aS)
  | exact mK (Rb (mK aS))
  | exact mK aS
theorem OT (I:Inv X aa σ H s) (g:ci H a y o):s.TypeIs (.ref a) "dict":=by
 rcases g with⟨kvs,k,e,_,_⟩|⟨kvs,k,b,e,_,_,_⟩
 .obtain⟨_,_,vs,_,dd⟩:=lf I.UP e
  exact dd.typeIs
 .obtain⟨_,_,xs,_,dd⟩:=md I.UP e
  exact dd.typeIs
inductive QhC (Q:VK) (x:V) (y:V) (H2:Hp):Prop
 | mk (a v:_) (_:x=.ref a) (_:ci H2 a y (f' v)) (_:Q v H2)
def QhD (td ty:TE):TE:=fun σ H Q=>td σ H fun x H1=>ty σ H1 fun y H2=>QhC Q x y H2
inductive QhE (Q:VK) (y:V) (x:V) (H2:Hp):Prop
 | mk (a o:_) (_:x=.ref a) (_:ci H2 a y o) (_:Q (.bl o.isSome) H2)
def QhF (ty td:TE):TE:=fun σ H Q=>ty σ H fun y H1=>td σ H1 fun x H2=>QhE Q y x H2
inductive NQ (Q:VK) (y:V) (x:V) (H2:Hp):Prop
 | mk (a o:_) (_:x=.ref a) (_:ci H2 a y o) (_:Q (.bl (!o.isSome)) H2)
def Oh (ty td:TE):TE:=fun σ H Q=>ty σ H fun y H1=>td σ H1 fun x H2=>NQ Q y x H2
inductive QhG (D:eJ) (σ:St) (v:V) (x:V) (y:V) (H3:Hp):Prop
 | mk (a H4:_) (_:x=.ref a) (_:pk H3 a y v H4) (_:D.nx σ H4)
def QhH (td ty tv:TE):TS:=fun D σ H=>tv σ H fun v H1=>td σ H1 fun x H2=>ty σ H2 fun y H3=>QhG D σ v x y H3
section
variable {o i:U3}{br Zi:VC}{td ty tv:TE}
theorem fY (hu:X.A.units+1<VB) (ho:PE X o td) (hi:PE X i ty) (hs:QbL i):PE X (.Subscript o i pos) (QhD td ty):=by
 intro aa s σ H Q I h
 refine B7 QeF.lookup hs (UV (ho aa s σ H _ I h) fun u s1=>L2.U7 fun x H1 I1 rx q1=>UV (hi aa s1 σ H1 _ I1 q1) fun iv s2=>L2.U7 fun y H2 I2 ry aW=>?_)
 obtain⟨a,v,ex,g,q2⟩:=aW
 subst ex
 obtain rfl:u=UW a:=rx
 exact⟨OT I2 g,Mq hu I2 g ry fun w' s3 I3 dU=>⟨v,H2,I3,dU,q2⟩⟩
theorem QhI (hu:X.A.units+1<VB) (hi:PE X i ty) (ho:PE X o td):PC X .In i o (QhF ty td):=by
 intro aa s σ H Q I h
 refine UV (hi aa s σ H _ I h) fun iv s1=>L2.U7 fun y H1 I1 ry q1=>UV (ho aa s1 σ H1 _ I1 q1) fun u s2=>L2.U7 fun x H2 I2 rx aW=>?_
 obtain⟨a,ov,ex,g,q2⟩:=aW
 subst ex
 obtain rfl:u=UW a:=rx
 exact Qhz hu I2 g ry fun s3 I3=>⟨.bl ov.isSome,H2,I3,O,q2⟩
theorem yg (hu:X.A.units+1<VB) (hi:PE X i ty) (ho:PE X o td):PC X .NotIn i o (Oh ty td):=by
 intro aa s σ H Q I h
 refine UV (hi aa s σ H _ I h) fun iv s1=>L2.U7 fun y H1 I1 ry q1=>UV (ho aa s1 σ H1 _ I1 q1) fun u s2=>L2.U7 fun x H2 I2 rx aW=>?_
 obtain⟨a,ov,ex,g,q2⟩:=aW
 subst ex
 obtain rfl:u=UW a:=rx
 exact LY hu I2 g ry fun s3 I3=>⟨.bl (!ov.isSome),H2,I3,O,q2⟩
theorem rn (hu:X.A.units+1<VB) (ho:PE X o td) (hi:PE X i ty) (hv:PE X value tv) (hs:ZQ value (f' (.Subscript o i br)) pos.line X.env=pure K') :
  PS X (.Assign [.Subscript o i br] value pos) (QhH td ty tv):=by
 intro aa s σ H D I h
 refine wpAny_Assign_Subscript (UV (hv aa s σ H _ I h) fun r s1=>L2.U7 fun v H1 I1 rv q1=>UV (ho aa s1 σ H1 _ I1 q1) fun u s2=>L2.U7 fun x H2 I2 rx q2=>UV (hi aa s2 σ H2 _ I2 q2) fun iv s3=>L2.U7 fun y H3 I3 ry aW=>?_) hs
 obtain⟨a,H4,ex,g,q3⟩:=aW
 subst ex
 obtain rfl:u=UW a:=rx
 exact NK hu I3 g ry rv fun s4 I4=>⟨σ,H4,I4,q3⟩
end
theorem ud (h:Vb) (hb:Wm<h.objs.size):cR P w H (h.push {cls:=.type "dict",data:=.dict #[]}) h.objs.size (.dK []):=
 ⟨R6 _,ZF.mpr (US (Rj hb)),[],.nil,Qcw h⟩
def QhJ:TE:=fun _ H Q=>∀ p,H p=i'→Q (.ref p) (upd H p (.dK []))
theorem sr:PE X (.Dict [] [] pos) QhJ:=fun aa s σ H Q I h=>
 wpAny_Dict_empty ⟨.ref s.heap.objs.size,_,I.laid (a:=s.heap.objs.size) (o:=.dK []) (t':=s.toks) (fun _ _ q=>Ra _ q) (Re _) (ud s.heap I.big),O,h _ (I.UP.fresh (Re _))⟩
def zj:List (TE×TE)→St→Hp→(List (V×V)→Hp→Prop)→Prop
 | [],_,H,Q=>Q [] H
 | (tk,tv)::r,σ,H,Q=>tk σ H fun x H1=>tv σ H1 fun y H2=>zj r σ H2 fun ps H3=>Q ((x,y)::ps) H3
abbrev VV:List (V×V)→List (L'×L')→Prop:=Zf fun p q=>aC p.1 q.1∧aC p.2 q.2
def Z4 (X:Cx) (pos:VC) (keys:List (Option U3)) (bG:List U3) (iW:List (TE×TE)):Prop:=
 ∀ (aa:List (F'×U6)) (s:UM) (σ:St) (H:Hp) (Q:List (V×V)→Hp→Prop),Inv X aa σ H s→zj iW σ H Q →
  M' (UJ X.prog X.w) X.A (evalPairs (pairTrees keys bG X.env pos)) (fun vs s'=>∃ ps H',Inv X aa σ H' s'∧VV ps vs∧Q ps H') X.xe s
theorem CF:Z4 X pos [] [] []:=fun aa s σ H Q I h=>pairTrees_nil_walk ⟨[],H,I,.nil,h⟩
theorem C7 {k v:U3}{ks:List (Option U3)}{vs:List U3}{tk tv:TE} (hk:PE X k tk) (hv:PE X v tv) (hr:Z4 X pos ks vs iW) :
  Z4 X pos (f' k::ks) (v::vs) ((tk,tv)::iW):=fun aa s σ H Q I h=>
 pairTrees_cons_walk (UV (hk aa s σ H _ I h) fun u s1=>L2.U7 fun x H1 I1 rx q1=>UV (hv aa s1 σ H1 _ I1 q1) fun w2 s2=>L2.U7 fun y H2 I2 ry q2=>
  UV (hr aa s2 σ H2 _ I2 q2) fun ws s3 ⟨ps,H3,I3,rel,q3⟩=>⟨(x,y)::ps,H3,I3,.cons ⟨rx,ry⟩ rel,q3⟩)
def jI (kvs more:List (Key×V)):List (Key×V):=more.foldl (fun acc kv=>cg acc kv.1 kv.2) kvs
theorem KV.merge:∀ {more:List (Key×V)}{rs:List (Key×L')}{kvs:List (Key×V)}{vs:List (Key×L')},KV more rs→KV kvs vs→KV (jI kvs more) (merged vs rs):=by
 intro more rs kvs vs r
 unfold KV at r
 induction r generalizing kvs vs with
 | nil=>intro q;exact q
 | @cons p q ps qs h t ih=>
  intro r0
  have e:KV (cg kvs p.1 p.2) (Xx vs q.1 q.2):=by
   have:=r0.put p.1 h.2
   rw[← h.1];exact this
  exact ih e
theorem Cj:∀ (more kvs:List (Key×V)),(jI kvs more).length≤kvs.length+more.length
 | [],kvs=>by show kvs.length≤kvs.length+0;lia
 | p::r,kvs=>by
  have h1:=Cj r (cg kvs p.1 p.2)
  have h2:=uX kvs p.1 p.2
  show(jI (cg kvs p.1 p.2) r).length≤_
  rw[Rn];lia
theorem Ez {P:Vv}{w:VA}:∀ {kvs:List (Key×V)}{ws:List (L'×L')},VV (kvs.map fun kv=>(kV kv.1,kv.2)) ws→∃ rs,Carries (b9 P w) ws rs∧KV kvs rs
 | [],_,r=>by rw[UA] at r;cases r;exact⟨[],Wz,.nil⟩
 | p::kvs,_,r=>by
  rw[RS] at r
  cases r with
  | @cons a b as bs h t=>
   obtain⟨rs,c,q⟩:=Ez (P:=P) (w:=w) t
   obtain⟨b1,b2⟩:=b
   exact⟨(p.1,b2)::rs,⟨iP h.1,O,c⟩,.cons ⟨O,h.2⟩ q⟩
def Qdq (iW:List (TE×TE)):TE:=fun σ H Q=>∀ p,H p=i'→zj iW σ (upd H p (.dK [])) fun ps H2=>H2 p=f' (.dK [])∧∃ kvs:List (Key×V),ps=kvs.map (fun kv=>(kV kv.1,kv.2))∧kvs.length≤15∧Q (.ref p) (upd H2 p (.dK (jI [] kvs)))
theorem Em {keys:List (Option U3)}{bG:List U3} (h:Z4 X pos keys bG iW) (mT:keys.all (·.isSome)=B') (hl:keys.length=bG.length) (h0:keys≠[])
  (Ht:keys.length≤15):PE X (.Dict keys bG pos) (Qdq iW):=by
 intro aa s σ H Q I q
 have hn:=I.UP.fresh (Re s.heap.objs.size)
 have I1:=I.laid (a:=s.heap.objs.size) (o:=.dK []) (h':=s.heap.push {cls:=.type "dict",data:=.dict #[]}) (t':=s.toks) (fun _ _ q=>Ra _ q) (Re _) (ud s.heap I.big)
 refine wpAny_Dict_walk (knd:=b9 X.prog X.w) mT hl h0 Ht (UV (h aa _ σ _ _ I1 (q _ hn)) fun ws s2=>L2.U7 fun ps H2 I2 rel aW=>?_)
 obtain⟨e,kvs,ep,lk,q2⟩:=aW
 subst ep
 obtain⟨rs,c,rk⟩:=Ez (P:=X.prog) (w:=X.w) rel
 obtain⟨z,hd,QX,r0,dd⟩:=o5 I2.UP e
 cases r0
 refine⟨rs,c,dd,fun h' jY hs=>⟨.ref s.heap.objs.size,_,?_,O,q2⟩⟩
 have hz:(jI [] kvs).length≤S':=by
  have h1:=Cj kvs []
  rw[QfB] at h1
  rw[Rh];lia
 have he:∃ q,h'.get? s.heap.objs.size=f' q:=let ⟨q,_,_,hq,_⟩:=jY;⟨q,hq⟩
 exact uk I2 (by rw[e];exact Wz) hs he (zo hz hd (rk.merge .nil) jY)
structure M1 (X:Cx) (o:U3) (m:C') (aI:VC) (e:U3) (aw:VC):Prop where
 base:Yc o m X.env (U2 o X.env)=U2 o X.env
 V2:((Vx aw (U1 [e] X.env)).all (fun x=>!x.1) && (Xl aw (Xj [] X.env)).all (fun x=>x.1.isSome)
  && decide (([e]:List U3).length+([]:List Yh).length+(if ([]:List Yh).isEmpty then 0 else 1)<30))=B'
 line:(aI.endLine == aw.line)=B'
 trees:Vx aw (U1 [e] X.env)=[(K',U2 e X.env)]
structure M2 (X:Cx) (o:U3) (m:C') (aI:VC) (e f:U3) (aw:VC):Prop where
 base:Yc o m X.env (U2 o X.env)=U2 o X.env
 V2:((Vx aw (U1 [e,f] X.env)).all (fun x=>!x.1) && (Xl aw (Xj [] X.env)).all (fun x=>x.1.isSome)
  && decide (([e,f]:List U3).length+([]:List Yh).length+(if ([]:List Yh).isEmpty then 0 else 1)<30))=B'
 line:(aI.endLine == aw.line)=B'
 trees:Vx aw (U1 [e,f] X.env)=[(K',U2 e X.env),(K',U2 f X.env)]
def IsD (H:Hp) (a:F'):Prop:=(∃ kvs,Rd H a (.dK kvs))∨∃ kvs,Rd H a (.dT kvs)
theorem zH (I:Inv X aa σ H s) (d:IsD H a) :
  s.TypeIs (.ref a) "dict"∧(∀ b,UW a=.ref b→∃ ob,s.heap.get? b=f' ob∧ob.dict=i')∧(a == Wm)=K':=by
 rcases d with⟨kvs,e⟩|⟨kvs,e⟩
 .obtain⟨_,hd,vs,_,dd⟩:=lf I.UP e
  refine⟨dd.typeIs,fun b q=>?_,hd⟩
  cases q
  obtain⟨ob,_,_,h1,h2,_⟩:=dd
  exact⟨ob,h1,h2.2.1⟩
 .obtain⟨_,hd,xs,_,dd⟩:=md I.UP e
  refine⟨dd.typeIs,fun b q=>?_,hd⟩
  cases q
  obtain⟨ob,_,_,h1,h2,_⟩:=dd
  exact⟨ob,h1,h2.2.1⟩
section
variable {d:V}{r:L'}
theorem QhK (hu:A.units+1<VB) (I:Inv X aa σ H s) (g:ci H a y o) (ry:aC y u) (h:∀ w' s',Inv X aa σ H s'→aC (o.getD .UU) w'→Q w' s') :
  M' (UJ X.prog X.w) A (call (.builtin "dict.get") [.ref a,u]) Q E s:=by
 rcases g with⟨kvs,k,e,ey,l⟩|⟨kvs,k,b,e,ey,eb,l⟩
 .subst ey
  obtain⟨z,hd,vs,rel,dd⟩:=lf I.UP e
  refine ZN Zx dd.typeIs Qa4 (QeM _ _) (meets_dict_get (b9 X.prog X.w) a (iP ry) hd) ⟨_,dd.mapOf,h _ _ (I.tok _) ?_⟩
  rw[l]
  exact(rel.val k).getD rfl
 .subst ey
  cases (show u=UW b from ry)
  obtain⟨z,hd,xs,rel,dd⟩:=md I.UP e
  refine ZN Zx dd.typeIs Qa4 (QeM _ _) (meetsH_dict_get (Za (b9 X.prog X.w)) a b hd) ⟨ZG hu,k,xs,nE I.UP eb,dd,h _ _ (I.tok _) ?_⟩
  rw[l]
  exact(rel.val k).getD rfl
theorem QhL (hu:A.units+1<VB) (I:Inv X aa σ H s) (g:ci H a y o) (ry:aC y u) (rd:aC d r) (h:∀ w' s',Inv X aa σ H s'→aC (o.getD d) w'→Q w' s') :
  M' (UJ X.prog X.w) A (call (.builtin "dict.get") [.ref a,u,r]) Q E s:=by
 rcases g with⟨kvs,k,e,ey,l⟩|⟨kvs,k,b,e,ey,eb,l⟩
 .subst ey
  obtain⟨z,hd,vs,rel,dd⟩:=lf I.UP e
  refine ZN Zx dd.typeIs Qa4 (QeL _ _ _) (meets_dict_get_default (b9 X.prog X.w) a (iP ry) hd r) ⟨_,dd.mapOf,h _ _ (I.tok _) ?_⟩
  rw[l]
  exact(rel.val k).getD rd
 .subst ey
  cases (show u=UW b from ry)
  obtain⟨z,hd,xs,rel,dd⟩:=md I.UP e
  refine ZN Zx dd.typeIs Qa4 (QeL _ _ _) (meetsH_dict_get_default (Za (b9 X.prog X.w)) a b hd r) ⟨ZG hu,k,xs,nE I.UP eb,dd,h _ _ (I.tok _) ?_⟩
  rw[l]
  exact(rel.val k).getD rd
end
inductive Kl (ty:TE) (σ:St) (Q:VK) (x:V) (H1:Hp):Prop
 | mk (a:_) (_:x=.ref a) (_:IsD H1 a) (_:ty σ H1 fun y H2=>∃ o,ci H2 a y o∧Q (o.getD .UU) H2)
def QhM (td ty:TE):TE:=fun σ H Q=>td σ H fun x H1=>Kl ty σ Q x H1
inductive M3 (ty tx:TE) (σ:St) (Q:VK) (x:V) (H1:Hp):Prop
 | mk (a:_) (_:x=.ref a) (_:IsD H1 a) (_:ty σ H1 fun y H2=>tx σ H2 fun z H3=>∃ o,ci H3 a y o∧Q (o.getD z) H3)
def QhN (td ty tx:TE):TE:=fun σ H Q=>td σ H fun x H1=>M3 ty tx σ Q x H1
inductive NE (ty:TE) (σ:St) (Q:VK) (x:V) (H1:Hp):Prop
 | mk (a:_) (_:x=.ref a) (_:IsD H1 a) (_:ty σ H1 fun y H2=>∃ kvs k v,H2 a=f' (.dK kvs)∧y=kV k∧a8 kvs k=f' v∧Q v (upd H2 a (.dK (iU kvs k))))
def QhO (td ty:TE):TE:=fun σ H Q=>td σ H fun x H1=>NE ty σ Q x H1
section
variable {o f:U3}{aI aw:VC}{td ty tx:TE}
theorem Ob (hu:X.A.units+1<VB) (ho:PE X o td) (he:PE X e ty) (m:M1 X o "get" aI e aw):PE X (.Call (.Attribute o "get" aI) [e] [] aw) (QhM td ty):=by
 intro aa s σ H Q I h
 refine TX m.base m.V2 m.line Qa1 Zx QeV (UV (ho aa s σ H _ I h) fun u s1=>L2.U7 fun x H1 I1 rx aW=>?_)
 obtain⟨a,ex,d,q1⟩:=aW
 subst ex
 obtain rfl:u=UW a:=rx
 obtain⟨t1,t2,_⟩:=zH I1 d
 refine⟨t1,t2,?_⟩
 rw[m.trees]
 refine Qah O (Qa7 (Y2 (UV (he aa s1 σ H1 _ I1 q1) fun iv s2 ⟨y,H2,I2,ry,ov,g,q2⟩=>ZE ?_)))
 exact QhK hu I2 g ry fun w' s3 I3 dU=>⟨_,H2,I3,dU,q2⟩
theorem OJ (hu:X.A.units+1<VB) (ho:PE X o td) (he:PE X e ty) (hf:PE X f tx) (m:M2 X o "get" aI e f aw):PE X (.Call (.Attribute o "get" aI) [e,f] [] aw) (QhN td ty tx):=by
 intro aa s σ H Q I h
 refine TX m.base m.V2 m.line Qa1 Zx QeV (UV (ho aa s σ H _ I h) fun u s1=>L2.U7 fun x H1 I1 rx aW=>?_)
 obtain⟨a,ex,d,q1⟩:=aW
 subst ex
 obtain rfl:u=UW a:=rx
 obtain⟨t1,t2,_⟩:=zH I1 d
 refine⟨t1,t2,?_⟩
 rw[m.trees]
 refine Qah O (Qa7 (Y2 (UV (he aa s1 σ H1 _ I1 q1) fun iv s2=>L2.U7 fun y H2 I2 ry q2=>
  Y2 (UV (hf aa s2 σ H2 _ I2 q2) fun fv s3 ⟨z,H3,I3,rz,ov,g,q3⟩=>ZE ?_))))
 exact QhL hu I3 g ry rz fun w' s4 I4 dU=>⟨_,H3,I4,dU,q3⟩
theorem Pe (ho:PE X o td) (he:PE X e ty) (m:M1 X o "pop" aI e aw):PE X (.Call (.Attribute o "pop" aI) [e] [] aw) (QhO td ty):=by
 intro aa s σ H Q I h
 refine TX m.base m.V2 m.line Qa1 QeW PySem.F.type_dict_pop (UV (ho aa s σ H _ I h) fun u s1=>L2.U7 fun x H1 I1 rx aW=>?_)
 obtain⟨a,ex,d,q1⟩:=aW
 subst ex
 obtain rfl:u=UW a:=rx
 obtain⟨t1,t2,_⟩:=zH I1 d
 refine⟨t1,t2,?_⟩
 rw[m.trees]
 refine Qah O (Qa7 (Y2 (UV (he aa s1 σ H1 _ I1 q1) fun iv s2 ⟨y,H2,I2,ry,kvs,k,v,ea,ey,l,q2⟩=>ZE ?_)))
 subst ey
 exact QhA I2 ea ry l (.inl O) fun w' s3 I3 dU=>⟨v,_,I3,dU,q2⟩
end
section
variable {kvs:List (Key×V)}
end
end L2
namespace Att
variable {P:Params}{h:Heap}{l:OpenLaw}{n:Nat}
open PySem PySem.W PySem.Calls PyProof.Rows
theorem Lq:∀ (ns:List Int) (vs:List L'),WellAll P h vs (ns.map Qgl)→Qay vs ns:=by
 intro ns
 induction ns with
 | nil=>
  intro vs w
  rw[List.map_nil] at w
  cases w
  exact .nil
 | cons n ns ih=>
  intro vs w
  rw[List.map_cons] at w
  cases w with
  | cons a b=>
   cases a
   exact .cons _ _ (ih _ b)
theorem Li (hn:l.most=f' n){args:List WData}{mz:List L'}
  (kQ:l.row.toRowW.claim.pre args=B') (cP:WellAll P h mz args) :
  ∃ a vs ns,mz=[UW a]∧args=[WData.list (ns.map Qgl)]∧h.get? a=f' {cls:=.type "list",data:=.seq vs.toArray}∧Qay vs ns∧ns.length≤n:=by
 have HY:WShape.hasAll [] args [.list .int]=B':=(pre_splitW kQ).1
 have hc:l.pre.holds [] {args:=args}=B':=(pre_splitW kQ).2
 obtain⟨d,r,rfl,h1,h2⟩:=hasAllW_cons HY
 obtain rfl:=hasAllW_nil h2
 obtain⟨xs,rfl,h3⟩:=hasW_list h1
 obtain⟨ns,rfl⟩:=items_int h3
 have av:ns.length≤n:=by
  unfold QbB.pre at hc
  have h4:(WTm.not (.lt (.lit (.int (n:Int))) (.len (.arg 0)))).holds [] {args:=[.list (ns.map .int)]}=B':=by
   have h4:=(holds_andW hc).1
   rw[hn] at h4
   exact h4
  have h5:=condW_of h4 (w_not (w_lt w_lit (w_len_list (w_arg O))))
  rw[List.length_map] at h5
  refine Nat.le_of_not_lt fun q=>?_
  have q':(n:Int)<((ns.length:Nat):Int):=by lia
  first
   | (rw[decide_eq_true q'] at h5;exact UX h5 (by decide))
   | (simp at h5;lia)
 cases cP with
 | cons w1 w2=>
  cases w2
  cases w1 with
  | list ho mT=>exact⟨_,_,ns,O,O,ho,Lq ns _ mT,av⟩
theorem PK (l:QbB) (args:List WData):l.row.toRowW.claim.post args (.bool B') args=B':=
 postW_of (r:=l.row.toRowW) (X:=(B' == B'))
  (show QfW [] (.bool B') .bool=B' by first|rfl|decide|simp[QfW,WShape.arms,WShape.armsAll])
  (show(WTm.eq .res (.lit (.bool B'))).value [] {args:=args,res:=f' (.bool B'),after:=args}=f' (.bool (B' == B')) from w_eq_bool (w_res O) w_lit) rfl
theorem ziF {q:Vv}{eB:List C'}{XP:(C'→Option L')→Vb→Prop}{YP:VA→Vb→Prop}{d:DefRec}
  (hn:l.most=f' n) (lO:d.params.defaults=[])
  (call:∀ (w:VA) (s₀ s₁:UM) (mg mb:C'→Option L') (fa:F') (o:U6) (pm cd cf:L') (a:F') (vs:List L') (ns:List Int),
   Ground q eB [] XP w s₀ mg mb s₁.heap→YP w s₁.heap →
   s₁.heap.get? fa=f' o→o.data=.func (docDef d.name d.params d.body d.scope pm cd cf)→s₁.heap.CodeRec cd d.name→mg d.name=f' (.ref fa) →
   s₁.heap.get? a=f' {cls:=.type "list",data:=.seq vs.toArray}→Qay vs ns→ns.length≤n→s₁.gens=#[] →
   Wq (UJ l.prog w) Zd (.call (.ref fa) ⟨[.ref a],[]⟩) (fun r s'=>r=.ok (.ret (.bool B'))∧OldK s₁.heap s'.heap∧s'.os=s₁.os∧XW s'.gens) s₁) :
  WalkO q eB XP YP l.row.toRowW d [] (fun f vs=>QcR f vs):=by
 intro w s₀ s₁ mg mb G Y fa o pm cd cf dV kV ho hd ic hD ql hg args mz as kQ JN QO cP QR
 obtain rfl:dV=.none:=Dflts.none hD lO
 obtain rfl:kV=.none:=Dflts.noKw hD
 obtain⟨a,vs,ns,rfl,rfl,mR,jn,av⟩:=Li hn kQ cP
 refine enter_call (YA (call w s₀ s₁ mg mb fa o pm cd cf a vs ns G Y ho (fd_plain hd) ic ql mR jn av hg) fun r s' hq=>?_)
 obtain⟨rfl,h2,h3,h4⟩:=hq
 exact⟨.inl ⟨.bool B',.bool B',[],O,fun _=>O,.bool B',PK l _,fun _=>⟨Qop,fun _ hm=>(nomatch hm)⟩⟩,h2,h3,h4⟩
section
variable {prog:Vv}{w:VA}{A:VX}{E:L'→UM→Prop}{s:UM}{K:R'}
end
end Att
namespace L2
variable {A:Around}{C D T a b dx f fI it p:Addr}{E:Value→Shared→Prop}{H H' H1 H2:Hp}{M:Model}{N XN sn ys:List Str}{P prog:Program}{Q:Unit→Shared→Prop}{R:Result→Shared→Prop}{X:Cx}{aa:List (Addr×Obj)}{ah bm jk sub:List Value}{base h h' h₁:Heap}{br pos:Pos}{c cd fl head u v:Value}{cap:List (Option Nat)}{ch fp:List Addr}{dd:Option Addr}{env:Env}{gL:List Expr}{i j n t:Nat}{iter tg:Expr}{mg:Str→Option Value}{name qual x:Str}{newId:String}{o oI:Obj}{r:List (Str×NameKind)}{s:Shared}{scope:Scope}{tb:Option (Addr×Value)}{te:TE}{tt:TT}{vs:Array Value}{w:World}{wi:TI}{xs:List V}{σ τ:St}
open PySem PySem.Spec PyProof.Rows
theorem FW:∀ {vs:List L'}{ns:List Int},Qay vs ns→aA (ns.map V.int) vs
 | _,_,.nil=>.nil
 | _,_,.cons n t h=>.cons ⟨t,O⟩ (FW h)
def df (s:UY) (j:Nat):UY:=match s with
 | .ClassDef _ _ _ body _ _ _ _ _ _ _=>body.getD j (.Pass ⟨0,0,0,0⟩)
 | _=>.Pass ⟨0,0,0,0⟩
def nP (s:UY):Qc4:=match s with
 | .FunctionDef _ a _ _ _ _ _ _ _ _=>a
 | _=>{posonlyargs:=[],args:=[],vararg:=i',kwonlyargs:=[],kw_defaults:=[],kwarg:=i',defaults:=[]}
def kW (s:UY):List UY:=match s with
 | .FunctionDef _ _ b _ _ _ _ _ _ _=>b
 | _=>[]
def az (s:UY):WX:=match s with
 | .FunctionDef _ _ _ _ _ _ sc _ _ _=>sc
 | _=>{kind:=.function,names:=[],isGenerator:=K',isCoroutine:=K'}
abbrev Vd:Xc:=fun _ _ _ _ _ _=>False
abbrev E0:XK:=fun _ _ _=>False
theorem rZ:lw Vd X E0:=fun _ _ _ _ _ _ _ h=>h.elim
structure Fun (K:R') (x qual:C') (st:UY) (f:F') (fd:WV):Prop where
 ex:∃ (oc:L') (od:Option F') (kV cf pm:L') (an:Option F') (ay ct:L') (eQ:Array (Option L')),
  fd=Yd x qual (nP st) (kW st) (az st) .none kV cf pm an ay ct∧K.lookup f=f' ⟨oc,od,.func fd,eQ⟩∧XM K ay qual=B'
 kp:W5 K (.ref f)=B'
section
variable {K:R'}
end
theorem cM {k:Nat} (hr:bu k A):A.units+1<VB:=Sj (Nat.add_le_add_left (by decide:1≤64) _) hr.units
theorem pv (i:Nat) (hN:X.N[i]?=f' x:=by rfl) (hv:Vis X.env.scope x:=by first|exact UR rfl|exact UQ (UR O)|exact UQ (UQ O)) (hd:(x == ("__debug__":C'))=K':=by decide)
  (ic:(x == ("__classdict__":C'))=K':=by decide):PE X (.Name x pos) (ZZ i):=QgF hN hv hd ic
theorem Ca:fZ X (.builtin "len") (fun xs H Q=>∃ a kvs,xs=[V.ref a]∧H a=f' (.dK kvs)∧Q (.int kvs.length) H):=by
 intro aa s σ H xs us Q I r h
 obtain⟨a,kvs,rfl,ha,q⟩:=h
 obtain⟨u,rfl,ru⟩:=gY r
 cases ru
 exact QhB I (.inl ha) fun t s' I'=>⟨.int kvs.length,H,I',⟨t,O⟩,q⟩
theorem iM {A B:Prop} (h:B):if K'=B' then A else B:=by
 rw[UL Rq]
 exact h
theorem ei {A B:Prop} (h:A):if B'=B' then A else B:=by
 rw[UN rfl]
 exact h
def ae (H H':Hp):Prop:=∀ b o,H b=f' o→H' b=f' o
theorem ae.refl (H:Hp):ae H H:=fun _ _ h=>h
theorem ae.trans (a:ae H H1) (b:ae H1 H2):ae H H2:=fun c o h=>b c o (a c o h)
theorem ae.seq {K:R'} (e:ae H H') (h:P' K H a xs):P' K H' a xs:=by
 rcases h with(h|⟨o,h⟩)|h
 .exact .inl (.inl (e _ _ h))
 .exact .inl (.inr ⟨o,e _ _ h⟩)
 .exact .inr h
section
variable {κ:Type} [DecidableEq κ]
theorem LG {p:κ×V}{r:List (κ×V)}{k:κ} (e:p.1=k):iU (p::r) k=iU r k:=by
 unfold iU
 rw[RT,UL (by simp[e])]
theorem NT {p:κ×V}{r:List (κ×V)}{k:κ} (e:¬ p.1=k):iU (p::r) k=p::iU r k:=by
 unfold iU
 rw[RT,UN (by simp[e])]
end
def gi (cells:List (C'×F')):List (C'×W9)→List (C'×F')→List (C'×F')
 | [],acc=>acc
 | (n,k)::r,acc=>gi cells r (if (k == Ww)=B' then(n,(cells.lookup n).getD 0)::acc else acc)
theorem FB (h:∀ y∈scope.names,y.2=.free→(env.cells.lookup y.1).isSome=B') :
  closureFor scope env=pure (gi env.cells scope.names []):=by
 simp only[closureFor]
 generalize scope.names=l at h ⊢
 generalize ([]:List (C'×F'))=acc
 induction l generalizing acc with
 | nil=>rfl
 | cons x r ih=>
  obtain⟨n,k⟩:=x
  have hr:=fun y hy=>h y (Rk _ hy)
  by_cases hk:k=.free
  .subst hk
   obtain⟨c,hc⟩:=Xp.mp (h (n,.free) Rx O)
   have qQ:=ih hr ((n,c)::acc)
   simp only[SV,cellOf,hc,gi,ZK,WL,Option.getD_some] at qQ ⊢
   exact qQ
  .have hb:(k == Ww)=K':=by simpa using hk
   have qQ:=ih hr acc
   simp only[SV,gi,hb,RV,VU] at qQ ⊢
   exact qQ
theorem tR {cells:List (C'×F')}{x:C'}{c:F'}:∀ {l:List (C'×W9)}{acc:List (C'×F')},(∀ y∈l,y.2=.free→(cells.lookup y.1).isSome=B') →
  (gi cells l acc).lookup x=f' c→acc.lookup x=f' c∨cells.lookup x=f' c
 | [],_,_,h=>.inl h
 | (n,k)::r,acc,hf,h=>by
  have hr:∀ y∈r,y.2=.free→(cells.lookup y.1).isSome=B':=fun y hy=>hf y (Rk _ hy)
  by_cases hk:k=.free
  .subst hk
   rcases tR (l:=r) hr (show(gi cells r ((n,(cells.lookup n).getD 0)::acc)).lookup x=f' c from h) with q|q
   .rw[Sc] at q
    by_cases hx:x=n
    .subst hx
     rw[ZK] at q
     obtain⟨c',hc⟩:=Xp.mp (hf (x,.free) Rx O)
     have hc:cells.lookup x=f' c':=hc
     rw[hc] at q ⊢
     exact .inr q
    .rw[ZF.mpr hx] at q
     exact .inl q
   .exact .inr q
  .have hb:¬ (k == Ww)=B':=by simpa using hk
   have h':(gi cells r (if (k == Ww)=B' then(n,(cells.lookup n).getD 0)::acc else acc)).lookup x=f' c:=h
   rw[UL hb] at h'
   exact tR hr h'
theorem yi {cells:List (C'×F')}{x:C'}:∀ {l:List (C'×W9)}{acc:List (C'×F')},((x,Ww)∈l∨(acc.lookup x).isSome=B')→((gi cells l acc).lookup x).isSome=B'
 | [],_,h=>by
  rcases h with h|h
  .cases h
  .exact h
 | (n,k)::r,acc,h=>by
  show((gi cells r (if (k == Ww)=B' then(n,(cells.lookup n).getD 0)::acc else acc)).lookup x).isSome=B'
  refine yi ?_
  rcases h with h|h
  .rcases RY.mp h with e|e
   .cases e
    right
    rw[UN (by rfl),Sc,ZK]
    rfl
   .exact .inl e
  .right
   by_cases hb:(k == Ww)=B'
   .rw[UN hb,Sc]
    cases hx:x == n with
    | true=>rfl
    | false=>exact h
   .rw[UL hb]
    exact h
theorem Cf (c:Bool){n:C'}{k:W9} (hx:(x == n)=B'):((if c=B' then(n,XQ) else(n,k))::r).lookup x=f' (if c=B' then .cell else k):=by
 cases c<;>simp[Sc,hx]
theorem FO (c:Bool){n:C'}{k:W9} (hx:(x == n)=K'):((if c=B' then(n,XQ) else(n,k))::r).lookup x=r.lookup x:=by
 cases c<;>simp[Sc,hx]
theorem E6 {env:V5}:∀ {names:List (C'×W9)}{x:C'},names.lookup x=f' .free →
  (names.map fun(n,k)=>if (k == Ww && env.scope.kind == .function && env.kindOf n == f' .cell) then(n,XQ) else(n,k)).lookup x=f' .cell ∨
  (names.map fun(n,k)=>if (k == Ww && env.scope.kind == .function && env.kindOf n == f' .cell) then(n,XQ) else(n,k)).lookup x=f' .free
 | [],_,h=>by simp at h
 | (n,k)::r,x,h=>by
  have ih:=@E6 env r x
  rw[Sc] at h
  rw[RS]
  cases hx:x == n with
  | true=>
   rw[hx] at h
   cases h
   dsimp only
   rw[Cf _ hx]
   cases (Ww == Ww && env.scope.kind == .function && env.kindOf n == f' .cell) with
   | true=>exact .inl rfl
   | false=>exact .inr rfl
  | false=>
   rw[hx] at h
   dsimp only
   rw[FO _ hx]
   exact ih h
theorem zy {env:V5}:∀ {names:List (C'×W9)}{x:C'}{k':W9},(k'=.cell∨k'=.free) →
  (names.map fun(n,k)=>if (k == Ww && env.scope.kind == .function && env.kindOf n == f' .cell) then(n,XQ) else(n,k)).lookup x=f' k' →
  ∃ k,(k=.free∨k=.cell)∧(x,k)∈names
 | [],_,_,_,h=>by simp at h
 | (n,k)::r,x,k',hk,h=>by
  have ih:=@zy env r x k' hk
  rw[RS] at h
  dsimp only at h
  cases hx:x == n with
  | true=>
   have e:x=n:=eq_of_beq hx
   subst e
   rw[Cf _ hx] at h
   cases hc:(k == Ww && env.scope.kind == .function && env.kindOf x == f' .cell) with
   | true=>
    simp only[Rt,Wo] at hc
    obtain⟨⟨rfl,_⟩,_⟩:=hc
    exact⟨.free,.inl O,Rx⟩
   | false=>
    rw[hc] at h
    have h:f' k=f' k':=h
    cases h
    rcases hk with rfl|rfl
    .exact⟨_,.inr O,Rx⟩
    .exact⟨_,.inl O,Rx⟩
  | false=>
   rw[FO _ hx] at h
   obtain⟨k2,h1,h2⟩:=ih h
   exact⟨k2,h1,Rk _ h2⟩
def iS (X:Cx) (scope:WX) (cl:List (C'×F')) (C:F') (N:List C') (s:UM) (H:Hp) (fp:List F') (aa:List (F'×U6)):Cx:=
 {X with N:=N,s₀:=s,H₀:=H,env:=compEnvC scope cl C X.env,outer:=X.stack,stack:=X.stack,ex:=fp,fn:=fun _=>K',pn:=X.pn++aa,xe:=fun _ _=>False}
def oV (cap:List (Option Nat)) (σ:St):St:=cap.map fun o=>o.bind fun j=>(σ[j]?).join
def QbM:Option W9→Bool
 | some .cell=>B'
 | some .free=>B'
 | _=>K'
def g0 (sc:WX) (XN:List C'):List (Option Nat)→List C'→Bool
 | [],[]=>B'
 | some j::r,x::xs=>(XN[j]? == f' x) && (sc.names.lookup x == f' Ww) && g0 sc XN r xs
 | none::r,_::xs=>g0 sc XN r xs
 | _,_=>K'
def iR (osc sc:WX) (XN N:List C') (cap:List (Option Nat)):Bool:=
 (sc.kind == ScopeKind.function) && sc.names.all (fun y=>y.2 != XQ) && sc.names.all (fun y=>y.2 != W9.local || sc.names.lookup y.1 == f' W9.local) &&
 sc.names.all (fun y=>y.2 != Ww || QbM (osc.names.lookup y.1)) && g0 sc XN cap N
theorem zn {sc:WX}{XN:List C'}:∀ {cap:List (Option Nat)}{N:List C'},g0 sc XN cap N=B'→cap.length=N.length
 | [],[],_=>rfl
 | some _::r,_::xs,h=>by
  simp only[g0,Rt] at h
  simp[zn h.2]
 | none::r,_::xs,h=>by
  simp only[g0] at h
  simp[zn h]
 | [],_::_,h=>by simp[g0] at h
 | some _::_,[],h=>by simp[g0] at h
 | none::_,[],h=>by simp[g0] at h
theorem zd {sc:WX}{XN:List C'}:∀ {cap:List (Option Nat)}{N:List C'}{i j:Nat}{x:C'},g0 sc XN cap N=B'→cap[i]?=f' (f' j)→N[i]?=f' x→XN[j]?=f' x∧sc.names.lookup x=f' .free
 | [],_,i,_,_,_,h,_=>by simp at h
 | some _::r,y::xs,0,j,x,h,h1,h2=>by
  simp only[g0,Rt,Wo] at h
  simp at h1 h2
  subst h1;subst h2
  exact⟨h.1.1,h.1.2⟩
 | some _::r,y::xs,i+1,j,x,h,h1,h2=>by
  simp only[g0,Rt] at h
  exact zd (i:=i) h.2 (by simpa using h1) (by simpa using h2)
 | none::r,y::xs,0,j,x,h,h1,h2=>by simp at h1
 | none::r,y::xs,i+1,j,x,h,h1,h2=>by
  simp only[g0] at h
  exact zd (i:=i) h (by simpa using h1) (by simpa using h2)
 | some _::_,[],_,_,_,h,_,_=>by simp[g0] at h
 | none::_,[],_,_,_,h,_,_=>by simp[g0] at h
theorem Inv.QaE (I:Inv X aa σ H s) (ok:iR X.env.scope scope X.N N cap=B'):∀ y∈scope.names,y.2=.free→(X.env.cells.lookup y.1).isSome=B':=fun y hy hf=>by
 simp only[iR,Rt,Sk] at ok
 have h:=ok.1.2 y hy
 rw[hf] at h
 have h':QbM (X.env.scope.names.lookup y.1)=B':=by simpa using h
 have hk:X.env.kindOf y.1=f' .cell∨X.env.kindOf y.1=f' .free:=by
  show X.env.scope.names.lookup y.1=_∨X.env.scope.names.lookup y.1=_
  cases e:X.env.scope.names.lookup y.1 with
  | none=>rw[e] at h';cases h'
  | some k=>
   rw[e] at h'
   cases k<;>first|exact .inl rfl|exact .inr rfl|cases h'
 obtain⟨c,e⟩:=I.ok.has y.1 hk
 rw[e]
 rfl
theorem Inv.comp (I:Inv X aa σ H s) (ok:iR X.env.scope scope X.N N cap=B') (f:∀ b∈fp,cI X aa H b) (fo:∀ b∈fp,∃ o,s.heap.get? b=f' o){tk:Nat}{IW:U6}
  (hn:h₁.Ns (s.heap.push {cls:=.type "list",data:=.seq #[]}).objs.size (fun _=>i'))
  (hs:XR (s.heap.push {cls:=.type "list",data:=.seq #[]}).objs.size ((s.heap.push {cls:=.type "list",data:=.seq #[]}).push IW) h₁) :
  Inv (iS X scope (gi X.env.cells scope.names []) (s.heap.push {cls:=.type "list",data:=.seq #[]}).objs.size N {s with heap:=s.heap.push {cls:=.type "list",data:=.seq #[]} } (upd H s.heap.objs.size (.lst [])) fp aa)
   [] (oV cap σ) (upd H s.heap.objs.size (.lst [])) {s with heap:=h₁,toks:=tk}:=by
 have Bj:=ok
 simp only[iR,Rt,Sk,Wo] at ok
 obtain⟨⟨⟨⟨cC,dC⟩,_⟩,_⟩,jy⟩:=ok
 have cl:=I.QaE Bj
 have hC:(s.heap.push {cls:=.type "list",data:=.seq #[]}).objs.size=s.heap.objs.size+1:=RL ..
 generalize AW:(s.heap.push {cls:=.type "list",data:=.seq #[]}).objs.size=C at hn hs hC ⊢
 have below:∀ b o,s.heap.get? b=f' o→b≠C∧b≠s.heap.objs.size:=fun b o e=>by
  have:=Rc e
  exact⟨by rw[hC];exact Rj (R8 this),Rj this⟩
 have old:∀ b o,s.heap.get? b=f' o→h₁.get? b=f' o:=fun b o e=>hs.extBut b o (below b o e).1 (Ra _ (Ra _ e))
 have sL:∀ b o,s.heap.get? b=f' o→(s.heap.push {cls:=.type "list",data:=.seq #[]}).get? b=f' o:=fun b o e=>Ra _ e
 have qk:∀ b o,(s.heap.push {cls:=.type "list",data:=.seq #[]}).get? b=f' o→h₁.get? b=f' o:=fun b o e=>by
  have:b<C:=by rw[← AW];exact Rc e
  exact hs.extBut b o (Rj this) (Ra _ e)
 have hD:H s.heap.objs.size=i':=I.UP.fresh (Re _)
 have g7:∀ b o,s.heap.get? b=f' o→H b=i'→upd H s.heap.objs.size (.lst []) b=i':=fun b o e n=>by rw[aj (below b o e).2];exact n
 have HZ:upd H s.heap.objs.size (.lst []) C=i':=by
  rw[aj (by rw[hC];exact Sh (Si _))]
  exact I.UP.fresh (by rw[hC];exact RQ _)
 have bX:∀ x c,(gi X.env.cells scope.names []).lookup x=f' c→X.env.cells.lookup x=f' c:=fun x c e=>by
  rcases tR cl e with q|q
  .simp at q
  .exact q
 have lQ:∀ x c,(gi X.env.cells scope.names []).lookup x=f' c→∃ v o,s.heap.IsCell c v∧s.heap.get? c=f' o:=fun x c e=>by
  obtain⟨v,q⟩:=I.cell x c (bX x c e)
  obtain⟨o,ho,_⟩:=id q
  exact⟨v,o,q,ho⟩
 have vN:VD X.prog X.w (upd H s.heap.objs.size (.lst [])) h₁:=I.UP.laid old (Re _) (show cR X.prog X.w _ h₁ s.heap.objs.size (.lst []) from⟨R6 _,[],0,.nil,qk _ _ (Ri _ O)⟩)
 have vI:∀ b∈VG X.stack,∃ o,s.heap.get? b=f' o:=fun b hb=>by
  obtain⟨_,o,ho,_⟩:=I.stack.mem hb
  exact⟨o,ho⟩
 refine⟨⟨I.ok.mod,cC,I.ok.glob,I.ok.blt,Te AW,fun y z c h1 h2=>I.ok.inj y z c (bX y c h1) (bX z c h2),fun y hy=>?_,fun y c hf _=>Bool.noConfusion hf,I.X2.new hD,I.ok.frames,.inl O,fun b hb=>?_,
   fun b o e=>⟨sL b o (I.bs b o e).1,g7 b o (I.bs b o e).1 (I.bs b o e).2⟩,?_,fun b o e hb=>?_,fun b hb Hj=>?_,?_,fun b hb=>?_⟩,
  rfl,I.bare,Un.kept qk,⟨_,hn,fun i x v h1 h2 h3=>?_⟩,fun x c e=>?_,HZ,fun x c e=>?_,fun p hp=>?_,vN,?_⟩
 ·-- has
  have hy:(relabel scope X.env).names.lookup y=f' .cell∨(relabel scope X.env).names.lookup y=f' .free:=hy
  have:(y,Ww)∈scope.names:=by
   rcases hy with q|q
   .obtain⟨k,hk,hm⟩:=zy (.inl O) q
    rcases hk with rfl|rfl
    .exact hm
    .exact UX (show(XQ != XQ)=B' from dC _ hm) (by decide)
   .obtain⟨k,hk,hm⟩:=zy (.inr O) q
    rcases hk with rfl|rfl
    .exact hm
    .exact UX (show(XQ != XQ)=B' from dC _ hm) (by decide)
  exact Xp.mp (yi (.inl this))
 ·-- ZW
  obtain⟨o,e⟩:=fo b hb
  exact⟨(below b o e).1,fun x c q=>(f b hb).2.2.2.2.1 x c (bX x c q)⟩
 ·-- Xm
  show X.base.objs.size≤(s.heap.push {cls:=.type "list",data:=.seq #[]}).objs.size
  rw[RL]
  exact RU (RZ I.ok.Xm I.sz)
 ·-- Ym
  rcases(f b hb).2.2.2.1 with q|q
  .exact I.ok.Ym b o e q
  .exact UX (Rw (Rc (I.ok.bs b o e).1) q) (RE _)
 ·-- YK
  rcases RY.mp (I.W0 b Hj) with q|q
  .exact(f b hb).2.1 q
  .exact(f b hb).2.2.1 q
 ·-- WH
  exact I.stack.of_keeps fun b o e _=>⟨o,sL b o e,O⟩
 ·-- Xz
  obtain⟨o,e⟩:=vI b hb
  exact g7 b o e (I.Qaz b hb)
 ·-- loc
  have hi:∃ j,cap[i]?=f' (f' j)∧σ[j]?=f' (f' v):=by
   unfold oV at h2
   rw[RD] at h2
   cases e:cap[i]? with
   | none=>rw[e] at h2;cases h2
   | some o=>
    rw[e] at h2
    cases o with
    | none=>cases h2
    | some j=>
     refine⟨j,O,?_⟩
     have iK:(σ[j]?).join=f' v:=VL h2
     cases e2:σ[j]? with
     | none=>rw[e2] at iK;cases iK
     | some o2=>rw[e2] at iK;rw[show o2=f' v from iK]
  obtain⟨j,hj,hv⟩:=hi
  obtain⟨hX,tI⟩:=zd jy hj h1
  have qJ:(x,Ww)∈scope.names:=Zy tI
  have AG:=Bj
  simp only[iR,Rt,Sk] at AG
  have h':QbM (X.env.scope.names.lookup x)=B':=by simpa using AG.1.2 _ qJ
  have hk:X.env.scope.names.lookup x=f' .cell∨X.env.scope.names.lookup x=f' .free:=by
   cases e:X.env.scope.names.lookup x with
   | none=>rw[e] at h';cases h'
   | some k=>
    rw[e] at h'
    cases k<;>first|exact .inl rfl|exact .inr rfl|cases h'
  obtain⟨m,_,hl⟩:=I.loc
  obtain⟨u,ru,lk⟩:=hl j x v hX hv (hk.elim (fun q=>.inr (.inl q)) fun q=>.inr (.inr q))
  refine⟨u,ru,.inr ⟨E6 tI,?_⟩⟩
  rcases lk with⟨q,_⟩|⟨_,c,hc,mU⟩
  .have q':X.env.scope.names.lookup x=f' .local:=q
   rcases hk with z|z
   .rw[z] at q';cases q'
   .rw[z] at q';cases q'
  .obtain⟨c',jr⟩:=Xp.mp (yi (cells:=X.env.cells) (acc:=[]) (.inl qJ))
   have:c'=c:=by
    have:=bX x c' jr
    rw[hc] at this
    exact(VL this).symm
   subst this
   obtain⟨o,ho,hd⟩:=mU
   exact⟨c',jr,o,old c' o ho,hd⟩
 ·-- cell
  obtain⟨v,o,⟨o',ho,hd⟩,_⟩:=lQ x c e
  exact⟨v,o',old c o' ho,hd⟩
 ·-- V6
  obtain⟨v,o,_,ho⟩:=lQ x c e
  exact g7 c o ho (I.V6 x c (bX x c e))
 ·-- aa
  have Gx:p∈X.pn++aa:=by simpa [iS] using hp
  obtain⟨e,n,ne,nf,d⟩:=I.pin p Gx
  refine⟨old _ _ e,g7 _ _ e n,(below _ _ e).1,fun z=>?_,d⟩
  rcases RY.mp (I.W0 p.1 z) with q|q
  .exact ne q
  .exact nf q
 ·-- len
  show(oV cap σ).length=N.length
  unfold oV
  rw[Q9]
  exact zn jy
theorem On {gO cO:U3}{it acc:L'} (J:Nat→UM→Prop)
  (gD:∀ n s,J n s→M' (UJ prog w) A (Vz it) (fun r s₁=>match r with
   | none=>R (.ok .next) s₁
   | some v=>M' (UJ prog w) A (Qbl cO it v) (fun _ s₂=>M' (UJ prog w) A (YF cO env v) (fun _ s₃=>
     M' (UJ prog w) A (forIn gL B' fun c r=>if r=B' then do let ok ← ZT c env (U2 c env);pure (Qa9 ok) else pure (Qa9 r)) (fun ok s₄=>
      if ok=B' then M' (UJ prog w) A (U2 gO env) (fun x s₅=>
       M' (UJ prog w) A (call (.builtin "list.append") [acc,x]) (fun _ s₆=>∃ m,m<n∧J m s₆) (fun _ _=>False) s₅) (fun _ _=>False) s₄
      else ∃ m,m<n∧J m s₄) (fun _ _=>False) s₃) (fun _ _=>False) s₂) (fun _ _=>False) s₁) (fun _ _=>False) s)
  (n:Nat) (h:J n s):Wq (UJ prog w) A (.compLoop (.ListComp gO [⟨cO,iter,gL,0⟩] scope pos) 0 it acc env) R s:=by
 have no:∀ {E:L'→UM→Prop} (e:L') (s':UM),(fun(_:L') (_:UM)=>False) e s'→E e s':=fun _ _ z=>z.elim
 refine codeAny_loop O J (fun n s hI=>?_) n h
 show M' _ A ((compTurn (.ListComp gO [⟨cO,iter,gL,0⟩] scope pos) 0 it acc env).onRaise (fun x=>do Qar x env;theTreesLotGoes x)) _ _ s
 refine wpAny_noted ?_
 rw[compTurn_list]
 refine mK (SE (mK (RW (gD n s hI) (fun r s₁ h₁=>?_) no)))
 cases r with
 | none=>exact Rb h₁
 | some v=>
  refine mK (RW h₁ (fun _ s₂ h₂=>mK (RW h₂ (fun _ s₃ h₃=>mK (RW h₃ (fun ok s₄ h₄=>?_) no)) no)) no)
  cases ok with
  | false=>exact Rb ⟨O,h₄⟩
  | true=>
   exact mK (mK (RW h₄ (fun x s₅ h₅=>mK (RW h₅ (fun _ s₆ h₆=>Rb (Rb ⟨O,h₆⟩)) no)) no))
def Zo (X:Cx) (cs:List U3) (t:TT):Prop:=
 ∀ (aa:List (F'×U6)) (s:UM) (σ:St) (H:Hp) (Q:Bool→Hp→Prop),Inv X aa σ H s→t σ H Q →
  M' (UJ X.prog X.w) X.A (forIn cs B' fun c r=>if r=B' then do let ok ← ZT c X.env (U2 c X.env);pure (Qa9 ok) else pure (Qa9 r)) (TP X aa σ Q) X.xe s
def dQ:TT:=fun _ H Q=>Q B' H
theorem cS:Zo X [] dQ:=fun _ _ _ H _ I h=>wpAny_tests_nil ⟨H,I,h⟩
theorem yh {c:U3}{t:TT} (h:PT X c t):Zo X [c] t:=fun aa s σ H Q I hq=>wpAny_tests_one (h aa s σ H Q I hq)
def jK (J:It) (D:F') (τ:St) (H:Hp) (g:TG) (tt:TT) (te:TE) (Q:VK):Prop:=
 ∃ W:Nat→Nat→St→Hp→Prop,(∃ m,W 0 m τ H)∧∀ i m τ H,W i m τ H →
  (J.stop i H∧Q (.ref D) H)∨(J.go i H∧∃ M:St→Hp→Prop,(∀ τ' H',M τ' H'→∃ m',m'<m∧W (i+1) m' τ' H')∧∀ x H',J.Z2 i H x H'→g x τ H' fun τ2 H2=>tt τ2 H2 fun b H3=>
   if b=B' then te τ2 H3 fun y H4=>∃ ys,H4 D=f' (.lst ys)∧ys.length<S'∧M τ2 (upd H4 D (.lst (ys++[y]))) else M τ2 H3)
def Qdr (wi:TI) (cap:List (Option Nat)) (g:TG) (tt:TT) (te:TE):TE:=fun σ H Q=>wi σ H fun J H1=>∀ D,H1 D=i'→jK J D (oV cap σ) (upd H1 D (.lst [])) g tt te Q
section
variable {gO:U3}{g:TG}
theorem E9 {J:It}{tn:Nat→Vb→Prop}{Q:VK}{RR:L'→F'→Result→UM→Prop}
  (hc:X.calm=B') (ok:iR X.env.scope scope X.N N cap=B')
  (hg:∀ cl C s H fp aa,PG (iS X scope cl C N s H fp aa) tg g) (hf:∀ cl C s H fp aa,Zo (iS X scope cl C N s H fp aa) gL tt) (he:∀ cl C s H fp aa,PE (iS X scope cl C N s H fp aa) gO te)
  (I:Inv X aa σ H s) (T:mf X.prog X.w X.K tg J fp it tn) (st:tn 0 s.heap) (f:∀ b∈fp,cI X aa H b)
  (q:∀ D,H D=i'→jK J D (oV cap σ) (upd H D (.lst [])) g tt te Q)
  (aS:∀ D C H' s' m,Inv X aa σ H' s'→cI X aa H' C→s'.heap.Ns C m→Q (.ref D) H'→RR (.ref D) C (.ok .next) s') :
  M' (UJ X.prog X.w) X.A (newList []) (fun acc s₃=>M' (UJ X.prog X.w) X.A (newFunctionEnv scope X.env.globals (gi X.env.cells scope.names []) [] X.env.qual i' .none (f' X.env)) (fun pH s₄=>
   Wq (UJ X.prog X.w) X.A (.compStart (.ListComp gO [⟨tg,iter,gL,0⟩] scope pos) 0 (.ref it) acc {pH with scope:=relabel scope X.env}) (RR acc pH.locals) s₄) E s₃) E s:=by
 have lS:=ok
 simp only[iR,Rt,Sk,Wo] at lS
 obtain⟨⟨⟨⟨cC,dC⟩,_⟩,_⟩,jy⟩:=lS
 refine SG (wpAny_newFunctionEnv (fun y hy=>by simpa using dC y hy) (by intro y hy;simp at hy) (fun h₁ pW m5=>?_) cC)
 dsimp only at pW m5 ⊢
 have fo:∀ b∈fp,∃ o,s.heap.get? b=f' o:=fun b hb=>let ⟨o,e,_⟩:=T.obj _ _ st b hb;⟨o,e⟩
 have J0:=I.comp (h₁:=h₁) (tk:=s.toks+([]:List (C'×L')).length) ok f fo pW m5
 have jo:H s.heap.objs.size=i':=I.UP.fresh (Re _)
 obtain⟨W,⟨m0,w0⟩,gD⟩:=q _ jo
 generalize hY:iS X scope (gi X.env.cells scope.names []) (s.heap.push {cls:=.type "list",data:=.seq #[]}).objs.size N {s with heap:=s.heap.push {cls:=.type "list",data:=.seq #[]} } (upd H s.heap.objs.size (.lst [])) fp aa=Y at J0
 have below:∀ b∈fp,b<s.heap.objs.size:=fun b hb=>let ⟨o,e⟩:=fo b hb;Rc e
 have cl:=I.QaE ok
 have gJ:∀ {H':Hp},(∀ b∈fp,H' b=i')→∀ b∈fp,cI Y [] H' b:=fun {H'} hn b hb=>by
  subst hY
  refine⟨hn b hb,?_,fun z=>?_,.inl hb,fun x c e=>?_,fun p hp=>?_⟩
  .show b≠(s.heap.push {cls:=.type "list",data:=.seq #[]}).objs.size
   rw[RL]
   exact Rj (R8 (below b hb))
  .rcases RY.mp (I.W0 b z) with q|q
   .exact(f b hb).2.1 q
   .exact(f b hb).2.2.1 q
  .refine(f b hb).2.2.2.2.1 x c ?_
   rcases tR cl e with z|z
   .simp at z
   .exact z
  .exact(f b hb).2.2.2.2.2 p (by simpa [iS] using hp)
 have Hr:PG Y tg g:=hY ▸ hg _ _ _ _ _ _
 have IG:Zo Y gL tt:=hY ▸ hf _ _ _ _ _ _
 have Hi:PE Y gO te:=hY ▸ he _ _ _ _ _ _
 have e1:Y.prog=X.prog:=by subst hY;rfl
 have e2:Y.w=X.w:=by subst hY;rfl
 have e3:Y.K=X.K:=by subst hY;rfl
 have e4:Y.calm=B':=by subst hY;exact hc
 have e5:Y.A=X.A:=by subst hY;rfl
 have e6:Y.env=compEnvC scope (gi X.env.cells scope.names []) (s.heap.push {cls:=.type "list",data:=.seq #[]}).objs.size X.env:=by subst hY;rfl
 have e7:Y.xe=fun _ _=>False:=by subst hY;rfl
 have xf:∀ b∈fp,upd H s.heap.objs.size (.lst []) b=i':=fun b hb=>by rw[aj (Rj (below b hb))];exact(f b hb).1
 have i7:tn 0 h₁:=T.keep _ _ _ st fun b hb o e=>m5.extBut b o (by
  have:=below b hb
  rw[RL]
  exact Rj (R8 this)) (Ra _ (Ra _ e))
 have loop:∀ s₃:UM,s₃={s with heap:=h₁,toks:=s.toks+([]:List (C'×L')).length} →
   Wq (UJ X.prog X.w) X.A (.compLoop (.ListComp gO [⟨tg,iter,gL,0⟩] scope pos) 0 (.ref it) (.ref s.heap.objs.size)
    (compEnvC scope (gi X.env.cells scope.names []) (s.heap.push {cls:=.type "list",data:=.seq #[]}).objs.size X.env)) (RR (.ref s.heap.objs.size) (s.heap.push {cls:=.type "list",data:=.seq #[]}).objs.size) s₃:=by
  rintro s₃ rfl
  refine On (fun n s'=>∃ i τ H',Inv Y [] τ H' s'∧tn i s'.heap∧(∀ b∈fp,H' b=i')∧W i n τ H') ?_ m0 ⟨0,_,_,J0,i7,xf,w0⟩
  rintro n s' ⟨i,τ,H',I',ia,qy,w'⟩
  rcases gD i n τ H' w' with⟨stop,qn⟩|⟨go,M,hM,step⟩
  .have z:=T.done Y e1 e2 e3 e4 i [] s' τ H' (fun _ _=>False) I' (gJ qy) ia stop
   rw[e5] at z
   refine UV z fun r s4 ⟨hr,I4⟩=>?_
   subst hr
   subst hY
   obtain⟨m,vP,_⟩:=I4.loc
   have ho:s4.os=s.os:=I4.os
   have un:Un (VG X.stack) fp H H' s.heap s4.heap:=by
    have u1:Un (VG X.stack) fp H (upd H s.heap.objs.size (.lst [])) s.heap (s.heap.push {cls:=.type "list",data:=.seq #[]}):=Un.laid (fun b u e=>Ra _ e) (Re _) jo
    exact u1.trans I4.base
   have IX:Inv X aa σ H' s4:=I.Qc6 ho un I4.UP I4.bare fun b hb=>⟨(f b hb).2.2.2.1,(f b hb).2.1,(f b hb).2.2.2.2.1,(f b hb).2.2.2.2.2⟩
   exact aS _ _ H' s4 m IX (I.WO (by rw[RL];exact RQ _) I4.free) vP qn
  .have z:=T.item Y e1 e2 e3 e4 i [] s' τ H' (fun _ _=>False) I' (gJ qy) ia go
   rw[e5] at z
   refine UV z fun r s4 ⟨u,hr,h4⟩=>?_
   subst hr
   refine UV h4 fun _ s5=>L2.U7 fun x H5 I5 r5 aW=>?_
   obtain⟨y5,fD,wx⟩:=aW
   have wb:=I5.pinned (gJ wx) (T.obj _ _ fD)
   have zg:=Hr _ s5 τ H5 x u _ wb r5 (step x H5 y5)
   rw[e1,e2,e5,e6,e7] at zg
   refine UV zg fun _ s6 ⟨τ6,H6,I6,q6⟩=>?_
   have zf:=IG _ s6 τ6 H6 _ I6 q6
   rw[e1,e2,e5,e6,e7] at zf
   refine UV zf fun b s7=>L2.Xy fun H7 I7 q7=>?_
   have again:∀ {H8:Hp}{s8:UM},Inv Y ([]++rq fp s5.heap) τ6 H8 s8→M τ6 H8→∃ m,m<n∧∃ i τ H',Inv Y [] τ H' s8∧tn i s8.heap∧(∀ b∈fp,H' b=i')∧W i m τ H':=fun {H8 s8} I8 w8=>by
    obtain⟨m',hm,w8⟩:=hM _ _ w8
    refine⟨m',hm,i+1,τ6,H8,I8.QaA,T.keep _ _ _ fD fun b hb o e=>(I8.pin (b,o) (RG _ (RG _ (uZ hb e)))).1,fun b hb=>?_,w8⟩
    obtain⟨o,e,d⟩:=T.obj _ _ fD b hb
    exact(I8.pin (b,o) (RG _ (RG _ (uZ hb e)))).2.1
   cases b with
   | false=>exact again I7 q7
   | true=>
    have ze:=Hi _ s7 τ6 H7 _ I7 q7
    rw[e1,e2,e5,e6,e7] at ze
    refine UV ze fun v s8=>L2.U7 fun y H8 I8 r8 aW=>?_
    obtain⟨ys,hD,hz,q8⟩:=aW
    have za:=fS (X:=Y) _ s8 τ6 H8 (.ref s.heap.objs.size) [y] (.ref s.heap.objs.size) [v] (fun _ H9=>H9=upd H8 s.heap.objs.size (.lst (ys++[y]))) I8 O (.cons r8 .nil) ⟨_,ys,y,O,O,hD,hz,O⟩
    rw[e1,e2,e5,e7] at za
    refine UV za fun _ s9 ⟨_,H9,I9,_,e9⟩=>?_
    subst e9
    exact again I9 q8
 exact codeAny_compStart_list (loop _ O) (T.self X.A 0 _ _ _ i7 (loop _ O))
theorem cy {osc:WX} (h1:X.env.scope=osc) (h2:X.N=XN) (ok:iR osc scope XN N cap=B'):iR X.env.scope scope X.N N cap=B':=by
 rw[h1,h2]
 exact ok
theorem cG (hc:X.calm=B') (ok:iR X.env.scope scope X.N N cap=B') (hi:PI X tg iter wi)
  (hg:∀ cl C s H fp aa,PG (iS X scope cl C N s H fp aa) tg g) (hf:∀ cl C s H fp aa,Zo (iS X scope cl C N s H fp aa) gL tt) (he:∀ cl C s H fp aa,PE (iS X scope cl C N s H fp aa) gO te)
  (hs:∀ x,Qbe iter X.env x=pure x:=by intro _;rfl):PE X (.ListComp gO [⟨tg,iter,gL,0⟩] scope pos) (Qdr wi cap g tt te):=by
 intro aa s σ H Q I h
 have lS:=ok
 simp only[iR,Rt,Sk,Wo] at lS
 obtain⟨⟨⟨⟨cC,_⟩,gP⟩,_⟩,_⟩:=lS
 rw[eval_ListComp]
 refine T5 (use:=i') O hs (FB (I.QaE ok)) cC (fun y hy hl=>by simpa [hl] using gP y hy) (UV (hi aa s σ H _ I h) fun xv s1 h1=>UV h1 fun sD s2 h2=>?_)
 obtain⟨it,fp,tn,J,H2,e,I2,T,WQ,f2,q⟩:=h2
 subst e
 refine E9 (RR:=fun acc C=>compPost (UJ X.prog X.w) X.A X.xe i' (EP X aa σ Q) acc C) hc ok hg hf he I2 T WQ f2 q ?_
 intro D C H' s' m I' fC hn qn
 obtain⟨f0,f1,Ia,f3,f4,f5⟩:=fC
 exact⟨m,hn,fun h' sb=>⟨.ref D,H',I'.turned (t':=s'.toks) (fun b o hb e=>sb.extBut b o hb e) f0 f1 f3 f4 f5,O,qn⟩⟩
theorem Lz {qH:VC} (hN:X.N.Nodup) (GT:X.N[i]?=f' x) (hx:X.env.scope.names.lookup x=f' .local) (hc:X.calm=B') (ok:iR X.env.scope scope X.N N cap=B') (hi:PI X tg iter wi)
  (hg:∀ cl C s H fp aa,PG (iS X scope cl C N s H fp aa) tg g) (hf:∀ cl C s H fp aa,Zo (iS X scope cl C N s H fp aa) gL tt) (he:∀ cl C s H fp aa,PE (iS X scope cl C N s H fp aa) gO te)
  (hsw:ZQ (.ListComp gO [⟨tg,iter,gL,0⟩] scope pos) (f' (.Name x br)) qH.line X.env=pure B')
  (hs:∀ x,Qbe iter X.env x=pure x:=by intro _;rfl) :
  PS X (.Assign [.Name x br] (.ListComp gO [⟨tg,iter,gL,0⟩] scope pos) qH) (Qdc (Qdr wi cap g tt te) (bM i)):=by
 intro aa s σ H D I h
 have lS:=ok
 simp only[iR,Rt,Sk,Wo] at lS
 obtain⟨⟨⟨⟨cC,_⟩,gP⟩,_⟩,_⟩:=lS
 rw[exec_Assign_Name_used _ _ _ _ hsw]
 refine mK (SE (mK ?_))
 show M' _ X.A (do let _ ← comprehension (.ListComp gO [⟨tg,iter,gL,0⟩] scope pos) scope X.env _ (newList []) K' (U2 iter X.env) (f' (YF (.Name x br) X.env))) _ _ s
 refine mK (RW (T5 (use:=f' (YF (.Name x br) X.env)) (Q:=fun _ s'=>SP X aa D .next s') O hs (FB (I.QaE ok)) cC (fun y hy hl=>by simpa [hl] using gP y hy)
  (UV (hi aa s σ H _ I h) fun xv s1 h1=>UV h1 fun sD s2 h2=>?_)) (fun _ s' hq=>Rb (Rb hq)) fun _ _ e=>e)
 obtain⟨it,fp,tn,J,H2,e,I2,T,WQ,f2,q⟩:=h2
 subst e
 refine E9 (RR:=fun acc C=>compPost (UJ X.prog X.w) X.A X.xe (f' (YF (.Name x br) X.env)) (fun _ s'=>SP X aa D .next s') acc C) hc ok hg hf he I2 T WQ f2 q ?_
 intro Dd C H' s' m I' fC hn qn
 obtain⟨f0,f1,Ia,f3,f4,f5⟩:=fC
 show M' _ X.A (YF (.Name x br) X.env (.ref Dd)) _ _ _
 refine UD (ET I' hN GT (.inl hx) (v:=.ref Dd) O (fun s3 I3 ⟨a,sb,ha⟩=>?_) (.inr hx))
 have Io:C≠a:=by
  rcases ha with z|z
  .rw[z];exact f1
  .exact fun w=>f4 x a z w.symm
 refine⟨m,hn.sameBut sb Io,fun h' Jj=>?_⟩
 exact⟨_,H',I3.turned (t':=s3.toks) (fun b o hb e=>Jj.extBut b o hb e) f0 f1 f3 f4 f5,qn⟩
theorem ft {K:R'}{Q:VK} (Pv:Nat→St→Hp→Prop) (h0:Pv 0 τ H) (hl:∀ i τ H,i≤xs.length→Pv i τ H→P' K H a xs)
  (hs:∀ i x τ H,xs[i]?=f' x→Pv i τ H→g x τ H fun τ2 H2=>tt τ2 H2 fun b H3=>
   if b=B' then te τ2 H3 fun y H4=>∃ ys,H4 D=f' (.lst ys)∧ys.length<S'∧Pv (i+1) τ2 (upd H4 D (.lst (ys++[y]))) else Pv (i+1) τ2 H3)
  (hd:∀ τ H,Pv xs.length τ H→Q (.ref D) H):jK (Zj K a) D τ H g tt te Q:=
 X4 (n:=xs.length) Pv h0 (fun i σ H hi p=>⟨fun h=>⟨xs,xs[i],hl i σ H hi p,by simp[h]⟩,fun h=>⟨xs,hl i σ H hi p,h⟩⟩) (fun i x σ H H' hi p y=>by
 obtain⟨rfl,y⟩:=y
 exact hs i x σ _ (y xs (hl i σ _ (Sg hi) p)) p) hd
theorem NY {lo:Int}{Q:VK} (Pv:Nat→St→Hp→Prop) (h0:Pv 0 τ H)
  (hs:∀ i τ H,i<n→Pv i τ H→g (.int (lo+i)) τ H fun τ2 H2=>tt τ2 H2 fun b H3=>
   if b=B' then te τ2 H3 fun y H4=>∃ ys,H4 D=f' (.lst ys)∧ys.length<S'∧Pv (i+1) τ2 (upd H4 D (.lst (ys++[y]))) else Pv (i+1) τ2 H3)
  (hd:∀ τ H,Pv n τ H→Q (.ref D) H):jK (Zk lo n) D τ H g tt te Q:=
 X4 (n:=n) Pv h0 (fun _ _ _ _ _=>⟨id,id⟩) (fun i x σ H H' hi p y=>by
 obtain⟨rfl,rfl⟩:=y
 exact hs i σ _ hi p) hd
end
section
open PySem.SeqAt
inductive Dt where
 | UU | bl (b:Bool) | int (i:Int) | str (x:C') | lst (xs:List Dt) | tup (xs:List Dt)
mutual
def VI (K:R') (H:Hp):Dt→V→Prop
 | .UU,x=>x=.UU
 | .bl b,x=>x=.bl b
 | .int i,x=>x=.int i
 | .str z,x=>x=.str z
 | .lst ds,x=>∃ a xs,x=.ref a∧P' K H a xs∧bv K H ds xs
 | .tup ds,x=>∃ a xs,x=.ref a∧U4 K H a xs∧bv K H ds xs
def bv (K:R') (H:Hp):List Dt→List V→Prop
 | [],xs=>xs=[]
 | d::ds,xs=>∃ y ys,xs=y::ys∧VI K H d y∧bv K H ds ys
end
mutual
def lj:Nat→Dt→Prop
 | n+1,.lst ds=>fk n ds
 | n+1,.tup ds=>fk n ds
 | 0,.lst _=>False
 | 0,.tup _=>False
 | _,.UU=>True
 | _,.bl _=>True
 | _,.int _=>True
 | _,.str _=>True
def fk:Nat→List Dt→Prop
 | _,[]=>True
 | n,d::ds=>lj n d∧fk n ds
end
mutual
def VT:Dt→Dt→Bool
 | .UU,.UU=>B'
 | .bl a,.bl b=>a == b
 | .bl a,.int b=>(if a then 1 else 0) == b
 | .int a,.bl b=>a == (if b then 1 else 0)
 | .int a,.int b=>a == b
 | .str a,.str b=>a == b
 | .lst xs,.lst ys=>dO xs ys
 | .tup xs,.tup ys=>dO xs ys
 | _,_=>K'
def dO:List Dt→List Dt→Bool
 | [],[]=>B'
 | x::xs,y::ys=>VT x y && dO xs ys
 | _,_=>K'
end
mutual
theorem tX:∀ d:Dt,VT d d=B'
 | .UU=>rfl
 | .bl b=>by simp[VT]
 | .int i=>by simp[VT]
 | .str x=>by simp[VT]
 | .lst xs=>by
  rw[VT]
  exact rE xs
 | .tup xs=>by
  rw[VT]
  exact rE xs
theorem rE:∀ ds:List Dt,dO ds ds=B'
 | []=>rfl
 | d::ds=>by rw[dO,tX d,rE ds];rfl
end
theorem bv.length {K:R'}{H:Hp}:∀ {ds:List Dt}{xs:List V},bv K H ds xs→ds.length=xs.length
 | [],xs,h=>by
  have e:xs=[]:=h
  subst e
  rfl
 | d::ds,xs,h=>by
  obtain⟨y,ys,e,_,h2⟩:=h
  subst e
  simp[bv.length h2]
theorem bv.get {K:R'}{H:Hp}:∀ {ds:List Dt}{xs:List V}{j:Nat}{d:Dt},bv K H ds xs→ds[j]?=f' d→∃ x,xs[j]?=f' x∧VI K H d x
 | [],_,_,_,_,e=>by simp at e
 | d::ds,xs,j,d',h,e=>by
  obtain⟨y,ys,e2,h1,h2⟩:=h
  subst e2
  cases j with
  | zero=>
   simp at e
   subst e
   exact⟨y,O,h1⟩
  | succ j=>
   obtain⟨x,hx,hd⟩:=bv.get (j:=j) h2 (by simpa using e)
   exact⟨x,by simpa using hx,hd⟩
theorem bv.snoc {K:R'}{H:Hp}{d:Dt}{x:V} (hd:VI K H d x):∀ {ds:List Dt}{xs:List V},bv K H ds xs→bv K H (ds++[d]) (xs++[x])
 | [],xs,h=>by
  have e:xs=[]:=h
  subst e
  exact⟨x,[],O,hd,O⟩
 | e::ds,xs,h=>by
  obtain⟨y,ys,e2,h1,h2⟩:=h
  subst e2
  exact⟨y,ys++[x],O,h1,h2.snoc hd⟩
theorem fk.get {n:Nat}:∀ {ds:List Dt}{j:Nat}{d:Dt},fk n ds→ds[j]?=f' d→lj n d
 | [],_,_,_,e=>by simp at e
 | d::ds,j,d',h,e=>by
  cases j with
  | zero=>
   simp at e
   subst e
   exact h.1
  | succ j=>exact fk.get (j:=j) h.2 (by simpa using e)
theorem fk.of {n:Nat}:∀ {ds:List Dt},(∀ d∈ds,lj n d)→fk n ds
 | [],_=>trivial
 | d::ds,h=>⟨h d Rx,fk.of fun e he=>h e (Rk _ he)⟩
theorem ae.Vk {K:R'} (e:ae H H') (h:P' K H a xs):P' K H' a xs:=e.seq h
theorem ae.VP {K:R'} (e:ae H H') (h:U4 K H a xs):U4 K H' a xs:=by
 rcases h with(h|⟨o,h⟩)|h
 .exact .inl (.inl (e _ _ h))
 .exact .inl (.inr ⟨o,e _ _ h⟩)
 .exact .inr h
mutual
theorem ae.dt {K:R'}{H H':Hp} (e:ae H H'):∀ {d:Dt}{x:V},VI K H d x→VI K H' d x
 | .UU,_,h=>h
 | .bl _,_,h=>h
 | .int _,_,h=>h
 | .str _,_,h=>h
 | .lst ds,_,h=>by
  obtain⟨a,xs,e1,h1,h2⟩:=h
  exact⟨a,xs,e1,e.Vk h1,e.Vf h2⟩
 | .tup ds,_,h=>by
  obtain⟨a,xs,e1,h1,h2⟩:=h
  exact⟨a,xs,e1,e.VP h1,e.Vf h2⟩
theorem ae.Vf {K:R'}{H H':Hp} (e:ae H H'):∀ {ds:List Dt}{xs:List V},bv K H ds xs→bv K H' ds xs
 | [],_,h=>h
 | d::ds,_,h=>by
  obtain⟨y,ys,e1,h1,h2⟩:=h
  exact⟨y,ys,e1,e.dt h1,e.Vf h2⟩
end
theorem ae.new {o:HO} (h:H p=i'):ae H (upd H p o):=fun b u e=>by
 rw[aj (aq e h)]
 exact e
theorem Inv.Qds (I:Inv X aa σ H s){ys:List V} (h:P' X.K H a xs) (h':U4 X.K H a ys):False:=by
 obtain⟨ah,_,pl,_⟩:=I.list h
 obtain⟨its',_,pt,_⟩:=I.tuple h'
 obtain⟨o,n,e,c,_⟩:=pl
 obtain⟨o',e',c',_⟩:=pt
 rw[e] at e'
 cases e'
 rw[c] at c'
 exact UX c' (by simp)
mutual
theorem Inv.QaF (I:Inv X aa σ H s):∀ {d e:Dt}{x:V},VI X.K H d x→VI X.K H e x→d=e
 | .UU,e,_,h,h'=>by
  have h:_=V.UU:=h
  subst h
  cases e with
  | UU=>rfl
  | bl _=>exact nomatch (show V.UU=_ from h')
  | int _=>exact nomatch (show V.UU=_ from h')
  | str _=>exact nomatch (show V.UU=_ from h')
  | lst _=>obtain⟨_,_,q,_⟩:=h';cases q
  | tup _=>obtain⟨_,_,q,_⟩:=h';cases q
 | .bl b,e,_,h,h'=>by
  have h:_=V.bl b:=h
  subst h
  cases e with
  | UU=>exact nomatch (show V.bl b=_ from h')
  | bl c=>
   have q:V.bl b=V.bl c:=h'
   cases q
   rfl
  | int _=>exact nomatch (show V.bl b=_ from h')
  | str _=>exact nomatch (show V.bl b=_ from h')
  | lst _=>obtain⟨_,_,q,_⟩:=h';cases q
  | tup _=>obtain⟨_,_,q,_⟩:=h';cases q
 | .int b,e,_,h,h'=>by
  have h:_=V.int b:=h
  subst h
  cases e with
  | UU=>exact nomatch (show V.int b=_ from h')
  | bl c=>exact nomatch (show V.int b=_ from h')
  | int c=>
   have q:V.int b=V.int c:=h'
   cases q
   rfl
  | str _=>exact nomatch (show V.int b=_ from h')
  | lst _=>obtain⟨_,_,q,_⟩:=h';cases q
  | tup _=>obtain⟨_,_,q,_⟩:=h';cases q
 | .str b,e,_,h,h'=>by
  have h:_=V.str b:=h
  subst h
  cases e with
  | UU=>exact nomatch (show V.str b=_ from h')
  | bl c=>exact nomatch (show V.str b=_ from h')
  | int _=>exact nomatch (show V.str b=_ from h')
  | str c=>
   have q:V.str b=V.str c:=h'
   cases q
   rfl
  | lst _=>obtain⟨_,_,q,_⟩:=h';cases q
  | tup _=>obtain⟨_,_,q,_⟩:=h';cases q
 | .lst ds,e,_,h,h'=>by
  obtain⟨a,xs,e1,h1,h2⟩:=h
  subst e1
  cases e with
  | UU=>exact nomatch (show V.ref a=_ from h')
  | bl c=>exact nomatch (show V.ref a=_ from h')
  | int _=>exact nomatch (show V.ref a=_ from h')
  | str _=>exact nomatch (show V.ref a=_ from h')
  | lst es=>
   obtain⟨b,ys,e2,h3,h4⟩:=h'
   cases e2
   have q:=I.Z0 h1 h3
   subst q
   rw[I.QbN h2 h4]
  | tup es=>
   obtain⟨b,ys,e2,h3,h4⟩:=h'
   cases e2
   exact(I.Qds h1 h3).elim
 | .tup ds,e,_,h,h'=>by
  obtain⟨a,xs,e1,h1,h2⟩:=h
  subst e1
  cases e with
  | UU=>exact nomatch (show V.ref a=_ from h')
  | bl c=>exact nomatch (show V.ref a=_ from h')
  | int _=>exact nomatch (show V.ref a=_ from h')
  | str _=>exact nomatch (show V.ref a=_ from h')
  | lst es=>
   obtain⟨b,ys,e2,h3,h4⟩:=h'
   cases e2
   exact(I.Qds h3 h1).elim
  | tup es=>
   obtain⟨b,ys,e2,h3,h4⟩:=h'
   cases e2
   have q:=I.QgU h1 h3
   subst q
   rw[I.QbN h2 h4]
theorem Inv.QbN (I:Inv X aa σ H s):∀ {ds es:List Dt}{xs:List V},bv X.K H ds xs→bv X.K H es xs→ds=es
 | [],es,_,h,h'=>by
  have h:_=[]:=h
  subst h
  cases es with
  | nil=>rfl
  | cons e es=>obtain⟨_,_,q,_⟩:=h';cases q
 | d::ds,es,_,h,h'=>by
  obtain⟨y,ys,e1,h1,h2⟩:=h
  subst e1
  cases es with
  | nil=>exact nomatch (show y::ys=[] from h')
  | cons e es=>
   obtain⟨z,zs,q,h3,h4⟩:=h'
   cases q
   rw[I.QaF h1 h3,I.QbN h2 h4]
end
def li (ds es:List Dt) (j:Nat):Bool:=VT (ds.getD j .UU) (es.getD j .UU)
theorem sh:∀ ds es:List Dt,((VO (min ds.length es.length)).all (li ds es) && ds.length == es.length)=dO ds es
 | [],[]=>rfl
 | [],_::_=>by simp[dO]
 | _::_,[]=>by simp[dO]
 | d::ds,e::es=>by
  have ih:=sh ds es
  have e1:min (d::ds).length (e::es).length=min ds.length es.length+1:=by simp only[Rn];lia
  have e2:((d::ds).length == (e::es).length)=(ds.length == es.length):=by simp
  have e3:(VO (min ds.length es.length+1)).all (li (d::ds) (e::es))=(VT d e && (VO (min ds.length es.length)).all (li ds es)):=by
   rw[Tn,Tq,S4]
   rfl
  rw[e1,e2,e3,dO,← ih,Bool.and_assoc]
theorem Fv {ds es:List Dt} (h:ds.length=es.length):(VO ds.length).all (li ds es)=dO ds es:=by
 have:=sh ds es
 rw[← h,Nat.min_self] at this
 simpa using this
theorem Dg {ds es:List Dt} (h:ds.length≠es.length):dO ds es=K':=by
 rw[← sh ds es]
 simp[h]
theorem Inv.XB (I:Inv X aa σ H s) (h:P' X.K H a xs):∃ ah:List L',aA xs ah∧s.heap.IsList a ah.toArray:=
 let ⟨ah,r,pl,_⟩:=I.list h
 ⟨ah,r,pl.isList⟩
theorem Inv.XC (I:Inv X aa σ H s) (h:U4 X.K H a xs):∃ ah:List L',aA xs ah∧s.heap.IsTuple a ah.toArray:=
 let ⟨ah,r,pt,_⟩:=I.tuple h
 ⟨ah,r,pt⟩
theorem zw {ds es:List Dt}{d e:Dt} (h1:ds[j]?=f' d) (h2:es[j]?=f' e):li ds es j=VT d e:=by
 unfold li
 rw[Rr,Rr,h1,h2]
 rfl
theorem jL {α:Type}{l:List α} (h:j<l.length):∃ x,l[j]?=f' x:=⟨l[j],by simp[h]⟩
mutual
theorem Inv.QbO (I:Inv X aa σ H s):∀ {d e:Dt}{x y:V}{u v:L'}{n:Nat}{A:VX},VI X.K H d x→VI X.K H e y→aC x u→aC y v→lj n d→A.units+n<VB→X0 A s u v (VT d e)
 | .UU,e,x,y,u,v,n,A,h,h',rx,ry,_,hu=>by
  have hu:A.units<VB:=Sj (RO _ _) hu
  have h:x=V.UU:=h
  subst h
  cases e with
  | UU=>
   have h':y=V.UU:=h'
   subst h'
   exact fW rx ry O rfl
  | bl c=>
   have h':y=V.bl c:=h'
   subst h'
   exact fW rx ry O rfl
  | int c=>
   have h':y=V.int c:=h'
   subst h'
   exact fW rx ry O rfl
  | str c=>
   have h':y=V.str c:=h'
   subst h'
   exact fW rx ry O rfl
  | lst es=>
   obtain⟨a,ys,rfl,h1,_⟩:=h'
   obtain rfl:v=UW a:=ry
   obtain⟨ah,_,hl⟩:=I.XB h1
   obtain rfl:u=Vq:=rx
   exact X0.none_list hl hu
  | tup es=>
   obtain⟨a,ys,rfl,h1,_⟩:=h'
   obtain rfl:v=UW a:=ry
   obtain⟨ah,_,hl⟩:=I.XC h1
   obtain rfl:u=Vq:=rx
   exact X0.none_tuple hl hu
 | .bl b,e,x,y,u,v,n,A,h,h',rx,ry,_,hu=>by
  have hu:A.units<VB:=Sj (RO _ _) hu
  have h:x=V.bl b:=h
  subst h
  cases e with
  | UU=>
   have h':y=V.UU:=h'
   subst h'
   exact fW rx ry O rfl
  | bl c=>
   have h':y=V.bl c:=h'
   subst h'
   exact fW rx ry O rfl
  | int c=>
   have h':y=V.int c:=h'
   subst h'
   exact fW rx ry O rfl
  | str c=>
   have h':y=V.str c:=h'
   subst h'
   exact fW rx ry O rfl
  | lst es=>
   obtain⟨a,ys,rfl,h1,_⟩:=h'
   obtain rfl:v=UW a:=ry
   obtain⟨ah,_,hl⟩:=I.XB h1
   obtain rfl:u=W7 b:=rx
   exact X0.bool_list b hl hu
  | tup es=>
   obtain⟨a,ys,rfl,h1,_⟩:=h'
   obtain rfl:v=UW a:=ry
   obtain⟨ah,_,hl⟩:=I.XC h1
   obtain rfl:u=W7 b:=rx
   exact X0.bool_tuple b hl hu
 | .int b,e,x,y,u,v,n,A,h,h',rx,ry,_,hu=>by
  have hu:A.units<VB:=Sj (RO _ _) hu
  have h:x=V.int b:=h
  subst h
  cases e with
  | UU=>
   have h':y=V.UU:=h'
   subst h'
   exact fW rx ry O rfl
  | bl c=>
   have h':y=V.bl c:=h'
   subst h'
   exact fW rx ry O rfl
  | int c=>
   have h':y=V.int c:=h'
   subst h'
   exact fW rx ry O rfl
  | str c=>
   have h':y=V.str c:=h'
   subst h'
   exact fW rx ry O rfl
  | lst es=>
   obtain⟨a,ys,rfl,h1,_⟩:=h'
   obtain rfl:v=UW a:=ry
   obtain⟨ah,_,hl⟩:=I.XB h1
   obtain⟨t,rfl⟩:=rx
   exact X0.int_list b t hl hu
  | tup es=>
   obtain⟨a,ys,rfl,h1,_⟩:=h'
   obtain rfl:v=UW a:=ry
   obtain⟨ah,_,hl⟩:=I.XC h1
   obtain⟨t,rfl⟩:=rx
   exact X0.int_tuple b t hl hu
 | .str b,e,x,y,u,v,n,A,h,h',rx,ry,_,hu=>by
  have hu:A.units<VB:=Sj (RO _ _) hu
  have h:x=V.str b:=h
  subst h
  cases e with
  | UU=>
   have h':y=V.UU:=h'
   subst h'
   exact fW rx ry O rfl
  | bl c=>
   have h':y=V.bl c:=h'
   subst h'
   exact fW rx ry O rfl
  | int c=>
   have h':y=V.int c:=h'
   subst h'
   exact fW rx ry O rfl
  | str c=>
   have h':y=V.str c:=h'
   subst h'
   exact fW rx ry O rfl
  | lst es=>
   obtain⟨a,ys,rfl,h1,_⟩:=h'
   obtain rfl:v=UW a:=ry
   obtain⟨ah,_,hl⟩:=I.XB h1
   obtain⟨t,rfl⟩:=rx
   exact X0.str_list b t hl hu
  | tup es=>
   obtain⟨a,ys,rfl,h1,_⟩:=h'
   obtain rfl:v=UW a:=ry
   obtain⟨ah,_,hl⟩:=I.XC h1
   obtain⟨t,rfl⟩:=rx
   exact X0.str_tuple b t hl hu
 | .lst ds,e,x,y,u,v,n,A,h,h',rx,ry,hd,hu=>by
  obtain⟨a,xs,rfl,g1,g2⟩:=h
  obtain rfl:u=UW a:=rx
  obtain⟨ah,rv,hl⟩:=I.XB g1
  cases n with
  | zero=>exact VR hd
  | succ n=>
  have dc:A.units<VB:=Sj (RO _ _) hu
  cases e with
  | UU=>
   have h':y=V.UU:=h'
   subst h'
   obtain rfl:v=Vq:=ry
   exact X0.list_none hl dc
  | bl c=>
   have h':y=V.bl c:=h'
   subst h'
   obtain rfl:v=W7 c:=ry
   exact X0.list_bool c hl dc
  | int c=>
   have h':y=V.int c:=h'
   subst h'
   obtain⟨t,rfl⟩:=ry
   exact X0.list_int c t hl dc
  | str c=>
   have h':y=V.str c:=h'
   subst h'
   obtain⟨t,rfl⟩:=ry
   exact X0.list_str c t hl dc
  | tup es=>
   obtain⟨b,ys,rfl,h1,_⟩:=h'
   obtain rfl:v=UW b:=ry
   obtain⟨its',_,dL⟩:=I.XC h1
   exact X0.list_tuple hl dL dc
  | lst es=>
   obtain⟨b,ys,rfl,h1,h2⟩:=h'
   obtain rfl:v=UW b:=ry
   obtain⟨its',dz,dL⟩:=I.XB h1
   show X0 A s (.ref a) (.ref b) (dO ds es)
   by_cases nX:a=b
   .subst nX
    have e:Dt.lst ds=Dt.lst es:=I.QaF ⟨a,xs,O,g1,g2⟩ ⟨a,ys,O,h1,h2⟩
    injection e with e
    subst e
    rw[rE]
    exact QcV _
   .have n1:ds.length=ah.length:=g2.length.trans rv.length
    have n2:es.length=its'.length:=h2.length.trans dz.length
    have items:∀ j (h1:j<ah.toArray.size) (h2:j<its'.toArray.size),X0 A.in1 s ah.toArray[j] its'.toArray[j] (li ds es j):=fun j j1 j2=>by
     have j1:j<ah.length:=by simpa using j1
     have j2:j<its'.length:=by simpa using j2
     obtain⟨d',cZ⟩:=jL (l:=ds) (j:=j) (by lia)
     obtain⟨e',dM⟩:=jL (l:=es) (j:=j) (by lia)
     obtain⟨x',mW,kx⟩:=g2.get cZ
     obtain⟨y',cY,ky⟩:=h2.get dM
     obtain⟨u',iG,ru⟩:=rv.get mW
     obtain⟨v',cX,qw⟩:=dz.get cY
     have q1:ah.toArray[j]=u':=by
      have:=VJ.mp iG
      simpa using this.2
     have q2:its'.toArray[j]=v':=by
      have:=VJ.mp cX
      simpa using this.2
     rw[q1,q2,zw cZ dM]
     exact Inv.QbP I ds j cZ kx ky ru qw (fk.get hd cZ) (show A.units+1+n<VB by lia)
    by_cases hsz:ah.toArray.size=its'.toArray.size
    .have nb:ds.length=es.length:=by simpa [n1,n2] using hsz
     rw[← Fv nb,n1,← Rl]
     exact QcN nX (Qgm hl dL hsz dc items)
    .rw[Dg (by simpa [n1,n2] using hsz)]
     exact QcN nX (Qfh hl dL (by simpa using hsz) dc)
 | .tup ds,e,x,y,u,v,n,A,h,h',rx,ry,hd,hu=>by
  obtain⟨a,xs,rfl,g1,g2⟩:=h
  obtain rfl:u=UW a:=rx
  obtain⟨ah,rv,hl⟩:=I.XC g1
  cases n with
  | zero=>exact VR hd
  | succ n=>
  have dc:A.units<VB:=Sj (RO _ _) hu
  cases e with
  | UU=>
   have h':y=V.UU:=h'
   subst h'
   obtain rfl:v=Vq:=ry
   exact X0.tuple_none hl dc
  | bl c=>
   have h':y=V.bl c:=h'
   subst h'
   obtain rfl:v=W7 c:=ry
   exact X0.tuple_bool c hl dc
  | int c=>
   have h':y=V.int c:=h'
   subst h'
   obtain⟨t,rfl⟩:=ry
   exact X0.tuple_int c t hl dc
  | str c=>
   have h':y=V.str c:=h'
   subst h'
   obtain⟨t,rfl⟩:=ry
   exact X0.tuple_str c t hl dc
  | lst es=>
   obtain⟨b,ys,rfl,h1,_⟩:=h'
   obtain rfl:v=UW b:=ry
   obtain⟨its',_,dL⟩:=I.XB h1
   exact X0.tuple_list hl dL dc
  | tup es=>
   obtain⟨b,ys,rfl,h1,h2⟩:=h'
   obtain rfl:v=UW b:=ry
   obtain⟨its',dz,dL⟩:=I.XC h1
   show X0 A s (.ref a) (.ref b) (dO ds es)
   by_cases nX:a=b
   .subst nX
    have e:Dt.tup ds=Dt.tup es:=I.QaF ⟨a,xs,O,g1,g2⟩ ⟨a,ys,O,h1,h2⟩
    injection e with e
    subst e
    rw[rE]
    exact QcV _
   .have n1:ds.length=ah.length:=g2.length.trans rv.length
    have n2:es.length=its'.length:=h2.length.trans dz.length
    have items:∀ j (h1:j<ah.toArray.size) (h2:j<its'.toArray.size),X0 A.in1 s ah.toArray[j] its'.toArray[j] (li ds es j):=fun j j1 j2=>by
     have j1:j<ah.length:=by simpa using j1
     have j2:j<its'.length:=by simpa using j2
     obtain⟨d',cZ⟩:=jL (l:=ds) (j:=j) (by lia)
     obtain⟨e',dM⟩:=jL (l:=es) (j:=j) (by lia)
     obtain⟨x',mW,kx⟩:=g2.get cZ
     obtain⟨y',cY,ky⟩:=h2.get dM
     obtain⟨u',iG,ru⟩:=rv.get mW
     obtain⟨v',cX,qw⟩:=dz.get cY
     have q1:ah.toArray[j]=u':=by
      have:=VJ.mp iG
      simpa using this.2
     have q2:its'.toArray[j]=v':=by
      have:=VJ.mp cX
      simpa using this.2
     rw[q1,q2,zw cZ dM]
     exact Inv.QbP I ds j cZ kx ky ru qw (fk.get hd cZ) (show A.units+1+n<VB by lia)
    have q:=QcN nX (Qgd hl dL dc items)
    rw[← sh ds es,n1,n2]
    simpa using q
theorem Inv.QbP (I:Inv X aa σ H s):∀ (ds:List Dt) (j:Nat){d e:Dt}{x y:V}{u v:L'}{n:Nat}{A:VX},ds[j]?=f' d→VI X.K H d x→VI X.K H e y→aC x u→aC y v→lj n d→A.units+n<VB→X0 A s u v (VT d e)
 | [],j,_,_,_,_,_,_,_,_,h,_,_,_,_,_,_=>by simp at h
 | c::_,0,d,e,x,y,u,v,n,A,h,hx,hy,ru,rv,hd,hu=>by
  simp at h
  subst h
  exact Inv.QbO I hx hy ru rv hd hu
 | _::cs,j+1,d,e,x,y,u,v,n,A,h,hx,hy,ru,rv,hd,hu=>Inv.QbP I cs j (by simpa using h) hx hy ru rv hd hu
end
theorem Inv.items (I:Inv X aa σ H s){ds es:List Dt}{ys:List V}{its':List L'} (g2:bv X.K H ds xs) (h2:bv X.K H es ys) (rv:aA xs ah) (dz:aA ys its') (hd:fk n ds)
  (hu:A.units+1+n<VB):∀ j (h1:j<ah.toArray.size) (h2:j<its'.toArray.size),X0 A.in1 s ah.toArray[j] its'.toArray[j] (li ds es j):=fun j j1 j2=>by
 have n1:ds.length=ah.length:=g2.length.trans rv.length
 have n2:es.length=its'.length:=h2.length.trans dz.length
 have j1:j<ah.length:=by simpa using j1
 have j2:j<its'.length:=by simpa using j2
 obtain⟨d',cZ⟩:=jL (l:=ds) (j:=j) (by lia)
 obtain⟨e',dM⟩:=jL (l:=es) (j:=j) (by lia)
 obtain⟨x',mW,kx⟩:=g2.get cZ
 obtain⟨y',cY,ky⟩:=h2.get dM
 obtain⟨u',iG,ru⟩:=rv.get mW
 obtain⟨v',cX,qw⟩:=dz.get cY
 have q1:ah.toArray[j]=u':=by
  have:=VJ.mp iG
  simpa using this.2
 have q2:its'.toArray[j]=v':=by
  have:=VJ.mp cX
  simpa using this.2
 rw[q1,q2,zw cZ dM]
 exact I.QbO kx ky ru qw (fk.get hd cZ) hu
def uH:Dt→Bool
 | .lst _=>B'
 | .tup _=>B'
 | _=>K'
theorem Inv.Qdt (I:Inv X aa σ H s){d e:Dt}{x y:V} (bd:uH d=B') (be:uH e=B') (h:VI X.K H d x) (h':VI X.K H e y) (rx:aC x u) (ry:aC y v) (hd:lj n d) (hu:A.units+n<VB) :
  RcAt A s u v (VT d e)∧RcNeAt A s u v (!VT d e):=by
 cases n with
 | zero=>cases d<;>first | exact VR hd | cases bd
 | succ n=>
 have dc:A.units<VB:=Sj (RO _ _) hu
 have jX:A.units+1+n<VB:=by lia
 cases d with
 | lst ds=>
  obtain⟨a,xs,rfl,g1,g2⟩:=h
  obtain rfl:u=UW a:=rx
  obtain⟨ah,rv,hl⟩:=I.XB g1
  cases e with
  | lst es=>
   obtain⟨b,ys,rfl,h1,h2⟩:=h'
   obtain rfl:v=UW b:=ry
   obtain⟨its',dz,dL⟩:=I.XB h1
   have n1:ds.length=ah.length:=g2.length.trans rv.length
   have n2:es.length=its'.length:=h2.length.trans dz.length
   show RcAt A s (.ref a) (.ref b) (dO ds es)∧RcNeAt A s (.ref a) (.ref b) (!dO ds es)
   by_cases hsz:ah.toArray.size=its'.toArray.size
   .have nb:ds.length=es.length:=by simpa [n1,n2] using hsz
    rw[← Fv nb,n1,← Rl]
    exact⟨Qgm hl dL hsz dc (I.items g2 h2 rv dz hd jX),RcNeAt.lists hl dL hsz dc (I.items g2 h2 rv dz hd jX)⟩
   .rw[Dg (by simpa [n1,n2] using hsz)]
    exact⟨Qfh hl dL (by simpa using hsz) dc,RcNeAt.lists_lengths hl dL (by simpa using hsz) dc⟩
  | tup es=>
   obtain⟨b,ys,rfl,h1,_⟩:=h'
   obtain rfl:v=UW b:=ry
   obtain⟨its',_,dL⟩:=I.XC h1
   exact⟨RcAt.list_tuple hl dL dc,RcNeAt.list_tuple hl dL dc⟩
  | _=>cases be
 | tup ds=>
  obtain⟨a,xs,rfl,g1,g2⟩:=h
  obtain rfl:u=UW a:=rx
  obtain⟨ah,rv,hl⟩:=I.XC g1
  cases e with
  | tup es=>
   obtain⟨b,ys,rfl,h1,h2⟩:=h'
   obtain rfl:v=UW b:=ry
   obtain⟨its',dz,dL⟩:=I.XC h1
   have n1:ds.length=ah.length:=g2.length.trans rv.length
   have n2:es.length=its'.length:=h2.length.trans dz.length
   have q:=Qgd hl dL dc (I.items g2 h2 rv dz hd jX)
   have q':=RcNeAt.tuples hl dL dc (I.items g2 h2 rv dz hd jX)
   show RcAt A s (.ref a) (.ref b) (dO ds es)∧RcNeAt A s (.ref a) (.ref b) (!dO ds es)
   rw[← sh ds es,n1,n2]
   exact⟨by simpa using q,by simpa using q'⟩
  | lst es=>
   obtain⟨b,ys,rfl,h1,_⟩:=h'
   obtain rfl:v=UW b:=ry
   obtain⟨its',_,dL⟩:=I.XB h1
   exact⟨RcAt.tuple_list hl dL dc,RcNeAt.tuple_list hl dL dc⟩
  | _=>cases be
 | _=>cases bd
inductive Qdu (K:R') (qY:Bool) (x:V) (y:V) (H:Hp) (Q:VK):Prop
 | mk (d e:_) (_:uH d=B') (_:uH e=B') (_:VI K H d x) (_:VI K H e y) (_:lj 60 d) (_:Q (.bl (if qY then !VT d e else VT d e)) H)
theorem QhP (hu:X.A.units+64<VB):VM X (Wp .Eq) (Qdu X.K K'):=by
 intro aa s σ H x y v u Q I rx ry h
 obtain⟨d,e,bd,be,h1,h2,hd,q⟩:=h
 exact(I.Qdt bd be h1 h2 rx ry hd (by lia)).1 X.prog X.w _ _ ⟨.bl _,H,I,O,q⟩
theorem Cp (hu:X.A.units+64<VB):VM X (Wp .NotEq) (Qdu X.K B'):=by
 intro aa s σ H x y v u Q I rx ry h
 obtain⟨d,e,bd,be,h1,h2,hd,q⟩:=h
 exact(I.Qdt bd be h1 h2 rx ry hd (by lia)).2 X.prog X.w _ _ ⟨.bl _,H,I,O,q⟩
end
theorem gX (hg:Gl X x) (hm:X.mg x=f' (.ref a)) (hd:(x == ("__debug__":C'))=K':=by decide):PE X (.Name x pos) (tC (.ref a)):=zP hg hm O hd
def Qdv:V→Option L'
 | .ref a=>f' (.ref a)
 | .ty n=>f' (.type n)
 | _=>i'
theorem Mf {c:V}{k:L'} (r:aC c u) (e:Qdv c=f' k):u=k:=by
 cases c with
 | ref a=>
  cases e
  exact r
 | ty n=>
  cases e
  exact r
 | _=>cases e
theorem xN:fZ X (.builtin "isinstance") (fun xs H Q=>∃ x c k t b,xs=[x,c]∧Qdv c=f' k∧iO X.K H x t∧UK X.K t k=f' b∧Q (.bl b) H):=by
 intro aa s σ H xs us Q I r h
 obtain⟨x,c,k,t,b,rfl,ec,ty,eb,q⟩:=h
 obtain⟨u,v,rfl,rx,rc⟩:=nJ r
 have e:=Mf rc ec
 subst e
 exact MS I rx ty eb fun tk=>⟨.bl b,H,I.tok tk,O,q⟩
theorem LA:∀ {us:List L'},aA (ys.map V.str) us→StrsAre us ys:=by
 induction ys with
 | nil=>
  intro us r
  cases r
  exact .nil
 | cons y ys ih=>
  intro us r
  cases r with
  | cons r1 r2=>
   obtain⟨t,rfl⟩:=r1
   exact .cons _ _ (ih r2)
inductive rJoin (K:R') (x:V) (vs:List V) (H:Hp) (Q:VK):Prop
 | mk (z a ys:_) (_:x=.str z) (_:vs=[.ref a]) (_:P' K H a (ys.map V.str)) (_:(ys.map (·.length)).sum+ys.length*z.length≤16777216) (_:Q (.str (W8 z ys)) H)
theorem Pg:Zm X "str.join" (rJoin X.K):=by
 intro aa s σ H x xs v us Q I rx r h
 obtain⟨z,a,ys,rfl,rfl,hl,hz,q⟩:=h
 obtain⟨t,rfl⟩:=rx
 obtain⟨u,rfl,ru⟩:=gY r
 obtain rfl:u=UW a:=ru
 obtain⟨ah,rv,pl,_⟩:=I.list hl
 exact join_list pl.isList (by simpa using LA rv) hz fun t' k=>⟨.str _,H,I.tok _,⟨_,O⟩,q⟩
structure ExcAt (H:Hp) (h:Vb) (a:F') (c:L') (dd:Option F') (tb:Option (F'×L')):Prop where
 ob:∃ o vs,h.get? a=f' o∧o.cls=c∧o.dict=dd∧o.data=.fields vs∧vs.size=6∧(∃ cs,jC H cs∧vs[2]?=f' (X1 cs 0))∧vs[1]?=f' (match tb with|none=>.none|some p=>.ref p.1)
 tr:∀ p,tb=f' p→p.1≠a∧∃ oT ts,h.get? p.1=f' oT∧oT.data=.fields ts∧ts[3]?=f' p.2
structure X6 (X:Cx) (aa:List (F'×U6)) (H:Hp) (h:Vb) (a:F') (c:L') (dd:Option F') (tb:Option (F'×L')):Prop where
 fp:cI X aa H a
 Xn:∀ p,tb=f' p→cI X aa H p.1
 at_:ExcAt H h a c dd tb
theorem Ow (o:U6) (f:Array L'→Array L'):(o.mapFields f).dict=o.dict:=by
 obtain⟨c,d,dt,sl⟩:=o
 cases dt<;>rfl
theorem Inv.slot0 {tk:Nat} (I:Inv X aa σ H s) (fh:∀ b∈ch,cI X aa H b) (keep:∀ b o,b∉VG X.stack→b∉ch→s.heap.get? b=f' o→h'.get? b=f' o)
  (slot:∀ b o,b∈VG X.stack→s.heap.get? b=f' o→∃ sl,h'.get? b=f' {o with slots:=sl}):Inv X aa σ H {s with heap:=h',toks:=tk}:=by
 have any:∀ b o,b∉ch→s.heap.get? b=f' o→∃ sl,h'.get? b=f' {o with slots:=sl}:=fun b o hc e=>by
  by_cases hb:b∈VG X.stack
  .exact slot b o hb e
  .exact⟨o.slots,keep b o hb hc e⟩
 have sub:∀ b,b∈VG X.stack→b=X.env.locals∨b∈X.fs:=fun b hb=>RY.mp (I.W0 b hb)
 refine I.step (g':=s.gens) (d':=s.drawn) (ch:=ch) (fun b hb=>?_) (fun b o hL hf hc e _=>keep b o (fun z=>(sub b z).elim hL hf) hc e) (fun b o _ _ hc e _=>any b o hc e) (fun _ _ _ _ n=>n) (fun b o hc e=>?_)
  (fun _ _ e=>e) (fun _ _ _ e=>e) (fun _ _ _ e=>e) (fun m hm=>?_) (fun b u e=>?_) I.bare
 .obtain⟨_,f1,_,f3,f4,f5⟩:=fh b hb
  exact⟨f3,f1,f4,f5⟩
 .obtain⟨sl,q⟩:=any b o hc e
  exact⟨_,q⟩
 .obtain⟨o,es,ep,ho,r⟩:=hm
  obtain⟨sl,q⟩:=any _ o (fun z=>(fh _ z).2.1 O) ho
  exact⟨_,es,ep,q,r⟩
 .have nf:∀ d v,H d=f' v→d∉VG X.stack∧d∉ch:=fun d v q=>⟨fun z=>(by rw[I.Qaz d z] at q;cases q),fun z=>(by rw[(fh d z).1] at q;cases q)⟩
  refine(I.UP b u e).WY (fun d v hd q=>?_) (fun _ q=>q) fun _ _ q=>q
  rcases hd with z|z
  .subst z
   exact keep d v (nf d _ e).1 (nf d _ e).2 q
  .exact keep d v (nf d _ z).1 (nf d _ z).2 q
theorem Inv.slots {tk:Nat} (I:Inv X aa σ H s) (fh:∀ b∈ch,cI X aa H b) (keep:∀ b o,b∉VG X.stack→b∉ch→s.heap.get? b=f' o→h'.get? b=f' o)
  (slot:∀ b o,b∈VG X.stack→s.heap.get? b=f' o→∃ sl,h'.get? b=f' {o with slots:=sl}) (_:∀ b∈ch,∀ o,s.heap.get? b=f' o→∃ o',h'.get? b=f' o'):Inv X aa σ H {s with heap:=h',toks:=tk}:=I.slot0 fh keep slot
def Body (X:Cx):Prop:=X.stack=X.env::X.outer∧X.env.frame=f' X.env.locals
theorem DP {kt:Bool} (B:Body X) (I:Inv X aa σ H s) (fp:cI X aa H a) (he:s.heap.get? a=f' o) (hd:o.data=.fields vs) (hz:vs.size=6)
  (hQ:∀ s' T,Inv X aa σ H s'→s.heap.objs.size≤T→cI X aa H T→T≠a→s'.heap.get? a=f' (o.mapFields (·.setIfInBounds 1 (.ref T)))→(∃ oT ts,s'.heap.get? T=f' oT∧oT.data=.fields ts∧ts[3]?=f' (Vw X.env.locals))→Q () s') :
  M' M X.A (do let f ← frameOf X.env;let pl ← entryPlaceOf X.env.locals kt;let b ← QeQ head f .none (Vw X.env.locals) .none pl;Qbx (.ref a) 1 b) Q E s:=by
 have hl:=I.stack
 rw[B.1] at hl
 have tI:X.A.frames=f' (X.env::X.outer):=by rw[I.ok.frames,B.1]
 have oO:∀ b,cI X aa H b→b∉VG X.stack:=fun b f z=>(RY.mp (I.W0 b z)).elim f.2.1 f.2.2.1
 refine mK (wpAny_frameOf_fun tI hl B.2 fun h₁ bQ=>?_)
 rw[← B.1] at bQ
 refine mK (wpAny_entryPlaceOf fun pl bH=>?_)
 simp only[QeQ,newFields]
 refine mK (SG ?_ (bH.sizeOk5 _ _ _ _ _))
 generalize AH:({cls:=.type "traceback",dict:=i',data:=.fields ([head,.ref X.env.locals,.none,Vw X.env.locals,.none]++(if pl.isEmpty then U5 6 Vq else pl)).toArray}:U6)=oT
 have e1:h₁.get? a=f' o:=(bQ.2.1 a (oO a fp)).trans he
 have e2:(h₁.push oT).get? a=f' o:=Ra _ e1
 have hsz:s.heap.objs.size=h₁.objs.size:=bQ.1.symm
 have BM:h₁.objs.size≠a:=Sh (Rc e1)
 have jR:=ZC hd (·.setIfInBounds 1 (UW h₁.objs.size))
 have e3:=RC (Xr (·.setIfInBounds 1 (UW h₁.objs.size))) e2 (Qa6 jR)
 have eT:((h₁.push oT).update a (Xr (·.setIfInBounds 1 (UW h₁.objs.size)))).get? h₁.objs.size=f' oT:=
  (Ro _ _ (US BM)).trans (Ri h₁ (by rw[← AH];rfl))
 have kp:∀ b q,b≠a→h₁.get? b=f' q→((h₁.push oT).update a (Xr (·.setIfInBounds 1 (UW h₁.objs.size)))).get? b=f' q:=fun b q hb e=>
  (Ro _ _ (US hb)).trans (Ra _ e)
 refine Sf e2 hd (by rw[hz];decide) ?_
 refine hQ _ h₁.objs.size (I.slots (ch:=[a]) (tk:=s.toks) (fun b hb=>?_) (fun b q hb hc e=>?_) (fun b q hb e=>?_) (fun b hb q e=>?_)) (Te hsz) (I.WO (Te hsz) (I.UP.fresh (Te hsz))) BM e3 ⟨oT,_,eT,by rw[← AH],?_⟩
 .rw[Vh.mp hb];exact fp
 .exact kp b q (fun z=>hc (by simp[z])) ((bQ.2.1 b hb).trans e)
 .obtain⟨sl,q'⟩:=bQ.2.2 b q e
  refine⟨sl,kp b _ (fun z=>?_) q'⟩
  subst z
  exact oO b fp hb
 .rw[Vh.mp hb];exact⟨_,e3⟩
 .first|(simp;done)|(rcases bH with rfl|⟨_,_,_,_,_,_,_,rfl⟩<;>simp)
theorem QhQ (hz:vs.size=6) (h2:∃ cs,jC H cs∧vs[2]?=f' (X1 cs 0)):(vs.setIfInBounds 1 v).size=6∧(∃ cs,jC H cs∧(vs.setIfInBounds 1 v)[2]?=f' (X1 cs 0))∧(vs.setIfInBounds 1 v)[1]?=f' v:=by
 refine⟨by simpa using hz,?_,?_⟩
 .obtain⟨cs,hc,h2⟩:=h2
  exact⟨cs,hc,by rw[Tr (by decide)];exact h2⟩
 .simp[hz]
theorem Inv.note (B:Body X) (I:Inv X aa σ H s) (x:X6 X aa H s.heap a c dd tb) (Jg:∀ p,tb=f' p→p.2=.none∨p.2=Vw X.env.locals)
  (hQ:∀ s' T,Inv X aa σ H s'→X6 X aa H s'.heap a c dd (f' (T,Vw X.env.locals))→Q () s'):M' M X.A (Qar (.ref a) X.env) Q E s:=by
 obtain⟨o,vs,h1,hc,cV,hd,hz,h2,oj⟩:=x.at_.ob
 have aS:∀ s' T,Inv X aa σ H s'→cI X aa H T→T≠a→s'.heap.get? a=f' (o.mapFields (·.setIfInBounds 1 (.ref T)))→(∃ oT ts,s'.heap.get? T=f' oT∧oT.data=.fields ts∧ts[3]?=f' (Vw X.env.locals))→Q () s':=fun s' T I' fT ne e' tr=>by
  obtain⟨z1,z2,z3⟩:=QhQ (v:=.ref T) hz h2
  refine hQ s' T I' ⟨x.fp,fun p q=>?_,⟨_,_,e',(Qfp _ _).trans hc,(Ow _ _).trans cV,ZC hd _,z1,z2,z3⟩,fun p q=>?_⟩
  .cases q;exact fT
  .cases q;exact⟨ne,tr⟩
 unfold Qar
 simp only[B.2]
 cases tb with
 | none=>
  refine mK (RH h1 hd oj ?_)
  rw[UL (by decide)]
  exact DP B I x.fp h1 hd hz fun s' T I' _ fT ne e' tr=>aS s' T I' fT ne e' tr
 | some p=>
  obtain⟨T,fl⟩:=p
  obtain⟨ne,oT,ts,hT,mM,h3⟩:=x.at_.tr _ rfl
  refine mK (RH h1 hd oj ?_)
  rw[UN (show(UW T != Vq)=B' from by simp)]
  refine mK (RH hT mM h3 ?_)
  rcases Jg _ rfl with z|z
  .have z:fl=.none:=z
   subst z
   rw[UL (show ¬ ((Vq == Vw X.env.locals)=B') from by simp[Vw])]
   refine mK (Sf hT mM (Qck.mp h3).1 ?_)
   have other:∀ b,b≠T→(s.heap.update T (Xr (·.setIfInBounds 3 Vq))).get? b=s.heap.get? b:=fun b hb=>Ro _ _ (US hb)
   have oO:T∉VG X.stack:=fun z=>(RY.mp (I.W0 T z)).elim (x.Xn _ O).2.1 (x.Xn _ O).2.2.1
   have I1:Inv X aa σ H {s with heap:=s.heap.update T (Xr (·.setIfInBounds 3 Vq))}:=I.slots (ch:=[T]) (tk:=s.toks) (fun b hb=>by rw[Vh.mp hb];exact x.Xn _ O)
    (fun b q _ hc e=>(other b fun z=>hc (by simp[z])).trans e) (fun b q hb e=>⟨q.slots,(other b fun z=>oO (z ▸ hb)).trans e⟩)
    (fun b hb q e=>(by obtain rfl:=Vh.mp hb;exact⟨_,RC _ hT (Qa6 (ZC mM _))⟩))
   exact DP B I1 x.fp ((other a (US ne)).trans h1) hd hz fun s' T' I' _ Hy Js e' tr=>aS s' T' I' Hy Js e' tr
  .have z:fl=Vw X.env.locals:=z
   subst z
   rw[UN (show(Vw X.env.locals == Vw X.env.locals)=B' from ZK _)]
   exact Rb (hQ s T I x)
theorem Inv.land (I:Inv X aa σ H s) (x:X6 X aa H s.heap a c dd (f' (T,fl)))
  (hQ:∀ s',Inv X aa σ H s'→X6 X aa H s'.heap a c dd (f' (T,.none))→Q () s'):M' M A (Qbu (.ref a) i') Q E s:=by
 obtain⟨o,vs,h1,hc,cV,hd,hz,h2,oj⟩:=x.at_.ob
 obtain⟨ne,oT,ts,hT,mM,h3⟩:=x.at_.tr _ rfl
 have AL:3<ts.size:=(Qck.mp h3).1
 unfold Qbu
 refine mK (RH h1 hd oj ?_)
 rw[UN (show(UW T != Vq)=B' from by simp)]
 refine Sf hT mM AL ?_
 have other:∀ b,b≠T→(s.heap.update T (Xr (·.setIfInBounds 3 ((i':Option F').elim Vq fun f=>Vw f)))).get? b=s.heap.get? b:=fun b hb=>Ro _ _ (US hb)
 have self:=RC (Xr (·.setIfInBounds 3 ((i':Option F').elim Vq fun f=>Vw f))) hT (Qa6 (ZC mM _))
 have oO:T∉VG X.stack:=fun z=>(RY.mp (I.W0 T z)).elim (x.Xn _ O).2.1 (x.Xn _ O).2.2.1
 refine hQ _ (I.slots (ch:=[T]) (tk:=s.toks) (fun b hb=>by rw[Vh.mp hb];exact x.Xn _ O) (fun b q _ hc e=>(other b fun z=>hc (by simp[z])).trans e)
  (fun b q hb e=>⟨q.slots,(other b fun z=>oO (z ▸ hb)).trans e⟩) (fun b hb q e=>(by obtain rfl:=Vh.mp hb;exact⟨_,self⟩))) ⟨x.fp,fun p q=>?_,⟨o,vs,(other a (US ne)).trans h1,hc,cV,hd,hz,h2,oj⟩,fun p q=>?_⟩
 .cases q;exact x.Xn (T,fl) rfl
 .cases q;exact⟨ne,_,_,self,ZC mM _,by simp[AL]⟩
def Vt (P:Vv) (w:VA):Xc:=fun outer H s E e s'=>∃ a c dd T H',e=.ref a∧s'.os=s.os∧XW s'.gens∧Un (VG outer) [] H H' s.heap s'.heap∧VD P w H' s'.heap ∧
 (s.heap.objs.size≤a∧H' a=i')∧(s.heap.objs.size≤T∧H' T=i')∧ExcAt H' s'.heap a c dd (f' (T,.none))∧E c dd H'
abbrev RK:=St→XK
def PX (X:Cx) (R:RK):Prop:=∀ (aa:List (F'×U6)) (σ:St) (H:Hp) (s:UM) (a:F') (c:L') (dd:Option F') (tb:Option F'),Inv X aa σ H s→X6 X aa H s.heap a c dd (tb.map fun T=>(T,Vq))→R σ c dd H→X.xe (.ref a) s
theorem xZ {tb:Option F'}:∀ p,(tb.map fun T=>(T,Vq))=f' p→p.2=Vq∨p.2=v:=fun p e=>by
 cases tb with
 | none=>cases e
 | some T=>cases e;exact .inl rfl
theorem aU {K:R'}{outer:List V5}{E:XK} :
  PX (ka (Vt P w) P w K mg base N qual scope f cd A outer s H E) (fun _=>E):=by
 intro aa σ H' s1 a c dd tb I x hE
 have B:Body (ka (Vt P w) P w K mg base N qual scope f cd A outer s H E):=⟨O,O⟩
 show M' _ _ (leaving _ (.ref a)) _ _ s1
 unfold leaving
 refine mK (I.note B x xZ fun s2 T I2 x2=>?_)
 refine I2.land x2 fun s3 I3 x3=>?_
 have sz:∀ b,cI (ka (Vt P w) P w K mg base N qual scope f cd A outer s H E) aa H' b→s.heap.objs.size≤b∧H' b=i':=fun b fb=>by
  refine⟨?_,fb.1⟩
  rcases fb.2.2.2.1 with z|z
  .exact UX (show b∈([]:List F') from z) (by simp)
  .exact z
 exact⟨a,c,dd,T,H',O,I3.os,I3.bare,I3.base,I3.UP,sz a x3.fp,sz T (x3.Xn _ O),x3.at_,hE⟩
theorem NM {R:RK} (hp:PX X R):∀ (aa:List (F'×U6)) (σ:St) (H:Hp) (s:UM) (e:L') (s':UM),Inv X aa σ H s→Vt X.prog X.w X.stack H s (R σ) e s'→X.xe e s':=by
 intro aa σ H s e s' I h
 obtain⟨a,c,dd,T,H',rfl,os,bare,un,UP,ha,hT,x,hE⟩:=h
 have I':Inv X aa σ H' s':=I.Qc6 os un UP bare fun b z=>UX z (by simp)
 refine hp aa σ H' s' a c dd (f' T) I' ⟨I.WO ha.1 ha.2,fun p q=>?_,x⟩ hE
 cases q
 exact I.WO hT.1 hT.2
section
variable {g:Array QbA}{d:Drawn}{os:OsState}
variable {nm q:C'}{N:F'}{bs:List L'}{hdct:Bool}{ab:Bool}{col:Option Bool}{k0 k1 k2 k3 k5:Option L'}{B gB:String}
abbrev g6 (C t:F'):U6:={cls:=.ref C,data:=.fields #[.ref t,.none,.none,.none,.bool K',.none]}
abbrev ip (a7:List L'):U6:={cls:=.type "tuple",data:=.seq a7.toArray}
theorem PZ (F:ExcBaseFacts B newId gB jk) (T:OwnTail h jk bm){a7:List L'}{Q:L'→UM→Prop}
  (oC:h.get? C=f' (Qao nm q C N bs bm hdct sn sub ab col dd k0 k1 k2 k3 k5 newId)) (lk:Xq (UJ prog w) h (Xt (.ref C) "__init__") (f' (.builtin gB))) (V2:a7.length≤S')
  (aS:∀ h',(∀ b o,h.get? b=f' o→h'.get? b=f' o)→h'.get? (h.objs.size+1)=f' (g6 C (h.objs.size+2))→Q (.ref (h.objs.size+1)) ⟨h',g,d,t,os⟩) :
  M' (UJ prog w) A (call (.ref C) a7) Q E ⟨h,g,d,t,os⟩:=by
 have l1:=tc_lookup
 have l2:=tc_bind (.ref C)
 have Jm:(⟨h,g,d,t,os⟩:UM).TypeIs (.ref C) "type":=⟨_,oC,O⟩
 refine Ss (Qgk ?_)
 show M' _ _ (callAny (.ref C) _) _ _ _
 repeat (any_goals (first|assumption|(with_reducible refine R4 oC ?_)|wp_step))
 refine⟨O,Qfe (ZA _ (by decide +kernel)) Qgr (T0 oC ?_)⟩
 show M' _ (A.under (.builtin "type.__call__" ⟨.ref C::a7,[]⟩)) (W'.«type.__call__» ⟨.ref C::a7,[]⟩) _ _ _
 repeat (first|(with_reducible refine R4 oC ?_)|(with_reducible refine Qf3 oC ?_)|wp_step)
 refine Qe7 (ZA _ F.quiet) (Ur F T oC (Qft F T oC ?_ V2))
 show M' _ _ _ _ _ _
 have kk:∀ b o,h.get? b=f' o→((h.push (ip a7)).push (g6 C h.objs.size)).get? b=f' o:=fun b o e=>Ra _ (Ra _ e)
 have sM:=kk _ _ oC
 have oX:((h.push (ip a7)).push (g6 C h.objs.size)).get? (h.objs.size+1)=f' {cls:=.ref C,data:=.fields #[.ref h.objs.size,.none,.none,.none,.bool K',.none]}:=by heap_get
 have wU:(UW C::bm).contains (.ref C)=B':=by simp
 have T1:=T.keeps kk
 unfold YC
 repeat (first|(with_reducible refine R4 oX ?_)|(with_reducible refine Ta sM ?_;rw[wU])|wp_step)
 show M' _ _ (Xt (.ref C) _) _ _ _
 refine lk _ _ _ _ kk ?_
 refine RI (mK (Uf (F.init.bind _) (mK (Ss (Zz F.init.plain F.initEntry (wpAny_check_init_subT F T1 sM oX O ?_))))))
 wp_walk
 refine aS _ (fun b o hb=>?_) ?_
 .rw[Ro _ _ (Sh (R8 (Rc hb)))]
  exact Ra _ (kk b o hb)
 .rw[RC _ (Ra _ oX) rfl]
  simp only[RL];rfl
theorem yc (F:ExcBaseFacts B newId gB jk) (T:OwnTail h jk bm){a7:List L'}{Q:L'→UM→Prop}
  (oC:h.get? C=f' (Qao nm q C N bs bm hdct sn sub ab col dd k0 k1 k2 k3 k5 newId)) (lk:Xq (UJ prog w) h (Xt (.ref C) "__init__") (f' (.ref fI))) (oF:h.get? fI=f' oI) (fF:oI.cls=.type "function") (V2:a7.length≤S')
  (aS:M' (UJ prog w) (A.under (.builtin "type.__call__" ⟨.ref C::a7,[]⟩)) (call (.ref fI) (.ref (h.objs.size+1)::a7)) (fun r s'=>r=.none∧Q (.ref (h.objs.size+1)) s') E ⟨(h.push (ip a7)).push (g6 C h.objs.size),g,d,t,os⟩) :
  M' (UJ prog w) A (call (.ref C) a7) Q E ⟨h,g,d,t,os⟩:=by
 have l1:=tc_lookup
 have l2:=tc_bind (.ref C)
 have Jm:(⟨h,g,d,t,os⟩:UM).TypeIs (.ref C) "type":=⟨_,oC,O⟩
 refine Ss (Qgk ?_)
 show M' _ _ (callAny (.ref C) _) _ _ _
 repeat (any_goals (first|assumption|(with_reducible refine R4 oC ?_)|wp_step))
 refine⟨O,Qfe (ZA _ (by decide +kernel)) Qgr (T0 oC ?_)⟩
 show M' _ (A.under (.builtin "type.__call__" ⟨.ref C::a7,[]⟩)) (W'.«type.__call__» ⟨.ref C::a7,[]⟩) _ _ _
 repeat (first|(with_reducible refine R4 oC ?_)|(with_reducible refine Qf3 oC ?_)|wp_step)
 refine Qe7 (ZA _ F.quiet) (Ur F T oC (Qft F T oC ?_ V2))
 show M' _ _ _ _ _ _
 have kk:∀ b o,h.get? b=f' o→((h.push (ip a7)).push (g6 C h.objs.size)).get? b=f' o:=fun b o e=>Ra _ (Ra _ e)
 have sM:=kk _ _ oC
 have GW:=kk _ _ oF
 have oX:((h.push (ip a7)).push (g6 C h.objs.size)).get? (h.objs.size+1)=f' {cls:=.ref C,data:=.fields #[.ref h.objs.size,.none,.none,.none,.bool K',.none]}:=by heap_get
 have wU:(UW C::bm).contains (.ref C)=B':=by simp
 unfold YC
 repeat (first|(with_reducible refine R4 oX ?_)|(with_reducible refine Ta sM ?_;rw[wU])|wp_step)
 show M' _ _ (Xt (.ref C) _) _ _ _
 refine lk _ _ _ _ kk ?_
 refine RI (mK ?_)
 unfold bindSpecial
 refine mK (SM (T:="function") ⟨_,GW,fF⟩ ?_)
 rw[UN (by decide)]
 refine Rb (mK (RW aS (fun r s' z=>?_) fun _ _ x=>x))
 obtain⟨rfl,z⟩:=z
 wp_walk
 exact z
theorem Nj {x:V9 L'}{Q:WM→UM→Prop} (hb:bm.contains (.type "BaseException")=B')
  (hx:M' M A x (fun v s₁=>∃ e t dx,v=.ref e∧s₁.heap.get? C=f' (Qao nm q C N bs bm hdct sn sub ab col dd k0 k1 k2 k3 k5 newId)∧s₁.heap.get? e=f' {cls:=.ref C,dict:=dx,data:=.fields #[.ref t,.none,.none,.none,.bool K',.none]}∧M' M A (raiseNew (.ref e):V9 WM) Q E s₁) E s) :
  M' M A (Qbv env (f' x) i') Q E s:=by
 have mq:(UW C::bm).contains (.type "BaseException")=B':=by rw[TQ,hb,SN]
 unfold Qbv
 refine mK (RW hx (fun v s₁ z=>?_) fun _ _ y=>y)
 obtain⟨e,t,dx,rfl,oC,oe,z⟩:=z
 obtain⟨hp,g,d,tk,os⟩:=s₁
 repeat (first|exact z|(with_reducible refine R4 oe ?_)|(with_reducible refine R4 oC ?_)|(with_reducible refine Ta oC ?_;rw[mq])|wp_step)
end
def si (K:R') (C:F') (jk:List L') (newId:String):Bool:=match K.lookup C with
 | some ⟨.type "type",_,.cls cd,sl⟩=>(match cd.mro,sl.toList with
  | .ref C1::bm,[_,_,_,_,f' (.builtin n),_]=>C1 == C && n == newId && !cd.hasDel && PySem.W.tailIn K jk bm
  | _,_=>K')
 | _=>K'
structure QbQ (h:Vb) (C:F') (jk bm:List L') (newId:String):Prop where
 obj:∃ nm q N bs hdct sn sub ab col dd k0 k1 k2 k3 k5,h.get? C=f' (Qao nm q C N bs bm hdct sn sub ab col dd k0 k1 k2 k3 k5 newId)
 tail:OwnTail h jk bm
theorem kY {K:R'} (X:K.In h) (e:si K C jk newId=B'):∃ bm,QbQ h C jk bm newId:=by
 unfold si at e
 split at e
 .rename_i d1 c1 s1 Xd
  split at e
  .rename_i C1 bm j0 j1 j2 j3 n1 j5 m1 z1
   simp only[Rt,Wo,Sw] at e
   obtain⟨⟨⟨rfl,rfl⟩,nd⟩,tl⟩:=e
   obtain⟨f1,f2,f3,f4,f5,f6,f7,f8,f9,GA,QL⟩:=c1
   dsimp only at m1 nd
   subst m1 nd
   obtain rfl:s1=#[j0,j1,j2,j3,f' (.builtin n1),j5]:=by
    obtain⟨l1⟩:=s1
    simp only at z1
    rw[z1]
   exact⟨bm,⟨f1,f5,f4,f2,f6,f7,f8,f9,GA,d1,j0,j1,j2,j3,j5,X _ _ Xd⟩,PySem.W.tail_of_in X tl⟩
  .cases e
 .cases e
section
open PySem.Builtin.ObjectAttr
abbrev X7:List L':=[.type "ValueError",.type "Exception",.type "BaseException",.type "object"]
theorem QhR (self:L'):refuseLoop self "__setattr__" X7=pure ():=by kernel_rfl
def pD:List L'→Bool
 | .ref _::r=>pD r
 | l=>l == X7
theorem EH (self:L'):∀ {l:List L'},pD l=B'→refuseLoop self "__setattr__" l=pure ()
 | .ref c::r,e=>by rw[refuseLoop_ref];exact EH self (l:=r) (by simpa [pD] using e)
 | [],e=>by cases e
 | .type n::r,e=>by rw[Wo.mp (show((YB n::r) == X7)=B' from e)];exact QhR self
 | .none::r,e=>by cases e
 | .bool _::r,e=>by cases e
 | .int _ _::r,e=>by cases e
 | .str _ _::r,e=>by cases e
 | .bytes _ _::r,e=>by cases e
 | .float _ _::r,e=>by cases e
 | .builtin _::r,e=>by cases e
 | .notImplemented::r,e=>by cases e
 | .ellipsis::r,e=>by cases e
theorem DZ:∀ {l:List L'},pD l=B'→l.contains (.type "object")=B'
 | .ref c::r,e=>by rw[TQ,DZ (l:=r) (by simpa [pD] using e),SN]
 | [],e=>by cases e
 | .type n::r,e=>by rw[Wo.mp (show((YB n::r) == X7)=B' from e)];rfl
 | .none::r,e=>by cases e
 | .bool _::r,e=>by cases e
 | .int _ _::r,e=>by cases e
 | .str _ _::r,e=>by cases e
 | .bytes _ _::r,e=>by cases e
 | .float _ _::r,e=>by cases e
 | .builtin _::r,e=>by cases e
 | .notImplemented::r,e=>by cases e
 | .ellipsis::r,e=>by cases e
def QhS (K:R') (C:F'):Bool:=(Qbi K C).any fun cd=>pD cd.mro
structure o0 (K:R') (C:F') (f:C'):Prop where
 sa:V0 K (.ref C) "__setattr__"=f' (f' (.builtin "object.__setattr__"))
 ov:QhS K C=B'
 tk:Qbc K C f=f' i'
 hd:ZD K C=B'
section
variable {K:R'}{x:F'}
theorem Lw (X:K.In s.heap) (hx:s.heap.get? x=f' {cls:=.ref C,data:=.fields vs}) (Z:o0 K C name)
  (aS:∀ h',(∀ b o,b≠x→s.heap.get? b=f' o→h'.get? b=f' o)→h'.get? x=f' {cls:=.ref C,dict:=f' s.heap.objs.size,data:=.fields vs} →
   h'.Ns1 s.heap.objs.size (fun y=>if y=name then f' v else i')→Q () {s with heap:=h',toks:=s.toks+2}):M' (UJ prog w) A (setAttr (.ref x) name v) Q E s:=by
 have J:Yy s.heap x {cls:=.ref C,data:=.fields vs} C i':=⟨hx,O,O,Wz⟩
 refine Qe8 X J Z.sa ?_
 have SF:=PySem.F.store_object
 obtain⟨cd,hc,ho⟩:=ZH Z.ov
 have ne:cd.mro.isEmpty=K':=by cases q:cd.mro with|nil=>rw[q] at ho;cases ho|cons _ _=>rfl
 have Ij:Xq (UJ prog w) s.heap (YC (.ref x) (.type "object")) B':=J.type.andThen (Qai X (by unfold Vn;rw[hc,S7,UL (by rw[ne];decide),DZ ho]))
 refine Zz SF.slot.plain SF.entry (@Qcr (UJ prog w) _ _ {s with toks:=s.toks+1} "object.__setattr__" "object" "__setattr__" (.ref x) [.str name s.toks,v] [] _ SF.kind SF.split Ij (SF.args (.ref x) (.str name s.toks) v) ?_)
 obtain⟨qX,ha,hr⟩:=QeR.mp Z.tk
 have mr:Xq (UJ prog w) s.heap (mroOf (.ref C)) cd.mro:=(Qcp X hc).andThen .now
 have tk:Xq (UJ prog w) s.heap (storeTaker? qX) i':=by
  cases qX with
  | none=>cases hr;exact .now
  | some a=>
   obtain⟨b,hb,z⟩:=Zw.mp hr
   refine(PySem.W.looks_takesIn X hb).andThen ?_
   cases b with
   | true=>cases z
   | false=>exact .now
 rw[PySem.W.osa_eq,refuse_eq]
 refine mK (mK (Y1 (s:={s with toks:=s.toks+1}) J.type (mK (Y1 (s:={s with toks:=s.toks+1}) mr ?_))))
 rw[EH _ ho]
 refine Rb (mK (Y1 (s:={s with toks:=s.toks+1}) J.type (mK (Y1 (s:={s with toks:=s.toks+1}) (XI X ha) (mK (Y1 (s:={s with toks:=s.toks+1}) tk ?_))))))
 obtain⟨QU,jr,cZ⟩:=ZH Z.hd
 refine mK (Rb (mK (mK (TL hx (mK (Y1 (s:={s with toks:=s.toks+1}) (Qcp X jr) ?_))))))
 rw[cZ]
 have lt:=Rc hx
 have xs:x≠s.heap.objs.size:=Rj lt
 have Au:(s.heap.push {cls:=.type "dict",data:=.dict #[]}).get? x=f' {cls:=.ref C,data:=.fields vs}:=Ra _ hx
 refine mK (wpAny_alloc' (mK (wpAny_update' Au (Rb (mK (Rb (mK ?_)))))))
 generalize hG:(s.heap.push {cls:=.type "dict",data:=.dict #[]}).update x (fun o=>{cls:=o.cls,dict:=f' s.heap.objs.size,data:=o.data,slots:=o.slots})=G
 have eZ:∀ b,b≠x→G.get? b=(s.heap.push {cls:=.type "dict",data:=.dict #[]}).get? b:=fun b hb=>by rw[← hG];exact Ro _ _ (US hb)
 have gd:G.get? s.heap.objs.size=f' {cls:=.type "dict",data:=.dict #[]}:=(eZ _ (US xs)).trans (Ri _ O)
 have gx:G.get? x=f' {cls:=.ref C,dict:=f' s.heap.objs.size,data:=.fields vs}:=by rw[← hG,RC _ Au rfl]
 have n0:G.Ns s.heap.objs.size (fun _=>i'):=⟨_,#[],_,gd,O,fun e he=>UX he (by simp),fun _=>O⟩
 refine wpAny_nsSet1 (s:=⟨G,s.gens,s.drawn,s.toks+1,s.os⟩) (UE n0) fun h' nj fQ=>?_
 obtain⟨oD,Ju,IY,wo,vC,js⟩:=nj.count (ns:=[name]) (fun y hy=>by
  split at hy
  .rename_i z;simp[z]
  .exact UX O hy)
 refine mK (Qf4 wo (by rw[vC];exact Qf9 (RZ js (by simp[Rh]))) ?_)
 refine Rb (aS h' (fun b o hb q=>?_) ((fQ.2 _ xs).trans gx) nj)
 exact(fQ.2 b (Rj (Rc q))).trans ((eZ b hb).trans (Ra _ q))
end
structure o9 (K:R') (C:F') (f:C'):Prop where
 ga:V0 K (.ref C) "__getattribute__"=f' (f' (.builtin "BaseException.__getattribute__"))
 gt:V0 K (.ref C) "__getattr__"=f' i'
 ba:Vn K C (.type "BaseException")=f' B'
 na:V0 K (.ref C) f=f' i'
 hd:ZD K C=B'
section
variable {K:R'}{x:F'}{mA:C'→Option L'}
theorem Qr {kA:Bool}{Q:L'→UM→Prop} (X:K.In s.heap) (hx:s.heap.get? x=f' o) (hc:o.cls=.ref C) (hf:∃ vs,o.data=.fields vs) (gw:o.dict=f' dx) (hn:s.heap.Ns1 dx mA) (Z:o9 K C name) (hv:mA name=f' v) (hh:Qcx v=B')
  (aS:Q v {s with toks:=s.toks+1}):M' (UJ prog w) A (Qaw (.ref x) name kA) Q E s:=by
 obtain⟨od,kM,hl⟩:=zu hn
 have J:Yy s.heap x o C (f' od):=⟨hx,hc,by obtain⟨vs,hf⟩:=hf;unfold QcE;rw[hf],by rw[gw];exact kM⟩
 have L1:=XI (M:=UJ prog w) X Z.ga
 have L2:=XI (M:=UJ prog w) X Z.gt
 have L3:=Qe4 (M:=UJ prog w) X J (Qe2 Z.hd Z.na O (by rw[hl,hv]))
 have L0:=J.type (M:=UJ prog w)
 have mq:Xq (UJ prog w) s.heap (YC (.ref x) (.type "BaseException")) B':=J.type.andThen (Qai X Z.ba)
 obtain⟨hp,g,d,t,os⟩:=s
 unfold Qaw Qbw
 refine mK (wpAny_mkText (RI (mK (L0.at (mK (L1.at ?_))))))
 show M' _ _ (if _ then _ else _) _ _ _
 rw[UL (by rw[show(Qbn "BaseException.__getattribute__" == Qbn "object.__getattribute__")=K' by decide +kernel,S1];decide)]
 unfold Qgj
 refine mK (L2.at (mK (Sa (RI ?_))))
 unfold Qgc
 rw[UL (by cases kA<;>decide)]
 unfold Qgt
 have G:=QeD.ga
 refine mK ?_
 rw[G.bind]
 refine Rb (Ss (Zz G.plain QeX (@Qcr (UJ prog w) _ _ ⟨hp,g,d,t+1,os⟩ "BaseException.__getattribute__" "BaseException" "__getattribute__" (.ref x) [.str name t] [] _ (by decide +kernel) (by decide +kernel) mq (Qe1 (.ref x) (.str name t)) ?_)))
 refine mK (Rb (mK (Rb (mK (L0.at (mK (L3.at (Rb ?_))))))))
 show M' _ _ (handedOut v) _ _ _
 rw[PySem.W.handedOut_of hh]
 exact Rb aS
end
end
def del (H:Hp) (a:F'):Hp:=fun b=>if b=a then i' else H b
theorem uT:del H a a=i':=by unfold del;rw[UN rfl]
theorem kU (h:b≠a):del H a b=H b:=by unfold del;rw[UL h]
variable {CX:Xc}{I S d i1 i2 l1 l2 z:F'}{Q:Option L'→UM→Prop}{aH vs:List V}{aw np p Zi:VC}{cs:List F'}{ds us:List L'}{e l value:U3}{eQ:Array (Option L')}{ep k1 k2:Nat}{es:List U3}{fd:WV}{g:TG}{hs:List Qam}{kvs:List (Key×V)}{oc pm res:L'}{od:Option U6}{pl:V9 Bool}{ps:List C'}{sp:Sp}{st:UY}{t:V4}{ta tl:TE}
def cz (C t a:F') (dx:Option F'):HO:=.ext fun h=>h.get? a=f' {cls:=.ref C,dict:=dx,data:=.fields #[.ref t,.none,.none,.none,.bool K',.none]}
theorem Inv.del {a:F'}{φ:Vb→Prop} (I:Inv X aa σ H s) (e:H a=f' (.ext φ)):Inv X aa σ (del H a) s:=by
 have ne:∀ b u,H b=f' u→(∀ ψ,u≠.ext ψ)→b≠a:=fun b u q n z=>by rw[z,e] at q;cases q;exact n _ rfl
 have un:Un X.fs X.ex X.H₀ (L2.del H a) X.s₀.heap s.heap:=by
  obtain⟨b1,b2,b3,b4,b5,b6,b7⟩:=I.base
  refine⟨b1,b2,fun b o q n x=>?_,b4,fun b xs q=>?_,fun b o u q=>?_,fun b pp pq q=>?_⟩
  .unfold L2.del;split
   .rfl
   .exact b3 b o q n x
  .have:=b5 b xs q
   rw[kU (ne b _ this (by intro ψ z;cases z))];exact this
  .have:=b6 b o u q
   rw[kU (ne b _ this (by intro ψ z;cases z))];exact this
  .have:=b7 b pp pq q
   rw[kU (ne b _ this (by intro ψ z;cases z))];exact this
 have none_of:∀ b,H b=i'→L2.del H a b=i':=fun b q=>by unfold L2.del;split<;>first|rfl|exact q
 refine {I with base:=un,free:=none_of _ I.free,V6:=fun x c q=>none_of _ (I.V6 x c q),pin:=fun p hp=>?_,UP:=fun b o q=>?_}
 .obtain⟨p1,p2,p3⟩:=I.pin p hp
  exact⟨p1,none_of _ p2,p3⟩
 .by_cases hb:b=a
  .subst hb;rw[uT] at q;cases q
  .rw[kU hb] at q
   refine(I.UP b o q).WY (fun c u _ r=>r) (fun c r=>?_) (fun c xs r=>?_) fun c ob r=>?_
   .rw[kU (ne c _ r (by intro ψ z;cases z))];exact r
   .rw[kU (ne c _ r (by intro ψ z;cases z))];exact r
   .rw[kU (ne c _ r (by intro ψ z;cases z))];exact r
theorem EU {R:RK}{t:F'}{dx:Option F'}{Q:WM→UM→Prop} (hp:PX X R) (I:Inv X aa σ H s) (fp:cI X aa H a)
  (he:s.heap.get? a=f' {cls:=.ref C,dict:=dx,data:=.fields #[.ref t,.none,.none,.none,.bool K',.none]}) (hR:R σ (.ref C) dx H):M' (UJ X.prog X.w) X.A (raiseNew (.ref a):V9 WM) Q X.xe s:=by
 obtain⟨f0,f1,f2,f3,f4,f5⟩:=id fp
 refine um (s:=s) ?_ he O (by simp) fun h' o' iY k1 k2 k3 k4 k5 k6 k7 k8=>?_
 .rcases I.X2 with z|⟨b,cs,z,c⟩
  .exact .inl z
  .exact .inr ⟨b,cs,z,c.ZX I.UP,c.ZY f0⟩
 .have I':Inv X aa σ H {s with heap:=h'}:=I.turned (t':=s.toks) k1 f0 f1 f3 f4 f5
  refine hp aa σ H _ a (.ref C) dx i' I' ⟨fp,fun p q=>(by cases q),⟨⟨o',iY,k2,k3,k4,k5,k6,?_,?_⟩,fun p q=>(by cases q)⟩⟩ hR
  .rcases I.X2 with z|⟨b,cs,z,c⟩
   .rw[z] at k8
    exact⟨[],⟨SA,fun j a q=>by simp at q⟩,k8⟩
   .rw[z] at k8
    exact⟨b::cs,c,k8⟩
  .exact k7
structure XD (K:R') (C:F'):Prop where
 at_:si K C X7 "ValueError.__new__"=B'
 kp:W5 K (.ref C)=B'
 init:V0 K (.ref C) "__init__"=f' (f' (.builtin "ValueError.__init__"))
structure Z5 (K:R') (C f:F'):Prop where
 at_:si K C X7 "ValueError.__new__"=B'
 kp:W5 K (.ref C)=B'
 init:V0 K (.ref C) "__init__"=f' (f' (.ref f))
 fn:Yz K (.ref f)=B'
def P4 (C:F') (R:RK) (t:TA):TS:=fun _ σ H=>t σ H fun vs H1=>vs.length≤S'∧R σ (.ref C) i' H1
def uV (C:F') (sp:Sp) (aH:List V) (R:RK) (t:TA):TS:=fun _ σ H=>t σ H fun vs H1=>vs.length≤S'∧∀ a t',H1 a=i' →
 sp (.ref a::(vs++aH)) (upd H1 a (cz C t' a i')) (fun v H2=>v=.UU∧∃ dx,H2 a=f' (cz C t' a dx)∧R σ (.ref C) dx (del H2 a)) (R σ)
section
variable {R:RK}{t:TA}
theorem Fm {a:List U3}{Q:WM→UM→Prop} (hx:QbQ s.heap C X7 bm "ValueError.__new__")
  (h:M' (UJ X.prog X.w) X.A (U2 (.Call (.Name x np) a [] aw) X.env) (fun v s₁=>∃ b t dx,v=.ref b∧(∀ o,s.heap.get? C=f' o→s₁.heap.get? C=f' o)∧s₁.heap.get? b=f' {cls:=.ref C,dict:=dx,data:=.fields #[.ref t,.none,.none,.none,.bool K',.none]}∧M' (UJ X.prog X.w) X.A (raiseNew (.ref b):V9 WM) Q X.xe s₁) X.xe s) :
  M' (UJ X.prog X.w) X.A (exec (.Raise (f' (.Call (.Name x np) a [] aw)) i' pos) X.env) Q X.xe s:=by
 obtain⟨⟨nm,q,N,bs,hdct,sn,sub,ab,col,dd,k0,k1,k2,k3,k5,oC⟩,T⟩:=hx
 rw[Qgu]
 refine mK (SE (Nj (C:=C) (nm:=nm) (q:=q) (N:=N) (bs:=bs) (bm:=bm) (hdct:=hdct) (sn:=sn) (sub:=sub) (ab:=ab) (col:=col) (dd:=dd) (k0:=k0) (k1:=k1) (k2:=k2) (k3:=k3) (k5:=k5) (newId:="ValueError.__new__") (T.hasType O) (mK (RW h (fun v s1 z=>mK (SE (Rb ?_))) fun _ _ y=>y))))
 obtain⟨b,t,dx,z1,z2,z3,z4⟩:=z
 exact⟨b,t,dx,z1,z2 _ oC,z3,z4⟩
theorem M4 {s0:UM}{Q:WM→UM→Prop} (hp:PX X R) (c:XD X.K C) (I:Inv X aa σ H s) (hz:us.length≤S') (hs:∀ o,s0.heap.get? C=f' o→s.heap.get? C=f' o) (hR:R σ (.ref C) i' H) :
  M' (UJ X.prog X.w) X.A (call (.ref C) us) (fun v s₁=>∃ b t dx,v=.ref b∧(∀ o,s0.heap.get? C=f' o→s₁.heap.get? C=f' o)∧s₁.heap.get? b=f' {cls:=.ref C,dict:=dx,data:=.fields #[.ref t,.none,.none,.none,.bool K',.none]}∧M' (UJ X.prog X.w) X.A (raiseNew (.ref b):V9 WM) Q X.xe s₁) X.xe s:=by
 obtain⟨bm,⟨nm,q,N,bs,hdct,sn,sub,ab,col,dd,k0,k1,k2,k3,k5,oC⟩,T⟩:=kY I.Ve c.at_
 have I0:=I
 obtain⟨h,g,d,tk,os⟩:=s
 refine PZ QaV T oC (XI I.Ve c.init) hz fun h' k' e'=>?_
 have I':Inv X aa σ H ⟨h',g,d,tk,os⟩:=I0.kept (t':=tk) k'
 refine⟨_,_,i',O,fun o q=>k' _ _ (hs o q),e',EU hp I' ?_ e' hR⟩
 exact I0.WO (s:=⟨h,g,d,tk,os⟩) (RQ _) (I0.UP.fresh (RQ _))
theorem io (hp:PX X R) (c:XD X.K C) (hg:Gl X x) (hm:X.mg x=f' (.ref C)) (Vo:(x == ("__debug__":C'))=K':=by decide):PS X (.Raise (f' (.Call (.Name x np) [] [] aw)) i' pos) (P4 C R mj):=by
 intro aa s σ H D I h
 obtain⟨bm,xc⟩:=kY I.Ve c.at_
 refine Fm xc (RX (lq I hg hm ?_ Vo))
 exact Qcq I.Ve c.kp (M4 hp c I h.1 (fun _ q=>q) h.2)
variable {k:Nat}
theorem OC (hp:PX X R) (c:Z5 X.K C f) (F:cE X.prog X.w X.K X.mg X.base CX k f fd ps sp) (hr:bu (k+1) X.A) (hb:dR X.K fd ps ds) (hd:aA aH ds) (F9:∀ σ,lw CX X (R σ)) (hg:Gl X x) (hm:X.mg x=f' (.ref C)) (ha:PA X (e::es) t)
  (Vo:(x == ("__debug__":C'))=K':=by decide) (he:U1 (e::es) X.env=(K',U2 e X.env)::U1 es X.env:=by rfl) (bH:(Vx aw (U1 es X.env)).any (·.1)=K':=by rfl) :
  PS X (.Raise (f' (.Call (.Name x np) (e::es) [] aw)) i' pos) (uV C sp aH R t):=by
 intro aa s σ H D I h
 obtain⟨HR,xc⟩:=kY I.Ve c.at_
 refine Fm xc (RX (lq I hg hm ?_ Vo))
 refine Yv (h₀:=X.base) I.ok.mod.Xb c.kp (UV (ha aw aa s σ H _ I h) fun us s1 ⟨vs,H1,I1,r,z,q⟩=>⟨I1.Ve,?_⟩) he bH
 obtain⟨Hv,⟨GO,q2,N2,JX,qD,Gm,vZ,Hk,xx,vU,l0,l1,l2,l3,l5,qN⟩,_⟩:=kY I.ok.mod.Xb c.at_
 have C0:∀ o,s.heap.get? C=f' o→X.base.get? C=f' o:=fun o q=>by rw[I.bk _ _ qN] at q;rw[← q];exact qN
 obtain⟨bm,⟨nm,qn,N,bs,hdct,sn,sub,ab,col,dd,k0,k1,k2,k3,k5,oC⟩,T⟩:=kY I1.Ve c.at_
 have hU:(X.K.lookup f).map (·.cls)=f' (.type "function"):=Wo.mp c.fn
 obtain⟨oF,hF,hFc⟩:∃ oF,X.K.lookup f=f' oF∧oF.cls=.type "function":=by
  cases hk:X.K.lookup f with
  | none=>rw[hk] at hU;cases hU
  | some oF=>rw[hk] at hU;exact⟨oF,O,VL hU⟩
 have hz:us.length≤S':=by rw[← r.length];exact z
 have J:=I1
 obtain⟨aB,g,d,tk,os⟩:=s1
 refine yc QaV T oC (XI I1.Ve c.init) (I1.Ve _ _ hF) hFc hz ?_
 have kk:∀ b o,aB.get? b=f' o→((aB.push (ip us)).push (g6 C aB.objs.size)).get? b=f' o:=fun b o e=>Ra _ (Ra _ e)
 have oX:((aB.push (ip us)).push (g6 C aB.objs.size)).get? (aB.objs.size+1)=f' {cls:=.ref C,data:=.fields #[.ref aB.objs.size,.none,.none,.none,.bool K',.none]}:=by heap_get
 have fr:H1 (aB.objs.size+1)=i':=J.UP.fresh (RQ _)
 have I2:Inv X aa σ (upd H1 (aB.objs.size+1) (cz C aB.objs.size (aB.objs.size+1) i')) ⟨(aB.push (ip us)).push (g6 C aB.objs.size),g,d,tk,os⟩:=
  J.laid (t':=tk) kk (RQ _) ⟨oX,⟨_,oX⟩,fun h1 h2 p1 p2=>p2 _ p1⟩
 have q':=q (aB.objs.size+1) aB.objs.size fr
 have r2:aA (V.ref (aB.objs.size+1)::(vs++aH)) (UW (aB.objs.size+1)::(us++ds)):=.cons O (r.append hd)
 have hl:(UW (aB.objs.size+1)::us++ds).length=ps.length:=by
  have e:=r2.length
  rw[F.len _ _ _ _ q'] at e
  exact e.symm
 refine Ss (YA (F.run _ X.stack _ _ ⟨UW (aB.objs.size+1)::us,[]⟩ (UW (aB.objs.size+1)::(us++ds)) _ _ (R σ) (hr.make C us []) (I2.Zl.make C us []) (hb _ (UW (aB.objs.size+1)::us) I2.Ve hl) r2 q') fun rr s' cQ=>?_)
 cases rr with
 | error e=>exact F9 σ aa σ _ _ e s' I2 cQ
 | ok fl=>
  cases fl with
  | ret u=>
   obtain⟨v,H',I3,rv,ev,dx,e3,q3⟩:=I2.after cQ
   subst ev
   refine⟨rv,_,aB.objs.size,dx,O,fun o q=>I3.bk _ _ (C0 o q),(I3.UP _ _ e3).1,?_⟩
   refine EU hp (I3.del e3) ?_ (I3.UP _ _ e3).1 q3
   exact J.WO (s:=⟨aB,g,d,tk,os⟩) (RQ _) uT
  | next=>exact VR cQ
  | brk=>exact VR cQ
  | cont=>exact VR cQ
inductive QhT (K:R') (f:C') (D:eJ) (σ:St) (y:V) (x:V) (H2:Hp):Prop
 | mk (a C t:_) (_:x=.ref a) (_:H2 a=f' (cz C t a i')) (_:o0 K C f) (_:∀ dx,H2 dx=i'→D.nx σ (upd (upd H2 dx (.xd [(f,y)])) a (cz C t a (f' dx))))
def QhU (K:R') (ta tv:TE) (f:C'):TS:=fun D σ H=>tv σ H fun y H1=>ta σ H1 fun x H2=>QhT K f D σ y x H2
theorem uj {o:U3}{tv:TE}{f:C'} (ha:PE X o ta) (hv:PE X value tv) (hs:ZQ value (f' (.Attribute o f br)) pos.line X.env=pure K'):PS X (.Assign [.Attribute o f br] value pos) (QhU X.K ta tv f):=by
 intro aa s σ H D I h
 refine QeJ (UV (hv aa s σ H _ I h) fun v s1=>L2.U7 fun y H1 I1 ry q1=>UV (ha aa s1 σ H1 _ I1 q1) fun u s2=>L2.U7 fun x H2 I2 rx q2=>?_) hs
 obtain⟨a,C,t,rfl,e2,Z,q2⟩:=q2
 obtain rfl:u=UW a:=rx
 have oa:=(I2.UP _ _ e2).1
 refine Lw I2.Ve oa Z fun h' k1 k2 k3=>?_
 have dn:H2 s2.heap.objs.size=i':=I2.UP.fresh (Re _)
 have da:s2.heap.objs.size≠a:=(aq e2 dn).symm
 have old:∀ b o,s2.heap.get? b=f' o→b≠s2.heap.objs.size:=fun b o q=>Rj (Rc q)
 have na:∀ b u,H2 b=f' u→(∀ ψ,u≠.ext ψ)→b≠a:=fun b u q n z=>by rw[z,e2] at q;cases q;exact n _ rfl
 have nd:∀ b u,H2 b=f' u→b≠s2.heap.objs.size:=fun b u q=>aq q dn
 have aQ:∀ b u,H2 b=f' u→(∀ ψ,u≠.ext ψ)→upd (upd H2 s2.heap.objs.size (.xd [(f,y)])) a (cz C t a (f' s2.heap.objs.size)) b=f' u:=fun b u q n=>by rw[aj (na b u q n),aj (nd b u q)];exact q
 refine⟨σ,_,I2.un (t':=s2.toks+2) ⟨fun b o q n _ _=>k1 b o (fun z=>?_) q,fun b o q n _ _=>⟨o.slots,k1 b o (fun z=>?_) q⟩,fun b o q n _=>?_,fun b o q _=>?_,fun b xs q=>?_,fun b o u q=>?_,fun b pp pq q=>?_⟩ (fun b o q=>?_),q2 _ dn⟩
 .rw[z,e2] at n;cases n
 .rw[z,e2] at n;cases n
 .rw[aj (fun z=>by rw[z,e2] at n;cases n),aj (old b o q)];exact n
 .by_cases z:b=a
  .subst z;exact⟨_,k2⟩
  .exact⟨o,k1 b o z q⟩
 .exact aQ b _ q (by intro ψ z;cases z)
 .exact aQ b _ q (by intro ψ z;cases z)
 .exact aQ b _ q (by intro ψ z;cases z)
 .by_cases z:b=a
  .subst z
   rw[ag] at q;cases q
   exact⟨k2,⟨_,k2⟩,fun h1 h2 p1 p2=>p2 _ p1⟩
  .rw[aj z] at q
   by_cases z2:b=s2.heap.objs.size
   .subst z2
    rw[ag] at q;cases q
    refine⟨_,k3,fun g=>?_⟩
    by_cases hg:g=f
    .subst hg;simpa [ee] using ry
    .have e0:([(f,y)]:List (C'×V)).lookup g=i':=by rw[Sc,show(g == f)=K' from by simpa using hg];rfl
     rw[e0,UL hg];exact Wz
   .rw[aj z2] at q
    refine(I2.UP b o q).WY (fun c u hc r=>k1 c u ?_ r) (fun c r=>aQ c _ r (by intro ψ z;cases z)) (fun c xs r=>aQ c _ r (by intro ψ z;cases z)) fun c ob r=>aQ c _ r (by intro ψ z;cases z)
    rcases hc with hc|hc
    .rw[hc];exact z
    .exact na c _ hc (by intro ψ z;cases z)
end
section
open PySem.Builtin.ObjectAttr
structure Wg (K:R') (C:F'):Prop where
 ga:V0 K (.ref C) "__getattribute__"=f' (f' (.builtin "BaseException.__getattribute__"))
 gt:V0 K (.ref C) "__getattr__"=f' i'
 ba:Vn K C (.type "BaseException")=f' B'
 ob:Vn K C (.type "object")=f' B'
 cl:V0 K (.ref C) "__class__"=f' (f' (.builtin "object.__class__"))
 gs:Qct K (.builtin "object.__class__") "__get__"=f' (f' (.builtin "getset_descriptor.__get__"))
 tk:Qff K (.builtin "object.__class__")=f' B'
 hd:ZD K C=B'
theorem Op {K:R'} (Z:Wg K C):Qfg K C od "__class__"=f' (.bind (.builtin "getset_descriptor.__get__") (.builtin "object.__class__")):=by
 obtain⟨cd,hc,_⟩:=ZH Z.hd
 unfold Qfg
 rw[hc,S7,Z.cl,S7]
 dsimp only
 rw[Z.gs,S7]
 dsimp only
 rw[Z.tk,S7]
section
variable {K:R'}{x:F'}{ox:U6}
theorem Lf (Z:Wg K C) (X:K.In s.heap) (J:Yy s.heap x ox C od) (aS:Q (f' (.ref C)) {s with toks:=s.toks+1}):M' (UJ prog w) A (ZR (.ref x) "__class__") Q E s:=by
 have L1:=XI (M:=UJ prog w) X Z.ga
 have L2:=XI (M:=UJ prog w) X Z.gt
 have L3:=Qe4 (M:=UJ prog w) X J (Op Z)
 have L0:=J.type (M:=UJ prog w)
 have mq:Xq (UJ prog w) s.heap (YC (.ref x) (.type "BaseException")) B':=J.type.andThen (Qai X Z.ba)
 obtain⟨hp,g,d,t,os⟩:=s
 unfold ZR Qc0 Qbw
 refine mK (wpAny_mkText (mK (Sa (RI (mK (L0.at (mK (L1.at ?_))))))))
 show M' _ _ (if _ then _ else _) _ _ _
 rw[UL (by rw[show(Qbn "BaseException.__getattribute__" == Qbn "object.__getattribute__")=K' by decide +kernel,S1];decide)]
 unfold Qgj
 refine mK (L2.at (mK (Sa (RI ?_))))
 unfold Qgc
 rw[UL (by decide)]
 unfold Qgt
 have G:=QeD.ga
 refine mK ?_
 rw[G.bind]
 refine Rb (Ss (Zz G.plain QeX (@Qcr (UJ prog w) _ _ ⟨hp,g,d,t+1,os⟩ "BaseException.__getattribute__" "BaseException" "__getattribute__" (.ref x) [.str "__class__" t] [] _ (by decide +kernel) (by decide +kernel) mq (Qe1 (.ref x) (.str "__class__" t)) ?_)))
 refine mK (Rb (mK (Rb (mK (L0.at (mK (L3.at ?_)))))))
 refine mK (RI (Ss (PySem.W.class_get (s:=⟨hp,g,d,t+1,os⟩) (ox:=ox) (od:=od) X J Z.ob (Rb ?_))))
 show M' _ _ (handedOut (.ref C)) _ _ _
 exact Rb (Rb aS)
theorem Nu (Z:Wg K C):PySem.W.KitX K (.ref x) (.ref C) (fun h=>Yy h x ox C od) where
 ty:=fun _ _ _ I=>I.type
 it:=fun _ _ X _=>by
  obtain⟨cD,js,_⟩:=ZH Z.hd
  unfold Qbi at js
  split at js
  .rename_i c1 d1 e1 s1 Xd
   intro A' Q' E' s' k q
   unfold isType loadHead
   exact mK (TL (k _ _ (X _ _ Xd)) (Rb q))
  .cases js
 ne:=fun h tp dd ah n sl X Jt=>by
  obtain⟨cD,js,_⟩:=ZH Z.hd
  refine Bool.eq_false_iff.mpr fun q=>?_
  obtain rfl:C=tp:=UW.inj (Wo.mp q)
  unfold Qbi at js
  split at js
  .rename_i c1 d1 e1 s1 Xd
   have z:=(X _ _ Xd).symm.trans Jt
   cases z
  .cases js
 ca:=fun X I k=>Lf Z X I k
end
structure Vu (H:Hp) (a C:F') (dd:Option F'):Prop where
 at_:∃ o u,H a=f' (.UZ o u)∧o.cls=.ref C∧o.dict=dd∧∃ vs,o.data=.fields vs
theorem Vu.inst (I:Inv X aa σ H s) (x:Vu H a C i'):∃ o,Yy s.heap a o C i':=by
 obtain⟨o,u,h1,h2,h3,vs,h4⟩:=x.at_
 exact⟨o,(I.UP _ _ h1).1,h2,by unfold QcE;rw[h4],by rw[h3];exact Wz⟩
theorem Vu.QhV {fs:List (C'×V)} (I:Inv X aa σ H s) (x:Vu H a C (f' dx)) (hd:H dx=f' (.xd fs)):∃ o od,Yy s.heap a o C (f' od):=by
 obtain⟨o,u,h1,h2,h3,vs,h4⟩:=x.at_
 obtain⟨mA,n,_⟩:=I.UP _ _ hd
 obtain⟨od,kM,_⟩:=zu n
 exact⟨o,od,(I.UP _ _ h1).1,h2,by unfold QcE;rw[h4],by rw[h3];exact kM⟩
def Yq (H:Hp):Option F'→Prop
 | none=>True
 | some dx=>∃ fs,H dx=f' (.xd fs)
theorem Vu.any (I:Inv X aa σ H s) (x:Vu H a C dd) (hd:Yq H dd):∃ o od,Yy s.heap a o C od:=by
 cases dd with
 | none=>obtain⟨o,h⟩:=x.inst I;exact⟨o,i',h⟩
 | some dx=>obtain⟨fs,hd⟩:=hd;obtain⟨o,od,h⟩:=x.QhV I hd;exact⟨o,f' od,h⟩
theorem iu:fZ X (.builtin "isinstance") (fun xs H Q=>∃ a C dd vc c b,xs=[.ref a,vc]∧Vu H a C dd∧Yq H dd∧Wg X.K C∧(∀ u,aC vc u→u=c)∧UK X.K (.ref C) c=f' b∧Q (.bl b) H):=by
 intro aa s σ H xs us Q I r h
 obtain⟨a,C,dd,vc,c,b,rfl,x,hd,Z,hc,e,q⟩:=h
 obtain⟨u,u',rfl,rx,ry⟩:=nJ r
 obtain rfl:u=UW a:=rx
 obtain rfl:=hc u' ry
 obtain⟨o,od,J⟩:=x.any I hd
 exact Xh (Nu Z) I.Ve J e (fun z=>nomatch z) fun tk=>⟨.bl b,H,I.tok _,O,q⟩
inductive QhW (K:R') (f:C') (Q:VK) (x:V) (H1:Hp):Prop
 | mk (a C dx fs v:_) (_:x=.ref a) (_:Vu H1 a C (f' dx)) (_:H1 dx=f' (.xd fs)) (_:o9 K C f) (_:fs.lookup f=f' v) (_:Q v H1)
def Qdw (K:R') (ta:TE) (f:C'):TE:=fun σ H Q=>ta σ H fun x H1=>QhW K f Q x H1
theorem rM {f:C'} (he:PE X e ta) (hb:Yc e f X.env (U2 e X.env)=U2 e X.env):PE X (.Attribute e f pos) (Qdw X.K ta f):=by
 intro aa s σ H Q I h
 refine B4 hb (UV (he aa s σ H _ I h) fun u s1=>L2.U7 fun x H1 I1 rx aW=>?_)
 obtain⟨a,C,dx,fs,v,ex,ix,hd,Z,l,q⟩:=aW
 subst ex
 obtain rfl:u=UW a:=rx
 obtain⟨o,u',h1,h2,h3,hf⟩:=ix.at_
 obtain⟨mA,n,hm⟩:=I1.UP _ _ hd
 have r:=hm f
 rw[l] at r
 obtain⟨w',e',r'⟩:=r.some_of
 exact Qr I1.Ve (I1.UP _ _ h1).1 h2 hf h3 n Z e' (EC r') ⟨v,H1,I1.tok _,r',q⟩
end
abbrev Cx.tr (X:Cx) (pn:List (F'×U6)) (E:L'→UM→Prop):Cx:={X with pn:=pn,xe:=E}
abbrev Cx.hnd (X:Cx) (a:F') (H₀:Hp):Cx:={X with A:=X.A.mark (f' (.ref a)),H₀:=H₀,xe:=fun _ _=>False}
theorem bu.mark {k:Nat}{A:VX}{v:Option L'} (r:bu k A):bu k (A.mark v):=⟨r.dp,r.un⟩
def eN (H H₀:Hp):Hp:=fun b=>match H b with|some (.UZ o u)=>f' (.UZ o u)|_=>H₀ b
theorem yL {H₀:Hp}{u:HO} (e:H b=f' (.UZ o u)):eN H H₀ b=f' (.UZ o u):=by unfold eN;rw[e]
theorem uC {H₀:Hp} (n:∀ o u,H b≠f' (.UZ o u)):eN H H₀ b=H₀ b:=by
 unfold eN
 split
 .rename_i o u e;exact UX e (n o u)
 .rfl
theorem Inv.enter (hex:X.ex=[]) (I:Inv X aa σ H s) (x:X6 X aa H s.heap a c dd tb):∃ o,o.cls=c∧o.dict=dd∧(∃ vs,o.data=.fields vs)∧Inv (X.hnd a (eN (upd H a (.UZ o (.own a))) X.H₀)) aa σ (upd H a (.UZ o (.own a))) s:=by
 obtain⟨o,vs,h1,hc,cV,hd,hz,⟨cs,ch,h2⟩,oj⟩:=x.at_.ob
 obtain⟨f0,f1,f2,f3,f4,f5⟩:=x.fp
 have pL:X.s₀.heap.objs.size≤a:=by
  rcases f3 with z|z
  .rw[hex] at z;cases z
  .exact z
 refine⟨o,hc,cV,⟨vs,hd⟩,?_⟩
 have na:∀ b u,H b=f' u→b≠a:=fun b u q=>aq q f0
 have old:∀ b ob,X.s₀.heap.get? b=f' ob→b≠a:=fun b ob q=>Rj (Rw (Rc q) pL)
 have aQ:∀ b u,H b=f' u→upd H a (.UZ o (.own a)) b=f' u:=fun b u q=>by rw[aj (na b u q)];exact q
 have cc:∀ b,b≠a→H b=i'→upd H a (.UZ o (.own a)) b=i':=fun b z q=>by rw[aj z];exact q
 have lI:∀ b,b≠a→H b=i'→eN (upd H a (.UZ o (.own a))) X.H₀ b=X.H₀ b:=fun b z q=>uC fun o' u' q'=>by rw[cc b z q] at q';cases q'
 have K:=I.ok
 refine {I with ok:=?_,base:=?_,free:=cc _ (US f1) I.free,V6:=fun y cl q=>cc _ (f4 y cl q) (I.V6 y cl q),pin:=fun p hp=>?_,UP:=fun b u q=>?_}
 .refine {mod:=K.mod,kind:=K.kind,glob:=K.glob,blt:=K.blt,above:=K.above,inj:=K.inj,has:=K.has,YI:=K.YI,hd:=?_,frames:=K.frames,YJ:=K.YJ,ZW:=K.ZW,bs:=fun b ob q=>?_,Xm:=K.Xm,Ym:=K.Ym,YK:=K.YK,WH:=K.WH,Xz:=fun b hb=>?_}
  .refine .inr ⟨a,cs,O,XJ.mpr ⟨ch.ZY f0,ch.1⟩,fun j b hj=>?_⟩
   cases j with
   | zero=>
    obtain rfl:a=b:=by simpa using hj
    exact⟨o,.own a,vs,yL ag,hd,h2⟩
   | succ j=>
    have GB:cs[j]?=f' b:=by simpa using hj
    obtain⟨o',u',iY,q1,q2,q3⟩:=ch.2 j b GB
    exact⟨o',u',iY,yL (aQ _ _ q1),q2,q3⟩
  .obtain⟨q1,q2⟩:=K.bs b ob q
   obtain⟨_,q3⟩:=I.bs b ob q
   exact⟨q1,(lI b (old b ob q1) q3).trans q2⟩
  .have mG:b∈X.fs:=hb
   have:=K.Xz b mG
   have GZ:b≠a:=fun z=>f2 (z ▸ mG)
   have h3:H b=i':=I.Qaz b (by
    rcases K.YJ with z|⟨z,y⟩
    .rw[z];exact mG
    .rw[z];unfold VG;rw[S9,y];exact Rk _ mG)
   exact(lI b GZ h3).trans this
 .obtain⟨b1,b2,b3,b4,b5,b6,b7⟩:=I.base
  have cN:∀ b ob,X.s₀.heap.get? b=f' ob→eN (upd H a (.UZ o (.own a))) X.H₀ b=i'→X.H₀ b=i':=fun b ob q n=>by
   unfold eN at n
   split at n
   .cases n
   .exact n
  refine⟨fun b ob q n=>b1 b ob q (cN b ob q n),fun b ob q n=>b2 b ob q (cN b ob q n),fun b ob q n z=>cc b (old b ob q) (b3 b ob q (cN b ob q n) z),b4,fun b xs q=>?_,fun b ob u q=>?_,fun b pp pq q=>?_⟩
  .replace q:eN (upd H a (.UZ o (.own a))) X.H₀ b=_:=q
   unfold eN at q
   split at q
   .cases q
   .exact aQ _ _ (b5 b xs q)
  .replace q:eN (upd H a (.UZ o (.own a))) X.H₀ b=_:=q
   unfold eN at q
   split at q
   .rename_i e;rw[← q];exact e
   .exact aQ _ _ (b6 b ob u q)
  .replace q:eN (upd H a (.UZ o (.own a))) X.H₀ b=_:=q
   unfold eN at q
   split at q
   .cases q
   .exact aQ _ _ (b7 b pp pq q)
 .obtain⟨p1,p2,p3⟩:=I.pin p hp
  exact⟨p1,cc _ (f5 p hp) p2,p3⟩
 .by_cases z:b=a
  .subst z
   rw[ag] at q;cases q
   exact⟨h1,⟨_,h1⟩⟩
  .rw[aj z] at q
   exact(I.UP b u q).WY (fun c' u' _ r=>r) (fun c' r=>aQ _ _ r) (fun c' xs r=>aQ _ _ r) fun c' ob r=>aQ _ _ r
theorem Inv.leave {σ':St}{s':UM} (hex:X.ex=[]) (I:Inv X aa σ H s) (fp:cI X aa H a) (J:Inv (X.hnd a (eN (upd H a (.UZ o (.own a))) X.H₀)) aa σ' H' s'):Inv X aa σ' H' s':=by
 obtain⟨f0,f1,f2,f3,f4,f5⟩:=fp
 have pL:X.s₀.heap.objs.size≤a:=by
  rcases f3 with z|z
  .rw[hex] at z;cases z
  .exact z
 have na:∀ b u,H b=f' u→b≠a:=fun b u q=>aq q f0
 have old:∀ b ob,X.s₀.heap.get? b=f' ob→b≠a:=fun b ob q=>Rj (Rw (Rc q) pL)
 have e1:∀ b ob,X.s₀.heap.get? b=f' ob→X.H₀ b=i'→eN (upd H a (.UZ o (.own a))) X.H₀ b=i':=fun b ob q n=>by
  have hb:H b=i':=I.base.free b ob q n (by rw[hex];simp)
  rw[uC fun o' u' q'=>by rw[aj (old b ob q),hb] at q';cases q'];exact n
 obtain⟨b1,b2,b3,b4,b5,b6,b7⟩:=J.base
 refine {J with ok:=I.ok,base:=⟨fun b ob q n=>b1 b ob q (e1 b ob q n),fun b ob q n=>b2 b ob q (e1 b ob q n),fun b ob q n=>b3 b ob q (e1 b ob q n),b4,fun b xs q=>b5 b xs ?_,fun b ob u q=>b6 b ob u ?_,fun b pp pq q=>b7 b pp pq ?_⟩}
 .have h:=I.base.WZ b xs q
  show eN _ _ _=_
  rw[uC fun o' u' q'=>by rw[aj (na _ _ h),h] at q';cases q'];exact q
 .have h:=I.base.WC b ob u q
  exact yL (by rw[aj (na _ _ h)];exact h)
 .have h:=I.base.WN b pp pq q
  show eN _ _ _=_
  rw[uC fun o' u' q'=>by rw[aj (na _ _ h),h] at q';cases q'];exact q
theorem yC {Q:Bool→UM→Prop}{K:R'}{e:F'}{oe:U6}{b:Bool} (X:K.In s.heap) (he:s.heap.get? e=f' oe) (hc:oe.cls=.ref C) (hb:Vn K C (.ref D)=f' b)
  (hB:Vn K D (.type "BaseException")=f' B') (hT:Wk K (.ref D)=f' (.type "type")) (aS:Q b s):M' M A (excMatches (.ref e) (.ref D)) Q E s:=by
 have L1:=PySem.W.looks_typeIn (M:=M) X hT
 have L2:=Qai (M:=M) X hB
 have L3:=Qai (M:=M) X hb
 have L4:Xq M s.heap (isType (.ref D)) B':=by
  obtain⟨cd,h1,_⟩:=QeR.mp hB
  unfold Qbi at h1
  split at h1
  .rename_i c1 d1 e1 s1 Xd
   intro A' Q' E' s' k q
   unfold isType loadHead
   exact mK (TL (k _ _ (X _ _ Xd)) (Rb q))
  .cases h1
 have L5:Xq M s.heap (YC (.ref D) (.type "tuple")) K':=L1.andThen (Qod tc_notTuple)
 have L6:Xq M s.heap (typeOf (.ref e)) (.ref C):=(Qoe he).andThen (by rw[hc];exact .now)
 have L7:Xq M s.heap (isExcClass (.ref D)) B':=L4.andThen L2
 unfold excMatches
 refine mK (L5.here ?_)
 simp only[RV,VU]
 refine mK (Rb (mK ?_))
 simp only[SV,TM]
 refine mK (mK (L7.here ?_))
 simp only[QfS,RV,VU]
 refine Rb (Rb (mK (L6.here (mK (mK (mK (L3.here ?_)))))))
 cases b with
 | true=>
  simp only[WL]
  exact Rb (Rb (Rb aS))
 | false=>
  simp only[RV,VU]
  exact Rb (Rb (Rb aS))
theorem uF {n:C'}{Q:Unit→UM→Prop} (I:Inv X aa σ H s) (hN:X.N.Nodup) (hi:X.N[i]?=f' n) (hk:X.env.kindOf n=f' .local)
  (aS:∀ s',Inv X aa (σ.set i i') H s'→Q () s'):M' M A (do bindName X.env n .none;Qfs X.env n pos) Q E s:=by
 obtain⟨m,hn,hl⟩:=id I.loc
 have mZ:(X.env.scope.kind == .class || (X.env.scope.kind == .module && X.env.locals != X.env.globals))=K':=by rw[I.ok.kind];rfl
 obtain⟨oL,_,_,Bv,_⟩:=id hn
 refine wpAny_nameGoes_keeps hk hn mZ fun h' v vF hs=>aS _ ?_
 have lo:∀ b o,X.s₀.heap.get? b=f' o→b≠X.env.locals:=fun b o e=>Rj (Rw (Rc e) I.ok.above)
 refine {ok:=I.ok,os:=I.os,bare:=I.bare,base:=⟨fun b o e n hb hx=>(hs.2 b (lo b o e)).trans (I.base.keep b o e n hb hx),fun b o e n hb hx=>?_,I.base.free,fun b o e hx=>?_,I.base.WZ,I.base.WC,I.base.WN⟩,loc:=⟨_,vF,fun j y v' e1 e2 e3=>?_⟩,cell:=fun y c e=>?_,free:=I.free,V6:=I.V6,pin:=fun p hp=>?_,UP:=fun b ob e=>?_,len:=by simpa using I.len}
 .obtain⟨sl,e1⟩:=I.base.slot b o e n hb hx
  exact⟨sl,(hs.2 b (lo b o e)).trans e1⟩
 .obtain⟨o',e1⟩:=I.base.there b o e hx
  exact⟨o',(hs.2 b (lo b o e)).trans e1⟩
 .have hj:j≠i:=fun z=>by
   subst z
   have sY:j<σ.length:=by rw[I.len];exact(VJ.mp hi).1
   rw[Tl sY] at e2
   cases e2
  rw[Ts (US hj)] at e2
  obtain⟨u',r',q⟩:=hl j y v' e1 e2 e3
  refine⟨u',r',?_⟩
  rcases q with⟨k,e⟩|⟨k,c,e,z⟩
  .refine .inl ⟨k,?_⟩
   have:y≠n:=fun e=>hj (zB hN e1 (e ▸ hi))
   simp[this,e]
  .exact .inr ⟨k,c,e,z.sameBut hs (I.X3 y c e)⟩
 .obtain⟨w',z⟩:=I.cell y c e
  exact⟨w',z.sameBut hs (I.X3 y c e)⟩
 .obtain⟨e,n,ne,nf,d⟩:=I.pin p hp
  exact⟨(hs.2 p.1 ne).trans e,n,ne,nf,d⟩
 .refine(I.UP b ob e).WY (fun c w' hc q=>(hs.2 c ?_).trans q) (fun _ q=>q) fun _ _ q=>q
  rintro rfl
  rcases hc with hc|hc
  .rw[← hc,I.free] at e;cases e
  .rw[I.free] at hc;cases hc
abbrev YO:=F'×Option Nat×TS
def eJ.as (D:eJ) (i:Nat):eJ:=⟨fun σ H=>D.nx (σ.set i i') H,D.rt,fun σ H=>D.bk (σ.set i i') H,fun σ H=>D.ct (σ.set i i') H⟩
def ph (K:R'):List YO→eJ→RK
 | [],_,_,_,_,_=>False
 | (D,i,t)::r,En,σ,c,dd,H=>∃ C b,c=.ref C∧Vn K C (.ref D)=f' b∧if b=B' then ∀ a o,H a=i'→o.cls=c→o.dict=dd→(∃ vs,o.data=.fields vs) →
   (match i with|none=>t En σ (upd H a (.UZ o (.own a)))|some i=>t (En.as i) (σ.set i (f' (.ref a))) (upd H a (.UZ o (.own a)))) else ph K r En σ c dd H
inductive Wr (X:Cx):List Qam→List YO→Prop where
 | nil:Wr X [] []
 | one {x:C'}{np pos:VC}{b₀:UY}{su:List UY}{D:F'}{t:TS}{hs:List Qam}{ts:List YO} (hg:Gl X x) (hm:X.mg x=f' (.ref D)) (hB:Vn X.K D (.type "BaseException")=f' B') (hT:Wk X.K (.ref D)=f' (.type "type"))
   (Vo:(x == ("__debug__":C'))=K') (hb:∀ a H₀,VY (X.hnd a H₀) (b₀::su) t) (r:Wr X hs ts):Wr X (.ExceptHandler (f' (.Name x np)) i' (b₀::su) pos::hs) ((D,i',t)::ts)
 | Yr {x n:C'}{i:Nat}{np pos:VC}{b₀:UY}{su:List UY}{D:F'}{t:TS}{hs:List Qam}{ts:List YO} (hg:Gl X x) (hm:X.mg x=f' (.ref D)) (hB:Vn X.K D (.type "BaseException")=f' B') (hT:Wk X.K (.ref D)=f' (.type "type"))
   (Vo:(x == ("__debug__":C'))=K') (hN:X.N.Nodup) (hi:X.N[i]?=f' n) (hk:X.env.kindOf n=f' .local) (hb:∀ a H₀,VY (X.hnd a H₀) (b₀::su) t) (r:Wr X hs ts):Wr X (.ExceptHandler (f' (.Name x np)) (f' n) (b₀::su) pos::hs) ((D,f' i,t)::ts)
theorem xH {Q:L'→UM→Prop} (I:Inv X aa σ H s) (hg:Gl X x) (hm:X.mg x=f' u) (h:Q u s)
  (hd:(x == ("__debug__":C'))=K'):M' (UJ X.prog X.w) A (U2 (.Name x pos) X.env) Q E s:=
 Qcj I.ok.kind hg (QeY (by rw[I.ok.glob];exact I.mod.glob.keeps I.bk) hm h) hd
theorem SP.leave {aa:List (F'×U6)}{σ:St}{H:Hp}{s s':UM}{a:F'}{o:U6}{D:eJ}{f:WM} (hex:X.ex=[]) (I:Inv X aa σ H s) (fp:cI X aa H a) (h:SP (X.hnd a (eN (upd H a (.UZ o (.own a))) X.H₀)) aa D f s'):SP X aa D f s':=by
 cases f with
 | next=>obtain⟨σ',H',J,q⟩:=h;exact⟨σ',H',I.leave hex fp J,q⟩
 | brk=>obtain⟨σ',H',J,q⟩:=h;exact⟨σ',H',I.leave hex fp J,q⟩
 | cont=>obtain⟨σ',H',J,q⟩:=h;exact⟨σ',H',I.leave hex fp J,q⟩
 | ret u=>obtain⟨v,σ',H',J,q⟩:=h;exact⟨v,σ',H',I.leave hex fp J,q⟩
theorem SP.Yr {A:VX}{E:L'→UM→Prop}{aa:List (F'×U6)}{s:UM}{i:Nat}{n:C'}{pos:VC}{D:eJ}{f:WM} (hN:X.N.Nodup) (hi:X.N[i]?=f' n) (hk:X.env.kindOf n=f' .local) (h:SP X aa (D.as i) f s) :
  M' (UJ X.prog X.w) A (do bindName X.env n .none;Qfs X.env n pos) (fun _ s'=>SP X aa D f s') E s:=by
 cases f with
 | next=>obtain⟨σ',H',J,q⟩:=h;exact uF J hN hi hk fun s' J'=>⟨_,H',J',q⟩
 | brk=>obtain⟨σ',H',J,q⟩:=h;exact uF J hN hi hk fun s' J'=>⟨_,H',J',q⟩
 | cont=>obtain⟨σ',H',J,q⟩:=h;exact uF J hN hi hk fun s' J'=>⟨_,H',J',q⟩
 | ret u=>obtain⟨v,σ',H',J,q⟩:=h;exact uF J hN hi hk fun s' J'=>⟨v,_,H',J',q⟩
theorem LZ {ts:List YO} (hex:X.ex=[]) (P:Wr X hs ts):∀ {aa:List (F'×U6)}{σ:St}{H:Hp}{s:UM}{a:F'}{c:L'}{dd:Option F'}{T:F'}{D:eJ},Inv X aa σ H s→X6 X aa H s.heap a c dd (f' (T,.none))→ph X.K ts D σ c dd H →
  M' (UJ X.prog X.w) X.A (handleBy (.ref a) X.env hs) (SP X aa D) X.xe s:=by
 induction P with
 | nil=>intro aa σ H s a c dd T D I x h;exact h.elim
 | @one x np pos b₀ su Dc t hs ts hg hm hB hT Vo hb r ih=>
  intro aa σ H s a c dd T D I x h
  obtain⟨C,b,rfl,jx,h⟩:=h
  obtain⟨o,vs,h1,hc,_⟩:=x.at_.ob
  refine TH (Qcs (xH I hg hm (yC I.Ve h1 hc jx hB hT ?_) Vo)) (by intro q;cases q)
  cases b with
  | false=>exact ih I x (by simpa using h)
  | true=>
   refine Qfl (I.land x fun s1 I1 x1=>?_)
   obtain⟨o1,g1,g2,g3,J⟩:=I1.enter hex x1
   rw[UN rfl] at h
   refine RW (hb a _ aa s1 σ _ D J (h a o1 x1.fp.1 g1 g2 g3)) (fun f s2 z=>z.leave hex I1 x1.fp) fun _ _ z=>z.elim
 | @Yr x n i np pos b₀ su Dc t hs ts hg hm hB hT Vo hN hi hk hb r ih=>
  intro aa σ H s a c dd T D I x h
  obtain⟨C,b,rfl,jx,h⟩:=h
  obtain⟨o,vs,h1,hc,_⟩:=x.at_.ob
  refine TH (Qcs (xH I hg hm (yC I.Ve h1 hc jx hB hT ?_) Vo)) (by intro q;cases q)
  cases b with
  | false=>exact ih I x (by simpa using h)
  | true=>
   refine codeAny_handlers_suite_as (I.land x fun s1 I1 x1=>?_)
   obtain⟨o1,g1,g2,g3,J⟩:=I1.enter hex x1
   rw[UN rfl] at h
   refine ym (X:=X.hnd a _) J hN hi (.inl hk) (v:=.ref a) O (fun s2 J2=>?_) (.inr hk)
   exact RW (hb a _ aa s2 _ _ (D.as i) J2 (h a o1 x1.fp.1 g1 g2 g3)) (fun f s3 z=>(z.leave hex I1 x1.fp).Yr hN hi hk) fun _ _ z=>z.elim
def Qdx (K:R') (ts:List YO) (tb:RK→TS) (te:TS):TS:=fun D σ H=>tb (ph K ts D) {D with nx:=fun σ H=>te D σ H} σ H
theorem sB {body dE:List UY}{h₀:Qam}{ts:List YO}{tb:RK→TS}{te:TS} (B:Body X) (hex:X.ex=[]) (P:Wr X (h₀::hs) ts)
  (hb:∀ (pn:List (F'×U6)) (E:L'→UM→Prop) (R:RK),PX (X.tr pn E) R→Qat (UJ X.prog X.w) X.A X.env E→VY (X.tr pn E) body (tb R)) (he:VY X dE te):PS X (.Try body (h₀::hs) dE [] pos) (Qdx X.K ts tb te):=by
 intro aa s σ H D I h
 refine Qf8 ?_
 have to:∀ {aX σ' H' s'},Inv X aa σ' H' s'→Inv (X.tr (X.pn++aa) aX) [] σ' H' s':=fun {aX σ' H' s'} J=>{J with pin:=fun p hp=>J.pin p (by simpa using hp),ok:={J.ok with} }
 have jv:∀ {E' aX σ' H' s'},Inv (X.tr (X.pn++aa) E') aX σ' H' s'→Inv X aa σ' H' s':=fun {E' aX σ' H' s'} J=>{J with pin:=fun p hp=>J.pin p (RF _ hp),ok:={J.ok with} }
 refine RW (hb (X.pn++aa) (fun e s₁=>M' (UJ X.prog X.w) X.A (Qar e X.env) (fun _ s₂=>M' (UJ X.prog X.w) X.A (Qbu e i') (fun _ s₃=>M' (UJ X.prog X.w) X.A (handleBy e X.env (h₀::hs)) (SP X aa D) X.xe s₃) X.xe s₂) X.xe s₁)
  (ph X.K ts D) ?_ Qe3 [] s σ H _ (to I) h) (fun f s1 z=>?_) fun _ _ z=>z
 .intro aX σ' H' s' a c dd tb J x hR
  have J':=jv J
  have x':X6 X aa H' s'.heap a c dd (tb.map fun T=>(T,Vq)):=⟨⟨x.fp.1,x.fp.2.1,x.fp.2.2.1,x.fp.2.2.2.1,x.fp.2.2.2.2.1,fun p hp=>x.fp.2.2.2.2.2 p (RF _ hp)⟩,fun p q=>by
   have y:=x.Xn p q
   exact⟨y.1,y.2.1,y.2.2.1,y.2.2.2.1,y.2.2.2.2.1,fun p hp=>y.2.2.2.2.2 p (RF _ hp)⟩,x.at_⟩
  refine J'.note B x' xZ fun s2 T I2 x2=>?_
  exact I2.land x2 fun s3 I3 x3=>LZ hex P I3 x3 hR
 .cases f with
  | next=>obtain⟨σ',H',J,q⟩:=z;exact he aa s1 σ' H' D (jv J) q
  | brk=>obtain⟨σ',H',J,q⟩:=z;exact⟨σ',H',jv J,q⟩
  | cont=>obtain⟨σ',H',J,q⟩:=z;exact⟨σ',H',jv J,q⟩
  | ret u=>obtain⟨v,σ',H',J,q⟩:=z;exact⟨v,σ',H',jv J,q⟩
structure gk (K:R') (x qual:C') (st:UY) (f:F') (fd:WV):Prop where
 ex:∃ (oc:L') (od:Option F') (dV kV cf pm:L') (an:Option F') (ay ct:L') (eQ:Array (Option L')),
  fd=Yd x qual (nP st) (kW st) (az st) dV kV cf pm an ay ct∧K.lookup f=f' ⟨oc,od,.func fd,eQ⟩∧XM K ay qual=B'
theorem py {K:R'}{od an:Option F'}{dV kV cf ay ct:L'} (l:K.lookup f=f' ⟨oc,od,.func (Yd x qual (nP st) (kW st) (az st) dV kV cf pm an ay ct),eQ⟩)
  (c:XM K ay qual=B'):gk K x qual st f (Yd x qual (nP st) (kW st) (az st) dV kV cf pm an ay ct):=⟨⟨oc,od,dV,kV,cf,pm,an,ay,ct,eQ,O,l,c⟩⟩
section
variable {K:R'}
theorem gk.ok {k:Nat} (F:gk K x qual st f fd) (S:aJ N ps (az st)) (len:∀ vs H Q E,sp vs H Q E→vs.length=ps.length)
  (fG:∀ (ay:L') (A:VX) (outer:List V5) (s:UM) (H:Hp) (vs:List V) (Q:VK) (E:XK),bu k (A.deeper (XY qual (az st) s.heap.objs.size f ay))→sp vs H Q E →
   ∃ t,VY (ka Vd P w K mg base N qual (az st) f ay A outer s H E).nox (kW st) t∧t {nx:=fun _ H'=>Q .UU H',rt:=Q} (start N vs) H):cE P w K mg base Vd (k+1) f fd ps sp:=by
 obtain⟨oc,od,dV,kV,cf,pm,an,ay,ct,eQ,rfl,lk,ic⟩:=F.ex
 refine Qdm lk ic S len fun A outer s H vs Q E hr jV=>?_
 obtain⟨t,h,q⟩:=fG ay A outer s H vs Q E hr jV
 exact⟨t,h.nox,q⟩
theorem gk.VZ {k:Nat} (F:gk K x qual st f fd) (S:aJ N ps (az st)) (len:∀ vs H Q E,sp vs H Q E→vs.length=ps.length)
  (fG:∀ (ay:L') (A:VX) (outer:List V5) (s:UM) (H:Hp) (vs:List V) (Q:VK) (E:XK),bu k (A.deeper (XY qual (az st) s.heap.objs.size f ay))→sp vs H Q E →
   ∃ t,VY (ka (Vt P w) P w K mg base N qual (az st) f ay A outer s H E) (kW st) t∧t {nx:=fun _ H'=>Q .UU H',rt:=Q} (start N vs) H):cE P w K mg base (Vt P w) (k+1) f fd ps sp:=by
 obtain⟨oc,od,dV,kV,cf,pm,an,ay,ct,eQ,rfl,lk,ic⟩:=F.ex
 exact Qdm lk ic S len fun A outer s H vs Q E hr jV=>fG ay A outer s H vs Q E hr jV
end
structure Def (K:R') (mg:C'→Option L') (x:C') (st:UY) (ps:List C') (aH:List V):Prop where
 ex:∃ f fd ds,gk K x x st f fd∧mg x=f' (.ref f)∧W5 K (.ref f)=B'∧dR K fd ps ds∧aA aH ds
structure Met (K:R') (C:F') (m qual:C') (st:UY) (ps:List C') (aH:List V):Prop where
 ex:∃ f fd ds,gk K m qual st f fd∧Z3 K C m f∧dR K fd ps ds∧aA aH ds
structure YQ (K:R') (mg:C'→Option L') (C:F') (x qual:C') (st:UY) (ps:List C'):Prop where
 ex:∃ f fd,gk K "__init__" qual st f fd∧Mk K C f∧mg x=f' (.ref C)∧dR K fd ps []
structure nO (K:R') (mg:C'→Option L') (C:F') (x qual:C') (st:UY) (ps:List C'):Prop where
 ex:∃ f fd,gk K "__init__" qual st f fd∧Z5 K C f∧mg x=f' (.ref C)∧dR K fd ps []
structure Vj (P:Vv) (w:VA) (K:R') (mg:C'→Option L') (base:Vb) (CX:Xc) (k:Nat) (x:C') (ps:List C') (aH:List V) (sp:Sp):Prop where
 ex:∃ f fd ds,cE P w K mg base CX k f fd ps sp∧mg x=f' (.ref f)∧W5 K (.ref f)=B'∧dR K fd ps ds∧aA aH ds
structure dI (P:Vv) (w:VA) (K:R') (mg:C'→Option L') (base:Vb) (CX:Xc) (k:Nat) (C:F') (m:C') (ps:List C') (aH:List V) (sp:Sp):Prop where
 ex:∃ f fd ds,cE P w K mg base CX k f fd ps sp∧Z3 K C m f∧dR K fd ps ds∧aA aH ds
structure nN (P:Vv) (w:VA) (K:R') (mg:C'→Option L') (base:Vb) (CX:Xc) (k:Nat) (C:F') (x:C') (ps:List C') (sp:Sp):Prop where
 ex:∃ f fd,cE P w K mg base CX k f fd ps sp∧Mk K C f∧mg x=f' (.ref C)∧dR K fd ps []
structure lW (P:Vv) (w:VA) (K:R') (mg:C'→Option L') (base:Vb) (CX:Xc) (k:Nat) (C:F') (x:C') (ps:List C') (sp:Sp):Prop where
 ex:∃ f fd,cE P w K mg base CX k f fd ps sp∧Z5 K C f∧mg x=f' (.ref C)∧dR K fd ps []
section
variable {K:R'}{k:Nat}{m:C'}
theorem Def.U8 (D:Def K mg x st ps aH) (h:∀ f fd,gk K x x st f fd→cE P w K mg base CX k f fd ps sp):Vj P w K mg base CX k x ps aH sp:=
 let ⟨f,fd,ds,F,r⟩:=D.ex;⟨f,fd,ds,h f fd F,r⟩
theorem Met.U8 (D:Met K C m qual st ps aH) (h:∀ f fd,gk K m qual st f fd→cE P w K mg base CX k f fd ps sp):dI P w K mg base CX k C m ps aH sp:=
 let ⟨f,fd,ds,F,r⟩:=D.ex;⟨f,fd,ds,h f fd F,r⟩
theorem YQ.U8 (D:YQ K mg C x qual st ps) (h:∀ f fd,gk K "__init__" qual st f fd→cE P w K mg base CX k f fd ps sp):nN P w K mg base CX k C x ps sp:=
 let ⟨f,fd,F,r⟩:=D.ex;⟨f,fd,h f fd F,r⟩
theorem nO.U8 (D:nO K mg C x qual st ps) (h:∀ f fd,gk K "__init__" qual st f fd→cE P w K mg base CX k f fd ps sp):lW P w K mg base CX k C x ps sp:=
 let ⟨f,fd,F,r⟩:=D.ex;⟨f,fd,h f fd F,r⟩
end
def CS (sp:Sp) (aH:List V) (R:RK) (t:TA):TE:=fun σ H Q=>t σ H fun vs H1=>sp (vs++aH) H1 Q (R σ)
inductive KQ (C:F') (m:C') (sp:Sp) (aH:List V) (R:RK) (t:TA) (σ:St) (Q:VK) (x:V) (H1:Hp):Prop
 | mk (a dx fs:_) (_:x=.ref a) (_:H1 a=f' (.ins C dx fs)) (_:fs.lookup m=i') (_:t σ H1 fun vs H2=>sp (x::(vs++aH)) H2 Q (R σ))
def QhX (C:F') (m:C') (sp:Sp) (aH:List V) (R:RK) (ta:TE) (t:TA):TE:=fun σ H Q=>ta σ H fun x H1=>KQ C m sp aH R t σ Q x H1
section
variable {k:Nat}{R:RK}{m:C'}{aI:VC}{o:U3}{t:TA}
theorem EI {Q:VK} (F:cE X.prog X.w X.K X.mg X.base (Vt X.prog X.w) k f fd ps sp) (hp:PX X R) (hr:bu k X.A)
  (hb:dR X.K fd ps ds) (hd:aA aH ds) (I:Inv X aa σ H s) (r:aA vs us) (h:sp (vs++aH) H Q (R σ)):M' (UJ X.prog X.w) X.A (call (.ref f) us) (EP X aa σ Q) X.xe s:=by
 have r2:aA (vs++aH) (us++ds):=r.append hd
 have hl:(us++ds).length=ps.length:=by rw[← r2.length];exact F.len _ _ _ _ h
 refine Ss (YA (F.run X.A X.stack s H ⟨us,[]⟩ (us++ds) (vs++aH) Q (R σ) hr I.Zl (hb s us I.Ve hl) r2 h) fun r s' hq=>?_)
 cases r with
 | error e=>exact NM hp aa σ H s e s' I hq
 | ok fl=>cases fl<;>first | exact I.after hq | exact VR hq
theorem bB (c:Vj X.prog X.w X.K X.mg X.base Vd k x ps aH sp) (hr:bu k X.A) (hg:Gl X x) (ha:PA X (e::es) t) (Vo:(x == ("__debug__":C'))=K':=by decide)
  (he:U1 (e::es) X.env=(K',U2 e X.env)::U1 es X.env:=by rfl) (bH:(Vx pos (U1 es X.env)).any (·.1)=K':=by rfl):PE X (.Call (.Name x p) (e::es) [] pos) (Qdl sp aH E0 t):=by
 obtain⟨f,fd,ds,F,hm,hk,hb,hd⟩:=c.ex
 exact Oo F hr hg hm hk hb hd rZ ha Vo he bH
theorem ff (c:Vj X.prog X.w X.K X.mg X.base (Vt X.prog X.w) k x ps aH sp) (hp:PX X R) (hr:bu k X.A) (hg:Gl X x) (ha:PA X (e::es) t) (Vo:(x == ("__debug__":C'))=K':=by decide)
  (he:U1 (e::es) X.env=(K',U2 e X.env)::U1 es X.env:=by rfl) (bH:(Vx pos (U1 es X.env)).any (·.1)=K':=by rfl):PE X (.Call (.Name x p) (e::es) [] pos) (CS sp aH R t):=by
 obtain⟨f,fd,ds,F,hm,hk,hb,hd⟩:=c.ex
 intro aa s σ H Q I h
 refine RX (lq I hg hm ?_ Vo)
 refine Yv (h₀:=X.base) I.ok.mod.Xb hk (UV (ha pos aa s σ H _ I h) fun us s1=>L2.U7 fun vs H1 I1 r q=>⟨I1.Ve,?_⟩) he bH
 exact EI F hp hr hb hd I1 r q
theorem yO (he:PE X o ta) (cl:Wd X.K C) (c:dI X.prog X.w X.K X.mg X.base Vd k C m ps aH sp) (hr:bu k X.A) (ha:PA X (e::es) t)
  (dZ:U1 (e::es) X.env=(K',U2 e X.env)::U1 es X.env:=by rfl) (bH:(Vx pos (U1 es X.env)).any (·.1)=K':=by rfl)
  (ht:U2 (.Call (.Attribute o m aI) (e::es) [] pos) X.env=(do
   let ov ← U2 o X.env
   YE aI.atName
   let (f,first) ← Xv [ov] (Zc ov m pl)
   Qau pos f first (Vx pos (U1 (e::es) X.env)) (Xl pos (Xj [] X.env))):=by rfl) :
  PE X (.Call (.Attribute o m aI) (e::es) [] pos) (uq C m sp aH E0 ta t):=by
 obtain⟨f,fd,ds,F,hm,hb,hd⟩:=c.ex
 exact Nb (pl:=pl) he cl hm F hr hb hd rZ ha dZ bH ht
theorem jj (he:PE X o ta) (cl:Wd X.K C) (c:dI X.prog X.w X.K X.mg X.base Vd k C m ps aH sp) (hr:bu k X.A)
  (ht:U2 (.Call (.Attribute o m aI) [] [] pos) X.env=(do
   let ov ← U2 o X.env
   YE aI.atName
   let (f,first) ← Xv [ov] (Zc ov m pl)
   Qau pos f first (Vx pos (U1 [] X.env)) (Xl pos (Xj [] X.env))):=by rfl) :
  PE X (.Call (.Attribute o m aI) [] [] pos) (uq C m sp aH E0 ta mj):=by
 obtain⟨f,fd,ds,F,hm,hb,hd⟩:=c.ex
 exact No (pl:=pl) he cl hm F hr hb hd rZ ht
theorem eu (he:PE X o ta) (cl:Wd X.K C) (c:dI X.prog X.w X.K X.mg X.base (Vt X.prog X.w) k C m ps aH sp) (hp:PX X R) (hr:bu k X.A) (ha:PA X (e::es) t)
  (dZ:U1 (e::es) X.env=(K',U2 e X.env)::U1 es X.env:=by rfl) (bH:(Vx pos (U1 es X.env)).any (·.1)=K':=by rfl)
  (ht:U2 (.Call (.Attribute o m aI) (e::es) [] pos) X.env=(do
   let ov ← U2 o X.env
   YE aI.atName
   let (f,first) ← Xv [ov] (Zc ov m pl)
   Qau pos f first (Vx pos (U1 (e::es) X.env)) (Xl pos (Xj [] X.env))):=by rfl) :
  PE X (.Call (.Attribute o m aI) (e::es) [] pos) (QhX C m sp aH R ta t):=by
 obtain⟨f,fd,ds,F,hm,hb,hd⟩:=c.ex
 intro aa s σ H Q I h
 refine Qcn (pl:=pl) (UV (he aa s σ H _ I h) fun u s1=>L2.U7 fun x H1 I1 rx aW=>?_) ht
 obtain⟨a,dx,fs,ex,ea,l,q⟩:=aW
 subst ex
 obtain rfl:u=UW a:=rx
 refine yA I1 ea cl hm l ?_
 refine Yv (first:=[.ref a]) (h₀:=X.base) I.ok.mod.Xb hm.kp (UV (ha pos aa s1 σ H1 _ I1 q) fun us s2=>L2.U7 fun vs H2 I2 r q2=>⟨I2.Ve,?_⟩) dZ bH
 exact EI (us:=.ref a::us) (vs:=.ref a::vs) F hp hr hb hd I2 (.cons O r) q2
theorem DU (c:nN X.prog X.w X.K X.mg X.base Vd k C x ps sp) (hr:bu (k+1) X.A) (hg:Gl X x) (ha:PA X (e::es) t) (Vo:(x == ("__debug__":C'))=K':=by decide)
  (he:U1 (e::es) X.env=(K',U2 e X.env)::U1 es X.env:=by rfl) (bH:(Vx pos (U1 es X.env)).any (·.1)=K':=by rfl):PE X (.Call (.Name x p) (e::es) [] pos) (t6 C sp [] E0 t):=by
 obtain⟨f,fd,F,M,hm,hb⟩:=c.ex
 exact Pq M F hr hg hm hb .nil rZ ha Vo he bH
theorem tN (c:nN X.prog X.w X.K X.mg X.base Vd k C x ps sp) (hr:bu (k+1) X.A) (hg:Gl X x) (Vo:(x == ("__debug__":C'))=K':=by decide):PE X (.Call (.Name x p) [] [] pos) (t6 C sp [] E0 mj):=by
 obtain⟨f,fd,F,M,hm,hb⟩:=c.ex
 exact KM M F hr hg hm hb .nil rZ Vo
theorem j7 (hp:PX X R) (c:lW X.prog X.w X.K X.mg X.base Vd k C x ps sp) (hr:bu (k+1) X.A) (hg:Gl X x) (ha:PA X (e::es) t)
  (Vo:(x == ("__debug__":C'))=K':=by decide) (he:U1 (e::es) X.env=(K',U2 e X.env)::U1 es X.env:=by rfl) (bH:(Vx aw (U1 es X.env)).any (·.1)=K':=by rfl) :
  PS X (.Raise (f' (.Call (.Name x np) (e::es) [] aw)) i' pos) (uV C sp [] R t):=by
 obtain⟨f,fd,F,c',hm,hb⟩:=c.ex
 exact OC hp c' F hr hb .nil (fun _ _ _ _ _ _ _ _ z=>z.elim) hg hm ha Vo he bH
theorem gb {i:Int} (hg:Gl X x) (hm:∃ t,X.mg x=f' (.int i t)) (hd:(x == ("__debug__":C'))=K':=by decide):PE X (.Name x pos) (tC (.int i)):=let ⟨t,h⟩:=hm;zP hg h ⟨t,O⟩ hd
theorem E4 {i:C'} (hg:Gl X x) (hm:∃ t,X.mg x=f' (.str i t)) (hd:(x == ("__debug__":C'))=K':=by decide):PE X (.Name x pos) (tC (.str i)):=let ⟨t,h⟩:=hm;zP hg h ⟨t,O⟩ hd
theorem tK {n:String} (hg:Gl X x) (hm:X.mg x=i') (hv:Wb x=f' (.type n)) (hn:x≠"__name__":=by decide) (hd:(x == ("__debug__":C'))=K':=by decide):PE X (.Name x pos) (tC (.ty n)):=Mb hg hm hv O hn hd
end
def VQ (A:VX) (cs:List F'):Prop:=(A.handled=i'∧cs=[])∨∃ a r,cs=a::r∧A.handled=f' (.ref a)
theorem Hd.chain (x:Hd A h):∃ cs,VQ A cs∧Vi h cs:=by
 rcases x with e|⟨a,cs,e,c⟩
 .exact⟨[],.inl ⟨e,O⟩,SA,fun j a z=>by simp at z⟩
 .exact⟨a::cs,.inr ⟨a,cs,O,e⟩,c⟩
theorem VQ.hd (x:VQ A cs) (c:Vi h cs):Hd A h:=by
 rcases x with⟨e,rfl⟩|⟨a,r,rfl,e⟩
 .exact .inl e
 .exact .inr ⟨a,r,e,c⟩
theorem Vi.but (c:Vi h cs) (hI:it∉cs) (k:∀ b o,b≠it→h.get? b=f' o→h'.get? b=f' o):Vi h' cs:=
 c.mono fun b o hb e=>k b o (fun z=>hI (z ▸ hb)) e
section
theorem rH (hc:VQ A cs) (I ax:F') (gc:ax≠I) (hI:I∉cs) (items:Array L') :
  Zg prog w A I (I::ax::cs) [I] items.size (fun i v=>items[i]?=f' v) (fun i h=>h.IsListIter I ax i∧h.IsList ax items∧Vi h cs) where
 sub:=fun b hb=>by simp at hb;simp[hb]
 frame:=fun _ _ _ st hk=>⟨st.1.at fun o e=>hk I (by simp) o e,st.2.1.at fun o e=>hk ax (by simp) o e,st.2.2.mono fun b o hb e=>hk b (by simp[hb]) o e⟩
 item:=fun i s Q E hi st hQ=>by
  refine Ug st.1 st.2.1 (x:=items[i]) (by simp[hi]) fun h' eY bZ=>?_
  exact hQ _ h' s.toks (by simp[hi]) ⟨eY,st.2.1.extBut bZ.extBut gc,st.2.2.but hI bZ.extBut⟩ fun b o hb e=>bZ.extBut b o (fun h=>hb (by simp[h])) e
 done:=fun s Q E st hQ=>C5 (hc.hd st.2.2) st.1 st.2.1 (by simp) fun h' dM=>hQ h' s.toks fun b o hb e=>dM b o (fun h=>hb (by simp[h])) e
 self:=fun _ _ _ _ st hQ=>Ul st.1 hQ
theorem NH (hd:Hd A s.heap) (aZ:s.heap.IsStrIter it "str_ascii_iterator" x t i) (hx:x.cps[i]?=i')
  (hQ:∀ h',Xi it s.heap h'→Q i' {s with heap:=h'}):M' (UJ prog w) A (Vz (.ref it)) Q E s:=by
 obtain⟨o,ho,hc,aG⟩:=id aZ
 unfold Vz
 refine mK (Sa (RN (name:=UO "__next__") aZ.typeIs QeI (R3 QeI aZ.typeIs F.entry_str_ascii_iterator_next ?_ (F.args_str_ascii_iterator_next_1 _))))
 refine(show M' _ _ (Wc (.ref it) 0 >>= _) _ _ s from mK (RH ho aG (x:=.str x t) O ?_))
 refine(show M' _ _ (Wc (.ref it) 1 >>= _) _ _ s from mK (RH ho aG (x:=.int i 0) O ?_))
 simp only[RA,hx]
 refine mK (Sr (mK (Sf ho aG (by simp) (mK (SI ?_)))))
 refine l9 (A:=A.in1) (hd.but ho (fun vs q=>.inl (by rw[aG] at q;cases q;simp)) (Xg ..).extBut) fun h' e k' ⟨o',e',c'⟩=>?_
 exact mK (Sb (T:="StopIteration") (b:=B') ⟨o',e',c'⟩ XO (Rb (hQ h' fun b q hb hq=>k' b q ((Xg ..).extBut b q hb hq))))
theorem JY (hd:Hd A s.heap) (aZ:s.heap.IsStrIter it "str_iterator" x t i) (hx:x.cps[i]?=i')
  (hQ:∀ h',Xi it s.heap h'→Q i' {s with heap:=h'}):M' (UJ prog w) A (Vz (.ref it)) Q E s:=by
 obtain⟨o,ho,hc,aG⟩:=id aZ
 unfold Vz
 refine mK (Sa (RN (name:=UO "__next__") aZ.typeIs Qe6 (R3 Qe6 aZ.typeIs F.entry_str_iterator_next ?_ (F.args_str_iterator_next_1 _))))
 refine(show M' _ _ (Wc (.ref it) 0 >>= _) _ _ s from mK (RH ho aG (x:=.str x t) O ?_))
 refine(show M' _ _ (Wc (.ref it) 1 >>= _) _ _ s from mK (RH ho aG (x:=.int i 0) O ?_))
 simp only[RA,hx]
 refine mK (Sr (mK (Sf ho aG (by simp) (mK (SI ?_)))))
 refine l9 (A:=A.in1) (hd.but ho (fun vs q=>.inl (by rw[aG] at q;cases q;simp)) (Xg ..).extBut) fun h' e k' ⟨o',e',c'⟩=>?_
 exact mK (Sb (T:="StopIteration") (b:=B') ⟨o',e',c'⟩ XO (Rb (hQ h' fun b q hb hq=>k' b q ((Xg ..).extBut b q hb hq))))
def lZ (h:Vb) (I:F') (x:C') (t:V4) (i:Nat):Prop:=h.IsStrIter I "str_ascii_iterator" x t i∨h.IsStrIter I "str_iterator" x t i
theorem lZ.keep (y:lZ h I x t i) (k:∀ o,h.get? I=f' o→h'.get? I=f' o):lZ h' I x t i:=by
 rcases y with⟨o,e,r⟩|⟨o,e,r⟩
 .exact .inl ⟨o,k o e,r⟩
 .exact .inr ⟨o,k o e,r⟩
theorem Ku {c:Nat} (aZ:lZ s.heap it x t i) (hx:x.cps[i]?=f' c)
  (hQ:∀ h' u tk,lZ h' it x t (i+1)→XR it s.heap h'→Q (f' (.str ⟨#[c]⟩ u)) {s with heap:=h',toks:=tk}):M' (UJ prog w) A (Vz (.ref it)) Q E s:=by
 rcases aZ with y|y
 .exact wpAny_pyNext_ascii_item y hx fun h' y' hs=>hQ h' _ _ (.inl y') hs
 .exact wpAny_pyNext_wide_item y hx fun h' y' hs=>hQ h' _ _ (.inr y') hs
theorem J7 (hd:Hd A s.heap) (aZ:lZ s.heap it x t i) (hx:x.cps[i]?=i')
  (hQ:∀ h',Xi it s.heap h'→Q i' {s with heap:=h'}):M' (UJ prog w) A (Vz (.ref it)) Q E s:=by
 rcases aZ with y|y
 .exact NH hd y hx hQ
 .exact JY hd y hx hQ
theorem rQ {l:F'} {items}{Q:L'→UM→Prop} (hd:Hd A s.heap) (aZ:s.heap.IsListIter it l i) (hl:s.heap.IsList l items) (hx:items[i]?=i')
  (hE:∀ h' e,Xi it s.heap h'→(∃ o,h'.get? e=f' o∧o.cls=.type "StopIteration")→E (.ref e) {s with heap:=h'}):M' (UJ prog w) A (XH (.ref it)) Q E s:=by
 obtain⟨o,ho,hc,aG⟩:=id aZ
 obtain⟨ol,qZ,_,nl,pN⟩:=hl
 unfold XH
 refine mK (RN (name:=UO "__next__") aZ.typeIs Qba (R3 Qba aZ.typeIs QfE ?_ (QfL _)))
 refine(show M' _ _ (Wc (.ref it) 0 >>= _) _ _ s from mK (RH ho aG (x:=.ref l) O ?_))
 refine(show M' _ _ (if (UW l == Vq)=B' then _ else _) _ _ s from ?_)
 rw[UL (show ¬ ((UW l == Vq)=B') from Rq)]
 refine(show M' _ _ (Wc (.ref it) 1 >>= _) _ _ s from mK (RH ho aG (x:=.int i 0) O ?_))
 refine(show M' _ _ (Zb (.ref l) >>= _) _ _ s from mK (R0 qZ pN ?_))
 simp only[RA,hx]
 refine mK (Sr (mK (Sf ho aG (by simp) ?_)))
 refine l9 (A:=A.in1) (hd.but ho (fun vs q=>.inl (by rw[aG] at q;cases q;simp)) (Xg ..).extBut) fun h' e k' x=>hE h' e (fun b q hb hq=>k' b q ((Xg ..).extBut b q hb hq)) x
theorem EF {TI TO:F'}{xs ys:Array L'}{a b:L'} (hc:VQ A cs) (c:Vi s.heap cs) (nz:z∉cs) (nT:TO∉cs) (n1:i1∉cs) (n2:i2∉cs) (D:XU z TI TO i1 i2 l1 l2)
  (hz:XZ s.heap z TI TO .none) (cH:WW s.heap TI (.ref i1) (.ref i2)) (eC:WW s.heap TO a b) (h1:s.heap.IsListIter i1 l1 k1) (h2:s.heap.IsListIter i2 l2 k2) (cT:s.heap.IsList l1 xs) (bO:s.heap.IsList l2 ys) (iA:xs[k1]?=i'∨ys[k2]?=i')
  (hQ:∀ h',(∀ c o,c≠z→c≠TO→c≠i1→c≠i2→s.heap.get? c=f' o→h'.get? c=f' o)→Q i' {s with heap:=h'}):M' (UJ prog w) A (Vz (.ref z)) Q E s:=by
 have hT:s.TypeIs (.ref z) "zip":=⟨_,hz,O⟩
 have aS:∀ h' e,(∀ c o,c≠z→c≠TO→c≠i1→c≠i2→s.heap.get? c=f' o→h'.get? c=f' o)→(∃ o,h'.get? e=f' o∧o.cls=.type "StopIteration") →
   M' (UJ prog w) A (do if ← YC (.ref e) (.type "StopIteration") then pure i' else throw (.ref e)) Q E {s with heap:=h'}:=fun h' e k ⟨o,ho,mw⟩=>
  mK (Sb (T:="StopIteration") (b:=B') ⟨o,ho,mw⟩ XO (Rb (hQ _ k)))
 unfold Vz
 refine mK (Sa (RN (name:=UO "__next__") hT ZJ (R3 ZJ hT QcH ?_ (QcG _))))
 refine(show M' _ _ (Wc (.ref z) 2 >>= _) _ _ _ from mK (RH hz O (x:=.bool K') O ?_))
 refine(show M' _ _ (Wc (.ref z) 3 >>= _) _ _ _ from mK (RH hz O (x:=.ref TI) O (mK (R0 cH O ?_))))
 refine(show M' _ _ (Zv (.ref z) >>= _) _ _ _ from mK ?_)
 unfold Zv
 refine mK (RH hz O (x:=.none) O (Rb ?_))
 simp only[WL]
 refine mK (Sr (mK (RH hz O (x:=.ref TO) O (mK (Tf hz (by simp) fun h₁ mo bQ=>?_)))))
 replace mo:XZ h₁ z TI TO .ellipsis:=mo
 have c₁:Vi h₁ cs:=c.but nz bQ.extBut
 refine mK ?_
 simp only[List.zipIdx_cons,List.zipIdx_nil,SV,TM]
 refine mK (mK (wpAny_onRaise ?_))
 cases hx:xs[k1]? with
 | none=>
  refine(show M' _ _ (XH (.ref i1) >>= _) _ _ _ from mK (rQ (A:=A.in1) (VQ.hd (A:=A.in1) hc c₁) (h1.extBut bQ.extBut D.i1z) (cT.extBut bQ.extBut D.l1z) hx fun h₂ e dN he=>?_))
  obtain⟨oe,m9,pP⟩:=he
  have AO:XZ h₂ z TI TO .ellipsis:=dN _ _ D.i1z.symm mo
  have xw:e≠z:=fun x=>by subst x;rw[AO] at m9;cases m9;simp at pP
  exact Tf AO (by simp) fun h₃ _ fN=>aS h₃ e (fun c o c1 _ c3 _ x=>fN.extBut _ _ c1 (dN _ _ c3 (bQ.extBut _ _ c1 x))) ⟨oe,fN.extBut _ _ xw m9,pP⟩
 | some x=>
  have hy:ys[k2]?=i':=by rcases iA with h|h;rw[hx] at h;cases h;exact h
  refine(show M' _ _ (XH (.ref i1) >>= _) _ _ _ from mK (SY (h1.extBut bQ.extBut D.i1z) (cT.extBut bQ.extBut D.l1z) hx fun h₂ we dN=>Rb ?_))
  have qO:WW h₂ TO a b:=dN.extBut _ _ D.TOi1 (bQ.extBut _ _ D.TOz eC)
  refine mK (R0 qO O (mK (wpAny_updateSeq_pair qO fun h₃ Ix fN=>mK (SI (Rb ?_)))))
  refine mK (mK (wpAny_onRaise ?_))
  have c₃:Vi h₃ cs:=(c₁.but n1 dN.extBut).but nT fN.extBut
  refine(show M' _ _ (XH (.ref i2) >>= _) _ _ _ from mK (rQ (A:=A.in1) (VQ.hd (A:=A.in1) hc c₃) (((h2.extBut bQ.extBut D.i2z).extBut dN.extBut D.i12.symm).extBut fN.extBut D.TOi2.symm)
   (((bO.extBut bQ.extBut D.l2z).extBut dN.extBut D.l2i1).extBut fN.extBut D.l2TO) hy fun h₄ e Bz he=>?_))
  obtain⟨oe,m9,pP⟩:=he
  have Aq:XZ h₄ z TI TO .ellipsis:=Bz _ _ D.i2z.symm (fN.extBut _ _ D.TOz.symm (dN.extBut _ _ D.i1z.symm mo))
  have xw:e≠z:=fun x=>by subst x;rw[Aq] at m9;cases m9;simp at pP
  exact Tf Aq (by simp) fun h₅ _ BL=>aS h₅ e (fun c o c1 c2 c3 c4 x=>BL.extBut _ _ c1 (Bz _ _ c4 (fN.extBut _ _ c2 (dN.extBut _ _ c3 (bQ.extBut _ _ c1 x))))) ⟨oe,BL.extBut _ _ xw m9,pP⟩
section
variable {κ:Type} [DecidableEq κ] {knd:KeyKind prog w κ}
theorem Mc {kvs:List (κ×L')} (hd:Hd A s.heap) (aZ:s.heap.IsKeyIter it d i kvs.length ep) (hm:s.heap.DictAt knd d kvs ep) (hx:kvs[i]?=i')
  (hQ:∀ h',Xi it s.heap h'→Q i' {s with heap:=h'}):M' (UJ prog w) A (Vz (.ref it)) Q E s:=by
 obtain⟨o,ho,hc,aG⟩:=id aZ
 obtain⟨od,es,kM,ic,cV,hk,hp,hn⟩:=id hm
 have hsz:es.size=kvs.length:=by rw[← hp.length];simp
 have qo:es.size≤i:=by rw[hsz];simpa using hx
 have mO:Qes "dict_keyiterator"=K':=by decide
 unfold Vz
 refine mK (Sa (RN (name:=UO "__next__") aZ.typeIs QeP (R3 QeP aZ.typeIs F.entry_dict_keyiterator_next ?_ (F.args_dict_keyiterator_next_1 _))))
 refine mK (Rb (mK (mK ?_)))
 first|refine mK (TF aZ.typeIs (Rb (mK (TN ho aG ?_))))|refine mK (T6 aZ.typeIs (Rb (mK (TN ho aG ?_))))
 simp only[mO,RV,VU]
 show M' _ _ (if (UW d == Vq)=B' then _ else _) _ _ s
 rw[UL (show ¬ ((UW d == Vq)=B') from Rq)]
 refine mK (Rb (mK (UF kM cV ?_)))
 rw[UL (by rw[hsz];simp)]
 refine mK (Rb (mK (Qgi kM cV ?_)))
 rw[UL (by simp)]
 refine Rb ?_
 simp only[show ¬ ((i:Int)<0) from by lia,VU,RA,To qo]
 refine mK ?_
 first|refine mK (TF aZ.typeIs (Rb ?_))|refine mK (T6 aZ.typeIs (Rb ?_))
 refine(show M' _ _ (Qbx (.ref it) 0 .none >>= _) _ _ s from mK (Sf ho aG (by simp) ?_))
 refine l9 (A:=A.in1) (hd.but ho (fun vs q=>.inr (by rw[aG] at q;cases q;simp)) (Xg ..).extBut) fun h' e k' ⟨o',e',c'⟩=>?_
 exact mK (Sb (T:="StopIteration") (b:=B') ⟨o',e',c'⟩ XO (Rb (hQ h' fun b q hb hq=>k' b q ((Xg ..).extBut b q hb hq))))
theorem KW (hc:VQ A cs) (I d:F') (gc:d≠I) (hI:I∉cs) (kvs:List (κ×L')) (ep:Nat) :
  Zg prog w A I (I::d::cs) [I] kvs.length (fun i v=>∃ k x,kvs[i]?=f' (k,x)∧knd.is k v=B') (fun i h=>h.IsKeyIter I d i kvs.length ep∧h.DictAt knd d kvs ep∧Vi h cs) where
 sub:=fun b hb=>by simp at hb;simp[hb]
 frame:=fun _ _ _ st hk=>⟨st.1.at fun o e=>hk I (by simp) o e,st.2.1.at' fun o e=>hk d (by simp) o e,st.2.2.mono fun b o hb e=>hk b (by simp[hb]) o e⟩
 item:=fun i s Q E hi st hQ=>by
  obtain⟨⟨k,x⟩,hx⟩:∃ p,kvs[i]?=f' p:=⟨kvs[i],by simp[hi]⟩
  refine wpAny_pyNext_dict_item st.1 st.2.1 hx fun key h' d8 eY bZ=>?_
  exact hQ key h' s.toks ⟨k,x,hx,d8⟩ ⟨eY,st.2.1.extBut bZ.extBut gc,st.2.2.but hI bZ.extBut⟩ fun b o hb e=>bZ.extBut b o (fun h=>hb (by simp[h])) e
 done:=fun s Q E st hQ=>Mc (hc.hd st.2.2) st.1 st.2.1 (by simp) fun h' dM=>hQ h' s.toks fun b o hb e=>dM b o (fun h=>hb (by simp[h])) e
 self:=fun _ _ _ _ st hQ=>wpAny_pyIter_keyiter st.1 hQ
theorem Mh {kvs:List (κ×L')}{ok ov:L'} (hc:VQ A cs) (c:Vi s.heap cs) (hI:it∉cs) (aZ:IsItemIter s.heap it d i kvs.length ep ok ov) (hm:s.heap.DictAt knd d kvs ep) (hx:kvs[i]?=i')
  (hQ:∀ h',Xi it s.heap h'→Q i' {s with heap:=h'}):M' (UJ prog w) A (Vz (.ref it)) Q E s:=by
 obtain⟨od,es,kM,ic,cV,hk,hp,hn⟩:=id hm
 have hT:s.TypeIs (.ref it) "dict_itemiterator":=⟨_,aZ,O⟩
 have hsz:es.size=kvs.length:=by rw[← hp.length];simp
 have qo:es.size≤i:=by rw[hsz];simpa using hx
 have mO:Qes "dict_itemiterator"=B':=by decide
 unfold Vz
 refine mK (Sa (RN (name:=UO "__next__") hT Qci (R3 Qci hT F.entry_dict_itemiterator_next ?_ (F.args_dict_itemiterator_next_1 _))))
 refine mK (Rb (mK (mK ?_)))
 first|refine mK (Tz hT (Rb (mK (TN aZ O ?_))))|refine mK (T2 hT (Rb (mK (TN aZ O ?_))))
 simp only[mO,WL]
 show M' _ _ (if (UW d == Vq)=B' then _ else _) _ _ s
 rw[UL (show ¬ ((UW d == Vq)=B') from Rq)]
 refine mK (Rb (mK (UF kM cV ?_)))
 rw[UL (by rw[hsz];simp)]
 refine mK (Rb (mK (Qgi kM cV ?_)))
 rw[UL (by simp)]
 refine Rb ?_
 simp only[show ¬ ((i:Int)<0) from by lia,VU,RA,To qo]
 refine mK ?_
 first|refine mK (Tz hT (Rb ?_))|refine mK (T2 hT (Rb ?_))
 refine(show M' _ _ (Qbx (.ref it) 2 .none >>= _) _ _ s from mK (Sf aZ O (by simp) ?_))
 refine l9 (A:=A.in1) (VQ.hd (A:=A.in1) hc (c.but hI (Xg ..).extBut)) fun h' e k' ⟨o',e',c'⟩=>?_
 exact mK (Sb (T:="StopIteration") (b:=B') ⟨o',e',c'⟩ XO (Rb (hQ h' fun b q hb hq=>k' b q ((Xg ..).extBut b q hb hq))))
theorem J9:Xt (.type "dict") "__len__"=pure (f' (.builtin "dict.__len__")):=by rw[typeLookup_type,builtinLookup_eq_fast];kernel_rfl
theorem Pp (hc:VQ A cs){kvs:List (κ×L')}{c₀:Nat} (hd:(d == Wm)=K') (hm:s.heap.DictAt knd d kvs ep) (c:Vi s.heap cs) (hS:s.heap.get? S=f' {cls:=.type "list",data:=.seq #[] c₀}) (wv:S≠d) (pX:S∉cs) (hn:kvs.length≤S')
  (hR:∀ s' acc c',Moved (S::[s.heap.objs.size]) (fun a b=>b=a) s s'→s'.heap.get? S=f' {cls:=.type "list",dict:=i',data:=.seq acc c',slots:=#[]}→Qax (fun i v=>∃ k x,kvs[i]?=f' (k,x)∧knd.is k v=B') acc kvs.length→R (.ok (.ret res)) s') :
  M' (UJ prog w) A.in1 (Ys (.ref S) (.ref d) res) (fun aS s'=>match aS with|.done f=>R (.ok f) s'|.again c'=>c'.quiet=B'∧Wq (UJ prog w) A c' R s') (fun e s'=>R (.error e) s') s:=by
 have hT:s.TypeIs (.ref d) "dict":=hm.dictOf.typeIs
 have h1:QaY (.ref S) (.ref d)=K':=by simp[QaY,wv]
 unfold Ys
 refine mK (SM hT ?_)
 rw[UL (by rw[h1];decide)]
 refine mK (wpAny_pyIter_dict hd hm ?_)
 have m1:=hm.push {cls:=.type "dict_keyiterator",data:=.fields #[.ref d,.int 0 0,.int kvs.length 0,.int ep 0]}
 have vY:Qbj {s with heap:=s.heap.push {cls:=.type "dict_keyiterator",data:=.fields #[.ref d,.int 0 0,.int kvs.length 0,.int ep 0]} } (.ref d) "dict":=m1.dictOf.typeIs
 refine mK (RI ?_)
 unfold QoG
 refine mK (Ud vY J9 ?_)
 generalize Bl:("dict.__len__":String)=id0
 wp_delta
 rw[show splitId id0=f' ("dict","__len__") from by subst Bl;decide +kernel]
 subst Bl
 refine mK (Sb (b:=B') vY (by rw[isSubtype_type];kernel_rfl) ?_)
 simp only[QfS,RV,VU]
 rw[UN (by decide +kernel)]
 refine mK (SM vY (Rb ?_))
 rw[UN (by decide +kernel)]
 refine mK (Sr (mK ?_))
 have b8:S<s.heap.objs.size:=Rc hS
 have rb:S≠s.heap.objs.size:=Rj b8
 have wP:d≠s.heap.objs.size:=Rj hm.lt_size
 have mN:s.heap.objs.size∉cs:=fun z=>RE _ (c.lt _ z)
 have kr:=Ra {cls:=.type "dict_keyiterator",data:=.fields #[.ref d,.int 0 0,.int kvs.length 0,.int ep 0]} hS
 refine(show M' _ A.in1 (YD S (·.push .none) >>= fun _=>YD S (·.pop)) _ _ _ from mK (Sl kr rfl ?_))
 have i8:=RC (Wl (·.push Vq)) kr rfl
 refine Sl (hz:=by seq_fits) i8 rfl ?_
 have tF:=RC (Wl (·.pop)) i8 rfl
 generalize hG:((s.heap.push {cls:=.type "dict_keyiterator",data:=.fields #[.ref d,.int 0 0,.int kvs.length 0,.int ep 0]}).update S (Wl (·.push Vq))).update S (Wl (·.pop))=G at tF
 have eZ:∀ b o,b≠S→(s.heap.push {cls:=.type "dict_keyiterator",data:=.fields #[.ref d,.int 0 0,.int kvs.length 0,.int ep 0]}).get? b=f' o→G.get? b=f' o:=fun b o hb e=>by
  rw[← hG];exact(Ro _ _ (US hb)).trans ((Ro _ _ (US hb)).trans e)
 have W:=(KW (prog:=prog) (w:=w) (knd:=knd) (A:=A.in1) hc s.heap.objs.size d wP mN kvs ep).toS
 have IE:G.IsKeyIter s.heap.objs.size d 0 kvs.length ep:=⟨_,eZ _ _ (US rb) (Ri _ O),O,O⟩
 have d0:G.DictAt knd d kvs ep:=m1.at' fun o e=>eZ d o (US wv) e
 have c0:Vi G cs:=c.mono fun b o hb e=>eZ b o (fun z=>pX (z ▸ hb)) (Ra _ e)
 have ib:S∉s.heap.objs.size::d::cs:=by simp[rb,wv,pX]
 refine Rb ⟨Xs Qcy _,codeAny_extend_loopS W hn S ib res kvs.length 0 _ _ _ O (R6 _) ⟨IE,d0,c0⟩ tF (QfF _) fun s' eU c' HG g8 eP=>?_⟩
 have IT:Moved (S::[s.heap.objs.size]) (fun a b=>b=a) s {s with heap:=G}:=⟨fun b o hb e=>eZ b o (fun z=>hb (RY.mpr (.inl z))) (Ra _ e),O,O,O,Re _⟩
 exact hR s' eU c' (QcQ (fun _ _ _ h1 h2=>h2.trans h1) IT HG) g8 eP
theorem LO {Q:L'→UM→Prop} (hc:VQ A cs){kvs:List (κ×L')} (hd:(d == Wm)=K') (hm:s.heap.DictAt knd d kvs ep) (c:Vi s.heap cs) (hn:kvs.length≤S')
  (hQ:∀ s' acc c',(∀ b o,s.heap.get? b=f' o→s'.heap.get? b=f' o)→s'.gens=s.gens→s'.drawn=s.drawn→s'.os=s.os→s'.heap.get? s.heap.objs.size=f' {cls:=.type "list",dict:=i',data:=.seq acc c',slots:=#[]} →
   Qax (fun i v=>∃ k x,kvs[i]?=f' (k,x)∧knd.is k v=B') acc kvs.length→Q (.ref s.heap.objs.size) s'):M' (UJ prog w) A (call (.type "list") [.ref d]) Q E s:=by
 refine Qbp (Q₁:=fun obj s₁=>obj=.ref s.heap.objs.size∧s₁={s with heap:=s.heap.push {cls:=.type "list",data:=.seq #[]} }) Qgn (QfG _) QfH (code_list_new _ ⟨O,O⟩) fun obj s₁ h₁=>?_
 obtain⟨rfl,rfl⟩:=h₁
 have hS:(s.heap.push {cls:=.type "list",data:=.seq #[]}).get? s.heap.objs.size=f' {cls:=.type "list",data:=.seq #[]}:=Ri _ rfl
 have wP:s.heap.objs.size≠d:=US (Rj hm.lt_size)
 have mN:s.heap.objs.size∉cs:=fun z=>RE _ (c.lt _ z)
 refine⟨⟨_,hS,O⟩,Qfv _ _,?_⟩
 refine(show M' _ A.in1.in1 (do let old ← Qa0 (.ref s.heap.objs.size);QeB (.ref s.heap.objs.size) (fun _=>#[]);letGo old.toList.reverse;Ys (.ref s.heap.objs.size) (.ref d) .none) _ _ _ from mK ?_)
 unfold Qa0
 refine mK (R0 hS O (Rb ?_))
 refine(show M' _ A.in1.in1 (YD s.heap.objs.size (fun _=>#[]) >>= fun _=>letGo (#[]:Array L').toList.reverse >>= fun _=>Ys (.ref s.heap.objs.size) (.ref d) .none) _ _ _ from mK (Sl hS O (mK (SI ?_))))
 have i8:=RC (Wl (fun _=>(#[]:Array L'))) hS rfl
 have eZ:∀ b o,s.heap.get? b=f' o→((s.heap.push {cls:=.type "list",data:=.seq #[]}).update s.heap.objs.size (Wl (fun _=>(#[]:Array L')))).get? b=f' o:=fun b o e=>
  (Ro _ _ (US (Rj (Rc e)))).trans (Ra _ e)
 have sz:((s.heap.push {cls:=.type "list",data:=.seq #[]}).update s.heap.objs.size (Wl (fun _=>(#[]:Array L')))).objs.size=s.heap.objs.size+1:=by rw[Vb.size_update,RL]
 refine Pp (A:=A.in1) hc hd (hm.at' fun o e=>eZ d o e) (c.mono fun b o _ e=>eZ b o e) i8 wP mN hn fun s' acc c' mv g8 eP=>⟨O,?_⟩
 refine hQ s' acc c' (fun b o e=>mv.heap b o (fun z=>?_) (eZ b o e)) mv.gens mv.drawn mv.os g8 eP
 have lt:=Rc e
 simp only[RY,RJ,WA] at z
 rcases z with z|z
 .exact UX lt (by rw[z];exact RE _)
 .exact UX lt (by rw[z,sz];exact Qbs.mpr (RQ _))
end
end
def Its (x:C'):It:=⟨fun i _=>i<x.cps.size,fun i H v H'=>H'=H∧∃ c,x.cps[i]?=f' c∧v=.str ⟨#[c]⟩,fun i _=>x.cps.size≤i⟩
theorem NV {K:R'} (x:C') (t:V4) (it:F'):mf P w K tg (Its x) [it] it (fun i h=>lZ h it x t i) where
 mem:=by simp
 obj:=fun i h st b hb=>by
  have e:b=it:=by simpa using hb
  subst e
  rcases st with⟨o,e,c,d⟩|⟨o,e,c,d⟩<;>exact⟨o,e,fun v z=>by rw[d] at z;cases z⟩
 keep:=fun i h h' st k=>st.keep fun o e=>k it (by simp) o e
 item:=by
  intro X hP hw hK hc i aa s σ H E I hf st hg
  subst hP hw hK
  obtain⟨f0,f1,f2,f3,f4,f5⟩:=hf it (by simp)
  have xb:i<x.cps.size:=hg
  have hx:x.cps[i]?=f' x.cps[i]:=by simp[xb]
  refine Ku st hx fun h' u tk ia sb=>?_
  have I1:Inv X aa σ H {s with heap:=h',toks:=tk}:=I.turned (fun b o hb e=>(sb.2 b hb).trans e) f0 f1 f3 f4 f5
  rcases id ia with⟨o,e,c,d⟩|⟨o,e,c,d⟩
  .exact⟨_,O,uD (s:={s with heap:=h',toks:=tk}) e c d (by decide) ⟨.str ⟨#[x.cps[i]]⟩,H,I1,⟨u,O⟩,⟨O,_,hx,O⟩,ia,fun b hb=>(hf b hb).1⟩⟩
  .exact⟨_,O,uD (s:={s with heap:=h',toks:=tk}) e c d (by decide) ⟨.str ⟨#[x.cps[i]]⟩,H,I1,⟨u,O⟩,⟨O,_,hx,O⟩,ia,fun b hb=>(hf b hb).1⟩⟩
 done:=by
  intro X hP hw hK hc i aa s σ H E I hf st hg
  subst hP hw hK
  obtain⟨f0,f1,f2,f3,f4,f5⟩:=hf it (by simp)
  exact J7 I.hd st (To hg) fun h' eb=>⟨O,I.turned (t':=s.toks) (fun b o hb e=>eb b o hb e) f0 f1 f3 f4 f5⟩
 self:=fun _ _ _ _ _ st h=>by
  rcases st with y|y
  .exact wpAny_pyIter_striter_ascii y h
  .exact wpAny_pyIter_striter_wide y h
inductive QhY (R:(It→Hp→Prop)) (x:V) (H1:Hp):Prop
 | mk (z:_) (_:x=.str z) (_:R (Its z) H1)
def QhZ (tl:TE):TI:=fun σ H R=>tl σ H fun x H1=>QhY R x H1
theorem Dj (hl:PE X l tl):PI X tg l (QhZ tl):=by
 intro aa s σ H R I h
 refine UV (hl aa s σ H _ I h) fun v s1=>L2.U7 fun x H1 I1 r1 aW=>?_
 obtain⟨z,e,q⟩:=aW
 subst e
 obtain⟨t,rfl⟩:=r1
 have aS:∀ ob:U6,lZ (s1.heap.push ob) s1.heap.objs.size z t 0→PIE X aa σ tg R (.ref s1.heap.objs.size) {s1 with heap:=s1.heap.push ob}:=fun ob st=>
  ⟨s1.heap.objs.size,[s1.heap.objs.size],_,Its z,H1,rfl,I1.kept (t':=s1.toks) fun b o e=>Ra _ e,NV z t _,st,fun b hb=>by
   have e:b=s1.heap.objs.size:=by simpa using hb
   subst e
   exact I1.WO (Re _) (I1.UP.fresh (Re _)),q⟩
 cases ha:z.cps.all (·<128)
 .exact wpAny_pyIter_wide ha (aS _ (.inr ⟨_,Ri _ O,O,O⟩))
 .exact wpAny_pyIter_ascii ha (aS _ (.inl ⟨_,Ri _ O,O,O⟩))
theorem Dl {Q:VK} (Pv:Nat→St→Hp→Prop) (h0:Pv 0 τ H)
  (hs:∀ i c τ H,x.cps[i]?=f' c→Pv i τ H→g (.str ⟨#[c]⟩) τ H fun τ2 H2=>tt τ2 H2 fun b H3=>
   if b=B' then te τ2 H3 fun y H4=>∃ ys,H4 D=f' (.lst ys)∧ys.length<S'∧Pv (i+1) τ2 (upd H4 D (.lst (ys++[y]))) else Pv (i+1) τ2 H3)
  (hd:∀ τ H,Pv x.cps.size τ H→Q (.ref D) H):jK (Its x) D τ H g tt te Q:=by
 refine⟨fun i m τ H=>m=x.cps.size-i∧i≤x.cps.size∧Pv i τ H,⟨x.cps.size,by simp,R6 _,h0⟩,?_⟩
 rintro i m τ H ⟨rfl,hi,p⟩
 by_cases b8:i<x.cps.size
 .refine .inr ⟨b8,Pv (i+1),fun τ' H' p'=>⟨x.cps.size-(i+1),by lia,O,b8,p'⟩,fun v H' y=>?_⟩
  obtain⟨e,c,hc,ev⟩:=y
  subst e ev
  exact hs i c τ _ hc p
 .have e:i=x.cps.size:=by lia
  subst e
  exact .inl ⟨Re _,hd τ H p⟩
def Itz (K:R') (l1 l2:F'):It:=
  ⟨fun i H=>∃ xs ys x y,P' K H l1 xs∧P' K H l2 ys∧xs[i]?=f' x∧ys[i]?=f' y,
   fun i H v H'=>∃ T x y,v=.ref T∧H T=i'∧H'=upd H T (.tup [x,y])∧(∀ xs,P' K H l1 xs→xs[i]?=f' x)∧∀ ys,P' K H l2 ys→ys[i]?=f' y,
   fun i H=>∃ xs ys,P' K H l1 xs∧P' K H l2 ys∧(xs.length≤i∨ys.length≤i)⟩
def Qh0 (h:Vb) (z TI TO i1 i2 l1 l2:F') (i:Nat):Prop:=XZ h z TI TO .none∧WW h TI (.ref i1) (.ref i2)∧(∃ a b,WW h TO a b)∧h.IsListIter i1 l1 i∧h.IsListIter i2 l2 i
theorem MW {K:R'}{k:Nat}{TI TO:F'} (D:XU z TI TO i1 i2 l1 l2) :
  mf P w K (.Tuple es k pos) (Itz K l1 l2) [z,TI,TO,i1,i2] z (fun i h=>Qh0 h z TI TO i1 i2 l1 l2 i) where
 mem:=by simp
 obj:=fun i h st b hb=>by
  obtain⟨hz,cH,⟨a,c,eC⟩,⟨o1,e1,c1,d1⟩,⟨o2,e2,c2,d2⟩⟩:=st
  simp only[RY,RJ,WA] at hb
  rcases hb with rfl|rfl|rfl|rfl|rfl
  .exact⟨_,hz,fun v q=>by simp at q⟩
  .exact⟨_,cH,fun v q=>by simp at q⟩
  .exact⟨_,eC,fun v q=>by simp at q⟩
  .exact⟨_,e1,fun v q=>by rw[d1] at q;cases q⟩
  .exact⟨_,e2,fun v q=>by rw[d2] at q;cases q⟩
 keep:=fun i h h' st k=>by
  obtain⟨hz,cH,⟨a,c,eC⟩,h1,h2⟩:=st
  exact⟨k z (by simp) _ hz,k TI (by simp) _ cH,⟨a,c,k TO (by simp) _ eC⟩,h1.at fun o e=>k i1 (by simp) o e,h2.at fun o e=>k i2 (by simp) o e⟩
 item:=by
  intro X hP hw hK hc i aa s σ H E I hf st hg
  subst hP hw hK
  obtain⟨xs,ys,x,y,q1,q2,hx,hy⟩:=hg
  obtain⟨hz,cH,⟨a,c,eC⟩,h1,h2⟩:=st
  obtain⟨ah,rv,pl,_⟩:=I.list q1
  obtain⟨its',dz,jW,_⟩:=I.list q2
  obtain⟨u,hu,ru⟩:=rv.get hx
  obtain⟨u',iG,qM⟩:=dz.get hy
  have nf:∀ b∈[z,TI,TO,i1,i2],b∉VG X.stack:=fun b hb q=>(RY.mp (I.W0 b q)).elim (hf b hb).2.1 (hf b hb).2.2.1
  refine Uo D hz cH eC h1 h2 pl.isList jW.isList (x:=u) (y:=u') (by simpa using hu) (by simpa using iG) fun h' a1 a2 a3 a4 a5 a6 hk=>⟨_,O,?_⟩
  refine wpAny_letOwnedTupleGo_zip (s:={s with heap:=h'}) a1 fun eD lH bZ=>?_
  have p7:H s.heap.objs.size=i':=I.UP.fresh (Re _)
  have QZ:=Rc hz
  have old:∀ b o,b≠z→b≠TO→b≠i1→b≠i2→s.heap.get? b=f' o→eD.get? b=f' o:=fun b o n1 n2 n3 n4 e=>bZ.extBut b o n1 (hk b o n1 n2 n3 n4 e)
  have I1:Inv X aa σ (upd H s.heap.objs.size (.tup [x,y])) {s with heap:=s.heap.push {cls:=.type "tuple",data:=.seq #[u,u']} }:=
   I.laid (t':=s.toks) (fun b o e=>Ra _ e) (Re _) ⟨by show 2≤S';decide,[u,u'],.cons ru (.cons qM .nil),⟨_,Ri _ rfl,O,_,O⟩⟩
  have qI:∀ b∈[z,TI,TO,i1,i2],cI X aa (upd H s.heap.objs.size (.tup [x,y])) b:=fun b hb=>by
   obtain⟨f0,r⟩:=hf b hb
   refine⟨?_,r⟩
   have lt:b<s.heap.objs.size:=by
    simp only[RY,RJ,WA] at hb
    rcases hb with rfl|rfl|rfl|rfl|rfl
    .exact Rc hz
    .exact Rc cH
    .exact Rc eC
    .obtain⟨o,e,_⟩:=h1;exact Rc e
    .obtain⟨o,e,_⟩:=h2;exact Rc e
   rw[aj (Rj lt)];exact f0
  have I2:Inv X aa σ (upd H s.heap.objs.size (.tup [x,y])) {s with heap:=eD}:=by
   have cN:∀ b o,(s.heap.push {cls:=.type "tuple",data:=.seq #[u,u']}).get? b=f' o→b≠z→b≠TO→b≠i1→b≠i2→eD.get? b=f' o:=fun b o e n1 n2 n3 n4=>by
    rcases TB e with⟨rfl,rfl⟩|e
    .exact bZ.extBut _ _ n1 a5
    .exact old b o n1 n2 n3 n4 e
   refine I1.slots (ch:=[z,TO,i1,i2]) (tk:=s.toks) (fun b hb=>qI b (by simp only[RY,RJ,WA] at hb ⊢;rcases hb with e|e|e|e<;>simp[e])) (fun b o _ hc e=>?_) (fun b o hb e=>⟨o.slots,?_⟩) (fun b hb o e=>?_)
   .simp only[RY,RJ,WA,not_or] at hc
    exact cN b o e hc.1 hc.2.1 hc.2.2.1 hc.2.2.2
   .exact cN b o e (fun q=>nf z (by simp) (q ▸ hb)) (fun q=>nf TO (by simp) (q ▸ hb)) (fun q=>nf i1 (by simp) (q ▸ hb)) (fun q=>nf i2 (by simp) (q ▸ hb))
   .simp only[RY,RJ,WA] at hb
    rcases hb with rfl|rfl|rfl|rfl
    .exact⟨_,lH⟩
    .exact⟨_,bZ.extBut _ _ D.TOz a2⟩
    .obtain⟨o,e,_⟩:=a3;exact⟨_,bZ.extBut _ _ D.i1z e⟩
    .obtain⟨o,e,_⟩:=a4;exact⟨_,bZ.extBut _ _ D.i2z e⟩
  refine⟨.ref s.heap.objs.size,_,I2,O,⟨_,x,y,O,p7,O,fun JV q=>by rw[I.Z0 q q1];exact hx,fun kK q=>by rw[I.Z0 q q2];exact hy⟩,?_,fun b hb=>(qI b hb).1⟩
  exact⟨lH,old TI _ D.TIz D.TITO D.TIi1 D.TIi2 cH,⟨_,_,bZ.extBut _ _ D.TOz a2⟩,a3.extBut bZ.extBut D.i1z,a4.extBut bZ.extBut D.i2z⟩
 done:=by
  intro X hP hw hK hc i aa s σ H E I hf st hg
  subst hP hw hK
  obtain⟨xs,ys,q1,q2,av⟩:=hg
  obtain⟨hz,cH,⟨a,c,eC⟩,h1,h2⟩:=st
  obtain⟨ah,rv,pl,_⟩:=I.list q1
  obtain⟨its',dz,jW,_⟩:=I.list q2
  have e1:=rv.length
  have e2:=dz.length
  have nf:∀ b∈[z,TI,TO,i1,i2],b∉VG X.stack:=fun b hb q=>(RY.mp (I.W0 b q)).elim (hf b hb).2.1 (hf b hb).2.2.1
  have nc:∃ cs,VQ X.A cs∧Vi s.heap cs∧∀ b∈[z,TI,TO,i1,i2],b∉cs:=by
   rcases I.X2 with e|⟨b,cs,e,c⟩
   .exact⟨[],.inl ⟨e,O⟩,⟨SA,fun j a q=>by simp at q⟩,fun b _ q=>by simp at q⟩
   .exact⟨b::cs,.inr ⟨b,cs,O,e⟩,c.ZX I.UP,fun d hd=>c.ZY (hf d hd).1⟩
  obtain⟨cs,cU,ch,nW⟩:=nc
  refine EF cU ch (nW z (by simp)) (nW TO (by simp)) (nW i1 (by simp)) (nW i2 (by simp)) D hz cH eC h1 h2 pl.isList jW.isList (by rcases av with q|q;(left;simp;lia);(right;simp;lia)) fun h' hk=>⟨O,?_⟩
  refine I.slot0 (ch:=[z,TI,TO,i1,i2]) (tk:=s.toks) hf (fun b o _ hc e=>?_) (fun b o hb e=>⟨o.slots,?_⟩)
  .simp only[RY,RJ,WA,not_or] at hc
   exact hk b o hc.1 hc.2.2.1 hc.2.2.2.1 hc.2.2.2.2 e
  .exact hk b o (fun q=>nf z (by simp) (q ▸ hb)) (fun q=>nf TO (by simp) (q ▸ hb)) (fun q=>nf i1 (by simp) (q ▸ hb)) (fun q=>nf i2 (by simp) (q ▸ hb)) e
 self:=fun _ _ _ _ _ st h=>T7 st.1 h
inductive Qh1 (K:R') (R:(It→Hp→Prop)) (vs:List V) (H1:Hp):Prop
 | mk (l1 l2:_) (_:vs=[.ref l1,.ref l2]) (_:(∃ xs,P' K H1 l1 xs)) (_:(∃ ys,P' K H1 l2 ys)) (_:R (Itz K l1 l2) H1)
def Qh2 (K:R') (ta:TA):TI:=fun σ H R=>ta σ H fun vs H1=>Qh1 K R vs H1
theorem uE {k:Nat}{a b:U3}{ta:TA} (hg:Gl X "zip") (hm:X.mg "zip"=i') (ha:PA X [a,b] ta) (hs:U1 [a,b] X.env=[(K',U2 a X.env),(K',U2 b X.env)]:=by rfl) (fQ:U1 [b] X.env=[(K',U2 b X.env)]:=by rfl) :
  PI X (.Tuple es k Zi) (.Call (.Name "zip" p) [a,b] [] pos) (Qh2 X.K ta):=by
 intro aa s σ H R I h
 refine Call_ (jD I hg hm boot_zip (Yt (UV (ha pos aa s σ H _ I h) fun us s1=>L2.U7 fun vs H1 I1 r1 aW=>?_) (by rw[hs,fQ]) (by rw[fQ];rfl)))
 obtain⟨l1,l2,e,⟨xs,q1⟩,⟨ys,q2⟩,q⟩:=aW
 subst e
 obtain⟨u,u',rfl,ru,qM⟩:=nJ r1
 obtain rfl:u=UW l1:=ru
 obtain rfl:u'=UW l2:=qM
 obtain⟨ah,rv,pl,_⟩:=I1.list q1
 obtain⟨its',dz,jW,_⟩:=I1.list q2
 refine call_zip_2 pl.isList jW.isList fun h' b1 b2 b3 b4 b5 b6 hk=>?_
 refine T7 (s:={s1 with heap:=h'}) b1 ?_
 have iD:l1<s1.heap.objs.size:=by obtain⟨o,e,_⟩:=pl.isList;exact Rc e
 have kT:l2<s1.heap.objs.size:=by obtain⟨o,e,_⟩:=jW.isList;exact Rc e
 have nn:∀ (x y:Nat),x<y→∀ j:Nat,x≠y+j:=fun x y h j e=>by lia
 have n0:∀ (y i j:Nat),i≠j→y+i≠y+j:=fun y i j h e=>by lia
 have D:XU (s1.heap.objs.size+4) (s1.heap.objs.size+2) (s1.heap.objs.size+3) s1.heap.objs.size (s1.heap.objs.size+1) l1 l2:=
  ⟨n0 _ 2 4 (by decide),n0 _ 3 4 (by decide),n0 _ 0 4 (by decide),n0 _ 1 4 (by decide),n0 _ 2 3 (by decide),n0 _ 2 0 (by decide),n0 _ 2 1 (by decide),n0 _ 3 0 (by decide),n0 _ 3 1 (by decide),n0 _ 0 1 (by decide),
   nn _ _ iD 4,nn _ _ iD 3,nn _ _ iD 0,nn _ _ iD 1,nn _ _ kT 4,nn _ _ kT 3,nn _ _ kT 0,nn _ _ kT 1⟩
 refine⟨s1.heap.objs.size+4,[s1.heap.objs.size+4,s1.heap.objs.size+2,s1.heap.objs.size+3,s1.heap.objs.size,s1.heap.objs.size+1],_,_,H1,O,I1.kept (t':=s1.toks) hk,MW D,⟨b1,b2,⟨_,_,b3⟩,b4,b5⟩,fun b hb=>?_,q⟩
 have ge:s1.heap.objs.size≤b:=by
  simp only[RY,RJ,WA] at hb
  rcases hb with rfl|rfl|rfl|rfl|rfl
  .exact RO _ _
  .exact RO _ _
  .exact RO _ _
  .exact Re _
  .exact RO _ _
 exact I1.WO ge (I1.UP.fresh ge)
theorem Inv.freeze (I:Inv X aa σ H s) (e:H d=f' (.dK kvs)) (ho:s.heap.get? d=f' o):Inv X aa σ (upd H d (.UZ o (.dK kvs))) s:=by
 have ne:∀ b u,H b=f' u→u≠.dK kvs→b≠d:=fun b u q n z=>by rw[z,e] at q;cases q;exact n rfl
 have kp:∀ b u,H b=f' u→u≠.dK kvs→upd H d (.UZ o (.dK kvs)) b=f' u:=fun b u q n=>by rw[aj (ne b u q n)];exact q
 refine I.un (h':=s.heap) (t':=s.toks) ⟨fun b _ q _ _ _=>q,fun b ob q _ _ _=>⟨ob.slots,q⟩,fun b ob q n _=>?_,fun b ob q _=>⟨ob,q⟩,fun b xs q=>kp b _ q (by intro z;cases z),fun b ob u q=>kp b _ q (by intro z;cases z),fun b pp pq q=>kp b _ q (by intro z;cases z)⟩ fun b u q=>?_
 .rw[aj (fun z=>by rw[z,e] at n;cases n)];exact n
 .by_cases hb:b=d
  .subst hb
   rw[ag] at q;cases q
   exact⟨ho,(I.UP _ _ e)⟩
  .rw[aj hb] at q
   exact(I.UP b u q).WY (fun c v _ r=>r) (fun c r=>kp c _ r (by intro z;cases z)) (fun c xs r=>kp c _ r (by intro z;cases z)) fun c ob r=>kp c _ r (by intro z;cases z)
theorem Inv.Qh3 (I:Inv X aa σ H s) (hX:∀ o u,X.H₀ d≠f' (.UZ o u)) (e:H d=f' (.UZ o (.dK kvs))):Inv X aa σ (upd H d (.dK kvs)) s:=by
 have ne:∀ b u,H b=f' u→(∀ o v,u≠.UZ o v)→b≠d:=fun b u q n z=>by rw[z,e] at q;cases q;exact n _ _ rfl
 have kp:∀ b u,H b=f' u→(∀ o v,u≠.UZ o v)→upd H d (.dK kvs) b=f' u:=fun b u q n=>by rw[aj (ne b u q n)];exact q
 have nn:∀ b,H b=i'→upd H d (.dK kvs) b=i':=fun b q=>by rw[aj (fun z=>by rw[z,e] at q;cases q)];exact q
 have un:Un X.fs X.ex X.H₀ (upd H d (.dK kvs)) X.s₀.heap s.heap:=by
  obtain⟨b1,b2,b3,b4,b5,b6,b7⟩:=I.base
  refine⟨b1,b2,fun b ob q n x=>nn b (b3 b ob q n x),b4,fun b xs q=>kp b _ (b5 b xs q) (by intro _ _ z;cases z),fun b ob u q=>?_,fun b pp pq q=>?_⟩
  .rw[aj (fun z=>hX ob u (by rw[← z];exact q))];exact b6 b ob u q
  .exact kp b _ (b7 b pp pq q) (by intro _ _ z;cases z)
 refine {I with base:=un,free:=nn _ I.free,V6:=fun x c q=>nn _ (I.V6 x c q),pin:=fun p hp=>?_,UP:=fun b u q=>?_}
 .obtain⟨p1,p2,p3⟩:=I.pin p hp
  exact⟨p1,nn _ p2,p3⟩
 .by_cases hb:b=d
  .subst hb
   rw[ag] at q;cases q
   exact(I.UP _ _ e).2
  .rw[aj hb] at q
   exact(I.UP b u q).WY (fun c v _ r=>r) (fun c r=>kp c _ r (by intro _ _ z;cases z)) (fun c xs r=>kp c _ r (by intro _ _ z;cases z)) fun c ob r=>by rw[aj (fun z=>by rw[z,e] at r;cases r)];exact r
theorem Inv.Qh4 (I:Inv X aa σ H s) (e:H d=f' (.dK kvs)):∀ o u,X.H₀ d≠f' (.UZ o u):=fun o u q=>by
 have:=I.base.WC d o u q
 rw[e] at this;cases this
inductive Qh5 (t:TE) (σ:St) (H:Hp) (Q:VK):Prop
 | mk (d kvs:_) (_:H d=f' (.dK kvs)) (_:t σ H fun v H1=>∃ o,H1 d=f' (.UZ o (.dK kvs))∧Q v (upd H1 d (.dK kvs)))
theorem Of {t:TE} (h:PE X e t):PE X e (Qh5 t):=by
 intro aa s σ H Q I q
 obtain⟨d,kvs,hd,q⟩:=q
 exact UV (h aa s σ H _ I q) fun u s1 ⟨x,H1,I1,r,o,e1,q1⟩=>⟨x,_,I1.Qh3 (I.Qh4 hd) e1,r,q1⟩
def rp (v d:F'):HO:=.ext fun h=>h.IsItemsView v d
inductive Qh6 (x:V) (vs:List V) (H:Hp) (Q:VK):Prop
 | mk (d kvs:_) (_:x=.ref d) (_:vs=[]) (_:H d=f' (.dK kvs)) (_:∀ v,H v=i'→Q (.ref v) (upd H v (rp v d)))
theorem Ki:Zm X "dict.items" Qh6:=by
 intro aa s σ H x xs v us Q I rx r h
 obtain⟨d,kvs,rfl,rfl,e,q⟩:=h
 obtain rfl:v=UW d:=rx
 cases r
 obtain⟨z,hd,vs,rel,dd⟩:=o5 I.UP e
 refine ZN QeK dd.typeIs PySem.F.entry_dict_items (PySem.F.args_dict_items_1 _) (meets_dict_items (b9 X.prog X.w) d hd) ⟨⟨vs,dd⟩,?_⟩
 refine⟨.ref s.heap.objs.size,_,I.laid (t':=s.toks) (o:=rp s.heap.objs.size d) (fun b ob q=>Ra _ q) (Re _) ?_,O,q _ (I.UP.fresh (Re _))⟩
 exact⟨⟨_,Ri _ O,O,O⟩,⟨_,Ri _ O⟩,fun h1 h2 ⟨o,a,r⟩ k=>⟨o,k o a,r⟩⟩
def Iti (d:F') (o:U6) (kvs:List (Key×V)):It:=
 ⟨fun i H=>H d=f' (.UZ o (.dK kvs))∧i<kvs.length,fun i H v H'=>∃ T k x,v=.ref T∧H T=i'∧kvs[i]?=f' (k,x)∧H'=upd H T (.tup [kV k,x]),fun i H=>H d=f' (.UZ o (.dK kvs))∧kvs.length≤i⟩
def Qh7 (h:Vb) (it d:F') (o:U6) (n i:Nat):Prop:=∃ es ep ok ov,o.data=.dict es ep∧IsItemIter h it d i n ep ok ov
theorem Qdy {k:Key} (h:(b9 P w).is k u=B'):aC (kV k) u:=by
 rcases ko (show ly k u=B' from h) with⟨i,t,rfl,rfl⟩|⟨x,t,rfl,rfl⟩
 .exact⟨t,O⟩
 .exact⟨t,O⟩
theorem KV.get {kvs:List (Key×V)}{vs:List (Key×L')} (r:KV kvs vs):∀ {i:Nat}{k:Key}{x:V},kvs[i]?=f' (k,x)→∃ u,vs[i]?=f' (k,u)∧aC x u:=by
 induction r with
 | nil=>intro i k x e;simp at e
 | @cons p q l1 l2 h t ih=>
  intro i k x e
  cases i with
  | zero=>
   simp at e
   subst e
   exact⟨q.2,by simp only[List.getElem?_cons_zero,QoQ];exact Prod.ext h.1.symm O,h.2⟩
  | succ i=>exact ih (by simpa using e)
theorem Pn:Qby table "dict_itemiterator.__iter__"=f' W'.«dict_keyiterator.__iter__»:=Qgs (id':="dict_keyiterator.__iter__") (by kernel_rfl) rfl (by decide +kernel) (by kernel_rfl)
theorem MJ {K:R'}{k:Nat}:mf P w K (.Tuple es k pos) (Iti d o kvs) [it] it (fun i h=>Qh7 h it d o kvs.length i) where
 mem:=by simp
 obj:=fun i h st b hb=>by
  have e:b=it:=by simpa using hb
  subst e
  obtain⟨_,_,_,_,_,e⟩:=st
  exact⟨_,e,fun v q=>by simp at q⟩
 keep:=fun i h h' st kk=>by
  obtain⟨a,b,c,e,q,y⟩:=st
  exact⟨a,b,c,e,q,kk it (by simp) _ y⟩
 item:=by
  intro X hP hw hK hc i aa s σ H E I hf st hg
  subst hP hw hK
  obtain⟨hd,b8⟩:=hg
  obtain⟨i9,ep,ok,ov,aG,aZ⟩:=st
  obtain⟨f0,f1,f2,f3,f4,f5⟩:=hf it (by simp)
  obtain⟨ho,wG⟩:=I.UP _ _ hd
  obtain⟨z,sH,vs,rel,⟨o',Hu,GK,mS,om,eS,r2⟩⟩:=wG
  rw[ho] at mS;cases mS
  rw[aG] at eS;cases eS
  have m8:s.heap.DictAt (b9 X.prog X.w) d vs ep:=⟨o,i9,ho,om,aG,r2⟩
  obtain⟨⟨kk,x⟩,hx⟩:∃ p,kvs[i]?=f' p:=⟨kvs[i],by simp[b8]⟩
  obtain⟨u,hu,ru⟩:=rel.get hx
  have av:kvs.length=vs.length:=rel.length
  rw[av] at aZ
  refine wpAny_pyNext_items_item aZ m8 hu fun key h' d8 a1 a2 a3 IH=>⟨_,O,?_⟩
  refine wpAny_letOwnedTupleGo_items (s:={s with heap:=h'}) a1 fun eD eY bZ=>?_
  have p7:H s.heap.objs.size=i':=I.UP.fresh (Re _)
  have nT:s.heap.objs.size≠it:=US (Rj (Rc aZ))
  have I1:Inv X aa σ (upd H s.heap.objs.size (.tup [kV kk,x])) {s with heap:=s.heap.push {cls:=.type "tuple",data:=.seq #[key,u]} }:=
   I.laid (t':=s.toks) (fun b o e=>Ra _ e) (Re _) ⟨by show 2≤S';decide,[key,u],.cons (Qdy d8) (.cons ru .nil),⟨_,Ri _ rfl,O,_,O⟩⟩
  have Ag:upd H s.heap.objs.size (.tup [kV kk,x]) it=i':=by rw[aj (US nT)];exact f0
  have I2:Inv X aa σ (upd H s.heap.objs.size (.tup [kV kk,x])) {s with heap:=eD}:=I1.turned (t':=s.toks) (fun b ob hb e=>by
   rcases TB e with⟨rfl,rfl⟩|e
   .exact bZ.extBut _ _ hb a2
   .exact bZ.extBut _ _ hb (IH b ob hb e)) Ag f1 f3 f4 f5
  refine⟨.ref s.heap.objs.size,_,I2,O,⟨_,kk,x,O,p7,hx,O⟩,⟨i9,ep,key,u,aG,by rw[av];exact eY⟩,fun b hb=>?_⟩
  have e:b=it:=by simpa using hb
  subst e
  exact Ag
 done:=by
  intro X hP hw hK hc i aa s σ H E I hf st hg
  subst hP hw hK
  obtain⟨hd,qo⟩:=hg
  obtain⟨i9,ep,ok,ov,aG,aZ⟩:=st
  obtain⟨f0,f1,f2,f3,f4,f5⟩:=hf it (by simp)
  obtain⟨ho,wG⟩:=I.UP _ _ hd
  obtain⟨z,sH,vs,rel,⟨o',Hu,GK,mS,om,eS,r2⟩⟩:=wG
  rw[ho] at mS;cases mS
  rw[aG] at eS;cases eS
  have m8:s.heap.DictAt (b9 X.prog X.w) d vs ep:=⟨o,i9,ho,om,aG,r2⟩
  have av:kvs.length=vs.length:=rel.length
  rw[av] at aZ
  have nc:∃ cs,VQ X.A cs∧Vi s.heap cs∧it∉cs:=by
   rcases I.X2 with e|⟨b,cs,e,c⟩
   .exact⟨[],.inl ⟨e,O⟩,⟨SA,fun j a q=>by simp at q⟩,by simp⟩
   .exact⟨b::cs,.inr ⟨b,cs,O,e⟩,c.ZX I.UP,c.ZY f0⟩
  obtain⟨cs,cU,ch,nW⟩:=nc
  exact Mh cU ch nW aZ m8 (Up (by rw[← av];exact qo)) fun h' eb=>⟨O,I.turned (t':=s.toks) (fun b o hb e=>eb b o hb e) f0 f1 f3 f4 f5⟩
 self:=fun A i s Q E st h=>by
  obtain⟨i9,ep,ok,ov,aG,aZ⟩:=st
  have hT:s.TypeIs (.ref it) "dict_itemiterator":=⟨_,aZ,O⟩
  refine wpAny_pyIter_slot hT Qeu (R3 Qeu hT Pn ?_ (PySem.F.args_dict_itemiterator_iter_1 _))
  show M' _ _ (ret (.ref it)) _ _ s
  exact Rb ⟨_,O,"dict_itemiterator",_,hT,Qci.lookup,h⟩
inductive Qh8 (R:(It→Hp→Prop)) (x:V) (H1:Hp):Prop
 | mk (v d kvs:_) (_:x=.ref v) (_:H1 v=f' (rp v d)) (_:H1 d=f' (.dK kvs)) (_:∀ o,R (Iti d o kvs) (upd H1 d (.UZ o (.dK kvs))))
def Qh9 (tl:TE):TI:=fun σ H R=>tl σ H fun x H1=>Qh8 R x H1
theorem JZ {k:Nat} (hl:PE X l tl):PI X (.Tuple es k Zi) l (Qh9 tl):=by
 intro aa s σ H R I h
 refine UV (hl aa s σ H _ I h) fun w s1=>L2.U7 fun x H1 I1 r1 aW=>?_
 obtain⟨v,d,kvs,e,hv,hd,q⟩:=aW
 subst e
 obtain rfl:w=UW v:=r1
 obtain⟨z,sH,vs,rel,dd⟩:=o5 I1.UP hd
 obtain⟨o,i9,ep,ho,hx,aG,r⟩:=id dd
 have m8:s1.heap.DictAt (b9 X.prog X.w) d vs ep:=⟨o,i9,ho,hx,aG,r⟩
 refine wpAny_pyIter_items (I1.UP _ _ hv).1 m8 ?_
 have I2:=(I1.freeze hd ho).kept (t':=s1.toks) (h':=s1.heap.push {cls:=.type "dict_itemiterator",data:=.fields #[.none,.bool K',.ref d,.int 0 0,.int vs.length 0,.int ep 0,.none,.none]}) fun b o e=>Ra _ e
 refine⟨s1.heap.objs.size,[s1.heap.objs.size],_,_,_,O,I2,MJ,⟨i9,ep,.none,.none,aG,?_⟩,fun b hb=>?_,q o⟩
 .rw[rel.length];exact Ri _ rfl
 .have e:b=s1.heap.objs.size:=by simpa using hb
  subst e
  refine I1.WO (Re _) ?_
  rw[aj (US (Rj (Rc ho)))]
  exact I1.UP.fresh (Re _)
theorem PM {Q:VK} (Pv:Nat→St→Hp→Prop) (h0:Pv 0 τ H) (hf:∀ i τ H,i≤kvs.length→Pv i τ H→H d=f' (.UZ o (.dK kvs)))
  (hs:∀ i k x T τ H,kvs[i]?=f' (k,x)→H T=i'→Pv i τ H→g (.ref T) τ (upd H T (.tup [kV k,x])) fun τ2 H2=>tt τ2 H2 fun b H3=>
   if b=B' then te τ2 H3 fun y H4=>∃ ys,H4 D=f' (.lst ys)∧ys.length<S'∧Pv (i+1) τ2 (upd H4 D (.lst (ys++[y]))) else Pv (i+1) τ2 H3)
  (hd:∀ τ H,Pv kvs.length τ H→Q (.ref D) H):jK (Iti d o kvs) D τ H g tt te Q:=
 X4 (n:=kvs.length) Pv h0 (fun i σ H hi p=>⟨fun h=>⟨hf i σ H hi p,h⟩,fun h=>⟨hf i σ H hi p,h⟩⟩) (fun i v σ H H' hi p y=>by
 obtain⟨T,k,x,rfl,hT,hx,rfl⟩:=y
 exact hs i k x T σ H hx hT p) hd
theorem Fz {K:R'}{ys:List V}{Q:VK} (av:xs.length=ys.length) (Pv:Nat→St→Hp→Prop) (h0:Pv 0 τ H) (hl:∀ i τ H,i≤xs.length→Pv i τ H→P' K H l1 xs∧P' K H l2 ys)
  (hs:∀ i x y T τ H,xs[i]?=f' x→ys[i]?=f' y→H T=i'→Pv i τ H→g (.ref T) τ (upd H T (.tup [x,y])) fun τ2 H2=>tt τ2 H2 fun b H3=>
   if b=B' then te τ2 H3 fun y H4=>∃ ys,H4 D=f' (.lst ys)∧ys.length<S'∧Pv (i+1) τ2 (upd H4 D (.lst (ys++[y]))) else Pv (i+1) τ2 H3)
  (hd:∀ τ H,Pv xs.length τ H→Q (.ref D) H):jK (Itz K l1 l2) D τ H g tt te Q:=
 X4 (n:=xs.length) Pv h0 (fun i σ H hi p=>⟨fun h=>⟨xs,ys,xs[i],ys[i],(hl i σ H hi p).1,(hl i σ H hi p).2,by simp[h],by simp[show i<ys.length by lia]⟩,fun h=>⟨xs,ys,(hl i σ H hi p).1,(hl i σ H hi p).2,.inl h⟩⟩) (fun i v σ H H' hi p y=>by
 obtain⟨T,x,y,rfl,hT,rfl,hx,hy⟩:=y
 exact hs i x y T σ H (hx xs (hl i σ H (Sg hi) p).1) (hy ys (hl i σ H (Sg hi) p).2) hT p) hd
theorem xO:Wb "int"=f' (.type "int"):=by decide +kernel
variable {D:eJ}{P:List L'→Prop}{b:Bool}{l:F'}{ns ps:List Int}{tb:TS}
theorem yN:Wb "str"=f' (.type "str"):=by decide +kernel
theorem J3:Wb "bool"=f' (.type "bool"):=by decide +kernel
theorem uw:Wb "list"=f' (.type "list"):=by decide +kernel
theorem CH:Wb "dict"=f' (.type "dict"):=by decide +kernel
theorem K3:Wb "ValueError"=f' (.type "ValueError"):=by decide +kernel
theorem fV:Wb "isinstance"=f' (.builtin "isinstance"):=by decide +kernel
theorem sj:Wb "all"=f' (.builtin "all"):=by decide +kernel
theorem FT:Wb "any"=f' (.builtin "any"):=by decide +kernel
theorem dr:Wb "len"=f' (.builtin "len"):=by decide +kernel
theorem Qia:Wb "min"=f' (.builtin "min"):=by decide +kernel
theorem Qib:Wb "max"=f' (.builtin "max"):=by decide +kernel
theorem Cm:Wb "sum"=f' (.builtin "sum"):=by decide +kernel
theorem O4 (bs:List Bool) (d:Bool):(VO bs.length).all (fun i=>bs.getD i d)=bs.all id:=by
 induction bs with
 | nil=>rfl
 | cons b bs ih=>
  rw[Rn,Tn,Tq,S4,Tq,← ih]
  rfl
theorem NO (bs:List Bool) (d:Bool):(VO bs.length).any (fun i=>bs.getD i d)=bs.any id:=by
 induction bs with
 | nil=>rfl
 | cons b bs ih=>
  rw[Rn,Tn,SR,List.any_map,SR,← ih]
  rfl
theorem E5 {bs:List Bool} (r:aA (bs.map V.bl) us) (h:us[i]?=f' v):v=.bool (bs.getD i B'):=by
 have hl:(bs.map V.bl).length=us.length:=r.length
 have hi:i<bs.length:=by
  have:=(VJ.mp h).1
  rw[Q9] at hl
  lia
 obtain⟨u,hu,ru⟩:=r.get (i:=i) (x:=.bl bs[i]) (by simp[hi])
 rw[h] at hu;cases hu
 rw[Rr,Rm hi]
 exact ru
theorem rA:fZ X (.builtin "all") (fun xs H Q=>∃ p,∃ bs:List Bool,xs=[.ref p]∧P' X.K H p (bs.map V.bl)∧Q (.bl (bs.all id)) H):=by
 intro aa s σ H xs us Q I r h
 obtain⟨p,bs,rfl,hq,q⟩:=h
 obtain⟨u,rfl,ru⟩:=gY r
 obtain rfl:u=UW p:=ru
 obtain⟨ah,rv,pl,_⟩:=I.list hq
 obtain⟨cs,cU,ch⟩:=I.hd.chain
 have b8:p<s.heap.objs.size:=by obtain⟨o,e,_⟩:=pl.isList;exact Rc e
 have lP:s.heap.objs.size∉cs:=fun z=>RE _ (ch.lt _ z)
 have av:ah.length=bs.length:=by rw[← rv.length,Q9]
 refine call_all_walk (SH pl.isList ⟨s.heap.objs.size,_,_,_,_,_,fun i=>bs.getD i B',O,rH (A:=X.A.in1) cU s.heap.objs.size p (Rj b8) lP ah.toArray,⟨⟨_,Ri _ O,O,O⟩,pl.isList.push _,ch.mono fun b o _ e=>Ra _ e⟩,?_,fun h' tk hk=>?_⟩)
 .intro i v s' Q' E' hv vX
  have cX:ah[i]?=f' v:=by simpa using hv
  rw[E5 rv cX]
  exact Sd vX
 .have e:(VO ah.toArray.size).all (fun i=>bs.getD i B')=bs.all id:=by rw[Rl,av];exact O4 bs B'
  rw[e]
  exact⟨.bl _,H,I.kept fun b o e=>hk b o (fun z=>by
   have:b=s.heap.objs.size:=by simpa using z
   exact UX (Rc e) (by rw[this];exact RE _)) (Ra _ e),O,q⟩
theorem Ee:fZ X (.builtin "any") (fun xs H Q=>∃ p,∃ bs:List Bool,xs=[.ref p]∧P' X.K H p (bs.map V.bl)∧Q (.bl (bs.any id)) H):=by
 intro aa s σ H xs us Q I r h
 obtain⟨p,bs,rfl,hq,q⟩:=h
 obtain⟨u,rfl,ru⟩:=gY r
 obtain rfl:u=UW p:=ru
 obtain⟨ah,rv,pl,_⟩:=I.list hq
 obtain⟨cs,cU,ch⟩:=I.hd.chain
 have b8:p<s.heap.objs.size:=by obtain⟨o,e,_⟩:=pl.isList;exact Rc e
 have lP:s.heap.objs.size∉cs:=fun z=>RE _ (ch.lt _ z)
 have av:ah.length=bs.length:=by rw[← rv.length,Q9]
 refine call_any_walk (SH pl.isList ⟨s.heap.objs.size,_,_,_,_,_,fun i=>bs.getD i B',O,rH (A:=X.A.in1) cU s.heap.objs.size p (Rj b8) lP ah.toArray,⟨⟨_,Ri _ O,O,O⟩,pl.isList.push _,ch.mono fun b o _ e=>Ra _ e⟩,?_,fun h' tk hk=>?_⟩)
 .intro i v s' Q' E' hv vX
  have cX:ah[i]?=f' v:=by simpa using hv
  rw[E5 rv cX]
  exact Sd vX
 .have e:(VO ah.toArray.size).any (fun i=>bs.getD i B')=bs.any id:=by rw[Rl,av];exact NO bs B'
  rw[e]
  exact⟨.bl _,H,I.kept fun b o e=>hk b o (fun z=>by
   have:b=s.heap.objs.size:=by simpa using z
   exact UX (Rc e) (by rw[this];exact RE _)) (Ra _ e),O,q⟩
theorem Ny {P:Vv}:∀ {kvs:List (Key×V)}{vs:List (Key×L')}{acc:List L'},KV kvs vs→acc.length=vs.length→(∀ (i:Nat) (v:L'),acc[i]?=f' v→∃ k x,vs[i]?=f' (k,x)∧(b9 P w).is k v=B')→aA (kvs.map fun kv=>kV kv.1) acc:=by
 intro kvs vs acc r
 induction r generalizing acc with
 | nil=>
  intro hl _
  cases acc with
  | nil=>exact .nil
  | cons _ _=>simp at hl
 | @cons p q ps qs h t ih=>
  intro hl hk
  cases acc with
  | nil=>simp at hl
  | cons v acc=>
   obtain⟨k,x,e,hv⟩:=hk 0 v rfl
   simp at e
   subst e
   refine .cons ?_ (ih (by simpa using hl) fun i v' cX=>by simpa using hk (i+1) v' (by simpa using cX))
   show aC (kV p.1) v
   rw[h.1]
   exact Qdy hv
theorem OV:fZ X (.type "list") (fun xs H Q=>∃ d kvs,xs=[.ref d]∧H d=f' (.dK kvs)∧∀ l,H l=i'→Q (.ref l) (upd H l (.lst (kvs.map fun kv=>kV kv.1)))):=by
 intro aa s σ H xs us Q I r h
 obtain⟨d,kvs,rfl,hd,q⟩:=h
 obtain⟨u,rfl,ru⟩:=gY r
 obtain rfl:u=UW d:=ru
 obtain⟨z,sH,vs,rel,dd⟩:=o5 I.UP hd
 obtain⟨ep,m8⟩:=dd.dictAt
 obtain⟨cs,cU,ch⟩:=I.hd.chain
 refine LO cU sH m8 ch (by rw[← rel.length];exact z) fun s' acc c' kp g1 g2 g3 hS ha=>?_
 have rv:aA (kvs.map fun kv=>kV kv.1) acc.toList:=Ny rel (by simpa using ha.1) fun i v hv=>ha.2 i v (by simpa using hv)
 have I':Inv X aa σ (upd H s.heap.objs.size (.lst (kvs.map fun kv=>kV kv.1))) {s with heap:=s'.heap,toks:=s'.toks}:=
  I.laid kp (Re _) ⟨by rw[Q9];exact z,acc.toList,c',rv,by simpa using hS⟩
 obtain⟨h',g',d',t',tG⟩:=s'
 dsimp only at g1 g2 g3 I'
 subst g1 g2 g3
 exact⟨.ref s.heap.objs.size,_,I',O,q _ (I.UP.fresh (Re _))⟩
section
variable {K:R'} (hK:X.K=K)
include hK
theorem uB:YN X (Qdn K):=hK ▸ bA
theorem lC:YN X (QbI K):=hK ▸ fe
theorem uQ {f:C'} (he:PE X e ta) (hb:Yc e f X.env (U2 e X.env)=U2 e X.env):PE X (.Attribute e f pos) (Qdw K ta f):=hK ▸ rM he hb
theorem kX {k:Nat}{t:YL} (hc:X.calm=B') (h:Z1 X es t) (hn:(XS es X.env).length=n:=by rfl) (dZ:(XS es X.env).findIdx? (·.1)=i':=by rfl):PG X (.Tuple es k pos) (Qdb K n t):=hK ▸ kg hc h hn dZ
theorem uR {o:U3}{to:TE}{t:TA}{aI:VC}{T id:String}{r:V→List V→Hp→VK→Prop} (pa:Qc1 T) (slot:Slot T name id) (qv:typeOf (.builtin id)=pure (.type "method_descriptor")) (hm:Zm X id r) (ho:PE X o to) (ha:PA X (e::es) t)
  (fK:Yc o name X.env (U2 o X.env)=U2 o X.env:=by rfl)
  (nk:((Vx aw (U1 (e::es) X.env)).all (fun x=>!x.1) && (Xl aw (Xj [] X.env)).all (fun x=>x.1.isSome) && decide ((e::es).length+([]:List Yh).length+(if ([]:List Yh).isEmpty then 0 else 1)<30))=B':=by rfl)
  (fE:(aI.endLine == aw.line)=B':=by rfl) (hs:U1 (e::es) X.env=(K',U2 e X.env)::U1 es X.env:=by rfl) (gE:(Vx aw (U1 es X.env)).any (·.1)=K':=by rfl) :
  PE X (.Call (.Attribute o name aI) (e::es) [] aw) (tBM K T r to t):=hK ▸ eA pa slot qv hm ho ha fK nk fE hs gE
end
section
theorem NP (hc:VQ A cs) (I ax:F') (gc:ax≠I) (hI:I∉cs) (items:Array L') :
  Zg prog w A I (I::ax::cs) [I] items.size (fun i v=>items[i]?=f' v) (fun i h=>h.IsTupleIter I ax i∧h.IsTuple ax items∧Vi h cs) where
 sub:=fun b hb=>by simp at hb;simp[hb]
 frame:=fun _ _ _ st hk=>⟨st.1.at fun o e=>hk I (by simp) o e,st.2.1.at fun o e=>hk ax (by simp) o e,st.2.2.mono fun b o hb e=>hk b (by simp[hb]) o e⟩
 item:=fun i s Q E hi st hQ=>by
  refine wpAny_pyNext_tuple_item st.1 st.2.1 (x:=items[i]) (by simp[hi]) fun h' eY bZ=>?_
  exact hQ _ h' s.toks (by simp[hi]) ⟨eY,st.2.1.extBut bZ.extBut gc,st.2.2.but hI bZ.extBut⟩ fun b o hb e=>bZ.extBut b o (fun h=>hb (by simp[h])) e
 done:=fun s Q E st hQ=>Fg (hc.hd st.2.2) st.1 st.2.1 (by simp) fun h' dM=>hQ h' s.toks fun b o hb e=>dM b o (fun h=>hb (by simp[h])) e
 self:=fun _ _ _ _ st hQ=>wpAny_pyIter_tupleiter st.1 hQ
theorem Qic {a b:Int}{u:V4}{Q:L'→UM→Prop} (hc:VQ A cs) (ch:Vi s.heap cs)
  (h:∀ h' tk,(∀ c o,s.heap.get? c=f' o→h'.get? c=f' o)→Q (if b<a then .int b u else .int a t) {s with heap:=h',toks:=tk}) :
  M' (UJ prog w) A (call (.builtin "min") [.int a t,.int b u]) Q E s:=by
 have hT:(s.heap.push {cls:=.type "tuple",data:=.seq #[.int a t,.int b u]}).IsTuple s.heap.objs.size (Yf #[(a,t),(b,u)]):=⟨_,Ri _ O,O,0,by simp[Yf]⟩
 refine call_min_two (wpAny_pyIter_tuple hT ?_)
 have hsz:(s.heap.push {cls:=.type "tuple",data:=.seq #[.int a t,.int b u]}).objs.size=s.heap.objs.size+1:=RL ..
 have ns:∀ k,s.heap.objs.size≤k→k∉cs:=fun k hk z=>UX (ch.lt _ z) (Qbs.mpr hk)
 refine⟨_,_,[_],_,_,_,_,O,NP (A:=A.in1) hc _ s.heap.objs.size (by rw[hsz];exact Rj (Si _)) (ns _ (by rw[hsz];exact RQ _)) (Yf #[(a,t),(b,u)]),
  ⟨⟨_,Ri _ rfl,rfl,rfl⟩,hT.push _,ch.mono fun b o _ e=>Ra _ (Ra _ e)⟩,fun c hc=>?_,by simp[Yf],CmpOf.ints_lt (Yi #[(a,t),(b,u)]) (fun _ _=>intItems_at),fun v h' tk hP hk=>?_⟩
 .show c<((s.heap.push _).push _).objs.size
  rw[RL,hsz]
  rcases RY.mp hc with rfl|hc
  .rw[hsz];exact Si _
  .rcases RY.mp hc with rfl|hc
   .exact R8 (Si _)
   .exact Rw (ch.lt _ hc) (by lia)
 .have xm:∀ c o,s.heap.get? c=f' o→h'.get? c=f' o:=fun c o e=>by
   refine hk c o (fun hm=>?_) (Ra _ (Ra _ e))
   have e1:=Vh.mp hm
   have:=Rc e
   rw[e1,hsz] at this
   exact RE _ (UG this)
  have:=h h' tk xm
  have hv:v=if b<a then XT b u else XT a t:=by
   have jU:(Yf #[(a,t),(b,u)])[V8 (fun i j=>decide (Yi #[(a,t),(b,u)] i<Yi #[(a,t),(b,u)] j)) 1]?=f' v:=by
    have vf:(Yf #[(a,t),(b,u)]).size-1=1:=by simp[Yf]
    rw[← vf];exact hP
   by_cases sJ:b<a
   .have e:V8 (fun i j=>decide (Yi #[(a,t),(b,u)] i<Yi #[(a,t),(b,u)] j)) 1=1:=by simp[V8,Yi,sJ]
    rw[e] at jU
    simpa [Yf,sJ] using jU.symm
   .have e:V8 (fun i j=>decide (Yi #[(a,t),(b,u)] i<Yi #[(a,t),(b,u)] j)) 1=0:=by simp[V8,Yi,sJ]
    rw[e] at jU
    simpa [Yf,sJ] using jU.symm
  rw[hv];exact this
section
variable {κ:Type} [DecidableEq κ] {knd:KeyKind prog w κ}
end
end
theorem Nr:fZ X (.builtin "min") (fun xs H Q=>∃ i j,xs=[.int i,.int j]∧Q (.int (if j<i then j else i)) H):=by
 intro aa s σ H xs us Q I r h
 obtain⟨i,j,rfl,q⟩:=h
 obtain⟨u,w',rfl,⟨t,rfl⟩,⟨t',rfl⟩⟩:=nJ r
 obtain⟨cs,cU,ch⟩:=I.hd.chain
 refine Qic cU ch fun h' tk k=>⟨_,H,I.kept k,?_,q⟩
 by_cases hj:j<i
 .rw[UN hj,UN hj];exact⟨_,O⟩
 .rw[UL hj,UL hj];exact⟨_,O⟩
theorem yj (r:aA (ns.map V.int) us) (h:us[i]?=f' v):∃ t,v=.int (ns.getD i 0) t:=by
 induction ns generalizing us i with
 | nil=>
  cases r
  simp at h
 | cons n ns ih=>
  cases r with
  | cons rv rr=>
   cases i with
   | zero=>
    obtain⟨t,rfl⟩:=rv
    simp at h
    exact⟨t,h.symm⟩
   | succ i=>exact ih rr (by simpa using h)
theorem Kh (f:Nat→Int) (ns:List Int) (h:∀ i,f i=ns.getD i 0):preSum f ns.length=ns.sum:=by
 have e:f=fun i=>ns.getD i 0:=funext h
 rw[e,preSum_getD,Rz]
theorem Fk:fZ X (.builtin "sum") (fun xs H Q=>∃ p,∃ ns:List Int,xs=[.ref p]∧P' X.K H p (ns.map V.int)∧Q (.int ns.sum) H):=by
 intro aa s σ H xs us Q I r h
 obtain⟨p,ns,rfl,hq,q⟩:=h
 obtain⟨u,rfl,ru⟩:=gY r
 obtain rfl:u=UW p:=ru
 obtain⟨ah,rv,pl,_⟩:=I.list hq
 obtain⟨cs,cU,ch⟩:=I.hd.chain
 have b8:p<s.heap.objs.size:=by obtain⟨o,e,_⟩:=pl.isList;exact Rc e
 have lP:s.heap.objs.size∉cs:=fun z=>RE _ (ch.lt _ z)
 have av:ah.length=ns.length:=by rw[← rv.length,Q9]
 refine call_sum_walkG (SH pl.isList ⟨s.heap.objs.size,_,_,_,_,_,fun i=>ns.getD i 0,O,rH (A:=X.A.in1) cU s.heap.objs.size p (Rj b8) lP ah.toArray,⟨⟨_,Ri _ O,O,O⟩,pl.isList.push _,ch.mono fun b o _ e=>Ra _ e⟩,?_,?_,fun h' tk t' hk=>?_⟩)
 .intro b hb
  show b<(s.heap.push _).objs.size
  rw[RL]
  rcases RY.mp hb with rfl|hb
  .exact Si _
  .rcases RY.mp hb with rfl|hb
   .exact R8 b8
   .exact R8 (ch.lt _ hb)
 .intro i v hv
  exact yj rv (by simpa using hv)
 .have e:preSum (fun i=>ns.getD i 0) ah.toArray.size=ns.sum:=by rw[Rl,av];exact Kh _ _ fun _=>rfl
  rw[e]
  exact⟨.int _,H,I.kept fun b o e=>hk b o (fun z=>by
   have:b=s.heap.objs.size:=by simpa using z
   exact UX (Rc e) (by rw[this];exact RE _)) (Ra _ e),⟨_,O⟩,q⟩
theorem len0 (h:P []) (us:List L') (e:us.length=0):P us:=by
 rw[Qcm.mp e]
 exact h
theorem pi (h:∀ a us,us.length=n→P (a::us)) (us:List L') (e:us.length=n+1):P us:=by
 cases us with
 | nil=>cases e
 | cons a us=>exact h a us (Nat.succ.inj e)
theorem len1 (h:∀ a0,P [a0]):∀ us:List L',us.length=1→P us:=pi fun a=>len0 (P:=fun r=>P (a::r)) (h a)
theorem len2 (h:∀ a0 a1,P [a0,a1]):∀ us:List L',us.length=2→P us:=pi fun a=>len1 (P:=fun r=>P (a::r)) (h a)
theorem len3 (h:∀ a0 a1 a2,P [a0,a1,a2]):∀ us:List L',us.length=3→P us:=pi fun a=>len2 (P:=fun r=>P (a::r)) (h a)
theorem len4 (h:∀ a0 a1 a2 a3,P [a0,a1,a2,a3]):∀ us:List L',us.length=4→P us:=pi fun a=>len3 (P:=fun r=>P (a::r)) (h a)
theorem len5 (h:∀ a0 a1 a2 a3 a4,P [a0,a1,a2,a3,a4]):∀ us:List L',us.length=5→P us:=pi fun a=>len4 (P:=fun r=>P (a::r)) (h a)
theorem len6 (h:∀ a0 a1 a2 a3 a4 a5,P [a0,a1,a2,a3,a4,a5]):∀ us:List L',us.length=6→P us:=pi fun a=>len5 (P:=fun r=>P (a::r)) (h a)
theorem dP {A B:Prop} (hb:b=K') (h:B):if b=B' then A else B:=by
 subst hb
 exact iM h
theorem jg {A B:Prop} (hb:b=B') (h:A):if b=B' then A else B:=by
 subst hb
 exact ei h
theorem bg {A B:Prop} (h1:b=B'→A) (h2:b=K'→B):if b=B' then A else B:=by
 cases b with
 | true=>exact ei (h1 O)
 | false=>exact iM (h2 O)
def isTup:HO→Bool
 | .tup _=>B'
 | .UZ _ (.tup _)=>B'
 | _=>K'
def Tk (H H':Hp):Prop:=∀ b o,H b=f' o→isTup o=B'→H' b=f' o
theorem Tk.of (e:ae H H'):Tk H H':=fun b o h _=>e b o h
theorem Tk.trans (a:Tk H H1) (b:Tk H1 H2):Tk H H2:=fun c o h z=>b c o (a c o h z) z
theorem Tk.upd {H:Hp}{c:F'}{u o:HO} (h:H c=f' u) (n:isTup u=K'):Tk H (L2.upd H c o):=fun b w e z=>by
 have:b≠c:=fun q=>by subst q;rw[h] at e;cases e;rw[n] at z;cases z
 rw[aj this]
 exact e
theorem Tk.VP {K:R'} (e:Tk H H') (h:U4 K H a xs):U4 K H' a xs:=by
 rcases h with(h|⟨o,h⟩)|h
 .exact .inl (.inl (e _ _ h O))
 .exact .inl (.inr ⟨o,e _ _ h O⟩)
 .exact .inr h
mutual
def uO:Dt→Bool
 | .lst _=>K'
 | .tup ds=>rJ ds
 | _=>B'
def rJ:List Dt→Bool
 | []=>B'
 | d::ds=>uO d && rJ ds
end
mutual
theorem Tk.dt {K:R'}{H H':Hp} (e:Tk H H'):∀ {d:Dt}{x:V},uO d=B'→VI K H d x→VI K H' d x
 | .UU,_,_,h=>h
 | .bl _,_,_,h=>h
 | .int _,_,_,h=>h
 | .str _,_,_,h=>h
 | .lst ds,_,z,h=>by cases z
 | .tup ds,_,z,h=>by
  obtain⟨a,xs,e1,h1,h2⟩:=h
  exact⟨a,xs,e1,e.VP h1,e.Vf z h2⟩
theorem Tk.Vf {K:R'}{H H':Hp} (e:Tk H H'):∀ {ds:List Dt}{xs:List V},rJ ds=B'→bv K H ds xs→bv K H' ds xs
 | [],_,_,h=>h
 | d::ds,_,z,h=>by
  obtain⟨y,ys,e1,h1,h2⟩:=h
  have z':=(Rt _ _).mp z
  exact⟨y,ys,e1,e.dt z'.1 h1,e.Vf z'.2 h2⟩
end
theorem cw {α:Type}{f:α→Dt} (h:∀ x,uO (f x)=B'):∀ l:List α,rJ (l.map f)=B'
 | []=>rfl
 | x::l=>by
  show(uO (f x) && rJ (l.map f))=B'
  rw[h x,cw h l]
  rfl
theorem FA {α:Type}{f:α→Dt} (h:∀ x,lj n (f x)) (l:List α):fk n (l.map f):=fk.of fun d hd=>by
 obtain⟨x,_,rfl⟩:=Wx.mp hd
 exact h x
theorem gm {K:R'}{α:Type}{f:α→Dt}{l:List α}{x:V} (h:bv K H (l.map f) xs) (e:xs[i]?=f' x):∃ q,l[i]?=f' q∧VI K H (f q) x:=by
 have hi:i<l.length:=by
  have h1:=h.length
  rw[Q9] at h1
  have:=(VJ.mp e).1
  lia
 obtain⟨q,hq⟩:=jL hi
 obtain⟨y,hy,hd⟩:=h.get (j:=i) (d:=f q) (by rw[RD,hq];rfl)
 rw[e] at hy
 cases hy
 exact⟨q,hq,hd⟩
theorem cJ {α:Type}{l:List α}{q:α} (h:l[i]?=f' q):l.take (i+1)=l.take i++[q]:=by
 rw[TY,h]
 rfl
def V' (H:Hp) (xs:List V):Prop:=∀ x∈xs,∃ q zs,x=V.ref q∧H q=f' (.tup zs)
theorem V'.tk (h:V' H xs) (e:Tk H H'):V' H' xs:=fun x hx=>by
 obtain⟨q,zs,rfl,hq⟩:=h x hx
 exact⟨q,zs,O,e _ _ hq O⟩
theorem V'.snoc {zs:List V} (h:V' H xs) (hz:H z=f' (.tup zs)):V' H (xs++[.ref z]):=fun x hx=>by
 rcases We.mp hx with q|q
 .exact h x q
 .exact⟨z,zs,Vh.mp q,hz⟩
theorem V'.nil:V' H []:=fun x hx=>by simp at hx
theorem Qid {k:Int} (h0:0≤k) (h1:k<ns.length):∃ c,VH (ns.map V.int) k=f' (.int c):=by
 refine⟨ns.getD k.toNat 0,?_⟩
 unfold VH XA
 rw[UN h0,UN (by rw[Q9];exact h1)]
 show(ns.map V.int)[k.toNat]?=_
 rw[RD,Rr,Rm (show k.toNat<ns.length by lia)]
 rfl
theorem Qie {α β:Type}{C I:α→β→Hp→Prop}{G:Prop} (h:∀ x y H,I x y H→C x y H) (g:(∀ x y H,I x y H→C x y H)→G):G:=g h
def pz (ps:List Int) (k:Int):Int:=ps.getD k.toNat 0
theorem rO {k:Int} (h0:0≤k) (h1:k<ps.length):VH (ps.map V.int) k=f' (.int (pz ps k)):=by
 unfold VH XA pz
 rw[UN h0,UN (by rw[Q9];exact h1)]
 show(ps.map V.int)[k.toNat]?=_
 rw[RD,Rr,Rm (show k.toNat<ps.length by lia)]
 rfl
theorem yX {k:Int} (h0:0≤k) (h1:k<n):XA n k=f' k.toNat:=by
 unfold XA
 rw[UN h0,UN h1]
theorem jH {α:Type}{xs:List α}{k:Int} (h0:0≤k):VH xs k=xs[k.toNat]?:=by
 unfold VH XA
 rw[UN h0]
 by_cases h:k<xs.length
 .rw[UN h];rfl
 .rw[UL h]
  show i'=_
  rw[Up (by lia)]
theorem yB {K:R'}{H:Hp}:∀ ns:List Int,bv K H (ns.map Dt.int) (ns.map V.int)
 | []=>rfl
 | _::r=>⟨_,_,O,O,yB r⟩
theorem Pb (ns:List Int):fk n (ns.map Dt.int):=FA (fun _=>by cases n<;>trivial) _
def Ite (K:R') (l:F'):It:=
  ⟨fun i H=>∃ xs x,P' K H l xs∧xs[i]?=f' x,
   fun i H v H'=>∃ T x,v=.ref T∧H T=i'∧H'=upd H T (.tup [.int i,x])∧∀ xs,P' K H l xs→xs[i]?=f' x,
   fun i H=>∃ xs,P' K H l xs∧xs.length≤i⟩
theorem PH {e:F'}{items:Array L'}{old:L'} (hd:Hd A s.heap)
  (he:IsEnum s.heap e it i old) (aZ:s.heap.IsListIter it l i) (hl:s.heap.IsList l items) (hx:items[i]?=i')
  (hQ:∀ h',Xi it s.heap h'→Q i' {s with heap:=h'}):M' (UJ prog w) A (Vz (.ref e)) Q E s:=by
 have ht:s.TypeIs (.ref e) "enumerate":=⟨_,he,O⟩
 unfold Vz
 refine mK (Sa (RN (name:=UO "__next__") ht Qfi (R3 Qfi ht F.entry_enumerate_next ?_ (F.args_enumerate_next_1 _))))
 refine(show M' _ _ (Wc (.ref e) 2 >>= _) _ _ _ from mK (RH he O (x:=.ref it) O ?_))
 refine mK (rQ (A:=A.in1) hd aZ hl hx fun h' x dM mW=>?_)
 obtain⟨o,ho,hc⟩:=mW
 exact mK (Sb (T:="StopIteration") (b:=B') ⟨o,ho,hc⟩ XO (Rb (hQ _ dM)))
def Qif (h:Vb) (e it l:F') (i:Nat):Prop:=∃ old,IsEnum h e it (i:Int) old∧h.IsListIter it l i
theorem MZ {P:Vv}{K:R'}{k:Nat}{e:F'} (gc:e≠it) :
  mf P w K (.Tuple es k pos) (Ite K l) [e,it] e (fun i h=>Qif h e it l i) where
 mem:=by simp
 obj:=fun i h st b hb=>by
  obtain⟨old,he,⟨o1,e1,c1,d1⟩⟩:=st
  simp only[RY,RJ,WA] at hb
  rcases hb with rfl|rfl
  .exact⟨_,he,fun v q=>by simp at q⟩
  .exact⟨_,e1,fun v q=>by rw[d1] at q;cases q⟩
 keep:=fun i h h' st k=>by
  obtain⟨old,he,h1⟩:=st
  exact⟨old,k e (by simp) _ he,h1.at fun o q=>k it (by simp) o q⟩
 item:=by
  intro X hP hw hK hc i aa s σ H E I hf st hg
  subst hP hw hK
  obtain⟨xs,x,q1,hx⟩:=hg
  obtain⟨old,he,h1⟩:=st
  obtain⟨ah,rv,pl,_⟩:=I.list q1
  obtain⟨u,hu,ru⟩:=rv.get hx
  have nf:∀ b∈[e,it],b∉VG X.stack:=fun b hb q=>(RY.mp (I.W0 b q)).elim (hf b hb).2.1 (hf b hb).2.2.1
  refine wpAny_pyNext_enum_item he h1 pl.isList (x:=u) (by simpa using hu) gc fun h' a1 a2 a3 a4 hk=>⟨_,O,?_⟩
  refine wpAny_letOwnedTupleGo_enum (s:={s with heap:=h',toks:=s.toks+1}) a1 fun eD lH bZ=>?_
  replace bZ:XR e h' eD:=bZ
  have p7:H s.heap.objs.size=i':=I.UP.fresh (Re _)
  have HH:=Rc he
  have xA:∀ b o,b≠e→b≠it→s.heap.get? b=f' o→eD.get? b=f' o:=fun b o n1 n2 q=>bZ.extBut b o n1 (hk b o n1 n2 q)
  have I1:Inv X aa σ (upd H s.heap.objs.size (.tup [.int i,x])) {s with heap:=s.heap.push {cls:=.type "tuple",data:=.seq #[.int i s.toks,u]},toks:=s.toks+1}:=
   I.laid (t':=s.toks+1) (fun b o q=>Ra _ q) (Re _) ⟨by show 2≤S';decide,[.int i s.toks,u],.cons ⟨_,O⟩ (.cons ru .nil),⟨_,Ri _ rfl,O,_,O⟩⟩
  have qI:∀ b∈[e,it],cI X aa (upd H s.heap.objs.size (.tup [.int i,x])) b:=fun b hb=>by
   obtain⟨f0,r⟩:=hf b hb
   refine⟨?_,r⟩
   have lt:b<s.heap.objs.size:=by
    simp only[RY,RJ,WA] at hb
    rcases hb with rfl|rfl
    .exact HH
    .obtain⟨o,q,_⟩:=h1;exact Rc q
   rw[aj (Rj lt)];exact f0
  have I2:Inv X aa σ (upd H s.heap.objs.size (.tup [.int i,x])) {s with heap:=eD,toks:=s.toks+1}:=by
   have cN:∀ b o,(s.heap.push {cls:=.type "tuple",data:=.seq #[.int i s.toks,u]}).get? b=f' o→b≠e→b≠it→eD.get? b=f' o:=fun b o q n1 n2=>by
    rcases TB q with⟨rfl,rfl⟩|q
    .exact bZ.extBut _ _ n1 a3
    .exact xA b o n1 n2 q
   refine I1.slots (ch:=[e,it]) (tk:=s.toks+1) qI (fun b o _ hc q=>?_) (fun b o hb q=>⟨o.slots,?_⟩) (fun b hb o q=>?_)
   .simp only[RY,RJ,WA,not_or] at hc
    exact cN b o q hc.1 hc.2
   .exact cN b o q (fun z=>nf e (by simp) (z ▸ hb)) (fun z=>nf it (by simp) (z ▸ hb))
   .simp only[RY,RJ,WA] at hb
    rcases hb with rfl|rfl
    .exact⟨_,lH⟩
    .obtain⟨o,q,_⟩:=a2;exact⟨_,bZ.extBut _ _ gc.symm q⟩
  refine⟨.ref s.heap.objs.size,_,I2,O,⟨_,x,O,p7,O,fun JV q=>by rw[I.Z0 q q1];exact hx⟩,?_,fun b hb=>(qI b hb).1⟩
  exact⟨u,lH,a2.extBut bZ.extBut gc.symm⟩
 done:=by
  intro X hP hw hK hc i aa s σ H E I hf st hg
  subst hP hw hK
  obtain⟨xs,q1,av⟩:=hg
  obtain⟨old,he,h1⟩:=st
  obtain⟨ah,rv,pl,_⟩:=I.list q1
  have e1:=rv.length
  have nf:∀ b∈[e,it],b∉VG X.stack:=fun b hb q=>(RY.mp (I.W0 b q)).elim (hf b hb).2.1 (hf b hb).2.2.1
  refine PH I.hd he h1 pl.isList (by simp;lia) fun h' hk=>⟨O,?_⟩
  refine I.slot0 (ch:=[e,it]) (tk:=s.toks) hf (fun b o _ hc q=>?_) (fun b o hb q=>⟨o.slots,?_⟩)
  .simp only[RY,RJ,WA,not_or] at hc
   exact hk b o hc.2 q
  .exact hk b o (fun z=>nf it (by simp) (z ▸ hb)) q
 self:=fun _ _ s _ _ st h=>by
  obtain⟨old,he,_⟩:=st
  exact UH he h
inductive Qig (K:R') (R:(It→Hp→Prop)) (vs:List V) (H1:Hp):Prop
 | mk (l:_) (_:vs=[.ref l]) (_:(∃ xs,P' K H1 l xs)) (_:R (Ite K l) H1)
def Qih (K:R') (ta:TA):TI:=fun σ H R=>ta σ H fun vs H1=>Qig K R vs H1
theorem tS {k:Nat}{a:U3}{ta:TA} (hg:Gl X "enumerate") (hm:X.mg "enumerate"=i') (ha:PA X [a] ta) (hs:U1 [a] X.env=[(K',U2 a X.env)]:=by rfl) :
  PI X (.Tuple es k Zi) (.Call (.Name "enumerate" p) [a] [] pos) (Qih X.K ta):=by
 intro aa s σ H R I h
 refine Call_ (jD I hg hm boot_enumerate (Yt (UV (ha pos aa s σ H _ I h) fun us s1=>L2.U7 fun vs H1 I1 r1 aW=>?_) hs O))
 obtain⟨l,e,⟨xs,q1⟩,q⟩:=aW
 subst e
 obtain⟨u,rfl,ru⟩:=gY r1
 obtain rfl:u=UW l:=ru
 obtain⟨ah,rv,pl,_⟩:=I1.list q1
 refine call_enumerate_list pl.isList fun h' b1 b2 b3 hk=>?_
 refine UH (s:={s1 with heap:=h'}) b1 ?_
 refine⟨s1.heap.objs.size+1,[s1.heap.objs.size+1,s1.heap.objs.size],_,_,H1,O,I1.kept (t':=s1.toks) hk,MZ (Sh (Si _)),⟨_,b1,b2⟩,fun b hb=>?_,q⟩
 have ge:s1.heap.objs.size≤b:=by
  simp only[RY,RJ,WA] at hb
  rcases hb with rfl|rfl
  .exact RO _ _
  .exact Re _
 exact I1.WO ge (I1.UP.fresh ge)
theorem OQ {K:R'}{D:F'}{Q:VK} (Pv:Nat→St→Hp→Prop) (h0:Pv 0 τ H) (hl:∀ i τ H,i≤xs.length→Pv i τ H→P' K H l xs)
  (hs:∀ i x T τ H,xs[i]?=f' x→H T=i'→Pv i τ H→g (.ref T) τ (upd H T (.tup [.int i,x])) fun τ2 H2=>tt τ2 H2 fun b H3=>
   if b=B' then te τ2 H3 fun y H4=>∃ ys,H4 D=f' (.lst ys)∧ys.length<S'∧Pv (i+1) τ2 (upd H4 D (.lst (ys++[y]))) else Pv (i+1) τ2 H3)
  (hd:∀ τ H,Pv xs.length τ H→Q (.ref D) H):jK (Ite K l) D τ H g tt te Q:=
 X4 (n:=xs.length) Pv h0 (fun i σ H hi p=>⟨fun h=>⟨xs,xs[i],hl i σ H hi p,by simp[h]⟩,fun h=>⟨xs,hl i σ H hi p,h⟩⟩) (fun i v σ H H' hi p y=>by
 obtain⟨T,x,rfl,hT,rfl,hx⟩:=y
 exact hs i x T σ H (hx xs (hl i σ H (Sg hi) p)) hT p) hd
theorem zJ {K:R'} (Pv:Nat→St→Hp→Prop) (h0:Pv 0 σ H) (hl:∀ i σ H,i≤xs.length→Pv i σ H→P' K H l xs)
  (hs:∀ i x T σ H,xs[i]?=f' x→H T=i'→Pv i σ H→g (.ref T) σ (upd H T (.tup [.int i,x])) fun σ2 H2=>tb {D with nx:=Pv (i+1),ct:=Pv (i+1),bk:=D.nx} σ2 H2) (hd:∀ σ H,Pv xs.length σ H→D.nx σ H):QaB (Ite K l) D g tb σ H:=
 X4 (n:=xs.length) Pv h0 (fun i σ H hi p=>⟨fun h=>⟨xs,xs[i],hl i σ H hi p,by simp[h]⟩,fun h=>⟨xs,hl i σ H hi p,h⟩⟩) (fun i v σ H H' hi p y=>by
 obtain⟨T,x,rfl,hT,rfl,hx⟩:=y
 exact hs i x T σ H (hx xs (hl i σ H (Sg hi) p)) hT p) hd
theorem EQ {K:R'}{ys:List V} (av:xs.length=ys.length) (Pv:Nat→St→Hp→Prop) (h0:Pv 0 σ H) (hl:∀ i σ H,i≤xs.length→Pv i σ H→P' K H l1 xs∧P' K H l2 ys)
  (hs:∀ i x y T σ H,xs[i]?=f' x→ys[i]?=f' y→H T=i'→Pv i σ H→g (.ref T) σ (upd H T (.tup [x,y])) fun σ2 H2=>tb {D with nx:=Pv (i+1),ct:=Pv (i+1),bk:=D.nx} σ2 H2) (hd:∀ σ H,Pv xs.length σ H→D.nx σ H):QaB (Itz K l1 l2) D g tb σ H:=
 X4 (n:=xs.length) Pv h0 (fun i σ H hi p=>⟨fun h=>⟨xs,ys,xs[i],ys[i],(hl i σ H hi p).1,(hl i σ H hi p).2,by simp[h],by simp[show i<ys.length by lia]⟩,fun h=>⟨xs,ys,(hl i σ H hi p).1,(hl i σ H hi p).2,.inl h⟩⟩) (fun i v σ H H' hi p y=>by
 obtain⟨T,x,y,rfl,hT,rfl,hx,hy⟩:=y
 exact hs i x y T σ H (hx xs (hl i σ H (Sg hi) p).1) (hy ys (hl i σ H (Sg hi) p).2) hT p) hd
theorem K8 (h:i<ns.length):ns.getD i 0∈ns:=by
 rw[Rr,Rm h]
 exact T8 h
variable {P:Nat→L'→Prop}{ah:Array L'}{c e1 nn:Nat}{fo ol:U6}{i:Int}{key:V→Int}{r:F'}{vs:List L'}
theorem M0 {x:Int} (h:x∈ns):∃ j,j<ns.length∧ns.getD j 0=x:=by
 obtain⟨j,hj,e⟩:=TK h
 exact⟨j,hj,by rw[Rr,Rm hj];exact e⟩
theorem FG (f:Nat→Int):∀ k,V8 (fun i j=>decide (f i > f j)) k≤k∧∀ j,j≤k→f (V8 (fun i j=>decide (f i > f j)) k) ≥ f j
 | 0=>⟨Re _,fun j hj=>by rw[Nat.le_zero.mp hj];exact Tp _⟩
 | k+1=>by
  obtain⟨h1,h2⟩:=FG f k
  by_cases hb:f (k+1) > f (V8 (fun i j=>decide (f i > f j)) k)
  .have e:V8 (fun i j=>decide (f i > f j)) (k+1)=k+1:=by simp[V8,hb]
   rw[e]
   refine⟨Re _,fun j hj=>?_⟩
   rcases Su j (k+1) with z|z
   .have:=h2 j (by lia);lia
   .rw[show j=k+1 by lia];exact Tp _
  .have e:V8 (fun i j=>decide (f i > f j)) (k+1)=V8 (fun i j=>decide (f i > f j)) k:=by simp[V8,hb]
   rw[e]
   refine⟨by lia,fun j hj=>?_⟩
   rcases Su j (k+1) with z|z
   .exact h2 j (by lia)
   .rw[show j=k+1 by lia];lia
section
variable {wr:List F'}{St:Nat→Vb→Prop}
end
section
variable {wr:List F'}{St:Nat→Vb→Prop}
theorem N8 (kw:List (C'×L')) (W:Zg prog w A.in1 I fp wr n P St) (bt:Nat→Nat→Bool) (mn:CmpOf prog w A.in1 .Gt P bt) (S:F') (ib:S∉fp) :
  ∀ (k j:Nat) (s:UM) (vb:L') (c:Nat),n-(j+1)=k→j+1≤n→St (j+1) s.heap→P (V8 bt j) vb→s.heap.get? S=f' {cls:=.type "list",dict:=i',data:=.seq #[vb,vb] c,slots:=#[]} →
  (∀ v h' tk,P (V8 bt (n-1)) v→(∀ b o,b∉wr→b≠S→s.heap.get? b=f' o→h'.get? b=f' o)→R (.ok (.ret v)) {s with heap:=h',toks:=tk}) →
  Wq (UJ prog w) A (.builtin "max.loop" ⟨[.ref I,.none,.ref S],kw⟩) R s:=by
 have tH:S∉wr:=fun h=>ib (W.sub _ h)
 have ou:(toString "max"++toString ".loop":String)="max.loop":=by decide
 intro k
 induction k with
 | zero=>
  intro j s vb c hk hj dZ sT hS hR
  have cB:j+1=n:=by lia
  refine Yb Qbg ?_
  rw[Yu Yw _]
  refine(show M' _ A.in1 (Zb (.ref S) >>= _) _ _ s from mK (R0 hS O ?_))
  refine(show M' _ A.in1 (tryCatch (Vz (.ref I)) _ >>= _) _ _ s from mK (SJ (W.done s _ _ (cB ▸ dZ) fun h' tk d9=>?_)))
  refine(show M' _ A.in1 (YD S (fun _=>#[]) >>= _) _ _ _ from mK (Sl (d9 S _ tH hS) O (mK (SI (Rb ?_)))))
  exact hR vb _ tk (by rw[← cB];exact sT) fun b o jP kz e=>(Ro _ _ (US kz)).trans (d9 b o jP e)
 | succ k ih=>
  intro j s vb c hk hj dZ sT hS hR
  have b8:j+1<n:=by lia
  refine Yb Qbg ?_
  rw[Yu Yw _]
  refine(show M' _ A.in1 (Zb (.ref S) >>= _) _ _ s from mK (R0 hS O ?_))
  refine(show M' _ A.in1 (tryCatch (Vz (.ref I)) _ >>= _) _ _ s from mK (SJ (W.item (j+1) s _ _ b8 dZ fun v h' tk hP iI d9=>?_)))
  have g8:=d9 S _ tH hS
  refine(show M' _ A.in1 (tryCatch (Xv [v,v] (richCompare .Gt v vb >>= _)) _ >>= _) _ _ _ from mK (SJ (RI (mK (mn (j+1) (V8 bt j) v vb _ _ _ hP sT ?_)))))
  refine mK (RI (Sd (mK (SI (Rb ?_)))))
  cases hb:bt (j+1) (V8 bt j) with
  | true=>
   simp only[WL]
   refine mK (Sl g8 O (mK (SI ?_)))
   rw[ou]
   refine Rb ⟨Xs Yw _,ih (j+1) _ v _ (by lia) b8 (W.frame _ _ _ iI fun b w6 o e=>(Ro _ _ (fun h:S=b=>ib (by rw[h];exact w6))).trans e) (by simp only[V8,hb,WL];exact hP) (RC _ g8 O) fun v' eD jm jU jq=>?_⟩
   exact hR v' eD jm jU fun b o jP kz e=>jq b o jP kz ((Ro _ _ (US kz)).trans (d9 b o jP e))
  | false=>
   simp only[RV,VU]
   refine mK (SI ?_)
   rw[ou]
   exact Rb ⟨Xs Yw _,ih (j+1) _ vb c (by lia) b8 iI (by simp only[V8,hb,RV,VU];exact sT) g8 fun v' eD jm jU jq=>hR v' eD jm jU fun b o jP kz e=>jq b o jP kz (d9 b o jP e)⟩
theorem NN (kw:List (C'×L')) (W:Zg prog w A.in1 I fp wr n P St) (bt:Nat→Nat→Bool) (mn:CmpOf prog w A.in1 .Gt P bt) (S:F') (ib:S∉fp) (hn:0<n) (dZ:St 0 s.heap)
  (hS:s.heap.get? S=f' {cls:=.type "list",dict:=i',data:=.seq #[] c,slots:=#[]})
  (hR:∀ v h' tk,P (V8 bt (n-1)) v→(∀ b o,b∉wr→b≠S→s.heap.get? b=f' o→h'.get? b=f' o)→R (.ok (.ret v)) {s with heap:=h',toks:=tk}) :
  Wq (UJ prog w) A (.builtin "max.loop" ⟨[.ref I,.none,.ref S],kw⟩) R s:=by
 have tH:S∉wr:=fun h=>ib (W.sub _ h)
 have ou:(toString "max"++toString ".loop":String)="max.loop":=by decide
 refine Yb Qbg ?_
 rw[Yu Yw _]
 refine(show M' _ A.in1 (Zb (.ref S) >>= _) _ _ s from mK (R0 hS O ?_))
 refine(show M' _ A.in1 (tryCatch (Vz (.ref I)) _ >>= _) _ _ s from mK (SJ (W.item 0 s _ _ hn dZ fun v h' tk hP iI d9=>?_)))
 have g8:=d9 S _ tH hS
 refine(show M' _ A.in1 (YD S (fun _=>#[v,v]) >>= _) _ _ _ from mK (Sl g8 O ?_))
 rw[ou]
 exact Rb ⟨Xs Yw _,N8 kw W bt mn S ib _ 0 _ v _ O hn (W.frame _ _ _ iI fun b w6 o e=>(Ro _ _ (fun h:S=b=>ib (by rw[h];exact w6))).trans e) hP (RC _ g8 O) fun v' eD jm jU jq=>hR v' eD jm jU fun b o jP kz e=>jq b o jP kz ((Ro _ _ (US kz)).trans (d9 b o jP e))⟩
theorem L9 (W:Zg prog w A.in1 I fp wr 0 P St) (S:F') (ib:S∉fp){nm:C'}{d:L'} (dZ:St 0 s.heap) (hS:s.heap.get? S=f' {cls:=.type "list",dict:=i',data:=.seq #[] c,slots:=#[]})
  (hR:∀ h' tk,(∀ b o,b∉wr→s.heap.get? b=f' o→h'.get? b=f' o)→R (.ok (.ret d)) {s with heap:=h',toks:=tk}) :
  Wq (UJ prog w) A (.builtin "max.loop" ⟨[.ref I,.none,.ref S],[(nm,d)]⟩) R s:=by
 refine Yb Qbg ?_
 rw[Yu Yw _]
 refine(show M' _ A.in1 (Zb (.ref S) >>= _) _ _ s from mK (R0 hS O ?_))
 refine(show M' _ A.in1 (tryCatch (Vz (.ref I)) _ >>= _) _ _ s from mK (SJ (W.done s _ _ dZ fun h' tk d9=>?_)))
 exact mK (Sr (Rb (hR h' tk d9)))
end
theorem Ka (a v:L'):argsOk "max" ⟨[a],[(UO "default",v)]⟩:=by unfold argsOk;kernel_rfl
theorem Mw {a:U3}{ta:TA}{jA:VC} (hg:Gl X "max") (hm:X.mg "max"=i') (ha:PA X [a] ta)
  (hs:Vx pos (U1 [a] X.env)=(K',U2 a X.env)::Vx pos (U1 [] X.env):=by rfl) (hp:(Vx pos (U1 [a] X.env)).any (·.1)=K':=by rfl) (JT:(Xl pos (Xj [⟨f' "default",.Constant (.int i) j aw,jA⟩] X.env)).all (·.1.isSome)=B':=by rfl)
  (Ig:(Xl pos (Xj [⟨f' "default",.Constant (.int i) j aw,jA⟩] X.env)).any (·.1.isNone)=K':=by rfl) (Jd:∀ u:L',((Xl pos (Xj [⟨f' "default",.Constant (.int i) j aw,jA⟩] X.env)).filterMap (·.1)).zip [u]=[(UO "default",u)]:=by intro u;rfl) :
  PE X (.Call (.Name "max" p) [a] [⟨f' "default",.Constant (.int i) j aw,jA⟩] pos) (fun σ H Q=>ta σ H fun vs H1=>∃ q,∃ ns:List Int,vs=[.ref q]∧P' X.K H1 q (ns.map V.int)∧(ns=[]→Q (.int i) H1)∧∀ m∈ns,(∀ x∈ns,x≤m)→Q (.int m) H1):=by
 intro aa s σ H Q I h
 refine RX (jD I hg hm Qib ?_)
 refine QoK (UV (ha pos aa s σ H _ I h) fun us s1=>L2.U7 fun vs H1 I1 r1 aW=>?_) hs hp JT Ig
 obtain⟨l,ns,e,q1,k0,k1⟩:=aW
 subst e
 obtain⟨u,rfl,ru⟩:=gY r1
 obtain rfl:u=UW l:=ru
 refine QoI (Uy (QoH ?_))
 rw[Jd]
 obtain⟨ah,rv,pl,_⟩:=I1.list q1
 obtain⟨cs,cU,ch⟩:=I1.hd.chain
 have b8:l<s1.heap.objs.size:=by obtain⟨o,e,_⟩:=pl.isList;exact Rc e
 have lP:s1.heap.objs.size∉cs:=fun z=>RE _ (ch.lt _ z)
 have av:ah.length=ns.length:=by rw[← rv.length,Q9]
 have ou:(toString "max"++toString ".loop":String)="max.loop":=by decide
 refine kmk_tree PySem.F.kind_max PySem.F.plain_max PySem.F.entry_max (Ka _ _) ?_
 refine(show M' _ _ (Qet "max" ["key","default"] 0 ⟨[],[(UO "default",_)]⟩ >>= _) _ _ _ from mK (Uf (show Qet "max" ["key","default"] 0 ⟨[],[(UO "default",_)]⟩=pure [i',f' _] from rfl) ?_))
 refine mK (Rb ?_)
 refine mK (SH (s:={s1 with toks:=s1.toks+1}) pl.isList ?_)
 refine mK (wpAny_newList ?_ (R6 _))
 rw[ou]
 have hz:(s1.heap.push {cls:=.type "list_iterator",data:=.fields #[.ref l,.int 0 0]}).objs.size=s1.heap.objs.size+1:=RL ..
 have W:=rH (prog:=X.prog) (w:=X.w) (A:=X.A.in1) cU s1.heap.objs.size l (Rj b8) lP ah.toArray
 have ib:(s1.heap.push {cls:=.type "list_iterator",data:=.fields #[.ref l,.int 0 0]}).objs.size∉s1.heap.objs.size::l::cs:=by
  rw[hz]
  intro z
  rcases RY.mp z with z|z
  .exact UX z (Sh (Si _))
  .rcases RY.mp z with z|z
   .exact UX z (Sh (R8 b8))
   .exact UX (ch.lt _ z) (Qbs.mpr (RQ _))
 have i7:((s1.heap.push {cls:=.type "list_iterator",data:=.fields #[.ref l,.int 0 0]}).push (seqObj "list" #[] 0)).IsListIter s1.heap.objs.size l 0∧((s1.heap.push {cls:=.type "list_iterator",data:=.fields #[.ref l,.int 0 0]}).push (seqObj "list" #[] 0)).IsList l ah.toArray∧Vi ((s1.heap.push {cls:=.type "list_iterator",data:=.fields #[.ref l,.int 0 0]}).push (seqObj "list" #[] 0)) cs:=
  ⟨⟨_,Ra _ (Ri _ rfl),rfl,rfl⟩,(pl.isList.push _).push _,ch.mono fun b o _ e=>Ra _ (Ra _ e)⟩
 refine Rb ⟨Xs Yw _,?_⟩
 have cN:∀ (h':Vb),(∀ b o,b∉[s1.heap.objs.size]→b≠(s1.heap.push {cls:=.type "list_iterator",data:=.fields #[.ref l,.int 0 0]}).objs.size→((s1.heap.push {cls:=.type "list_iterator",data:=.fields #[.ref l,.int 0 0]}).push (seqObj "list" #[] 0)).get? b=f' o→h'.get? b=f' o)→∀ b o,s1.heap.get? b=f' o→h'.get? b=f' o:=fun h' hk b o e=>by
  have lt:=Rc e
  refine hk b o (fun z=>?_) (fun z=>?_) (Ra _ (Ra _ e))
  .rw[Vh.mp z] at lt;exact RE _ lt
  .rw[z,hz] at lt;exact RE _ (UG lt)
 by_cases hn:ns=[]
 .subst hn
  have e0:ah=[]:=Qcm.mp (by rw[av];rfl)
  subst e0
  exact L9 W _ ib i7 (Ri _ O) fun h' tk hk=>⟨.int i,H1,I1.kept (cN h' fun b o h1 _ e=>hk b o h1 e),⟨_,O⟩,k0 O⟩
 .have mI:0<ns.length:=List.length_pos_iff.mpr hn
  refine NN _ W (fun i j=>decide (ns.getD i 0 > ns.getD j 0)) (CmpOf.ints_gt (fun i=>ns.getD i 0) fun i v hv=>yj rv (by simpa using hv)) _ ib (by simp;lia) i7 (Ri _ rfl) fun v h' tk hv hk=>?_
  have cX:ah.toArray[V8 (fun i j=>decide (ns.getD i 0 > ns.getD j 0)) (ah.toArray.size-1)]?=f' v:=hv
  rw[List.getElem?_toArray] at cX
  obtain⟨t,rfl⟩:=yj rv cX
  obtain⟨b1,b2⟩:=FG (fun i=>ns.getD i 0) (ah.toArray.size-1)
  have e1:ah.toArray.size=ns.length:=by simp[av]
  rw[e1] at b1 b2
  refine⟨.int _,H1,I1.kept (cN h' hk),⟨_,O⟩,?_⟩
  rw[e1]
  exact k1 _ (K8 (by lia)) fun x hx=>by
   obtain⟨j,hj,rfl⟩:=M0 hx
   exact b2 j (by lia)
inductive Qii (K:R') (o:V) (i:V) (H:Hp) (Q:VK):Prop
 | mk (p xs k v:_) (_:o=.ref p) (_:i=.int k) (_:P' K H p xs) (_:0≤k) (_:xs[k.toNat]?=f' v) (_:Q v H)
theorem zt:Qdd X (Qii X.K):=by
 intro aa s σ H o i ov iv Q I ro ri h
 obtain⟨p,xs,k,v,rfl,rfl,hq,h0,hv,q⟩:=h
 cases ro
 obtain⟨t,rfl⟩:=ri
 obtain⟨ah,r,pl,hz⟩:=I.list hq
 obtain⟨u,hu,ru⟩:=r.get hv
 have h1:=(VJ.mp hv).1
 have hl:=r.length
 have hn:=lX
 exact wpAny_getItem_list pl.isList h0 (by lia) (by simpa using hu) ⟨v,H,I,ru,q⟩
inductive Qdz (K:R') (qY:Bool) (x:V) (y:V) (H:Hp) (Q:VK):Prop
 | mk (p ds xs d:_) (_:y=.ref p) (_:P' K H p xs) (_:bv K H ds xs) (_:VI K H d x) (_:fk 50 ds) (_:Q (.bl (if qY then !(ds.any fun e=>VT e d) else ds.any fun e=>VT e d)) H)
open Classical in
theorem Inv.Qij (I:Inv X aa σ H s){ds:List Dt}{ah:List L'}{d:Dt}{x:V} (h:bv X.K H ds xs) (rv:aA xs ah) (hx:VI X.K H d x) (rx:aC x v) (hd:fk 50 ds) (hu:A.units+50<VB) :
  ∃ f:L'→Bool,(∀ u∈ah,X0 A s u v (f u))∧ah.any f=ds.any fun e=>VT e d:=by
 let f:L'→Bool:=fun u=>decide (∃ (j:Nat) (e:Dt),ah[j]?=f' u∧ds[j]?=f' e∧VT e d=B')
 have hl:ds.length=ah.length:=h.length.trans rv.length
 have one:∀ (j:Nat) (u:L') (e:Dt),ah[j]?=f' u→ds[j]?=f' e→f u=VT e d:=fun j u e h1 h2=>by
  show decide _=_
  rw[SS,RP]
  constructor
  .rintro⟨j',e',gS,iK,h3⟩
   obtain⟨y,hy,dy⟩:=h.get h2
   obtain⟨y',cY,Ik⟩:=h.get iK
   obtain⟨u1,jX,r1⟩:=rv.get hy
   obtain⟨u2,BR,r2⟩:=rv.get cY
   rw[h1] at jX
   rw[gS] at BR
   cases jX
   cases BR
   rw[r1.inj r2] at dy
   rw[I.QaF dy Ik]
   exact h3
  .intro h3
   exact⟨j,e,h1,h2,h3⟩
 refine⟨f,fun u iG=>?_,?_⟩
 .obtain⟨j,hj,e⟩:=TK iG
  have h1:ah[j]?=f' u:=by rw[Rm hj,e]
  obtain⟨e',dM⟩:=jL (l:=ds) (j:=j) (by lia)
  obtain⟨y,hy,dy⟩:=h.get dM
  obtain⟨u1,jX,r1⟩:=rv.get hy
  rw[h1] at jX
  cases jX
  rw[one j u e' h1 dM]
  exact I.QbO dy hx r1 rx (hd.get dM) hu
 .rw[SS,Qak,Qak]
  constructor
  .rintro⟨u,iG,hf⟩
   obtain⟨j,e,h1,h2,h3⟩:=RB hf
   exact⟨e,Rv h2,h3⟩
  .rintro⟨e,he,h3⟩
   obtain⟨j,hj,e2⟩:=TK he
   have h2:ds[j]?=f' e:=by rw[Rm hj,e2]
   obtain⟨u,iG⟩:=jL (l:=ah) (j:=j) (by lia)
   exact⟨u,Rv iG,by rw[one j u e iG h2];exact h3⟩
theorem QA (hu:X.A.units+64<VB):VM X (Wp .NotIn) (Qdz X.K B'):=by
 intro aa s σ H x y v u Q I rx ry h
 obtain⟨p,ds,xs,d,rfl,hq,hd,hx,dl,q⟩:=h
 cases ry
 obtain⟨ah,r,pl,hz⟩:=I.list hq
 obtain⟨f,h1,h2⟩:=I.Qij (A:=X.A.in1) hd r hx rx dl (by show X.A.units+1+50<VB;lia)
 refine Qfc f pl.isList (fun w hw=>h1 w (by simpa using hw)) ⟨.bl _,H,I,O,?_⟩
 rw[show ah.toArray.any f=ah.any f by simp,h2]
 exact q
theorem KO {K:R'} (hK:X.K=K) (hu:X.A.units+64<VB):VM X (Wp .NotIn) (Qdz K B'):=hK ▸ QA hu
inductive OB (x:V) (vs:List V) (H:Hp) (Q:VK):Prop
 | mk (l xs i y:_) (_:x=.ref l) (_:vs=[.int i,y]) (_:H l=f' (.lst xs)) (_:0≤i) (_:i≤xs.length) (_:xs.length<S') (_:Q .UU (upd H l (.lst (xs.take i.toNat++y::xs.drop i.toNat))))
theorem EA:MtM X "list.insert" OB:=by
 intro aa s σ H x vs v us Q I rx rv h
 obtain⟨l,xs,i,y,rfl,rfl,hH,h0,h1,hz,q⟩:=h
 cases rx
 obtain⟨u,w',rfl,⟨t,rfl⟩,ru⟩:=nJ rv
 obtain⟨z,ah,n,r,hl,e⟩:=I.Yp hH
 have hf:Qcg i=B':=by
  unfold Qcg
  rw[Rh] at hz
  simp only[Rt,Sx]
  constructor<;>lia
 refine Ye QcA ⟨_,e,O⟩ F.entry_list_insert (F.args_list_insert_3 _ _ _) (AutoSeq1.list_insert_list_int_val_1 l ah.toArray n i t w' (by simp[hf]) (by rw[Rl];lia)) ⟨e,?_⟩
 refine⟨.UU,_,I.QaD (its':=ah.take i.toNat++w'::ah.drop i.toNat) hH e ?_ ((r.take _).append (.cons ru (r.drop _))) ?_,O,q⟩
 .show(ah.toArray.extract 0 (if i<0 then(i+(ah.toArray.size:Int)).toNat else min i.toNat ah.toArray.size)).push w'++ah.toArray.extract (if i<0 then(i+(ah.toArray.size:Int)).toNat else min i.toNat ah.toArray.size)=_
  rw[UL (by lia),Rl,TC (by lia)]
  apply Array.toList_inj.mp
  simp
  exact R5 (by simp)
 .rw[Ru,Rn,Rs,SL]
  lia
theorem none_of (s:ae H H') (h:H' r=i'):H r=i':=by
 cases e:H r with
 | none=>rfl
 | some o=>
  rw[s _ _ e] at h
  cases h
theorem du {o:HO} (nd:H d=i') (s:ae H H'):ae H (upd H' d o):=fun b u e=>by
 rw[aj (aq e nd)]
 exact s b u e
section
variable {K:R'} (hK:X.K=K)
include hK
def Qik (K:R'):List V→Hp→VK→Prop:=fun xs H Q=>∃ a C dd vc c b,xs=[.ref a,vc]∧Vu H a C dd∧Yq H dd∧Wg K C∧(∀ u,aC vc u→u=c)∧UK K (.ref C) c=f' b∧Q (.bl b) H
theorem M7:fZ X (.builtin "isinstance") (Qik K):=by subst hK;exact iu
end
theorem Nc:Xt (.type "list") "keys"=pure i':=Qbm (by kernel_rfl)
theorem FE {α:Type}{o:L'}{AJ:C'}{Q:α→UM→Prop} (hd:Hd A s.heap)
  (h:∀ h' tk e,(∀ b ob,s.heap.get? b=f' ob→h'.get? b=f' ob)→(∃ o',h'.get? e=f' o'∧o'.cls=.type "AttributeError")→E (.ref e) {s with heap:=h',toks:=tk}) (hm:AJ.length≤S':=by size_fits) :
  M' (UJ prog w) A (raiseAttrError o name AJ:V9 α) Q E s:=by
 unfold raiseAttrError
 refine mK (wpAny_mkStr (mK ?_) hm)
 unfold newExc newTuple
 refine mK (SG ?_ (by size_fits))
 refine mK (m:=Qbo _ _) (Uf (a:=Vq) (by simp only[Qbo,attrError_no_first];rfl) ?_)
 rw[ownMembersOf_AttributeError]
 refine SG ?_ (by size_fits)
 obtain⟨hp,g,d,tk,os⟩:=s
 have f1:=QcC
 repeat (any_goals (first|assumption|wp_step))
 dsimp only
 have iD:∀ b ob,hp.get? b=f' ob→b<hp.objs.size+1:=fun b ob q=>R8 (Rc q)
 refine um ?_ (RC _ (Ri _ O) O) O (by simp) fun h' o' iY k' e' c' _ _ _ _ _=>
  h h' _ _ (fun b ob q=>k' b ob ?_ ((Ro _ _ ?_).trans (Ra _ (Ra _ q)))) ⟨o',e',c'⟩
 .rcases hd with hn|⟨a,cs,ha,c⟩
  .exact .inl hn
  .have lt:∀ b∈a::cs,b<hp.objs.size:=c.lt
   refine .inr ⟨a,cs,ha,c.mono fun b ob hb q=>(Ro _ _ ?_).trans (Ra _ (Ra _ q)),fun z=>?_⟩
   .simp only[RL]
    exact Sh (iD b ob q)
   .have:=lt _ z
    simp only[RL] at this
    exact UX (Rw this (RQ _)) (RE _)
 .simp only[RL]
  exact Rj (iD b ob q)
 .simp only[RL]
  exact Sh (iD b ob q)
theorem Qs {tk:V4}{Q:Fin→UM→Prop} (hd:Hd A s.heap) (ho:s.heap.get? l=f' ol) (hc:ol.cls=.type "list") (oE:ol.dict=i') (mE:ol.data=.seq ah nn)
  (h:∀ h' tk e,(∀ b ob,s.heap.get? b=f' ob→h'.get? b=f' ob)→(∃ o',h'.get? e=f' o'∧o'.cls=.type "AttributeError")→E (.ref e) {s with heap:=h',toks:=tk}) :
  M' (UJ prog w) A (W'.«object.__getattribute__» ⟨[.ref l,.str "keys" tk],[]⟩) Q E s:=by
 have hT:s.TypeIs (.ref l) "list":=⟨_,ho,hc⟩
 have f4:=Nc
 unfold W'.«object.__getattribute__»
 obtain⟨hp,g,d,iB,os⟩:=s
 obtain⟨oc,od,Q3,eQ⟩:=ol
 dsimp only at hc oE mE
 subst hc oE mE
 repeat (any_goals (first|assumption|wp_step))
 exact FE hd h (attrMsg_fits (by decide +kernel) (by size_fits))
theorem Od (hd:Hd A s.heap) (ho:s.heap.get? l=f' ol) (hc:ol.cls=.type "list") (oE:ol.dict=i') (mE:ol.data=.seq ah nn)
  (h:∀ h' tk,(∀ b ob,s.heap.get? b=f' ob→h'.get? b=f' ob)→Q i' {s with heap:=h',toks:=tk}) :
  M' (UJ prog w) A (ZR (.ref l) "keys") Q E s:=by
 unfold ZR Qc0
 obtain⟨hp,g,d,iB,os⟩:=s
 have hT:(⟨hp,g,d,iB+1,os⟩:UM).TypeIs (.ref l) "list":=⟨_,ho,hc⟩
 have f1:=QcC
 have f2:=Qa2.lookup
 have f3:=Qa2.bind (.ref l)
 have f5:Xt (.type "list") "__getattr__"=pure i':=Qbm (by kernel_rfl)
 unfold Qbw
 repeat (any_goals (first|assumption|wp_step))
 refine Zz Qa2.plain F.entry_list_ga (Qa2.check _ _ _ _ _ _ _ _ hT (F.args_list_getattribute_2 _ _) (Qs (s:=⟨hp,g,d,iB+1,os⟩) hd ho hc oE mE fun h' kR e k' ⟨o',e1,e2⟩=>?_))
 dsimp only
 show M' _ _ (Qbb _ _ _ _ _ _ _) _ _ _
 unfold Qbb
 have hE:(⟨h',g,d,kR,os⟩:UM).TypeIs (.ref e) "AttributeError":=⟨_,e1,e2⟩
 repeat (any_goals (first|assumption|wp_step))
 exact h h' kR k'
theorem uK:Qby table "dict.update.loop"=f' W'.«dict.update.loop»:=Qgb (by kernel_rfl)
theorem l8:plainId "dict.update.loop"=B':=by decide +kernel
section
variable {κ:Type} [DecidableEq κ] {knd:KeyKind prog w κ}{wr:List F'}{G:Array QbA→Array QbA→Prop}{St:Nat→UM→Prop}
theorem Nn (W:WalksS prog w A.in1 I fp wr G n P St) (lO:d∉fp) (hn:n≤1000) (s0:UM) (ks:Nat→κ) (vs:Nat→L') (kvs:Nat→List (κ×L')) (res:L')
  (gK:∀ i v,P i v→∃ t key,v=.ref t∧s0.heap.IsTuple t #[key,vs i]∧t∉d::wr∧knd.is (ks i) key=B')
  (hs:∀ i,kvs (i+1)=Xx (kvs i) (ks i) (vs i)) (hl:∀ i,(kvs i).length≤i+1000) :
  ∀ (k i:Nat) (s:UM),n-i=k→i≤n→St i s→Moved (d::wr) G s0 s→s.heap.DictOf knd d (kvs i) →
   (∀ s',Moved (d::wr) G s0 s'→s'.heap.DictOf knd d (kvs n)→R (.ok (.ret res)) s') →
   Wq (UJ prog w) A (.builtin "dict.update.loop" ⟨[.ref d,.ref I,.int i 0,res],[]⟩) R s:=by
 have Ae:d∉wr:=fun h=>lO (W.sub _ h)
 have pS:∀ b∈wr,b∈d::wr:=fun b hb=>Rk _ hb
 intro k
 induction k with
 | zero=>
  intro i s hk hi dZ m0 hD hR
  have cB:i=n:=by lia
  subst cB
  refine Yb uK ?_
  rw[Yu l8 _]
  show M' _ A.in1 (Vz (.ref I) >>= _) _ _ s
  refine mK (W.done s _ _ dZ fun s' hm=>?_)
  show M' _ A.in1 (pure () >>= fun _=>ret res) _ _ s'
  exact mK (Rb (Rb (hR s' (QcQ W.gtrans m0 (hm.mono pS)) (by
   obtain⟨o,es,ep,ho,a7⟩:=hD
   exact⟨o,es,ep,hm.heap d _ Ae ho,a7⟩))))
 | succ k ih=>
  intro i s hk hi dZ m0 hD hR
  have b8:i<n:=by lia
  refine Yb uK ?_
  rw[Yu l8 _]
  show M' _ A.in1 (Vz (.ref I) >>= _) _ _ s
  refine mK (W.item i s _ _ b8 dZ fun v s' hP iI hm=>?_)
  obtain⟨t,key,rfl,⟨ot,sE,Ge,nt,Hl⟩,Hg,d8⟩:=gK i v hP
  have m1:Moved (d::wr) G s0 s':=QcQ W.gtrans m0 (hm.mono pS)
  have vV:s'.heap.DictOf knd d (kvs i):=by
   obtain⟨o,es,ep,ho,a7⟩:=hD
   exact⟨o,es,ep,hm.heap d _ Ae ho,a7⟩
  have pR:=m1.heap t _ Hg sE
  have hT:s'.TypeIs (.ref t) "tuple":=⟨_,pR,Ge⟩
  dsimp only
  refine mK (RI (mK (SJ ?_)))
  unfold QeC
  refine mK (SM hT ?_)
  rw[UN (by decide)]
  refine mK (R0 pR Hl (Rb ?_))
  show M' _ _ (Xv [key,vs i] (dictSet d key (vs i))) _ _ s'
  refine RI (Uv (knd:=knd) d8 vV (fun h' cZ tu=>?_) (by rw[Rh];have:=hl i;lia))
  have e1:kvs (i+1)=Xx (kvs i) (ks i) (vs i):=hs i
  rw[← e1] at cZ
  refine Rb ⟨Xs l8 _,ih (i+1) _ (by lia) b8 (W.frame _ s' _ _ iI (RQ _) fun b hb o e=>?_) ?_ cZ hR⟩
  .rw[tu.2 b (fun h:b=d=>lO (by rw[← h];exact hb))];exact e
  .refine m1.then_heap (RQ _) fun b o hb e=>?_
   rw[tu.2 b (fun h:b=d=>hb (by rw[h];exact Rx))];exact e
end
section
variable {κ:Type} [DecidableEq κ] {knd:KeyKind prog w κ}
theorem O5 {Q:L'→UM→Prop} (hc:VQ A cs) (ch:Vi s.heap cs) (ho:s.heap.get? l=f' ol) (mw:ol.cls=.type "list") (oE:ol.dict=i') (mE:ol.data=.seq ah nn) (hz:ah.size≤1000)
  (ks:Nat→κ) (vs:Nat→L') (kvs:Nat→List (κ×L')) (h0:kvs 0=[]) (hs:∀ i,kvs (i+1)=Xx (kvs i) (ks i) (vs i)) (hl:∀ i,(kvs i).length≤i)
  (gK:∀ i v,ah[i]?=f' v→∃ t key,v=.ref t∧s.heap.IsTuple t #[key,vs i]∧knd.is (ks i) key=B')
  (h:∀ h' tk,h'.DictOf knd s.heap.objs.size (kvs ah.size)→(∀ b o,s.heap.get? b=f' o→h'.get? b=f' o)→Q (.ref s.heap.objs.size) {s with heap:=h',toks:=tk}) :
  M' (UJ prog w) A (call (.type "dict") [.ref l]) Q E s:=by
 refine Qbp (Q₁:=fun obj s₁=>obj=.ref s.heap.objs.size∧s₁={s with heap:=s.heap.push {cls:=.type "dict",data:=.dict #[]} }) QfN (Qfm _) QfI (Qga _ ⟨O,O⟩) ?_
 rintro obj s₁ ⟨rfl,rfl⟩
 have cW:(s.heap.push {cls:=.type "dict",data:=.dict #[]}).DictOf knd s.heap.objs.size []:=Qcw s.heap
 have i6:(s.heap.push {cls:=.type "dict",data:=.dict #[]}).get? l=f' ol:=Ra _ ho
 have lD:Vi (s.heap.push {cls:=.type "dict",data:=.dict #[]}) cs:=ch.mono fun b o _ e=>Ra _ e
 have lt:∀ b∈cs,b<s.heap.objs.size:=ch.lt
 have hsz:(s.heap.push {cls:=.type "dict",data:=.dict #[]}).objs.size=s.heap.objs.size+1:=RL ..
 have keep:∀ b o,s.heap.get? b=f' o→(s.heap.push {cls:=.type "dict",data:=.dict #[]}).get? b=f' o:=fun b o e=>Ra _ e
 generalize s.heap.push {cls:=.type "dict",data:=.dict #[]}=hp at cW i6 lD hsz keep ⊢
 refine⟨cW.typeIs,Qfw _ _,?_⟩
 unfold W'.«dict.__init__»
 refine mK ?_
 unfold QeA
 refine mK (Uq cW.typeIs ?_)
 show M' _ _ (pure (s.heap.objs.size,[UW l])) _ _ _
 refine Rb ?_
 show M' _ _ (QaZ "dict.__init__" s.heap.objs.size (.ref l) [] .none) _ _ _
 unfold QaZ
 have hT:Qbj {s with heap:=hp} (.ref l) "list":=⟨_,i6,mw⟩
 refine mK (SM hT ?_)
 rw[UN (by decide)]
 refine mK ?_
 refine Od (s:={s with heap:=hp}) (VQ.hd (A:=A.in1.in1) hc lD) i6 mw oE mE fun h2 kR k2=>?_
 have mS:=k2 _ _ i6
 have bO:h2.IsList l ah:=⟨_,mS,mw,nn,mE⟩
 have vK:Vi h2 cs:=lD.mono fun b o _ e=>k2 b o e
 rw[UN (show(i':Option L').isNone=B' from rfl)]
 refine mK (Sr ?_)
 refine mK (SH bO ?_)
 have qW:s.heap.objs.size<h2.objs.size:=by
  obtain⟨o,es,ep,hg,_⟩:=cW
  exact Rc (k2 _ _ hg)
 have ll:l<s.heap.objs.size:=Rc ho
 have W:=(rH (prog:=prog) (w:=w) (A:=A.in1.in1) hc h2.objs.size l (Rj (Tw ll qW)) (fun z=>UX (Tw (lt _ z) qW) (RE _)) ah).toS
 refine Rb ⟨Xs l8 _,Nn (knd:=knd) (A:=A.in1) W (fun z=>?_) hz _ ks vs kvs .none (fun i v hv=>?_) hs (fun i=>RZ (hl i) (RO _ _)) (ah.size-0) 0 _ O (R6 _) ⟨⟨_,Ri _ O,O,O⟩,bO.push _,vK.mono fun b o _ e=>Ra _ e⟩ ⟨fun _ _ _ e=>e,W.grefl _,O,O,Re _⟩ ?_ fun s' hm hD=>?_⟩
 .rcases RY.mp z with z|z
  .exact UX z (Rj qW)
  .rcases RY.mp z with z|z
   .exact UX z (Sh ll)
   .exact RE _ (lt _ z)
 .obtain⟨t,key,e1,⟨ot,sE,r⟩,hk⟩:=gK i v hv
  have tl:=Rc sE
  refine⟨t,key,e1,⟨ot,Ra _ (k2 _ _ (keep _ _ sE)),r⟩,fun z=>?_,hk⟩
  rcases RY.mp z with z|z
  .exact UX z (Rj tl)
  .exact UX (Vh.mp z) (Rj (Tw tl qW))
 .rw[h0]
  obtain⟨o,es,ep,hg,a7⟩:=cW
  exact⟨o,es,ep,Ra _ (k2 _ _ hg),a7⟩
 .obtain⟨h',g',d',iB,tG⟩:=s'
  have eg:g'=s.gens:=hm.gens
  have ed:d'=s.drawn:=hm.drawn
  have eo:tG=s.os:=hm.os
  subst eg;subst ed;subst eo
  refine⟨O,h h' iB hD fun b o e=>hm.heap b o (fun z=>?_) (Ra _ (k2 _ _ (keep _ _ e)))⟩
  have bl:=Rc e
  rcases RY.mp z with z|z
  .exact UX z (Rj bl)
  .exact UX (Vh.mp z) (Rj (Tw bl qW))
end
def fz (K:R') (H:Hp):List (Key×V)→List V→Prop
 | [],ys=>ys=[]
 | kv::r,ys=>∃ t kK,ys=.ref t::kK∧U4 K H t [kV kv.1,kv.2]∧fz K H r kK
def fX (m:List (Key×V)) (kv:Key×V):List (Key×V):=cg m kv.1 kv.2
def WJ (kvs:List (Key×V)):List (Key×V):=kvs.foldl fX []
def stN (us:List (Key×L')):Nat→List (Key×L')
 | 0=>[]
 | i+1=>Xx (stN us i) (us.getD i (Va 0,.none)).1 (us.getD i (Va 0,.none)).2
theorem x8 (us:List (Key×L')):∀ i,(stN us i).length≤i
 | 0=>Re _
 | i+1=>RZ (stored_length_le _ _ _) (T4 (x8 us i))
theorem QbR:∀ (kvs m:List (Key×V)),(kvs.foldl fX m).length≤m.length+kvs.length
 | [],_=>Re _
 | kv::r,m=>by
  have h1:=QbR r (fX m kv)
  have h2:=uX m kv.1 kv.2
  show(r.foldl fX (fX m kv)).length≤_
  unfold fX at h1 ⊢
  rw[Rn]
  lia
theorem Df (I:Inv X aa σ H s):∀ {kvs:List (Key×V)}{ys:List V}{ah:List L'},fz X.K H kvs ys→aA ys ah→∃ us:List (Key×L'),us.length=ah.length∧kvs.length=us.length ∧
  (∀ i v,ah[i]?=f' v→∃ t key,v=.ref t∧s.heap.IsTuple t #[key,(us.getD i (Va 0,.none)).2]∧(b9 X.prog X.w).is (us.getD i (Va 0,.none)).1 key=B') ∧
  ∀ i kv,kvs[i]?=f' kv→kv.1=(us.getD i (Va 0,.none)).1∧aC kv.2 (us.getD i (Va 0,.none)).2
 | [],_,_,h,r=>by
  obtain rfl:_=[]:=h
  cases r
  exact⟨[],O,O,(fun i v hv=>by simp at hv),fun i kv hk=>by simp at hk⟩
 | kv::kvs,_,_,h,r=>by
  obtain⟨t,kK,rfl,ht,h'⟩:=h
  cases r with
  | cons r1 r2=>
   obtain rfl:=(show _=UW t from r1)
   obtain⟨us,e1,e2,e3,e4⟩:=Df I h' r2
   obtain⟨ti,rv,hT,_⟩:=I.tuple ht
   obtain⟨key,u,rfl,q1,q2⟩:=nJ rv
   refine⟨(kv.1,u)::us,by rw[Rn,Rn,e1],by rw[Rn,Rn,e2],fun i v hv=>?_,fun i BZ hk=>?_⟩
   .cases i with
    | zero=>
     obtain rfl:UW t=v:=VL hv
     exact⟨t,key,O,hT,iP q1⟩
    | succ i=>exact e3 i v hv
   .cases i with
    | zero=>
     obtain rfl:kv=BZ:=VL hk
     exact⟨O,q2⟩
    | succ i=>exact e4 i BZ hk
theorem yS {kvs:List (Key×V)}{us:List (Key×L')} (h:∀ i kv,kvs[i]?=f' kv→kv.1=(us.getD i (Va 0,.none)).1∧aC kv.2 (us.getD i (Va 0,.none)).2):∀ i,i≤kvs.length→KV ((kvs.take i).foldl fX []) (stN us i)
 | 0,_=>by rw[SK];exact .nil
 | i+1,hi=>by
  obtain⟨kv,hk⟩:∃ kv,kvs[i]?=f' kv:=⟨_,Rm (by lia)⟩
  obtain⟨e1,e2⟩:=h i kv hk
  have ih:=yS h i (by lia)
  rw[TY,hk,Sy]
  show KV (fX ((kvs.take i).foldl fX []) kv) (Xx (stN us i) _ _)
  rw[← e1]
  exact ih.put _ e2
theorem MY:fZ X (.type "dict") (fun xs H Q=>∃ p ys kvs,xs=[.ref p]∧P' X.K H p ys∧fz X.K H kvs ys∧kvs.length≤1000∧∀ d,H d=i'→Q (.ref d) (upd H d (.dK (WJ kvs)))):=by
 intro aa s σ H xs us Q I r h
 obtain⟨p,ys,kvs,rfl,hq,hP,av,q⟩:=h
 obtain⟨u,rfl,ru⟩:=gY r
 obtain rfl:u=UW p:=ru
 obtain⟨ah,rv,⟨ol,nn,e1,e2,e3,e4⟩,_⟩:=I.list hq
 obtain⟨us,l1,l2,p1,p2⟩:=Df I hP rv
 obtain⟨cs,cU,ch⟩:=I.hd.chain
 have hz:ah.toArray.size=kvs.length:=by simp[l2,l1]
 refine O5 (knd:=b9 X.prog X.w) cU ch e1 e2 e3 e4 (by rw[hz];exact av) (fun i=>(us.getD i (Va 0,.none)).1) (fun i=>(us.getD i (Va 0,.none)).2) (stN us) O (fun _=>O) (x8 us) (fun i v hv=>p1 i v (by simpa using hv)) fun h' tk hD hk=>?_
 have ne:(s.heap.objs.size == Wm)=K':=(ud (P:=X.prog) (w:=X.w) (H:=H) s.heap I.big).2.1
 have rel:=yS p2 kvs.length (Re _)
 rw[Rz] at rel
 rw[hz] at hD
 have z:(WJ kvs).length≤S':=by
  have:=QbR kvs []
  have z0:([]:List (Key×V)).length=0:=rfl
  rw[Rh]
  unfold WJ
  lia
 refine⟨.ref s.heap.objs.size,_,I.laid (a:=s.heap.objs.size) (o:=.dK (WJ kvs)) (t':=tk) (fun b o e=>hk b o e) (Re _) ⟨z,ne,_,rel,hD⟩,O,q _ (I.UP.fresh (Re _))⟩
section
open PySem.SeqAt
open AutoSeq1 (wpAny_loadPart')
end
section
variable {gO:U3}
end
section
variable {st:U3}{ts:TE}{p2:VC}
end
section
open Sem (wp)
end
def alike (c:Int) (l:List Yk):List Yk:=l.filter fun p=>numOf p.1 == c
structure Dn (U0:List Yk) (x BA:Nat) (l U B C O1:List Yk) (b:Int):Prop where
 arr:l=U++B++C
 org:U0=O1++B++C
 len:U.length+B.length=x
 lb:B.length=BA+1
 fil:∀ c,alike c U=(alike c O1).reverse
 eqb:∀ p∈B,numOf p.1=b
 gt:∀ p∈U,b<numOf p.1
 dec:U.Pairwise fun p q=>numOf q.1≤numOf p.1
section
variable {U0 U B C O1:List Yk}{x BA:Nat}{b:Int}{xs:Array Yk}{p:Yk}
end
section
variable {Ar:VX}{a₀:Array Yk}{U0:List Yk}
end
section
variable {params:Qc4}{body:U3}{c P:F'}
end
section
variable {P:PySem.Fin→UM→Prop}{D kS:F'}
end
def Qil (K:R') (f:F'):Option L':=match K.lookup f with
 | some ⟨_,_,.func fd,_⟩=>f' fd.code
 | _=>i'
structure Qim (K:R') (f P:F'):Prop where
 ex:∃ c,Qil K f=f' (.ref c)∧Qaj K c P=B'
 no:K.lookup P=i'
structure LamDef (K:R') (mg:C'→Option L') (x:C') (P:F'):Prop where
 ex:∃ f,mg x=f' (.ref f)∧Qim K f P
section
variable {P:Vv}{K:R'}
end
abbrev Tab:=F'×VC×C'
def rl (ts:List Tab) (H:Hp):Prop:=(∀ t∈ts,H t.1=f' (.WG t.2.1 t.2.2))∧∀ b u,H b=f' u→(∃ o xs,u=.UZ o (.lst xs))∨∃ t∈ts,b=t.1∧u=.WG t.2.1 t.2.2
def nL:List Tab→Hp→Hp
 | [],H=>H
 | t::ts,H=>upd (nL ts H) t.1 (.WG t.2.1 t.2.2)
theorem zr:∀ {ts:List Tab}{H:Hp},(ts.map (·.1)).Nodup→∀ t∈ts,nL ts H t.1=f' (.WG t.2.1 t.2.2)
 | [],_,_,t,h=>by simp at h
 | q::ts,H,nd,t,h=>by
  rcases RY.mp h with z|z
  .rw[z];exact ag
  .have n:t.1≠q.1:=fun y=>(XJ.mp (show(q.1::ts.map (·.1)).Nodup from nd)).1 (Wx.mpr ⟨t,z,y⟩)
   show upd _ _ _ _=_
   rw[aj n]
   exact zr (XJ.mp nd).2 t z
theorem yd:∀ {ts:List Tab}{H:Hp}{b:F'}{u:HO},nL ts H b=f' u→H b=f' u∨∃ t∈ts,b=t.1∧u=.WG t.2.1 t.2.2
 | [],_,_,_,h=>.inl h
 | q::ts,H,b,u,h=>by
  have h:upd (nL ts H) q.1 (.WG q.2.1 q.2.2) b=f' u:=h
  by_cases z:b=q.1
  .rw[z,ag] at h
   exact .inr ⟨q,Rx,z,(VL h).symm⟩
  .rw[aj z] at h
   rcases yd h with y|⟨t,h1,h2⟩
   .exact .inl y
   .exact .inr ⟨t,Rk _ h1,h2⟩
theorem CV:∀ {ts:List Tab}{H:Hp}{b:F'},(∀ t∈ts,b≠t.1)→nL ts H b=H b
 | [],_,_,_=>rfl
 | q::ts,H,b,h=>by
  show upd _ _ _ _=_
  rw[aj (h q Rx)]
  exact CV fun t ht=>h t (Rk _ ht)
theorem OA {P:Vv}{K:R'}{mb:C'→Option L'}{k:Nat}{fa:F'}{s₁:UM}{ts:List Tab}
  (KX:K.In s₁.heap) (Bn:s₁.heap.Ns V1 mg) (hb:s₁.heap.Ns Y' mb) (IZ:∀ x:C',x≠"__name__"→mb x=Wb x) (xD:s₁.heap.NoLimit)
  (Gc:∃ bm ob,mg "__builtins__"=f' (.ref bm)∧bm≠Y'∧s₁.heap.get? bm=f' ob∧ob.cls=.type "module"∧ob.dict=f' Y'∧ob.data=.plain) (hg:s₁.gens=#[])
  (ha:s₁.heap.get? a=f' {cls:=.type "list",data:=.seq vs.toArray}) (hi:Qay vs ns) (hl:ns.length≤S') (hr:bu k Zd)
  (nd:(ts.map (·.1)).Nodup) (qL:∀ t∈ts,s₁.heap.get? t.1=f' (QcD #[])∧(∃ c,Qaj K c t.1=B')∧K.lookup t.1=i')
  (F:∀ base:Vb,K.In base→base.Ns V1 mg→cE P w K mg base CX k fa fd [x] sp) (qf:∀ (s:UM) (u:L'),Ze s fd ⟨[u],[]⟩ [(x,u)])
  (jV:∀ H:Hp,rl ts H→P' K H a (ns.map V.int)→sp [.ref a] H (fun v _=>v=.bl B') fun _ _ _=>False)
  (Iv:∀ H e s',CX [] H s₁ (fun _ _ _=>False) e s'→False) :
  Wq (UJ P w) Zd (.call (.ref fa) ⟨[.ref a],[]⟩) (fun r s'=>r=.ok (.ret (.bool B'))∧OldK s₁.heap s'.heap∧s'.os=s₁.os∧XW s'.gens) s₁:=by
 have rv:=FW hi
 have vM:=hi.length
 have qV:∀ H:Hp,(∀ t∈ts,H t.1=f' (.WG t.2.1 t.2.2))→(∀ b u,H b=f' u→(b=a∧K.lookup a=i'∧u=.UZ {cls:=.type "list",data:=.seq vs.toArray} (.lst (ns.map V.int)))∨∃ t∈ts,b=t.1∧u=.WG t.2.1 t.2.2)→P' K H a (ns.map V.int) →
   Wq (UJ P w) Zd (.call (.ref fa) ⟨[.ref a],[]⟩) (fun r s'=>r=.ok (.ret (.bool B'))∧OldK s₁.heap s'.heap∧s'.os=s₁.os∧XW s'.gens) s₁:=by
  intro H h1 h2 hS
  have hO:rl ts H:=⟨h1,fun b u q=>(h2 b u q).elim (fun z=>.inl ⟨_,_,z.2.2⟩) .inr⟩
  have UP:VD P w H s₁.heap:=fun b u q=>by
   rcases h2 b u q with⟨rfl,_,rfl⟩|⟨t,ht,rfl,rfl⟩
   .exact⟨ha,by rw[Q9];exact hl,vs,_,rv,ha⟩
   .exact .inl (qL t ht).1
  have free:∀ {b:F'}{o:U6},s₁.heap.get? b=f' o→(∀ xs n,o.data≠.seq xs n)→(∀ xs,o.data≠.fields xs)→H b=i':=fun {b o} e n1 n2=>by
   cases q:H b with
   | none=>rfl
   | some u=>
    rcases h2 b u q with⟨rfl,_,_⟩|⟨t,ht,rfl,_⟩
    .rw[ha] at e;cases e
     exact(n1 _ _ O).elim
    .rw[(qL t ht).1] at e;cases e
     exact(n2 _ O).elim
  have sV:∀ {b:F'}{m:C'→Option L'},s₁.heap.Ns b m→(me s₁.heap H).Ns b m:=fun {b m} ⟨o,es,ep,e,d,r⟩=>⟨o,es,ep,yf e (free e (by rw[d];intro _ _ z;cases z) (by rw[d];intro _ z;cases z)),d,r⟩
  have BD:K.In (me s₁.heap H):=fun b o e=>yf (KX b o e) (by
   cases q:H b with
   | none=>rfl
   | some u=>
    rcases h2 b u q with⟨rfl,z,_⟩|⟨t,ht,rfl,_⟩
    .rw[z] at e;cases e
    .rw[(qL t ht).2.2] at e;cases e)
  have hM:Mod K mg (me s₁.heap H):=⟨BD,sV Bn,⟨mb,sV hb,IZ⟩,let ⟨mc,y1,y2⟩:=xD;⟨mc,sV y1,y2⟩,by
   obtain⟨bm,ob,a1,a2,a3,a4,a5,a6⟩:=Gc
   exact⟨bm,ob,a1,a2,yf a3 (free a3 (by rw[a6];intro _ _ z;cases z) (by rw[a6];intro _ z;cases z)),a4,a5,a6⟩⟩
  have e0:nK P w K mg (me s₁.heap H) Zd [] s₁ H:=⟨O,hM,fun b o e=>N6 e,Te (Ov _ _),trivial,fun b hb=>UX (show b∈([]:List F') from hb) (by simp),UP,.of_eq hg,.inl rfl⟩
  refine YA ((F _ BD (sV Bn)).run Zd [] s₁ H ⟨[.ref a],[]⟩ [.ref a] [.ref a] _ _ hr e0 (qf s₁ (.ref a)) (.cons O .nil) (jV H hO hS)) fun r s' h=>?_
  cases r with
  | error e=>exact(Iv H e s' h).elim
  | ok fl=>
   cases fl with
   | next=>exact VR h
   | brk=>exact VR h
   | cont=>exact VR h
   | ret u=>
    obtain⟨v,H',os,bare,un,ra,r',q⟩:=h
    have q':v=.bl B':=q
    subst q'
    obtain rfl:u=W7 B':=r'
    have no:∀ b:F',b∉VG []:=fun b z=>UX (show b∈([]:List F') from z) (by simp)
    refine⟨O,⟨fun b o e=>?_,fun b o e=>un.there b o e (by simp)⟩,os,bare⟩
    cases q:H b with
    | none=>exact .inl (un.keep b o e q (no b) (by simp))
    | some u=>
     rcases h2 b u q with⟨rfl,_,rfl⟩|⟨t,ht,rfl,rfl⟩
     .obtain⟨y1,_⟩:=UP _ _ q
      obtain⟨y2,_⟩:=ra _ _ (un.WC _ _ _ q)
      rw[e] at y1;cases y1
      exact .inl y2
     .obtain⟨g1,⟨c,g2⟩,_⟩:=qL t ht
      rw[e] at g1;cases g1
      rcases ra _ _ (un.WN _ _ _ q) with y|⟨c',oc,xs,tt,_,_,_,y⟩
      .exact .inl y
      .exact .inr (.inl ⟨((PySem.W.codeHd_of_K KX g2).tab e).isCodeTable,O,#[],#[Vw t.2.1.line,Vw t.2.1.col,.ref c'],O,y⟩)
 have apart:∀ t∈ts,a≠t.1:=fun t ht z=>by
  have y:=(qL t ht).1
  rw[← z,ha] at y;cases y
 cases hk:K.lookup a with
 | some o=>
  have e:=KX a o hk
  rw[ha] at e
  cases e
  refine qV (nL ts fun _=>i') (zr nd) (fun b u q=>.inr ((yd q).elim (fun z=>by cases z) id)) (.inr ⟨_,vs.toArray,_,hk,rfl,rfl,rfl,by rw[Rl,vM];exact hl,by simpa using rv⟩)
 | none=>
  refine qV (nL ts (upd (fun _=>i') a (.UZ {cls:=.type "list",data:=.seq vs.toArray} (.lst (ns.map V.int))))) (zr nd) (fun b u q=>?_) (.inl (.inr ⟨_,by rw[CV apart];exact ag⟩))
  rcases yd q with z|z
  .by_cases y:b=a
   .rw[y,ag] at z
    exact .inl ⟨y,hk,(VL z).symm⟩
   .rw[aj y] at z;cases z
  .exact .inr z
theorem znN {l:QbB}{k:Nat}{q:Vv}{eB:List C'}{XP:(C'→Option L')→Vb→Prop}{YP:VA→Vb→Prop}{d:DefRec}{K:Params→R'}{TS:List F'}
  (hn:l.most=f' n) (nj:n≤S') (lO:d.params.defaults=[]) (hr:bu k Zd)
  (hY:∀ (w:VA) (h:Vb),YP w h→(K w.params).In h∧∀ P∈TS,h.get? P=f' (QcD #[]))
  (F:∀ (w:VA) (mg:C'→Option L') (fa:F') (h:Vb),(K w.params).In h→h.Ns V1 mg→mg d.name=f' (.ref fa) →
   ∃ (fd:WV) (ts:List Tab) (sp:Sp),(∀ (s:UM) (u:L'),Ze s fd ⟨[u],[]⟩ [(x,u)])∧(ts.map (·.1)).Nodup∧(∀ t∈ts,t.1∈TS∧(∃ c,Qaj (K w.params) c t.1=B')∧(K w.params).lookup t.1=i') ∧
    (∀ (H:Hp) (a:F') (ns:List Int),ns.length≤n→rl ts H→P' (K w.params) H a (ns.map V.int)→sp [.ref a] H (fun v _=>v=.bl B') fun _ _ _=>False) ∧
    ∀ base:Vb,(K w.params).In base→base.Ns V1 mg→cE l.prog w (K w.params) mg base Vd k fa fd [x] sp) :
  PySem.W.WalkO q eB XP YP l.row.toRowW d [] (fun f vs=>QcR f vs):=by
 refine Att.ziF hn lO fun w s₀ s₁ mg mb fa o pm cd cf a vs ns G Y ho hd ic ql mR jn av hg=>?_
 obtain⟨KX,tb⟩:=hY w _ Y
 obtain⟨fd,ts,sp,hb,nd,ht,jV,hF⟩:=F w mg fa _ KX G.T.g ql
 exact OA KX G.T.g G.T.b G.T.builtins G.T.nolimit G.T.bmain hg mR jn (RZ av nj) hr nd (fun t m=>⟨tb _ (ht t m).1,(ht t m).2⟩) hF hb (fun H hO hS=>jV H a ns av hO hS) fun H e s' z=>z
section
variable {a b:U3}{a7:List U3}{tb:TE}
inductive Qin (K:R') (tb:TE) (σ:St) (Q:VK) (x:V) (H1:Hp):Prop
 | mk (k:_) (_:QbG K x H1 k) (_:if k=B' then Q x H1 else tb σ H1 Q)
def Qio (K:R') (ta tb:TE):TE:=fun σ H Q=>ta σ H fun x H1=>Qin K tb σ Q x H1
theorem Qip (ha:PE X a ta) (hb:PE X (.BoolOp .Or (b::a7) pos) tb):PE X (.BoolOp .Or (a::b::a7) pos) (Qio X.K ta tb):=by
 intro aa s σ H Q I h
 refine BoolOp_or (UV (ha aa s σ H _ I h) fun v s1=>L2.U7 fun x H1 I1 r1 aW=>?_)
 obtain⟨k,e,q1⟩:=aW
 refine UV (EN aa s1 σ H1 x v (fun k' H'=>k'=k∧H'=H1) I1 r1 ⟨k,e,O,O⟩) fun c s2 ⟨H2,I2,e1,e2⟩=>?_
 subst e1;subst e2
 cases c with
 | false=>exact hb aa s2 σ H2 Q I2 q1
 | true=>exact⟨x,H2,I2,r1,q1⟩
end
theorem rP (h1:-(2 ^ 62)≤i) (h2:i≤2 ^ 62):Qev i=B':=by
 unfold Qev
 rw[Rp (by lia),Rp (by lia)]
 rfl
section
variable {es:Array DictEntry}
def jE (kvs:List (Key×V)):List V:=kvs.map fun p=>kV p.1
end
theorem Kq (hc:VQ A cs) (I:F') (hI:I∉cs) (n:Nat):Zg prog w A I (I::cs) [I] n (fun i v=>∃ t,v=.int i t) (fun i h=>Y9 h I (i:Nat) ((n:Int)-(i:Nat)) 1∧Vi h cs) where
 sub:=fun b hb=>by simp at hb;simp[hb]
 frame:=fun _ _ _ x hk=>⟨hk I (by simp) _ x.1,x.2.mono fun b o hb e=>hk b (by simp[hb]) o e⟩
 item:=fun i s Q E hi x hQ=>by
  refine Ub x.1 (by lia) fun h' eY bZ=>?_
  refine hQ _ h' _ ⟨_,O⟩ ⟨?_,x.2.but hI bZ.extBut⟩ fun b o hb e=>bZ.extBut b o (fun h=>hb (by simp[h])) e
  rw[show(((i+1:Nat):Int))=(i:Int)+1 by lia,show(n:Int)-((i:Int)+1)=(n:Int)-(i:Int)-1 by lia]
  exact eY
 done:=fun s Q E x hQ=>Dx (hc.hd x.2) x.1 (by lia) fun h' dM=>hQ h' s.toks fun b o hb e=>dM b o (fun h=>hb (by simp[h])) e
 self:=fun _ _ _ _ x hQ=>Uh x.1 hQ
theorem Lo (hc:VQ A cs){u v:V4} (hr:IsRange s.heap r 0 n 1 t u v) (c:Vi s.heap cs) (av:n≤2 ^ 24) (S:F') (res:L') (c₀:Nat) (hS:s.heap.get? S=f' {cls:=.type "list",data:=.seq #[] c₀}) (pX:S∉cs)
  (hR:∀ h' tk eU c',(∀ b o,b≠S→s.heap.get? b=f' o→h'.get? b=f' o)→h'.get? S=f' {cls:=.type "list",dict:=i',data:=.seq eU c',slots:=#[]}→Qax (fun i v=>∃ t,v=.int i t) eU n→R (.ok (.ret res)) {s with heap:=h',toks:=tk}) :
  M' (UJ prog w) A.in1 (Ys (.ref S) (.ref r) res) (fun aS s'=>match aS with|.done f=>R (.ok f) s'|.again c'=>c'.quiet=B'∧Wq (UJ prog w) A c' R s') (fun e s'=>R (.error e) s') s:=by
 have hn:Qez 0 n 1=n:=by rw[rangeSize_one];split<;>lia
 have mF:QeG 0 n 1=B':=by
  unfold QeG
  rw[rP (i:=0) (by decide) (by decide),rP (i:=(n:Int)) (by lia) (by lia),rP (i:=1) (by decide) (by decide),hn,rP (i:=(n:Int)) (by lia) (by lia),UN (by decide),rP (i:=(n:Int)+(1-1)) (by lia) (by lia),SN]
  rfl
 have Hh:S≠r:=fun e=>by rw[e,hr] at hS;simp at hS
 have rb:S≠s.heap.objs.size:=Rj (Rc hS)
 have mN:s.heap.objs.size∉cs:=fun z=>RE _ (c.lt _ z)
 have ib:S∉s.heap.objs.size::cs:=by simp[rb,pX]
 have W:=(Kq (prog:=prog) (w:=w) (A:=A.in1) hc s.heap.objs.size mN n).toS
 have key:∀ (h:Vb) (c₁ tk:Nat),Y9 h s.heap.objs.size ((0:Nat):Int) ((n:Int)-((0:Nat):Int)) 1→Vi h cs→(∀ b o,b≠S→s.heap.get? b=f' o→h.get? b=f' o) →
   h.get? S=f' {cls:=.type "list",data:=.seq #[] c₁}→Wq (UJ prog w) A (.builtin "list.extend.loop" ⟨[.ref S,.ref s.heap.objs.size,res],[]⟩) R {s with heap:=h,toks:=tk}:=by
  intro h c₁ tk aZ ch hk Jc
  refine codeAny_extend_loopS W (by rw[Rh];lia) S ib res n 0 _ #[] c₁ rfl (R6 _) ⟨aZ,ch⟩ Jc (QfF _) fun s' eU c' mv g8 eP=>?_
  rw[Moved.eq_with mv]
  refine hR s'.heap s'.toks eU c' (fun b o hb e=>mv.heap b o (fun z=>?_) (hk b o hb e)) g8 eP
  rcases RY.mp z with e'|z
  .exact hb e'
  .exact UX (Rc e) (by rw[Vh.mp z];exact RE _)
 unfold Ys
 refine mK (SM (T:="range") ⟨_,hr,O⟩ ?_)
 have h1:QaY (.ref S) (.ref r)=K':=by simp[QaY,Hh]
 have h2:(YB "range" == YB "list")=K':=by decide
 have h3:(YB "range" == YB "tuple")=K':=by decide
 simp only[h1,h2,h3,QfR,RV,VU]
 refine mK (Uz hr mF ?_)
 refine mK (RI (wpAny_hint_range (n:=n) (Ra _ hr) hn av ?_))
 rw[hn]
 have pI:Y9 (s.heap.push {cls:=.type "range_iterator",data:=.fields #[Vw 0,Vw n,Vw 1]}) s.heap.objs.size ((0:Nat):Int) ((n:Int)-((0:Nat):Int)) 1:=by
  rw[show(n:Int)-((0:Nat):Int)=n by lia]
  exact Ri _ rfl
 have kr:=Ra {cls:=.type "range_iterator",data:=.fields #[Vw 0,Vw n,Vw 1]} hS
 have A4:Vi (s.heap.push {cls:=.type "range_iterator",data:=.fields #[Vw 0,Vw n,Vw 1]}) cs:=c.mono fun b o _ e=>Ra _ e
 refine wpAny_ite_split (fun _=>?_) (fun _=>Rb ⟨Xs Qcy _,key _ c₀ _ pI A4 (fun b o _ e=>Ra _ e) kr⟩)
 refine mK (Sr ?_)
 refine mK ?_
 show M' _ _ (YD S (·.push .none) >>= fun _=>YD S (·.pop)) _ _ _
 refine mK (Sl kr O ?_)
 have i8:=RC (Wl (·.push Vq)) kr rfl
 refine Sl (hz:=by seq_fits) i8 rfl ?_
 have tF:=RC (Wl (·.pop)) i8 rfl
 have eZ:∀ b o,b≠S→(s.heap.push {cls:=.type "range_iterator",data:=.fields #[Vw 0,Vw n,Vw 1]}).get? b=f' o→(((s.heap.push {cls:=.type "range_iterator",data:=.fields #[Vw 0,Vw n,Vw 1]}).update S (Wl (·.push Vq))).update S (Wl (·.pop))).get? b=f' o:=fun b o hb e=>
  (Ro _ _ (US hb)).trans ((Ro _ _ (US hb)).trans e)
 exact Rb ⟨Xs Qcy _,key _ _ _ (eZ _ _ (US rb) pI) (A4.mono fun b o hb e=>eZ b o (fun z=>pX (by rw[← z];exact hb)) e) (fun b o hb e=>eZ b o hb (Ra _ e)) tF⟩
theorem Lu {Q:L'→UM→Prop} (hc:VQ A cs){u v:V4} (hr:IsRange s.heap r 0 n 1 t u v) (c:Vi s.heap cs) (av:n≤2 ^ 24)
  (hQ:∀ h' tk eU c',(∀ b o,s.heap.get? b=f' o→h'.get? b=f' o)→h'.get? s.heap.objs.size=f' {cls:=.type "list",dict:=i',data:=.seq eU c',slots:=#[]}→Qax (fun i v=>∃ t,v=.int i t) eU n→Q (.ref s.heap.objs.size) {s with heap:=h',toks:=tk}) :
  M' (UJ prog w) A (call (.type "list") [.ref r]) Q E s:=by
 refine Qbp (Q₁:=fun obj s₁=>obj=.ref s.heap.objs.size∧s₁={s with heap:=s.heap.push {cls:=.type "list",data:=.seq #[]} }) Qgn (QfG _) QfH (code_list_new _ ⟨O,O⟩) fun obj s₁ h₁=>?_
 obtain⟨rfl,rfl⟩:=h₁
 have hS:(s.heap.push {cls:=.type "list",data:=.seq #[]}).get? s.heap.objs.size=f' {cls:=.type "list",data:=.seq #[]}:=Ri _ rfl
 have mN:s.heap.objs.size∉cs:=fun z=>RE _ (c.lt _ z)
 refine⟨⟨_,hS,O⟩,Qfv _ _,?_⟩
 refine(show M' _ A.in1.in1 (do let old ← Qa0 (.ref s.heap.objs.size);QeB (.ref s.heap.objs.size) (fun _=>#[]);letGo old.toList.reverse;Ys (.ref s.heap.objs.size) (.ref r) .none) _ _ _ from mK ?_)
 unfold Qa0
 refine mK (R0 hS O (Rb ?_))
 refine(show M' _ A.in1.in1 (YD s.heap.objs.size (fun _=>#[]) >>= fun _=>letGo (#[]:Array L').toList.reverse >>= fun _=>Ys (.ref s.heap.objs.size) (.ref r) .none) _ _ _ from mK (Sl hS O (mK (SI ?_))))
 have i8:=RC (Wl (fun _=>(#[]:Array L'))) hS rfl
 have eZ:∀ b o,s.heap.get? b=f' o→((s.heap.push {cls:=.type "list",data:=.seq #[]}).update s.heap.objs.size (Wl (fun _=>(#[]:Array L')))).get? b=f' o:=fun b o e=>
  (Ro _ _ (US (Rj (Rc e)))).trans (Ra _ e)
 exact Lo (A:=A.in1) hc (eZ r _ hr) (c.mono fun b o _ e=>eZ b o e) av _ .none _ i8 mN fun h' tk acc c' k g8 eP=>⟨O,hQ h' tk acc c' (fun b o e=>k b o (Rj (Rc e)) (eZ b o e)) g8 eP⟩
variable {f:Bool}{i nT:Nat}{oa:U6}{ta:TA}{xs ys:Array L'}
def Xa (n:Nat):List V:=(VO n).map fun i=>V.int (i:Nat)
theorem KF {acc:Array L'} (h:Qax (fun i v=>∃ t,v=XT i t) acc n):aA (Xa n) acc.toList:=by
 have gen:∀ (k m:Nat) (us:List L'),us.length=k→(∀ i u,us[i]?=f' u→∃ t,u=XT ((m+i:Nat):Int) t)→aA ((List.range' m k).map fun i=>V.int (i:Nat)) us:=fun k=>by
  induction k with
  | zero=>
   intro m us hl _
   obtain rfl:=Qcm.mp hl
   exact .nil
  | succ k ih=>
   intro m us hl hu
   cases us with
   | nil=>cases hl
   | cons u us=>
    refine .cons ?_ (ih (m+1) us (by simpa using hl) fun i x e=>?_)
    .obtain⟨t,e⟩:=hu 0 u rfl
     exact⟨t,e⟩
    .obtain⟨t,e⟩:=hu (i+1) x (by simpa using e)
     refine⟨t,?_⟩
     rw[e,show m+(i+1)=m+1+i by lia]
 unfold Xa
 rw[List.range_eq_range']
 refine gen n 0 acc.toList (by rw[SO];exact h.1) fun i u e=>?_
 rw[T9]
 exact h.2 i u (by rw[S3] at e;exact e)
theorem Oj {a:U3}{p2 eW:VC} (Jr:Gl X "list") (GP:X.mg "list"=i') (hg:Gl X "range") (hm:X.mg "range"=i') (ha:PA X [a] ta) (hs:U1 [a] X.env=[(K',U2 a X.env)]:=by rfl)
  (fQ:U1 [.Call (.Name "range" p2) [a] [] eW] X.env=[(K',U2 (.Call (.Name "range" p2) [a] [] eW) X.env)]:=by rfl) :
  PE X (.Call (.Name "list" p) [.Call (.Name "range" p2) [a] [] eW] [] pos) (fun σ H Q=>ta σ H fun vs H1=>∃ j:Nat,vs=[.int j]∧j≤10000∧∀ r,H1 r=i'→Q (.ref r) (upd H1 r (.lst (Xa j)))):=by
 intro aa s σ H Q I h
 refine RX (jD I Jr GP uw ?_)
 refine Yt ?_ fQ rfl
 rw[fQ]
 refine Y2 ?_
 refine Call_ (jD I hg hm boot_range (Yt (UV (ha eW aa s σ H _ I h) fun us s1=>L2.U7 fun vs H1 I1 r1 q1=>?_) hs O))
 obtain⟨j,e,j1,q⟩:=q1
 subst e
 cases r1 with
 | cons r rr=>
  cases rr
  obtain⟨t,rfl⟩:=r
  refine call_range_1 (ZE ?_)
  obtain⟨cs,cU,ch⟩:=I1.hd.chain
  have hz:(s1.heap.push {cls:=.type "range",data:=.fields #[.int 0 s1.toks,.int j t,.int 1 (s1.toks+1)]}).objs.size=s1.heap.objs.size+1:=RL ..
  refine Lu (s:={s1 with heap:=s1.heap.push {cls:=.type "range",data:=.fields #[.int 0 s1.toks,.int j t,.int 1 (s1.toks+1)]},toks:=s1.toks+1+1}) cU (r:=s1.heap.objs.size) (n:=j) (Ri _ O) (ch.mono fun b o _ e=>Ra _ e) (by lia) fun h' tk acc c' k hS eP=>?_
  dsimp only at k hS
  rw[hz] at hS
  have fr:H1 (s1.heap.objs.size+1)=i':=I1.UP.fresh (RQ _)
  refine⟨.ref (s1.heap.objs.size+1),upd H1 (s1.heap.objs.size+1) (.lst (Xa j)),I1.laid (t':=tk) (fun b o e=>k b o (Ra _ e)) (RQ _) ⟨by unfold Xa;rw[Q9,S0,Rh];lia,acc.toList,c',KF eP,by simpa using hS⟩,?_,q _ fr⟩
  show UW _=UW _
  rw[hz]
abbrev nV (h:Vb) (z TI TO T:F') (f:Bool):Prop:=h.get? z=f' {cls:=.type "zip",dict:=i',data:=.fields #[Vw T,.bool f,.bool K',.ref TI,.ref TO],slots:=#[]}
theorem Cq {TI TO:F'}{Q:Bool→UM→Prop} (hz:nV s.heap z TI TO T f) (ha:s.heap.get? T=f' oa) (h:∀ h',nV h' z TI TO T B'→XR z s.heap h'→Q K' {s with heap:=h'}) :
  M' (UJ prog w) A (Zv (.ref z)) Q E s:=by
 unfold Zv
 refine mK (RH hz O (x:=Vw T) O ?_)
 show M' _ _ (loadIfAlive ((T:Int).toNat) >>= _) _ _ _
 rw[RA]
 refine mK (PySem.W.kdx_alive ha ?_)
 simp only[Option.isNone_some,RV,VU]
 refine mK (RH hz O (x:=.bool f) O ?_)
 cases f with
 | true=>
  rw[UL (show ¬ ((W7 B' != W7 B')=B') from Rq)]
  exact Rb (h s.heap hz (Qor _ _))
 | false=>
  rw[UN (show(W7 K' != W7 B')=B' from rfl)]
  refine mK (Tf hz (by simp) fun h₃ GF fN=>?_)
  exact Rb (h h₃ GF fN)
theorem Md {TI TO:F'}{x y:L'} (D:XU z TI TO i1 i2 l1 l2)
  (hz:nV s.heap z TI TO T f) (ha:s.heap.get? T=f' oa) (cH:WW s.heap TI (.ref i1) (.ref i2))
  (h1:s.heap.IsListIter i1 l1 k1) (h2:s.heap.IsListIter i2 l2 k2) (cT:s.heap.IsList l1 xs) (bO:s.heap.IsList l2 ys) (hx:xs[k1]?=f' x) (hy:ys[k2]?=f' y)
  (hQ:∀ h',nV h' z TI TO T B'→h'.IsListIter i1 l1 (k1+1)→h'.IsListIter i2 l2 (k2+1)→WW h' s.heap.objs.size x y →
   (∀ c o,c≠z→c≠i1→c≠i2→s.heap.get? c=f' o→h'.get? c=f' o)→Q (f' (.ref s.heap.objs.size)) {s with heap:=h'}) :
  M' (UJ prog w) A (Vz (.ref z)) Q E s:=by
 have hT:s.TypeIs (.ref z) "zip":=⟨_,hz,O⟩
 unfold Vz
 refine mK (Sa (RN (name:=UO "__next__") hT ZJ (R3 ZJ hT QcH ?_ (QcG _))))
 refine(show M' _ _ (Wc (.ref z) 2 >>= _) _ _ _ from mK (RH hz O (x:=.bool K') O ?_))
 refine(show M' _ _ (Wc (.ref z) 3 >>= _) _ _ _ from mK (RH hz O (x:=.ref TI) O (mK (R0 cH O ?_))))
 refine(show M' _ _ (Zv (.ref z) >>= _) _ _ _ from mK (Cq hz ha fun h₁ mo bQ=>?_))
 simp only[RV,VU,UB,SV,TM]
 refine mK (mK (mK (RI ?_)))
 refine(show M' _ _ (XH (.ref i1) >>= _) _ _ _ from mK (SY (h1.extBut bQ.extBut D.i1z) (cT.extBut bQ.extBut D.l1z) hx fun h₂ we dN=>Rb (Rb ?_)))
 refine mK (mK (RI ?_))
 refine(show M' _ _ (XH (.ref i2) >>= _) _ _ _ from mK (SY ((h2.extBut bQ.extBut D.i2z).extBut dN.extBut D.i12.symm) ((bO.extBut bQ.extBut D.l2z).extBut dN.extBut D.l2i1) hy fun h₃ IF fN=>Rb (Rb (Rb ?_))))
 refine(show M' _ _ (newTuple [x,y] >>= _) _ _ _ from mK (wpAny_newTuple ?_))
 have hsz:h₃.objs.size=s.heap.objs.size:=by rw[fN.1,dN.1,bQ.1]
 have up:∀ c o,c≠z→c≠i1→c≠i2→s.heap.get? c=f' o→(h₃.push {cls:=.type "tuple",data:=.seq #[x,y]}).get? c=f' o:=fun c o c1 c2 c3 e=>
  Ra _ (fN.extBut _ _ c3 (dN.extBut _ _ c2 (bQ.extBut _ _ c1 e)))
 have GS:nV (h₃.push {cls:=.type "tuple",data:=.seq #[x,y]}) z TI TO T B':=Ra _ (fN.extBut _ _ D.i2z.symm (dN.extBut _ _ D.i1z.symm mo))
 have Ay:WW (h₃.push {cls:=.type "tuple",data:=.seq #[x,y]}) h₃.objs.size x y:=Ri _ rfl
 have HI:(h₃.push {cls:=.type "tuple",data:=.seq #[x,y]}).IsListIter i1 l1 (k1+1):=we.at fun o e=>Ra _ (fN.extBut _ _ D.i12 e)
 have HL:(h₃.push {cls:=.type "tuple",data:=.seq #[x,y]}).IsListIter i2 l2 (k2+1):=IF.at fun o e=>Ra _ e
 rw[hsz] at Ay
 refine Rb ⟨_,O,Rb ?_⟩
 have aS:=hQ _ GS HI HL Ay up
 rw[← hsz] at aS
 exact aS
theorem Kn {TI TO:F'} (hc:VQ A cs) (c:Vi s.heap cs) (nz:z∉cs) (n1:i1∉cs) (D:XU z TI TO i1 i2 l1 l2)
  (hz:nV s.heap z TI TO T f) (ha:s.heap.get? T=f' oa) (cH:WW s.heap TI (.ref i1) (.ref i2))
  (h1:s.heap.IsListIter i1 l1 k1) (h2:s.heap.IsListIter i2 l2 k2) (cT:s.heap.IsList l1 xs) (bO:s.heap.IsList l2 ys) (iA:xs[k1]?=i'∨ys[k2]?=i')
  (hQ:∀ h',(∀ c o,c≠z→c≠i1→c≠i2→s.heap.get? c=f' o→h'.get? c=f' o)→Q i' {s with heap:=h'}):M' (UJ prog w) A (Vz (.ref z)) Q E s:=by
 have hT:s.TypeIs (.ref z) "zip":=⟨_,hz,O⟩
 have aS:∀ h' e,(∀ c o,c≠z→c≠i1→c≠i2→s.heap.get? c=f' o→h'.get? c=f' o)→(∃ o,h'.get? e=f' o∧o.cls=.type "StopIteration") →
   M' (UJ prog w) A (do if ← YC (.ref e) (.type "StopIteration") then pure i' else throw (.ref e)) Q E {s with heap:=h'}:=fun h' e k ⟨o,ho,mw⟩=>
  mK (Sb (T:="StopIteration") (b:=B') ⟨o,ho,mw⟩ XO (Rb (hQ _ k)))
 unfold Vz
 refine mK (Sa (RN (name:=UO "__next__") hT ZJ (R3 ZJ hT QcH ?_ (QcG _))))
 refine(show M' _ _ (Wc (.ref z) 2 >>= _) _ _ _ from mK (RH hz O (x:=.bool K') O ?_))
 refine(show M' _ _ (Wc (.ref z) 3 >>= _) _ _ _ from mK (RH hz O (x:=.ref TI) O (mK (R0 cH O ?_))))
 refine(show M' _ _ (Zv (.ref z) >>= _) _ _ _ from mK (Cq hz ha fun h₁ mo bQ=>?_))
 have c₁:Vi h₁ cs:=c.but nz bQ.extBut
 simp only[RV,VU,UB,SV,TM]
 refine mK (mK (mK (RI ?_)))
 cases hx:xs[k1]? with
 | none=>
  exact(show M' _ _ (XH (.ref i1) >>= _) _ _ _ from mK (rQ (A:=A.in1) (VQ.hd (A:=A.in1) hc c₁) (h1.extBut bQ.extBut D.i1z) (cT.extBut bQ.extBut D.l1z) hx fun h₂ e dN he=>
   aS h₂ e (fun c o c1 c3 _ x=>dN _ _ c3 (bQ.extBut _ _ c1 x)) he))
 | some x=>
  have hy:ys[k2]?=i':=by rcases iA with h|h;rw[hx] at h;cases h;exact h
  refine(show M' _ _ (XH (.ref i1) >>= _) _ _ _ from mK (SY (h1.extBut bQ.extBut D.i1z) (cT.extBut bQ.extBut D.l1z) hx fun h₂ we dN=>Rb (Rb ?_)))
  refine mK (mK (RI ?_))
  have c₂:Vi h₂ cs:=c₁.but n1 dN.extBut
  exact(show M' _ _ (XH (.ref i2) >>= _) _ _ _ from mK (rQ (A:=A.in1) (VQ.hd (A:=A.in1) hc c₂) ((h2.extBut bQ.extBut D.i2z).extBut dN.extBut D.i12.symm) ((bO.extBut bQ.extBut D.l2z).extBut dN.extBut D.l2i1) hy fun h₃ e fN he=>
   aS h₃ e (fun c o c1 c2 c3 x=>fN _ _ c3 (dN.extBut _ _ c2 (bQ.extBut _ _ c1 x))) he))
def ZS (h:Vb) (z TI TO i1 i2 l1 l2 d:F') (xs ys:Array L') (i:Nat):Prop:=
 (XZ h z TI TO .none∨∃ T f oa,nV h z TI TO T f∧h.get? T=f' oa∧T≠z∧T≠i1∧T≠i2∧T≠d)∧WW h TI (.ref i1) (.ref i2)∧(∃ a b,WW h TO a b)∧h.IsListIter i1 l1 i∧h.IsListIter i2 l2 i∧h.IsList l1 xs∧h.IsList l2 ys
theorem QB {TI TO:F'}{x y:L'} (D:XU z TI TO i1 i2 l1 l2) (dl:d<s.heap.objs.size) (st:ZS s.heap z TI TO i1 i2 l1 l2 d xs ys i) (hx:xs[i]?=f' x) (hy:ys[i]?=f' y)
  (hQ:∀ h',ZS h' z TI TO i1 i2 l1 l2 d xs ys (i+1)→WW h' s.heap.objs.size x y→(∀ c o,c≠z→c≠TO→c≠i1→c≠i2→s.heap.get? c=f' o→h'.get? c=f' o)→Q (f' (.ref s.heap.objs.size)) {s with heap:=h'}) :
  M' (UJ prog w) A (Vz (.ref z)) Q E s:=by
 obtain⟨zs,cH,⟨a,b,eC⟩,h1,h2,cT,bO⟩:=st
 have lt:∀ {c o},s.heap.get? c=f' o→s.heap.objs.size≠c:=fun e=>Sh (Rc e)
 have n1:s.heap.objs.size≠i1:=by obtain⟨_,e,_⟩:=h1;exact lt e
 have n2:s.heap.objs.size≠i2:=by obtain⟨_,e,_⟩:=h2;exact lt e
 rcases zs with hz|⟨T,f,oa,hz,ha,t1,t2,t3,t4⟩
 .refine Uo D hz cH eC h1 h2 cT bO hx hy fun h' a1 a2 a3 a4 a5 a6 hk=>?_
  exact hQ h' ⟨.inr ⟨s.heap.objs.size,K',_,a1,a5,lt hz,n1,n2,Sh dl⟩,hk _ _ D.TIz D.TITO D.TIi1 D.TIi2 cH,⟨_,_,a2⟩,a3,a4,cT.at fun o e=>hk _ o D.l1z D.l1TO D.l1i1 D.l1i2 e,bO.at fun o e=>hk _ o D.l2z D.l2TO D.l2i1 D.l2i2 e⟩ a5 hk
 .refine Md D hz ha cH h1 h2 cT bO hx hy fun h' a1 a3 a4 a5 hk=>?_
  exact hQ h' ⟨.inr ⟨T,B',oa,a1,hk _ _ t1 t2 t3 ha,t1,t2,t3,t4⟩,hk _ _ D.TIz D.TIi1 D.TIi2 cH,⟨_,_,hk _ _ D.TOz D.TOi1 D.TOi2 eC⟩,a3,a4,cT.at fun o e=>hk _ o D.l1z D.l1i1 D.l1i2 e,bO.at fun o e=>hk _ o D.l2z D.l2i1 D.l2i2 e⟩ a5
   fun c o c1 _ c3 c4 e=>hk c o c1 c3 c4 e
theorem Qiq {TI TO:F'} (hc:VQ A cs) (c:Vi s.heap cs) (nz:z∉cs) (nT:TO∉cs) (n1:i1∉cs) (n2:i2∉cs) (D:XU z TI TO i1 i2 l1 l2) (st:ZS s.heap z TI TO i1 i2 l1 l2 d xs ys i) (iA:xs[i]?=i'∨ys[i]?=i')
  (hQ:∀ h',(∀ c o,c≠z→c≠TO→c≠i1→c≠i2→s.heap.get? c=f' o→h'.get? c=f' o)→Q i' {s with heap:=h'}):M' (UJ prog w) A (Vz (.ref z)) Q E s:=by
 obtain⟨zs,cH,⟨a,b,eC⟩,h1,h2,cT,bO⟩:=st
 rcases zs with hz|⟨T,f,oa,hz,ha,t1,t2,t3,t4⟩
 .exact EF hc c nz nT n1 n2 D hz cH eC h1 h2 cT bO iA hQ
 .exact Kn hc c nz n1 D hz ha cH h1 h2 cT bO iA fun h' hk=>hQ h' fun c o c1 _ c3 c4 e=>hk c o c1 c3 c4 e
structure xQ (z TI TO i1 i2 l1 l2 d:F'):Prop where
 z:z≠d
 TI:TI≠d
 TO:TO≠d
 i1:i1≠d
 i2:i2≠d
 l1:l1≠d
 l2:l2≠d
theorem ZS.but {TI TO:F'} (N:xQ z TI TO i1 i2 l1 l2 d) (st:ZS h z TI TO i1 i2 l1 l2 d xs ys i) (hk:∀ c o,c≠d→h.get? c=f' o→h'.get? c=f' o):ZS h' z TI TO i1 i2 l1 l2 d xs ys i:=by
 obtain⟨zs,cH,⟨a,b,eC⟩,h1,h2,cT,bO⟩:=st
 refine⟨?_,hk _ _ N.TI cH,⟨a,b,hk _ _ N.TO eC⟩,h1.at fun o e=>hk _ o N.i1 e,h2.at fun o e=>hk _ o N.i2 e,cT.at fun o e=>hk _ o N.l1 e,bO.at fun o e=>hk _ o N.l2 e⟩
 rcases zs with hz|⟨T,f,oa,hz,ha,t1,t2,t3,t4⟩
 .exact .inl (hk _ _ N.z hz)
 .exact .inr ⟨T,f,oa,hk _ _ N.z hz,hk _ _ t4 ha,t1,t2,t3,t4⟩
section
variable {κ:Type} [DecidableEq κ] {knd:KeyKind prog w κ}
theorem ML {TI TO:F'} (D:XU z TI TO i1 i2 l1 l2) (N:xQ z TI TO i1 i2 l1 l2 d) (hc:VQ A cs) (nz:z∉cs) (nT:TO∉cs) (n1:i1∉cs) (n2:i2∉cs) (nd:d∉cs) (av:xs.size≤ys.size) (hn:xs.size≤1000)
  (ks:Nat→κ) (vs:Nat→L') (kvs:Nat→List (κ×L')) (res:L') (gK:∀ i x y,xs[i]?=f' x→ys[i]?=f' y→knd.is (ks i) x=B'∧y=vs i)
  (hs:∀ i,kvs (i+1)=Xx (kvs i) (ks i) (vs i)) (hl:∀ i,(kvs i).length≤i) (s0:UM) :
  ∀ (k i:Nat) (h:Vb) (tk:Nat),xs.size-i=k→i≤xs.size→ZS h z TI TO i1 i2 l1 l2 d xs ys i→Vi h cs→h.DictOf knd d (kvs i)→(∀ b o,b≠d→b≠z→b≠TO→b≠i1→b≠i2→s0.heap.get? b=f' o→h.get? b=f' o) →
   (∀ h' iB,(∀ b o,b≠d→b≠z→b≠TO→b≠i1→b≠i2→s0.heap.get? b=f' o→h'.get? b=f' o)→h'.DictOf knd d (kvs xs.size)→R (.ok (.ret res)) {s0 with heap:=h',toks:=iB}) →
   Wq (UJ prog w) A (.builtin "dict.update.loop" ⟨[.ref d,.ref z,.int i 0,res],[]⟩) R {s0 with heap:=h,toks:=tk}:=by
 intro k
 induction k with
 | zero=>
  intro i h tk hk hi st ch hD keep hR
  have cB:i=xs.size:=by lia
  subst cB
  refine Yb uK ?_
  rw[Yu l8 _]
  show M' _ A.in1 (Vz (.ref z) >>= _) _ _ _
  refine mK (Qiq (A:=A.in1) (s:={s0 with heap:=h,toks:=tk}) hc ch nz nT n1 n2 D st (.inl (by simp)) fun h' d9=>?_)
  show M' _ A.in1 (pure () >>= fun _=>ret res) _ _ _
  refine mK (Rb (Rb (hR h' tk (fun b o b0 b1 b2 b3 b4 e=>d9 b o b1 b2 b3 b4 (keep b o b0 b1 b2 b3 b4 e)) ?_)))
  obtain⟨o,es,ep,ho,a7⟩:=hD
  exact⟨o,es,ep,d9 _ _ (US N.z) (US N.TO) (US N.i1) (US N.i2) ho,a7⟩
 | succ k ih=>
  intro i h tk hk hi st ch hD keep hR
  have b8:i<xs.size:=by lia
  refine Yb uK ?_
  rw[Yu l8 _]
  show M' _ A.in1 (Vz (.ref z) >>= _) _ _ _
  have dl:d<h.objs.size:=by
   obtain⟨o,es,ep,ho,a7⟩:=hD
   exact Rc ho
  have hx:xs[i]?=f' xs[i]:=T3 b8
  have hy:ys[i]?=f' (ys[i]'(by lia)):=T3 (by lia)
  obtain⟨d8,hv⟩:=gK i _ _ hx hy
  refine mK (QB (A:=A.in1) (s:={s0 with heap:=h,toks:=tk}) D dl st hx hy fun h' ia hP d9=>?_)
  rw[hv] at hP
  generalize xs[i]=key at d8 hP hx
  have tn:∀ b o,h.get? b=f' o→b≠h.objs.size:=fun b o e=>Rj (Rc e)
  have vV:h'.DictOf knd d (kvs i):=by
   obtain⟨o,es,ep,ho,a7⟩:=hD
   exact⟨o,es,ep,d9 _ _ (US N.z) (US N.TO) (US N.i1) (US N.i2) ho,a7⟩
  have hT:Qbj {s0 with heap:=h',toks:=tk} (.ref h.objs.size) "tuple":=⟨_,hP,O⟩
  have lD:Vi h' cs:=ch.mono fun b o hb e=>d9 b o (fun q=>nz (q ▸ hb)) (fun q=>nT (q ▸ hb)) (fun q=>n1 (q ▸ hb)) (fun q=>n2 (q ▸ hb)) e
  dsimp only
  refine mK (RI (mK (SJ ?_)))
  unfold QeC
  refine mK (SM hT ?_)
  rw[UN (by decide)]
  refine mK (R0 hP O (Rb ?_))
  show M' _ _ (Xv [key,vs i] (dictSet d key (vs i))) _ _ _
  refine RI (Uv (knd:=knd) (s:={s0 with heap:=h',toks:=tk}) d8 vV (fun eD qi tu=>?_) (by rw[Rh];have:=hl i;lia))
  have e1:kvs (i+1)=Xx (kvs i) (ks i) (vs i):=hs i
  rw[← e1] at qi
  have kb:∀ c o,c≠d→h'.get? c=f' o→eD.get? c=f' o:=fun c o gc e=>by rw[tu.2 c gc];exact e
  exact Rb ⟨Xs l8 _,ih (i+1) eD _ (by lia) b8 (ia.but N kb) (lD.mono fun b o hb e=>kb b o (fun q=>nd (q ▸ hb)) e) qi (fun b o b0 b1 b2 b3 b4 e=>kb b o b0 (d9 b o b1 b2 b3 b4 (keep b o b0 b1 b2 b3 b4 e))) hR⟩
end
theorem ND:Xt (.type "zip") "keys"=pure i':=Qbm (by kernel_rfl)
theorem Ly:Qby table "zip.__getattribute__"=f' W'.«object.__getattribute__»:=Qgs (id':="object.__getattribute__") (by kernel_rfl) (by first|rfl|decide +kernel) (by decide +kernel) (by kernel_rfl)
theorem K6 {TI TO:F'}{tk:V4}{Q:Fin→UM→Prop} (hd:Hd A s.heap) (ho:XZ s.heap z TI TO .none)
  (h:∀ h' tk e,(∀ b ob,s.heap.get? b=f' ob→h'.get? b=f' ob)→(∃ o',h'.get? e=f' o'∧o'.cls=.type "AttributeError")→E (.ref e) {s with heap:=h',toks:=tk}) :
  M' (UJ prog w) A (W'.«object.__getattribute__» ⟨[.ref z,.str "keys" tk],[]⟩) Q E s:=by
 have hT:s.TypeIs (.ref z) "zip":=⟨_,ho,O⟩
 have f4:=ND
 unfold W'.«object.__getattribute__»
 obtain⟨hp,g,d,iB,os⟩:=s
 repeat (any_goals (first|assumption|wp_step))
 exact FE hd h (attrMsg_fits (by decide +kernel) (by size_fits))
theorem Qb {TI TO:F'} (hd:Hd A s.heap) (ho:XZ s.heap z TI TO .none)
  (h:∀ h' tk,(∀ b ob,s.heap.get? b=f' ob→h'.get? b=f' ob)→Q i' {s with heap:=h',toks:=tk}) :
  M' (UJ prog w) A (ZR (.ref z) "keys") Q E s:=by
 unfold ZR Qc0
 obtain⟨hp,g,d,iB,os⟩:=s
 have hT:(⟨hp,g,d,iB+1,os⟩:UM).TypeIs (.ref z) "zip":=⟨_,ho,O⟩
 have f1:=QcC
 have f2:=Qa5.lookup
 have f3:=Qa5.bind (.ref z)
 have f5:Xt (.type "zip") "__getattr__"=pure i':=Qbm (by kernel_rfl)
 unfold Qbw
 repeat (any_goals (first|assumption|wp_step))
 refine Zz Qa5.plain Ly (Qa5.check _ _ _ _ _ _ _ _ hT (F.args_zip_getattribute_2 _ _) (K6 (s:=⟨hp,g,d,iB+1,os⟩) hd ho fun h' kR e k' ⟨o',e1,e2⟩=>?_))
 dsimp only
 show M' _ _ (Qbb _ _ _ _ _ _ _) _ _ _
 unfold Qbb
 have hE:(⟨h',g,d,kR,os⟩:UM).TypeIs (.ref e) "AttributeError":=⟨_,e1,e2⟩
 repeat (any_goals (first|assumption|wp_step))
 exact h h' kR k'
section
variable {κ:Type} [DecidableEq κ] {knd:KeyKind prog w κ}
theorem Ky {TI TO:F'}{a b:L'}{Q:L'→UM→Prop} (hc:VQ A cs) (ch:Vi s.heap cs) (nz:z∉cs) (nT:TO∉cs) (n1:i1∉cs) (n2:i2∉cs) (D:XU z TI TO i1 i2 l1 l2)
  (hz:XZ s.heap z TI TO .none) (cH:WW s.heap TI (.ref i1) (.ref i2)) (eC:WW s.heap TO a b) (h1:s.heap.IsListIter i1 l1 0) (h2:s.heap.IsListIter i2 l2 0) (cT:s.heap.IsList l1 xs) (bO:s.heap.IsList l2 ys) (av:xs.size≤ys.size) (hn:xs.size≤1000)
  (ks:Nat→κ) (vs:Nat→L') (kvs:Nat→List (κ×L')) (h0:kvs 0=[]) (hs:∀ i,kvs (i+1)=Xx (kvs i) (ks i) (vs i)) (hl:∀ i,(kvs i).length≤i)
  (gK:∀ i x y,xs[i]?=f' x→ys[i]?=f' y→knd.is (ks i) x=B'∧y=vs i)
  (h:∀ h' tk,h'.DictOf knd s.heap.objs.size (kvs xs.size)→(∀ b o,b≠z→b≠TO→b≠i1→b≠i2→s.heap.get? b=f' o→h'.get? b=f' o)→Q (.ref s.heap.objs.size) {s with heap:=h',toks:=tk}) :
  M' (UJ prog w) A (call (.type "dict") [.ref z]) Q E s:=by
 refine Qbp (Q₁:=fun obj s₁=>obj=.ref s.heap.objs.size∧s₁={s with heap:=s.heap.push {cls:=.type "dict",data:=.dict #[]} }) QfN (Qfm _) QfI (Qga _ ⟨O,O⟩) ?_
 rintro obj s₁ ⟨rfl,rfl⟩
 have cW:(s.heap.push {cls:=.type "dict",data:=.dict #[]}).DictOf knd s.heap.objs.size []:=Qcw s.heap
 have keep:∀ b o,s.heap.get? b=f' o→(s.heap.push {cls:=.type "dict",data:=.dict #[]}).get? b=f' o:=fun b o e=>Ra _ e
 have lt:∀ b∈cs,b<s.heap.objs.size:=ch.lt
 have gl:∀ {b o},s.heap.get? b=f' o→b≠s.heap.objs.size:=fun e=>Rj (Rc e)
 have N:xQ z TI TO i1 i2 l1 l2 s.heap.objs.size:=⟨gl hz,gl cH,gl eC,by obtain⟨_,e,_⟩:=h1;exact gl e,by obtain⟨_,e,_⟩:=h2;exact gl e,by obtain⟨_,e,_⟩:=cT;exact gl e,by obtain⟨_,e,_⟩:=bO;exact gl e⟩
 generalize s.heap.push {cls:=.type "dict",data:=.dict #[]}=hp at cW keep ⊢
 have lD:Vi hp cs:=ch.mono fun b o _ e=>keep b o e
 have lH:XZ hp z TI TO .none:=keep _ _ hz
 refine⟨cW.typeIs,Qfw _ _,?_⟩
 unfold W'.«dict.__init__»
 refine mK ?_
 unfold QeA
 refine mK (Uq cW.typeIs ?_)
 show M' _ _ (pure (s.heap.objs.size,[UW z])) _ _ _
 refine Rb ?_
 show M' _ _ (QaZ "dict.__init__" s.heap.objs.size (.ref z) [] .none) _ _ _
 unfold QaZ
 have hT:Qbj {s with heap:=hp} (.ref z) "zip":=⟨_,lH,O⟩
 refine mK (SM hT ?_)
 rw[UN (by decide)]
 refine mK ?_
 refine Qb (s:={s with heap:=hp}) (VQ.hd (A:=A.in1.in1) hc lD) lH fun iK kR k2=>?_
 have all2:∀ b o,s.heap.get? b=f' o→iK.get? b=f' o:=fun b o e=>k2 b o (keep b o e)
 have vK:Vi iK cs:=lD.mono fun b o _ e=>k2 b o e
 rw[UN (show(i':Option L').isNone=B' from rfl)]
 refine mK (Sr ?_)
 refine mK (T7 (s:={s with heap:=iK,toks:=kR}) (all2 _ _ hz) ?_)
 have iZ:iK.DictOf knd s.heap.objs.size (kvs 0):=by
  rw[h0]
  obtain⟨o,es,ep,hg,a7⟩:=cW
  exact⟨o,es,ep,k2 _ _ hg,a7⟩
 have st:ZS iK z TI TO i1 i2 l1 l2 s.heap.objs.size xs ys 0:=⟨.inl (all2 _ _ hz),all2 _ _ cH,⟨_,_,all2 _ _ eC⟩,h1.at fun o e=>all2 _ o e,h2.at fun o e=>all2 _ o e,cT.at fun o e=>all2 _ o e,bO.at fun o e=>all2 _ o e⟩
 refine Rb ⟨Xs l8 _,ML (knd:=knd) (A:=A.in1) D N hc nz nT n1 n2 (fun q=>RE _ (lt _ q)) av hn ks vs kvs .none gK hs hl s xs.size 0 iK kR O (R6 _) st vK iZ (fun b o b0 _ _ _ _ e=>all2 b o e) fun h' iB hk hD=>?_⟩
 exact⟨O,h h' iB hD fun b o c1 c2 c3 c4 e=>hk b o (gl e) c1 c2 c3 c4 e⟩
end
theorem MU {p2 eW:VC}{a b:U3} (hg:Gl X "dict") (hm:X.mg "dict"=i') (mB:Gl X "zip") (JF:X.mg "zip"=i') (ha:PA X [a,b] ta) (hs:U1 [a,b] X.env=[(K',U2 a X.env),(K',U2 b X.env)]:=by rfl) (fQ:U1 [b] X.env=[(K',U2 b X.env)]:=by rfl)
  (he:U1 [.Call (.Name "zip" p2) [a,b] [] eW] X.env=(K',U2 (.Call (.Name "zip" p2) [a,b] [] eW) X.env)::U1 [] X.env:=by rfl) (bH:(Vx pos (U1 [] X.env)).any (·.1)=K':=by rfl) :
  PE X (.Call (.Name "dict" p) [.Call (.Name "zip" p2) [a,b] [] eW] [] pos) (fun σ H Q=>ta σ H fun vs H1=>∃ l1 l2,∃ ns:List Key,∃ ms:List V,vs=[.ref l1,.ref l2]∧P' X.K H1 l1 (ns.map kV)∧P' X.K H1 l2 ms∧ns.length≤ms.length∧ns.length≤1000∧∀ d,H1 d=i'→Q (.ref d) (upd H1 d (.dK (WJ (ns.zip ms))))):=by
 intro aa s σ H Q I h
 refine RX (jD I hg hm CH ?_)
 refine Yt ?_ he bH
 rw[he]
 show M' _ _ (spliced ((K',U2 _ X.env)::Vx pos (U1 [] X.env))) _ _ s
 refine Y2 ?_
 refine Call_ (jD I mB JF boot_zip (Yt (UV (ha eW aa s σ H _ I h) fun us s1=>L2.U7 fun vs H1 I1 r1 aW=>?_) (by rw[hs,fQ]) (by rw[fQ];rfl)))
 obtain⟨l1,l2,ns,ms,e,q1,q2,av,qg,q⟩:=aW
 subst e
 obtain⟨u,u',rfl,ru,qM⟩:=nJ r1
 obtain rfl:u=UW l1:=ru
 obtain rfl:u'=UW l2:=qM
 obtain⟨ah,rv,pl,_⟩:=I1.list q1
 obtain⟨its',dz,jW,_⟩:=I1.list q2
 refine call_zip_2 pl.isList jW.isList fun h' b1 b2 b3 b4 b5 b6 hk=>?_
 refine ZE ?_
 have I2:Inv X aa σ H1 {s1 with heap:=h'}:=I1.kept (t':=s1.toks) hk
 obtain⟨cs,cU,ch⟩:=I1.hd.chain
 have lt:∀ b∈cs,b<s1.heap.objs.size:=ch.lt
 have iD:l1<s1.heap.objs.size:=by obtain⟨o,e,_⟩:=pl.isList;exact Rc e
 have kT:l2<s1.heap.objs.size:=by obtain⟨o,e,_⟩:=jW.isList;exact Rc e
 have nn:∀ (x y:Nat),x<y→∀ j:Nat,x≠y+j:=fun x y h j e=>by lia
 have n0:∀ (y i j:Nat),i≠j→y+i≠y+j:=fun y i j h e=>by lia
 have D:XU (s1.heap.objs.size+4) (s1.heap.objs.size+2) (s1.heap.objs.size+3) s1.heap.objs.size (s1.heap.objs.size+1) l1 l2:=
  ⟨n0 _ 2 4 (by decide),n0 _ 3 4 (by decide),n0 _ 0 4 (by decide),n0 _ 1 4 (by decide),n0 _ 2 3 (by decide),n0 _ 2 0 (by decide),n0 _ 2 1 (by decide),n0 _ 3 0 (by decide),n0 _ 3 1 (by decide),n0 _ 0 1 (by decide),
   nn _ _ iD 4,nn _ _ iD 3,nn _ _ iD 0,nn _ _ iD 1,nn _ _ kT 4,nn _ _ kT 3,nn _ _ kT 0,nn _ _ kT 1⟩
 have nc:∀ j:Nat,s1.heap.objs.size+j∉cs:=fun j q=>UX (lt _ q) (Qbs.mpr (RO _ _))
 have e1:=rv.length
 have e2:=dz.length
 rw[Q9] at e1
 have qS:∀ i k y,ns[i]?=f' k→its'[i]?=f' y→(ns.zip its').getD i (Va 0,.none)=(k,y):=fun i k y q1 q2=>by
  have q:(ns.zip its')[i]?=f' (k,y):=by
   rw[Tc]
   exact⟨q1,q2⟩
  rw[Rr,q]
  rfl
 have hz:ah.toArray.size=ns.length:=by simp[e1]
 have zl:(ns.zip ms).length=ns.length:=by rw[Td];lia
 refine Ky (s:={s1 with heap:=h'}) (knd:=b9 X.prog X.w) cU (ch.mono fun b o _ e=>hk b o e) (nc 4) (nc 3) (nc 0) (nc 1) D b1 b2 b3 b4 b5 (pl.isList.at fun o e=>hk _ o e) (jW.isList.at fun o e=>hk _ o e) (by simp;lia) (by rw[hz];exact qg)
  (fun i=>((ns.zip its').getD i (Va 0,.none)).1) (fun i=>((ns.zip its').getD i (Va 0,.none)).2) (stN (ns.zip its')) O (fun _=>O) (x8 _) (fun i x y hx hy=>?_) fun eD tk hD keep=>?_
 .have hx:ah[i]?=f' x:=by simpa using hx
  have hy:its'[i]?=f' y:=by simpa using hy
  have hi:i<ns.length:=by
   have:=(VJ.mp hx).1
   lia
  have d9:ns[i]?=f' ns[i]:=Rm hi
  obtain⟨u,hu,ru⟩:=rv.get (i:=i) (x:=kV ns[i]) (by rw[RD,d9];rfl)
  rw[hx] at hu
  obtain rfl:=VL hu
  rw[qS i _ y d9 hy]
  exact⟨iP ru,O⟩
 have rel:=yS (kvs:=ns.zip ms) (us:=ns.zip its') (fun i kv Ib=>by
  obtain⟨g1,g2⟩:=Tc.mp Ib
  obtain⟨u,hu,ru⟩:=dz.get g2
  rw[qS i _ u g1 hu]
  exact⟨O,ru⟩) (ns.zip ms).length (Re _)
 rw[Rz,zl] at rel
 rw[hz] at hD
 have ne:(h'.objs.size == Wm)=K':=(ud (P:=X.prog) (w:=X.w) (H:=H1) h' I2.big).2.1
 have z:(WJ (ns.zip ms)).length≤S':=by
  have:=QbR (ns.zip ms) []
  have z0:([]:List (Key×V)).length=0:=rfl
  rw[Rh]
  unfold WJ
  lia
 have le:s1.heap.objs.size≤h'.objs.size:=by lia
 refine⟨.ref h'.objs.size,_,I1.laid (a:=h'.objs.size) (o:=.dK (WJ (ns.zip ms))) (t':=tk) (fun b o e=>?_) le ⟨z,ne,_,rel,hD⟩,O,q _ (I1.UP.fresh le)⟩
 have bl:=Rc e
 exact keep b o (Rj (Rw bl (RO _ 4))) (Rj (Rw bl (RO _ 3))) (Rj bl) (Rj (Rw bl (RO _ 1))) (hk b o e)
section
variable {κ:Type} [DecidableEq κ] {knd:KeyKind prog w κ}
end
theorem aJ.of {P:List C'}{sc:WX} (h:sc.kind=.function∧sc.isCoroutine=K'∧sc.isGenerator=K'∧N.Nodup∧N.take P.length=P∧(∀ x∈P,sc.names.lookup x=f' .local∨sc.names.lookup x=f' .cell)∧∀ y∈sc.names,y.2≠.free):aJ N P sc:=⟨h.1,h.2.1,h.2.2.1,h.2.2.2.1,h.2.2.2.2.1,h.2.2.2.2.2.1,h.2.2.2.2.2.2⟩
section
variable {K:R'}{m:C'}{ps:List C'}{f cL TP:F'}{QH:L'}{od an Q6:Option F'}{QF:Array (Option L')}{kV cf ay ct:L'}{vs:Array L'}
abbrev X8 (x qual:C') (st:UY) (kV cf pm:L') (an:Option F') (ay ct:L'):WV:=Yd x qual (nP st) (kW st) (az st) .none kV cf pm an ay ct
theorem def_mk (X:K.In h) (G:h.Ns V1 mg) (a:Y5 K V1 x=f' (f' (.ref f))) (l:K.lookup f=f' ⟨oc,od,.func (X8 x x st kV cf pm an ay ct),eQ⟩) (c:XM K ay x=B') (k:W5 K (.ref f)=B')
  (b:∀ us:List L',us.length=ps.length→Qav (X8 x x st kV cf pm an ay ct) ⟨us,[]⟩=pure (ps.zip us)):Def K mg x st ps []:=⟨⟨_,_,[],py l c,ZL X G a,k,.all b,.nil⟩⟩
theorem met_mk (a:V0 K (.ref C) m=f' (f' (.ref f))) (i:Yz K (.ref f)=B') (l:K.lookup f=f' ⟨oc,od,.func (X8 m qual st kV cf pm an ay ct),eQ⟩) (c:XM K ay qual=B') (k:W5 K (.ref f)=B')
  (b:∀ us:List L',us.length=ps.length→Qav (X8 m qual st kV cf pm an ay ct) ⟨us,[]⟩=pure (ps.zip us)):Met K C m qual st ps []:=⟨⟨f,_,[],py l c,⟨a,i,k⟩,.all b,.nil⟩⟩
theorem ziP {Tt:F'}{BV:L'}{B2:Option F'}{Bx:Array (Option L')}{D:Array L'} (a:V0 K (.ref C) m=f' (f' (.ref f))) (i:Yz K (.ref f)=B') (l:K.lookup f=f' ⟨oc,od,.func (Yd m qual (nP st) (kW st) (az st) (.ref Tt) kV cf pm an ay ct),eQ⟩) (c:XM K ay qual=B') (k:W5 K (.ref f)=B') (td:K.lookup Tt=f' ⟨BV,B2,.seq D nT,Bx⟩) (v:aA aH ds)
  (b:K.lookup Tt=f' ⟨BV,B2,.seq D nT,Bx⟩→dR K (Yd m qual (nP st) (kW st) (az st) (.ref Tt) kV cf pm an ay ct) ps ds):Met K C m qual st ps aH:=⟨⟨f,_,ds,py l c,⟨a,i,k⟩,b td,v⟩⟩
theorem vals1i {i:Int}:aA [.int i] [.int i t]:=.cons ⟨t,O⟩ .nil
theorem vals2i {i j:Int}{u:V4}:aA [.int i,.int j] [.int i t,.int j u]:=.cons ⟨t,O⟩ (.cons ⟨u,O⟩ .nil)
theorem ini_mk (X:K.In h) (G:h.Ns V1 mg) (g:Y5 K V1 x=f' (f' (.ref C))) (mk:Qcz K C=B') (kc:W5 K (.ref C)=B') (a:V0 K (.ref C) "__init__"=f' (f' (.ref f))) (i:Yz K (.ref f)=B') (l:K.lookup f=f' ⟨oc,od,.func (X8 "__init__" qual st kV cf pm an ay ct),eQ⟩) (c:XM K ay qual=B')
  (b:∀ us:List L',us.length=ps.length→Qav (X8 "__init__" qual st kV cf pm an ay ct) ⟨us,[]⟩=pure (ps.zip us)):YQ K mg C x qual st ps:=⟨⟨f,_,py l c,⟨mk,a,i,kc⟩,ZL X G g,.all b⟩⟩
theorem zp0 (X:K.In h) (G:h.Ns V1 mg) (g:Y5 K V1 x=f' (f' (.ref C))) (xa:si K C X7 "ValueError.__new__"=B') (kc:W5 K (.ref C)=B') (a:V0 K (.ref C) "__init__"=f' (f' (.ref f))) (i:Yz K (.ref f)=B') (l:K.lookup f=f' ⟨oc,od,.func (X8 "__init__" qual st kV cf pm an ay ct),eQ⟩) (c:XM K ay qual=B')
  (b:∀ us:List L',us.length=ps.length→Qav (X8 "__init__" qual st kV cf pm an ay ct) ⟨us,[]⟩=pure (ps.zip us)):nO K mg C x qual st ps:=⟨⟨f,_,py l c,⟨xa,kc,a,i⟩,ZL X G g,.all b⟩⟩
theorem int_mk {n:Int} (X:K.In h) (G:h.Ns V1 mg) (a:Y5 K V1 x=f' (f' (.int n t))):∃ t,mg x=f' (.int n t):=⟨t,ZL X G a⟩
theorem str_mk {n:C'} (X:K.In h) (G:h.Ns V1 mg) (a:Y5 K V1 x=f' (f' (.str n t))):∃ t,mg x=f' (.str n t):=⟨t,ZL X G a⟩
end
section
open PySem.SeqAt
open AutoSeq1 (wpAny_loadPart')
end
section
variable {κ:Type} [DecidableEq κ] {knd:KeyKind prog w κ}
end
theorem B9:fZ X (.type "int") (fun xs H Q=>∃ n:Int,xs=[.str (toString n)]∧0≤n∧n<10 ^ 10∧Q (.int n) H):=by
 intro aa s σ H xs us Q I r h
 obtain⟨n,rfl,h0,h1,q⟩:=h
 obtain⟨u,rfl,t,rfl⟩:=gY r
 exact QoN h0 h1 ⟨.int n,H,I.tok _,⟨_,O⟩,q⟩
section
open PySem.Builtin
open PySem.Builtin.Str
theorem EM:∀ l:List (C'×V4),aA ((l.map (·.1)).map V.str) (strValues l)
 | []=>.nil
 | p::l=>.cons ⟨p.2,O⟩ (EM l)
inductive Qir (x:V) (vs:List V) (H:Hp) (Q:VK):Prop
 | mk (a b:C') (_:x=.str a) (_:vs=[.str b]) (_:(b.length == 0)=K') (_:a.length+2≤S') (_:∀ p,H p=i'→Q (.ref p) (upd H p (.lst ((V3 a b).map V.str))))
theorem yr:Zm X "str.split" Qir:=by
 intro aa s σ H x xs v us Q I rx r h
 obtain⟨a,b,rfl,rfl,hb,ha,q⟩:=h
 obtain⟨t,rfl⟩:=rx
 obtain⟨u,rfl,t',rfl⟩:=gY r
 have aS:∀ (l:List (C'×V4)) (k:Nat),l.map (·.1)=V3 a b→EP X aa σ Q (.ref s.heap.objs.size) {s with heap:=s.heap.push {cls:=.type "list",data:=.seq (strValues l).toArray},toks:=k}:=fun l k e=>by
  refine⟨.ref _,_,I.QbJ (t':=k) (EM l) ?_,O,?_⟩
  .rw[Q9,e]
   exact RZ (split_le a b) ha
  .rw[e]
   exact q _ I.fresh
 have hn:(partsBetween a (ZO a b 0 a.length (a.length+1)) b.length).length≤S':=by
  have e1:=StrLaws.occ_length_le a b 0 a.length (a.length+1)
  rw[length_partsBetween]
  lia
 cases h1:(decide (a.length<b.length) || decide (strKind a<strKind b))
 .cases hf:(ZO a b 0 a.length (a.length+1)).isEmpty
  .refine Ye ZI (Qap _ _ _) QcF (QcB _ _) (meets_str_split_sep a b t t' h1 hb hf (by lia) hn) ?_
   show EP X aa σ Q (.ref s.heap.objs.size) {s with toks:=_,heap:=s.heap.push {cls:=.type "list",data:=.seq (strsFrom s.toks (partsBetween a (ZO a b 0 a.length (a.length+1)) b.length)).toArray} }
   rw[strsFrom_eq]
   exact aS (numbered s.toks _) _ ((numbered_texts _ _).trans ((UL (ne_true_of_eq_false h1)).trans (UL (ne_true_of_eq_false hf))).symm)
  .exact Ye ZI (Qap _ _ _) QcF (QcB _ _) (meets_str_split_not_found a b t t' h1 hb hf) (aS [(a,t)] s.toks ((UL (ne_true_of_eq_false h1)).trans (UN hf)).symm)
 .exact Ye ZI (Qap _ _ _) QcF (QcB _ _) (meets_str_split_cannot_occur a b t t' h1) (aS [(a,t)] s.toks (UN h1).symm)
def jl (c:Nat):List (List Nat)→List Nat
 | []=>[]
 | [x]=>x
 | x::y::r=>x++c::jl c (y::r)
theorem x9 (c:Nat):∀ ys:List C',(Qas ⟨#[c]⟩ ys).cps.toList=jl c (ys.map fun y=>y.cps.toList)
 | []=>rfl
 | [x]=>rfl
 | x::y::r=>by
  show(x++(⟨#[c]⟩:C')++Qas ⟨#[c]⟩ (y::r)).cps.toList=_
  rw[QeO,QeO,Uw,Uw,x9 c (y::r),Sv]
  rfl
theorem Ff {c:Nat}:∀ {a b a' b':List Nat},c∉a→c∉a'→a++c::b=a'++c::b'→a=a'∧b=b'
 | [],_,[],_,_,_,e=>⟨O,(Qal e).2⟩
 | [],_,x::a',_,_,h',e=>UX (RY.mpr (.inl (Qal e).1)) h'
 | x::a,_,[],_,h,_,e=>UX (RY.mpr (.inl (Qal e).1.symm)) h
 | x::a,_,y::a',_,h,h',e=>by
  obtain⟨e1,e2⟩:=Qal e
  obtain⟨r1,r2⟩:=Ff (fun z=>h (Rk _ z)) (fun z=>h' (Rk _ z)) e2
  exact⟨by rw[e1,r1],r2⟩
theorem C4 {c:Nat}:∀ {xs ys:List (List Nat)},xs≠[]→ys≠[]→(∀ x∈xs,c∉x)→(∀ y∈ys,c∉y)→jl c xs=jl c ys→xs=ys
 | [],_,h,_,_,_,_=>UX O h
 | _,[],_,h,_,_,_=>UX O h
 | [x],[y],_,_,_,_,e=>by rw[show x=y from e]
 | [x],y::y'::r,_,_,hx,_,e=>UX (show c∈x by rw[show x=y++c::jl c (y'::r) from e];simp) (hx x (Rx ..))
 | x::x'::r,[y],_,_,_,hy,e=>UX (show c∈y by rw[show y=x++c::jl c (x'::r) from e.symm];simp) (hy y (Rx ..))
 | x::x'::r,y::y'::r',_,_,hx,hy,e=>by
  obtain⟨e1,e2⟩:=Ff (hx x (Rx ..)) (hy y (Rx ..)) (show x++c::jl c (x'::r)=y++c::jl c (y'::r') from e)
  rw[e1,C4 (by simp) (by simp) (fun z hz=>hx z (Rk _ hz)) (fun z hz=>hy z (Rk _ hz)) e2]
theorem DM:∀ {xs ys:List C'},(xs.map fun y=>y.cps.toList)=(ys.map fun y=>y.cps.toList)→xs=ys
 | [],[],_=>rfl
 | [],_::_,e=>by simp at e
 | _::_,[],e=>by simp at e
 | x::xs,y::ys,e=>by
  rw[RS,RS] at e
  obtain⟨e1,e2⟩:=Qal e
  rw[str_of_list e1,DM e2]
theorem C2 {ys:List C'} (h0:ys≠[]) (h:∀ y∈ys,c∉y.cps.toList):V3 (W8 ⟨#[c]⟩ ys) ⟨#[c]⟩=ys:=by
 have e1:W8 ⟨#[c]⟩ ys=Qas ⟨#[c]⟩ ys:=QeS _ _
 rw[e1]
 refine DM (C4 (c:=c) ?_ (by simpa using h0) (fun x hx=>?_) (fun x hx=>?_) ?_)
 .intro z
  have:=split_pos (Qas ⟨#[c]⟩ ys) ⟨#[c]⟩
  rw[Ux.mp z] at this
  simp at this
 .obtain⟨y,hy,rfl⟩:=Wx.mp hx
  exact StrLaws.split_free _ c y hy
 .obtain⟨y,hy,rfl⟩:=Wx.mp hx
  exact h y hy
 .rw[← x9,← x9,Qe5]
end
inductive Qis (Q:VK) (v:V) (H1:Hp):Prop
 | mk (n:Int) (_:v=.int n) (_:n.natAbs.log2<1920) (_:Q (.str (UO (toString n))) H1)
def Qit (t:TE):TE:=fun σ H Q=>t σ H fun v H1=>Qis Q v H1
theorem Lm {t:TE} (h:PE X value t):PE X (.FormattedValue value (-1) i' pos) (Qit t):=by
 intro aa s σ H Q I hh
 refine wpAny_FormattedValue_plain (UV (h aa s σ H _ I hh) fun v s1=>L2.U7 fun x H1 I1 r1 aW=>?_)
 obtain⟨n,e,hn,q⟩:=aW
 subst e
 obtain⟨tk,rfl⟩:=r1
 exact wpAny_formatField_int hn ⟨.str _,H1,I1.tok _,⟨_,O⟩,q⟩
abbrev TJ:=St→Hp→C'→(C'→Hp→Prop)→Prop
def PJ (X:Cx) (es:List U3) (tj:TJ):Prop:=∀ aa s σ H acc Q,Inv X aa σ H s→tj σ H acc Q→Joins (UJ X.prog X.w) X.A X.xe (evalEach es X.env) acc (fun oH s1=>∃ H1,Inv X aa σ H1 s1∧Q oH H1) s
def Qiu:TJ:=fun _ H acc Q=>Q acc H
def Qiv (t:TE) (u:TJ):TJ:=fun σ H acc Q=>t σ H fun v H1=>∃ y,v=.str y∧(acc++y).length≤S'∧u σ H1 (acc++y) Q
theorem Qiw:PJ X [] Qiu:=fun _ _ _ H _ _ I h=>⟨H,I,h⟩
theorem E8 {t:TE}{u:TJ} (h:PE X e t) (k:PJ X es u):PJ X (e::es) (Qiv t u):=by
 intro aa s σ H acc Q I hh
 show M' _ _ (U2 e X.env) (fun v s₁=>∃ y t,v=.str y t∧(acc++y).length≤S'∧Joins _ _ _ (evalEach es X.env) (acc++y) _ s₁) _ s
 refine UV (h aa s σ H _ I hh) fun v s1=>L2.U7 fun x H1 I1 r1 aW=>?_
 obtain⟨y,e,hy,q⟩:=aW
 subst e
 obtain⟨tk,rfl⟩:=r1
 exact⟨y,tk,O,hy,k aa s1 σ H1 _ Q I1 q⟩
theorem Nk {e1 e2:U3}{u:TJ} (h:PJ X (e1::e2::es) u):PE X (.JoinedStr (e1::e2::es) pos) (fun σ H Q=>u σ H Vy fun oH H1=>oH.length≤S'∧Q (.str oH) H1):=by
 intro aa s σ H Q I hh
 refine wpAny_JoinedStr ?_
 have j:=h aa s σ H _ _ I hh
 have mono:∀ (ps:List (V9 L')) (acc:C') (s:UM) (Q Q':C'→UM→Prop),(∀ o s,Q o s→Q' o s)→Joins (UJ X.prog X.w) X.A X.xe ps acc Q s→Joins (UJ X.prog X.w) X.A X.xe ps acc Q' s:=fun ps=>by
  induction ps with
  | nil=>exact fun acc s Q Q' k h=>k _ _ h
  | cons p ps ih=>exact fun acc s Q Q' k h=>RW h (fun v s1 ⟨y,t,e,hz,r⟩=>⟨y,t,e,hz,ih _ _ _ _ k r⟩) fun _ _ e=>e
 exact mono _ _ _ _ _ (fun oH s1 ⟨H1,I1,hz,q⟩=>⟨hz,.str oH,H1,I1.tok _,⟨_,O⟩,q⟩) j
def KD (prog:Vv) (w:VA) (K:R') (a:F') (kvs:List (Key×V)):Prop:=(a == Wm)=K'∧∃ vs,KV kvs vs∧∃ o,K.lookup a=f' o∧o.IsDictOf (b9 prog w) vs
theorem Inv.kd (I:Inv X aa σ H s) (h:KD X.prog X.w X.K a kvs):(a == Wm)=K'∧∃ vs,KV kvs vs∧s.heap.DictOf (b9 X.prog X.w) a vs:=by
 obtain⟨hs,vs,r,o,hk,hd⟩:=h
 exact⟨hs,vs,r,Vb.dictOf_iff.mpr ⟨o,I.Ve a o hk,hd⟩⟩
inductive Qix (prog:Vv) (w:VA) (K:R') (Q:VK) (x:V) (y:V) (H2:Hp):Prop
 | mk (a kvs k v:_) (_:x=.ref a) (_:KD prog w K a kvs) (_:y=kV k) (_:a8 kvs k=f' v) (_:Q v H2)
def Qiy (prog:Vv) (w:VA) (K:R') (td ty:TE):TE:=fun σ H Q=>td σ H fun x H1=>ty σ H1 fun y H2=>Qix prog w K Q x y H2
theorem Qc {o i:U3}{td ty:TE} (ho:PE X o td) (hi:PE X i ty) (hs:QbL i):PE X (.Subscript o i pos) (Qiy X.prog X.w X.K td ty):=by
 intro aa s σ H Q I h
 refine B7 QeF.lookup hs (UV (ho aa s σ H _ I h) fun u s1=>L2.U7 fun x H1 I1 rx q1=>UV (hi aa s1 σ H1 _ I1 q1) fun iv s2=>L2.U7 fun y H2 I2 ry aW=>?_)
 obtain⟨a,kvs,k,v,ex,g,ey,l,q2⟩:=aW
 subst ex
 subst ey
 obtain rfl:u=UW a:=rx
 obtain⟨_,vs,rel,dd⟩:=I2.kd g
 obtain⟨w',hw,dU⟩:=ee.some_of (v:=v) (o:=Yg vs k) (by rw[← l];exact rel.val k)
 exact⟨dd.typeIs,Qf5 (iP ry) dd.mapOf hw ⟨v,H2,I2.tok _,dU,q2⟩⟩
inductive Qiz (prog:Vv) (w:VA) (K:R') (Q:VK) (y:V) (x:V) (H2:Hp):Prop
 | mk (a kvs k:_) (_:x=.ref a) (_:KD prog w K a kvs) (_:y=kV k) (_:Q (.bl (!(a8 kvs k).isSome)) H2)
def QiA (prog:Vv) (w:VA) (K:R') (ty td:TE):TE:=fun σ H Q=>ty σ H fun y H1=>td σ H1 fun x H2=>Qiz prog w K Q y x H2
theorem N0 {o i:U3}{td ty:TE} (hi:PE X i ty) (ho:PE X o td):PC X .NotIn i o (QiA X.prog X.w X.K ty td):=by
 intro aa s σ H Q I h
 refine UV (hi aa s σ H _ I h) fun iv s1=>L2.U7 fun y H1 I1 ry q1=>UV (ho aa s1 σ H1 _ I1 q1) fun u s2=>L2.U7 fun x H2 I2 rx aW=>?_
 obtain⟨a,kvs,k,ex,g,ey,q2⟩:=aW
 subst ex
 subst ey
 obtain rfl:u=UW a:=rx
 obtain⟨hd,vs,rel,dd⟩:=I2.kd g
 refine Qgo (iP ry) hd dd.mapOf ?_
 rw[← (rel.val k).Zn]
 exact⟨.bl _,H2,I2.tok _,O,q2⟩
end L2
namespace HT
open PySem PySem.Spec PyProof.Rows
section
variable {prog:Vv}{w:VA}{A:VX}{E:L'→UM→Prop}{s:UM}
theorem zer {t sl:F'}{items:Array L'}{vl vu:L'}{lo hi:Option Int}{Q:L'→UM→Prop} (ht:Zh s.heap t items) (hs:s.heap.IsSliceOf sl vl vu .none) (pl:XX vl lo) (pu:XX vu hi)
  (hw:U9 items.size 0 lo=0∧U9 items.size items.size hi=items.size) (h:Q (.ref t) s):M' (UJ prog w) A (Xw (.ref t) (.ref sl)) Q E s:=by
 obtain⟨os,kG,cU,mC⟩:=id hs
 have xG:s.TypeIs (.ref sl) "slice":=⟨os,kG,cU⟩
 unfold Xw
 try with_reducible refine wpAny_holding ?_
 first|refine VE (V7 ?_)|skip
 refine VE (QfU ht.typeIs (by decide) ?_)
 refine VE (Qfd (name:=UO "__getitem__") ht.typeIs Y4
  (Qf7 Y4 ht.typeIs QfJ ?_ (QfO _ _)))
 show M' _ _ (Qew (.ref t) >>= _) _ _ s
 refine VE (tupleItemsOf_ ht ?_)
 refine VE (Qbr xG ?_)
 rw[UN (by decide)]
 refine VE (DW hs pl pu ?_)
 have vv:(((U9 items.size 0 lo:Nat):Int) == 0 && (1:Int) == 1 && (U9 items.size items.size hi-U9 items.size 0 lo) == items.size)=B':=by
  rw[hw.1,hw.2]
  simp
 show M' _ _ (if (((U9 items.size 0 lo:Nat):Int) == 0 && (1:Int) == 1 && (U9 items.size items.size hi-U9 items.size 0 lo) == items.size)=B' then _ else _) _ _ s
 rw[UN vv]
 first
  | exact VE (VE (Qbr ht.typeIs (V7 (VE (wpAny_rule (VE (V7 ⟨_,O,V7 h⟩)))))))
  | exact VE (VE (Qbr ht.typeIs (V7 (VE (wpAny_rule (V7 ⟨_,O,V7 h⟩))))))
end
end HT
namespace L2
variable {A:Around}{C f:Addr}{E:Value→Shared→Prop}{H:Hp}{Q:Flow→Shared→Prop}{R:RK}{X:Cx}{aH:List V}{aa:List (Addr×Obj)}{bm ds sub:List Value}{e tg:Expr}{es:List Expr}{fd:FuncData}{j x1:Nat}{pos:Pos}{ps sn:List Str}{s:Shared}{sp:Sp}{t:TA}{tc:TT}{te:TE}{w:World}{x:Str}{σ:St}
open PySem PySem.Spec PyProof.Rows
inductive QiB (K:R') (x:V) (lo:Option Int) (hi:Option Int) (H:Hp) (Q:VK):Prop
 | mk (a xs:_) (_:x=.ref a) (_:U4 K H a xs) (_:((HT.U9 xs.length 0 lo=0∧HT.U9 xs.length xs.length hi=xs.length)→Q (.ref a) H)) (_:(¬ (HT.U9 xs.length 0 lo=0∧HT.U9 xs.length xs.length hi=xs.length)→∀ p,H p=i'→Q (.ref p) (upd H p (.tup (iQ xs lo hi)))))
theorem MG:SlR X (QiB X.K):=by
 intro aa s σ H x v vl vu lo hi sl Q I rx hs pl pu h
 obtain⟨a,xs,rfl,hx,q1,q2⟩:=h
 by_cases hw:HT.U9 xs.length 0 lo=0∧HT.U9 xs.length xs.length hi=xs.length
 .cases rx
  obtain⟨ah,r,ht,hz⟩:=I.tuple hx
  have av:ah.toArray.size=xs.length:=by rw[Rl];exact r.length.symm
  exact⟨"tuple",_,Y4.lookup,ht.typeIs,HT.zer ht hs pl pu (by rw[av];exact hw) ⟨.ref a,H,I,O,q1 hw⟩⟩
 .exact Qhp aa s σ H _ v vl vu lo hi sl Q I rx hs pl pu ⟨a,xs,O,hx,hw,q2 hw⟩
section
variable {st:U3}{ts:TE}{p2:VC}
end
theorem ki {pr:Vv}{k:C'}{t:V4}:(b9 pr w).is (UT k) (.str k t)=B':=by
 show ly (UT k) (.str k t)=B'
 simp[ly,QcJ]
theorem Os {t a:F'}{dx:Option F'} (hp:PX X R) (I:Inv X aa σ H s) (fp:cI X aa H a)
  (he:s.heap.get? a=f' {cls:=.ref C,dict:=dx,data:=.fields #[.ref t,.none,.none,.none,.bool B',.none]}) (hR:R σ (.ref C) dx H):M' (UJ X.prog X.w) X.A (raiseNew (.ref a):V9 WM) Q X.xe s:=by
 obtain⟨f0,f1,f2,f3,f4,f5⟩:=id fp
 refine um (s:=s) ?_ he O (by simp) fun h' o' iY k1 k2 k3 k4 k5 k6 k7 k8=>?_
 .rcases I.X2 with z|⟨b,cs,z,c⟩
  .exact .inl z
  .exact .inr ⟨b,cs,z,c.ZX I.UP,c.ZY f0⟩
 .have I':Inv X aa σ H {s with heap:=h'}:=I.turned (t':=s.toks) k1 f0 f1 f3 f4 f5
  refine hp aa σ H _ a (.ref C) dx i' I' ⟨fp,fun p q=>(by cases q),⟨⟨o',iY,k2,k3,k4,k5,k6,?_,?_⟩,fun p q=>(by cases q)⟩⟩ hR
  .rcases I.X2 with z|⟨b,cs,z,c⟩
   .rw[z] at k8
    exact⟨[],⟨SA,fun j a q=>by simp at q⟩,k8⟩
   .rw[z] at k8
    exact⟨b::cs,c,k8⟩
  .exact k7
section
variable {nm q:C'}{N:F'}{bs:List L'}{hdct:Bool}{ab:Bool}{col:Option Bool}{dd:Option F'}{k0 k1 k2 k3 k5:Option L'}{newId:String}
theorem OE {M:Model}{env:V5}{x:V9 L'}{p1:VC} (hb:bm.contains (.type "BaseException")=B')
  (hx:M' M A x (fun v s₁=>∃ e t dx,v=.ref e∧s₁.heap.get? C=f' (Qao nm q C N bs bm hdct sn sub ab col dd k0 k1 k2 k3 k5 newId)∧s₁.heap.get? e=f' {cls:=.ref C,dict:=dx,data:=.fields #[.ref t,.none,.none,.none,.bool K',.none]} ∧
   ∀ h',(∀ b o,b≠e→s₁.heap.get? b=f' o→h'.get? b=f' o)→h'.get? e=f' {cls:=.ref C,dict:=dx,data:=.fields #[.ref t,.none,.none,.none,.bool B',.none]}→M' M A (raiseNew (.ref e):V9 WM) Q E {s₁ with heap:=h'}) E s) :
  M' M A (Qbv env (f' x) (f' (do let v ← U2 (.Constant .none j p1) env;YE pos;pure v))) Q E s:=by
 have mq:(UW C::bm).contains (.type "BaseException")=B':=by rw[TQ,hb,SN]
 unfold Qbv
 refine mK (RW hx (fun v s₁ z=>?_) fun _ _ y=>y)
 obtain⟨e,t,dx,rfl,oC,oe,z⟩:=z
 obtain⟨hp,g,d,tk,os⟩:=s₁
 refine mK (RI (mK (Qbq (mK (SE (Rb (mK (Rb ?_))))))))
 dsimp only
 repeat (first|(with_reducible refine R4 oe ?_)|(with_reducible refine R4 oC ?_)|(with_reducible refine Ta oC ?_;rw[mq])|wp_step)
 have ne:e≠C:=fun w=>by
  rw[w] at oe
  cases oe.symm.trans oC
 have sL:=RC (Xr (·.setIfInBounds 3 Vq)) oe rfl
 have BF:=RC (Xr (·.setIfInBounds 4 (W7 B'))) sL rfl
 refine R4 ((Ro _ _ ne).trans ((Ro _ _ ne).trans oC)) ?_
 repeat (first|(with_reducible refine R4 BF ?_)|wp_step)
 exact z _ (fun b o hb q=>(Ro _ _ (US hb)).trans ((Ro _ _ (US hb)).trans q)) BF
end
section
variable {np aw p1:VC}
theorem Pm {a:List U3} (hx:QbQ s.heap C X7 bm "ValueError.__new__")
  (h:M' (UJ X.prog X.w) X.A (U2 (.Call (.Name x np) a [] aw) X.env) (fun v s₁=>∃ b t dx,v=.ref b∧(∀ o,s.heap.get? C=f' o→s₁.heap.get? C=f' o)∧s₁.heap.get? b=f' {cls:=.ref C,dict:=dx,data:=.fields #[.ref t,.none,.none,.none,.bool K',.none]} ∧
   ∀ h',(∀ c o,c≠b→s₁.heap.get? c=f' o→h'.get? c=f' o)→h'.get? b=f' {cls:=.ref C,dict:=dx,data:=.fields #[.ref t,.none,.none,.none,.bool B',.none]}→M' (UJ X.prog X.w) X.A (raiseNew (.ref b):V9 WM) Q X.xe {s₁ with heap:=h'}) X.xe s) :
  M' (UJ X.prog X.w) X.A (exec (.Raise (f' (.Call (.Name x np) a [] aw)) (f' (.Constant .none j p1)) pos) X.env) Q X.xe s:=by
 obtain⟨⟨nm,q,N,bs,hdct,sn,sub,ab,col,dd,k0,k1,k2,k3,k5,oC⟩,T⟩:=hx
 rw[Qgu]
 refine mK (SE (OE (C:=C) (nm:=nm) (q:=q) (N:=N) (bs:=bs) (bm:=bm) (hdct:=hdct) (sn:=sn) (sub:=sub) (ab:=ab) (col:=col) (dd:=dd) (k0:=k0) (k1:=k1) (k2:=k2) (k3:=k3) (k5:=k5) (newId:="ValueError.__new__") (T.hasType O) (mK (RW h (fun v s1 z=>mK (SE (Rb ?_))) fun _ _ y=>y))))
 obtain⟨b,t,dx,z1,z2,z3,z4⟩:=z
 exact⟨b,t,dx,z1,z2 _ oC,z3,z4⟩
variable {k:Nat}
theorem LI (hp:PX X R) (c:Z5 X.K C f) (F:cE X.prog X.w X.K X.mg X.base Vd k f fd ps sp) (hr:bu (k+1) X.A) (hb:dR X.K fd ps ds) (hd:aA aH ds) (hg:Gl X x) (hm:X.mg x=f' (.ref C)) (ha:PA X (e::es) t)
  (Vo:(x == ("__debug__":C'))=K':=by decide) (he:U1 (e::es) X.env=(K',U2 e X.env)::U1 es X.env:=by rfl) (bH:(Vx aw (U1 es X.env)).any (·.1)=K':=by rfl) :
  PS X (.Raise (f' (.Call (.Name x np) (e::es) [] aw)) (f' (.Constant .none j p1)) pos) (uV C sp aH R t):=by
 intro aa s σ H D I h
 obtain⟨HR,xc⟩:=kY I.Ve c.at_
 refine Pm xc (RX (lq I hg hm ?_ Vo))
 refine Yv (h₀:=X.base) I.ok.mod.Xb c.kp (UV (ha aw aa s σ H _ I h) fun us s1 ⟨vs,H1,I1,r,z,q⟩=>⟨I1.Ve,?_⟩) he bH
 obtain⟨Hv,⟨GO,q2,N2,JX,qD,Gm,vZ,Hk,xx,vU,l0,l1,l2,l3,l5,qN⟩,_⟩:=kY I.ok.mod.Xb c.at_
 have C0:∀ o,s.heap.get? C=f' o→X.base.get? C=f' o:=fun o q=>by rw[I.bk _ _ qN] at q;rw[← q];exact qN
 obtain⟨bm,⟨nm,qn,N,bs,hdct,sn,sub,ab,col,dd,k0,k1,k2,k3,k5,oC⟩,T⟩:=kY I1.Ve c.at_
 have hU:(X.K.lookup f).map (·.cls)=f' (.type "function"):=Wo.mp c.fn
 obtain⟨oF,hF,hFc⟩:∃ oF,X.K.lookup f=f' oF∧oF.cls=.type "function":=by
  cases hk:X.K.lookup f with
  | none=>rw[hk] at hU;cases hU
  | some oF=>rw[hk] at hU;exact⟨oF,O,VL hU⟩
 have hz:us.length≤S':=by rw[← r.length];exact z
 have J:=I1
 obtain⟨aB,g,d,tk,os⟩:=s1
 refine yc QaV T oC (XI I1.Ve c.init) (I1.Ve _ _ hF) hFc hz ?_
 have kk:∀ b o,aB.get? b=f' o→((aB.push (ip us)).push (g6 C aB.objs.size)).get? b=f' o:=fun b o e=>Ra _ (Ra _ e)
 have oX:((aB.push (ip us)).push (g6 C aB.objs.size)).get? (aB.objs.size+1)=f' {cls:=.ref C,data:=.fields #[.ref aB.objs.size,.none,.none,.none,.bool K',.none]}:=by heap_get
 have fr:H1 (aB.objs.size+1)=i':=J.UP.fresh (RQ _)
 have I2:Inv X aa σ (upd H1 (aB.objs.size+1) (cz C aB.objs.size (aB.objs.size+1) i')) ⟨(aB.push (ip us)).push (g6 C aB.objs.size),g,d,tk,os⟩:=
  J.laid (t':=tk) kk (RQ _) ⟨oX,⟨_,oX⟩,fun h1 h2 p1 p2=>p2 _ p1⟩
 have q':=q (aB.objs.size+1) aB.objs.size fr
 have r2:aA (V.ref (aB.objs.size+1)::(vs++aH)) (UW (aB.objs.size+1)::(us++ds)):=.cons O (r.append hd)
 have hl:(UW (aB.objs.size+1)::us++ds).length=ps.length:=by
  have e:=r2.length
  rw[F.len _ _ _ _ q'] at e
  exact e.symm
 refine Ss (YA (F.run _ X.stack _ _ ⟨UW (aB.objs.size+1)::us,[]⟩ (UW (aB.objs.size+1)::(us++ds)) _ _ (R σ) (hr.make C us []) (I2.Zl.make C us []) (hb _ (UW (aB.objs.size+1)::us) I2.Ve hl) r2 q') fun rr s' cQ=>?_)
 cases rr with
 | error e=>exact VR cQ
 | ok fl=>
  cases fl with
  | ret u=>
   obtain⟨v,H',I3,rv,ev,dx,e3,q3⟩:=I2.after cQ
   subst ev
   refine⟨rv,_,aB.objs.size,dx,O,fun o q=>I3.bk _ _ (C0 o q),(I3.UP _ _ e3).1,fun h' k1 k2=>?_⟩
   have fp:cI X aa (del H' (aB.objs.size+1)) (aB.objs.size+1):=J.WO (s:=⟨aB,g,d,tk,os⟩) (RQ _) uT
   obtain⟨f0,f1,f2,f3,f4,f5⟩:=id fp
   exact Os hp ((I3.del e3).turned (t':=s'.toks) k1 f0 f1 f3 f4 f5) fp k2 q3
  | next=>exact VR cQ
  | brk=>exact VR cQ
  | cont=>exact VR cQ
theorem MX (hp:PX X R) (c:lW X.prog X.w X.K X.mg X.base Vd k C x ps sp) (hr:bu (k+1) X.A) (hg:Gl X x) (ha:PA X (e::es) t)
  (Vo:(x == ("__debug__":C'))=K':=by decide) (he:U1 (e::es) X.env=(K',U2 e X.env)::U1 es X.env:=by rfl) (bH:(Vx aw (U1 es X.env)).any (·.1)=K':=by rfl) :
  PS X (.Raise (f' (.Call (.Name x np) (e::es) [] aw)) (f' (.Constant .none j p1)) pos) (uV C sp [] R t):=by
 obtain⟨f,fd,F,c',hm,hb⟩:=c.ex
 exact LI hp c' F hr hb .nil hg hm ha Vo he bH
end
abbrev Cx.QaG (X:Cx) (a:F') (H₀:Hp) (pn:List (F'×U6)):Cx:={X with A:=X.A.mark (f' (.ref a)),H₀:=H₀,pn:=pn}
theorem OF {body dE:List UY}{np mI:VC}{b₀:UY}{su:List UY}{Dc:F'}{t:TS}{tb:RK→TS}{te:TS} (B:Body X) (hex:X.ex=[]) (hp:PX X R) (po:∀ hd,PassesOwnAt (UJ X.prog X.w) (X.A.mark hd) X.A X.env X.xe)
  (hg:Gl X x) (hm:X.mg x=f' (.ref Dc)) (hB:Vn X.K Dc (.type "BaseException")=f' B') (hT:Wk X.K (.ref Dc)=f' (.type "type")) (Vo:(x == ("__debug__":C'))=K')
  (hs:∀ a H₀ pn,PX (X.QaG a H₀ pn) R→VY (X.QaG a H₀ pn) (b₀::su) t)
  (hb:∀ (pn:List (F'×U6)) (E:L'→UM→Prop) (R:RK),PX (X.tr pn E) R→Qat (UJ X.prog X.w) X.A X.env E→VY (X.tr pn E) body (tb R)) (he:VY X dE te):PS X (.Try body [.ExceptHandler (f' (.Name x np)) i' (b₀::su) mI] dE [] pos) (Qdx X.K [(Dc,i',t)] tb te):=by
 intro aa s σ H D I h
 refine Qf8 ?_
 have to:∀ {aX σ' H' s'},Inv X aa σ' H' s'→Inv (X.tr (X.pn++aa) aX) [] σ' H' s':=fun {aX σ' H' s'} J=>{J with pin:=fun p hp=>J.pin p (by simpa using hp),ok:={J.ok with} }
 have jv:∀ {E' aX σ' H' s'},Inv (X.tr (X.pn++aa) E') aX σ' H' s'→Inv X aa σ' H' s':=fun {E' aX σ' H' s'} J=>{J with pin:=fun p hp=>J.pin p (RF _ hp),ok:={J.ok with} }
 refine RW (hb (X.pn++aa) (fun e s₁=>M' (UJ X.prog X.w) X.A (Qar e X.env) (fun _ s₂=>M' (UJ X.prog X.w) X.A (Qbu e i') (fun _ s₃=>M' (UJ X.prog X.w) X.A (handleBy e X.env [.ExceptHandler (f' (.Name x np)) i' (b₀::su) mI]) (SP X aa D) X.xe s₃) X.xe s₂) X.xe s₁)
  (ph X.K [(Dc,i',t)] D) ?_ Qe3 [] s σ H _ (to I) h) (fun f s1 z=>?_) fun _ _ z=>z
 .intro aX σ' H' s' a c dd tb J x hR
  have J':=jv J
  have x':X6 X aa H' s'.heap a c dd (tb.map fun T=>(T,Vq)):=⟨⟨x.fp.1,x.fp.2.1,x.fp.2.2.1,x.fp.2.2.2.1,x.fp.2.2.2.2.1,fun p hp=>x.fp.2.2.2.2.2 p (RF _ hp)⟩,fun p q=>by
   have y:=x.Xn p q
   exact⟨y.1,y.2.1,y.2.2.1,y.2.2.2.1,y.2.2.2.2.1,fun p hp=>y.2.2.2.2.2 p (RF _ hp)⟩,x.at_⟩
  refine J'.note B x' xZ fun s2 T I2 x2=>?_
  refine I2.land x2 fun s3 I3 x3=>?_
  obtain⟨C,b,rfl,jx,h⟩:=hR
  obtain⟨o,vs,h1,hc,_⟩:=x3.at_.ob
  refine TH (Qcs (xH I3 hg hm (yC I3.Ve h1 hc jx hB hT ?_) Vo)) (by intro q;cases q)
  cases b with
  | false=>exact(show False by simpa [ph] using h).elim
  | true=>
   refine Qfl (I3.land x3 fun s4 I4 x4=>?_)
   obtain⟨o1,g1,g2,g3,JJ⟩:=I4.enter hex x4
   rw[UN rfl] at h
   have h0:=h a o1 x4.fp.1 g1 g2 g3
   generalize IU:eN (upd H' a (.UZ o1 (.own a))) X.H₀=H0 at JJ
   have J5:Inv (X.QaG a H0 (X.pn++aa)) [] σ' (upd H' a (.UZ o1 (.own a))) s4:={JJ with pin:=fun p hp=>JJ.pin p (by simpa using hp),ok:={JJ.ok with} }
   have bk:∀ {aX σ' H' s'},Inv (X.QaG a H0 (X.pn++aa)) aX σ' H' s'→Inv X aa σ' H' s':=fun {aX σ' Bm s'} J=>by
    have J6:Inv (X.hnd a H0) aa σ' Bm s':={J with pin:=fun p hp=>J.pin p (RF _ hp),ok:={J.ok with} }
    subst IU
    exact I4.leave hex x4.fp J6
   refine RW (hs a H0 (X.pn++aa) ?_ [] s4 σ' _ D J5 h0) (fun f s5 z=>?_) fun e2 s5 z=>po _ e2 s5 z
   .intro BW σ2 H2 GG a2 c2 vU JK J2 y G8
    refine hp aa σ2 H2 GG a2 c2 vU JK (bk J2) ⟨⟨y.fp.1,y.fp.2.1,y.fp.2.2.1,y.fp.2.2.2.1,y.fp.2.2.2.2.1,fun p hp=>y.fp.2.2.2.2.2 p (RF _ hp)⟩,fun p q=>?_,y.at_⟩ G8
    have y:=y.Xn p q
    exact⟨y.1,y.2.1,y.2.2.1,y.2.2.2.1,y.2.2.2.2.1,fun p hp=>y.2.2.2.2.2 p (RF _ hp)⟩
   .cases f with
    | next=>obtain⟨σ',H',J,q⟩:=z;exact⟨σ',H',bk J,q⟩
    | brk=>obtain⟨σ',H',J,q⟩:=z;exact⟨σ',H',bk J,q⟩
    | cont=>obtain⟨σ',H',J,q⟩:=z;exact⟨σ',H',bk J,q⟩
    | ret u=>obtain⟨v,σ',H',J,q⟩:=z;exact⟨v,σ',H',bk J,q⟩
 .cases f with
  | next=>obtain⟨σ',H',J,q⟩:=z;exact he aa s1 σ' H' D (jv J) q
  | brk=>obtain⟨σ',H',J,q⟩:=z;exact⟨σ',H',jv J,q⟩
  | cont=>obtain⟨σ',H',J,q⟩:=z;exact⟨σ',H',jv J,q⟩
  | ret u=>obtain⟨v,σ',H',J,q⟩:=z;exact⟨v,σ',H',jv J,q⟩
section
variable {prog:Vv}
end
theorem iw:PE X e (fun _ _ _=>False):=by
 intro aa s σ H Q I h
 exact h.elim
def QdA:Option V→Option C'
 | some (.str x)=>f' x
 | _=>i'
abbrev Txs:=List (Option C')
structure PStr (X:Cx) (e:U3) (f:Txs→Option C'):Prop where
 pe:PE X e (fun σ H Q=>∃ x,f (σ.map QdA)=f' x∧Q (.str x) H)
structure PStrs (X:Cx) (es:List U3) (f:Txs→Option (List C')):Prop where
 pa:PA X es (fun σ H Q=>∃ l,f (σ.map QdA)=f' l∧Q (l.map V.str) H)
theorem Inv.UZ {a:F'}{o:U6} (hex:X.ex=[]) (I:Inv X aa σ H s) (fp:cI X aa H a) (he:s.heap.get? a=f' o):Inv X aa σ (upd H a (.UZ o (.own a))) s:=by
 obtain⟨f0,f1,f2,f3,f4,f5⟩:=fp
 have pL:X.s₀.heap.objs.size≤a:=by
  rcases f3 with z|z
  .rw[hex] at z;cases z
  .exact z
 have na:∀ b u,H b=f' u→b≠a:=fun b u q=>aq q f0
 have old:∀ b ob,X.s₀.heap.get? b=f' ob→b≠a:=fun b ob q=>Rj (Rw (Rc q) pL)
 have aQ:∀ b u,H b=f' u→upd H a (.UZ o (.own a)) b=f' u:=fun b u q=>by rw[aj (na b u q)];exact q
 have cc:∀ b,b≠a→H b=i'→upd H a (.UZ o (.own a)) b=i':=fun b z q=>by rw[aj z];exact q
 obtain⟨b1,b2,b3,b4,b5,b6,b7⟩:=I.base
 refine {I with base:=⟨b1,b2,fun b ob q n x=>cc b (old b ob q) (b3 b ob q n x),b4,fun b xs q=>aQ _ _ (b5 b xs q),fun b ob u q=>aQ _ _ (b6 b ob u q),fun b p q' q=>aQ _ _ (b7 b p q' q)⟩,free:=cc _ (US f1) I.free,V6:=fun y cl q=>cc _ (f4 y cl q) (I.V6 y cl q),pin:=fun p hp=>?_,UP:=fun b u q=>?_}
 .obtain⟨p1,p2,p3⟩:=I.pin p hp
  exact⟨p1,cc _ (f5 p hp) p2,p3⟩
 .by_cases z:b=a
  .subst z
   rw[ag] at q;cases q
   exact⟨he,⟨_,he⟩⟩
  .rw[aj z] at q
   exact(I.UP b u q).WY (fun c' u' _ r=>r) (fun c' r=>aQ _ _ r) (fun c' xs r=>aQ _ _ r) fun c' ob r=>aQ _ _ r
section
variable {np aw:VC}{k:Nat}
def QiC (C:F') (sp:Sp) (t:TA):TE:=fun σ H Q=>t σ H fun vs H1=>vs.length≤S'∧∀ a t',H1 a=i' →
 sp (.ref a::(vs++[])) (upd H1 a (cz C t' a i')) (fun v H2=>v=.UU∧∃ dx,H2 a=f' (cz C t' a dx)∧∀ o:U6,o.cls=.ref C→o.dict=dx→(∃ vs,o.data=.fields vs)→Q (.ref a) (upd (del H2 a) a (.UZ o (.own a)))) (fun _ _ _=>False)
theorem Qe (hex:X.ex=[]) (c:Z5 X.K C f) (F:cE X.prog X.w X.K X.mg X.base Vd k f fd ps sp) (hr:bu (k+1) X.A) (hb:dR X.K fd ps ds) (hd:aA aH ds) (hg:Gl X x) (hm:X.mg x=f' (.ref C)) (ha:PA X (e::es) t)
  (Vo:(x == ("__debug__":C'))=K':=by decide) (he:U1 (e::es) X.env=(K',U2 e X.env)::U1 es X.env:=by rfl) (bH:(Vx aw (U1 es X.env)).any (·.1)=K':=by rfl) :
  PE X (.Call (.Name x np) (e::es) [] aw) (fun σ H Q=>t σ H fun vs H1=>vs.length≤S'∧∀ a t',H1 a=i' →
   sp (.ref a::(vs++aH)) (upd H1 a (cz C t' a i')) (fun v H2=>v=.UU∧∃ dx,H2 a=f' (cz C t' a dx)∧∀ o:U6,o.cls=.ref C→o.dict=dx→(∃ vs,o.data=.fields vs)→Q (.ref a) (upd (del H2 a) a (.UZ o (.own a)))) (fun _ _ _=>False)):=by
 intro aa s σ H Q I h
 refine RX (lq I hg hm ?_ Vo)
 refine Yv (h₀:=X.base) I.ok.mod.Xb c.kp (UV (ha aw aa s σ H _ I h) fun us s1 ⟨vs,H1,I1,r,z,q⟩=>⟨I1.Ve,?_⟩) he bH
 obtain⟨bm,⟨nm,qn,N,bs,hdct,sn,sub,ab,col,dd,k0,k1,k2,k3,k5,oC⟩,T⟩:=kY I1.Ve c.at_
 have hU:(X.K.lookup f).map (·.cls)=f' (.type "function"):=Wo.mp c.fn
 obtain⟨oF,hF,hFc⟩:∃ oF,X.K.lookup f=f' oF∧oF.cls=.type "function":=by
  cases hk:X.K.lookup f with
  | none=>rw[hk] at hU;cases hU
  | some oF=>rw[hk] at hU;exact⟨oF,O,VL hU⟩
 have hz:us.length≤S':=by rw[← r.length];exact z
 have J:=I1
 obtain⟨aB,g,d,tk,os⟩:=s1
 refine yc QaV T oC (XI I1.Ve c.init) (I1.Ve _ _ hF) hFc hz ?_
 have kk:∀ b o,aB.get? b=f' o→((aB.push (ip us)).push (g6 C aB.objs.size)).get? b=f' o:=fun b o e=>Ra _ (Ra _ e)
 have oX:((aB.push (ip us)).push (g6 C aB.objs.size)).get? (aB.objs.size+1)=f' {cls:=.ref C,data:=.fields #[.ref aB.objs.size,.none,.none,.none,.bool K',.none]}:=by heap_get
 have fr:H1 (aB.objs.size+1)=i':=J.UP.fresh (RQ _)
 have I2:Inv X aa σ (upd H1 (aB.objs.size+1) (cz C aB.objs.size (aB.objs.size+1) i')) ⟨(aB.push (ip us)).push (g6 C aB.objs.size),g,d,tk,os⟩:=
  J.laid (t':=tk) kk (RQ _) ⟨oX,⟨_,oX⟩,fun h1 h2 p1 p2=>p2 _ p1⟩
 have q':=q (aB.objs.size+1) aB.objs.size fr
 have r2:aA (V.ref (aB.objs.size+1)::(vs++aH)) (UW (aB.objs.size+1)::(us++ds)):=.cons O (r.append hd)
 have hl:(UW (aB.objs.size+1)::us++ds).length=ps.length:=by
  have e:=r2.length
  rw[F.len _ _ _ _ q'] at e
  exact e.symm
 refine Ss (YA (F.run _ X.stack _ _ ⟨UW (aB.objs.size+1)::us,[]⟩ (UW (aB.objs.size+1)::(us++ds)) _ _ _ (hr.make C us []) (I2.Zl.make C us []) (hb _ (UW (aB.objs.size+1)::us) I2.Ve hl) r2 q') fun rr s' cQ=>?_)
 cases rr with
 | error e=>exact VR cQ
 | ok fl=>
  cases fl with
  | ret u=>
   obtain⟨v,H',I3,rv,ev,dx,e3,q3⟩:=I2.after cQ
   subst ev
   have fp:cI X aa (del H' (aB.objs.size+1)) (aB.objs.size+1):=J.WO (s:=⟨aB,g,d,tk,os⟩) (RQ _) uT
   exact⟨rv,.ref (aB.objs.size+1),_,Inv.UZ hex (I3.del e3) fp (I3.UP _ _ e3).1,O,q3 _ O O ⟨_,O⟩⟩
  | next=>exact VR cQ
  | brk=>exact VR cQ
  | cont=>exact VR cQ
theorem ug (c:lW X.prog X.w X.K X.mg X.base Vd k C x ps sp) (hr:bu (k+1) X.A) (hg:Gl X x) (ha:PA X (e::es) t) (hex:X.ex=[]:=by rfl)
  (Vo:(x == ("__debug__":C'))=K':=by decide) (he:U1 (e::es) X.env=(K',U2 e X.env)::U1 es X.env:=by rfl) (bH:(Vx aw (U1 es X.env)).any (·.1)=K':=by rfl) :
  PE X (.Call (.Name x np) (e::es) [] aw) (QiC C sp t):=by
 obtain⟨f,fd,F,c',hm,hb⟩:=c.ex
 exact Qe hex c' F hr hb .nil hg hm ha Vo he bH
end
structure Wh (X:Cx) (e:U3) (t:TE):Prop where
 h:PE X e t
structure Zp (X:Cx) (es:List U3) (t:TA):Prop where
 h:PA X es t
structure PSb (X:Cx) (st:UY) (t:TS):Prop where
 h:PS X st t
structure QaH (X:Cx) (ss:List UY) (t:TS):Prop where
 h:VY X ss t
section
variable {a b:U3}{ta tb:TE}{r:R2}
theorem gq:Zp X [] mj:=⟨ai⟩
theorem bP (h:Wh X e te) (hs:Zp X es t) (he:U1 (e::es) X.env=(K',U2 e X.env)::U1 es X.env:=by rfl):Zp X (e::es) (Qdj te t):=⟨af h.h hs.h he⟩
theorem kh (h:Zp X es t):Wh X (.List es pos) (QbH t):=⟨bY h.h⟩
theorem yP (h:Zp X es t):Wh X (.Tuple es x1 pos) (Qdk t):=⟨gj h.h⟩
theorem eO {i:Int}:Wh X (.Constant (.int i) j pos) (tC (.int i)):=⟨au⟩
theorem pB:Wh X (.Constant (.str x) j pos) (tC (.str x)):=⟨bh⟩
theorem Z6 {op:Qbz} (h:VM X (Xu op) r) (ha:Wh X a ta) (hb:Wh X b tb):Wh X (.BinOp a op b pos) (YM r ta tb):=⟨bq h ha.h hb.h⟩
theorem QdB (h:YN X r) (ha:Wh X a ta) (hb:Wh X b tb) (p:CP b):Wh X (.Subscript a b pos) (YM r ta tb):=⟨aK h ha.h hb.h p⟩
theorem QiD {keys:List (Option U3)}{bG:List U3}{iW:List (TE×TE)} (h:Z4 X pos keys bG iW) (h1:(keys.all fun x=>x.isSome)=B') (h2:keys.length=bG.length) (h3:keys≠[]) (h4:keys.length≤15):Wh X (.Dict keys bG pos) (Qdq iW):=⟨Em h h1 h2 h3 h4⟩
theorem zE {k:Nat}{p:VC} (c:Vj X.prog X.w X.K X.mg X.base (Vt X.prog X.w) k x ps aH sp) (hp:PX X R) (hr:bu k X.A) (hg:Gl X x) (ha:Zp X (e::es) t) (Vo:(x == ("__debug__":C'))=K':=by decide)
  (he:U1 (e::es) X.env=(K',U2 e X.env)::U1 es X.env:=by rfl) (bH:(Vx pos (U1 es X.env)).any (·.1)=K':=by rfl):PE X (.Call (.Name x p) (e::es) [] pos) (CS sp aH R t):=ff c hp hr hg ha.h Vo he bH
variable {st:UY}{a7 ss body:List UY}{u v:TS}{c:U3}
theorem QiE (h:PSb X st u):QaH X [st] u:=⟨ak h.h⟩
theorem KZ (h:PSb X st u) (hr:QaH X a7 v):QaH X (st::a7) (Qc8 u v):=⟨ao h.h hr.h⟩
theorem QiF (hc:PT X c tc) (ha:QaH X ss u) (hb:VY X a7 v):PS X (.If c ss a7 pos) (Qc9 tc u v):=aT hc ha.h hb
theorem QiG {iter:U3}{g:TG} (h1:Qat (UJ X.prog X.w) X.A X.env X.xe) (h2:X.calm=B') (hi:Wh X iter te) (hg:PG X tg g) (hb:VY X body u) (hf:∀ x:L',Qbe iter X.env x=pure x:=by intro x;rfl):PSb X (.For tg iter body [] pos) (Qdf (Qde X.K te) g u):=⟨ej h1 h2 (bV hi.h) hg hb hf⟩
end
section
section
variable {c:U3}{p2:VC}{ss a7:List UY}{u v:TS}
end
variable {P:Vv}{K:R'}{mg:C'→Option L'}{base:Vb}
end
end L2
namespace K07
open PySem L2
def top (i:Nat):UY:=Qob.main.body.getD i (.Pass ⟨0,0,0,0⟩)
abbrev Cz:UY:=df (top 10) 0
theorem Mi:aJ ["self","name"] ["self","name"] (az Cz):=.of (by decide +kernel)
abbrev Ci:UY:=df (top 11) 0
theorem Kr:aJ ["self","number"] ["self","number"] (az Ci):=.of (by decide +kernel)
abbrev EV:UY:=df (top 12) 0
theorem Mt:aJ ["self","number"] ["self","number"] (az EV):=.of (by decide +kernel)
abbrev CY:UY:=df (top 13) 0
theorem Mo:aJ ["self","ring"] ["self","ring"] (az CY):=.of (by decide +kernel)
abbrev xP:UY:=top 25
theorem Pi:aJ ["name"] ["name"] (az xP):=.of (by decide +kernel)
abbrev D0:UY:=top 26
theorem Qg:aJ ["number"] ["number"] (az D0):=.of (by decide +kernel)
abbrev CL:UY:=top 27
theorem Mr:aJ ["number","least","greatest"] ["number","least","greatest"] (az CL):=.of (by decide +kernel)
abbrev DT:UY:=df (top 28) 0
theorem Ql:aJ ["self"] ["self"] (az DT):=.of (by decide +kernel)
abbrev uI:UY:=df (top 28) 1
theorem J8:aJ ["self","name","half"] ["self","name","half"] (az uI):=.of (by decide +kernel)
abbrev rK:UY:=df (top 28) 2
theorem D6:aJ ["self","one","other","span","weight","number"] ["self","one","other","span","weight"] (az rK):=.of (by decide +kernel)
abbrev Dr:UY:=df (top 28) 3
theorem K4:aJ ["self","one","other"] ["self","one","other"] (az Dr):=.of (by decide +kernel)
abbrev FS:UY:=df (top 28) 4
theorem Qx:aJ ["self","one","other","number"] ["self","one","other","number"] (az FS):=.of (by decide +kernel)
abbrev DO:UY:=df (top 28) 5
theorem Og:aJ ["self","number"] ["self","number"] (az DO):=.of (by decide +kernel)
abbrev FQ:UY:=df (top 28) 6
theorem Nf:aJ ["self"] ["self"] (az FQ):=.of (by decide +kernel)
abbrev xL:UY:=df (top 28) 8
theorem Pt:aJ ["self"] ["self"] (az xL):=.of (by decide +kernel)
abbrev zM:UY:=df (top 28) 9
theorem KS:aJ ["self"] ["self"] (az zM):=.of (by decide +kernel)
abbrev yn:UY:=df (top 28) 10
theorem Np:aJ ["self"] ["self"] (az yn):=.of (by decide +kernel)
abbrev CI:UY:=df (top 28) 11
theorem P7:aJ ["self","name"] ["self","name"] (az CI):=.of (by decide +kernel)
abbrev FH:UY:=df (top 28) 12
theorem MD:aJ ["self","one","other"] ["self","one","other"] (az FH):=.of (by decide +kernel)
abbrev zc:UY:=top 30
theorem Po:aJ ["count","wishes","places"] ["count","wishes","places"] (az zc):=.of (by decide +kernel)
abbrev yK:UY:=top 31
theorem Pu:aJ ["wishes","places"] ["wishes","places"] (az yK):=.of (by decide +kernel)
abbrev yV:UY:=top 32
theorem MK:aJ ["wishes"] ["wishes"] (az yV):=.of (by decide +kernel)
abbrev Co:UY:=top 33
theorem uz:aJ ["count","wishes","amounts","left","wish","amount"] ["count","wishes","amounts"] (az Co):=.of (by decide +kernel)
abbrev tY:UY:=top 34
theorem LS:aJ ["count","wishes","flow"] ["count","wishes","flow"] (az tY):=.of (by decide +kernel)
abbrev nS:UY:=df (top 37) 0
theorem zq:aJ ["self","count","wishes","number","wish"] ["self","count","wishes"] (az nS):=.of (by decide +kernel)
abbrev DB:UY:=df (top 37) 1
theorem P2:aJ ["self","number"] ["self","number"] (az DB):=.of (by decide +kernel)
abbrev QdC:UY:=top 38
theorem oP:aJ ["layout","count","pushers","pushed","time"] ["layout"] (az QdC):=.of (by decide +kernel)
abbrev DC:UY:=top 39
theorem o8:aJ ["layout","pushers","pushed","number","other","lacking"] ["layout","pushers"] (az DC):=.of (by decide +kernel)
abbrev EK:UY:=top 40
theorem uM:aJ ["layout","pushers","point","time","ring"] ["layout","pushers","point"] (az EK):=.of (by decide +kernel)
abbrev zL:UY:=top 46
theorem pj:aJ ["count","wishes","parts","wish","old","new"] ["count","wishes"] (az zL):=.of (by decide +kernel)
abbrev yR:UY:=top 47
theorem uL:aJ ["places","parts","least","place","part"] ["places","parts"] (az yR):=.of (by decide +kernel)
abbrev ED:UY:=top 48
theorem Cn:aJ ["weights","worths"] ["weights"] (az ED):=.of (by decide +kernel)
abbrev rY:UY:=top 49
theorem ux:aJ ["count","wishes","layout","weights","worth"] ["count","wishes"] (az rY):=.of (by decide +kernel)
abbrev DL:UY:=df (top 52) 0
theorem Lj:aJ ["self","name","wide"] ["self","name","wide"] (az DL):=.of (by decide +kernel)
abbrev Ft:UY:=df (top 52) 1
theorem O7:aJ ["self"] ["self"] (az Ft):=.of (by decide +kernel)
abbrev QdD:UY:=top 55
theorem lu:aJ ["arrows","start","end","ways","waiting","point","number","one","other","span","weight"] ["arrows","start","end"] (az QdD):=.of (by decide +kernel)
abbrev Ey:UY:=top 56
theorem yo:aJ ["net","kept","arrow"] ["net"] (az Ey):=.of (by decide +kernel)
abbrev yp:UY:=top 57
theorem EO:aJ ["net","kept"] ["net"] (az yp):=.of (by decide +kernel)
abbrev FP:UY:=top 65
theorem xS:aJ ["rows","marks","row"] ["rows"] (az FP):=.of (by decide +kernel)
abbrev xY:UY:=top 72
theorem ir:aJ ["net","numbers","turned_about","wishes","number","one","other","span","weight"] ["net"] (az xY):=.of (by decide +kernel)
abbrev yY:UY:=top 73
theorem NF:aJ ["net","levels"] ["net","levels"] (az yY):=.of (by decide +kernel)
abbrev D8:UY:=top 74
theorem Ke:aJ ["net","levels"] ["net","levels"] (az D8):=.of (by decide +kernel)
abbrev Fx:UY:=top 75
theorem MR:aJ ["net","levels"] ["net","levels"] (az Fx):=.of (by decide +kernel)
abbrev Dk:UY:=top 76
theorem yw:aJ ["net","points","answer"] ["net"] (az Dk):=.of (by decide +kernel)
abbrev zQ:UY:=top 82
theorem zG:aJ ["rows","marks","row"] ["rows"] (az zQ):=.of (by decide +kernel)
abbrev uY:UY:=top 107
theorem O8:aJ ["rows","places"] ["rows","places"] (az uY):=.of (by decide +kernel)
abbrev yU:UY:=top 112
theorem NS:aJ ["word"] ["word"] (az yU):=.of (by decide +kernel)
abbrev tQ:UY:=top 113
theorem Fu:aJ ["words","needed","left_out","missing"] ["words","needed","left_out"] (az tQ):=.of (by decide +kernel)
abbrev C8:UY:=top 114
theorem o7:aJ ["net","line","words","kind","form","names","numbers"] ["net","line"] (az C8):=.of (by decide +kernel)
abbrev DR:UY:=top 115
theorem ve:aJ ["text","net","number","line"] ["text"] (az DR):=.of (by decide +kernel)
abbrev Dp:UY:=top 124
theorem D4:aJ ["net","line","number"] ["net","line"] (az Dp):=.of (by decide +kernel)
abbrev CW:UY:=top 126
theorem EY:aJ ["net","levels","name"] ["net","levels"] (az CW):=.of (by decide +kernel)
abbrev DA:UY:=top 128
theorem tV:aJ ["net","levels","drawing","pairs","behind"] ["net","levels"] (az DA):=.of (by decide +kernel)
abbrev Ea:UY:=top 129
theorem uA:aJ ["net","levels","gap","drawing","rows","places"] ["net","levels","gap"] (az Ea):=.of (by decide +kernel)
abbrev E2:UY:=df (top 130) 0
theorem Ol:aJ ["self"] ["self"] (az E2):=.of (by decide +kernel)
abbrev E3:UY:=df (top 130) 1
theorem FY:aJ ["self","line","words"] ["self","line"] (az E3):=.of (by decide +kernel)
abbrev Dy:UY:=df (top 130) 2
theorem D9:aJ ["self","word","answer"] ["self","word"] (az Dy):=.of (by decide +kernel)
abbrev DK:UY:=df (top 130) 3
theorem El:aJ ["self","word","written","number"] ["self","word","written"] (az DK):=.of (by decide +kernel)
abbrev EX:UY:=df (top 130) 4
theorem Pz:aJ ["self","answer"] ["self","answer"] (az EX):=.of (by decide +kernel)
abbrev Fw:UY:=top 132
theorem PL:aJ ["_law_script","_law_k"] ["_law_script","_law_k"] (az Fw):=.of (by decide +kernel)
abbrev FJ:UY:=top 133
theorem yG:aJ ["_law_e","_law_found"] ["_law_e"] (az FJ):=.of (by decide +kernel)
abbrev DE:UY:=top 134
theorem yv:aJ ["_law_which","_law_number","_law_net","_law_k"] ["_law_which","_law_number"] (az DE):=.of (by decide +kernel)
abbrev DD:UY:=top 135
theorem yD:aJ ["_law_which","_law_number","_law_desk","_law_line"] ["_law_which","_law_number"] (az DD):=.of (by decide +kernel)
variable {H H':Hp}{Lk:Nat→Nat→Int→Prop}{P fl nd:Nat→Int}{S:List F'}{a b:C'}{cm pu:Nat→Option Nat}{i p size:Nat}{rk t:Nat→Nat}{v:V}
abbrev C3:UY:=top 136
theorem ua:aJ ["_law_which","_law_number","_law_found","_law_e"] ["_law_which","_law_number"] (az C3):=.of (by decide +kernel)
abbrev Dm:UY:=top 137
theorem oU:aJ ["_law_number","_law_found","_law_e"] ["_law_number"] (az Dm):=.of (by decide +kernel)
abbrev yM:UY:=top 138
theorem pG:aJ ["_law_number","_law_one","_law_two","_law_three","_law_four","_law_e"] ["_law_number"] (az yM):=.of (by decide +kernel)
abbrev oY:UY:=top 139
theorem uJ:aJ ["_law_script","_law_which","_law_found","_law_number"] ["_law_script"] (az oY):=.of (by decide +kernel)
structure Vm where
 DrawError:F'
 NoName:F'
 Taken:F'
 Alone:F'
 NoNumber:F'
 TooMany:F'
 NoFlow:F'
 TooLong:F'
 Stale:F'
 NoPoint:F'
 NoSuch:F'
 NoLine:F'
 Ring:F'
 Net:F'
 Layout:F'
 Item:F'
 Own:F'
 Small:F'
 Desk:F'
 LINES:F'
 QdE:F'
 QdF:F'
 QdG:F'
 QdH:F'
 QdI:F'
 QdJ:F'
 QdK:F'
 QdL:F'
structure Tx (K:R') (mg:C'→Option L') (a:Vm):Prop where
 QbS:mg "DrawError"=f' (.ref a.DrawError)
 QdM:Vn K a.DrawError (.type "BaseException")=f' B'
 QdN:Wk K (.ref a.DrawError)=f' (.type "type")
 QdO:mg "NoName"=f' (.ref a.NoName)
 xb_NoName:Vn K a.NoName (.type "BaseException")=f' B'
 xt_NoName:Wk K (.ref a.NoName)=f' (.type "type")
 QiH:XD K a.NoName
 QiI:Wg K a.NoName
 QdP:mg "Taken"=f' (.ref a.Taken)
 xb_Taken:Vn K a.Taken (.type "BaseException")=f' B'
 xt_Taken:Wk K (.ref a.Taken)=f' (.type "type")
 QiJ:XD K a.Taken
 QiK:Wg K a.Taken
 QdQ:mg "Alone"=f' (.ref a.Alone)
 xb_Alone:Vn K a.Alone (.type "BaseException")=f' B'
 xt_Alone:Wk K (.ref a.Alone)=f' (.type "type")
 QiL:XD K a.Alone
 QiM:Wg K a.Alone
 QaI:mg "NoNumber"=f' (.ref a.NoNumber)
 xb_NoNumber:Vn K a.NoNumber (.type "BaseException")=f' B'
 xt_NoNumber:Wk K (.ref a.NoNumber)=f' (.type "type")
 QbT:XD K a.NoNumber
 QiN:Wg K a.NoNumber
 Z7:mg "TooMany"=f' (.ref a.TooMany)
 xb_TooMany:Vn K a.TooMany (.type "BaseException")=f' B'
 xt_TooMany:Wk K (.ref a.TooMany)=f' (.type "type")
 QaJ:XD K a.TooMany
 QiO:Wg K a.TooMany
 QbU:mg "NoFlow"=f' (.ref a.NoFlow)
 xb_NoFlow:Vn K a.NoFlow (.type "BaseException")=f' B'
 xt_NoFlow:Wk K (.ref a.NoFlow)=f' (.type "type")
 QdR:XD K a.NoFlow
 QiP:Wg K a.NoFlow
 QdS:mg "TooLong"=f' (.ref a.TooLong)
 xb_TooLong:Vn K a.TooLong (.type "BaseException")=f' B'
 xt_TooLong:Wk K (.ref a.TooLong)=f' (.type "type")
 QiQ:XD K a.TooLong
 QiR:Wg K a.TooLong
 QdT:mg "Stale"=f' (.ref a.Stale)
 xb_Stale:Vn K a.Stale (.type "BaseException")=f' B'
 xt_Stale:Wk K (.ref a.Stale)=f' (.type "type")
 QiS:XD K a.Stale
 QiT:Wg K a.Stale
 QdU:mg "NoPoint"=f' (.ref a.NoPoint)
 QiU:Vn K a.NoPoint (.type "BaseException")=f' B'
 QiV:Wk K (.ref a.NoPoint)=f' (.type "type")
 QiW:Wg K a.NoPoint
 QdV:mg "NoSuch"=f' (.ref a.NoSuch)
 QiX:Vn K a.NoSuch (.type "BaseException")=f' B'
 QiY:Wk K (.ref a.NoSuch)=f' (.type "type")
 QiZ:Wg K a.NoSuch
 QdW:mg "NoLine"=f' (.ref a.NoLine)
 Qi0:Vn K a.NoLine (.type "BaseException")=f' B'
 Qi1:Wk K (.ref a.NoLine)=f' (.type "type")
 Qi2:Wg K a.NoLine
 QdX:mg "Ring"=f' (.ref a.Ring)
 Qi3:Vn K a.Ring (.type "BaseException")=f' B'
 Qi4:Wk K (.ref a.Ring)=f' (.type "type")
 Qi5:Wg K a.Ring
 g_Net:mg "Net"=f' (.ref a.Net)
 Vg:Wd K a.Net
 Zq:zbj K a.Net "arrows_by_number"
 Z8:zbj K a.Net "halves"
 QaK:zbj K a.Net "most_bounds"
 QbV:zbj K a.Net "next_number"
 QaL:zbj K a.Net "same_pairs"
 g_Layout:mg "Layout"=f' (.ref a.Layout)
 VN:Wd K a.Layout
 QdY:zbj K a.Layout "coming"
 QaM:zbj K a.Layout "flow"
 QdZ:zbj K a.Layout "going"
 Qd0:zbj K a.Layout "leasts"
 QbW:zbj K a.Layout "needs"
 Z9:zbj K a.Layout "ones"
 QbX:zbj K a.Layout "others"
 YR:zbj K a.Layout "places"
 g_Item:mg "Item"=f' (.ref a.Item)
 c_Item:Wd K a.Item
 g_Own:mg "Own"=f' (.ref a.Own)
 QaN:Wd K a.Own
 Qd1:zbj K a.Own "name"
 Qi6:zbj K a.Own "wide"
 g_Small:mg "Small"=f' (.ref a.Small)
 c_Small:Wd K a.Small
 g_Desk:mg "Desk"=f' (.ref a.Desk)
 WD:Wd K a.Desk
 Z':zbj K a.Desk "levels"
 Zr:zbj K a.Desk "net"
 Qi7:nO K mg a.NoPoint "NoPoint" "NoPoint.__init__" Cz ["self","name"]
 Qi8:o0 K a.NoPoint "name"
 Qd2:o9 K a.NoPoint "name"
 Qi9:nO K mg a.NoSuch "NoSuch" "NoSuch.__init__" Ci ["self","number"]
 Qja:o0 K a.NoSuch "number"
 Qd3:o9 K a.NoSuch "number"
 Qjb:nO K mg a.NoLine "NoLine" "NoLine.__init__" EV ["self","number"]
 Qjc:o0 K a.NoLine "number"
 Qd4:o9 K a.NoLine "number"
 Qjd:nO K mg a.Ring "Ring" "Ring.__init__" CY ["self","ring"]
 Qje:o0 K a.Ring "ring"
 Qd5:o9 K a.Ring "ring"
 Qjf:Def K mg "is_name" xP ["name"] []
 Qjg:Def K mg "is_whole" D0 ["number"] []
 Qjh:Def K mg "in_range" CL ["number","least","greatest"] []
 YS:YQ K mg a.Net "Net" "Net.__init__" DT ["self"]
 Zs:Met K a.Net "put_point" "Net.put_point" uI ["self","name","half"] []
 Qaa:Met K a.Net "put_point" "Net.put_point" uI ["self","name","half"] [.int 0]
 QbY:Met K a.Net "put_arrow" "Net.put_arrow" rK ["self","one","other","span","weight"] []
 m_Net_put_arrow3:Met K a.Net "put_arrow" "Net.put_arrow" rK ["self","one","other","span","weight"] [.int 1]
 QbZ:Met K a.Net "put_arrow" "Net.put_arrow" rK ["self","one","other","span","weight"] [.int 1,.int 1]
 Qab:Met K a.Net "put_same" "Net.put_same" Dr ["self","one","other"] []
 Qb0:Met K a.Net "put_most" "Net.put_most" FS ["self","one","other","number"] []
 Qac:Met K a.Net "take_arrow" "Net.take_arrow" DO ["self","number"] []
 W1:Met K a.Net "points" "Net.points" FQ ["self"] []
 YT:Met K a.Net "arrows" "Net.arrows" xL ["self"] []
 Qb1:Met K a.Net "sames" "Net.sames" zM ["self"] []
 Qb2:Met K a.Net "mosts" "Net.mosts" yn ["self"] []
 QaO:Met K a.Net "need_point" "Net.need_point" CI ["self","name"] []
 YU:Met K a.Net "need_two_points" "Net.need_two_points" FH ["self","one","other"] []
 Qji:Def K mg "fits" zc ["count","wishes","places"] []
 Qjj:Def K mg "worth" yK ["wishes","places"] []
 Qjk:Def K mg "weights_of" yV ["wishes"] []
 Qjl:Def K mg "left_at_points" Co ["count","wishes","amounts"] []
 Qjm:Def K mg "bound" tY ["count","wishes","flow"] []
 Qb3:YQ K mg a.Layout "Layout" "Layout.__init__" nS ["self","count","wishes"]
 Qb4:Met K a.Layout "slack" "Layout.slack" DB ["self","number"] []
 Qjn:Def K mg "fit" QdC ["layout"] []
 Qjo:Def K mg "push_once" DC ["layout","pushers"] []
 Qjp:Def K mg "ring_behind" EK ["layout","pushers","point"] []
 Qjq:Def K mg "parts_of" zL ["count","wishes"] []
 Qjr:Def K mg "from_nought" yR ["places","parts"] []
 Qjs:Def K mg "figure_worths" ED ["weights"] []
 Qjt:Def K mg "laid" rY ["count","wishes"] []
 Qb5:YQ K mg a.Own "Own" "Own.__init__" DL ["self","name","wide"]
 Qb6:Met K a.Own "label" "Own.label" Ft ["self"] []
 Qju:Def K mg "way" QdD ["arrows","start","end"] []
 Qjv:Def K mg "kept_arrows" Ey ["net"] []
 Qjw:Def K mg "turned" yp ["net"] []
 Qjx:Def K mg "marks_in_line" FP ["rows"] []
 Qjy:Def K mg "wishes_of" xY ["net"] []
 Qjz:Def K mg "places_by" yY ["net","levels"] []
 QjA:Def K mg "keeps_net" D8 ["net","levels"] []
 QjB:Def K mg "length" Fx ["net","levels"] []
 QjC:Def K mg "levelled" Dk ["net"] []
 QjD:Def K mg "marks_of" zQ ["rows"] []
 QjE:Def K mg "picture" uY ["rows","places"] []
 QjF:Def K mg "is_written_number" yU ["word"] []
 QjG:Def K mg "numbers_of" tQ ["words","needed","left_out"] []
 QjH:Def K mg "put_line" C8 ["net","line"] []
 QjI:Def K mg "read_net" DR ["text"] []
 QjJ:Def K mg "put_text" Dp ["net","line"] []
 QjK:Def K mg "kept_rows" CW ["net","levels"] []
 QjL:Def K mg "cross_text" DA ["net","levels"] []
 QjM:Def K mg "draw_text" Ea ["net","levels","gap"] []
 Qb7:YQ K mg a.Desk "Desk" "Desk.__init__" E2 ["self"]
 Qb8:Met K a.Desk "say" "Desk.say" E3 ["self","line"] []
 Qb9:Met K a.Desk "say_word" "Desk.say_word" Dy ["self","word"] []
 Qca:Met K a.Desk "say_number" "Desk.say_number" DK ["self","word","written"] []
 QaP:Met K a.Desk "level_by" "Desk.level_by" EX ["self","answer"] []
 QjN:Def K mg "_law_cell_at" Fw ["_law_script","_law_k"] []
 QjO:Def K mg "_law_kinds" FJ ["_law_e"] []
 QjP:Def K mg "_law_of_nets" DE ["_law_which","_law_number"] []
 QjQ:Def K mg "_law_of_stages" DD ["_law_which","_law_number"] []
 QjR:Def K mg "_law_kind" C3 ["_law_which","_law_number"] []
 QjS:Def K mg "_law_fields" Dm ["_law_number"] []
 QjT:Def K mg "_law_made" yM ["_law_number"] []
 d_law:Def K mg "law" oY ["_law_script"] []
 QaQ:∃ t,mg "BASE"=f' (.int 16 t)
 QjU:∃ t,mg "FIGURES"=f' (.str "0123456789" t)
 QjV:∃ t,mg "GREATEST_GAP"=f' (.int 50 t)
 QjW:∃ t,mg "GREATEST_MOST"=f' (.int 99 t)
 QjX:∃ t,mg "GREATEST_PLACE"=f' (.int 200 t)
 QjY:∃ t,mg "GREATEST_WEIGHT"=f' (.int 1000000 t)
 QjZ:∃ t,mg "LEAST_GAP"=f' (.int 1 t)
 Qj0:∃ t,mg "LONGEST_NAME"=f' (.int 8 t)
 Qj1:∃ t,mg "LONGEST_SPAN"=f' (.int 20 t)
 Qj2:∃ t,mg "MOST_ARROWS"=f' (.int 40 t)
 Qj3:∃ t,mg "MOST_FIGURES"=f' (.int 7 t)
 Qj4:∃ t,mg "MOST_MOSTS"=f' (.int 20 t)
 Qj5:∃ t,mg "MOST_POINTS"=f' (.int 20 t)
 Qj6:∃ t,mg "MOST_SAMES"=f' (.int 20 t)
 Qj7:∃ t,mg "SMALL_LETTERS"=f' (.str "abcdefghijklmnopqrstuvwxyz" t)
 Qj8:∃ t,mg "WIDEST_HALF"=f' (.int 50 t)
 Qd6:mg "LINES"=f' (.ref a.LINES)
 Qj9:∀ H,U4 K H a.QdE [.int 0]
 Qka:∀ H,U4 K H a.QdF [.int 1,.int 0,.ref a.QdE]
 Qkb:∀ H,U4 K H a.QdG [.int 1,.int 1]
 Qkc:∀ H,U4 K H a.QdH [.int 2,.int 0,.ref a.QdG]
 Qkd:∀ H,U4 K H a.QdI []
 Qke:∀ H,U4 K H a.QdJ [.int 2,.int 0,.ref a.QdI]
 Qkf:∀ H,U4 K H a.QdK []
 Qkg:∀ H,U4 K H a.QdL [.int 2,.int 1,.ref a.QdK]
 Qkh:UK K (.type "str") (.type "str")=f' B'
 Qki:UK K (.type "int") (.type "int")=f' B'
 Qkj:UK K (.type "int") (.type "bool")=f' K'
 Qd7:Vn K a.NoName (.ref a.DrawError)=f' B'
 Qd8:Vn K a.Taken (.ref a.DrawError)=f' B'
 Qd9:Vn K a.Alone (.ref a.DrawError)=f' B'
 Qea:Vn K a.NoNumber (.ref a.DrawError)=f' B'
 Qeb:Vn K a.TooMany (.ref a.DrawError)=f' B'
 Qkk:Vn K a.NoFlow (.ref a.DrawError)=f' B'
 Qkl:Vn K a.TooLong (.ref a.DrawError)=f' B'
 Qkm:Vn K a.Stale (.ref a.DrawError)=f' B'
 Qec:Vn K a.NoPoint (.ref a.DrawError)=f' B'
 Qed:Vn K a.NoSuch (.ref a.DrawError)=f' B'
 Qee:Vn K a.NoLine (.ref a.DrawError)=f' B'
 Qkn:Vn K a.Ring (.ref a.DrawError)=f' B'
 Qko:Vn K a.NoPoint (.ref a.NoPoint)=f' B'
 Qkp:Vn K a.NoSuch (.ref a.NoSuch)=f' B'
 Qkq:Vn K a.NoLine (.ref a.NoLine)=f' B'
 Qkr:Vn K a.Ring (.ref a.Ring)=f' B'
 Qks:UK K (.ref a.NoName) (.ref a.NoName)=f' B'
 Qkt:UK K (.ref a.NoName) (.ref a.Taken)=f' K'
 Qku:UK K (.ref a.NoName) (.ref a.Alone)=f' K'
 Qkv:UK K (.ref a.NoName) (.ref a.NoNumber)=f' K'
 Qkw:UK K (.ref a.NoName) (.ref a.TooMany)=f' K'
 Qkx:UK K (.ref a.NoName) (.ref a.NoFlow)=f' K'
 Qky:UK K (.ref a.NoName) (.ref a.TooLong)=f' K'
 Qkz:UK K (.ref a.NoName) (.ref a.Stale)=f' K'
 QkA:UK K (.ref a.NoName) (.ref a.NoPoint)=f' K'
 QkB:UK K (.ref a.NoName) (.ref a.NoSuch)=f' K'
 QkC:UK K (.ref a.NoName) (.ref a.NoLine)=f' K'
 QkD:UK K (.ref a.NoName) (.ref a.Ring)=f' K'
 QkE:UK K (.ref a.Taken) (.ref a.NoName)=f' K'
 QkF:UK K (.ref a.Taken) (.ref a.Taken)=f' B'
 QkG:UK K (.ref a.Taken) (.ref a.Alone)=f' K'
 QkH:UK K (.ref a.Taken) (.ref a.NoNumber)=f' K'
 QkI:UK K (.ref a.Taken) (.ref a.TooMany)=f' K'
 QkJ:UK K (.ref a.Taken) (.ref a.NoFlow)=f' K'
 QkK:UK K (.ref a.Taken) (.ref a.TooLong)=f' K'
 QkL:UK K (.ref a.Taken) (.ref a.Stale)=f' K'
 QkM:UK K (.ref a.Taken) (.ref a.NoPoint)=f' K'
 QkN:UK K (.ref a.Taken) (.ref a.NoSuch)=f' K'
 QkO:UK K (.ref a.Taken) (.ref a.NoLine)=f' K'
 QkP:UK K (.ref a.Taken) (.ref a.Ring)=f' K'
 QkQ:UK K (.ref a.Alone) (.ref a.NoName)=f' K'
 QkR:UK K (.ref a.Alone) (.ref a.Taken)=f' K'
 QkS:UK K (.ref a.Alone) (.ref a.Alone)=f' B'
 QkT:UK K (.ref a.Alone) (.ref a.NoNumber)=f' K'
 QkU:UK K (.ref a.Alone) (.ref a.TooMany)=f' K'
 QkV:UK K (.ref a.Alone) (.ref a.NoFlow)=f' K'
 QkW:UK K (.ref a.Alone) (.ref a.TooLong)=f' K'
 QkX:UK K (.ref a.Alone) (.ref a.Stale)=f' K'
 QkY:UK K (.ref a.Alone) (.ref a.NoPoint)=f' K'
 QkZ:UK K (.ref a.Alone) (.ref a.NoSuch)=f' K'
 Qk0:UK K (.ref a.Alone) (.ref a.NoLine)=f' K'
 Qk1:UK K (.ref a.Alone) (.ref a.Ring)=f' K'
 Qk2:UK K (.ref a.NoNumber) (.ref a.NoName)=f' K'
 Qk3:UK K (.ref a.NoNumber) (.ref a.Taken)=f' K'
 Qk4:UK K (.ref a.NoNumber) (.ref a.Alone)=f' K'
 Qk5:UK K (.ref a.NoNumber) (.ref a.NoNumber)=f' B'
 Qk6:UK K (.ref a.NoNumber) (.ref a.TooMany)=f' K'
 Qk7:UK K (.ref a.NoNumber) (.ref a.NoFlow)=f' K'
 Qk8:UK K (.ref a.NoNumber) (.ref a.TooLong)=f' K'
 Qk9:UK K (.ref a.NoNumber) (.ref a.Stale)=f' K'
 Qla:UK K (.ref a.NoNumber) (.ref a.NoPoint)=f' K'
 Qlb:UK K (.ref a.NoNumber) (.ref a.NoSuch)=f' K'
 Qlc:UK K (.ref a.NoNumber) (.ref a.NoLine)=f' K'
 Qld:UK K (.ref a.NoNumber) (.ref a.Ring)=f' K'
 Qle:UK K (.ref a.TooMany) (.ref a.NoName)=f' K'
 Qlf:UK K (.ref a.TooMany) (.ref a.Taken)=f' K'
 Qlg:UK K (.ref a.TooMany) (.ref a.Alone)=f' K'
 Qlh:UK K (.ref a.TooMany) (.ref a.NoNumber)=f' K'
 Qli:UK K (.ref a.TooMany) (.ref a.TooMany)=f' B'
 Qlj:UK K (.ref a.TooMany) (.ref a.NoFlow)=f' K'
 Qlk:UK K (.ref a.TooMany) (.ref a.TooLong)=f' K'
 Qll:UK K (.ref a.TooMany) (.ref a.Stale)=f' K'
 Qlm:UK K (.ref a.TooMany) (.ref a.NoPoint)=f' K'
 Qln:UK K (.ref a.TooMany) (.ref a.NoSuch)=f' K'
 Qlo:UK K (.ref a.TooMany) (.ref a.NoLine)=f' K'
 Qlp:UK K (.ref a.TooMany) (.ref a.Ring)=f' K'
 Qlq:UK K (.ref a.NoFlow) (.ref a.NoName)=f' K'
 Qlr:UK K (.ref a.NoFlow) (.ref a.Taken)=f' K'
 Qls:UK K (.ref a.NoFlow) (.ref a.Alone)=f' K'
 Qlt:UK K (.ref a.NoFlow) (.ref a.NoNumber)=f' K'
 Qlu:UK K (.ref a.NoFlow) (.ref a.TooMany)=f' K'
 Qlv:UK K (.ref a.NoFlow) (.ref a.NoFlow)=f' B'
 Qlw:UK K (.ref a.NoFlow) (.ref a.TooLong)=f' K'
 Qlx:UK K (.ref a.NoFlow) (.ref a.Stale)=f' K'
 Qly:UK K (.ref a.NoFlow) (.ref a.NoPoint)=f' K'
 Qlz:UK K (.ref a.NoFlow) (.ref a.NoSuch)=f' K'
 QlA:UK K (.ref a.NoFlow) (.ref a.NoLine)=f' K'
 QlB:UK K (.ref a.NoFlow) (.ref a.Ring)=f' K'
 QlC:UK K (.ref a.TooLong) (.ref a.NoName)=f' K'
 QlD:UK K (.ref a.TooLong) (.ref a.Taken)=f' K'
 QlE:UK K (.ref a.TooLong) (.ref a.Alone)=f' K'
 QlF:UK K (.ref a.TooLong) (.ref a.NoNumber)=f' K'
 QlG:UK K (.ref a.TooLong) (.ref a.TooMany)=f' K'
 QlH:UK K (.ref a.TooLong) (.ref a.NoFlow)=f' K'
 QlI:UK K (.ref a.TooLong) (.ref a.TooLong)=f' B'
 QlJ:UK K (.ref a.TooLong) (.ref a.Stale)=f' K'
 QlK:UK K (.ref a.TooLong) (.ref a.NoPoint)=f' K'
 QlL:UK K (.ref a.TooLong) (.ref a.NoSuch)=f' K'
 QlM:UK K (.ref a.TooLong) (.ref a.NoLine)=f' K'
 QlN:UK K (.ref a.TooLong) (.ref a.Ring)=f' K'
 QlO:UK K (.ref a.Stale) (.ref a.NoName)=f' K'
 QlP:UK K (.ref a.Stale) (.ref a.Taken)=f' K'
 QlQ:UK K (.ref a.Stale) (.ref a.Alone)=f' K'
 QlR:UK K (.ref a.Stale) (.ref a.NoNumber)=f' K'
 QlS:UK K (.ref a.Stale) (.ref a.TooMany)=f' K'
 QlT:UK K (.ref a.Stale) (.ref a.NoFlow)=f' K'
 QlU:UK K (.ref a.Stale) (.ref a.TooLong)=f' K'
 QlV:UK K (.ref a.Stale) (.ref a.Stale)=f' B'
 QlW:UK K (.ref a.Stale) (.ref a.NoPoint)=f' K'
 QlX:UK K (.ref a.Stale) (.ref a.NoSuch)=f' K'
 QlY:UK K (.ref a.Stale) (.ref a.NoLine)=f' K'
 QlZ:UK K (.ref a.Stale) (.ref a.Ring)=f' K'
 Ql0:UK K (.ref a.NoPoint) (.ref a.NoName)=f' K'
 Ql1:UK K (.ref a.NoPoint) (.ref a.Taken)=f' K'
 Ql2:UK K (.ref a.NoPoint) (.ref a.Alone)=f' K'
 Ql3:UK K (.ref a.NoPoint) (.ref a.NoNumber)=f' K'
 Ql4:UK K (.ref a.NoPoint) (.ref a.TooMany)=f' K'
 Ql5:UK K (.ref a.NoPoint) (.ref a.NoFlow)=f' K'
 Ql6:UK K (.ref a.NoPoint) (.ref a.TooLong)=f' K'
 Ql7:UK K (.ref a.NoPoint) (.ref a.Stale)=f' K'
 Ql8:UK K (.ref a.NoPoint) (.ref a.NoPoint)=f' B'
 Ql9:UK K (.ref a.NoPoint) (.ref a.NoSuch)=f' K'
 Qma:UK K (.ref a.NoPoint) (.ref a.NoLine)=f' K'
 Qmb:UK K (.ref a.NoPoint) (.ref a.Ring)=f' K'
 Qmc:UK K (.ref a.NoSuch) (.ref a.NoName)=f' K'
 Qmd:UK K (.ref a.NoSuch) (.ref a.Taken)=f' K'
 Qme:UK K (.ref a.NoSuch) (.ref a.Alone)=f' K'
 Qmf:UK K (.ref a.NoSuch) (.ref a.NoNumber)=f' K'
 Qmg:UK K (.ref a.NoSuch) (.ref a.TooMany)=f' K'
 Qmh:UK K (.ref a.NoSuch) (.ref a.NoFlow)=f' K'
 Qmi:UK K (.ref a.NoSuch) (.ref a.TooLong)=f' K'
 Qmj:UK K (.ref a.NoSuch) (.ref a.Stale)=f' K'
 Qmk:UK K (.ref a.NoSuch) (.ref a.NoPoint)=f' K'
 Qml:UK K (.ref a.NoSuch) (.ref a.NoSuch)=f' B'
 Qmm:UK K (.ref a.NoSuch) (.ref a.NoLine)=f' K'
 Qmn:UK K (.ref a.NoSuch) (.ref a.Ring)=f' K'
 Qmo:UK K (.ref a.NoLine) (.ref a.NoName)=f' K'
 Qmp:UK K (.ref a.NoLine) (.ref a.Taken)=f' K'
 Qmq:UK K (.ref a.NoLine) (.ref a.Alone)=f' K'
 Qmr:UK K (.ref a.NoLine) (.ref a.NoNumber)=f' K'
 Qms:UK K (.ref a.NoLine) (.ref a.TooMany)=f' K'
 Qmt:UK K (.ref a.NoLine) (.ref a.NoFlow)=f' K'
 Qmu:UK K (.ref a.NoLine) (.ref a.TooLong)=f' K'
 Qmv:UK K (.ref a.NoLine) (.ref a.Stale)=f' K'
 Qmw:UK K (.ref a.NoLine) (.ref a.NoPoint)=f' K'
 Qmx:UK K (.ref a.NoLine) (.ref a.NoSuch)=f' K'
 Qmy:UK K (.ref a.NoLine) (.ref a.NoLine)=f' B'
 Qmz:UK K (.ref a.NoLine) (.ref a.Ring)=f' K'
 QmA:UK K (.ref a.Ring) (.ref a.NoName)=f' K'
 QmB:UK K (.ref a.Ring) (.ref a.Taken)=f' K'
 QmC:UK K (.ref a.Ring) (.ref a.Alone)=f' K'
 QmD:UK K (.ref a.Ring) (.ref a.NoNumber)=f' K'
 QmE:UK K (.ref a.Ring) (.ref a.TooMany)=f' K'
 QmF:UK K (.ref a.Ring) (.ref a.NoFlow)=f' K'
 QmG:UK K (.ref a.Ring) (.ref a.TooLong)=f' K'
 QmH:UK K (.ref a.Ring) (.ref a.Stale)=f' K'
 QmI:UK K (.ref a.Ring) (.ref a.NoPoint)=f' K'
 QmJ:UK K (.ref a.Ring) (.ref a.NoSuch)=f' K'
 QmK:UK K (.ref a.Ring) (.ref a.NoLine)=f' K'
 QmL:UK K (.ref a.Ring) (.ref a.Ring)=f' B'
 QmM:UK K (.ref a.NoName) (.type "ValueError")=f' B'
 QmN:UK K (.ref a.Taken) (.type "ValueError")=f' B'
 QmO:UK K (.ref a.Alone) (.type "ValueError")=f' B'
 QmP:UK K (.ref a.NoNumber) (.type "ValueError")=f' B'
 QmQ:UK K (.ref a.TooMany) (.type "ValueError")=f' B'
 QmR:UK K (.ref a.NoFlow) (.type "ValueError")=f' B'
 QmS:UK K (.ref a.TooLong) (.type "ValueError")=f' B'
 QmT:UK K (.ref a.Stale) (.type "ValueError")=f' B'
 QmU:UK K (.ref a.NoPoint) (.type "ValueError")=f' B'
 QmV:UK K (.ref a.NoSuch) (.type "ValueError")=f' B'
 QmW:UK K (.ref a.NoLine) (.type "ValueError")=f' B'
 QmX:UK K (.ref a.Ring) (.type "ValueError")=f' B'
 QmY:UK K (.ref a.NoPoint) (.ref a.DrawError)=f' B'
 QmZ:UK K (.ref a.NoSuch) (.ref a.DrawError)=f' B'
 Qm0:UK K (.ref a.NoLine) (.ref a.DrawError)=f' B'
 Qm1:UK K (.ref a.Ring) (.ref a.DrawError)=f' B'
 Qm2:mg "ValueError"=i'
 Qad:mg "all"=i'
 Qef:mg "any"=i'
 Qm3:mg "bool"=i'
 Qeg:mg "dict"=i'
 QaR:mg "enumerate"=i'
 Qcb:mg "int"=i'
 Ws:mg "isinstance"=i'
 VW:mg "len"=i'
 QaS:mg "list"=i'
 Qm4:mg "max"=i'
 Qm5:mg "min"=i'
 Zt:mg "range"=i'
 Qcc:mg "str"=i'
 Qeh:mg "sum"=i'
 Qae:mg "zip"=i'
def fB (a:Vm):List (Key×V):=[(UT "point",.ref a.QdF),(UT "arrow",.ref a.QdH),(UT "same",.ref a.QdJ),(UT "most",.ref a.QdL)]
def U' {α:Type} (f:α→α):Nat→α→α
 | 0,a=>a
 | k+1,a=>f (U' f k a)
theorem so {α:Type} (f:α→α) (i:Nat) (a:α):∀ j,U' f (i+j) a=U' f j (U' f i a)
 | 0=>rfl
 | j+1=>by
  show f (U' f (i+j) a)=f (U' f j (U' f i a))
  rw[so f i a j]
theorem Ds:∀ (c:Nat) (f:Nat→Nat),(∀ i,i≤c→f i<c)→∃ i j,i<j∧j≤c∧f i=f j
 | 0,f,h=>UX (h 0 (Re _)) (Sm _)
 | c+1,f,h=>by
  by_cases e:∃ i,i≤c∧f i=f (c+1)
  .obtain⟨i,hi,q⟩:=e
   exact⟨i,c+1,by lia,Re _,q⟩
  .have ne:∀ i,i≤c→f i≠f (c+1):=fun i hi q=>e ⟨i,hi,q⟩
   have hl:=h (c+1) (Re _)
   obtain⟨i,j,ij,jc,q⟩:=Ds c (fun i=>if f i=c then f (c+1) else f i) fun i hi=>by
    have h1:=h i (by lia)
    have h2:=ne i hi
    show(if f i=c then f (c+1) else f i)<c
    split<;>lia
   refine⟨i,j,ij,by lia,?_⟩
   have n1:=ne i (by lia)
   have n2:=ne j jc
   have q:(if f i=c then f (c+1) else f i)=if f j=c then f (c+1) else f j:=q
   split at q<;>split at q<;>lia
structure Wn where
 c:Nat
 m:Nat
 on:Nat→Nat
 ot:Nat→Nat
 le:Nat→Int
structure Wn.Ok (N:Wn):Prop where
 on:∀ n,n<N.m→N.on n<N.c
 ot:∀ n,n<N.m→N.ot n<N.c
def Vl (N:Wn) (P:Nat→Int) (n:Nat):Int:=P (N.ot n)-P (N.on n)-N.le n
def up {α:Type} (f:Nat→α) (k:Nat) (v:α):Nat→α:=fun i=>if i=k then v else f i
theorem fR {α:Type} (f:Nat→α) (k:Nat) (v:α):up f k v k=v:=UN rfl
theorem eM {α:Type} (f:Nat→α){k:Nat} (v:α) (h:i≠k):up f k v i=f i:=UL h
def bk (N:Wn) (pu:Nat→Option Nat) (v:Nat):Nat:=match pu v with
 | some n=>N.on n
 | none=>v
def ii (N:Wn) (pu:Nat→Option Nat) (p:Nat):Nat→Int
 | 0=>0
 | k+1=>ii N pu p k+(match pu (U' (bk N pu) k p) with
  | some n=>N.le n
  | none=>0)
def Rg (N:Wn) (pu:Nat→Option Nat):Prop:=∀ p k,0<k→(∀ i,i<k→(pu (U' (bk N pu) i p)).isSome=B')→U' (bk N pu) k p=p→0<ii N pu p k
structure Fi (N:Wn) (t:Nat→Nat) (P:Nat→Int) (pu:Nat→Option Nat):Prop where
 a:∀ v n,pu v=f' n→n<N.m∧N.ot n=v∧P v≤P (N.on n)+N.le n
 b:Rg N pu
 c:∀ v,1≤t v→∃ n,pu v=f' n∧t v≤t (N.on n)+1
structure Rd (N:Wn) (t:Nat→Nat) (P:Nat→Int) (r k:Nat):Prop where
 g:∀ v,t v≤r
 d:∀ n,n<k→n<N.m→0≤Vl N P n∨r≤t (N.on n)
 e:∀ n,k≤n→n<N.m→0≤Vl N P n∨r≤t (N.on n)+1
theorem Fi.start (N:Wn):Fi N (fun _=>0) (fun _=>0) (fun _=>i'):=⟨fun v n h=>(by cases h),fun p k h1 h2=>UX (h2 0 h1) (by decide),fun v h=>UX h (by decide)⟩
theorem Rd.start (N:Wn) (P:Nat→Int):Rd N (fun _=>0) P 1 0:=⟨fun _=>R6 _,fun n h=>UX h (Sm _),fun n _ _=>.inr (by lia)⟩
theorem Rd.next {N:Wn}{r:Nat} (h:Rd N t P r N.m):Rd N t P (r+1) 0:=by
 refine⟨fun v=>RU (h.g v),fun n h=>UX h (Sm _),fun n _ hm=>?_⟩
 rcases h.d n hm hm with q|q
 .exact .inl q
 .exact .inr (by lia)
theorem Rd.skip {N:Wn}{r k:Nat} (h:Rd N t P r k) (s:0≤Vl N P k):Rd N t P r (k+1):=by
 refine⟨h.g,fun n h1 h2=>?_,fun n h1 h2=>h.e n (by lia) h2⟩
 rcases Su n k with q|q
 .exact h.d n q h2
 .obtain rfl:n=k:=by lia
  exact .inl s
theorem De {N:Wn}{pu:Nat→Option Nat}{P:Nat→Int}{p:Nat}:∀ k,(∀ i,i<k→∃ n,pu (U' (bk N pu) i p)=f' n∧P (U' (bk N pu) i p)≤P (N.on n)+N.le n)→P p≤P (U' (bk N pu) k p)+ii N pu p k
 | 0,_=>by
  show P p≤P p+0
  lia
 | k+1,h=>by
  have ih:=De k fun i hi=>h i (by lia)
  obtain⟨n,e,q⟩:=h k (by lia)
  have e2:U' (bk N pu) (k+1) p=N.on n:=by
   show bk N pu (U' (bk N pu) k p)=_
   unfold bk
   unfold bk at e
   rw[e]
  have e3:ii N pu p (k+1)=ii N pu p k+N.le n:=by
   show ii N pu p k+_=_
   rw[e]
  rw[e2,e3]
  lia
theorem EZ {N:Wn}{pu:Nat→Option Nat}{P:Nat→Int}{p j:Nat}:∀ k,j<k→(∀ i,i<k→∃ n,pu (U' (bk N pu) i p)=f' n∧P (U' (bk N pu) i p)≤P (N.on n)+N.le n)→(∃ n,pu (U' (bk N pu) j p)=f' n∧P (U' (bk N pu) j p)<P (N.on n)+N.le n)→P p<P (U' (bk N pu) k p)+ii N pu p k
 | 0,hj,_,_=>UX hj (Sm _)
 | k+1,hj,h,s=>by
  obtain⟨n,e,q⟩:=h k (by lia)
  have e2:U' (bk N pu) (k+1) p=N.on n:=by
   show bk N pu (U' (bk N pu) k p)=_
   unfold bk
   unfold bk at e
   rw[e]
  have e3:ii N pu p (k+1)=ii N pu p k+N.le n:=by
   show ii N pu p k+_=_
   rw[e]
  rw[e2,e3]
  by_cases c:j<k
  .have ih:=EZ k c (fun i hi=>h i (by lia)) s
   lia
  .obtain rfl:j=k:=by lia
   obtain⟨n',e',q'⟩:=s
   rw[e] at e'
   cases e'
   have:=De j fun i hi=>h i (by lia)
   lia
section
variable {N:Wn}{r k:Nat}
theorem yq (s:Vl N P k<0) (w:Nat):P w≤up P (N.ot k) (P (N.ot k)+(0-Vl N P k)) w:=by
 unfold up
 split
 .rename_i e
  rw[e]
  lia
 .omega
theorem Qei (g:∀ v,t v≤r) (w:Nat):t w≤up t (N.ot k) r w:=by
 unfold up
 split
 .exact g w
 .exact Re _
theorem MM (f:Fi N t P pu) (h:Rd N t P r k) (hk:k<N.m) (s:Vl N P k<0):Fi N (up t (N.ot k) r) (up P (N.ot k) (P (N.ot k)+(0-Vl N P k))) (up pu (N.ot k) (f' k)):=by
 refine⟨fun w n e=>?_,fun p k' h0 hs hc=>?_,fun w hw=>?_⟩
 .by_cases c:w=N.ot k
  .subst c
   rw[fR] at e
   cases e
   refine⟨hk,O,?_⟩
   rw[fR]
   have:=yq s (N.on k)
   unfold Vl at this ⊢
   lia
  .rw[eM _ _ c] at e
   obtain⟨a1,a2,a3⟩:=f.a w n e
   refine⟨a1,a2,?_⟩
   rw[eM _ _ c]
   have:=yq s (N.on n)
   lia
 .have old:∀ i,i<k'→∃ n,up pu (N.ot k) (f' k) (U' (bk N (up pu (N.ot k) (f' k))) i p)=f' n∧P (U' (bk N (up pu (N.ot k) (f' k))) i p)≤P (N.on n)+N.le n:=fun i hi=>by
   obtain⟨n,e⟩:=Xp.mp (hs i hi)
   refine⟨n,e,?_⟩
   generalize U' (bk N (up pu (N.ot k) (f' k))) i p=w at e
   by_cases c:w=N.ot k
   .subst c
    rw[fR] at e
    cases e
    unfold Vl at s
    lia
   .rw[eM _ _ c] at e
    exact(f.a w n e).2.2
  by_cases c:∃ j,j<k'∧U' (bk N (up pu (N.ot k) (f' k))) j p=N.ot k
  .obtain⟨j,hj,e⟩:=c
   have z:=EZ k' hj old ⟨k,by rw[e,fR],by
    rw[e]
    unfold Vl at s
    lia⟩
   rw[hc] at z
   lia
  .have ne:∀ i,i<k'→U' (bk N (up pu (N.ot k) (f' k))) i p≠N.ot k:=fun i hi e=>c ⟨i,hi,e⟩
   have same:∀ i,i≤k'→U' (bk N (up pu (N.ot k) (f' k))) i p=U' (bk N pu) i p∧ii N (up pu (N.ot k) (f' k)) p i=ii N pu p i:=fun i=>by
    induction i with
    | zero=>exact fun _=>⟨O,O⟩
    | succ i ih=>
     intro hi
     obtain⟨e1,e2⟩:=ih (by lia)
     have n1:=ne i (by lia)
     rw[e1] at n1
     constructor
     .show bk N (up pu (N.ot k) (f' k)) (U' (bk N (up pu (N.ot k) (f' k))) i p)=bk N pu (U' (bk N pu) i p)
      rw[e1]
      unfold bk at n1 ⊢
      rw[eM _ _ n1]
     .show ii N (up pu (N.ot k) (f' k)) p i+_=ii N pu p i+_
      rw[e1,e2,eM _ _ n1]
   rw[(same k' (Re _)).2]
   refine f.b p k' h0 (fun i hi=>?_) ?_
   .have:=hs i hi
    have n1:=ne i hi
    rw[(same i (by lia)).1] at this n1
    rw[eM _ _ n1] at this
    exact this
   .rw[← (same k' (Re _)).1]
    exact hc
 .by_cases c:w=N.ot k
  .subst c
   refine⟨k,fR _ _ _,?_⟩
   rw[fR]
   rcases h.e k (Re _) hk with q|q
   .omega
   .have:=Qei (N:=N) (k:=k) h.g (N.on k)
    lia
  .rw[eM _ _ c] at hw
   obtain⟨n,e1,e2⟩:=f.c w hw
   refine⟨n,by rw[eM _ _ c];exact e1,?_⟩
   rw[eM t r c]
   have:=Qei (N:=N) (k:=k) h.g (N.on n)
   lia
theorem Dv (s:Vl N P k<0) (n:Nat) (c:N.on n≠N.ot k):Vl N P n≤Vl N (up P (N.ot k) (P (N.ot k)+(0-Vl N P k))) n:=by
 have:=yq s (N.ot n)
 generalize e:Vl N P k=z at this s
 unfold Vl
 rw[eM _ _ c]
 lia
theorem O0 (h:Rd N t P r k) (s:Vl N P k<0):Rd N (up t (N.ot k) r) (up P (N.ot k) (P (N.ot k)+(0-Vl N P k))) r (k+1):=by
 refine⟨fun w=>?_,fun n h1 h2=>?_,fun n h1 h2=>?_⟩
 .unfold up
  split
  .exact Re _
  .exact h.g w
 .by_cases c:N.on n=N.ot k
  .right
   rw[c,fR]
   exact Re _
  .rcases Su n k with q|q
   .rcases h.d n q h2 with z|z
    .left
     have:=Dv s n c
     lia
    .right
     rw[eM _ _ c]
     exact z
   .obtain rfl:n=k:=by lia
    left
    have e:Vl N (up P (N.ot n) (P (N.ot n)+(0-Vl N P n))) n=0:=by
     generalize ez:Vl N P n=z
     unfold Vl at ez ⊢
     rw[eM _ _ c,fR]
     lia
    lia
 .by_cases c:N.on n=N.ot k
  .right
   rw[c,fR]
   lia
  .rcases h.e n (by lia) h2 with z|z
   .left
    have:=Dv s n c
    lia
   .right
    rw[eM _ _ c]
    exact z
theorem LF (ok:N.Ok) (f:Fi N t P pu){v:Nat} (ht:N.c≤t v) (hv:v<N.c):(∀ i,(pu (U' (bk N pu) i v)).isSome=B')∧∃ d,0<d∧d≤N.c∧U' (bk N pu) d (U' (bk N pu) N.c v)=U' (bk N pu) N.c v:=by
 have st:∀ w n,pu w=f' n→bk N pu w=N.on n:=fun w n e=>by unfold bk;rw[e]
 have tt:∀ i,i≤N.c→N.c≤t (U' (bk N pu) i v)+i:=fun i=>by
  induction i with
  | zero=>exact fun _=>ht
  | succ i ih=>
   intro hi
   have q:=ih (by lia)
   obtain⟨n,e1,e2⟩:=f.c _ (show 1≤t (U' (bk N pu) i v) by lia)
   show N.c≤t (bk N pu (U' (bk N pu) i v))+(i+1)
   rw[st _ _ e1]
   lia
 have pd:∀ i,i<N.c→∃ n,pu (U' (bk N pu) i v)=f' n:=fun i hi=>by
  have q:=tt i (by lia)
  obtain⟨n,e1,_⟩:=f.c _ (show 1≤t (U' (bk N pu) i v) by lia)
  exact⟨n,e1⟩
 have lt:∀ i,i≤N.c→U' (bk N pu) i v<N.c:=fun i hi=>by
  cases i with
  | zero=>exact hv
  | succ i=>
   obtain⟨n,e⟩:=pd i (by lia)
   show bk N pu (U' (bk N pu) i v)<N.c
   rw[st _ _ e]
   exact ok.on n (f.a _ _ e).1
 obtain⟨i,j,ij,jc,q⟩:=Ds N.c (fun i=>U' (bk N pu) i v) lt
 have q:U' (bk N pu) i v=U' (bk N pu) j v:=q
 have Ac:∀ s,j≤s→U' (bk N pu) s v=U' (bk N pu) (s-(j-i)) v:=fun s hs=>by
  have e1:s=j+(s-j):=by lia
  have e2:s-(j-i)=i+(s-j):=by lia
  rw[e2,so,q,← so,← e1]
 refine⟨fun s=>?_,j-i,by lia,by lia,?_⟩
 .induction s using QcI with
  | ind s ih=>
   by_cases c:s<N.c
   .obtain⟨n,e⟩:=pd s c
    rw[e]
    rfl
   .rw[Ac s (by lia)]
    exact ih _ (by lia)
 .rw[← so,Ac (N.c+(j-i)) (by lia)]
  congr 1
  lia
end
def sm (f:Nat→Int):Nat→Int
 | 0=>0
 | n+1=>sm f n+f n
def Arc (N:Wn) (P fl:Nat→Int) (q p n:Nat) (d:Int):Prop:=n<N.m∧((N.on n=q∧N.ot n=p∧d=Vl N P n)∨(N.ot n=q∧N.on n=p∧0<fl n∧d=0))
structure Ti (N:Wn) (P fl:Nat→Int):Prop where
 s:∀ n,n<N.m→0≤Vl N P n
 f:∀ n,n<N.m→0≤fl n
 t:∀ n,n<N.m→0<fl n→Vl N P n=0
structure Se (N:Wn) (P fl nd:Nat→Int) (gQ wt:Nat→Option Int) (cm:Nat→Option Nat) (rk:Nat→Nat) (size:Nat) (Lk:Nat→Nat→Int→Prop):Prop where
 dj:∀ p a,gQ p=f' a→wt p=i'
 lo:∀ p a q b,gQ p=f' a→wt q=f' b→a≤b
 nn:∀ p a,gQ p=f' a∨wt p=f' a→0≤a∧p<N.c
 ro:∀ p,p<N.c→nd p<0→(gQ p=f' 0∨wt p=f' 0)∧cm p=i'
 cb:∀ p a,gQ p=f' a∨wt p=f' a→¬ nd p<0→∃ n q d b,cm p=f' n∧Arc N P fl q p n d∧gQ q=f' b∧a=b+d∧q≠p∧(gQ p=f' a→rk q<rk p)
 ck:∀ p n,cm p=f' n→∃ a,gQ p=f' a∨wt p=f' a
 rk:∀ p a,gQ p=f' a→rk p<size
 ar:∀ q n d p a,Arc N P fl q p n d→Lk q n d→gQ q=f' a→∃ b,(gQ p=f' b∨wt p=f' b)∧b≤a+d
section
variable {N:Wn}{gQ wt:Nat→Option Int}
def mv (P:Nat→Int) (gQ:Nat→Option Int) (D:Int) (p:Nat):Int:=match gQ p with
 | some b=>P p+(D-b)
 | none=>P p
end
def ac (N:Wn) (n p:Nat):Nat:=if N.ot n=p then N.on n else N.ot n
def bc (N:Wn) (cm:Nat→Option Nat) (p:Nat):Nat:=match cm p with
 | some n=>ac N n p
 | none=>p
section
variable {N:Wn}{gQ wt:Nat→Option Int}
def cn (cm:Nat→Option Nat) (p:Nat):Nat:=(cm p).getD 0
theorem zS (h:(cm p).isSome=B'):cm p=f' (cn cm p):=by
 obtain⟨n,e⟩:=Xp.mp h
 unfold cn
 rw[e]
 rfl
def fs (N:Wn) (cm:Nat→Option Nat) (x:Nat) (am:Int) (fl:Nat→Int):Nat→Nat→Int
 | 0=>fl
 | i+1=>up (fs N cm x am fl i) (cn cm (U' (bc N cm) i x)) (fs N cm x am fl i (cn cm (U' (bc N cm) i x))+(if N.ot (cn cm (U' (bc N cm) i x))=U' (bc N cm) i x then am else 0-am))
end
def need (N:Wn) (nd:Nat→Int):Nat:=(sm (fun p=>max (nd p) 0) N.c).toNat
abbrev Vc:=List (Key×V)
abbrev Wt:=Nat×Nat×Int×Int
def wn (ws:List Wt) (c:Nat):Wn:=⟨c,ws.length,fun n=>(ws.getD n (0,0,0,0)).1,fun n=>(ws.getD n (0,0,0,0)).2.1,fun n=>(ws.getD n (0,0,0,0)).2.2.1⟩
def fn (l:List Int) (i:Nat):Int:=l.getD i 0
structure LR where
 o:F'
 t:F'
 l:F'
 p:F'
 f:F'
 n:F'
 g:F'
 c:F'
def bW (r:LR):List (C'×V):=[("ones",.ref r.o),("others",.ref r.t),("leasts",.ref r.l),("places",.ref r.p),("flow",.ref r.f),("needs",.ref r.n),("going",.ref r.g),("coming",.ref r.c)]
theorem Wu {r:List (C'×V)}:(((a,v)::r):List (C'×V)).lookup a=f' v:=by
 rw[Sc,ZK]
theorem Vr {r:List (C'×V)} (h:(a == b)=K'):(((b,v)::r):List (C'×V)).lookup a=r.lookup a:=by
 rw[Sc,h]
theorem tL {r:LR}:(bW r).lookup ("ones":C')=f' (.ref r.o):=Wu
theorem Fn {r:LR}:(bW r).lookup ("others":C')=f' (.ref r.t):=(Vr (by decide +kernel)).trans Wu
theorem Kc {r:LR}:(bW r).lookup ("leasts":C')=f' (.ref r.l):=(Vr (by decide +kernel)).trans ((Vr (by decide +kernel)).trans Wu)
theorem oQ {r:LR}:(bW r).lookup ("places":C')=f' (.ref r.p):=(Vr (by decide +kernel)).trans ((Vr (by decide +kernel)).trans ((Vr (by decide +kernel)).trans Wu))
theorem B8 {r:LR}:(bW r).lookup ("flow":C')=f' (.ref r.f):=(Vr (by decide +kernel)).trans ((Vr (by decide +kernel)).trans ((Vr (by decide +kernel)).trans ((Vr (by decide +kernel)).trans Wu)))
theorem Nz {r:LR}:(bW r).lookup ("needs":C')=f' (.ref r.n):=(Vr (by decide +kernel)).trans ((Vr (by decide +kernel)).trans ((Vr (by decide +kernel)).trans ((Vr (by decide +kernel)).trans ((Vr (by decide +kernel)).trans Wu))))
theorem Qt {r:LR}:(bW r).lookup ("going":C')=f' (.ref r.g):=(Vr (by decide +kernel)).trans ((Vr (by decide +kernel)).trans ((Vr (by decide +kernel)).trans ((Vr (by decide +kernel)).trans ((Vr (by decide +kernel)).trans ((Vr (by decide +kernel)).trans Wu)))))
theorem Ot {r:LR}:(bW r).lookup ("coming":C')=f' (.ref r.c):=(Vr (by decide +kernel)).trans ((Vr (by decide +kernel)).trans ((Vr (by decide +kernel)).trans ((Vr (by decide +kernel)).trans ((Vr (by decide +kernel)).trans ((Vr (by decide +kernel)).trans ((Vr (by decide +kernel)).trans Wu))))))
def Nq (r:LR) (a:F'):Prop:=a≠r.p∧a≠r.f∧a≠r.n
def goN (ws:List Wt) (i:Nat):List Nat:=(VO ws.length).filter fun n=>decide ((ws.getD n (0,0,0,0)).1=i)
def coN (ws:List Wt) (i:Nat):List Nat:=(VO ws.length).filter fun n=>decide ((ws.getD n (0,0,0,0)).2.1=i)
def nums (l:List Nat):List V:=l.map fun n=>V.int (n:Nat)
structure ik (C:F') (H:Hp) (q:F') (r:LR) (ws:List Wt) (cnt:Nat):Prop where
 ex:∃ dx,H q=f' (.ins C dx (bW r))
 ho:H r.o=f' (.lst (ws.map fun w=>V.int (w.1:Nat)))
 ht:H r.t=f' (.lst (ws.map fun w=>V.int (w.2.1:Nat)))
 hl:H r.l=f' (.lst (ws.map fun w=>V.int w.2.2.1))
 hg:∃ gs:List F',H r.g=f' (.lst (gs.map V.ref))∧gs.length=cnt∧∀ i a,gs[i]?=f' a→H a=f' (.lst (nums (goN ws i)))∧Nq r a
 hc:∃ gs:List F',H r.c=f' (.lst (gs.map V.ref))∧gs.length=cnt∧∀ i a,gs[i]?=f' a→H a=f' (.lst (nums (coN ws i)))∧Nq r a
 no:Nq r r.o
 nt:Nq r r.t
 nl:Nq r r.l
 ng:Nq r r.g
 nc:Nq r r.c
 nq:Nq r q
 pf:r.p≠r.f
 pn:r.p≠r.n
 fn:r.f≠r.n
def Kx (S:List F') (H H':Hp):Prop:=∀ b o,H b=f' o→b∉S→H' b=f' o
theorem Kx.of (e:ae H H'):Kx S H H':=fun b o h _=>e b o h
variable {C d dx q t:F'}{G G' H1 H2:Hp}{P:Vv}{a:Vm}{am l ls:List Int}{base:Vb}{f:Nat→List Nat}{gs:List F'}{j n v:Nat}{mg:C'→Option L'}{r:LR}{w:VA}{ws:List Wt}{x:V}{xs:List V}
theorem Kx.trans (a:Kx S H H1) (b:Kx S H1 H2):Kx S H H2:=fun c o h z=>b c o (a c o h z) z
theorem Kx.upd {S:List F'}{H:Hp}{a:F'}{o:HO} (h:a∈S):Kx S H (L2.upd H a o):=fun b u e z=>by
 rw[aj (fun y=>z (by rw[y];exact h))]
 exact e
def Dc (H:Hp) (a:F'):Prop:=∃ kvs,H a=f' (.dK kvs)
theorem ik.kx {cnt:Nat} (h:ik C H q r ws cnt) (k:Kx S H H') (hs:∀ a∈S,a=r.p∨a=r.f∨a=r.n∨Dc H a):ik C H' q r ws cnt:=by
 have lst:∀ a xs,H a=f' (.lst xs)→Nq r a→H' a=f' (.lst xs):=fun a xs e n=>k a _ e fun z=>by
  rcases hs a z with y|y|y|⟨kvs,y⟩
  .exact n.1 y
  .exact n.2.1 y
  .exact n.2.2 y
  .rw[e] at y
   cases y
 obtain⟨dx,ex⟩:=h.ex
 obtain⟨gs,g1,g2,g3⟩:=h.hg
 obtain⟨cs,c1,c2,c3⟩:=h.hc
 refine⟨⟨dx,k _ _ ex fun z=>?_⟩,lst _ _ h.ho h.no,lst _ _ h.ht h.nt,lst _ _ h.hl h.nl,⟨gs,lst _ _ g1 h.ng,g2,fun i a e=>⟨lst _ _ (g3 i a e).1 (g3 i a e).2,(g3 i a e).2⟩⟩,⟨cs,lst _ _ c1 h.nc,c2,fun i a e=>⟨lst _ _ (c3 i a e).1 (c3 i a e).2,(c3 i a e).2⟩⟩,h.no,h.nt,h.nl,h.ng,h.nc,h.nq,h.pf,h.pn,h.fn⟩
 rcases hs q z with y|y|y|⟨kvs,y⟩
 .exact h.nq.1 y
 .exact h.nq.2.1 y
 .exact h.nq.2.2 y
 .rw[ex] at y
  cases y
theorem ik.same {cnt:Nat} (h:ik C H q r ws cnt) (e:ae H H'):ik C H' q r ws cnt:=by
 obtain⟨dx,ex⟩:=h.ex
 obtain⟨gs,g1,g2,g3⟩:=h.hg
 obtain⟨cs,c1,c2,c3⟩:=h.hc
 exact⟨⟨dx,e _ _ ex⟩,e _ _ h.ho,e _ _ h.ht,e _ _ h.hl,⟨gs,e _ _ g1,g2,fun i a q=>⟨e _ _ (g3 i a q).1,(g3 i a q).2⟩⟩,⟨cs,e _ _ c1,c2,fun i a q=>⟨e _ _ (c3 i a q).1,(c3 i a q).2⟩⟩,h.no,h.nt,h.nl,h.ng,h.nc,h.nq,h.pf,h.pn,h.fn⟩
theorem Qej (h:i<l.length):VH (l.map V.int) (i:Int)=f' (.int (fn l i)):=by
 rw[jH (by lia),RA,RD,Rm h]
 unfold fn
 rw[Rr,Rm h]
 rfl
theorem tP (f:Wt→V) (h:n<ws.length):VH (ws.map f) (n:Int)=f' (f (ws.getD n (0,0,0,0))):=by
 rw[jH (by lia),RA,RD,Rm h,Rr,Rm h]
 rfl
theorem Qm6 (h:i<l.length):(l.map V.int)[((i:Nat):Int).toNat]?=f' (.int (fn l i)):=by
 rw[RA,RD,Rm h]
 unfold fn
 rw[Rr,Rm h]
 rfl
theorem FR (kvs:Vc) (k:Key) (v:V):(cg kvs k v).length≤kvs.length+1:=by
 unfold cg
 split
 .rw[Q9]
  lia
 .rw[Ru]
  exact Re _
theorem Ev (h:i<l.length) (v:Int):fn (l.set i v)=up (fn l) i v:=by
 funext j
 show(l.set i v).getD j 0=if j=i then v else l.getD j 0
 rw[Rr,Rr,List.getElem?_set]
 by_cases c:i=j
 .subst c
  simp[h]
 .simp[c,US c]
section
variable {K:R'}
inductive Mp (C:F') (vs:List V) (H:Hp) (Q:VK) (bF:XK):Prop
 | mk (q r ws c p:_) (n:Nat) (_:vs=[.ref q,.int n]) (_:ik C H q r ws c) (_:H r.p=f' (.lst ((p:List Int).map V.int))) (_:p.length=c) (_:n<ws.length) (_:(wn ws c).Ok) (_:Q (.int (Vl (wn ws c) (fn p) n)) H)
theorem Oc (T:Tx K mg a):dI P w K mg base Vd 1 a.Layout "slack" ["self","number"] [] (Mp a.Layout):=T.Qb4.U8 fun f fd F=>by
 refine F.ok P2 (fun vs H Q E h=>?_) (fun ay A outer s H vs Q E hr h=>?_)
 .obtain⟨q,r,ws,c,p,n,rfl,_⟩:=h
  rfl
 .obtain⟨q,r,ws,c,p,n,rfl,L,hp,hc,hn,ok,k⟩:=h
  obtain⟨dx,ex⟩:=L.ex
  have o1:(ws.getD n (0,0,0,0)).1<p.length:=by rw[hc];exact ok.on n hn
  have o2:(ws.getD n (0,0,0,0)).2.1<p.length:=by rw[hc];exact ok.ot n hn
  refine⟨_,(ak (aM (bq jJ (bq jJ (aK bA (bw (pv 0) O) (aK bA (bw (pv 0) O) (pv 1) (fun _ _=>O)) (fun _ _=>O)) (aK bA (bw (pv 0) O) (aK bA (bw (pv 0) O) (pv 1) (fun _ _=>O)) (fun _ _=>O))) (aK bA (bw (pv 0) O) (pv 1) (fun _ _=>O))))),?_⟩
  exact⟨_,O,q,a.Layout,dx,_,_,O,ex,T.VN,T.YR,oQ,_,O,q,a.Layout,dx,_,_,O,ex,T.VN,T.QbX,Fn,_,O,r.t,_,_,_,O,O,P'.of L.ht,tP _ hn,r.p,_,_,_,O,O,P'.of hp,Qej o2,
   _,rfl,q,a.Layout,dx,_,_,rfl,ex,T.VN,T.YR,oQ,_,rfl,q,a.Layout,dx,_,_,rfl,ex,T.VN,T.Z9,tL,_,rfl,r.o,_,_,_,rfl,rfl,P'.of L.ho,tP _ hn,r.p,_,_,_,rfl,rfl,P'.of hp,Qej o1,_,_,rfl,rfl,
   _,rfl,q,a.Layout,dx,_,_,rfl,ex,T.VN,T.Qd0,Kc,_,rfl,r.l,_,_,_,rfl,rfl,P'.of L.hl,tP _ hn,_,_,rfl,rfl,k⟩
end
def zk:Option Nat→V
 | none=>.UU
 | some v=>.int (v:Nat)
def Vs (ws:List Wt) (c:Nat) (P:List Int) (kvs:Vc):Nat→List Int×Vc×Option Nat
 | 0=>(P,kvs,i')
 | k+1=>if Vl (wn ws c) (fn (Vs ws c P kvs k).1) k<0 then
   ((Vs ws c P kvs k).1.set ((wn ws c).ot k) (fn (Vs ws c P kvs k).1 ((wn ws c).ot k)+(0-Vl (wn ws c) (fn (Vs ws c P kvs k).1) k)),cg (Vs ws c P kvs k).2.1 (Va (((wn ws c).ot k:Nat):Int)) (.int (k:Nat)),f' ((wn ws c).ot k))
  else Vs ws c P kvs k
theorem uv (ws:List Wt) (c:Nat) (P:List Int) (kvs:Vc):∀ k,(Vs ws c P kvs k).1.length=P.length∧(Vs ws c P kvs k).2.1.length≤kvs.length+k
 | 0=>⟨O,Re _⟩
 | k+1=>by
  obtain⟨h1,h2⟩:=uv ws c P kvs k
  unfold Vs
  split
  .refine⟨by rw[Tb];exact h1,?_⟩
   have:=FR (Vs ws c P kvs k).2.1 (Va (((wn ws c).ot k:Nat):Int)) (.int (k:Nat))
   show(cg _ _ _).length≤_
   lia
  .exact⟨h1,by lia⟩
section
variable {K:R'}
inductive Qm7 (C:F') (vs:List V) (H:Hp) (Q:VK) (bF:XK):Prop
 | mk (q r ws c p d kvs:_) (_:vs=[.ref q,.ref d]) (_:ik C H q r ws c) (_:H r.p=f' (.lst ((p:List Int).map V.int))) (_:p.length=c) (_:(wn ws c).Ok) (_:ws.length≤1000) (_:H d=f' (.dK kvs)) (_:kvs.length≤100000) (_:∀ H',Kx [r.p,d] H H'→H' r.p=f' (.lst ((Vs ws c p kvs ws.length).1.map V.int))→H' d=f' (.dK (Vs ws c p kvs ws.length).2.1)→Q (zk (Vs ws c p kvs ws.length).2.2) H')
theorem NJ (T:Tx K mg a):Vj P w K mg base Vd 2 "push_once" ["layout","pushers"] [] (Qm7 a.Layout):=T.Qjo.U8 fun f fd F=>by
 have Qb4:=Oc (P:=P) (w:=w) (base:=base) T
 refine F.ok o8 (fun vs H Q E h=>?_) (fun ay A outer s H vs Q E hr h=>?_)
 .obtain⟨q,r,ws,c,p,d,kvs,rfl,_⟩:=h
  rfl
 .obtain⟨q,r,ws,c,p,d,kvs,rfl,L,hp,hc,ok,hw,hd,hk,k⟩:=h
  have wF:r.p≠d:=bN hp hd (by intro z;cases z)
  have pK:∀ G,Kx [r.p,d] H G→ik a.Layout G q r ws c:=fun G kx=>L.kx kx fun x hx=>by
   rcases RY.mp hx with z|z
   .exact .inl z
   .rw[Vh.mp z]
    exact .inr (.inr (.inr ⟨kvs,hd⟩))
  obtain⟨dx,ex⟩:=L.ex
  refine⟨_,(ao (aV (i:=2) o8.nd O (by first|exact UR rfl|exact UQ O) xJ)
   (ao (ej Wj rfl (tS rfl T.QaR (af (bw (pv 0) rfl) ai)) (kg rfl (bj (aF (i:=3) o8.nd O (by first|exact UR rfl|exact UQ O)) (bj (aF (i:=4) o8.nd O (by first|exact UR rfl|exact UQ O)) fj))) (ao (aV (i:=5) o8.nd O (by first|exact UR rfl|exact UQ O) (bq jJ au (yO (pv 0) T.VN Qb4 (hr.mono (by decide)) (af (pv 3) ai))))
   (ak (aT (bb rC (pv 5) au (aY _)) (ao (yu (bw (pv 0) rfl) (pv 4) zt (pv 5) Dq zF)
   (ao (rn (cM hr) (pv 1) (pv 4) (pv 3) rfl)
   (ak (aV (i:=2) o8.nd O (by first|exact UR rfl|exact UQ O) (pv 4))))) aP))))
   (ak (aM (pv 2))))),?_⟩
  refine⟨_,O,q,a.Layout,dx,_,_,O,ex,T.VN,T.QbX,Fn,r.t,O,⟨_,P'.of L.ht⟩,zJ (K:=K) (l:=r.t) (xs:=ws.map fun w=>V.int (w.2.1:Nat)) (fun i σ G=>∃ v3 v4 v5,σ=[f' (.ref q),f' (.ref d),f' (zk (Vs ws c p kvs i).2.2),v3,v4,v5]∧Kx [r.p,d] H G∧G r.p=f' (.lst ((Vs ws c p kvs i).1.map V.int))∧G d=f' (.dK (Vs ws c p kvs i).2.1))
   ⟨i',i',i',rfl,Kx.of (ae.refl _),hp,hd⟩ ?_ ?_ ?_⟩
  .rintro i σ G _ ⟨_,_,_,rfl,kx,_⟩
   exact P'.of (pK G kx).ht
  .rintro i x tt σ G hx nt ⟨v3,v4,v5,rfl,kx,hG,kH⟩
   have hi:i<ws.length:=by
    have:=(VJ.mp hx).1
    rw[Q9] at this
    exact this
   have BU:x=.int ((wn ws c).ot i:Nat):=by
    rw[RD,Rm hi] at hx
    have z:=VL hx
    rw[← z]
    show V.int ((ws[i].2.1:Nat):Int)=V.int (((ws.getD i (0,0,0,0)).2.1:Nat):Int)
    rw[Rr,Rm hi]
    rfl
   subst BU
   obtain⟨l1,l2⟩:=uv ws c p kvs i
   have oi:(wn ws c).ot i<c:=ok.ot i hi
   have s3:ae G (upd G tt (.tup [.int i,.int ((wn ws c).ot i:Nat)])):=ae.new nt
   have h3:upd G tt (.tup [.int i,.int ((wn ws c).ot i:Nat)]) tt=f' (.tup [.int i,.int ((wn ws c).ot i:Nat)]):=ag
   generalize upd G tt (.tup [.int i,.int ((wn ws c).ot i:Nat)])=G3 at s3 h3 ⊢
   have jQ:Kx [r.p,d] H G3:=kx.trans (Kx.of s3)
   have jS:=s3 _ _ hG
   have jR:=s3 _ _ kH
   have L3:=pK G3 jQ
   obtain⟨BY,Xy⟩:=L3.ex
   have st:Vs ws c p kvs (i+1)=if Vl (wn ws c) (fn (Vs ws c p kvs i).1) i<0 then
     ((Vs ws c p kvs i).1.set ((wn ws c).ot i) (fn (Vs ws c p kvs i).1 ((wn ws c).ot i)+(0-Vl (wn ws c) (fn (Vs ws c p kvs i).1) i)),cg (Vs ws c p kvs i).2.1 (Va (((wn ws c).ot i:Nat):Int)) (.int (i:Nat)),f' ((wn ws c).ot i))
    else Vs ws c p kvs i:=rfl
   rw[st]
   generalize Vs ws c p kvs i=now at jS jR l1 l2 st ⊢
   refine⟨tt,_,O,U4.of h3,O,_,_,O,_,_,O,O,?_⟩
   refine⟨_,O,q,BY,_,O,Xy,by rfl,_,O,q,r,ws,c,now.1,i,O,L3,jS,by lia,hi,ok,_,_,O,O,?_⟩
   refine⟨_,O,_,_,O,O,_,O,?_⟩
   refine bg (fun c1=>?_) (fun c1=>?_)
   .have c2:Vl (wn ws c) (fn now.1) i<0:=by have:=RB c1;lia
    rw[UN c2]
    have HS:(wn ws c).ot i<now.1.length:=by lia
    refine⟨_,O,q,a.Layout,BY,_,_,O,Xy,T.VN,T.YR,oQ,_,O,r.p,_,_,_,O,O,P'.of jS,by lia,Qm6 HS,_,O,_,_,O,O,r.p,_,_,_,O,O,jS,yX (by lia) (by rw[Q9];lia),?_⟩
    rw[RA,← UC]
    have kO:Kx [r.p,d] H (upd G3 r.p (.lst ((now.1.set ((wn ws c).ot i) (fn now.1 ((wn ws c).ot i)+(0-Vl (wn ws c) (fn now.1) i))).map V.int))):=jQ.trans (Kx.upd (by simp))
    have h4:upd G3 r.p (.lst ((now.1.set ((wn ws c).ot i) (fn now.1 ((wn ws c).ot i)+(0-Vl (wn ws c) (fn now.1) i))).map V.int)) r.p=f' (.lst ((now.1.set ((wn ws c).ot i) (fn now.1 ((wn ws c).ot i)+(0-Vl (wn ws c) (fn now.1) i))).map V.int)):=ag
    have h5:upd G3 r.p (.lst ((now.1.set ((wn ws c).ot i) (fn now.1 ((wn ws c).ot i)+(0-Vl (wn ws c) (fn now.1) i))).map V.int)) d=f' (.dK now.2.1):=by rw[aj (US wF)];exact jR
    refine⟨_,O,_,O,_,O,d,_,O,.inl ⟨now.2.1,Va (((wn ws c).ot i:Nat):Int),h5,O,by rw[Rh];lia,O⟩,?_⟩
    refine⟨_,O,_,_,_,O,kO.trans (Kx.upd (by simp)),?_,ag⟩
    rw[aj wF]
    exact h4
   .have c2:¬ Vl (wn ws c) (fn now.1) i<0:=by have:=RM c1;lia
    rw[UL c2]
    exact⟨_,_,_,O,jQ,jS,jR⟩
  .rintro σ G ⟨v3,v4,v5,rfl,kx,hG,kH⟩
   rw[Q9] at hG kH ⊢
   exact⟨_,O,k G kx hG kH⟩
end
def ji (kvs:Vc) (pu:Nat→Option Nat):Prop:=∀ v:Nat,a8 kvs (Va (v:Int))=(pu v).map fun n=>V.int (n:Nat)
theorem ji.nil:ji [] (fun _=>i'):=fun _=>rfl
theorem ji.put {kvs:Vc} (h:ji kvs pu) (v n:Nat):ji (cg kvs (Va (v:Int)) (.int (n:Nat))) (up pu v (f' n)):=fun u=>by
 rw[uf]
 by_cases c:u=v
 .subst c
  rw[UN rfl,fR]
  rfl
 .rw[UL (fun z=>c (by injection z with z;exact Qbh z)),eM _ _ c]
  exact h u
theorem ji.QaT {kvs:Vc} (h:ji kvs pu) (hd:H d=f' (.dK kvs)) (e:pu v=f' n):ci H d (.int (v:Nat)) (f' (.int (n:Nat))):=.inl ⟨kvs,Va (v:Int),.inl hd,O,by rw[h v,e];rfl⟩
theorem Ck {ws:List Wt}{c:Nat}{P:List Int}{kvs:Vc}{t:Nat→Nat}{pu:Nat→Option Nat}{r:Nat} (hc:P.length=c) (ok:(wn ws c).Ok) (hp:ji kvs pu) (f:Fi (wn ws c) t (fn P) pu) (h:Rd (wn ws c) t (fn P) r 0):∀ k,k≤ws.length →
  ∃ t' mV,ji (Vs ws c P kvs k).2.1 mV∧Fi (wn ws c) t' (fn (Vs ws c P kvs k).1) mV∧Rd (wn ws c) t' (fn (Vs ws c P kvs k).1) r k∧((Vs ws c P kvs k).2.2=i'→Vs ws c P kvs k=(P,kvs,i')∧∀ n,n<k→0≤Vl (wn ws c) (fn P) n)∧∀ v,(Vs ws c P kvs k).2.2=f' v→r≤t' v∧v<c
 | 0,_=>⟨t,pu,hp,f,h,fun _=>⟨O,fun n hn=>UX hn (Sm _)⟩,fun v e=>by cases e⟩
 | k+1,hk=>by
  obtain⟨t',mV,i1,i2,i3,i4,i5⟩:=Ck hc ok hp f h k (by lia)
  have l1:=(uv ws c P kvs k).1
  have oi:(wn ws c).ot k<c:=ok.ot k (by show k<ws.length;lia)
  unfold Vs
  by_cases s:Vl (wn ws c) (fn (Vs ws c P kvs k).1) k<0
  .rw[UN s]
   refine⟨up t' ((wn ws c).ot k) r,up mV ((wn ws c).ot k) (f' k),i1.put _ _,?_,?_,fun e=>(by cases e),fun v e=>?_⟩
   .show Fi _ _ (fn ((Vs ws c P kvs k).1.set _ _)) _
    rw[Ev (by lia)]
    exact MM i2 i3 (by show k<ws.length;lia) s
   .show Rd _ _ (fn ((Vs ws c P kvs k).1.set _ _)) _ _
    rw[Ev (by lia)]
    exact O0 i3 s
   .obtain rfl:(wn ws c).ot k=v:=VL e
    rw[fR]
    exact⟨Re _,oi⟩
  .rw[UL s]
   refine⟨t',mV,i1,i2,i3.skip (by lia),fun e=>?_,i5⟩
   obtain⟨e1,e2⟩:=i4 e
   refine⟨e1,fun n hn=>?_⟩
   rcases Su n k with z|z
   .exact e2 n z
   .obtain rfl:n=k:=by lia
    rw[e1] at s
    exact Int.not_lt.mp s
def Zu (N:Wn) (pu:Nat→Option Nat) (p:Nat):Nat→List Nat
 | 0=>[]
 | k+1=>cn pu (U' (bk N pu) k p)::Zu N pu p k
theorem yF (N:Wn) (pu:Nat→Option Nat) (p:Nat):∀ k,(Zu N pu p k).length=k
 | 0=>rfl
 | k+1=>by
  show(Zu N pu p k).length+1=k+1
  rw[yF N pu p k]
structure uu (N:Wn) (ring:List Nat):Prop where
 XE:∃ P t pu p k,Fi N t P pu∧p<N.c∧(∀ i,(pu (U' (bk N pu) i p)).isSome=B')∧ring=Zu N pu p (k+1)∧U' (bk N pu) (k+1) p=p∧∀ s,1≤s→s≤k→U' (bk N pu) s p≠p
theorem xW {N:Wn} (h:(pu v).isSome=B'):bk N pu v=N.on (cn pu v):=by
 unfold bk
 rw[zS h]
theorem at0:VH (x::xs) 0=f' x:=by
 rw[show(0:Int)=((0:Nat):Int) from rfl,jH (by lia)]
 rfl
section
variable {K:R'}
inductive Qm8 (C:F') (vs:List V) (H:Hp) (Q:VK) (bF:XK):Prop
 | mk (q r ws c p d kvs t pu:_) (v:Nat) (_:vs=[.ref q,.ref d,.int v]) (_:ik C H q r ws c) (_:H r.p=f' (.lst ((p:List Int).map V.int))) (_:p.length=c) (_:(wn ws c).Ok) (_:c≤1000) (_:H d=f' (.dK kvs)) (_:ji kvs pu) (_:Fi (wn ws c) t (fn p) pu) (_:c≤t v) (_:v<c) (_:∀ g ring H',ae H H'→H' g=f' (.lst (nums ring))→H g=i'→uu (wn ws c) ring→ring.length≤c+1→Q (.ref g) H')
theorem P8 (T:Tx K mg a):Vj P w K mg base Vd 2 "ring_behind" ["layout","pushers","point"] [] (Qm8 a.Layout):=T.Qjp.U8 fun f fd F=>by
 refine F.ok uM (fun vs H Q E h=>?_) (fun ay A outer s H vs Q E hr h=>?_)
 .obtain⟨q,r,ws,c,p,d,kvs,t,pu,v,rfl,_⟩:=h
  rfl
 .obtain⟨q,r,ws,c,p,d,kvs,t,pu,v,rfl,L,hp,hc,ok,QY,hd,Jo,fi,ht,hv,k⟩:=h
  obtain⟨all,dd,wR,Be,cV⟩:=LF ok fi ht hv
  have Be:dd≤c:=Be
  have num:∀ x,(pu x).isSome=B'→cn pu x<ws.length:=fun x e=>(fi.a x _ (zS e)).1
  obtain⟨dx,ex⟩:=L.ex
  have dg:∀ G,ae H G→∀ x,(pu x).isSome=B'→ci G d (.int (x:Nat)) (f' (.int (cn pu x:Nat))):=fun G sg x e=>Jo.QaT (sg _ _ hd) (zS e)
  have one:∀ G,ae H G→∀ x,(pu x).isSome=B'→P' K G r.o (ws.map fun w=>V.int (w.1:Nat))∧VH (ws.map fun w=>V.int (w.1:Nat)) ((cn pu x:Nat):Int)=f' (.int (bk (wn ws c) pu x:Nat)):=fun G sg x e=>⟨P'.of (sg _ _ L.ho),by rw[tP _ (num x e),xW e];rfl⟩
  refine⟨_,(ao (ej Wj O (bV (bw (pv 0) O)) (aF (i:=3) uM.nd O (by first|exact UR rfl|exact UQ O)) (ak (aV (i:=2) uM.nd O (by first|exact UR rfl|exact UQ O) (aK bA (bw (pv 0) O) (fY (cM hr) (pv 1) (pv 2) (fun _ _=>O)) (fun _ _=>O)))))
   (ao (aV (i:=4) uM.nd O (by first|exact UR rfl|exact UQ O) (bY (af (fY (cM hr) (pv 1) (pv 2) (fun _ _=>O)) ai)))
   (ao (uo Wj (bb nG (aK bA (bw (pv 0) rfl) (aK bA (pv 4) au (fun _ _=>O)) (fun _ _=>O)) (pv 2) (aY _)) (ak (bo (eA Wa QcA QeH EA (pv 4) (af au (af (fY (cM hr) (pv 1) (aK bA (bw (pv 0) O) (aK bA (pv 4) au (fun _ _=>O)) (fun _ _=>O)) (fun _ _=>O)) ai))))))
   (ak (aM (pv 4)))))),?_⟩
  refine⟨_,O,q,a.Layout,dx,_,_,O,ex,T.VN,T.YR,oQ,r.p,O,⟨_,P'.of hp⟩,iN (K:=K) (a:=r.p) (xs:=p.map V.int) (fun i σ G=>∃ v3,σ=[f' (.ref q),f' (.ref d),f' (.int (U' (bk (wn ws c) pu) i v:Nat)),v3,i']∧ae H G)
   ⟨i',rfl,ae.refl _⟩ ?_ ?_ ?_⟩
  .rintro i σ G _ ⟨_,rfl,sg⟩
   exact P'.of (sg _ _ hp)
  .rintro i x σ G hx ⟨v3,rfl,sg⟩
   have o:=one G sg _ (all i)
   dsimp only[bM]
   exact⟨_,O,q,a.Layout,dx,_,_,O,sg _ _ ex,T.VN,T.Z9,tL,_,O,_,O,d,_,O,dg G sg _ (all i),r.o,_,_,_,O,O,o.1,o.2,_,O,sg⟩
  .rintro σ G ⟨v3,rfl,sg⟩
   rw[Q9,hc]
   have al:∀ i,(pu (U' (bk (wn ws c) pu) i (U' (bk (wn ws c) pu) c v))).isSome=B':=fun i=>by rw[← so];exact all _
   have sS:(wn ws c).c=c:=rfl
   rw[sS] at cV
   generalize IS:U' (bk (wn ws c) pu) c v=x0 at al cV
   have Gu:x0<c:=by
    rw[← IS]
    cases c with
    | zero=>exact UX hv (Sm _)
    | succ c'=>
     have e:U' (bk (wn ws (c'+1)) pu) (c'+1) v=(wn ws (c'+1)).on (cn pu (U' (bk (wn ws (c'+1)) pu) c' v)):=xW (all c')
     rw[e]
     exact ok.on _ (num _ (all c'))
   refine⟨_,O,_,O,d,_,O,dg G sg _ (al 0),(by show 1≤S';decide),fun g ng=>?_⟩
   have s1:ae G (upd G g (.lst [.int (cn pu x0:Nat)])):=ae.new ng
   have h1:upd G g (.lst [.int (cn pu x0:Nat)]) g=f' (.lst [.int (cn pu x0:Nat)]):=ag
   have mY:H g=i':=none_of sg ng
   generalize upd G g (.lst [.int (cn pu x0:Nat)])=H1 at s1 h1 ⊢
   refine⟨fun m σ H'=>∃ j,m=dd-(j+1)∧j<dd∧σ=[f' (.ref q),f' (.ref d),f' (.int (x0:Nat)),v3,f' (.ref g)]∧ae H H'∧H' g=f' (.lst (nums (Zu (wn ws c) pu x0 (j+1))))∧∀ s,1≤s→s≤j→U' (bk (wn ws c) pu) s x0≠x0,
    ⟨_,0,rfl,wR,rfl,sg.trans s1,h1,fun s h1 h2=>UX h1 (by lia)⟩,?_⟩
   rintro m σ H2 ⟨j,rfl,jd,rfl,s2,mB,ne⟩
   have o:=one H2 s2 _ (al j)
   refine⟨_,O,q,a.Layout,dx,_,_,O,s2 _ _ ex,T.VN,T.Z9,tL,_,O,g,_,_,_,O,O,P'.of mB,at0,r.o,_,_,_,O,O,o.1,o.2,_,O,O,_,O,?_⟩
   have e1:bk (wn ws c) pu (U' (bk (wn ws c) pu) j x0)=U' (bk (wn ws c) pu) (j+1) x0:=rfl
   refine bg (fun c1=>?_) (fun c1=>?_)
   .have n1:U' (bk (wn ws c) pu) (j+1) x0≠x0:=fun z=>by
     rw[e1,z,Rp rfl] at c1
     cases c1
    have GX:j+1<dd:=by
     rcases Su (j+1) dd with z|z
     .exact z
     .exact UX (by rw[show j+1=dd by lia];exact cV) n1
    refine⟨_,fun σ' H' h=>h,?_⟩
    have len:=yF (wn ws c) pu x0 (j+1)
    have lz:(nums (Zu (wn ws c) pu x0 (j+1))).length=j+1:=by unfold nums;rw[Q9,len]
    refine⟨_,O,.inl ⟨O,_,P'.of mB⟩,_,O,_,O,q,a.Layout,dx,_,_,O,s2 _ _ ex,T.VN,T.Z9,tL,_,O,g,_,_,_,O,O,P'.of mB,at0,r.o,_,_,_,O,O,o.1,o.2,d,_,O,dg H2 s2 _ (al (j+1)),g,_,0,_,O,O,mB,by lia,by lia,?_,?_⟩
    .rw[lz,Rh]
     lia
    .exact⟨dd-(j+1+1),by lia,j+1,O,GX,O,du mY s2,ag,fun s h1 h2=>by
      rcases Su s (j+1) with z|z
      .exact ne s h1 (by lia)
      .rw[show s=j+1 by lia]
       exact n1⟩
   .have e2:U' (bk (wn ws c) pu) (j+1) x0=x0:=by
     by_cases z:U' (bk (wn ws c) pu) (j+1) x0=x0
     .exact z
     .rw[e1,Ry (fun y=>z (by injection y with y;exact Qbh y))] at c1
      cases c1
    exact⟨_,O,k g _ H2 s2 mB mY ⟨_,t,pu,x0,j,fi,Gu,al,O,e2,ne⟩ (by rw[yF];lia)⟩
end
def VF (ws:List Wt) (c:Nat) (P:List Int):Nat→List Int×Vc×Option Nat
 | 0=>(P,[],i')
 | j+1=>Vs ws c (VF ws c P j).1 (VF ws c P j).2.1 ws.length
def pC (ws:List Wt) (c:Nat):List Int:=(VF ws c (U5 c 0) c).1
theorem Da {ws:List Wt}{c:Nat}{P:List Int}{kvs:Vc} (h:∀ n,n<ws.length→0≤Vl (wn ws c) (fn P) n):∀ k,k≤ws.length→Vs ws c P kvs k=(P,kvs,i')
 | 0,_=>rfl
 | k+1,hk=>by
  have ih:=Da h (kvs:=kvs) k (by lia)
  unfold Vs
  rw[ih,UL (by have:=h k (by lia);show ¬ Vl (wn ws c) (fn P) k<0;lia)]
theorem ye {ws:List Wt}{c:Nat}{P:List Int}{j:Nat} (h:∀ n,n<ws.length→0≤Vl (wn ws c) (fn (VF ws c P j).1) n):∀ i,(VF ws c P (j+i)).1=(VF ws c P j).1
 | 0=>rfl
 | i+1=>by
  have ih:=ye h i
  show(Vs ws c (VF ws c P (j+i)).1 (VF ws c P (j+i)).2.1 ws.length).1=_
  rw[ih,Da h _ (Re _)]
theorem tM (ws:List Wt) (c:Nat) (P:List Int):∀ j,(VF ws c P j).1.length=P.length∧(VF ws c P j).2.1.length≤j*ws.length
 | 0=>⟨O,R6 _⟩
 | j+1=>by
  obtain⟨h1,h2⟩:=tM ws c P j
  obtain⟨h3,h4⟩:=uv ws c (VF ws c P j).1 (VF ws c P j).2.1 ws.length
  refine⟨h3.trans h1,RZ h4 ?_⟩
  rw[Qgf]
  lia
theorem PN (c:Nat):fn (U5 c 0)=fun _=>0:=by
 funext i
 unfold fn
 rw[Rr,Uc]
 split<;>rfl
def nI (ws:List Wt) (c:Nat) (i:Nat):Prop:=∃ t pu,ji (VF ws c (U5 c 0) i).2.1 pu∧Fi (wn ws c) t (fn (VF ws c (U5 c 0) i).1) pu∧Rd (wn ws c) t (fn (VF ws c (U5 c 0) i).1) (i+1) 0∧∀ v,(VF ws c (U5 c 0) i).2.2=f' v→i≤t v∧v<c
theorem nI.start (ws:List Wt) (c:Nat):nI ws c 0:=by
 refine⟨fun _=>0,fun _=>i',ji.nil,?_,?_,fun v e=>by cases e⟩
 .show Fi _ _ (fn (U5 c 0)) _
  rw[PN]
  exact Fi.start _
 .exact Rd.start _ _
theorem nI.next {ws:List Wt}{c i:Nat} (ok:(wn ws c).Ok) (h:nI ws c i):nI ws c (i+1)∧((VF ws c (U5 c 0) (i+1)).2.2=i'→(VF ws c (U5 c 0) (i+1)).1=(VF ws c (U5 c 0) i).1∧∀ n,n<ws.length→0≤Vl (wn ws c) (fn (VF ws c (U5 c 0) i).1) n):=by
 obtain⟨t,pu,h1,h2,h3,_⟩:=h
 have hl:(VF ws c (U5 c 0) i).1.length=c:=by rw[(tM ws c _ i).1,R7]
 obtain⟨t',mV,i1,i2,i3,i4,i5⟩:=Ck hl ok h1 h2 h3 ws.length (Re _)
 refine⟨⟨t',mV,i1,i2,Rd.next i3,i5⟩,fun e=>?_⟩
 obtain⟨e1,e2⟩:=i4 e
 refine⟨?_,e2⟩
 show(Vs ws c (VF ws c (U5 c 0) i).1 (VF ws c (U5 c 0) i).2.1 ws.length).1=_
 rw[e1]
section
variable {K:R'}
inductive P6 (C:F') (vs:List V) (H:Hp) (Q:VK) (bF:XK):Prop
 | mk (x t g ys:_) (_:vs=[.ref x,.ref g]) (_:H x=f' (cz C t x i')) (_:H g=f' (.lst ys)) (_:∀ l,H l=i'→∀ dx,upd H l (.lst ys) dx=i'→Q .UU (upd (upd (upd H l (.lst ys)) dx (.xd [("ring",.ref l)])) x (cz C t x (f' dx))))
theorem Eh (T:Tx K mg a):lW P w K mg base Vd 1 a.Ring "Ring" ["self","ring"] (P6 a.Ring):=T.Qjd.U8 fun f fd F=>by
 refine F.ok Mo (fun vs H Q E h=>?_) (fun ay A outer s H vs Q E hr h=>?_)
 .obtain⟨x,t,g,ys,rfl,_⟩:=h
  rfl
 .obtain⟨x,t,g,ys,rfl,hx,hg,k⟩:=h
  refine⟨_,(ak (uj (pv 0) (mh B6 O T.QaS uw (af (pv 1) ai)) O)),?_⟩
  exact⟨_,O,g,_,O,.inl (P'.of hg),fun l nl=>⟨_,O,x,a.Ring,t,O,by rw[aj (aq hx nl)];exact hx,T.Qje,fun dx nd=>k l nl dx nd⟩⟩
inductive Qm9 (a:Vm) (vs:List V) (H:Hp) (Q:VK) (E:XK):Prop
 | mk (q r ws c:_) (_:vs=[.ref q]) (_:ik a.Layout H q r ws c) (_:H r.p=f' (.lst ((U5 c (0:Int)).map V.int))) (_:(wn ws c).Ok) (_:ws.length≤200) (_:c≤200) (_:((∀ n,n<ws.length→0≤Vl (wn ws c) (fn (pC ws c)) n)→(pC ws c).length=c→∀ H',Kx [r.p] H H'→H' r.p=f' (.lst ((pC ws c).map V.int))→Q .UU H')) (_:∀ ring l dx H',Kx [r.p] H H'→H' dx=f' (.xd [("ring",.ref l)])→H' l=f' (.lst (nums ring))→uu (wn ws c) ring→ring.length≤c+1→E (.ref a.Ring) (f' dx) H')
theorem Qna (T:Tx K mg a):Vj P w K mg base (Vt P w) 3 "fit" ["layout"] [] (Qm9 a):=T.Qjn.U8 fun f fd F=>by
 have fJ:=NJ (P:=P) (w:=w) (base:=base) T
 have d7:=P8 (P:=P) (w:=w) (base:=base) T
 have gG:=Eh (P:=P) (w:=w) (base:=base) T
 refine F.VZ oP (fun vs H Q E h=>?_) (fun ay A outer s H vs Q E hr h=>?_)
 .obtain⟨q,r,ws,c,rfl,_⟩:=h
  rfl
 .obtain⟨q,r,ws,c,rfl,L,hp,ok,hw,hc,k1,k2⟩:=h
  obtain⟨dx,ex⟩:=L.ex
  refine⟨_,(ao (aV (i:=1) oP.nd O (by first|exact UR rfl|exact UQ O) (bi fg O T.VW dr (af (bw (pv 0) O) ai)))
   (ao (aV (i:=2) oP.nd O (by first|exact UR rfl|exact UQ O) sr)
   (ao (aV (i:=3) oP.nd O (by first|exact UR rfl|exact UQ O) xJ)
   (ao (ej Y3 rfl (rm rfl T.Zt (af (pv 1) ai)) (aF (i:=4) oP.nd O (by first|exact UR rfl|exact UQ O)) (ao (aV (i:=3) oP.nd O (by first|exact UR rfl|exact UQ O) (bB fJ (hr.mono (by decide)) rfl (af (pv 0) (af (pv 2) ai))))
   (ak (aT (j9 (uP (pv 3))) (ak M6) aP))))
   (ak (aT (j9 (OO (pv 3))) (ak (j7 aU gG (hr.mono (by decide)) rfl (af (bB d7 (hr.mono (by decide)) rfl (af (pv 0) (af (pv 2) (af (pv 3) ai)))) ai))) aP)))))),?_⟩
  refine⟨_,O,q,a.Layout,dx,_,_,O,ex,T.VN,T.YR,oQ,r.p,_,O,.inl (P'.of hp),fun d nd=>?_⟩
  have lz:((U5 c (0:Int)).map V.int).length=c:=by rw[Q9,R7]
  have wF:r.p≠d:=aq hp nd
  have s1:ae H (upd H d (.dK [])):=ae.new nd
  have h1:upd H d (.dK []) d=f' (.dK []):=ag
  generalize upd H d (.dK [])=H1 at s1 h1 ⊢
  have L1:=L.same s1
  have pK:∀ G,Kx [r.p,d] H1 G→ik a.Layout G q r ws c:=fun G kx=>L1.kx kx fun x hx=>by
   rcases RY.mp hx with z|z
   .exact .inl z
   .rw[Vh.mp z]
    exact .inr (.inr (.inr ⟨[],h1⟩))
  have wg:∀ G,Kx [r.p,d] H1 G→Kx [r.p] H G:=fun G kx b o e z=>kx b o (s1 b o e) fun y=>by
   rcases RY.mp y with y|y
   .exact z (by rw[y];simp)
   .rw[Vh.mp y,nd] at e
    cases e
  rw[lz]
  refine⟨_,O,_,O,by lia,by lia,zp (lo:=0) (n:=((c:Nat):Int).toNat) (fun i σ G=>∃ v4,σ=[f' (.ref q),f' (.int (c:Nat)),f' (.ref d),f' (zk (VF ws c (U5 c 0) i).2.2),v4]∧nI ws c i∧Kx [r.p,d] H1 G∧G r.p=f' (.lst ((VF ws c (U5 c 0) i).1.map V.int))∧G d=f' (.dK (VF ws c (U5 c 0) i).2.1)∧(0<i→(VF ws c (U5 c 0) i).2.2≠i'))
   ⟨i',rfl,nI.start ws c,Kx.of (ae.refl _),s1 _ _ hp,h1,fun z=>UX z (RE _)⟩ ?_ ?_⟩
  .rintro i σ G hi ⟨v4,rfl,ro,kx,hG,kH,_⟩
   rw[RA] at hi
   obtain⟨l1,l2⟩:=tM ws c (U5 c 0) i
   rw[R7] at l1
   have l3:i*ws.length≤200*200:=Nat.mul_le_mul (by lia) hw
   dsimp only[bM]
   refine⟨_,O,_,O,q,r,ws,c,_,d,_,O,pK G kx,hG,l1,ok,by lia,kH,by lia,fun H2 tm h2 eS=>?_⟩
   obtain⟨ID,UU⟩:=ro.next ok
   have st:Vs ws c (VF ws c (U5 c 0) i).1 (VF ws c (U5 c 0) i).2.1 ws.length=VF ws c (U5 c 0) (i+1):=rfl
   rw[st] at h2 eS ⊢
   refine⟨_,O,_,O,?_⟩
   cases e:(VF ws c (U5 c 0) (i+1)).2.2 with
   | none=>
    refine ei ?_
    obtain⟨e1,e2⟩:=UU e
    have lT:=ye e2 (c-i)
    rw[show i+(c-i)=c by lia] at lT
    have fp:pC ws c=(VF ws c (U5 c 0) (i+1)).1:=lT.trans e1.symm
    refine k1 ?_ ?_ H2 (wg _ (kx.trans tm)) (by rw[fp];exact h2)
    .rw[fp,e1]
     exact e2
    .rw[fp,e1]
     exact l1
   | some v=>
    refine iM ?_
    exact⟨_,O,ID,kx.trans tm,h2,eS,fun _ z=>by cases z⟩
  .rintro σ G ⟨v4,rfl,ro,kx,hG,kH,ne⟩
   rw[RA] at ro hG kH ne ⊢
   obtain⟨l1,l2⟩:=tM ws c (U5 c 0) c
   rw[R7] at l1
   refine⟨_,O,_,O,?_⟩
   cases e:(VF ws c (U5 c 0) c).2.2 with
   | none=>
    refine iM ?_
    have c0:c=0:=by
     rcases Tg c with z|z
     .exact z
     .exact UX e (ne z)
    refine k1 (fun n hn=>?_) l1 G (wg _ kx) hG
    have z:(wn ws c).on n<c:=ok.on n hn
    lia
   | some v=>
    refine ei ?_
    obtain⟨t,pu,r1,r2,r3,r4⟩:=ro
    obtain⟨t1,t2⟩:=r4 v e
    refine⟨_,O,_,O,_,O,q,r,ws,c,_,d,_,t,pu,v,O,pK G kx,hG,l1,ok,by lia,kH,r1,r2,t1,t2,fun g ring H2 s2 hg ng XE len=>?_⟩
    refine⟨by show 1≤S';decide,fun x tk hx=>⟨x,tk,g,nums ring,O,ag,by rw[aj (aq hg hx)];exact hg,fun l nl d2 kJ=>⟨O,f' d2,ag,?_⟩⟩⟩
    have lx:l≠x:=fun z=>by rw[z,ag] at nl;cases nl
    have dl:d2≠l:=fun z=>by rw[z,ag] at kJ;cases kJ
    rw[aj dl] at kJ
    have Bo:d2≠x:=fun z=>by rw[z,ag] at kJ;cases kJ
    rw[aj Bo] at kJ
    rw[aj lx] at nl
    have e:del (upd (upd (upd (upd H2 x (cz a.Ring tk x i')) l (.lst (nums ring))) d2 (.xd [("ring",.ref l)])) x (cz a.Ring tk x (f' d2))) x=upd (upd H2 l (.lst (nums ring))) d2 (.xd [("ring",.ref l)]):=by
     funext b
     unfold del
     by_cases h1:b=x
     .subst h1
      rw[UN rfl,aj (US Bo),aj (US lx),hx]
     .rw[UL h1,aj h1]
      by_cases h2:b=d2
      .subst h2;rw[ag,ag]
      .rw[aj h2,aj h2]
       by_cases h3:b=l
       .subst h3;rw[ag,ag]
       .rw[aj h3,aj h1,aj h3]
    show E _ _ _
    rw[e]
    have sl:ae H2 (upd H2 l (.lst (nums ring))):=ae.new nl
    have xp:upd H2 l (.lst (nums ring)) d2=i':=by rw[aj dl];exact kJ
    have sd:ae (upd H2 l (.lst (nums ring))) (upd (upd H2 l (.lst (nums ring))) d2 (.xd [("ring",.ref l)])):=ae.new xp
    exact k2 ring l d2 _ ((wg _ kx).trans (Kx.of (s2.trans (sl.trans sd)))) ag (by rw[aj (US dl)];exact ag) XE len
end
abbrev Wi:=Int×Int×Int×Int
def wV (q:Wi):List V:=[.int q.1,.int q.2.1,.int q.2.2.1,.int q.2.2.2]
def wD (q:Wi):Dt:=.tup [.int q.1,.int q.2.1,.int q.2.2.1,.int q.2.2.2]
section
variable {K:R'}
theorem Qnb {q:Wi} (h:U4 K H t (wV q)):VI K H (wD q) (.ref t):=⟨t,_,O,h,_,_,O,O,_,_,O,O,_,_,O,O,_,_,O,O,O⟩
theorem lV {q:Wi} (h:VI K H (wD q) x):∃ t,x=.ref t∧U4 K H t (wV q):=by
 obtain⟨t,xs,rfl,h1,y1,ww,rfl,rfl,y2,sW,rfl,rfl,y3,xj,rfl,rfl,y4,BQ,rfl,rfl,h2⟩:=h
 rw[show BQ=[] from h2] at h1
 exact⟨t,O,h1⟩
def il (K:R') (H:Hp) (l:F') (ws:List Wi):Prop:=∃ xs,P' K H l xs∧bv K H (ws.map wD) xs
theorem il.same {l:F'}{ws:List Wi} (h:il K H l ws) (s:ae H H'):il K H' l ws:=by
 obtain⟨xs,h1,h2⟩:=h
 exact⟨xs,s.Vk h1,s.Vf h2⟩
end
def diff (ps:List Int) (q:Wi):Int:=pz ps q.2.1-pz ps q.1
def keep (ps:List Int) (q:Wi):Bool:=decide (q.2.2.1≤diff ps q)
def zV (ws:List Wi) (ps:List Int):Int:=(ws.map fun q=>q.2.2.2*diff ps q).sum
def InR (n:Nat) (q:Wi):Prop:=(0≤q.1∧q.1<n)∧0≤q.2.1∧q.2.1<n
def Small (z:Int):Prop:=-(2 ^ 64)<z∧z<2 ^ 64
section
variable {K:R'}
def nU (c:Int) (ws:List Wi) (ps:List Int):Bool:=decide ((ps.length:Int)=c) && ws.all (keep ps)
inductive Qnc (K:R') (vs:List V) (H:Hp) (Q:VK) (bF:XK):Prop
 | mk (c l ws p ps:_) (_:vs=[.int c,.ref l,.ref p]) (_:il K H l ws) (_:P' K H p (ps.map V.int)) (_:ws.length≤1000) (_:((ps.length:Int)=c→∀ q∈ws,InR ps.length q)) (_:∀ H',ae H H'→Q (.bl (nU c ws ps)) H')
theorem LN (T:Tx K mg a):Vj P w K mg base Vd 1 "fits" ["count","wishes","places"] [] (Qnc K):=T.Qji.U8 fun f fd F=>by
 refine F.ok Po (fun vs H Q E h=>?_) (fun ay A outer s H vs Q E hr h=>?_)
 .obtain⟨c,l,ws,p,ps,rfl,_⟩:=h
  rfl
 .obtain⟨c,l,ws,p,ps,rfl,⟨xs,hl,hd⟩,hp,hk,cB,k⟩:=h
  have cP:ws.length=xs.length:=by rw[← hd.length,Q9]
  refine⟨_,(ao (aT (bb nG (bi fg O T.VW dr (af (pv 2) ai)) (pv 0) (aY _)) (ak (aM nC)) aP)
   (ak (aM (bi rA rfl T.Qad sj (af (cG (N:=["one","other","least","weight","places"]) (cap:=[i',i',i',i',f' 2]) O (cy (osc:=az zc) (XN:=["count","wishes","places"]) O O (by decide +kernel)) (bV (pv 1)) (fun cl C s H fp aa=>(kX (K:=K) (n:=4) O O (bj (aF (i:=0) (show(["one","other","least","weight","places"]:List C').Nodup by decide +kernel) rfl (by first|exact UR rfl|exact UQ O)) (bj (aF (i:=1) (show(["one","other","least","weight","places"]:List C').Nodup by decide +kernel) rfl (by first|exact UR rfl|exact UQ O)) (bj (aF (i:=2) (show(["one","other","least","weight","places"]:List C').Nodup by decide +kernel) rfl (by first|exact UR rfl|exact UQ O)) (bj (aF (i:=3) (show(["one","other","least","weight","places"]:List C').Nodup by decide +kernel) rfl (by first|exact UR rfl|exact UQ O)) fj)))))) (fun cl C s H fp aa=>cS) (fun cl C s H fp aa=>(kn oW (bq jJ (aK (uB (K:=K) O) (pv 4) (pv 1) (fun _ _=>O)) (aK (uB (K:=K) O) (pv 4) (pv 0) (fun _ _=>O))) (pv 2) (aY _)))) ai))))),?_⟩
  refine⟨_,O,p,_,O,.inl hp,_,O,O,_,O,?_⟩
  refine bg (fun c1=>?_) (fun c1=>?_)
  .have c2:¬ (ps.length:Int)=c:=by simpa using c1
   have k':=k H (ae.refl _)
   rw[show nU c ws ps=K' by unfold nU;rw[Ry c2];rfl] at k'
   exact k'
  .have c2:(ps.length:Int)=c:=by simpa using c1
   refine⟨_,O,l,O,⟨_,hl⟩,fun D hD=>?_⟩
   refine ft (K:=K) (a:=l) (xs:=xs) (fun i τ H'=>∃ v1 v2 v3 v4,τ=[v1,v2,v3,v4,f' (.ref p)]∧ae H H'∧H' D=f' (.lst (((ws.take i).map (keep ps)).map V.bl))) ⟨i',i',i',i',rfl,ae.new hD,ag⟩ ?_ ?_ ?_
   .rintro i τ H' _ ⟨v1,v2,v3,v4,rfl,sm,hy⟩
    exact sm.Vk hl
   .rintro i x τ H' hx ⟨v1,v2,v3,v4,rfl,sm,hy⟩
    obtain⟨q,hq,dq⟩:=gm hd hx
    obtain⟨t,rfl,h1⟩:=lV (sm.dt dq)
    obtain⟨⟨i1,i2⟩,i3,i4⟩:=cB c2 q (Rv hq)
    refine⟨t,_,O,h1,O,_,_,O,_,_,O,_,_,O,_,_,O,O,?_⟩
    dsimp only[dQ]
    rw[UN rfl]
    refine⟨_,O,_,O,p,_,_,_,O,O,sm.Vk hp,rO i3 i4,_,O,_,O,p,_,_,_,O,O,sm.Vk hp,rO i1 i2,_,_,O,O,_,O,_,_,O,O,_,hy,?_,_,_,_,_,O,?_,?_⟩
    .rw[Q9,Q9,Rs,Rh]
     lia
    .intro b u e
     rw[aj (aq e hD)]
     exact sm b u e
    .rw[ag,cJ hq,Rf,Rf]
     rfl
   .rintro τ H' ⟨v1,v2,v3,v4,rfl,sm,hy⟩
    refine⟨D,_,O,P'.of hy,?_⟩
    have k':=k H' sm
    rw[← cP,Rz]
    rw[show nU c ws ps=(ws.map (keep ps)).all id by unfold nU;rw[Rp c2,S4];rfl] at k'
    exact k'
inductive Ll (K:R') (vs:List V) (H:Hp) (Q:VK) (bF:XK):Prop
 | mk (l ws p ps:_) (_:vs=[.ref l,.ref p]) (_:il K H l ws) (_:P' K H p (ps.map V.int)) (_:ws.length≤1000) (_:(∀ q∈ws,InR ps.length q∧Small q.2.2.2)) (_:∀ H',ae H H'→Q (.int (zV ws ps)) H')
theorem Px (T:Tx K mg a):Vj P w K mg base Vd 1 "worth" ["wishes","places"] [] (Ll K):=T.Qjj.U8 fun f fd F=>by
 refine F.ok Pu (fun vs H Q E h=>?_) (fun ay A outer s H vs Q E hr h=>?_)
 .obtain⟨l,ws,p,ps,rfl,_⟩:=h
  rfl
 .obtain⟨l,ws,p,ps,rfl,⟨xs,hl,hd⟩,hp,hk,cB,k⟩:=h
  have cP:ws.length=xs.length:=by rw[← hd.length,Q9]
  refine⟨_,(ak (aM (bi Fk O T.Qeh Cm (af (cG (N:=["one","other","least","weight","places"]) (cap:=[i',i',i',i',f' 1]) O (cy (osc:=az yK) (XN:=["wishes","places"]) O O (by decide +kernel)) (bV (pv 0)) (fun cl C s H fp aa=>(kX (K:=K) (n:=4) O O (bj (aF (i:=0) (show(["one","other","least","weight","places"]:List C').Nodup by decide +kernel) rfl (by first|exact UR rfl|exact UQ O)) (bj (aF (i:=1) (show(["one","other","least","weight","places"]:List C').Nodup by decide +kernel) rfl (by first|exact UR rfl|exact UQ O)) (bj (aF (i:=2) (show(["one","other","least","weight","places"]:List C').Nodup by decide +kernel) rfl (by first|exact UR rfl|exact UQ O)) (bj (aF (i:=3) (show(["one","other","least","weight","places"]:List C').Nodup by decide +kernel) rfl (by first|exact UR rfl|exact UQ O)) fj)))))) (fun cl C s H fp aa=>cS) (fun cl C s H fp aa=>(bq rN (pv 3) (bq jJ (aK (uB (K:=K) O) (pv 4) (pv 1) (fun _ _=>O)) (aK (uB (K:=K) O) (pv 4) (pv 0) (fun _ _=>O)))))) ai)))),?_⟩
  refine⟨_,O,l,O,⟨_,hl⟩,fun D hD=>?_⟩
  refine ft (K:=K) (a:=l) (xs:=xs) (fun i τ H'=>∃ v1 v2 v3 v4,τ=[v1,v2,v3,v4,f' (.ref p)]∧ae H H'∧H' D=f' (.lst (((ws.take i).map fun q=>q.2.2.2*diff ps q).map V.int))) ⟨i',i',i',i',O,ae.new hD,ag⟩ ?_ ?_ ?_
  .rintro i τ H' _ ⟨v1,v2,v3,v4,rfl,sm,hy⟩
   exact sm.Vk hl
  .rintro i x τ H' hx ⟨v1,v2,v3,v4,rfl,sm,hy⟩
   obtain⟨q,hq,dq⟩:=gm hd hx
   obtain⟨t,rfl,h1⟩:=lV (sm.dt dq)
   obtain⟨⟨⟨i1,i2⟩,i3,i4⟩,hs⟩:=cB q (Rv hq)
   refine⟨t,_,O,h1,O,_,_,O,_,_,O,_,_,O,_,_,O,O,?_⟩
   dsimp only[dQ]
   rw[UN rfl]
   refine⟨_,O,_,O,_,O,p,_,_,_,O,O,sm.Vk hp,rO i3 i4,_,O,_,O,p,_,_,_,O,O,sm.Vk hp,rO i1 i2,_,_,O,O,_,_,O,O,.inl hs,_,hy,?_,_,_,_,_,O,?_,?_⟩
   .rw[Q9,Q9,Rs,Rh]
    lia
   .intro b u e
    rw[aj (aq e hD)]
    exact sm b u e
   .rw[ag,cJ hq,Rf,Rf]
    rfl
  .rintro τ H' ⟨v1,v2,v3,v4,rfl,sm,hy⟩
   refine⟨D,_,O,P'.of hy,?_⟩
   have k':=k H' sm
   rw[← cP,Rz]
   exact k'
end
def bL (ls:List Int) (p:Wi×Int):List Int:=(ls.set p.1.2.1.toNat (pz ls p.1.2.1+p.2)).set p.1.1.toNat (pz (ls.set p.1.2.1.toNat (pz ls p.1.2.1+p.2)) p.1.1-p.2)
def jM (n:Nat) (ws:List Wi) (am:List Int):List Int:=(ws.zip am).foldl bL (U5 n 0)
theorem MN (ls:List Int) (p:Wi×Int):(bL ls p).length=ls.length:=by
 unfold bL
 rw[Tb,Tb]
theorem Ec:∀ (ps:List (Wi×Int)) (ls:List Int),(ps.foldl bL ls).length=ls.length
 | [],_=>rfl
 | p::ps,ls=>by
  show(ps.foldl bL (bL ls p)).length=_
  rw[Ec ps,MN]
theorem FU {ws:List Wi}{q:Wi}{x:Int} (h1:ws[i]?=f' q) (h2:am[i]?=f' x):(ws.zip am)[i]?=f' (q,x):=by
 rw[Tc]
 exact⟨h1,h2⟩
theorem rT (h:(am.map V.int)[i]?=f' x):∃ z,am[i]?=f' z∧x=.int z:=by
 obtain⟨z,hz,rfl⟩:=Zw.mp ((RD (f:=V.int) (l:=am) (i:=i)).symm.trans h)
 exact⟨z,hz,O⟩
theorem Qek {k:Int} (h0:0≤k) (h1:k<ls.length):(ls.map V.int)[k.toNat]?=f' (.int (pz ls k)):=by
 rw[← jH h0]
 exact rO h0 h1
theorem tT (n:Nat):(U5 n [V.int 0]).flatten=(U5 n (0:Int)).map V.int:=by
 induction n with
 | zero=>rfl
 | succ n ih=>
  rw[Sn,SZ,ih,Sn,RS]
  rfl
theorem Cv:∀ xs ys:List Int,dO (xs.map Dt.int) (ys.map Dt.int)=decide (xs=ys)
 | [],[]=>rfl
 | [],_::_=>by simp[dO]
 | _::_,[]=>by simp[dO]
 | x::xs,y::ys=>by
  show(VT (.int x) (.int y) && dO (xs.map Dt.int) (ys.map Dt.int))=_
  rw[Cv xs ys]
  show((x == y) && decide (xs=ys))=_
  by_cases h1:x=y
  .subst h1
   simp
  .simp[h1]
section
variable {K:R'}
inductive Qnd (K:R') (vs:List V) (H:Hp) (Q:VK) (bF:XK):Prop
 | mk (n l ws p am:_) (_:vs=[.int n,.ref l,.ref p]) (_:il K H l ws) (_:P' K H p ((am:List Int).map V.int)) (_:am.length=ws.length) (_:0≤n) (_:n≤1000) (_:(∀ q∈ws,InR n.toNat q)) (_:∀ r H',ae H H'→H r=i'→H' r=f' (.lst ((jM n.toNat ws am).map V.int))→Q (.ref r) H')
theorem Ei (T:Tx K mg a):Vj P w K mg base Vd 1 "left_at_points" ["count","wishes","amounts"] [] (Qnd K):=T.Qjl.U8 fun f fd F=>by
 refine F.ok uz (fun vs H Q E h=>?_) (fun ay A outer s H vs Q E hr h=>?_)
 .obtain⟨n,l,ws,p,am,rfl,_⟩:=h
  rfl
 .obtain⟨n,l,ws,p,am,rfl,⟨xs,hl,hd⟩,hp,av,n0,n1,cB,k⟩:=h
  have cP:ws.length=xs.length:=by rw[← hd.length,Q9]
  refine⟨_,(ao (aV (i:=3) uz.nd O (by first|exact UR rfl|exact UQ O) (bq uy (bY (af au ai)) (pv 0)))
   (ao (ej Wj rfl (uE rfl T.Qae (af (pv 1) (af (pv 2) ai))) (kg rfl (bj (aF (i:=4) uz.nd O (by first|exact UR rfl|exact UQ O)) (bj (aF (i:=5) uz.nd O (by first|exact UR rfl|exact UQ O)) fj))) (ao (yu (pv 3) (aK fe (pv 4) au (fun _ _=>O)) zt (pv 5) Dq zF)
   (ak (yu (pv 3) (aK fe (pv 4) au (fun _ _=>O)) zt (pv 5) Qg2 zF))))
   (ak (aM (pv 3))))),?_⟩
  refine⟨(by show 1≤S';decide),fun z nz=>⟨_,O,z,n,_,O,O,ag,by lia,by lia,(by rw[Rh];show 1*n.toNat≤_;lia),fun D nD=>?_⟩⟩
  rw[tT]
  have s1:ae H (upd (upd H z (.lst [V.int 0])) D (.lst ((U5 n.toNat (0:Int)).map V.int))):=(ae.new nz).trans (ae.new nD)
  have h1:upd (upd H z (.lst [V.int 0])) D (.lst ((U5 n.toNat (0:Int)).map V.int)) D=f' (.lst ((U5 n.toNat (0:Int)).map V.int)):=ag
  have vD:H D=i':=by
   have:=nD
   rw[aj (fun e=>by rw[e,ag] at this;cases this)] at this
   exact this
  generalize upd (upd H z (.lst [V.int 0])) D (.lst ((U5 n.toNat (0:Int)).map V.int))=H1 at s1 h1 ⊢
  have ex:xs.length=(am.map V.int).length:=by rw[Q9,av,cP]
  refine⟨_,O,_,O,l,p,O,⟨_,s1.Vk hl⟩,⟨_,s1.Vk hp⟩,EQ (K:=K) (l1:=l) (l2:=p) (xs:=xs) (ys:=am.map V.int) ex (fun i σ H'=>∃ v4 v5,σ=[f' (.int n),f' (.ref l),f' (.ref p),f' (.ref D),v4,v5]∧ae H H'∧H' D=f' (.lst ((((ws.zip am).take i).foldl bL (U5 n.toNat 0)).map V.int)))
   ⟨i',i',rfl,s1,h1⟩ ?_ ?_ ?_⟩
  .rintro i σ H' _ ⟨v4,v5,rfl,sm,_⟩
   exact⟨sm.Vk hl,sm.Vk hp⟩
  .rintro i x y t σ H' hx hy nt ⟨v4,v5,rfl,sm,hD⟩
   obtain⟨q,hq,dq⟩:=gm hd hx
   obtain⟨c,rfl,hc⟩:=lV (sm.dt dq)
   obtain⟨y,cY,rfl⟩:=rT hy
   obtain⟨⟨i1,i2⟩,i3,i4⟩:=cB q (Rv hq)
   have s2:ae H' (upd H' t (.tup [.ref c,.int y])):=ae.new nt
   have BC:upd H' t (.tup [.ref c,.int y]) t=f' (.tup [.ref c,.int y]):=ag
   generalize upd H' t (.tup [.ref c,.int y])=H2 at s2 BC ⊢
   have iZ:=s2 _ _ hD
   have sS:=s2.VP hc
   rw[cJ (FU hq cY),Sy]
   have oz:(((ws.zip am).take i).foldl bL (U5 n.toNat 0)).length=n.toNat:=by rw[Ec,R7]
   generalize ((ws.zip am).take i).foldl bL (U5 n.toNat 0)=ls at iZ oz ⊢
   have j3:q.2.1<(ls.length:Int):=by rw[oz];exact i4
   have j1:q.1<((ls.set q.2.1.toNat (pz ls q.2.1+y)).length:Int):=by rw[Tb,oz];exact i2
   refine⟨t,_,O,U4.of BC,O,_,_,O,_,_,O,O,?_⟩
   refine⟨_,O,_,O,c,_,_,_,O,O,sS,O,D,_,_,_,O,O,P'.of iZ,i3,Qek i3 j3,_,O,_,_,O,O,D,_,_,_,O,O,iZ,yX i3 (by rw[Q9];exact j3),?_⟩
   rw[← UC]
   have tk:Tk H2 (upd H2 D (.lst ((ls.set q.2.1.toNat (pz ls q.2.1+y)).map V.int))):=Tk.upd iZ rfl
   have h3:upd H2 D (.lst ((ls.set q.2.1.toNat (pz ls q.2.1+y)).map V.int)) D=f' (.lst ((ls.set q.2.1.toNat (pz ls q.2.1+y)).map V.int)):=ag
   have o3:∀ b u,H b=f' u→upd H2 D (.lst ((ls.set q.2.1.toNat (pz ls q.2.1+y)).map V.int)) b=f' u:=fun b u e=>by
    rw[aj (aq e vD)]
    exact s2 _ _ (sm b u e)
   generalize upd H2 D (.lst ((ls.set q.2.1.toNat (pz ls q.2.1+y)).map V.int))=H3 at tk h3 o3 ⊢
   refine⟨_,O,_,O,c,_,_,_,O,O,tk.VP sS,O,D,_,_,_,O,O,P'.of h3,i1,Qek i1 j1,_,O,_,_,O,O,D,_,_,_,O,O,h3,yX i1 (by rw[Q9];exact j1),?_⟩
   rw[← UC]
   refine⟨_,_,O,fun b u e=>?_,ag⟩
   rw[aj (aq e vD)]
   exact o3 b u e
  .rintro σ H' ⟨v4,v5,rfl,sm,hD⟩
   rw[R5 (by rw[Td];lia)] at hD
   exact⟨_,O,k D H' sm vD hD⟩
inductive Nx (K:R') (vs:List V) (H:Hp) (Q:VK) (bF:XK):Prop
 | mk (l ws:_) (_:vs=[.ref l]) (_:il K H l ws) (_:ws.length≤1000) (_:∀ r H',ae H H'→H r=i'→H' r=f' (.lst ((ws.map fun q=>q.2.2.2).map V.int))→Q (.ref r) H')
theorem Fa (T:Tx K mg a):Vj P w K mg base Vd 1 "weights_of" ["wishes"] [] (Nx K):=T.Qjk.U8 fun f fd F=>by
 refine F.ok MK (fun vs H Q E h=>?_) (fun ay A outer s H vs Q E hr h=>?_)
 .obtain⟨l,ws,rfl,_⟩:=h
  rfl
 .obtain⟨l,ws,rfl,⟨xs,hl,hd⟩,hk,k⟩:=h
  have cP:ws.length=xs.length:=by rw[← hd.length,Q9]
  refine⟨_,(ak (aM (cG (N:=["one","other","least","weight"]) (cap:=[i',i',i',i']) O (cy (osc:=az yV) (XN:=["wishes"]) O O (by decide +kernel)) (bV (pv 0)) (fun cl C s H fp aa=>(kX (K:=K) (n:=4) O O (bj (aF (i:=0) (show(["one","other","least","weight"]:List C').Nodup by decide +kernel) rfl (by first|exact UR rfl|exact UQ O)) (bj (aF (i:=1) (show(["one","other","least","weight"]:List C').Nodup by decide +kernel) rfl (by first|exact UR rfl|exact UQ O)) (bj (aF (i:=2) (show(["one","other","least","weight"]:List C').Nodup by decide +kernel) rfl (by first|exact UR rfl|exact UQ O)) (bj (aF (i:=3) (show(["one","other","least","weight"]:List C').Nodup by decide +kernel) rfl (by first|exact UR rfl|exact UQ O)) fj)))))) (fun cl C s H fp aa=>cS) (fun cl C s H fp aa=>(pv 3))))),?_⟩
  refine⟨_,O,l,O,⟨_,hl⟩,fun D hD=>?_⟩
  refine ft (K:=K) (a:=l) (xs:=xs) (fun i τ H'=>∃ v1 v2 v3 v4,τ=[v1,v2,v3,v4]∧ae H H'∧H' D=f' (.lst (((ws.take i).map fun q=>q.2.2.2).map V.int))) ⟨i',i',i',i',O,ae.new hD,ag⟩ ?_ ?_ ?_
  .rintro i τ H' _ ⟨v1,v2,v3,v4,rfl,sm,hy⟩
   exact sm.Vk hl
  .rintro i x τ H' hx ⟨v1,v2,v3,v4,rfl,sm,hy⟩
   obtain⟨q,hq,dq⟩:=gm hd hx
   obtain⟨t,rfl,h1⟩:=lV (sm.dt dq)
   refine⟨t,_,O,h1,O,_,_,O,_,_,O,_,_,O,_,_,O,O,?_⟩
   dsimp only[dQ]
   rw[UN rfl]
   refine⟨_,O,_,hy,?_,_,_,_,_,O,?_,?_⟩
   .rw[Q9,Q9,Rs,Rh]
    lia
   .intro b u e
    rw[aj (aq e hD)]
    exact sm b u e
   .rw[ag,cJ hq,Rf,Rf]
    rfl
  .rintro τ H' ⟨v1,v2,v3,v4,rfl,sm,hy⟩
   rw[← cP,Rz] at hy
   exact k D H' sm hD hy
def kj (n:Nat) (ws:List Wi) (fl:List Int):Bool:=decide (fl.length=ws.length) && (!(fl.map fun x=>decide (x<0)).any id && decide (jM n ws fl=jM n ws (ws.map fun q=>q.2.2.2)))
def Qne (ws:List Wi) (fl:List Int):Int:=((ws.zip fl).map fun p=>p.2*p.1.2.2.1).sum
inductive Mj (K:R') (a:Vm) (vs:List V) (H:Hp) (Q:VK) (E:XK):Prop
 | mk (n l ws p fl:_) (_:vs=[.int n,.ref l,.ref p]) (_:il K H l ws) (_:P' K H p ((fl:List Int).map V.int)) (_:ws.length≤1000) (_:fl.length≤1000) (_:0≤n) (_:n≤1000) (_:(∀ q∈ws,InR n.toNat q∧Small q.2.2.1)) (_:(kj n.toNat ws fl=B'→∀ H',ae H H'→Q (.int (Qne ws fl)) H')) (_:(kj n.toNat ws fl=K'→∀ H',ae H H'→E (.ref a.NoFlow) i' H'))
theorem MC (T:Tx K mg a):Vj P w K mg base (Vt P w) 2 "bound" ["count","wishes","flow"] [] (Mj K a):=T.Qjm.U8 fun f fd F=>by
 have aN:=Ei (P:=P) (w:=w) (base:=base) T
 have bK:=Fa (P:=P) (w:=w) (base:=base) T
 refine F.VZ LS (fun vs H Q E h=>?_) (fun ay A outer s H vs Q E hr h=>?_)
 .obtain⟨n,l,ws,p,fl,rfl,_⟩:=h
  rfl
 .obtain⟨n,l,ws,p,fl,rfl,⟨xs,hl,hd⟩,hp,hk,hf,n0,n1,cB,k1,k2⟩:=h
  have cP:ws.length=xs.length:=by rw[← hd.length,Q9]
  refine⟨_,(ao (aT (PW.pt (ig (bb nG (bi fg O T.VW dr (af (pv 2) ai)) (bi fg O T.VW dr (af (pv 1) ai)) (aY _)) (k9 (eG (bi Ee O T.Qef FT (af (cG (N:=["amount"]) (cap:=[i']) O (cy (osc:=az tY) (XN:=["count","wishes","flow"]) O O (by decide +kernel)) (bV (pv 2)) (fun cl C s H fp aa=>(aF (i:=0) (show(["amount"]:List C').Nodup by decide +kernel) rfl (by first|exact UR rfl|exact UQ O))) (fun cl C s H fp aa=>cS) (fun cl C s H fp aa=>(kn pc (pv 0) au (aY _)))) ai)))))) (ak (io aU T.QdR O T.QbU)) aP)
   (ao (aT (bb (Cp hr.units) (bB aN (hr.mono (by decide)) rfl (af (pv 0) (af (pv 1) (af (pv 2) ai)))) (bB aN (hr.mono (by decide)) rfl (af (pv 0) (af (pv 1) (af (bB bK (hr.mono (by decide)) rfl (af (pv 1) ai)) ai)))) (aY _)) (ak (io aU T.QdR rfl T.QbU)) aP)
   (ak (aM (bi Fk rfl T.Qeh Cm (af (cG (N:=["wish","amount"]) (cap:=[i',i']) O (cy (osc:=az tY) (XN:=["count","wishes","flow"]) O O (by decide +kernel)) (uE rfl T.Qae (af (pv 1) (af (pv 2) ai))) (fun cl C s H fp aa=>(kX (K:=K) (n:=2) O O (bj (aF (i:=0) (show(["wish","amount"]:List C').Nodup by decide +kernel) rfl (by first|exact UR rfl|exact UQ O)) (bj (aF (i:=1) (show(["wish","amount"]:List C').Nodup by decide +kernel) rfl (by first|exact UR rfl|exact UQ O)) fj)))) (fun cl C s H fp aa=>cS) (fun cl C s H fp aa=>(bq rN (pv 1) (aK (lC (K:=K) O) (pv 0) au (fun _ _=>O))))) ai)))))),?_⟩
  refine⟨_,O,p,_,O,.inl hp,_,O,l,_,O,.inl hl,O,_,O,?_⟩
  refine bg (fun c=>?_) (fun c=>?_)
  .refine ei ⟨by show 0≤S';decide,k2 ?_ H (ae.refl _)⟩
   have c':¬ fl.length=ws.length:=fun e=>by
    rw[Q9,e,cP] at c
    simp at c
   unfold kj
   rw[Ry c']
   rfl
  .have av:fl.length=ws.length:=by
    rw[Q9,← cP] at c
    have c':(fl.length:Int)=ws.length:=by simpa using c
    lia
   refine⟨_,O,p,O,⟨_,hp⟩,fun D hD=>?_⟩
   refine ft (K:=K) (a:=p) (xs:=fl.map V.int) (fun i τ H'=>∃ v1,τ=[v1]∧ae H H'∧H' D=f' (.lst (((fl.take i).map fun x=>decide (x<0)).map V.bl))) ⟨i',O,ae.new hD,ag⟩ ?_ ?_ ?_
   .rintro i τ H' _ ⟨v1,rfl,sm,hy⟩
    exact sm.Vk hp
   .rintro i x τ H' hx ⟨v1,rfl,sm,hy⟩
    obtain⟨z,hz,rfl⟩:=rT hx
    dsimp only[bM,dQ]
    rw[UN rfl]
    refine⟨_,O,_,_,O,O,_,hy,?_,_,O,?_,?_⟩
    .rw[Q9,Q9,Rs,Rh]
     lia
    .intro b u e
     rw[aj (aq e hD)]
     exact sm b u e
    .rw[ag,cJ hz,Rf,Rf]
     rfl
   rintro τ H1 ⟨v1,rfl,s1,hy⟩
   refine⟨D,_,O,P'.of hy,_,O,?_⟩
   rw[Q9,Rz]
   refine bg (fun c2=>?_) (fun c2=>?_)
   .refine⟨by show 0≤S';decide,k2 ?_ H1 s1⟩
    unfold kj
    rw[c2]
    simp
   .refine⟨_,O,_,O,_,O,n,l,ws,p,fl,O,⟨xs,s1.Vk hl,s1.Vf hd⟩,s1.Vk hp,av,n0,n1,fun q hq=>(cB q hq).1,fun r1 H2 s2 _ h2=>?_⟩
    have t2:=s1.trans s2
    refine⟨_,O,_,O,_,O,l,ws,O,⟨xs,t2.Vk hl,t2.Vf hd⟩,hk,fun r2 H3 s3 _ h3=>?_⟩
    have t3:=t2.trans s3
    refine⟨n,l,ws,r2,ws.map fun q=>q.2.2.2,O,⟨xs,t3.Vk hl,t3.Vf hd⟩,P'.of h3,by rw[Q9],n0,n1,fun q hq=>(cB q hq).1,fun r3 H4 s4 _ h4=>?_⟩
    have t4:=t3.trans s4
    refine⟨.lst ((jM n.toNat ws fl).map Dt.int),.lst ((jM n.toNat ws (ws.map fun q=>q.2.2.2)).map Dt.int),O,O,⟨r1,_,O,P'.of (s4 _ _ (s3 _ _ h2)),yB _⟩,⟨r3,_,O,P'.of h4,yB _⟩,Pb _,_,O,?_⟩
    have e1:VT (.lst ((jM n.toNat ws fl).map Dt.int)) (.lst ((jM n.toNat ws (ws.map fun q=>q.2.2.2)).map Dt.int))=decide (jM n.toNat ws fl=jM n.toNat ws (ws.map fun q=>q.2.2.2)):=Cv _ _
    rw[e1]
    have eg:kj n.toNat ws fl=decide (jM n.toNat ws fl=jM n.toNat ws (ws.map fun q=>q.2.2.2)):=by
     unfold kj
     rw[Rp av,c2]
     rfl
    refine bg (fun c3=>?_) (fun c3=>?_)
    .refine⟨by show 0≤S';decide,k2 ?_ H4 t4⟩
     rw[eg]
     simpa using c3
    .have g1:kj n.toNat ws fl=B':=by
      rw[eg]
      simpa using c3
     refine⟨_,O,_,O,l,p,O,⟨_,t4.Vk hl⟩,⟨_,t4.Vk hp⟩,fun D2 iZ=>?_⟩
     refine Fz (K:=K) (l1:=l) (l2:=p) (xs:=xs) (ys:=fl.map V.int) (by rw[Q9,av,cP]) (fun i τ H'=>∃ v1 v2,τ=[v1,v2]∧ae H4 H'∧H' D2=f' (.lst ((((ws.zip fl).take i).map fun p=>p.2*p.1.2.2.1).map V.int))) ⟨i',i',O,ae.new iZ,ag⟩ ?_ ?_ ?_
     .rintro i τ H' _ ⟨v1,v2,rfl,sm,_⟩
      exact⟨sm.Vk (t4.Vk hl),sm.Vk (t4.Vk hp)⟩
     .rintro i x y t τ H' hx hy nt ⟨v1,v2,rfl,sm,hD⟩
      obtain⟨q,hq,dq⟩:=gm hd hx
      obtain⟨c,rfl,hc⟩:=lV (sm.dt (t4.dt dq))
      obtain⟨y,cY,rfl⟩:=rT hy
      have hs:=(cB q (Rv hq)).2
      have s5:ae H' (upd H' t (.tup [.ref c,.int y])):=ae.new nt
      have Aw:upd H' t (.tup [.ref c,.int y]) t=f' (.tup [.ref c,.int y]):=ag
      generalize upd H' t (.tup [.ref c,.int y])=H5 at s5 Aw ⊢
      refine⟨t,_,O,U4.of Aw,O,_,_,O,_,_,O,O,?_⟩
      dsimp only[dQ]
      rw[UN rfl]
      refine⟨_,O,_,O,c,_,_,_,O,O,s5.VP hc,O,_,_,O,O,.inr hs,_,s5 _ _ hD,?_,_,_,O,?_,?_⟩
      .rw[Q9,Q9,Rs,Td,Rh]
       lia
      .intro b u e
       rw[aj (aq e iZ)]
       exact s5 _ _ (sm b u e)
      .rw[ag,cJ (FU hq cY),Rf,Rf]
       rfl
     .rintro τ H' ⟨v1,v2,rfl,sm,hD⟩
      refine⟨D2,_,O,P'.of hD,?_⟩
      rw[R5 (by rw[Td];lia)]
      exact k1 g1 H' (t4.trans sm)
end
theorem Qo {α:Type}{b:α}{p:Prop} (e:([]:List α)[i]?=f' b):p:=by
 rw[List.getElem?_nil] at e
 cases e
def wI (q:Wt):Wi:=((q.1:Nat),(q.2.1:Nat),q.2.2.1,q.2.2.2)
theorem Kx.lst {q b:F'}{G G':Hp}{C:F'}{dx:F'}{fs:List (C'×V)}{xs:List V} (k:Kx [q] G G') (hq:G q=f' (.ins C dx fs)) (h:G b=f' (.lst xs)):G' b=f' (.lst xs):=k _ _ h fun z=>by
 rw[Vh.mp z,hq] at h
 cases h
theorem Kx.sq {K:R'}{l:F'}{fs:List (C'×V)} (k:Kx [q] G G') (hq:G q=f' (.ins C dx fs)) (h:P' K G l xs):P' K G' l xs:=by
 have ne:∀ o,G l=f' o→(∀ C dx fs,o≠.ins C dx fs)→G' l=f' o:=fun o e n=>k _ _ e fun z=>by
  rw[Vh.mp z,hq] at e
  cases e
  exact n _ _ _ rfl
 rcases h with(h|⟨o,h⟩)|h
 .exact .inl (.inl (ne _ h fun _ _ _ z=>by cases z))
 .exact .inl (.inr ⟨o,ne _ h fun _ _ _ z=>by cases z⟩)
 .exact .inr h
theorem Kx.tk {fs:List (C'×V)} (k:Kx [q] G G') (hq:G q=f' (.ins C dx fs)):Tk G G':=fun b o e z=>k b o e fun y=>by
 rw[Vh.mp y,hq] at e
 cases e
 cases z
theorem Kx.none {q b:F'}{H G:Hp} (k:Kx [q] H G) (e:G b=i') (n:b≠q):H b=i':=by
 cases h:H b with
 | none=>rfl
 | some o=>
  rw[k b o h (by simp[n])] at e
  cases e
def Ls (gs:List F') (f:Nat→List Nat) (G:Hp):Prop:=∀ i a,gs[i]?=f' a→G a=f' (.lst (nums (f i)))
theorem Ls.put {a:F'}{l:List Nat} (h:Ls gs f G) (nd:gs.Nodup) (e:gs[j]?=f' a):Ls gs (up f j l) (upd G a (.lst (nums l))):=fun i b eb=>by
 by_cases c:i=j
 .subst c
  rw[e] at eb
  cases eb
  rw[ag,fR]
 .rw[eM _ _ c,aj (fun z=>c (by
   subst z
   exact(List.getElem?_inj (VJ.mp eb).1 nd).mp (eb.trans e.symm)))]
  exact h i b eb
variable {D da dh lm p wt:F'}{E:XK}{H0:Hp}{Q:VK}{c m nd nn:Nat}{l o s t:C'}{Vp ns zs:List Int}{ls names wl ws:List C'}{n sp:Int}{nh:Option Int}{y:V}
theorem Ls.keep {a:F'}{o:HO} (h:Ls gs f G) (n:a∉gs):Ls gs f (upd G a o):=fun i b eb=>by
 rw[aj (fun z=>n (by rw[← z];exact Rv eb))]
 exact h i b eb
def WK (ws:List Wt) (k i:Nat):List Nat:=(VO k).filter fun n=>decide ((ws.getD n (0,0,0,0)).1=i)
def XF (ws:List Wt) (k i:Nat):List Nat:=(VO k).filter fun n=>decide ((ws.getD n (0,0,0,0)).2.1=i)
theorem K9 (ws:List Wt) (k:Nat):WK ws (k+1)=up (WK ws k) (ws.getD k (0,0,0,0)).1 (WK ws k (ws.getD k (0,0,0,0)).1++[k]):=by
 funext i
 unfold WK
 rw[Qfy,Th]
 by_cases c:i=(ws.getD k (0,0,0,0)).1
 .rw[c,fR,RT,UN (Rp rfl)]
  rfl
 .rw[eM _ _ c,RT,UL (fun z=>c (RB z).symm),QfD,SD]
theorem PD (ws:List Wt) (k:Nat):XF ws (k+1)=up (XF ws k) (ws.getD k (0,0,0,0)).2.1 (XF ws k (ws.getD k (0,0,0,0)).2.1++[k]):=by
 funext i
 unfold XF
 rw[Qfy,Th]
 by_cases c:i=(ws.getD k (0,0,0,0)).2.1
 .rw[c,fR,RT,UN (Rp rfl)]
  rfl
 .rw[eM _ _ c,RT,UL (fun z=>c (RB z).symm),QfD,SD]
theorem MV (ws:List Wt) (k i:Nat):(WK ws k i).length≤k:=by
 have:=So (fun n=>decide ((ws.getD n (0,0,0,0)).1=i)) (VO k)
 rw[S0] at this
 exact this
theorem Lh (ws:List Wt) (k i:Nat):(XF ws k i).length≤k:=by
 have:=So (fun n=>decide ((ws.getD n (0,0,0,0)).2.1=i)) (VO k)
 rw[S0] at this
 exact this
theorem O6:aR "coming" (.ref r.c) (aR "going" (.ref r.g) (aR "needs" (.ref r.n) (aR "flow" (.ref r.f) (aR "places" (.ref r.p) (aR "leasts" (.ref r.l) (aR "others" (.ref r.t) (aR "ones" (.ref r.o) [])))))))=bW r:=by
 kernel_rfl
theorem xU {K:R'}{wA:F'}{ws:List Wt} (k:Int) (f:Wt→V) (hl:P' K H wA xs) (hd:bv K H ((ws.map wI).map wD) xs) (hw:ws.length≤1000) (hf:∀ w:Wt,VH [.int (w.1:Nat),.int (w.2.1:Nat),.int w.2.2.1,.int w.2.2.2] k=f' (f w)) (n:H D=i')
  (h:∀ G,ae H G→G D=f' (.lst (ws.map f))→Q (.ref D) G):jK (Zj K wA) D [i'] (upd H D (.lst [])) (bM 0) dQ (YM (QbI K) (ZZ 0) (tC (.int k))) Q:=by
 have cP:ws.length=xs.length:=by rw[← hd.length,Q9,Q9]
 refine ft (K:=K) (a:=wA) (xs:=xs) (fun j τ G=>∃ v1,τ=[v1]∧ae H G∧G D=f' (.lst ((ws.take j).map f))) ⟨i',rfl,ae.new n,ag⟩ ?_ ?_ ?_
 .rintro j τ G _ ⟨v1,rfl,sg,_⟩
  exact sg.Vk hl
 .rintro j x τ G hx ⟨v1,rfl,sg,hG⟩
  rw[TD] at hd
  obtain⟨w0,lU,dw⟩:=gm hd hx
  obtain⟨t,rfl,ht⟩:=lV (sg.dt dw)
  dsimp only[bM,dQ]
  rw[UN rfl]
  refine⟨_,O,t,_,_,_,O,O,ht,hf w0,_,hG,?_,_,O,du n sg,?_⟩
  .rw[Q9,Rs,Rh]
   lia
  .rw[ag,cJ lU,Rf]
   rfl
 rintro τ G ⟨v1,rfl,sg,y⟩
 rw[← cP,Rz] at y
 exact h G sg y
theorem DH (hc:c≤1000) (n:H D=i') (h:∀ G gs,ae H G→G D=f' (.lst ((gs:List F').map V.ref))→gs.length=c→gs.Nodup→(∀ (i:Nat) (b:F'),gs[i]?=f' b→G b=f' (.lst [])∧H b=i'∧b≠D)→Q (.ref D) G):jK (Zk 0 ((c:Nat):Int).toNat) D [i'] (upd H D (.lst [])) (bM 0) dQ (QbH mj) Q:=by
 refine NY (lo:=0) (n:=((c:Nat):Int).toNat) (fun j τ G=>∃ v1,∃ gs:List F',τ=[v1]∧ae H G∧G D=f' (.lst (gs.map V.ref))∧gs.length=j∧gs.Nodup∧∀ i b,gs[i]?=f' b→G b=f' (.lst [])∧H b=i'∧b≠D) ⟨i',[],rfl,ae.new n,ag,rfl,SA,fun i b e=>Qo e⟩ ?_ ?_
 .rintro j τ G hj ⟨v1,gs,rfl,sg,hG,gl,nd,m⟩
  rw[RA] at hj
  dsimp only[bM,dQ]
  rw[UN rfl]
  refine⟨(by show 0≤S';decide),fun z nz=>?_⟩
  have zD:z≠D:=fun e=>by rw[e,hG] at nz;cases nz
  refine⟨_,by rw[aj (US zD)];exact hG,?_,_,gs++[z],O,du n (sg.trans (ae.new nz)),?_,by rw[Ru,gl];rfl,?_,fun i b e=>?_⟩
  .rw[Q9,gl,Rh]
   lia
  .rw[ag,Rf]
   rfl
  .refine Qfo.mpr ⟨nd,by simp,fun x hx y hy=>?_⟩
   rw[Vh.mp hy]
   rintro rfl
   obtain⟨i,e⟩:=X'.mp hx
   rw[(m i x e).1] at nz
   cases nz
  .rcases Su i gs.length with l|l
   .rw[TZ l] at e
    obtain⟨m1,m2,m3⟩:=m i b e
    have bz:b≠z:=aq m1 nz
    exact⟨by rw[aj m3,aj bz];exact m1,m2,m3⟩
   .rw[TU l] at e
    have e0:i-gs.length=0:=by
     have:=(VJ.mp e).1
     rw[Um] at this
     lia
    rw[e0] at e
    cases e
    exact⟨by rw[aj zD,ag],none_of sg nz,zD⟩
 rintro τ G ⟨v1,gs,rfl,sg,y,gl,nd,m⟩
 rw[RA] at gl
 exact h G gs sg y gl nd m
section
variable {K:R'}
inductive Qnf (K:R') (C:F') (vs:List V) (H:Hp) (Q:VK) (bF:XK):Prop
 | mk (q dx wA ws:_) (c:Nat) (_:vs=[.ref q,.int c,.ref wA]) (_:H q=f' (.ins C dx [])) (_:il K H wA ((ws:List Wt).map wI)) (_:(∀ x∈ws,x.1<c∧x.2.1<c)) (_:ws.length≤1000) (_:c≤1000) (_:∀ r H',Kx [q] H H'→ik C H' q r ws c→H' r.p=f' (.lst ((U5 c (0:Int)).map V.int))→H' r.f=f' (.lst ((U5 ws.length (0:Int)).map V.int))→H' r.n=f' (.lst ((U5 c (0:Int)).map V.int))→H r.p=i'→H r.f=i'→H r.n=i'→Q .UU H')
theorem Oz (T:Tx K mg a):nN P w K mg base Vd 1 a.Layout "Layout" ["self","count","wishes"] (Qnf K a.Layout):=T.Qb3.U8 fun f fd F=>by
 refine F.ok zq (fun vs H Q E h=>?_) (fun ay A outer s H vs Q E hr h=>?_)
 .obtain⟨q,dx,wA,ws,c,rfl,_⟩:=h
  rfl
 .obtain⟨q,dx,wA,ws,c,rfl,q0,⟨xs,sG,vi⟩,cB,hw,hc,k⟩:=h
  have cP:ws.length=xs.length:=by rw[← vi.length,Q9,Q9]
  have Hn:Kx [q] H H:=Kx.of (ae.refl _)
  refine⟨_,(ao (eh (pv 0) (cG (N:=["wish"]) (cap:=[i']) O (cy (osc:=az nS) (XN:=["self","count","wishes","number","wish"]) O O (by decide +kernel)) (bV (pv 2)) (fun cl C s H fp aa=>(aF (i:=0) (show(["wish"]:List C').Nodup by decide +kernel) rfl (by first|exact UR rfl|exact UQ O))) (fun cl C s H fp aa=>cS) (fun cl C s H fp aa=>(aK (lC (K:=K) O) (pv 0) au (fun _ _=>O)))) O)
   (ao (eh (pv 0) (cG (N:=["wish"]) (cap:=[i']) O (cy (osc:=az nS) (XN:=["self","count","wishes","number","wish"]) O O (by decide +kernel)) (bV (pv 2)) (fun cl C s H fp aa=>(aF (i:=0) (show(["wish"]:List C').Nodup by decide +kernel) rfl (by first|exact UR rfl|exact UQ O))) (fun cl C s H fp aa=>cS) (fun cl C s H fp aa=>(aK (lC (K:=K) O) (pv 0) au (fun _ _=>O)))) O)
   (ao (eh (pv 0) (cG (N:=["wish"]) (cap:=[i']) O (cy (osc:=az nS) (XN:=["self","count","wishes","number","wish"]) O O (by decide +kernel)) (bV (pv 2)) (fun cl C s H fp aa=>(aF (i:=0) (show(["wish"]:List C').Nodup by decide +kernel) rfl (by first|exact UR rfl|exact UQ O))) (fun cl C s H fp aa=>cS) (fun cl C s H fp aa=>(aK (lC (K:=K) O) (pv 0) au (fun _ _=>O)))) O)
   (ao (eh (pv 0) (bq uy (bY (af au ai)) (pv 1)) rfl)
   (ao (eh (pv 0) (bq uy (bY (af au ai)) (bi fg rfl T.VW dr (af (pv 2) ai))) rfl)
   (ao (eh (pv 0) (bq uy (bY (af au ai)) (pv 1)) rfl)
   (ao (eh (pv 0) (cG (N:=["point"]) (cap:=[i']) O (cy (osc:=az nS) (XN:=["self","count","wishes","number","wish"]) O O (by decide +kernel)) (rm rfl T.Zt (af (pv 1) ai)) (fun cl C s H fp aa=>(aF (i:=0) (show(["point"]:List C').Nodup by decide +kernel) rfl (by first|exact UR rfl|exact UQ O))) (fun cl C s H fp aa=>cS) (fun cl C s H fp aa=>(bY ai))) O)
   (ao (eh (pv 0) (cG (N:=["point"]) (cap:=[i']) O (cy (osc:=az nS) (XN:=["self","count","wishes","number","wish"]) O O (by decide +kernel)) (rm rfl T.Zt (af (pv 1) ai)) (fun cl C s H fp aa=>(aF (i:=0) (show(["point"]:List C').Nodup by decide +kernel) rfl (by first|exact UR rfl|exact UQ O))) (fun cl C s H fp aa=>cS) (fun cl C s H fp aa=>(bY ai))) O)
   (ak (ej Wj rfl (tS rfl T.QaR (af (pv 2) ai)) (kg rfl (bj (aF (i:=3) zq.nd O (by first|exact UR rfl|exact UQ O)) (bj (aF (i:=4) zq.nd O (by first|exact UR rfl|exact UQ O)) fj))) (ao (bo (eA Wa Wv WE fS (aK bA (bw (pv 0) O) (aK fe (pv 4) au (fun _ _=>O)) (fun _ _=>O)) (af (pv 3) ai)))
   (ak (bo (eA Wa Wv WE fS (aK bA (bw (pv 0) rfl) (aK fe (pv 4) au (fun _ _=>O)) (fun _ _=>O)) (af (pv 3) ai))))))))))))))),?_⟩
  refine⟨_,O,wA,O,⟨_,sG⟩,fun oA n0=>?_⟩
  refine xU 0 (fun w:Wt=>V.int (w.1:Nat)) sG vi hw (fun _=>O) n0 fun G0 AU y0=>?_
  refine⟨_,O,q,a.Layout,dx,_,O,AU _ _ q0,T.VN,T.Z9,(by show 0<1000;decide),?_⟩
  obtain⟨F1,e1⟩:∃ fs,fs=aR "ones" (.ref oA) []:=⟨_,O⟩
  rw[← e1]
  have l1:F1.length=1:=by
   rw[e1]
   rfl
  have q1:=ag (H:=G0) (a:=q) (o:=HO.ins a.Layout dx F1)
  have i7:Kx [q] H (upd G0 q (HO.ins a.Layout dx F1)):=(Kx.of AU).trans (Kx.upd (by simp))
  have dG:upd G0 q (HO.ins a.Layout dx F1) oA=f' (.lst (ws.map (fun w:Wt=>V.int (w.1:Nat)))):=by rw[aj (US (aq q0 n0))];exact y0
  generalize upd G0 q (HO.ins a.Layout dx F1)=H1 at q1 i7 dG ⊢
  have HJ:Kx [q] H H1:=Hn.trans i7
  have cT:=i7.sq q0 sG
  have zZ:=(i7.tk q0).Vf (cw (fun _=>O) _) vi
  refine⟨_,O,wA,O,⟨_,cT⟩,fun tA n1=>?_⟩
  refine xU 1 (fun w:Wt=>V.int (w.2.1:Nat)) cT zZ hw (fun _=>O) n1 fun G1 og y1=>?_
  refine⟨_,O,q,a.Layout,dx,_,O,og _ _ q1,T.VN,T.QbX,(by lia),?_⟩
  obtain⟨F2,e2⟩:∃ fs,fs=aR "others" (.ref tA) F1:=⟨_,O⟩
  rw[← e2]
  have l2:F2.length=2:=by
   rw[e2,e1]
   rfl
  have q2:=ag (H:=G1) (a:=q) (o:=HO.ins a.Layout dx F2)
  have YV:Kx [q] H1 (upd G1 q (HO.ins a.Layout dx F2)):=(Kx.of og).trans (Kx.upd (by simp))
  have dW:upd G1 q (HO.ins a.Layout dx F2) tA=f' (.lst (ws.map (fun w:Wt=>V.int (w.2.1:Nat)))):=by rw[aj (US (aq q1 n1))];exact y1
  generalize upd G1 q (HO.ins a.Layout dx F2)=H2 at q2 YV dW ⊢
  have tm:Kx [q] H H2:=HJ.trans YV
  have dG:=YV.lst q1 dG
  have bO:=YV.sq q1 cT
  have eS:=(YV.tk q1).Vf (cw (fun _=>O) _) zZ
  refine⟨_,O,wA,O,⟨_,bO⟩,fun lA n2=>?_⟩
  refine xU 2 (fun w:Wt=>V.int w.2.2.1) bO eS hw (fun _=>O) n2 fun G2 mH y2=>?_
  refine⟨_,O,q,a.Layout,dx,_,O,mH _ _ q2,T.VN,T.Qd0,(by lia),?_⟩
  obtain⟨F3,e3⟩:∃ fs,fs=aR "leasts" (.ref lA) F2:=⟨_,O⟩
  rw[← e3]
  have l3:F3.length=3:=by
   rw[e3,e2,e1]
   rfl
  have q3:=ag (H:=G2) (a:=q) (o:=HO.ins a.Layout dx F3)
  have WQ:Kx [q] H2 (upd G2 q (HO.ins a.Layout dx F3)):=(Kx.of mH).trans (Kx.upd (by simp))
  have eV:upd G2 q (HO.ins a.Layout dx F3) lA=f' (.lst (ws.map (fun w:Wt=>V.int w.2.2.1))):=by rw[aj (US (aq q2 n2))];exact y2
  generalize upd G2 q (HO.ins a.Layout dx F3)=H3 at q3 WQ eV ⊢
  have jQ:Kx [q] H H3:=tm.trans WQ
  have dG:=WQ.lst q2 dG
  have dW:=WQ.lst q2 dW
  have my:=WQ.sq q2 bO
  have jR:=(WQ.tk q2).Vf (cw (fun _=>O) _) eS
  refine⟨(by show 1≤S';decide),fun z3 Bu=>⟨_,O,z3,_,_,O,O,ag,by lia,by lia,(by rw[Rh];show 1*((c:Nat):Int).toNat≤_;lia),fun pA AD=>?_⟩⟩
  rw[RA,tT]
  have wJ:ae H3 (upd (upd H3 z3 (.lst [V.int 0])) pA (.lst ((U5 c (0:Int)).map V.int))):=(ae.new Bu).trans (ae.new AD)
  have y3:upd (upd H3 z3 (.lst [V.int 0])) pA (.lst ((U5 c (0:Int)).map V.int)) pA=f' (.lst ((U5 c (0:Int)).map V.int)):=ag
  have n3:H3 pA=i':=none_of (ae.new Bu) AD
  generalize upd (upd H3 z3 (.lst [V.int 0])) pA (.lst ((U5 c (0:Int)).map V.int))=G3 at wJ y3 ⊢
  have qK:=aq q3 n3
  have wu:=aq dG n3
  have xr:=aq dW n3
  have xh:=aq eV n3
  have GY:H pA=i':=jQ.none n3 (US qK)
  refine⟨_,O,q,a.Layout,dx,_,O,wJ _ _ q3,T.VN,T.YR,(by lia),?_⟩
  obtain⟨F4,e4⟩:∃ fs,fs=aR "places" (.ref pA) F3:=⟨_,O⟩
  rw[← e4]
  have l4:F4.length=4:=by
   rw[e4,e3,e2,e1]
   rfl
  have q4:=ag (H:=G3) (a:=q) (o:=HO.ins a.Layout dx F4)
  have jO:Kx [q] H3 (upd G3 q (HO.ins a.Layout dx F4)):=(Kx.of wJ).trans (Kx.upd (by simp))
  have gh:upd G3 q (HO.ins a.Layout dx F4) pA=f' (.lst ((U5 c (0:Int)).map V.int)):=by rw[aj (US (aq q3 n3))];exact y3
  generalize upd G3 q (HO.ins a.Layout dx F4)=H4 at q4 jO gh ⊢
  have kO:Kx [q] H H4:=jQ.trans jO
  have dG:=jO.lst q3 dG
  have dW:=jO.lst q3 dW
  have eV:=jO.lst q3 eV
  have Ba:=jO.sq q3 my
  have GL:=(jO.tk q3).Vf (cw (fun _=>O) _) jR
  refine⟨(by show 1≤S';decide),fun z4 wB=>⟨_,O,wA,_,O,.inl ((ae.new wB).Vk Ba),z4,_,_,O,O,ag,by lia,by lia,(by rw[Rh];show 1*((xs.length:Nat):Int).toNat≤_;lia),fun fA z9=>?_⟩⟩
  rw[← cP]
  rw[RA,tT]
  have vS:ae H4 (upd (upd H4 z4 (.lst [V.int 0])) fA (.lst ((U5 ws.length (0:Int)).map V.int))):=(ae.new wB).trans (ae.new z9)
  have y4:upd (upd H4 z4 (.lst [V.int 0])) fA (.lst ((U5 ws.length (0:Int)).map V.int)) fA=f' (.lst ((U5 ws.length (0:Int)).map V.int)):=ag
  have n4:H4 fA=i':=none_of (ae.new wB) z9
  generalize upd (upd H4 z4 (.lst [V.int 0])) fA (.lst ((U5 ws.length (0:Int)).map V.int))=G4 at vS y4 ⊢
  have p6:=aq q4 n4
  have wa:=aq dG n4
  have wz:=aq dW n4
  have wW:=aq eV n4
  have vL:=aq gh n4
  have vP:H fA=i':=kO.none n4 (US p6)
  refine⟨_,O,q,a.Layout,dx,_,O,vS _ _ q4,T.VN,T.QaM,(by lia),?_⟩
  obtain⟨F5,e5⟩:∃ fs,fs=aR "flow" (.ref fA) F4:=⟨_,O⟩
  rw[← e5]
  have l5:F5.length=5:=by
   rw[e5,e4,e3,e2,e1]
   rfl
  have q5:=ag (H:=G4) (a:=q) (o:=HO.ins a.Layout dx F5)
  have XG:Kx [q] H4 (upd G4 q (HO.ins a.Layout dx F5)):=(Kx.of vS).trans (Kx.upd (by simp))
  have iJ:upd G4 q (HO.ins a.Layout dx F5) fA=f' (.lst ((U5 ws.length (0:Int)).map V.int)):=by rw[aj (US (aq q4 n4))];exact y4
  generalize upd G4 q (HO.ins a.Layout dx F5)=H5 at q5 XG iJ ⊢
  have AQ:Kx [q] H H5:=kO.trans XG
  have dG:=XG.lst q4 dG
  have dW:=XG.lst q4 dW
  have eV:=XG.lst q4 eV
  have gh:=XG.lst q4 gh
  have Ih:=XG.sq q4 Ba
  have Gj:=(XG.tk q4).Vf (cw (fun _=>O) _) GL
  refine⟨(by show 1≤S';decide),fun z5 BH=>⟨_,O,z5,_,_,O,O,ag,by lia,by lia,(by rw[Rh];show 1*((c:Nat):Int).toNat≤_;lia),fun nA AE=>?_⟩⟩
  rw[RA,tT]
  have xo:ae H5 (upd (upd H5 z5 (.lst [V.int 0])) nA (.lst ((U5 c (0:Int)).map V.int))):=(ae.new BH).trans (ae.new AE)
  have y5:upd (upd H5 z5 (.lst [V.int 0])) nA (.lst ((U5 c (0:Int)).map V.int)) nA=f' (.lst ((U5 c (0:Int)).map V.int)):=ag
  have n5:H5 nA=i':=none_of (ae.new BH) AE
  generalize upd (upd H5 z5 (.lst [V.int 0])) nA (.lst ((U5 c (0:Int)).map V.int))=G5 at xo y5 ⊢
  have qh:=aq q5 n5
  have xC:=aq dG n5
  have vG:=aq dW n5
  have vg:=aq eV n5
  have xz:=aq gh n5
  have vy:=aq iJ n5
  have HW:H nA=i':=AQ.none n5 (US qh)
  refine⟨_,O,q,a.Layout,dx,_,O,xo _ _ q5,T.VN,T.QbW,(by lia),?_⟩
  obtain⟨F6,e6⟩:∃ fs,fs=aR "needs" (.ref nA) F5:=⟨_,O⟩
  rw[← e6]
  have l6:F6.length=6:=by
   rw[e6,e5,e4,e3,e2,e1]
   rfl
  have q6:=ag (H:=G5) (a:=q) (o:=HO.ins a.Layout dx F6)
  have fD:Kx [q] H5 (upd G5 q (HO.ins a.Layout dx F6)):=(Kx.of xo).trans (Kx.upd (by simp))
  have jN:upd G5 q (HO.ins a.Layout dx F6) nA=f' (.lst ((U5 c (0:Int)).map V.int)):=by rw[aj (US (aq q5 n5))];exact y5
  generalize upd G5 q (HO.ins a.Layout dx F6)=H6 at q6 fD jN ⊢
  have Am:Kx [q] H H6:=AQ.trans fD
  have dG:=fD.lst q5 dG
  have dW:=fD.lst q5 dW
  have eV:=fD.lst q5 eV
  have gh:=fD.lst q5 gh
  have iJ:=fD.lst q5 iJ
  have Jx:=fD.sq q5 Ih
  have Jw:=(fD.tk q5).Vf (cw (fun _=>O) _) Gj
  refine⟨_,O,_,O,by lia,by lia,fun gA n6=>?_⟩
  refine DH hc n6 fun G6 cr AS y6 gl6 HF m6=>?_
  have Ip:=aq q6 n6
  have Ga:=aq dG n6
  have JB:=aq dW n6
  have GN:=aq eV n6
  have xF:=aq gh n6
  have wH:=aq iJ n6
  have wm:=aq jN n6
  have xk:=fun i b (e:(cr:List F')[i]?=f' b)=>aq q6 (m6 i b e).2.1
  have vj:=fun i b (e:(cr:List F')[i]?=f' b)=>aq dG (m6 i b e).2.1
  have vB:=fun i b (e:(cr:List F')[i]?=f' b)=>aq dW (m6 i b e).2.1
  have wZ:=fun i b (e:(cr:List F')[i]?=f' b)=>aq eV (m6 i b e).2.1
  have qb:=fun i b (e:(cr:List F')[i]?=f' b)=>aq gh (m6 i b e).2.1
  have qj:=fun i b (e:(cr:List F')[i]?=f' b)=>aq iJ (m6 i b e).2.1
  have qB:=fun i b (e:(cr:List F')[i]?=f' b)=>aq jN (m6 i b e).2.1
  have vq:=fun i b (e:(cr:List F')[i]?=f' b)=>US (m6 i b e).2.2
  refine⟨_,O,q,a.Layout,dx,_,O,AS _ _ q6,T.VN,T.QdZ,(by lia),?_⟩
  obtain⟨F7,e7⟩:∃ fs,fs=aR "going" (.ref gA) F6:=⟨_,O⟩
  rw[← e7]
  have l7:F7.length=7:=by
   rw[e7,e6,e5,e4,e3,e2,e1]
   rfl
  have q7:=ag (H:=G6) (a:=q) (o:=HO.ins a.Layout dx F7)
  have jT:Kx [q] H6 (upd G6 q (HO.ins a.Layout dx F7)):=(Kx.of AS).trans (Kx.upd (by simp))
  have mL:upd G6 q (HO.ins a.Layout dx F7) gA=f' (.lst (cr.map V.ref)):=by rw[aj (US (aq q6 n6))];exact y6
  have z6:∀ i b,(cr:List F')[i]?=f' b→upd G6 q (HO.ins a.Layout dx F7) b=f' (.lst []):=fun i b e=>by rw[aj (fun z=>by rw[z] at e;exact UX ((m6 i q e).2.1) (by rw[q6];exact fun y=>by cases y))];exact(m6 i b e).1
  generalize upd G6 q (HO.ins a.Layout dx F7)=H7 at q7 jT mL z6 ⊢
  have AK:Kx [q] H H7:=Am.trans jT
  have dG:=jT.lst q6 dG
  have dW:=jT.lst q6 dW
  have eV:=jT.lst q6 eV
  have gh:=jT.lst q6 gh
  have iJ:=jT.lst q6 iJ
  have jN:=jT.lst q6 jN
  have Bw:=jT.sq q6 Jx
  have HV:=(jT.tk q6).Vf (cw (fun _=>O) _) Jw
  refine⟨_,O,_,O,by lia,by lia,fun cA n7=>?_⟩
  refine DH hc n7 fun G7 cx Aj y7 HN Gy m7=>?_
  have JH:=aq q7 n7
  have Hs:=aq dG n7
  have HP:=aq dW n7
  have JC:=aq eV n7
  have vQ:=aq gh n7
  have vT:=aq iJ n7
  have wS:=aq jN n7
  have Jk:=aq mL n7
  have wK:=fun i b (e:(cx:List F')[i]?=f' b)=>aq q7 (m7 i b e).2.1
  have wE:=fun i b (e:(cx:List F')[i]?=f' b)=>aq dG (m7 i b e).2.1
  have wY:=fun i b (e:(cx:List F')[i]?=f' b)=>aq dW (m7 i b e).2.1
  have wM:=fun i b (e:(cx:List F')[i]?=f' b)=>aq eV (m7 i b e).2.1
  have pZ:=fun i b (e:(cx:List F')[i]?=f' b)=>aq gh (m7 i b e).2.1
  have qc:=fun i b (e:(cx:List F')[i]?=f' b)=>aq iJ (m7 i b e).2.1
  have qT:=fun i b (e:(cx:List F')[i]?=f' b)=>aq jN (m7 i b e).2.1
  have vm:=fun i b (e:(cx:List F')[i]?=f' b)=>aq mL (m7 i b e).2.1
  have vp:=fun i b (e:(cx:List F')[i]?=f' b)=>US (m7 i b e).2.2
  have wO:=fun i b (e:(cr:List F')[i]?=f' b)=>US (aq (z6 i b e) n7)
  have vR:∀ i b j b',(cr:List F')[i]?=f' b→(cx:List F')[j]?=f' b'→b≠b':=fun i b j b' e e'=>aq (z6 i b e) (m7 j b' e').2.1
  refine⟨_,O,q,a.Layout,dx,_,O,Aj _ _ q7,T.VN,T.QdY,(by lia),?_⟩
  obtain⟨F8,e8⟩:∃ fs,fs=aR "coming" (.ref cA) F7:=⟨_,O⟩
  rw[← e8]
  have q8:=ag (H:=G7) (a:=q) (o:=HO.ins a.Layout dx F8)
  have ja:Kx [q] H7 (upd G7 q (HO.ins a.Layout dx F8)):=(Kx.of Aj).trans (Kx.upd (by simp))
  have vh:upd G7 q (HO.ins a.Layout dx F8) cA=f' (.lst (cx.map V.ref)):=by rw[aj (US (aq q7 n7))];exact y7
  have z7:∀ i b,(cx:List F')[i]?=f' b→upd G7 q (HO.ins a.Layout dx F8) b=f' (.lst []):=fun i b e=>by rw[aj (fun z=>by rw[z] at e;exact UX ((m7 i q e).2.1) (by rw[q7];exact fun y=>by cases y))];exact(m7 i b e).1
  generalize upd G7 q (HO.ins a.Layout dx F8)=H8 at q8 ja vh z7 ⊢
  have vn:Kx [q] H H8:=AK.trans ja
  have dG:=ja.lst q7 dG
  have dW:=ja.lst q7 dW
  have eV:=ja.lst q7 eV
  have gh:=ja.lst q7 gh
  have iJ:=ja.lst q7 iJ
  have jN:=ja.lst q7 jN
  have mL:=ja.lst q7 mL
  have Gv:=ja.sq q7 Bw
  have Ao:=(ja.tk q7).Vf (cw (fun _=>O) _) HV
  have z6:∀ i b,(cr:List F')[i]?=f' b→H8 b=f' (.lst []):=fun i b e=>ja.lst q7 (z6 i b e)
  have eF:F8=bW ⟨oA,tA,lA,pA,fA,nA,gA,cA⟩:=by
   rw[e8,e7,e6,e5,e4,e3,e2,e1]
   exact O6 (r:=⟨oA,tA,lA,pA,fA,nA,gA,cA⟩)
  rw[eF] at q8
  have g9:∀ b∈cr++cx,q≠b∧oA≠b∧tA≠b∧lA≠b∧pA≠b∧fA≠b∧nA≠b∧gA≠b∧cA≠b:=fun b hb=>by
   rcases We.mp hb with z|z
   .obtain⟨i,e⟩:=X'.mp z
    exact⟨xk i b e,vj i b e,vB i b e,wZ i b e,qb i b e,qj i b e,qB i b e,vq i b e,wO i b e⟩
   .obtain⟨i,e⟩:=X'.mp z
    exact⟨wK i b e,wE i b e,wY i b e,wM i b e,pZ i b e,qc i b e,qT i b e,vm i b e,vp i b e⟩
  have fresh:∀ b∈cr++cx,H b=i'∧H8 b=f' (.lst []):=fun b hb=>by
   have nq:=(g9 b hb).1
   rcases We.mp hb with z|z
   .obtain⟨i,e⟩:=X'.mp z
    exact⟨Am.none (m6 i b e).2.1 (US nq),z6 i b e⟩
   .obtain⟨i,e⟩:=X'.mp z
    exact⟨AK.none (m7 i b e).2.1 (US nq),z7 i b e⟩
  have re:∀ b,(∀ c∈cr++cx,b≠c)→b∉cr++cx:=fun b h z=>h b z rfl
  have Gb:∀ G,Kx (cr++cx) H8 G→P' K G wA xs:=fun G kx=>by
   rcases sG with(h|⟨o,h⟩)|h
   .have e8:=vn _ _ h (by simp;rintro rfl;rw[q0] at h;cases h)
    exact .inl (.inl (kx _ _ e8 fun z=>by rw[(fresh _ z).1] at h;cases h))
   .have e8:=vn _ _ h (by simp;rintro rfl;rw[q0] at h;cases h)
    exact .inl (.inr ⟨o,kx _ _ e8 fun z=>by rw[(fresh _ z).1] at h;cases h⟩)
   .exact .inr h
  have Je:∀ G,Kx (cr++cx) H8 G→Tk H8 G:=fun G kx b o z1 z2=>kx b o z1 fun y=>by
   rw[(fresh b y).2] at z1
   cases z1
   cases z2
  have By:∀ b,b∈cr→b∉cx:=fun b h1 h2=>by
   obtain⟨i,e⟩:=X'.mp h1
   obtain⟨j,e'⟩:=X'.mp h2
   exact vR i b j b e e' rfl
  rw[TD] at Ao
  refine⟨_,O,wA,O,⟨_,Gv⟩,zJ (K:=K) (l:=wA) (xs:=xs) (fun i σ G=>∃ v3 v4,σ=[f' (.ref q),f' (.int (c:Nat)),f' (.ref wA),v3,v4]∧Kx (cr++cx) H8 G∧Ls cr (WK ws i) G∧Ls cx (XF ws i) G)
   ⟨i',i',rfl,Kx.of (ae.refl _),fun i b e=>z6 i b e,fun i b e=>z7 i b e⟩ ?_ ?_ ?_⟩
  .rintro i σ G _ ⟨_,_,rfl,kx,_⟩
   exact Gb G kx
  .rintro i x tt σ G hx nt ⟨v3,v4,rfl,kx,lg,lc⟩
   obtain⟨w0,lU,dw⟩:=gm Ao hx
   obtain⟨t,rfl,ht⟩:=lV ((Je G kx).dt O dw)
   obtain⟨i1,i2⟩:=cB w0 (Rv lU)
   have hi:i<ws.length:=(VJ.mp lU).1
   have ew:ws.getD i (0,0,0,0)=w0:=by rw[Rr,lU];rfl
   obtain⟨ga,oM⟩:=jL (l:=cr) (j:=w0.1) (by lia)
   obtain⟨ca,qG⟩:=jL (l:=cx) (j:=w0.2.1) (by lia)
   have A0:ga∈cr:=Rv oM
   have AY:ca∈cx:=Rv qG
   have IJ:VH (cr.map V.ref) (w0.1:Int)=f' (.ref ga):=by rw[jH (by lia),RA,RD,oM];rfl
   have II:VH (cx.map V.ref) (w0.2.1:Int)=f' (.ref ca):=by rw[jH (by lia),RA,RD,qG];rfl
   have s3:ae G (upd G tt (.tup [.int i,.ref t])):=ae.new nt
   have h3:upd G tt (.tup [.int i,.ref t]) tt=f' (.tup [.int i,.ref t]):=ag
   have p9:Ls cr (WK ws i) (upd G tt (.tup [.int i,.ref t])):=fun j b e=>s3 _ _ (lg j b e)
   have Ak:Ls cx (XF ws i) (upd G tt (.tup [.int i,.ref t])):=fun j b e=>s3 _ _ (lc j b e)
   generalize upd G tt (.tup [.int i,.ref t])=G3 at s3 h3 p9 Ak ⊢
   have jQ:Kx (cr++cx) H8 G3:=kx.trans (Kx.of s3)
   have q3:G3 q=_:=jQ _ _ q8 (re _ fun b hb=>(g9 b hb).1)
   have g3:G3 gA=_:=jQ _ _ mL (re _ fun b hb=>(g9 b hb).2.2.2.2.2.2.2.1)
   have gl:=MV ws i w0.1
   have cl:=Lh ws i w0.2.1
   refine⟨tt,_,O,U4.of h3,O,_,_,O,_,_,O,O,?_⟩
   refine⟨_,O,q,a.Layout,dx,_,_,O,q3,T.VN,T.QdZ,Qt,_,O,t,_,_,_,O,O,s3.VP ht,O,gA,_,_,_,O,O,P'.of g3,IJ,.inl ⟨O,_,P'.of (p9 _ _ oM)⟩,_,O,ga,_,_,O,O,p9 _ _ oM,?_,?_⟩
   .unfold nums
    rw[Q9,Rh]
    lia
   have en:nums (WK ws i w0.1)++[V.int (i:Nat)]=nums (WK ws i w0.1++[i]):=by
    unfold nums
    rw[Rf]
    rfl
   rw[en]
   have kO:Kx (cr++cx) H8 (upd G3 ga (.lst (nums (WK ws i w0.1++[i])))):=jQ.trans (Kx.upd (RF _ A0))
   have BE:Ls cr (WK ws (i+1)) (upd G3 ga (.lst (nums (WK ws i w0.1++[i])))):=by
    rw[K9,ew]
    exact p9.put HF oM
   have sP:Ls cx (XF ws i) (upd G3 ga (.lst (nums (WK ws i w0.1++[i])))):=Ak.keep (By ga A0)
   have lL:Tk G3 (upd G3 ga (.lst (nums (WK ws i w0.1++[i])))):=Tk.upd (p9 _ _ oM) rfl
   generalize upd G3 ga (.lst (nums (WK ws i w0.1++[i])))=G4 at kO BE sP lL ⊢
   have q4:G4 q=_:=kO _ _ q8 (re _ fun b hb=>(g9 b hb).1)
   have c4:G4 cA=_:=kO _ _ vh (re _ fun b hb=>(g9 b hb).2.2.2.2.2.2.2.2)
   refine⟨_,O,q,a.Layout,dx,_,_,O,q4,T.VN,T.QdY,Ot,_,O,t,_,_,_,O,O,lL.VP (s3.VP ht),O,cA,_,_,_,O,O,P'.of c4,II,.inl ⟨O,_,P'.of (sP _ _ qG)⟩,_,O,ca,_,_,O,O,sP _ _ qG,?_,?_⟩
   .unfold nums
    rw[Q9,Rh]
    lia
   have en:nums (XF ws i w0.2.1)++[V.int (i:Nat)]=nums (XF ws i w0.2.1++[i]):=by
    unfold nums
    rw[Rf]
    rfl
   rw[en]
   refine⟨_,_,O,kO.trans (Kx.upd (RG _ AY)),BE.keep (fun z=>By ca z AY),?_⟩
   rw[PD,ew]
   exact sP.put Gy qG
  .rintro σ G ⟨v3,v4,rfl,kx,lg,lc⟩
   rw[← cP] at lg lc
   have at_:∀ b o,H8 b=f' o→(∀ d∈cr++cx,b≠d)→G b=f' o:=fun b o e n=>kx b o e (re b n)
   refine k ⟨oA,tA,lA,pA,fA,nA,gA,cA⟩ G (fun b o e z=>?_) ?_ (at_ _ _ gh fun d hd=>(g9 d hd).2.2.2.2.1) (at_ _ _ iJ fun d hd=>(g9 d hd).2.2.2.2.2.1) (at_ _ _ jN fun d hd=>(g9 d hd).2.2.2.2.2.2.1) GY vP HW
   .exact kx _ _ (vn b o e z) fun y=>by
     rw[(fresh b y).1] at e
     cases e
   .exact⟨⟨dx,at_ _ _ q8 fun d hd=>(g9 d hd).1⟩,at_ _ _ dG fun d hd=>(g9 d hd).2.1,at_ _ _ dW fun d hd=>(g9 d hd).2.2.1,at_ _ _ eV fun d hd=>(g9 d hd).2.2.2.1,
     ⟨cr,at_ _ _ mL fun d hd=>(g9 d hd).2.2.2.2.2.2.2.1,gl6,fun i b e=>⟨lg i b e,US (qb i b e),US (qj i b e),US (qB i b e)⟩⟩,
     ⟨cx,at_ _ _ vh fun d hd=>(g9 d hd).2.2.2.2.2.2.2.2,HN,fun i b e=>⟨lc i b e,US (pZ i b e),US (qc i b e),US (qT i b e)⟩⟩,
     ⟨wu,wa,xC⟩,⟨xr,wz,vG⟩,⟨xh,wW,vg⟩,⟨US xF,US wH,US wm⟩,⟨US vQ,US vT,US wS⟩,⟨qK,p6,qh⟩,vL,xz,vy⟩
end
def W2:List Int→Int
 | []=>0
 | x::r=>max x (W2 r)
theorem Dw:∀ (l:List Int),0≤W2 l∧∀ x∈l,x≤W2 l
 | []=>⟨Tp _,fun x h=>by cases h⟩
 | y::r=>by
  obtain⟨h1,h2⟩:=Dw r
  have e:W2 (y::r)=max y (W2 r):=rfl
  rw[e]
  refine⟨by lia,fun x hx=>?_⟩
  rcases RY.mp hx with z|z
  .rw[z]
   lia
  .have:=h2 x z
   lia
theorem xT {m:Int}:∀ (l:List Int),0≤m→(∀ x∈l,x≤m)→W2 l≤m
 | [],h,_=>h
 | y::r,h,hx=>by
  have h1:=xT r h fun x z=>hx x (Rk _ z)
  have h2:=hx y Rx
  have e:W2 (y::r)=max y (W2 r):=rfl
  rw[e]
  lia
def pw:Nat→List Int
 | 0=>[1]
 | m+1=>16 ^ (m+1)::pw m
theorem Dz:∀ m,(pw m).length=m+1
 | 0=>rfl
 | m+1=>by
  show(pw m).length+1=_
  rw[Dz m]
theorem PB:∀ m,∃ r,pw m=(16:Int) ^ m::r
 | 0=>⟨[],O⟩
 | m+1=>⟨pw m,O⟩
def Qng (mx:Int) (m:Nat):Prop:=(∀ i,i<m→(16:Int) ^ i*16≤mx)∧¬ (16:Int) ^ m*16≤mx
theorem KY (m:Nat):(0:Int)<16 ^ m:=Int.pow_pos (by decide)
theorem xR (m:Nat):(16:Int) ^ (m+1)=16 ^ m*16:=Int.pow_succ _ _
section
variable {K:R'}
inductive Qnh (K:R') (vs:List V) (H:Hp) (Q:VK) (bF:XK):Prop
 | mk (l wt:_) (_:vs=[.ref l]) (_:P' K H l ((wt:List Int).map V.int)) (_:(∀ x∈wt,0≤x∧x<2 ^ 61)) (_:∀ m g H',ae H H'→H g=i'→H' g=f' (.lst ((pw m).map V.int))→Qng (W2 wt) m→m≤100→Q (.ref g) H')
theorem NB (T:Tx K mg a):Vj P w K mg base Vd 1 "figure_worths" ["weights"] [] (Qnh K):=T.Qjs.U8 fun f fd F=>by
 refine F.ok Cn (fun vs H Q E h=>?_) (fun ay A outer s H vs Q E hr h=>?_)
 .obtain⟨l,wt,rfl,_⟩:=h
  rfl
 .obtain⟨l,wt,rfl,hl,hw,k⟩:=h
  obtain⟨QV,FZ⟩:=Dw wt
  have QW:W2 wt<2 ^ 61:=by
   have:=xT (m:=2 ^ 61-1) wt (by decide) fun x hx=>by
    have:=(hw x hx).2
    lia
   lia
  refine⟨_,(ao (aV (i:=1) Cn.nd O (by first|exact UR rfl|exact UQ O) (bY (af au ai)))
   (ao (uo Wj (bb Qdi (bq rN (aK bA (pv 1) au (fun _ _=>O)) (gb O T.QaQ)) (Mw O T.Qm4 (af (pv 0) ai)) (aY _)) (ak (bo (eA Wa QcA QeH EA (pv 1) (af au (af (bq rN (aK bA (pv 1) au (fun _ _=>O)) (gb O T.QaQ)) ai))))))
   (ak (aM (pv 1))))),?_⟩
  refine⟨(by show 1≤S';decide),fun g ng=>?_⟩
  have s1:ae H (upd H g (.lst [V.int 1])):=ae.new ng
  have h1:upd H g (.lst [V.int 1]) g=f' (.lst ((pw 0).map V.int)):=ag
  generalize upd H g (.lst [V.int 1])=H1 at s1 h1 ⊢
  refine⟨fun m σ G=>∃ j:Nat,m=(2 ^ 62-(16:Int) ^ j).toNat∧σ=[f' (.ref l),f' (.ref g)]∧ae H G∧G g=f' (.lst ((pw j).map V.int))∧(∀ i,i<j→(16:Int) ^ i*16≤W2 wt)∧(16:Int) ^ j<2 ^ 62∧j≤100,
   ⟨_,0,rfl,rfl,s1,h1,fun i hi=>UX hi (Sm _),by decide,by decide⟩,?_⟩
  rintro m σ G ⟨j,rfl,rfl,sg,hg,all,QI,j1⟩
  obtain⟨rr,er⟩:=PB j
  have jp:=KY j
  have Xd:VH ((pw j).map V.int) 0=f' (.int ((16:Int) ^ j)):=by rw[er];exact at0
  refine⟨_,O,g,_,_,_,O,O,P'.of hg,Xd,_,_,O,O,.inr ⟨by decide,by decide⟩,_,O,l,wt,O,sg.Vk hl,fun e0=>?_,fun mx hm IN=>?_⟩
  ·-- no weight at all
   subst e0
   refine⟨_,_,O,O,_,O,bg (fun c=>?_) (fun c=>?_)⟩
   .have:=RB c
    have QP:(0:Int)<16 ^ j*16:=by lia
    lia
   .exact⟨_,O,k j g G sg ng hg ⟨all,RM c⟩ j1⟩
  .have em:mx=W2 wt:=by
    have a1:=FZ mx hm
    have a2:=xT wt (hw mx hm).1 IN
    lia
   subst em
   refine⟨_,_,O,O,_,O,bg (fun c=>?_) (fun c=>?_)⟩
   .have c1:(16:Int) ^ j*16≤W2 wt:=RB c
    have jl:j+1≤100:=by
     rcases Su j 100 with z|z
     .exact z
     .exfalso
      have e1:(16:Int) ^ 100≤16 ^ j:=by
       have h:=Us (n:=16) (by decide) z
       exact_mod_cast h
      have e2:(2:Int) ^ 62≤16 ^ 100:=by decide +kernel
      lia
    have l1:=Dz j
    refine⟨_,fun σ' H' h=>h,?_⟩
    refine⟨_,O,.inl ⟨O,_,P'.of hg⟩,_,O,g,_,_,_,O,O,P'.of hg,Xd,_,_,O,O,.inr ⟨by decide,by decide⟩,g,_,0,_,O,O,hg,by lia,by lia,?_,?_⟩
    .rw[Q9,l1,Rh]
     lia
    .have e3:(16:Int) ^ (j+1)<2 ^ 62:=by rw[xR];lia
     refine⟨(2 ^ 62-(16:Int) ^ (j+1)).toNat,by rw[xR] at e3 ⊢;lia,j+1,O,O,du ng sg,?_,fun i hi=>?_,e3,jl⟩
     .rw[ag]
      show f' (HO.lst (V.int ((16:Int) ^ j*16)::(pw j).map V.int))=f' (HO.lst (V.int ((16:Int) ^ (j+1))::(pw j).map V.int))
      rw[xR]
     .rcases Su i j with z|z
      .exact all i z
      .rw[show i=j by lia]
       exact c1
   .exact⟨_,O,k j g G sg ng hg ⟨all,RM c⟩ j1⟩
end
def intOf:Option V→Option Int
 | some (.int i)=>f' i
 | _=>i'
def gI (kvs:Vc) (v:Nat):Option Int:=intOf (a8 kvs (Va (v:Int)))
def Wf (kvs:Vc):Prop:=∀ p∈kvs,∃ (v:Nat) (i:Int),p=(Va (v:Int),V.int i)
theorem Wf.val {kvs:Vc} (h:Wf kvs) (v:Nat):a8 kvs (Va (v:Int))=(gI kvs v).map V.int:=by
 unfold gI
 cases e:a8 kvs (Va (v:Int)) with
 | none=>rfl
 | some x=>
  unfold a8 at e
  obtain⟨p,e1,e2⟩:=Zw.mp e
  obtain⟨u,i,e3⟩:=h p (List.mem_of_find?_eq_some e1)
  rw[e3] at e2
  rw[← e2]
  rfl
theorem Wf.put {kvs:Vc} (h:Wf kvs) (v:Nat) (i:Int):Wf (cg kvs (Va (v:Int)) (.int i)):=fun p hp=>by
 unfold cg at hp
 split at hp
 .obtain⟨p',h1,h2⟩:=Wx.mp hp
  obtain⟨u,j,rfl⟩:=h p' h1
  split at h2
  .exact⟨u,i,h2.symm⟩
  .exact⟨u,j,h2.symm⟩
 .rcases We.mp hp with z|z
  .exact h p z
  .exact⟨v,i,Vh.mp z⟩
theorem Qni (kvs:Vc) (v:Nat) (i:Int):gI (cg kvs (Va (v:Int)) (.int i))=up (gI kvs) v (f' i):=by
 funext u
 unfold gI
 rw[uf]
 by_cases c:u=v
 .subst c
  rw[UN rfl,fR]
  rfl
 .rw[UL (fun z=>c (by injection z with z;exact Qbh z)),eM _ _ c]
theorem Wf.QaT {kvs:Vc} (h:Wf kvs) (hd:H d=f' (.dK kvs)):ci H d (.int (v:Nat)) ((gI kvs v).map V.int):=.inl ⟨kvs,Va (v:Int),.inl hd,O,(h.val v).symm⟩
theorem Do {l:List Nat} (h:(nums l)[j]?=f' x):∃ n,l[j]?=f' n∧x=.int (n:Nat):=by
 unfold nums at h
 rw[RD] at h
 cases e:l[j]? with
 | none=>rw[e] at h;cases h
 | some n=>rw[e] at h;exact⟨n,O,(VL h).symm⟩
section
variable {K:R'}
end
def Xo (p:List Nat) (x:Wt):List Nat:=p.map fun y=>if y=p.getD x.2.1 0 then p.getD x.1 0 else y
def ptF (ws:List Wt) (c:Nat):List Nat:=ws.foldl Xo (VO c)
theorem LM (p:List Nat) (x:Wt):(Xo p x).length=p.length:=by
 unfold Xo
 rw[Q9]
theorem ER:∀ (ws:List Wt) (p:List Nat),(ws.foldl Xo p).length=p.length
 | [],_=>rfl
 | x::ws,p=>by
  show(ws.foldl Xo (Xo p x)).length=_
  rw[ER ws,LM]
def WS (s:Vc) (x:Int×Nat):Vc:=cg s (Va ((x.2:Nat):Int)) (.int (min x.1 ((gI s x.2).getD x.1)))
def YW (pl:List Int) (pt:List Nat):Vc:=(pl.zip pt).foldl WS []
theorem DS {s:Vc} (x:Int×Nat) (h:Wf s):Wf (WS s x)∧(WS s x).length≤s.length+1∧gI (WS s x)=up (gI s) x.2 (f' (min x.1 ((gI s x.2).getD x.1))):=⟨h.put _ _,FR _ _ _,Qni _ _ _⟩
theorem zO:∀ (l:List (Int×Nat)){s:Vc},Wf s→Wf (l.foldl WS s)∧(l.foldl WS s).length≤s.length+l.length
 | [],_,h=>⟨h,Re _⟩
 | x::l,s,h=>by
  obtain⟨h1,h2,_⟩:=DS x h
  obtain⟨h3,h4⟩:=zO l h1
  refine⟨h3,RZ h4 ?_⟩
  rw[Rn]
  lia
def Qcd (l:List (Int×Nat)) (s:Vc):Prop:=(∀ x∈l,∃ m,gI s x.2=f' m∧m≤x.1)∧∀ v m,gI s v=f' m→∃ x∈l,x.2=v∧x.1=m
theorem B5:∀ (l l0:List (Int×Nat)){s:Vc},Wf s→Qcd l0 s→Qcd (l0++l) (l.foldl WS s)
 | [],l0,_,_,h=>by rw[SD];exact h
 | x::l,l0,s,wf,h=>by
  obtain⟨w1,_,w3⟩:=DS x wf
  have e:l0++x::l=(l0++[x])++l:=by rw[Sv];rfl
  rw[e]
  refine B5 l (l0++[x]) w1 ⟨fun y hy=>?_,fun v m hv=>?_⟩
  .rw[w3]
   by_cases c:y.2=x.2
   .rw[c,fR]
    refine⟨_,O,?_⟩
    rcases We.mp hy with z|z
    .obtain⟨m,e1,e2⟩:=h.1 y z
     rw[c] at e1
     rw[e1]
     show min x.1 m≤y.1
     lia
    .rw[Vh.mp z]
     lia
   .rw[eM _ _ c]
    rcases We.mp hy with z|z
    .exact h.1 y z
    .rw[Vh.mp z] at c
     exact UX O c
  .rw[w3] at hv
   by_cases c:v=x.2
   .rw[c,fR] at hv
    have hv:=VL hv
    cases eg:gI s x.2 with
    | none=>
     rw[eg] at hv
     have hv:min x.1 x.1=m:=hv
     exact⟨x,RG _ (Vh.mpr O),c.symm,by lia⟩
    | some b=>
     rw[eg] at hv
     have hv:min x.1 b=m:=hv
     by_cases c2:x.1≤b
     .exact⟨x,RG _ (Vh.mpr O),c.symm,by lia⟩
     .obtain⟨y,y1,y2,y3⟩:=h.2 x.2 b eg
      exact⟨y,RF _ y1,by rw[y2,c],by lia⟩
   .rw[eM _ _ c] at hv
    obtain⟨y,y1,y2⟩:=h.2 v m hv
    exact⟨y,RF _ y1,y2⟩
def frN (pl:List Int) (pt:List Nat):List Int:=(pl.zip pt).map fun x=>x.1-(gI (YW pl pt) x.2).getD 0
theorem Qnj (pl:List Int) (pt:List Nat):Qcd (pl.zip pt) (YW pl pt):=by
 have:=B5 (pl.zip pt) [] (s:=[]) (fun p hp=>by cases hp) ⟨fun x hx=>(by cases hx),fun v m e=>by cases e⟩
 rw[Qfz] at this
 exact this
theorem Ep {p:List Nat} (h:i<p.length):VH (nums p) (i:Int)=f' (.int (p.getD i 0:Nat)):=by
 unfold nums
 rw[jH (by lia),RA,RD,Rm h,Rr,Rm h]
 rfl
section
variable {K:R'}
inductive KG (K:R') (vs:List V) (H:Hp) (Q:VK) (bF:XK):Prop
 | mk (l ws:_) (c:Nat) (_:vs=[.int c,.ref l]) (_:il K H l ((ws:List Wt).map wI)) (_:(∀ x∈ws,x.1<c∧x.2.1<c)) (_:c≤1000) (_:∀ g H',ae H H'→H g=i'→H' g=f' (.lst (nums (ptF ws c)))→Q (.ref g) H')
theorem PF (T:Tx K mg a):Vj P w K mg base Vd 1 "parts_of" ["count","wishes"] [] (KG K):=T.Qjq.U8 fun f fd F=>by
 refine F.ok pj (fun vs H Q E h=>?_) (fun ay A outer s H vs Q E hr h=>?_)
 .obtain⟨l,ws,c,rfl,_⟩:=h
  rfl
 .obtain⟨l,ws,c,rfl,⟨xs,hl,hd⟩,cB,hc,k⟩:=h
  have cP:ws.length=xs.length:=by rw[← hd.length,Q9,Q9]
  rw[TD] at hd
  refine⟨_,(ao (aV (i:=2) pj.nd O (by first|exact UR rfl|exact UQ O) (Oj O T.QaS O T.Zt (af (pv 0) ai)))
   (ao (ej Wj rfl (bV (pv 1)) (aF (i:=3) pj.nd O (by first|exact UR rfl|exact UQ O)) (ao (aV (i:=4) pj.nd O (by first|exact UR rfl|exact UQ O) (aK bA (pv 2) (aK fe (pv 3) au (fun _ _=>O)) (fun _ _=>O)))
   (ao (aV (i:=5) pj.nd O (by first|exact UR rfl|exact UQ O) (aK bA (pv 2) (aK fe (pv 3) au (fun _ _=>O)) (fun _ _=>O)))
   (ak (Lz (i:=2) pj.nd O O (N:=["part","new","old"]) (cap:=[i',f' 5,f' 4]) O (cy (osc:=az zL) (XN:=["count","wishes","parts","wish","old","new"]) O O (by decide +kernel)) (bV (pv 2)) (fun cl C s H fp aa=>(aF (i:=0) (show(["part","new","old"]:List C').Nodup by decide +kernel) rfl (by first|exact UR rfl|exact UQ O))) (fun cl C s H fp aa=>cS) (fun cl C s H fp aa=>(Eu (bb cF (pv 0) (pv 2) (aY _)) (pv 1) (pv 0))) (hsw:=O))))))
   (ak (aM (pv 2))))),?_⟩
  refine⟨_,O,c,O,by lia,fun g ng=>?_⟩
  have s1:ae H (upd H g (.lst (Xa c))):=ae.new ng
  have h1:upd H g (.lst (Xa c)) g=f' (.lst (nums (VO c))):=ag
  generalize upd H g (.lst (Xa c))=H1 at s1 h1 ⊢
  refine⟨_,O,l,O,⟨_,s1.Vk hl⟩,iN (K:=K) (a:=l) (xs:=xs) (fun i σ G=>∃ g v3 v4 v5,σ=[f' (.int (c:Nat)),f' (.ref l),f' (.ref g),v3,v4,v5]∧ae H G∧H g=i'∧G g=f' (.lst (nums ((ws.take i).foldl Xo (VO c)))))
   ⟨g,i',i',i',rfl,s1,ng,h1⟩ ?_ ?_ ?_⟩
  .rintro i σ G _ ⟨g,_,_,_,rfl,sg,_⟩
   exact sg.Vk hl
  .rintro i x σ G hx ⟨g,v3,v4,v5,rfl,sg,ng,hG⟩
   obtain⟨w0,lU,dw⟩:=gm hd hx
   obtain⟨t,rfl,ht⟩:=lV (sg.dt dw)
   obtain⟨i1,i2⟩:=cB w0 (Rv lU)
   have pl:=ER (ws.take i) (VO c)
   rw[S0] at pl
   have fo:(ws.take (i+1)).foldl Xo (VO c)=Xo ((ws.take i).foldl Xo (VO c)) w0:=by rw[cJ lU,Sy];rfl
   rw[fo]
   generalize (ws.take i).foldl Xo (VO c)=now at hG pl ⊢
   dsimp only[bM]
   refine⟨_,O,_,O,t,_,_,_,O,O,ht,O,g,_,_,_,O,O,P'.of hG,Ep (by lia),?_⟩
   refine⟨_,O,_,O,t,_,_,_,O,O,ht,O,g,_,_,_,O,O,P'.of hG,Ep (by lia),?_⟩
   refine⟨_,O,g,O,⟨_,P'.of hG⟩,fun D hD=>?_⟩
   refine ft (K:=K) (a:=g) (xs:=nums now) (fun j τ G'=>∃ v1,τ=[v1,f' (.int (now.getD w0.1 0:Nat)),f' (.int (now.getD w0.2.1 0:Nat))]∧ae G G'∧G' D=f' (.lst (nums ((now.take j).map fun y=>if y=now.getD w0.2.1 0 then now.getD w0.1 0 else y)))) ⟨i',O,ae.new hD,ag⟩ ?_ ?_ ?_
   .rintro j τ G' _ ⟨v1,rfl,bS,_⟩
    exact P'.of (bS _ _ hG)
   .rintro j y τ G' hy ⟨v1,rfl,bS,cY⟩
    obtain⟨n,hn,rfl⟩:=Do hy
    dsimp only[bM,dQ]
    rw[UN rfl]
    have ln:(nums ((now.take j).map fun y=>if y=now.getD w0.2.1 0 then now.getD w0.1 0 else y)).length<S':=by
     unfold nums
     rw[Q9,Q9,Rs,Rh]
     lia
    have Av:∀ m:Nat,m=(if n=now.getD w0.2.1 0 then now.getD w0.1 0 else n)→nums ((now.take j).map fun y=>if y=now.getD w0.2.1 0 then now.getD w0.1 0 else y)++[V.int (m:Nat)]=nums ((now.take (j+1)).map fun y=>if y=now.getD w0.2.1 0 then now.getD w0.1 0 else y):=fun m em=>by
     rw[cJ hn,Rf,em]
     unfold nums
     rw[Rf]
     rfl
    refine⟨_,O,_,O,O,_,O,?_⟩
    refine bg (fun c1=>?_) (fun c1=>?_)
    .have c2:n=now.getD w0.2.1 0:=by
      have:=RB c1
      injection this with z
      exact Qbh z
     refine⟨_,O,_,cY,ln,_,O,du hD bS,?_⟩
     rw[ag,Av _ (UN c2).symm]
    .have c2:¬ n=now.getD w0.2.1 0:=fun z=>by
      have:=RM c1
      exact this (by rw[← z])
     refine⟨_,O,_,cY,ln,_,O,du hD bS,?_⟩
     rw[ag,Av _ (UL c2).symm]
   .rintro τ G' ⟨v1,rfl,bS,cY⟩
    rw[R5 (by unfold nums;rw[Q9];exact Re _)] at cY
    exact⟨D,_,_,_,O,sg.trans bS,none_of sg hD,cY⟩
  .rintro σ G ⟨g,v3,v4,v5,rfl,sg,ng,hG⟩
   rw[← cP,Rz] at hG
   exact⟨_,O,k g G sg ng hG⟩
inductive LW (K:R') (vs:List V) (H:Hp) (Q:VK) (bF:XK):Prop
 | mk (p t pl pt:_) (_:vs=[.ref p,.ref t]) (_:P' K H p ((pl:List Int).map V.int)) (_:P' K H t (nums pt)) (_:pl.length=pt.length) (_:pl.length≤1000) (_:∀ g H',ae H H'→H g=i'→H' g=f' (.lst ((frN pl pt).map V.int))→Q (.ref g) H')
theorem PV (T:Tx K mg a):Vj P w K mg base Vd 1 "from_nought" ["places","parts"] [] (LW K):=T.Qjr.U8 fun f fd F=>by
 refine F.ok uL (fun vs H Q E h=>?_) (fun ay A outer s H vs Q E hr h=>?_)
 .obtain⟨p,t,pl,pt,rfl,_⟩:=h
  rfl
 .obtain⟨p,t,pl,pt,rfl,hp,ht,hl,hk,k⟩:=h
  have ex:(pl.map V.int).length=(nums pt).length:=by unfold nums;rw[Q9,Q9,hl]
  have lz:(pl.zip pt).length=pl.length:=by rw[Td];lia
  have lJ:∀ i x y,(pl.map V.int)[i]?=f' x→(nums pt)[i]?=f' y→∃ (u:Int) (v:Nat),x=V.int u∧y=V.int (v:Nat)∧(pl.zip pt)[i]?=f' (u,v):=fun i x y h1 h2=>by
   obtain⟨u,hu,rfl⟩:=rT h1
   obtain⟨v,hv,rfl⟩:=Do h2
   exact⟨u,v,O,O,by rw[Tc];exact⟨hu,hv⟩⟩
  refine⟨_,(ao (aV (i:=2) uL.nd O (by first|exact UR rfl|exact UQ O) sr)
   (ao (ej Wj rfl (uE rfl T.Qae (af (pv 0) (af (pv 1) ai))) (kg rfl (bj (aF (i:=3) uL.nd O (by first|exact UR rfl|exact UQ O)) (bj (aF (i:=4) uL.nd O (by first|exact UR rfl|exact UQ O)) fj))) (ak (rn (cM hr) (pv 2) (pv 4) (bi Nr O T.Qm5 Qia (af (pv 3) (af (OJ (cM hr) (pv 2) (pv 4) (pv 3) ⟨O,O,O,O⟩) ai))) O)))
   (ak (aM (cG (N:=["place","part","least"]) (cap:=[i',i',f' 2]) O (cy (osc:=az yR) (XN:=["places","parts","least","place","part"]) O O (by decide +kernel)) (uE rfl T.Qae (af (pv 0) (af (pv 1) ai))) (fun cl C s H fp aa=>(kX (K:=K) (n:=2) O O (bj (aF (i:=0) (show(["place","part","least"]:List C').Nodup by decide +kernel) rfl (by first|exact UR rfl|exact UQ O)) (bj (aF (i:=1) (show(["place","part","least"]:List C').Nodup by decide +kernel) rfl (by first|exact UR rfl|exact UQ O)) fj)))) (fun cl C s H fp aa=>cS) (fun cl C s H fp aa=>(bq jJ (pv 0) (fY (cM hr) (pv 2) (pv 1) (fun _ _=>O))))))))),?_⟩
  refine fun d nd=>?_
  have s1:ae H (upd H d (.dK [])):=ae.new nd
  have h1:upd H d (.dK []) d=f' (.dK []):=ag
  generalize upd H d (.dK [])=H1 at s1 h1 ⊢
  have Ax:Wf ([]:Vc):=fun p hp=>by cases hp
  refine⟨_,O,_,O,p,t,O,⟨_,s1.Vk hp⟩,⟨_,s1.Vk ht⟩,EQ (K:=K) (l1:=p) (l2:=t) (xs:=pl.map V.int) (ys:=nums pt) ex (fun i σ G=>∃ v3 v4,σ=[f' (.ref p),f' (.ref t),f' (.ref d),v3,v4]∧ae H G∧G d=f' (.dK (((pl.zip pt).take i).foldl WS [])))
   ⟨i',i',rfl,s1,h1⟩ ?_ ?_ ?_⟩
  .rintro i σ G _ ⟨_,_,rfl,sg,_⟩
   exact⟨sg.Vk hp,sg.Vk ht⟩
  .rintro i x y tt σ G hx hy nt ⟨v3,v4,rfl,sg,hG⟩
   obtain⟨u,v,rfl,rfl,hz⟩:=lJ i x y hx hy
   have s3:ae G (upd G tt (.tup [.int u,.int (v:Nat)])):=ae.new nt
   have h3:upd G tt (.tup [.int u,.int (v:Nat)]) tt=f' (.tup [.int u,.int (v:Nat)]):=ag
   generalize upd G tt (.tup [.int u,.int (v:Nat)])=G3 at s3 h3 ⊢
   have jS:=s3 _ _ hG
   obtain⟨o1,o2⟩:=zO ((pl.zip pt).take i) Ax
   have lt:=List.length_take_le i (pl.zip pt)
   have l2:(((pl.zip pt).take i).foldl WS []).length≤1000:=by
    have:=Rs (i:=i) (l:=pl.zip pt)
    have z:([]:Vc).length=0:=rfl
    lia
   have fo:((pl.zip pt).take (i+1)).foldl WS []=WS (((pl.zip pt).take i).foldl WS []) (u,v):=by rw[cJ hz,Sy];rfl
   rw[fo]
   generalize ((pl.zip pt).take i).foldl WS []=now at jS o1 l2 ⊢
   refine⟨tt,_,O,U4.of h3,O,_,_,O,_,_,O,O,?_⟩
   have gd:=o1.QaT (v:=v) jS
   refine⟨_,O,_,O,d,O,.inl ⟨now,.inl jS⟩,_,O,_,O,_,gd,u,(gI now v).getD u,?_,_,O,_,O,d,_,O,.inl ⟨now,Va ((v:Nat):Int),jS,O,by rw[Rh];lia,O⟩,_,_,O,du nd (sg.trans s3),?_⟩
   .cases gI now v<;>rfl
   .rw[ag]
    unfold WS
    have e:(if (gI now v).getD u<u then(gI now v).getD u else u)=min u ((gI now v).getD u):=by
     by_cases c1:(gI now v).getD u<u
     .rw[UN c1]
      lia
     .rw[UL c1]
      lia
    rw[e]
  .rintro σ G ⟨v3,v4,rfl,sg,hG⟩
   have ez:(pl.map V.int).length=(pl.zip pt).length:=by rw[lz,Q9]
   rw[ez,Rz] at hG
   have hG:G d=f' (.dK (YW pl pt)):=hG
   have wf:Wf (YW pl pt):=(zO (pl.zip pt) Ax).1
   obtain⟨Xd,_⟩:=Qnj pl pt
   refine⟨_,O,_,O,p,t,O,⟨_,sg.Vk hp⟩,⟨_,sg.Vk ht⟩,fun D hD=>?_⟩
   refine Fz (K:=K) (l1:=p) (l2:=t) (xs:=pl.map V.int) (ys:=nums pt) ex (fun i τ G'=>∃ v1 v2,τ=[v1,v2,f' (.ref d)]∧ae G G'∧G' D=f' (.lst ((((pl.zip pt).take i).map fun x=>x.1-(gI (YW pl pt) x.2).getD 0).map V.int))) ⟨i',i',O,ae.new hD,ag⟩ ?_ ?_ ?_
   .rintro i τ G' _ ⟨_,_,rfl,bS,_⟩
    exact⟨bS.Vk (sg.Vk hp),bS.Vk (sg.Vk ht)⟩
   .rintro i x y tt τ G' hx hy nt ⟨v1,v2,rfl,bS,cY⟩
    obtain⟨u,v,rfl,rfl,hz⟩:=lJ i x y hx hy
    have s3:ae G' (upd G' tt (.tup [.int u,.int (v:Nat)])):=ae.new nt
    have h3:upd G' tt (.tup [.int u,.int (v:Nat)]) tt=f' (.tup [.int u,.int (v:Nat)]):=ag
    generalize upd G' tt (.tup [.int u,.int (v:Nat)])=G3 at s3 h3 ⊢
    obtain⟨m,em,_⟩:=Xd _ (Rv hz)
    have em:gI (YW pl pt) v=f' m:=em
    have gd:=wf.QaT (v:=v) (s3 _ _ (bS _ _ hG))
    rw[em] at gd
    refine⟨tt,_,O,U4.of h3,O,_,_,O,_,_,O,O,?_⟩
    dsimp only[dQ]
    rw[UN rfl]
    refine⟨_,O,_,O,_,O,d,_,O,gd,_,_,O,O,_,s3 _ _ cY,?_,_,_,O,du hD (bS.trans s3),?_⟩
    .rw[Q9,Q9,Rs,Rh]
     lia
    .rw[ag,cJ hz,Rf,Rf]
     show _=f' (HO.lst (_++[V.int (u-(gI (YW pl pt) v).getD 0)]))
     rw[em]
     rfl
   .rintro τ G' ⟨v1,v2,rfl,bS,cY⟩
    rw[ez,Rz] at cY
    exact k D G' (sg.trans bS) (none_of sg hD) cY
end
namespace Nt
abbrev Vc:=List (Key×V)
def abc:C':="abcdefghijklmnopqrstuvwxyz"
def small (c:Nat):Bool:=!(ZO abc ⟨#[c]⟩ 0 abc.length 1).isEmpty
def dk (n:C'):Bool:=decide (1≤n.length) && decide (n.length≤8) && n.cps.toList.all small
def has (kvs:Vc) (n:C'):Bool:=(a8 kvs (UT n)).isSome
def iT (dh da:F') (nn:Int) (ls lm:F'):List (C'×V):=[("halves",.ref dh),("arrows_by_number",.ref da),("next_number",.int nn),("same_pairs",.ref ls),("most_bounds",.ref lm)]
theorem My {ls:F'}{m:Int}:aR "next_number" (.int m) (iT dh da n ls lm)=iT dh da m ls lm:=by
 have h1:¬ (("halves":C')="next_number"):=by decide +kernel
 have h2:¬ (("arrows_by_number":C')="next_number"):=by decide +kernel
 simp only[iT,aR,h1,h2,VU,WL]
structure Ar where
 num:Int
 one:C'
 other:C'
 span:Int
 weight:Int
def Xe (q:Ar):List V:=[.str q.one,.str q.other,.int q.span,.int q.weight]
def WT (q:Ar):Dt:=.tup [.int q.num,.str q.one,.str q.other,.int q.span,.int q.weight]
def rG (q:C'×C'):Dt:=.tup [.str q.1,.str q.2]
def rD (q:C'×C'×Int):Dt:=.tup [.str q.1,.str q.2.1,.int q.2.2]
def gZ (K:R') (H:Hp):List Ar→Vc→Prop
 | [],kvs=>kvs=[]
 | q::qs,kvs=>∃ t r,kvs=(Va q.num,.ref t)::r∧U4 K H t (Xe q)∧gZ K H qs r
structure Rec where
 dh:F'
 da:F'
 ls:F'
 lm:F'
structure bp where
 kvs:Vc
 arr:List Ar
 nn:Int
 ss:List (C'×C')
 mm:List (C'×C'×Int)
structure bE (K:R') (C:F') (H:Hp) (p:F') (r:Rec) (v:bp):Prop where
 ex:∃ dx,H p=f' (.ins C dx (iT r.dh r.da v.nn r.ls r.lm))
 hh:H r.dh=f' (.dK v.kvs)
 ha:∃ bJ,H r.da=f' (.dK bJ)∧gZ K H v.arr bJ
 hs:∃ xs,H r.ls=f' (.lst xs)∧bv K H (v.ss.map rG) xs
 hm:∃ xs,H r.lm=f' (.lst xs)∧bv K H (v.mm.map rD) xs
 n1:r.da≠r.dh
 n2:r.ls≠r.lm
theorem Qi {n:Nat} (q:Ar):lj (n+1) (WT q):=by cases n<;>exact⟨trivial,trivial,trivial,trivial,trivial,trivial⟩
theorem _root_.L2.Tk.arr {K:R'}{H H':Hp} (e:Tk H H'):∀ {qs:List Ar}{kvs:Vc},gZ K H qs kvs→gZ K H' qs kvs
 | [],_,h=>h
 | q::qs,_,h=>by
  obtain⟨t,r,e1,h1,h2⟩:=h
  exact⟨t,r,e1,e.VP h1,e.arr h2⟩
theorem gZ.length {K:R'}{H:Hp}:∀ {qs:List Ar}{kvs:Vc},gZ K H qs kvs→qs.length=kvs.length
 | [],_,h=>by rw[show _=[] from h];rfl
 | q::qs,_,h=>by
  obtain⟨t,r,rfl,h1,h2⟩:=h
  show qs.length+1=r.length+1
  rw[h2.length]
theorem gZ.get {K:R'}{H:Hp}:∀ {qs:List Ar}{kvs:Vc}{i:Nat}{k:Key}{x:V},gZ K H qs kvs→kvs[i]?=f' (k,x)→∃ q t,qs[i]?=f' q∧k=Va q.num∧x=.ref t∧U4 K H t (Xe q)
 | [],_,i,k,x,h,e=>by rw[show _=[] from h] at e;simp at e
 | q::qs,_,i,k,x,h,e=>by
  obtain⟨t,r,rfl,h1,h2⟩:=h
  cases i with
  | zero=>simp at e;exact⟨q,t,O,e.1.symm,e.2.symm,h1⟩
  | succ i=>exact h2.get (by simpa using e)
theorem gZ.snoc {K:R'}{H:Hp}{q:Ar}{t:F'} (ht:U4 K H t (Xe q)):∀ {qs:List Ar}{kvs:Vc},gZ K H qs kvs→gZ K H (qs++[q]) (kvs++[(Va q.num,.ref t)])
 | [],_,h=>by rw[show _=[] from h];exact⟨t,[],O,ht,O⟩
 | q'::qs,_,h=>by
  obtain⟨t',r,rfl,h1,h2⟩:=h
  exact⟨t',_,O,h1,h2.snoc ht⟩
theorem bE.same {K:R'}{r:Rec}{v:bp} (n:bE K C H p r v) (e:ae H H'):bE K C H' p r v:=by
 obtain⟨⟨dx,h1⟩,h2,⟨bJ,h3,h4⟩,⟨xs,h5,h6⟩,⟨ys,h7,h8⟩,n1,n2⟩:=n
 exact⟨⟨dx,e _ _ h1⟩,e _ _ h2,⟨bJ,e _ _ h3,(Tk.of e).arr h4⟩,⟨xs,e _ _ h5,e.Vf h6⟩,⟨ys,e _ _ h7,e.Vf h8⟩,n1,n2⟩
def Kp (p:F') (r:Rec) (H H':Hp):Prop:=∀ b o,H b=f' o→b≠p→b≠r.dh→b≠r.da→b≠r.ls→b≠r.lm→H' b=f' o
theorem Kp.of {r:Rec} (e:ae H H'):Kp p r H H':=fun b o h _ _ _ _ _=>e b o h
theorem Kp.trans {r:Rec} (a:Kp p r H H1) (b:Kp p r H1 H2):Kp p r H H2:=fun c o h z1 z2 z3 z4 z5=>b c o (a c o h z1 z2 z3 z4 z5) z1 z2 z3 z4 z5
theorem Wu {a:C'}{v:V}{r:List (C'×V)}:(((a,v)::r):List (C'×V)).lookup a=f' v:=by
 rw[Sc,ZK]
theorem Vr {a:C'}{v:V}{r:List (C'×V)} (h:(a == b)=K'):(((b,v)::r):List (C'×V)).lookup a=r.lookup a:=by
 rw[Sc,h]
theorem va {ls:F'}:(iT dh da n ls lm).lookup ("halves":C')=f' (.ref dh):=Wu
theorem rW {ls:F'}:(iT dh da n ls lm).lookup ("arrows_by_number":C')=f' (.ref da):=(Vr (by decide +kernel)).trans Wu
theorem Qnk {ls:F'}:(iT dh da n ls lm).lookup ("next_number":C')=f' (.int n):=(Vr (by decide +kernel)).trans ((Vr (by decide +kernel)).trans Wu)
theorem yW {ls:F'}:(iT dh da n ls lm).lookup ("same_pairs":C')=f' (.ref ls):=(Vr (by decide +kernel)).trans ((Vr (by decide +kernel)).trans ((Vr (by decide +kernel)).trans Wu))
theorem yJ {ls:F'}:(iT dh da n ls lm).lookup ("most_bounds":C')=f' (.ref lm):=(Vr (by decide +kernel)).trans ((Vr (by decide +kernel)).trans ((Vr (by decide +kernel)).trans ((Vr (by decide +kernel)).trans Wu)))
section
variable {K:R'}
inductive OW (vs:List V) (H:Hp) (Q:VK) (bF:XK):Prop
 | mk (n:C') (_:vs=[.str n]) (_:n.length≤1000) (_:∀ H',ae H H'→Q (.bl (dk n)) H')
theorem KN (T:Tx K mg a):Vj P w K mg base Vd 1 "is_name" ["name"] [] OW:=T.Qjf.U8 fun f fd F=>by
 refine F.ok Pi (fun vs H Q E h=>?_) (fun ay A outer s H vs Q E hr h=>?_)
 .obtain⟨n,rfl,_⟩:=h
  rfl
 .obtain⟨n,rfl,hn,k⟩:=h
  have hz:n.length≤S':=RZ hn (by rw[Rh];decide)
  refine⟨_,(ao (aT (PW.pt (ig (gv (eG (bi xN O T.Ws fV (af (pv 0) (af (tK O T.Qcc yN) ai))))) (ig (bb pc (bi uc O T.VW dr (af (pv 0) ai)) au (aY _)) (k9 (bb rC (bi uc O T.VW dr (af (pv 0) ai)) (gb O T.Qj0) (aY _)))))) (ak (aM nC)) aP)
   (ak (aM (bi rA rfl T.Qad sj (af (cG (N:=["sign"]) (cap:=[i']) O (cy (osc:=az xP) (XN:=["name"]) O O (by decide +kernel)) (Dj (pv 0)) (fun cl C s H fp aa=>(aF (i:=0) (show(["sign"]:List C').Nodup by decide +kernel) rfl (by first|exact UR rfl|exact UQ O))) (fun cl C s H fp aa=>cS) (fun cl C s H fp aa=>(kn Ef (pv 0) (E4 O T.Qj7) (by with_unfolding_all rfl)))) ai))))),?_⟩
  refine⟨_,O,_,_,_,_,_,O,O,.str _,T.Qkh,B',O,?_⟩
  refine dP O ?_
  refine⟨_,O,_,O,hz,_,_,O,O,_,O,?_⟩
  refine bg (fun c1=>?_) (fun c1=>?_)
  .have e:dk n=K':=by
    have:(n.length:Int)<1:=RB c1
    simp only[dk,Sq,R9]
    exact .inl (.inl (by lia))
   refine ei ?_
   show Q (.bl K') _
   rw[← e]
   exact k H (ae.refl H)
  .refine⟨_,O,_,O,hz,_,_,O,O,_,O,?_⟩
   have h1:1≤n.length:=by
    have:¬ (n.length:Int)<1:=RM c1
    lia
   refine bg (fun c2=>?_) (fun c2=>?_)
   .have e:dk n=K':=by
     have:(8:Int)<n.length:=RB c2
     simp only[dk,Sq,R9]
     exact .inl (.inr (by lia))
    show Q (.bl K') _
    rw[← e]
    exact k H (ae.refl H)
   .have h2:n.length≤8:=by
     have:¬ (8:Int)<n.length:=RM c2
     lia
    refine⟨_,O,n,O,fun D hD=>?_⟩
    refine Dl (x:=n) (fun i τ H'=>∃ v,τ=[v]∧ae H H'∧H' D=f' (.lst (((n.cps.toList.take i).map small).map V.bl))) ⟨i',rfl,ae.new hD,ag⟩ ?_ ?_
    .rintro i c τ H' hc ⟨v,rfl,sm,hl⟩
     dsimp only[bM,dQ]
     rw[UN rfl]
     refine⟨_,O,_,_,O,O,_,hl,?_,_,O,?_,?_⟩
     .rw[Q9,Q9,Rs,Rh]
      have:n.cps.toList.length=n.length:=by rw[SO];rfl
      lia
     .intro b o e
      rw[aj (aq e hD)]
      exact sm b o e
     .have jr:n.cps.toList[i]?=f' c:=by rw[S3];exact hc
      have ht:n.cps.toList.take (i+1)=n.cps.toList.take i++[c]:=by
       rw[TY,jr]
       rfl
      rw[ag,ht,Rf,Rf]
      rfl
    .rintro τ H' ⟨v,rfl,sm,hl⟩
     refine⟨D,(n.cps.toList.take n.cps.size).map small,O,P'.of hl,?_⟩
     have e:(List.map small (n.cps.toList.take n.cps.size)).all id=dk n:=by
      rw[R5 (by rw[SO];exact Re _),S4]
      simp only[dk,Rp h1,Rp h2,Uu]
      rfl
     rw[e]
     exact k H' sm
inductive Ps (vs:List V) (H:Hp) (Q:VK) (bF:XK):Prop
 | mk (i:_) (_:vs=[.int i]) (_:Q (.bl B') H)
theorem CO (T:Tx K mg a):Vj P w K mg base Vd 1 "is_whole" ["number"] [] Ps:=T.Qjg.U8 fun f fd F=>by
 refine F.ok Qg (fun vs H Q E h=>?_) (fun ay A outer s H vs Q E hr h=>?_)
 .obtain⟨n,rfl,_⟩:=h
  rfl
 .obtain⟨i,rfl,q⟩:=h
  refine⟨_,(ak (aM (ub (bi xN O T.Ws fV (af (pv 0) (af (tK O T.Qcb xO) ai))) (rB (QgS (bi xN O T.Ws fV (af (pv 0) (af (tK O T.Qm3 J3) ai)))))))),?_⟩
  refine⟨_,O,_,_,_,_,_,O,O,.int _,T.Qki,B',O,?_⟩
  refine ei ?_
  exact⟨_,O,_,_,_,_,_,O,O,.int _,T.Qkj,K',O,q⟩
inductive Pf (vs:List V) (H:Hp) (Q:VK) (bF:XK):Prop
 | mk (i l g:_) (_:vs=[.int i,.int l,.int g]) (_:Q (.bl (decide (l≤i) && decide (i≤g))) H)
theorem rj (T:Tx K mg a):Vj P w K mg base Vd 2 "in_range" ["number","least","greatest"] [] Pf:=T.Qjh.U8 fun f fd F=>by
 have cq:=CO (P:=P) (w:=w) (base:=base) T
 refine F.ok Mr (fun vs H Q E h=>?_) (fun ay A outer s H vs Q E hr h=>?_)
 .obtain⟨n,_,_,rfl,_⟩:=h
  rfl
 .obtain⟨i,l,g,rfl,q⟩:=h
  refine⟨_,(ak (aM (ub (bB cq (hr.mono (by decide)) rfl (af (pv 0) ai)) (ub (kn oW (pv 0) (pv 1) (aY _)) (rB (kn Qdi (pv 0) (pv 2) (aY _))))))),?_⟩
  refine⟨_,O,_,O,B',O,?_⟩
  refine ei ?_
  refine⟨_,O,_,O,_,_,O,O,_,O,?_⟩
  refine bg (fun c=>?_) (fun c=>?_)
  .refine⟨_,O,_,O,_,_,O,O,?_⟩
   rw[c] at q
   exact q
  .rw[c] at q
   exact q
theorem K5 {x y:F'}{o:HO}:upd H x o y=i'↔y≠x∧H y=i':=by
 unfold upd
 by_cases h:y=x<;>simp[h]
theorem nQ {x y:F'}{o:HO}:upd H x o y=if y=x then f' o else H y:=rfl
theorem KH {ls:F'}:aR "most_bounds" (.ref lm) (aR "same_pairs" (.ref ls) (aR "next_number" (.int 0) (aR "arrows_by_number" (.ref da) (aR "halves" (.ref dh) []))))=iT dh da 0 ls lm:=by
 have h1:¬ (("halves":C')="arrows_by_number"):=by decide +kernel
 have h2:¬ (("halves":C')="next_number"):=by decide +kernel
 have h3:¬ (("halves":C')="same_pairs"):=by decide +kernel
 have h4:¬ (("halves":C')="most_bounds"):=by decide +kernel
 have h5:¬ (("arrows_by_number":C')="next_number"):=by decide +kernel
 have h6:¬ (("arrows_by_number":C')="same_pairs"):=by decide +kernel
 have h7:¬ (("arrows_by_number":C')="most_bounds"):=by decide +kernel
 have h8:¬ (("next_number":C')="same_pairs"):=by decide +kernel
 have h9:¬ (("next_number":C')="most_bounds"):=by decide +kernel
 have h0:¬ (("same_pairs":C')="most_bounds"):=by decide +kernel
 simp only[aR,h1,h2,h3,h4,h5,h6,h7,h8,h9,h0,VU]
 rfl
def VS:bp:=⟨[],[],0,[],[]⟩
inductive KJ (K:R') (C:F') (vs:List V) (H:Hp) (Q:VK) (bF:XK):Prop
 | mk (p dx:_) (_:vs=[.ref p]) (_:H p=f' (.ins C dx [])) (_:∀ r H',(∀ b o,H b=f' o→b≠p→H' b=f' o)→(∀ b o,H b=f' o→b≠r.dh∧b≠r.da∧b≠r.ls∧b≠r.lm)→bE K C H' p r VS→Q .UU H')
theorem yt (T:Tx K mg a):nN P w K mg base Vd 1 a.Net "Net" ["self"] (KJ K a.Net):=T.YS.U8 fun f fd F=>by
 refine F.ok Ql (fun vs H Q E h=>?_) (fun ay A outer s H vs Q E hr h=>?_)
 .obtain⟨p,dx,rfl,_⟩:=h
  rfl
 .obtain⟨p,dx,rfl,hp,k⟩:=h
  refine⟨_,(ao (eh (pv 0) sr O)
   (ao (eh (pv 0) sr rfl)
   (ao (eh (pv 0) au rfl)
   (ao (eh (pv 0) (bY ai) rfl)
   (ak (eh (pv 0) (bY ai) rfl)))))),?_⟩
  refine fun d1 n1=>⟨_,O,p,a.Net,dx,[],O,by rw[aj (aq hp n1)];exact hp,T.Vg,T.Z8,by decide,?_⟩
  refine fun d2 n2=>⟨_,O,p,a.Net,dx,_,O,by rw[aj (aq ag n2)];exact ag,T.Vg,T.Zq,by show 1<1000;decide,?_⟩
  refine⟨_,O,p,a.Net,dx,_,O,ag,T.Vg,T.QbV,by show 2<1000;decide,?_⟩
  refine⟨by show 0≤S';decide,fun l1 n3=>⟨_,O,p,a.Net,dx,_,O,by rw[aj (aq ag n3)];exact ag,T.Vg,T.QaL,by show 3<1000;decide,?_⟩⟩
  refine⟨by show 0≤S';decide,fun l2 n4=>⟨_,O,p,a.Net,dx,_,O,by rw[aj (aq ag n4)];exact ag,T.Vg,T.QaK,by show 4<1000;decide,?_⟩⟩
  have p1:p≠d1:=aq hp n1
  simp only[K5] at n2 n3 n4
  show Q .UU _
  rw[KH]
  have ne:∀ b o,H b=f' o→∀ c,H c=i'→b≠c:=fun b o e c h z=>by rw[z,h] at e;cases e
  refine k ⟨d1,d2,l1,l2⟩ _ (fun b o e hb=>?_) (fun b o e=>⟨ne b o e _ n1,ne b o e _ n2.2.2,ne b o e _ n3.2.2.2.2.2,ne b o e _ n4.2.2.2.2.2.2.2⟩) ⟨⟨dx,ag⟩,?_,⟨[],?_,O⟩,⟨[],?_,O⟩,⟨[],?_,O⟩,n2.2.1,US n4.2.1⟩
  .simp[nQ,hb,ne b o e _ n1,ne b o e _ n2.2.2,ne b o e _ n3.2.2.2.2.2,ne b o e _ n4.2.2.2.2.2.2.2,e]
  .show _=f' (HO.dK [])
   simp[nQ,US p1,US n2.2.1,US n3.2.2.2.2.1,US n4.2.2.2.2.2.2.1]
  .simp[nQ,n2,US n3.2.2.1,US n4.2.2.2.2.1]
  .simp[nQ,n3,US n4.2.1]
  .simp[nQ,n4]
inductive tU (C:F') (f:C') (vs:List V) (H:Hp) (Q:VK) (bF:XK):Prop
 | mk (x t y:_) (_:vs=[.ref x,y]) (_:H x=f' (cz C t x i')) (_:∀ dx,H dx=i'→Q .UU (upd (upd H dx (.xd [(f,y)])) x (cz C t x (f' dx))))
theorem zm (T:Tx K mg a):lW P w K mg base Vd 1 a.NoPoint "NoPoint" ["self","name"] (tU a.NoPoint "name"):=T.Qi7.U8 fun f fd F=>by
 refine F.ok Mi (fun vs H Q E h=>?_) (fun ay A outer s H vs Q E hr h=>?_)
 .obtain⟨x,t,y,rfl,_⟩:=h
  rfl
 .obtain⟨x,t,y,rfl,hx,k⟩:=h
  refine⟨_,(ak (uj (pv 0) (pv 1) O)),?_⟩
  exact⟨_,O,_,O,x,a.NoPoint,t,O,hx,T.Qi8,fun dx nd=>k dx nd⟩
def jE (kvs:Vc):List V:=kvs.map fun kv=>kV kv.1
inductive LU (K:R') (C:F') (vs:List V) (H:Hp) (Q:VK) (bF:XK):Prop
 | mk (p r v:_) (_:vs=[.ref p]) (_:bE K C H p r v) (_:∀ l,H l=i'→Q (.ref l) (upd H l (.lst (jE v.kvs))))
theorem pb (T:Tx K mg a):dI P w K mg base Vd 1 a.Net "points" ["self"] [] (LU K a.Net):=T.W1.U8 fun f fd F=>by
 refine F.ok Nf (fun vs H Q E h=>?_) (fun ay A outer s H vs Q E hr h=>?_)
 .obtain⟨p,r,v,rfl,_⟩:=h
  rfl
 .obtain⟨p,r,v,rfl,N,k⟩:=h
  obtain⟨dx,hp⟩:=N.ex
  refine⟨_,(ak (aM (mh OV O T.QaS uw (af (bw (pv 0) O) ai)))),?_⟩
  exact⟨_,O,p,a.Net,dx,_,_,O,hp,T.Vg,T.Z8,va,r.dh,v.kvs,O,N.hh,fun l hl=>k l hl⟩
inductive Er where
 | name | taken | point (n:C') | alone | number | many | such (i:Int)
def kZ (a:Vm) (E:XK):Er→Hp→Prop
 | .name,H=>E (.ref a.NoName) i' H
 | .taken,H=>E (.ref a.Taken) i' H
 | .point n,H=>∀ dx,H dx=f' (.xd [("name",.str n)])→E (.ref a.NoPoint) (f' dx) H
 | .alone,H=>E (.ref a.Alone) i' H
 | .number,H=>E (.ref a.NoNumber) i' H
 | .many,H=>E (.ref a.TooMany) i' H
 | .such i,H=>∀ dx,H dx=f' (.xd [("number",.int i)])→E (.ref a.NoSuch) (f' dx) H
def di (kvs:Vc) (n:C') (h:Int):Option Er:=
 if dk n=K' then f' .name else if has kvs n=B' then f' .taken else if h<0∨50<h then f' .number else if 20≤kvs.length then f' .many else i'
inductive xI (K:R') (a:Vm) (vs:List V) (H:Hp) (Q:VK) (E:XK):Prop
 | mk (p r v n h:_) (_:vs=[.ref p,.str n,.int h]) (_:n.length≤1000) (_:bE K a.Net H p r v) (_:v.kvs.length≤1000) (_:(∀ er,di v.kvs n h=f' er→∀ H',ae H H'→kZ a E er H')) (_:(di v.kvs n h=i'→∀ H',Kp p r H H'→bE K a.Net H' p r {v with kvs:=v.kvs++[(UT n,.int h)]}→Q .UU H'))
theorem EE (T:Tx K mg a) (f:F') (fd:WV) (F:gk K "put_point" "Net.put_point" uI f fd):cE P w K mg base (Vt P w) 3 f fd ["self","name","half"] (xI K a):=by
 have iF:=KN (P:=P) (w:=w) (base:=base) T
 have aD:=rj (P:=P) (w:=w) (base:=base) T
 refine F.VZ J8 (fun vs H Q E h=>?_) (fun ay A outer s H vs Q E hr h=>?_)
 .obtain⟨p,r,v,n,h,rfl,_⟩:=h
  rfl
 .obtain⟨p,r,v,n,h,rfl,hn,N,hk,k1,k2⟩:=h
  refine⟨_,(ao (aT (gv (eG (bB iF (hr.mono (by decide)) rfl (af (pv 1) ai)))) (ak (io aU T.QiH rfl T.QdO)) aP)
   (ao (aT (j9 (QhI (cM hr) (pv 1) (bw (pv 0) rfl))) (ak (io aU T.QiJ rfl T.QdP)) aP)
   (ao (aT (gv (eG (bB aD (hr.mono (by decide)) rfl (af (pv 2) (af au (af (gb rfl T.Qj8) ai)))))) (ak (io aU T.QbT rfl T.QaI)) aP)
   (ao (aT (bb oW (bi Ca rfl T.VW dr (af (bw (pv 0) rfl) ai)) (gb rfl T.Qj5) (aY _)) (ak (io aU T.QaJ rfl T.Z7)) aP)
   (ak (rn (cM hr) (bw (pv 0) rfl) (pv 1) (pv 2) rfl)))))),?_⟩
  refine⟨_,O,n,O,hn,fun H1 s1=>⟨_,O,?_⟩⟩
  have N1:=N.same s1
  obtain⟨dx,hp⟩:=N1.ex
  refine bg (fun c=>?_) (fun c=>?_)
  .have c':dk n=K':=by simpa using c
   exact⟨by show 0≤S';decide,k1 .name (by simp only[di,UN c']) H1 s1⟩
  have c1:¬ dk n=K':=by
   have:dk n=B':=by simpa using c
   rw[this];decide
  refine⟨_,O,_,O,p,a.Net,dx,_,_,O,hp,T.Vg,T.Z8,va,r.dh,_,O,ci.k (k:=UT n) N1.hh,_,O,?_⟩
  refine bg (fun c=>?_) (fun c=>?_)
  .have c':has v.kvs n=B':=c
   exact⟨by show 0≤S';decide,k1 .taken (by simp only[di,UL c1,UN c']) H1 s1⟩
  have c2:¬ has v.kvs n=B':=by rw[show has v.kvs n=K' from c];decide
  refine⟨_,O,h,0,50,O,_,O,?_⟩
  refine bg (fun c=>?_) (fun c=>?_)
  .have c':h<0∨50<h:=by
    simp only[Sw,Sq,R9] at c
    lia
   exact⟨by show 0≤S';decide,k1 .number (by simp only[di,UL c1,UL c2,UN c']) H1 s1⟩
  have c3:¬ (h<0∨50<h):=by
   simp only[Tj,Rt,Sx] at c
   lia
  refine⟨_,O,p,a.Net,dx,_,_,O,hp,T.Vg,T.Z8,va,r.dh,v.kvs,O,N1.hh,_,_,O,O,_,O,?_⟩
  refine bg (fun c=>?_) (fun c=>?_)
  .have c':20≤v.kvs.length:=by
    have:(20:Int)≤v.kvs.length:=RB c
    lia
   exact⟨by show 0≤S';decide,k1 .many (by simp only[di,UL c1,UL c2,UL c3,UN c']) H1 s1⟩
  have c4:¬ 20≤v.kvs.length:=by
   have:¬ (20:Int)≤v.kvs.length:=RM c
   lia
  refine⟨_,O,_,O,p,a.Net,dx,_,_,O,hp,T.Vg,T.Z8,va,_,O,r.dh,_,O,pk.k (k:=UT n) N1.hh (by rw[Rh];lia),?_⟩
  show Q .UU _
  have e:a8 v.kvs (UT n)=i':=by
   have:(a8 v.kvs (UT n)).isSome=K':=c2 |> fun z=>by simpa [has] using z
   simpa using this
  rw[rS (.int h) e]
  refine k2 (by simp only[di,UL c1,UL c2,UL c3,UL c4]) _ (fun b o q _ z2 _ _ _=>by rw[aj z2];exact s1 _ _ q) ?_
  obtain⟨_,h2,⟨bJ,h3,h4⟩,⟨xs,h5,h6⟩,⟨ys,h7,h8⟩,n1,n2⟩:=N1
  have tk:Tk H1 (upd H1 r.dh (.dK (v.kvs++[(UT n,.int h)]))):=Tk.upd h2 rfl
  exact⟨⟨dx,by rw[aj (bN hp h2 (by intro z;cases z))];exact hp⟩,ag,⟨bJ,by rw[aj n1];exact h3,tk.arr h4⟩,⟨xs,by rw[aj (bN h5 h2 (by intro z;cases z))];exact h5,tk.Vf (cw (fun _=>O) _) h6⟩,
   ⟨ys,by rw[aj (bN h7 h2 (by intro z;cases z))];exact h7,tk.Vf (cw (fun _=>O) _) h8⟩,n1,n2⟩
theorem CZ (T:Tx K mg a):dI P w K mg base (Vt P w) 3 a.Net "put_point" ["self","name","half"] [] (xI K a):=T.Zs.U8 fun f fd F=>EE T f fd F
inductive Qnl (K:R') (a:Vm) (vs:List V) (H:Hp) (Q:VK) (E:XK):Prop
 | mk (p r v n:_) (_:vs=[.ref p,.str n]) (_:bE K a.Net H p r v) (_:(has v.kvs n=B'→∀ H',ae H H'→Q .UU H')) (_:(has v.kvs n=K'→∀ H',ae H H'→kZ a E (.point n) H'))
theorem D7 (n:C'):∀ kvs:Vc,X5 (.str n) (jE kvs)=has kvs n
 | []=>rfl
 | (k,v)::r=>by
  have ih:=D7 n r
  show(WR (kV k) (.str n) || X5 (.str n) (jE r))=has ((k,v)::r) n
  rw[ih]
  cases k with
  | inl i=>
   have:¬ (Va i:Key)=UT n:=by intro z;cases z
   unfold has
   rw[cv (p:=(Va i,v)) this]
   rfl
  | inr m=>
   by_cases h:m=n
   .subst h
    unfold has
    rw[dm (p:=(UT m,v)) rfl]
    simp[kV,WR]
   .have:¬ (UT m:Key)=UT n:=by intro z;cases z;exact h rfl
    unfold has
    rw[cv (p:=(UT m,v)) this]
    simp[kV,WR,h]
theorem Cr:∀ kvs:Vc,(jE kvs).all jh=B'
 | []=>rfl
 | (k,v)::r=>by
  show(jh (kV k) && (jE r).all jh)=B'
  rw[Cr r]
  cases k<;>rfl
theorem OK (T:Tx K mg a):dI P w K mg base (Vt P w) 3 a.Net "need_point" ["self","name"] [] (Qnl K a):=T.QaO.U8 fun f fd F=>by
 have W1:=pb (P:=P) (w:=w) (base:=base) T
 have bD:=zm (P:=P) (w:=w) (base:=base) T
 refine F.VZ P7 (fun vs H Q E h=>?_) (fun ay A outer s H vs Q E hr h=>?_)
 .obtain⟨p,r,v,n,rfl,_⟩:=h
  rfl
 .obtain⟨p,r,v,n,rfl,N,k1,k2⟩:=h
  obtain⟨dx,hp⟩:=N.ex
  refine⟨_,(ak (aT (bb OH (pv 1) (jj (pv 0) T.Vg W1 (hr.mono (by decide))) (by with_unfolding_all rfl)) (ak (j7 aU bD (hr.mono (by decide)) rfl (af (pv 1) ai))) aP)),?_⟩
  refine⟨_,O,_,O,p,dx,_,O,hp,by rfl,p,r,v,O,N,fun l hl=>⟨l,_,O,.inl (P'.of ag),O,Cr v.kvs,_,O,?_⟩⟩
  rw[D7]
  refine bg (fun c=>?_) (fun c=>?_)
  .have c':has v.kvs n=K':=by simpa using c
   refine⟨_,O,by show 1≤S';decide,fun x t hx=>⟨x,t,_,O,ag,fun d nd=>⟨O,f' d,ag,?_⟩⟩⟩
   have xd:d≠x:=fun z=>by rw[z,ag] at nd;cases nd
   have e:del (upd (upd (upd (upd H l (.lst (jE v.kvs))) x (cz a.NoPoint t x i')) d (.xd [("name",.str n)])) x (cz a.NoPoint t x (f' d))) x=upd (upd H l (.lst (jE v.kvs))) d (.xd [("name",.str n)]):=by
    funext b
    unfold del
    by_cases h1:b=x
    .subst h1
     rw[UN rfl,aj (US xd),hx]
    .rw[UL h1,aj h1]
     by_cases h2:b=d
     .subst h2;rw[ag,ag]
     .rw[aj h2,aj h1,aj h2]
   show E _ _ _
   rw[e]
   have iH:upd H l (.lst (jE v.kvs)) d=i':=by rw[aj xd] at nd;exact nd
   exact k2 c' _ ((ae.new hl).trans (ae.new iH)) d ag
  .have c':has v.kvs n=B':=by simpa using c
   exact k1 c' _ (ae.new hl)
end
section
variable {K:R'}
theorem Eb (h:U4 K H q [.str o,.str t]):VI K H (rG (o,t)) (.ref q):=⟨q,_,O,h,_,_,O,O,_,_,O,O,O⟩
theorem Dh (h:U4 K H q [.str o,.str t,.int n]):VI K H (rD (o,t,n)) (.ref q):=⟨q,_,O,h,_,_,O,O,_,_,O,O,_,_,O,O,O⟩
theorem yH {x:Ar} (h:U4 K H q (.int x.num::Xe x)):VI K H (WT x) (.ref q):=⟨q,_,O,h,_,_,O,O,_,_,O,O,_,_,O,O,_,_,O,O,_,_,O,O,O⟩
theorem EW (h:VI K H (rG (o,t)) x):∃ q,x=.ref q∧U4 K H q [.str o,.str t]:=by
 obtain⟨q,xs,rfl,h1,y1,ww,rfl,rfl,y2,sW,rfl,rfl,h2⟩:=h
 rw[show sW=[] from h2] at h1
 exact⟨q,O,h1⟩
theorem FX (h:VI K H (rD (o,t,n)) x):∃ q,x=.ref q∧U4 K H q [.str o,.str t,.int n]:=by
 obtain⟨q,xs,rfl,h1,y1,ww,rfl,rfl,y2,sW,rfl,rfl,y3,xj,rfl,rfl,h2⟩:=h
 rw[show xj=[] from h2] at h1
 exact⟨q,O,h1⟩
def two (kvs:Vc) (o t:C'):Option Er:=
 if has kvs o=K' then f' (.point o) else if has kvs t=K' then f' (.point t) else if o=t then f' .alone else i'
inductive Qnm (K:R') (a:Vm) (vs:List V) (H:Hp) (Q:VK) (E:XK):Prop
 | mk (p r v o t:_) (_:vs=[.ref p,.str o,.str t]) (_:bE K a.Net H p r v) (_:(two v.kvs o t=i'→∀ H',ae H H'→Q .UU H')) (_:(∀ er,two v.kvs o t=f' er→∀ H',ae H H'→kZ a E er H'))
theorem zI (T:Tx K mg a):dI P w K mg base (Vt P w) 4 a.Net "need_two_points" ["self","one","other"] [] (Qnm K a):=T.YU.U8 fun f fd F=>by
 have QaO:=OK (P:=P) (w:=w) (base:=base) T
 refine F.VZ MD (fun vs H Q E h=>?_) (fun ay A outer s H vs Q E hr h=>?_)
 .obtain⟨p,r,v,o,t,rfl,_⟩:=h
  rfl
 .obtain⟨p,r,v,o,t,rfl,N,k1,k2⟩:=h
  obtain⟨dx,hp⟩:=N.ex
  refine⟨_,(ao (bo (eu (pv 0) T.Vg QaO aU (hr.mono (by decide)) (af (pv 1) ai)))
   (ao (bo (eu (pv 0) T.Vg QaO aU (hr.mono (by decide)) (af (pv 2) ai)))
   (ak (aT (bb cF (pv 1) (pv 2) (aY _)) (ak (io aU T.QiL rfl T.QdQ)) aP)))),?_⟩
  refine⟨_,O,p,dx,_,O,hp,by rfl,_,O,p,r,v,o,O,N,fun c1 H1 s1=>?_,fun c=>k2 _ (by simp only[two,UN c])⟩
  have wT:¬ has v.kvs o=K':=by rw[c1];decide
  refine⟨_,O,p,dx,_,O,s1 _ _ hp,by rfl,_,O,p,r,v,t,O,N.same s1,fun c2 H2 s2=>?_,fun c H2 s2=>k2 _ (by simp only[two,UL wT,UN c]) H2 (s1.trans s2)⟩
  have A6:¬ has v.kvs t=K':=by rw[c2];decide
  refine⟨_,O,_,O,O,_,O,?_⟩
  refine bg (fun c=>?_) (fun c=>?_)
  .have c3:o=t:=by simpa using c
   exact⟨by show 0≤S';decide,k2 .alone (by simp only[two,UL wT,UL A6,UN c3]) H2 (s1.trans s2)⟩
  .have c3:¬ o=t:=by simpa using c
   exact k1 (by simp only[two,UL wT,UL A6,UL c3]) H2 (s1.trans s2)
def bad:Option Int→Bool
 | none=>K'
 | some n=>decide (n<0) || decide (99<n)
def lim (kvs:Vc) (m:Nat) (o t:C') (nh:Option Int):Option Er:=
 match two kvs o t with
 | some er=>f' er
 | none=>if bad nh=B' then f' .number else if 20≤m then f' .many else i'
theorem tZ {kvs:Vc}{er:Er} (h:two kvs o t=f' er):lim kvs m o t nh=f' er:=by unfold lim;rw[h]
theorem FI {kvs:Vc} (h:two kvs o t=i'):lim kvs m o t nh=if bad nh=B' then f' .number else if 20≤m then f' .many else i':=by unfold lim;rw[h]
inductive Qnn (K:R') (a:Vm) (vs:List V) (H:Hp) (Q:VK) (E:XK):Prop
 | mk (p r v o t:_) (_:vs=[.ref p,.str o,.str t]) (_:bE K a.Net H p r v) (_:v.ss.length≤1000) (_:(lim v.kvs v.ss.length o t i'=i'→∀ H',Kp p r H H'→bE K a.Net H' p r {v with ss:=v.ss++[(o,t)]}→Q .UU H')) (_:(∀ er,lim v.kvs v.ss.length o t i'=f' er→∀ H',ae H H'→kZ a E er H'))
theorem CK (T:Tx K mg a):dI P w K mg base (Vt P w) 5 a.Net "put_same" ["self","one","other"] [] (Qnn K a):=T.Qab.U8 fun f fd F=>by
 have YU:=zI (P:=P) (w:=w) (base:=base) T
 refine F.VZ K4 (fun vs H Q E h=>?_) (fun ay A outer s H vs Q E hr h=>?_)
 .obtain⟨p,r,v,o,t,rfl,_⟩:=h
  rfl
 .obtain⟨p,r,v,o,t,rfl,N,hk,k1,k2⟩:=h
  obtain⟨dx,hp⟩:=N.ex
  refine⟨_,(ao (bo (eu (pv 0) T.Vg YU aU (hr.mono (by decide)) (af (pv 1) (af (pv 2) ai))))
   (ao (aT (bb oW (bi fg rfl T.VW dr (af (bw (pv 0) rfl) ai)) (gb rfl T.Qj6) (aY _)) (ak (io aU T.QaJ rfl T.Z7)) aP)
   (ak (bo (eA Wa Wv WE fS (bw (pv 0) rfl) (af (gj (af (pv 1) (af (pv 2) ai))) ai)))))),?_⟩
  refine⟨_,O,p,dx,_,O,hp,by rfl,_,O,_,O,p,r,v,o,t,O,N,fun c1 H1 s1=>?_,fun er c=>k2 er (tZ c)⟩
  rw[FI c1] at k1 k2
  have N1:=N.same s1
  obtain⟨xs,h5,h6⟩:=N1.hs
  have aB:=s1 _ _ hp
  have hl:xs.length=v.ss.length:=by rw[← h6.length,Q9]
  refine⟨_,O,p,a.Net,dx,_,_,O,aB,T.Vg,T.QaL,yW,r.ls,xs,O,.inl (P'.of h5),_,_,O,O,_,O,?_⟩
  refine bg (fun c=>?_) (fun c=>?_)
  .have c':20≤v.ss.length:=by
    have:(20:Int)≤xs.length:=RB c
    lia
   exact⟨by show 0≤S';decide,k2 .many (by rw[UL (show ¬ bad i'=B' by decide),UN c']) H1 s1⟩
  have c':¬ 20≤v.ss.length:=by
   have:¬ (20:Int)≤xs.length:=RM c
   lia
  refine⟨_,O,p,a.Net,dx,_,_,O,aB,T.Vg,T.QaL,yW,.inl ⟨O,_,P'.of h5⟩,_,O,_,O,(by show 2≤S';decide),fun q nq=>?_⟩
  have s2:ae H1 (upd H1 q (.tup [.str o,.str t])):=ae.new nq
  have hq:U4 K (upd H1 q (.tup [.str o,.str t])) q [.str o,.str t]:=U4.of ag
  generalize upd H1 q (.tup [.str o,.str t])=H2 at s2 hq ⊢
  refine⟨r.ls,xs,_,O,O,s2 _ _ h5,by rw[Rh];lia,?_⟩
  refine k1 (by rw[UL (show ¬ bad i'=B' by decide),UL c']) _ (fun b u e _ _ _ z4 _=>by rw[aj z4];exact s2 _ _ (s1 _ _ e)) ?_
  obtain⟨⟨jw,dv⟩,h2,⟨bJ,h3,h4⟩,⟨Ir,kC,IC⟩,⟨ys,h7,h8⟩,n1,n2⟩:=N1.same s2
  have tk:Tk H2 (upd H2 r.ls (.lst (xs++[.ref q]))):=Tk.upd kC rfl
  exact⟨⟨jw,by rw[aj (bN dv kC (by intro z;cases z))];exact dv⟩,by rw[aj (bN h2 kC (by intro z;cases z))];exact h2,⟨bJ,by rw[aj (bN h3 kC (by intro z;cases z))];exact h3,tk.arr h4⟩,
   ⟨_,ag,by rw[Rf];exact bv.snoc (Eb (tk.VP hq)) (tk.Vf (cw (fun _=>O) _) (s2.Vf h6))⟩,⟨ys,by rw[aj (US n2)];exact h7,tk.Vf (cw (fun _=>O) _) h8⟩,n1,n2⟩
inductive Qno (K:R') (a:Vm) (vs:List V) (H:Hp) (Q:VK) (E:XK):Prop
 | mk (p r v o t n:_) (_:vs=[.ref p,.str o,.str t,.int n]) (_:bE K a.Net H p r v) (_:v.mm.length≤1000) (_:(lim v.kvs v.mm.length o t (f' n)=i'→∀ H',Kp p r H H'→bE K a.Net H' p r {v with mm:=v.mm++[(o,t,n)]}→Q .UU H')) (_:(∀ er,lim v.kvs v.mm.length o t (f' n)=f' er→∀ H',ae H H'→kZ a E er H'))
theorem Nl (T:Tx K mg a):dI P w K mg base (Vt P w) 5 a.Net "put_most" ["self","one","other","number"] [] (Qno K a):=T.Qb0.U8 fun f fd F=>by
 have YU:=zI (P:=P) (w:=w) (base:=base) T
 have aD:=rj (P:=P) (w:=w) (base:=base) T
 refine F.VZ Qx (fun vs H Q E h=>?_) (fun ay A outer s H vs Q E hr h=>?_)
 .obtain⟨p,r,v,o,t,n,rfl,_⟩:=h
  rfl
 .obtain⟨p,r,v,o,t,n,rfl,N,hk,k1,k2⟩:=h
  obtain⟨dx,hp⟩:=N.ex
  refine⟨_,(ao (bo (eu (pv 0) T.Vg YU aU (hr.mono (by decide)) (af (pv 1) (af (pv 2) ai))))
   (ao (aT (gv (eG (bB aD (hr.mono (by decide)) rfl (af (pv 3) (af au (af (gb rfl T.QjW) ai)))))) (ak (io aU T.QbT rfl T.QaI)) aP)
   (ao (aT (bb oW (bi fg rfl T.VW dr (af (bw (pv 0) rfl) ai)) (gb rfl T.Qj4) (aY _)) (ak (io aU T.QaJ rfl T.Z7)) aP)
   (ak (bo (eA Wa Wv WE fS (bw (pv 0) rfl) (af (gj (af (pv 1) (af (pv 2) (af (pv 3) ai)))) ai))))))),?_⟩
  refine⟨_,O,p,dx,_,O,hp,by rfl,_,O,_,O,p,r,v,o,t,O,N,fun c1 H1 s1=>?_,fun er c=>k2 er (tZ c)⟩
  rw[FI c1] at k1 k2
  have N1:=N.same s1
  obtain⟨xs,h5,h6⟩:=N1.hm
  have aB:=s1 _ _ hp
  have hl:xs.length=v.mm.length:=by rw[← h6.length,Q9]
  refine⟨_,O,n,0,99,O,_,O,?_⟩
  refine bg (fun c=>?_) (fun c=>?_)
  .have c':bad (f' n)=B':=by
    simp only[Sw,Sq,R9] at c
    simp only[bad,SW,Sx]
    lia
   exact⟨by show 0≤S';decide,k2 .number (by rw[UN c']) H1 s1⟩
  have c3:¬ bad (f' n)=B':=by
   simp only[Tj,Rt,Sx] at c
   simp only[bad,SW,Sx]
   lia
  rw[UL c3] at k1 k2
  refine⟨_,O,p,a.Net,dx,_,_,O,aB,T.Vg,T.QaK,yJ,r.lm,xs,O,.inl (P'.of h5),_,_,O,O,_,O,?_⟩
  refine bg (fun c=>?_) (fun c=>?_)
  .have c':20≤v.mm.length:=by
    have:(20:Int)≤xs.length:=RB c
    lia
   exact⟨by show 0≤S';decide,k2 .many (by rw[UN c']) H1 s1⟩
  have c':¬ 20≤v.mm.length:=by
   have:¬ (20:Int)≤xs.length:=RM c
   lia
  refine⟨_,O,p,a.Net,dx,_,_,O,aB,T.Vg,T.QaK,yJ,.inl ⟨O,_,P'.of h5⟩,_,O,_,O,_,O,(by show 3≤S';decide),fun q nq=>?_⟩
  have s2:ae H1 (upd H1 q (.tup [.str o,.str t,.int n])):=ae.new nq
  have hq:U4 K (upd H1 q (.tup [.str o,.str t,.int n])) q [.str o,.str t,.int n]:=U4.of ag
  generalize upd H1 q (.tup [.str o,.str t,.int n])=H2 at s2 hq ⊢
  refine⟨r.lm,xs,_,O,O,s2 _ _ h5,by rw[Rh];lia,?_⟩
  refine k1 (by rw[UL c']) _ (fun b u e _ _ _ _ z5=>by rw[aj z5];exact s2 _ _ (s1 _ _ e)) ?_
  obtain⟨⟨jw,dv⟩,h2,⟨bJ,h3,h4⟩,⟨ys,h7,h8⟩,⟨Ir,kC,IC⟩,n1,n2⟩:=N1.same s2
  have tk:Tk H2 (upd H2 r.lm (.lst (xs++[.ref q]))):=Tk.upd kC rfl
  exact⟨⟨jw,by rw[aj (bN dv kC (by intro z;cases z))];exact dv⟩,by rw[aj (bN h2 kC (by intro z;cases z))];exact h2,⟨bJ,by rw[aj (bN h3 kC (by intro z;cases z))];exact h3,tk.arr h4⟩,
   ⟨ys,by rw[aj n2];exact h7,tk.Vf (cw (fun _=>O) _) h8⟩,⟨_,ag,by rw[Rf];exact bv.snoc (Dh (tk.VP hq)) (tk.Vf (cw (fun _=>O) _) (s2.Vf h6))⟩,n1,n2⟩
def jZ (v:bp) (o t:C') (sp wt:Int):Option Er:=
 match two v.kvs o t with
 | some er=>f' er
 | none=>if (sp<1∨20<sp)∨(wt<1∨1000000<wt) then f' .number else if 40≤v.arr.length then f' .many else i'
theorem xX {v:bp}{wt:Int}{er:Er} (h:two v.kvs o t=f' er):jZ v o t sp wt=f' er:=by unfold jZ;rw[h]
theorem CC {v:bp}{wt:Int} (h:two v.kvs o t=i'):jZ v o t sp wt=if (sp<1∨20<sp)∨(wt<1∨1000000<wt) then f' .number else if 40≤v.arr.length then f' .many else i':=by unfold jZ;rw[h]
inductive zK (K:R') (a:Vm) (vs:List V) (H:Hp) (Q:VK) (E:XK):Prop
 | mk (p r v o t sp wt:_) (_:vs=[.ref p,.str o,.str t,.int sp,.int wt]) (_:bE K a.Net H p r v) (_:v.arr.length≤1000) (_:(∀ q∈v.arr,q.num<v.nn)) (_:(jZ v o t sp wt=i'→∀ H',Kp p r H H'→bE K a.Net H' p r {v with arr:=v.arr++[⟨v.nn,o,t,sp,wt⟩],nn:=v.nn+1}→Q (.int v.nn) H')) (_:(∀ er,jZ v o t sp wt=f' er→∀ H',ae H H'→kZ a E er H'))
theorem CA {H:Hp}{n:Int}:∀ {qs:List Ar}{kvs:Vc},gZ K H qs kvs→(∀ q∈qs,q.num<n)→a8 kvs (Va n)=i'
 | [],_,h,_=>by rw[show _=[] from h];rfl
 | q::qs,_,h,l=>by
  obtain⟨t,r,rfl,h1,h2⟩:=h
  have ne:¬ (Va q.num:Key)=Va n:=fun z=>by
   have:=l q Rx
   cases z
   lia
  rw[cv (p:=(Va q.num,V.ref t)) ne]
  exact CA h2 fun q' cQ=>l q' (Rk _ cQ)
theorem ES (T:Tx K mg a) (f:F') (fd:WV) (F:gk K "put_arrow" "Net.put_arrow" rK f fd):cE P w K mg base (Vt P w) 5 f fd ["self","one","other","span","weight"] (zK K a):=by
 have YU:=zI (P:=P) (w:=w) (base:=base) T
 have aD:=rj (P:=P) (w:=w) (base:=base) T
 refine F.VZ D6 (fun vs H Q E h=>?_) (fun ay A outer s H vs Q E hr h=>?_)
 .obtain⟨p,r,v,o,t,sp,wt,rfl,_⟩:=h
  rfl
 .obtain⟨p,r,v,o,t,sp,wt,rfl,N,hk,Iu,k1,k2⟩:=h
  obtain⟨dx,hp⟩:=N.ex
  refine⟨_,(ao (bo (eu (pv 0) T.Vg YU aU (hr.mono (by decide)) (af (pv 1) (af (pv 2) ai))))
   (ao (aT (PW.pt (ig (gv (eG (bB aD (hr.mono (by decide)) rfl (af (pv 3) (af au (af (gb rfl T.Qj1) ai)))))) (k9 (gv (eG (bB aD (hr.mono (by decide)) rfl (af (pv 4) (af au (af (gb rfl T.QjY) ai))))))))) (ak (io aU T.QbT rfl T.QaI)) aP)
   (ao (aT (bb oW (bi Ca rfl T.VW dr (af (bw (pv 0) rfl) ai)) (gb rfl T.Qj2) (aY _)) (ak (io aU T.QaJ rfl T.Z7)) aP)
   (ao (aV (i:=5) D6.nd O (by first|exact UR rfl|exact UQ O) (bw (pv 0) O))
   (ao (rn (cM hr) (bw (pv 0) rfl) (pv 5) (gj (af (pv 1) (af (pv 2) (af (pv 3) (af (pv 4) ai))))) rfl)
   (ao (eh (pv 0) (bq nR (pv 5) au) rfl)
   (ak (aM (pv 5))))))))),?_⟩
  refine⟨_,O,p,dx,_,O,hp,by rfl,_,O,_,O,p,r,v,o,t,O,N,fun c1 H1 s1=>?_,fun er c=>k2 er (xX c)⟩
  rw[CC c1] at k1 k2
  have N1:=N.same s1
  obtain⟨bJ,h3,h4⟩:=N1.ha
  have aB:=s1 _ _ hp
  have hl:bJ.length=v.arr.length:=by rw[← h4.length]
  have qz:((sp<1∨20<sp)∨(wt<1∨1000000<wt))→_:=fun c=>k2 .number (by rw[UN c]) H1 s1
  refine⟨_,O,sp,1,20,O,_,O,?_⟩
  refine bg (fun c=>?_) (fun c=>?_)
  .have c':sp<1∨20<sp:=by
    simp only[Sw,Sq,R9] at c
    lia
   exact ei ⟨by show 0≤S';decide,qz (.inl c')⟩
  have c3:¬ (sp<1∨20<sp):=by
   simp only[Tj,Rt,Sx] at c
   lia
  refine⟨_,O,wt,1,1000000,O,_,O,?_⟩
  refine bg (fun c=>?_) (fun c=>?_)
  .have c':wt<1∨1000000<wt:=by
    simp only[Sw,Sq,R9] at c
    lia
   exact⟨by show 0≤S';decide,qz (.inr c')⟩
  have c4:¬ (wt<1∨1000000<wt):=by
   simp only[Tj,Rt,Sx] at c
   lia
  rw[UL (fun z=>z.elim c3 c4)] at k1 k2
  refine⟨_,O,p,a.Net,dx,_,_,O,aB,T.Vg,T.Zq,rW,r.da,bJ,O,h3,_,_,O,O,_,O,?_⟩
  refine bg (fun c=>?_) (fun c=>?_)
  .have c':40≤v.arr.length:=by
    have:(40:Int)≤bJ.length:=RB c
    lia
   exact⟨by show 0≤S';decide,k2 .many (by rw[UN c']) H1 s1⟩
  have c':¬ 40≤v.arr.length:=by
   have:¬ (40:Int)≤bJ.length:=RM c
   lia
  refine⟨_,O,p,a.Net,dx,_,_,O,aB,T.Vg,T.QbV,Qnk,?_⟩
  refine⟨_,O,_,O,_,O,_,O,(by show 4≤S';decide),fun q nq=>?_⟩
  have s2:ae H1 (upd H1 q (.tup [.str o,.str t,.int sp,.int wt])):=ae.new nq
  have hq:U4 K (upd H1 q (.tup [.str o,.str t,.int sp,.int wt])) q (Xe ⟨v.nn,o,t,sp,wt⟩):=U4.of ag
  generalize upd H1 q (.tup [.str o,.str t,.int sp,.int wt])=H2 at s2 hq ⊢
  have dv:=s2 _ _ aB
  have n8:=s2 _ _ h3
  refine⟨_,O,p,a.Net,dx,_,_,O,dv,T.Vg,T.Zq,rW,_,O,r.da,_,O,pk.k (k:=Va v.nn) n8 (by rw[Rh];lia),?_⟩
  rw[rS (.ref q) (CA h4 Iu)]
  have AI:upd H2 r.da (.dK (bJ++[(Va v.nn,.ref q)])) p=f' (.ins a.Net dx (iT r.dh r.da v.nn r.ls r.lm)):=by rw[aj (bN dv n8 (by intro z;cases z))];exact dv
  refine⟨_,O,_,_,O,O,_,O,p,a.Net,dx,_,O,AI,T.Vg,T.QbV,by show 5<1000;decide,?_⟩
  rw[My]
  refine⟨_,O,?_⟩
  show Q (.int v.nn) _
  refine k1 (by rw[UL c']) _ (fun b u e z1 _ z3 _ _=>by rw[aj z1,aj z3];exact s2 _ _ (s1 _ _ e)) ?_
  obtain⟨⟨jw,_⟩,h2,_,⟨xs,h5,h6⟩,⟨ys,h7,h8⟩,n1,n2⟩:=N1.same s2
  have tk:Tk H2 (upd (upd H2 r.da (.dK (bJ++[(Va v.nn,.ref q)]))) p (.ins a.Net dx (iT r.dh r.da (v.nn+1) r.ls r.lm))):=(Tk.upd n8 O).trans (Tk.upd AI O)
  have ne:∀ b u,H2 b=f' u→b≠p→b≠r.da→upd (upd H2 r.da (.dK (bJ++[(Va v.nn,.ref q)]))) p (.ins a.Net dx (iT r.dh r.da (v.nn+1) r.ls r.lm)) b=f' u:=fun b u e z1 z3=>by rw[aj z1,aj z3];exact e
  exact⟨⟨dx,ag⟩,ne _ _ h2 (bN h2 dv (by intro z;cases z)) (US n1),⟨_,(by rw[aj (bN n8 dv (by intro z;cases z))];exact ag),(tk.arr ((Tk.of s2).arr h4)).snoc (tk.VP hq)⟩,
   ⟨xs,ne _ _ h5 (bN h5 dv (by intro z;cases z)) (bN h5 n8 (by intro z;cases z)),tk.Vf (cw (fun _=>O) _) h6⟩,⟨ys,ne _ _ h7 (bN h7 dv (by intro z;cases z)) (bN h7 n8 (by intro z;cases z)),tk.Vf (cw (fun _=>O) _) h8⟩,n1,n2⟩
theorem Ma (T:Tx K mg a):dI P w K mg base (Vt P w) 5 a.Net "put_arrow" ["self","one","other","span","weight"] [] (zK K a):=T.QbY.U8 fun f fd F=>ES T f fd F
inductive yz (K:R') (C:F') (f:bp→List Dt) (vs:List V) (H:Hp) (Q:VK) (bF:XK):Prop
 | mk (p r v:_) (_:vs=[.ref p]) (_:bE K C H p r v) (_:(f v).length≤1000) (_:∀ l H' xs,ae H H'→H l=i'→H' l=f' (.lst xs)→bv K H' (f v) xs→V' H' xs→Q (.ref l) H')
theorem NA (T:Tx K mg a):dI P w K mg base Vd 1 a.Net "sames" ["self"] [] (yz K a.Net fun v=>v.ss.map rG):=T.Qb1.U8 fun f fd F=>by
 refine F.ok KS (fun vs H Q E h=>?_) (fun ay A outer s H vs Q E hr h=>?_)
 .obtain⟨p,r,v,rfl,_⟩:=h
  rfl
 .obtain⟨p,r,v,rfl,N,hk,k⟩:=h
  obtain⟨dx,hp⟩:=N.ex
  obtain⟨xs,h5,h6⟩:=N.hs
  have hl:v.ss.length=xs.length:=by rw[← h6.length,Q9]
  try dsimp only at hk
  rw[Q9] at hk
  refine⟨_,(ak (aM (cG (N:=["one","other"]) (cap:=[i',i']) O (cy (osc:=az zM) (XN:=["self"]) O O (by decide +kernel)) (bV (bw (pv 0) rfl)) (fun cl C s H fp aa=>(kX (K:=K) (n:=2) O O (bj (aF (i:=0) (show(["one","other"]:List C').Nodup by decide +kernel) rfl (by first|exact UR rfl|exact UQ O)) (bj (aF (i:=1) (show(["one","other"]:List C').Nodup by decide +kernel) rfl (by first|exact UR rfl|exact UQ O)) fj)))) (fun cl C s H fp aa=>cS) (fun cl C s H fp aa=>(gj (af (pv 0) (af (pv 1) ai))))))),?_⟩
  refine⟨_,O,p,a.Net,dx,_,_,O,hp,T.Vg,T.QaL,yW,r.ls,O,⟨_,P'.of h5⟩,fun D hD=>?_⟩
  refine ft (K:=K) (a:=r.ls) (xs:=xs) (fun i τ H'=>∃ v1 v2 ys,τ=[v1,v2]∧ae H H'∧H' D=f' (.lst ys)∧bv K H' ((v.ss.take i).map rG) ys∧V' H' ys) ⟨i',i',[],rfl,ae.new hD,ag,rfl,V'.nil⟩ ?_ ?_ ?_
  .rintro i τ H' _ ⟨v1,v2,ys,rfl,sm,hy,hd,tp⟩
   exact P'.of (sm _ _ h5)
  .rintro i x τ H' hx ⟨v1,v2,ys,rfl,sm,hy,hd,tp⟩
   obtain⟨⟨o,t⟩,hq,dq⟩:=gm h6 hx
   obtain⟨q,rfl,h1⟩:=EW (sm.dt dq)
   have sF:ys.length≤v.ss.length:=by rw[← hd.length,Q9,Rs];exact Ua _ _
   refine⟨q,_,O,h1,O,_,_,O,_,_,O,O,?_⟩
   dsimp only[dQ]
   rw[UN rfl]
   refine⟨_,O,_,O,(by show 2≤S';decide),fun z nz=>⟨ys,by rw[aj (aq hy nz)];exact hy,by rw[Rh];lia,_,_,_,O,?_,ag,?_,?_⟩⟩
   .intro b u e
    rw[aj (aq e hD)]
    exact(sm.trans (ae.new nz)) b u e
   .have s3:ae H' (upd H' z (.tup [.str o,.str t])):=ae.new nz
    have hz:U4 K (upd H' z (.tup [.str o,.str t])) z [.str o,.str t]:=U4.of ag
    have gF:=s3 _ _ hy
    generalize upd H' z (.tup [.str o,.str t])=H3 at s3 hz gF ⊢
    have tk:Tk H3 (upd H3 D (.lst (ys++[.ref z]))):=Tk.upd gF rfl
    rw[cJ hq,Rf]
    exact bv.snoc (Eb (tk.VP hz)) (tk.Vf (cw (fun _=>O) _) (s3.Vf hd))
   .have s3:ae H' (upd H' z (.tup [.str o,.str t])):=ae.new nz
    have hz:upd H' z (.tup [.str o,.str t]) z=f' (.tup [.str o,.str t]):=ag
    have gF:=s3 _ _ hy
    generalize upd H' z (.tup [.str o,.str t])=H3 at s3 hz gF ⊢
    exact((tp.tk (Tk.of s3)).snoc hz).tk (Tk.upd gF O)
  .rintro τ H' ⟨v1,v2,ys,rfl,sm,hy,hd,tp⟩
   rw[← hl,Rz] at hd
   exact k D H' ys sm hD hy hd tp
theorem Kw (T:Tx K mg a):dI P w K mg base Vd 1 a.Net "mosts" ["self"] [] (yz K a.Net fun v=>v.mm.map rD):=T.Qb2.U8 fun f fd F=>by
 refine F.ok Np (fun vs H Q E h=>?_) (fun ay A outer s H vs Q E hr h=>?_)
 .obtain⟨p,r,v,rfl,_⟩:=h
  rfl
 .obtain⟨p,r,v,rfl,N,hk,k⟩:=h
  obtain⟨dx,hp⟩:=N.ex
  obtain⟨xs,h5,h6⟩:=N.hm
  have hl:v.mm.length=xs.length:=by rw[← h6.length,Q9]
  try dsimp only at hk
  rw[Q9] at hk
  refine⟨_,(ak (aM (cG (N:=["one","other","number"]) (cap:=[i',i',i']) O (cy (osc:=az yn) (XN:=["self"]) O O (by decide +kernel)) (bV (bw (pv 0) rfl)) (fun cl C s H fp aa=>(kX (K:=K) (n:=3) O O (bj (aF (i:=0) (show(["one","other","number"]:List C').Nodup by decide +kernel) rfl (by first|exact UR rfl|exact UQ O)) (bj (aF (i:=1) (show(["one","other","number"]:List C').Nodup by decide +kernel) rfl (by first|exact UR rfl|exact UQ O)) (bj (aF (i:=2) (show(["one","other","number"]:List C').Nodup by decide +kernel) rfl (by first|exact UR rfl|exact UQ O)) fj))))) (fun cl C s H fp aa=>cS) (fun cl C s H fp aa=>(gj (af (pv 0) (af (pv 1) (af (pv 2) ai)))))))),?_⟩
  refine⟨_,O,p,a.Net,dx,_,_,O,hp,T.Vg,T.QaK,yJ,r.lm,O,⟨_,P'.of h5⟩,fun D hD=>?_⟩
  refine ft (K:=K) (a:=r.lm) (xs:=xs) (fun i τ H'=>∃ v1 v2 v3 ys,τ=[v1,v2,v3]∧ae H H'∧H' D=f' (.lst ys)∧bv K H' ((v.mm.take i).map rD) ys∧V' H' ys) ⟨i',i',i',[],rfl,ae.new hD,ag,rfl,V'.nil⟩ ?_ ?_ ?_
  .rintro i τ H' _ ⟨v1,v2,v3,ys,rfl,sm,hy,hd,tp⟩
   exact P'.of (sm _ _ h5)
  .rintro i x τ H' hx ⟨v1,v2,v3,ys,rfl,sm,hy,hd,tp⟩
   obtain⟨⟨o,t,n⟩,hq,dq⟩:=gm h6 hx
   obtain⟨q,rfl,h1⟩:=FX (sm.dt dq)
   have sF:ys.length≤v.mm.length:=by rw[← hd.length,Q9,Rs];exact Ua _ _
   refine⟨q,_,O,h1,O,_,_,O,_,_,O,_,_,O,O,?_⟩
   dsimp only[dQ]
   rw[UN rfl]
   refine⟨_,O,_,O,_,O,(by show 3≤S';decide),fun z nz=>⟨ys,by rw[aj (aq hy nz)];exact hy,by rw[Rh];lia,_,_,_,_,O,?_,ag,?_,?_⟩⟩
   .intro b u e
    rw[aj (aq e hD)]
    exact(sm.trans (ae.new nz)) b u e
   .have s3:ae H' (upd H' z (.tup [.str o,.str t,.int n])):=ae.new nz
    have hz:U4 K (upd H' z (.tup [.str o,.str t,.int n])) z [.str o,.str t,.int n]:=U4.of ag
    have gF:=s3 _ _ hy
    generalize upd H' z (.tup [.str o,.str t,.int n])=H3 at s3 hz gF ⊢
    have tk:Tk H3 (upd H3 D (.lst (ys++[.ref z]))):=Tk.upd gF rfl
    rw[cJ hq,Rf]
    exact bv.snoc (Dh (tk.VP hz)) (tk.Vf (cw (fun _=>O) _) (s3.Vf hd))
   .have s3:ae H' (upd H' z (.tup [.str o,.str t,.int n])):=ae.new nz
    have hz:upd H' z (.tup [.str o,.str t,.int n]) z=f' (.tup [.str o,.str t,.int n]):=ag
    have gF:=s3 _ _ hy
    generalize upd H' z (.tup [.str o,.str t,.int n])=H3 at s3 hz gF ⊢
    exact((tp.tk (Tk.of s3)).snoc hz).tk (Tk.upd gF O)
  .rintro τ H' ⟨v1,v2,v3,ys,rfl,sm,hy,hd,tp⟩
   rw[← hl,Rz] at hd
   exact k D H' ys sm hD hy hd tp
theorem y8 (T:Tx K mg a):dI P w K mg base Vd 1 a.Net "arrows" ["self"] [] (yz K a.Net fun v=>v.arr.map WT):=T.YT.U8 fun f fd F=>by
 refine F.ok Pt (fun vs H Q E h=>?_) (fun ay A outer s H vs Q E hr h=>?_)
 .obtain⟨p,r,v,rfl,_⟩:=h
  rfl
 .obtain⟨p,r,v,rfl,N,hk,k⟩:=h
  obtain⟨dx,hp⟩:=N.ex
  obtain⟨bJ,h2,h4⟩:=N.ha
  have hl:=h4.length
  try dsimp only at hk
  rw[Q9] at hk
  refine⟨_,(ak (aM (Of (cG (N:=["number","arrow"]) (cap:=[i',i']) O (cy (osc:=az xL) (XN:=["self"]) O O (by decide +kernel)) (JZ (Qhv Qa1 QeK PySem.F.type_dict_items Ki (bw (pv 0) rfl))) (fun cl C s H fp aa=>(kX (K:=K) (n:=2) O O (bj (aF (i:=0) (show(["number","arrow"]:List C').Nodup by decide +kernel) rfl (by first|exact UR rfl|exact UQ O)) (bj (aF (i:=1) (show(["number","arrow"]:List C').Nodup by decide +kernel) rfl (by first|exact UR rfl|exact UQ O)) fj)))) (fun cl C s H fp aa=>cS) (fun cl C s H fp aa=>(gj (af (pv 0) (af (aK (lC (K:=K) O) (pv 1) au (fun _ _=>O)) (af (aK (lC (K:=K) O) (pv 1) au (fun _ _=>O)) (af (aK (lC (K:=K) O) (pv 1) au (fun _ _=>O)) (af (aK (lC (K:=K) O) (pv 1) au (fun _ _=>O)) ai))))))))))),?_⟩
  refine⟨r.da,bJ,h2,_,O,p,a.Net,dx,_,_,O,hp,T.Vg,T.Zq,rW,.inr (.inr (.inl ⟨O,.inl ⟨_,h2⟩⟩)),r.da,bJ,O,O,h2,fun w nw=>⟨w,r.da,bJ,O,ag,by rw[aj (aq h2 nw)];exact h2,fun o D hD=>?_⟩⟩
  have dw:r.da≠w:=aq h2 nw
  have dD:r.da≠D:=aq ag hD
  have nD:upd H w (rp w r.da) D=i':=by rw[aj (US dD)] at hD;exact hD
  have HD:H D=i':=by
   cases hq:H D with
   | none=>rfl
   | some u=>
    have:=(ae.new (o:=rp w r.da) nw) D u hq
    rw[nD] at this
    cases this
  refine PM (d:=r.da) (o:=o) (kvs:=bJ) (fun i τ H'=>∃ v1 v2 ys,τ=[v1,v2]∧(∀ b u,H b=f' u→b≠r.da→H' b=f' u)∧H' r.da=f' (.UZ o (.dK bJ))∧H' D=f' (.lst ys)∧bv K H' ((v.arr.take i).map WT) ys∧V' H' ys)
   ⟨i',i',[],rfl,fun b u e hb=>by rw[aj (aq e HD),aj hb];exact ae.new nw b u e,by rw[aj dD];exact ag,ag,O,V'.nil⟩ ?_ ?_ ?_
  .rintro i τ H' _ ⟨v1,v2,ys,rfl,fr,hz,hy,hd,tp⟩
   exact hz
  .rintro i ky x T' τ H' hx hT ⟨v1,v2,ys,rfl,fr,hf,hy,hd,tp⟩
   obtain⟨q,t,hq,rfl,rfl,h1⟩:=h4.get hx
   have Hz:Tk H H':=fun b u e z=>fr b u e fun w=>by subst w;rw[h2] at e;cases e;cases z
   have sF:ys.length≤v.arr.length:=by rw[← hd.length,Q9,Rs];exact Ua _ _
   have s1:ae H' (upd H' T' (.tup [kV (Va q.num),.ref t])):=ae.new hT
   have gS:=s1.VP (Hz.VP h1)
   have zY:U4 K (upd H' T' (.tup [kV (Va q.num),.ref t])) T' [kV (Va q.num),.ref t]:=U4.of ag
   have cY:=s1 _ _ hy
   have An:=s1 _ _ hf
   have cZ:=s1.Vf hd
   have A3:=s1
   have qy:∀ b u,H b=f' u→b≠r.da→upd H' T' (.tup [kV (Va q.num),.ref t]) b=f' u:=fun b u e z=>s1 _ _ (fr b u e z)
   generalize upd H' T' (.tup [kV (Va q.num),.ref t])=H1 at gS zY cY An cZ A3 qy ⊢
   refine⟨T',_,O,zY,O,_,_,O,_,_,O,O,?_⟩
   dsimp only[dQ]
   rw[UN rfl]
   refine⟨_,O,_,O,t,Xe q,_,_,O,O,gS,O,_,O,t,Xe q,_,_,O,O,gS,O,_,O,t,Xe q,_,_,O,O,gS,O,_,O,t,Xe q,_,_,O,O,gS,O,(by show 5≤S';decide),fun z nz=>?_⟩
   have s3:ae H1 (upd H1 z (.tup [kV (Va q.num),.str q.one,.str q.other,.int q.span,.int q.weight])):=ae.new nz
   have Bg:upd H1 z (.tup [kV (Va q.num),.str q.one,.str q.other,.int q.span,.int q.weight]) z=f' (.tup (.int q.num::Xe q)):=ag
   have AT:=(tp.tk (Tk.of A3)).tk (Tk.of s3)
   have hz:U4 K (upd H1 z (.tup [kV (Va q.num),.str q.one,.str q.other,.int q.span,.int q.weight])) z (.int q.num::Xe q):=U4.of ag
   have gF:=s3 _ _ cY
   have jR:=s3.Vf cZ
   have BO:=s3 _ _ An
   have qe:∀ b u,H b=f' u→b≠r.da→upd H1 z (.tup [kV (Va q.num),.str q.one,.str q.other,.int q.span,.int q.weight]) b=f' u:=fun b u e w=>s3 _ _ (qy b u e w)
   generalize upd H1 z (.tup [kV (Va q.num),.str q.one,.str q.other,.int q.span,.int q.weight])=H3 at hz Bg AT gF jR BO qe ⊢
   have tk:Tk H3 (upd H3 D (.lst (ys++[.ref z]))):=Tk.upd gF rfl
   refine⟨ys,gF,by rw[Rh];lia,_,_,_,O,fun b u e w=>by rw[aj (aq e HD)];exact qe b u e w,by rw[aj dD];exact BO,ag,?_,(AT.snoc Bg).tk tk⟩
   rw[cJ hq,Rf]
   exact bv.snoc (yH (tk.VP hz)) (tk.Vf (cw (fun _=>O) _) jR)
  .rintro τ H' ⟨v1,v2,ys,rfl,fr,hf,hy,hd,tp⟩
   rw[← hl,Rz] at hd
   refine⟨o,hf,?_⟩
   have tk:Tk H' (upd H' r.da (.dK bJ)):=Tk.upd hf rfl
   refine k D _ ys (fun b u e=>?_) HD (by rw[aj (US dD)];exact hy) (tk.Vf (cw (fun _=>O) _) hd) (tp.tk tk)
   by_cases hb:b=r.da
   .subst hb
    rw[h2] at e;cases e
    exact ag
   .rw[aj hb]
    exact fr b u e hb
end
section
variable {K:R'}
theorem Cs (T:Tx K mg a):lW P w K mg base Vd 1 a.NoSuch "NoSuch" ["self","number"] (tU a.NoSuch "number"):=T.Qi9.U8 fun f fd F=>by
 refine F.ok Kr (fun vs H Q E h=>?_) (fun ay A outer s H vs Q E hr h=>?_)
 .obtain⟨x,t,y,rfl,_⟩:=h
  rfl
 .obtain⟨x,t,y,rfl,hx,k⟩:=h
  refine⟨_,(ak (uj (pv 0) (pv 1) O)),?_⟩
  exact⟨_,O,_,O,x,a.NoSuch,t,O,hx,T.Qja,fun dx nd=>k dx nd⟩
def oS (arr:List Ar) (i:Int):Bool:=arr.any fun q=>decide (q.num=i)
def mi (arr:List Ar) (i:Int):List Ar:=arr.filter fun q=>decide (q.num≠i)
theorem x6 {H:Hp}{i:Int}:∀ {qs:List Ar}{kvs:Vc},gZ K H qs kvs→(a8 kvs (Va i)).isSome=oS qs i
 | [],_,h=>by rw[show _=[] from h];rfl
 | q::qs,_,h=>by
  obtain⟨t,r,rfl,h1,h2⟩:=h
  show _=(decide (q.num=i) || oS qs i)
  by_cases e:q.num=i
  .rw[dm (p:=(Va q.num,V.ref t)) (by rw[e]),Rp e]
   rfl
  .rw[cv (p:=(Va q.num,V.ref t)) (fun z=>e (QcL z)),Ry e,x6 h2]
   rfl
theorem yE {H:Hp}{i:Int}:∀ {qs:List Ar}{kvs:Vc},gZ K H qs kvs→gZ K H (mi qs i) (iU kvs (Va i))
 | [],_,h=>by rw[show _=[] from h];rfl
 | q::qs,_,h=>by
  obtain⟨t,r,rfl,h1,h2⟩:=h
  by_cases e:q.num=i
  .rw[LG (p:=(Va q.num,V.ref t)) (by rw[e])]
   have:mi (q::qs) i=mi qs i:=by unfold mi;rw[RT,UL (by simp[e])]
   rw[this]
   exact yE h2
  .rw[NT (p:=(Va q.num,V.ref t)) (fun z=>e (QcL z))]
   have:mi (q::qs) i=q::mi qs i:=by unfold mi;rw[RT,UN (by simp[e])]
   rw[this]
   exact⟨t,_,O,h1,yE h2⟩
inductive Qnp (K:R') (a:Vm) (vs:List V) (H:Hp) (Q:VK) (E:XK):Prop
 | mk (p r v i:_) (_:vs=[.ref p,.int i]) (_:bE K a.Net H p r v) (_:(oS v.arr i=B'→∀ H',Kp p r H H'→bE K a.Net H' p r {v with arr:=mi v.arr i}→Q .UU H')) (_:(oS v.arr i=K'→∀ H',ae H H'→kZ a E (.such i) H'))
theorem Ct (T:Tx K mg a):dI P w K mg base (Vt P w) 3 a.Net "take_arrow" ["self","number"] [] (Qnp K a):=T.Qac.U8 fun f fd F=>by
 have cq:=CO (P:=P) (w:=w) (base:=base) T
 have dF:=Cs (P:=P) (w:=w) (base:=base) T
 refine F.VZ Og (fun vs H Q E h=>?_) (fun ay A outer s H vs Q E hr h=>?_)
 .obtain⟨p,r,v,i,rfl,_⟩:=h
  rfl
 .obtain⟨p,r,v,i,rfl,N,k1,k2⟩:=h
  obtain⟨dx,hp⟩:=N.ex
  obtain⟨bJ,h3,h4⟩:=N.ha
  refine⟨_,(ao (aT (PW.pt (ig (gv (eG (bB cq (hr.mono (by decide)) rfl (af (pv 1) ai)))) (k9 (j9 (yg (cM hr) (pv 1) (bw (pv 0) rfl)))))) (ak (j7 aU dF (hr.mono (by decide)) rfl (af (pv 1) ai))) aP)
   (ak (bo (Pe (bw (pv 0) rfl) (pv 1) ⟨rfl,rfl,rfl,rfl⟩)))),?_⟩
  refine⟨_,O,i,O,_,O,dP O ?_⟩
  refine⟨_,O,_,O,p,a.Net,dx,_,_,O,hp,T.Vg,T.Zq,rW,r.da,_,O,ci.k (k:=Va i) h3,_,O,?_⟩
  rw[x6 h4]
  refine bg (fun c=>?_) (fun c=>?_)
  .have c':oS v.arr i=K':=by simpa using c
   refine⟨_,O,by show 1≤S';decide,fun x t hx=>⟨x,t,_,O,ag,fun d nd=>⟨O,f' d,ag,?_⟩⟩⟩
   have xd:d≠x:=fun z=>by rw[z,ag] at nd;cases nd
   have e:del (upd (upd (upd H x (cz a.NoSuch t x i')) d (.xd [("number",.int i)])) x (cz a.NoSuch t x (f' d))) x=upd H d (.xd [("number",.int i)]):=by
    funext b
    unfold del
    by_cases h1:b=x
    .subst h1
     rw[UN rfl,aj (US xd),hx]
    .rw[UL h1,aj h1]
     by_cases h2:b=d
     .subst h2;rw[ag,ag]
     .rw[aj h2,aj h1,aj h2]
   show E _ _ _
   rw[e]
   have iH:H d=i':=by rw[aj xd] at nd;exact nd
   exact k2 c' _ (ae.new iH) d ag
  .have c':oS v.arr i=B':=by simpa using c
   obtain⟨y,hy⟩:=Xp.mp ((x6 (i:=i) h4).trans c')
   refine⟨_,O,p,a.Net,dx,_,_,O,hp,T.Vg,T.Zq,rW,r.da,O,.inl ⟨_,.inl h3⟩,_,O,bJ,Va i,y,h3,O,hy,?_⟩
   refine k1 c' _ (fun b u e _ _ z3 _ _=>by rw[aj z3];exact e) ?_
   obtain⟨_,h2,_,⟨xs,h5,h6⟩,⟨ys,h7,h8⟩,n1,n2⟩:=N
   have tk:Tk H (upd H r.da (.dK (iU bJ (Va i)))):=Tk.upd h3 rfl
   exact⟨⟨dx,by rw[aj (bN hp h3 (by intro z;cases z))];exact hp⟩,by rw[aj (US n1)];exact h2,⟨_,ag,tk.arr (yE h4)⟩,⟨xs,by rw[aj (bN h5 h3 (by intro z;cases z))];exact h5,tk.Vf (cw (fun _=>O) _) h6⟩,
    ⟨ys,by rw[aj (bN h7 h3 (by intro z;cases z))];exact h7,tk.Vf (cw (fun _=>O) _) h8⟩,n1,n2⟩
theorem Kz (T:Tx K mg a):dI P w K mg base (Vt P w) 3 a.Net "put_point" ["self","name","half"] [.int 0] (xI K a):=T.Qaa.U8 fun f fd F=>EE T f fd F
theorem Kd (T:Tx K mg a):dI P w K mg base (Vt P w) 5 a.Net "put_arrow" ["self","one","other","span","weight"] [.int 1,.int 1] (zK K a):=T.QbZ.U8 fun f fd F=>ES T f fd F
end
inductive nF (ar:List Ar) (s:C'):C'→List Int→Prop
 | nil:nF ar s s []
 | snoc {p:C'}{zs:List Int}{q:Ar}:nF ar s p zs→q∈ar→q.one=p→nF ar s q.other (zs++[q.num])
def iV (ar:List Ar) (s t:C'):Prop:=∃ zs,nF ar s t zs
theorem lY {kvs:Vc}{x y:C'}{v:V} (h:has kvs x=K'):has (kvs++[(UT x,v)]) y=(decide (y=x) || has kvs y):=by
 unfold has at h ⊢
 have e:a8 kvs (UT x)=i':=by simpa using h
 rw[r9 (UT x) (UT y) v kvs e]
 by_cases z:y=x
 .rw[UN (by rw[z]),Rp z]
  rfl
 .rw[UL (fun q=>z (W6 q)),Ry z]
  rfl
def j8 (ar:List Ar) (kvs:Vc):Nat:=(ar.filter fun q=>!has kvs q.other).length
theorem EJ (ar:List Ar) (kvs:Vc):j8 ar kvs≤ar.length:=So _ _
theorem CT {α:Type}{f g:α→Bool}:∀ {l:List α}{q:α},(∀ x,g x=B'→f x=B')→q∈l→f q=B'→g q=K'→(l.filter g).length<(l.filter f).length
 | x::l,q,h,hq,h1,h2=>by
  rw[RT,RT]
  have le:∀ l:List α,(l.filter g).length≤(l.filter f).length:=fun l=>by
   induction l with
   | nil=>exact Re _
   | cons y l ih=>
    rw[RT,RT]
    cases e:g y with
    | true=>rw[UN O,UN (h y e)];exact T4 ih
    | false=>
     rw[UL (by decide)]
     split
     .exact RU ih
     .exact ih
  rcases RY.mp hq with rfl|hq
  .rw[UL (by rw[h2];decide),UN h1]
   exact Nat.lt_succ_of_le (le l)
  .have ih:=CT h hq h1 h2
   cases e:g x with
   | true=>rw[UN O,UN (h x e)];exact Nat.succ_lt_succ ih
   | false=>
    rw[UL (by decide)]
    split
    .exact R8 ih
    .exact ih
theorem Ew {ar:List Ar}{kvs:Vc}{q:Ar}{v:V} (hq:q∈ar) (h:has kvs q.other=K'):j8 ar (kvs++[(UT q.other,v)])<j8 ar kvs:=by
 refine CT (q:=q) (fun x hx=>?_) hq (by rw[h];rfl) (by rw[lY h,Rp rfl];rfl)
 rw[lY h] at hx
 cases e:has kvs x.other with
 | false=>rfl
 | true=>rw[e,SN] at hx;cases hx
def Qnq (K:R') (H:Hp) (l:F') (ar:List Ar):Prop:=∃ xs,P' K H l xs∧bv K H (ar.map WT) xs
structure Bf (K:R') (H0 H:Hp) (D wt:F') (ar:List Ar) (s:C') (kvs:Vc) (wl:List C'):Prop where
 old:ae H0 H
 d:H D=f' (.dK kvs)
 w:H wt=f' (.lst (wl.map V.str))
 ok:∀ x v,a8 kvs (UT x)=f' v→∃ r zs,v=.ref r∧H r=f' (.lst ((zs:List Int).map V.int))∧r≠wt∧nF ar s x zs∧zs.length<kvs.length∧H0 r=i'
 k:kvs.length+j8 ar kvs≤1+ar.length
 root:has kvs s=B'
 sub:∀ x∈wl,has kvs x=B'
 wk:wl.length+2*j8 ar kvs≤1+2*ar.length
theorem Bf.same {K:R'}{ar:List Ar}{kvs:Vc} (b:Bf K H0 H D wt ar s kvs wl) (e:ae H H'):Bf K H0 H' D wt ar s kvs wl:=
 ⟨b.old.trans e,e _ _ b.d,e _ _ b.w,fun x v hv=>by
  obtain⟨r,zs,h1,h2,h3⟩:=b.ok x v hv
  exact⟨r,zs,h1,e _ _ h2,h3⟩,b.k,b.root,b.sub,b.wk⟩
theorem Bf.Qel {K:R'}{ar:List Ar}{kvs:Vc}{wl2:List C'} (b:Bf K H0 H D wt ar s kvs wl) (hw:H0 wt=i') (nd:D≠wt) (hs:∀ x∈wl2,has kvs x=B') (hk:wl2.length+2*j8 ar kvs≤1+2*ar.length) :
  Bf K H0 (upd H wt (.lst (wl2.map V.str))) D wt ar s kvs wl2:=
 ⟨fun x o e=>by rw[aj (aq e hw)];exact b.old x o e,by rw[aj nd];exact b.d,ag,fun x v hv=>by
  obtain⟨r,zs,h1,h2,h3,h4⟩:=b.ok x v hv
  exact⟨r,zs,h1,by rw[aj h3];exact h2,h3,h4⟩,b.k,b.root,hs,hk⟩
theorem Bf.put {K:R'}{r2:F'}{ar:List Ar}{kvs:Vc}{q:Ar} (b:Bf K H0 H D wt ar s kvs wl) (hD:H0 D=i') (nd:D≠wt) (hq:q∈ar) (hp:nF ar s q.one zs) (hr:H r2=f' (.lst ((zs++[q.num]).map V.int)))
  (n2:r2≠wt) (n3:H0 r2=i') (hn:has kvs q.other=K') (hz:zs.length<kvs.length):Bf K H0 (upd H D (.dK (kvs++[(UT q.other,.ref r2)]))) D wt ar s (kvs++[(UT q.other,.ref r2)]) wl:=by
 have lt:=Ew (v:=.ref r2) hq hn
 have hl:(kvs++[(UT q.other,V.ref r2)]).length=kvs.length+1:=by rw[Ru];rfl
 have nn:a8 kvs (UT q.other)=i':=by unfold has at hn;simpa using hn
 refine⟨fun x o e=>by rw[aj (aq e hD)];exact b.old x o e,ag,by rw[aj (US nd)];exact b.w,fun x v hv=>?_,?_,?_,fun x hx=>?_,?_⟩
 .rw[r9 (UT q.other) (UT x) _ kvs nn] at hv
  by_cases z:x=q.other
  .rw[UN (by rw[z])] at hv
   cases hv
   subst z
   exact⟨r2,zs++[q.num],O,by rw[aj (bN hr b.d (by intro z;cases z))];exact hr,n2,.snoc hp hq O,by rw[Ru,hl];show _+1<_;lia,n3⟩
  .rw[UL (fun e=>z (W6 e))] at hv
   obtain⟨r,ys,h1,h2,h3,h4,h5,h6⟩:=b.ok x v hv
   exact⟨r,ys,h1,by rw[aj (bN h2 b.d (by intro z;cases z))];exact h2,h3,h4,by lia,h6⟩
 .rw[hl]
  have:=b.k
  lia
 .rw[lY hn,b.root,SN]
 .rw[lY hn,b.sub x hx,SN]
 .have:=b.wk
  lia
theorem Bf.Qnr {K:R'}{ar:List Ar}{kvs:Vc} (b:Bf K H0 H D wt ar s kvs []) (cl:∀ x,has kvs x=B'→∀ q∈ar,q.one=x→has kvs q.other=B') (t:C'):has kvs t=B'↔iV ar s t:=by
 constructor
 .intro h
  obtain⟨v,hv⟩:=Xp.mp h
  obtain⟨r,zs,_,_,_,hp,_,_⟩:=b.ok t v hv
  exact⟨zs,hp⟩
 .rintro⟨zs,hp⟩
  induction hp with
  | nil=>exact b.root
  | snoc _ hq e ih=>exact cl _ ih _ hq e
section
variable {K:R'}
theorem tW {q:Ar} (h:VI K H (WT q) x):∃ t,x=.ref t∧U4 K H t (.int q.num::Xe q):=by
 obtain⟨t,xs,rfl,h1,y1,ww,rfl,rfl,y2,sW,rfl,rfl,y3,xj,rfl,rfl,y4,BQ,rfl,rfl,y5,HQ,rfl,rfl,h2⟩:=h
 rw[show HQ=[] from h2] at h1
 exact⟨t,O,h1⟩
inductive Qns (K:R') (vs:List V) (H:Hp) (Q:VK) (bF:XK):Prop
 | mk (l ar s t:_) (_:vs=[.ref l,.str s,.str t]) (_:Qnq K H l ar) (_:ar.length≤100) (_:(∀ r zs H',nF ar s t zs→ae H H'→H' r=f' (.lst ((zs:List Int).map V.int))→zs.length≤101→H r=i'→Q (.ref r) H')) (_:(¬ iV ar s t→∀ H',ae H H'→Q .UU H'))
theorem Qnt (T:Tx K mg a):Vj P w K mg base Vd 1 "way" ["arrows","start","end"] [] (Qns K):=T.Qju.U8 fun f fd F=>by
 refine F.ok lu (fun vs H Q E h=>?_) (fun ay A outer s0 H vs Q E hr h=>?_)
 .obtain⟨l,ar,s,t,rfl,_⟩:=h
  rfl
 .obtain⟨l,ar,s,t,rfl,⟨xs,hl,hd⟩,hk,k1,k2⟩:=h
  have iE:ar.length=xs.length:=by rw[← hd.length,Q9]
  refine⟨_,(ao (aV (i:=3) lu.nd O (by first|exact UR rfl|exact UQ O) (Em (C7 (pv 1) (bY ai) CF) O O (by decide) (by decide)))
   (ao (aV (i:=4) lu.nd O (by first|exact UR rfl|exact UQ O) (bY (af (pv 1) ai)))
   (ao (uo Wj (Ko (pv 4) (fun _=>O)) (ao (aV (i:=5) lu.nd O (by first|exact UR rfl|exact UQ O) (eA Wa QfZ PySem.F.type_list_pop Pj (pv 4) (af au ai)))
   (ak (ej Wj rfl (bV (pv 0)) (kg rfl (bj (aF (i:=6) lu.nd O (by first|exact UR rfl|exact UQ O)) (bj (aF (i:=7) lu.nd O (by first|exact UR rfl|exact UQ O)) (bj (aF (i:=8) lu.nd O (by first|exact UR rfl|exact UQ O)) (bj (aF (i:=9) lu.nd O (by first|exact UR rfl|exact UQ O)) (bj (aF (i:=10) lu.nd O (by first|exact UR rfl|exact UQ O)) fj)))))) (ak (aT (PW.pt (QgK (bb cF (pv 7) (pv 5) (aY _)) (Qd (j9 (yg (cM hr) (pv 8) (pv 3)))))) (ao (rn (cM hr) (pv 3) (pv 8) (bq rV (fY (cM hr) (pv 3) (pv 5) (fun _ _=>O)) (bY (af (pv 6) ai))) O)
   (ak (bo (eA Wa Wv WE fS (pv 4) (af (pv 8) ai))))) aP))))))
   (ak (aM (Ob (cM hr) (pv 3) (pv 2) ⟨rfl,rfl,rfl,rfl⟩)))))),?_⟩
  refine fun D hD=>⟨_,O,(by show 0≤S';decide),fun r0 xg=>⟨ae.new xg _ _ ag,[(UT s,.ref r0)],O,(by show 1≤15;decide),_,O,(by show 1≤S';decide),fun wt HM=>?_⟩⟩
  have B1:D≠r0:=aq ag xg
  have pU:H r0=i':=by
   have e:=xg
   rw[aj (US B1)] at e
   exact e
  have dY:=HM
  rw[nQ] at dY
  have oJ:wt≠D:=fun e=>by rw[UN e] at dY;cases dY
  rw[UL oJ,nQ] at dY
  have vt:wt≠r0:=fun e=>by rw[UN e] at dY;cases dY
  rw[UL vt,aj oJ] at dY
  have e0:jI [] [(UT s,V.ref r0)]=[(UT s,V.ref r0)]:=rfl
  have lK:has [(UT s,V.ref r0)] s=B':=by
   unfold has
   rw[dm (p:=(UT s,V.ref r0)) rfl]
   rfl
  have b0:Bf K H (upd (upd (upd (upd H D (.dK [])) r0 (.lst [])) D (.dK (jI [] [(UT s,V.ref r0)]))) wt (.lst [V.str s])) D wt ar s [(UT s,.ref r0)] [s]:=by
   refine⟨fun b o e=>?_,?_,ag,fun x v hv=>?_,?_,lK,fun x hx=>?_,?_⟩
   .rw[aj (aq e dY),aj (aq e hD),aj (aq e pU),aj (aq e hD)]
    exact e
   .rw[aj (US oJ),ag,e0]
   .by_cases z:s=x
    .subst z
     rw[dm (p:=(UT s,V.ref r0)) rfl] at hv
     cases hv
     exact⟨r0,[],O,by rw[aj (US vt),aj (US B1),ag];rfl,US vt,.nil,(by show 0<1;decide),pU⟩
    .rw[cv (p:=(UT s,V.ref r0)) (fun q=>z (W6 q))] at hv
     cases hv
   .show 1+_≤_
    have:=EJ ar [(UT s,V.ref r0)]
    lia
   .rw[Vh.mp hx]
    exact lK
   .show 1+_≤_
    have:=EJ ar [(UT s,V.ref r0)]
    lia
  generalize upd (upd (upd (upd H D (.dK [])) r0 (.lst [])) D (.dK (jI [] [(UT s,V.ref r0)]))) wt (.lst [V.str s])=H1 at b0 ⊢
  refine⟨fun m σ H'=>∃ v5 v6 v7 v8 v9 p8 kvs wl,σ=[f' (.ref l),f' (.str s),f' (.str t),f' (.ref D),f' (.ref wt),v5,v6,v7,v8,v9,p8]∧m=wl.length+2*j8 ar kvs∧Bf K H H' D wt ar s kvs wl∧∀ x,has kvs x=B'→x∈wl∨∀ q∈ar,q.one=x→has kvs q.other=B',
   ⟨_,i',i',i',i',i',i',_,_,rfl,rfl,b0,fun x hx=>?_⟩,?_⟩
  .by_cases z:s=x
   .exact .inl (Vh.mpr z.symm)
   .unfold has at hx
    rw[cv (p:=(UT s,V.ref r0)) (fun q=>z (W6 q))] at hx
    cases hx
  rintro m σ H2 ⟨v5,v6,v7,v8,v9,p8,kvs,wl,rfl,rfl,b2,AR⟩
  refine⟨_,O,_,.inl ⟨_,P'.of b2.w,O⟩,?_⟩
  refine bg (fun c=>?_) (fun c=>?_)
  ·-- one more point is looked at
   obtain⟨x,gg,rfl⟩:∃ x gg,wl=x::gg:=by
    cases wl with
    | nil=>cases c
    | cons x gg=>exact⟨x,gg,O⟩
   refine⟨_,fun σ' H' q=>q,?_⟩
   refine⟨_,O,.inl ⟨O,_,P'.of b2.w⟩,wt,_,0,0,_,O,O,b2.w,by decide,by decide,?_,O,?_⟩
   .show Qaq 0 (((x::gg).map V.str).length)=f' 0
    rw[Q9]
    unfold Qaq
    simp
   have my:((x::gg).map V.str).eraseIdx 0=gg.map V.str:=rfl
   rw[my]
   have Q1:=b2.wk
   have b3:=b2.Qel (wl2:=gg) dY (US oJ) (fun y hy=>b2.sub y (Rk _ hy)) (by have:(x::gg).length=gg.length+1:=rfl;lia)
   have JP:=b2.sub x Rx
   generalize upd H2 wt (.lst (gg.map V.str))=H3 at b3 ⊢
   refine⟨_,O,l,O,⟨_,b3.old.Vk hl⟩,iN (K:=K) (a:=l) (xs:=xs) (fun i σ H'=>∃ v6 v7 v8 v9 p8 bC wl2,σ=[f' (.ref l),f' (.str s),f' (.str t),f' (.ref D),f' (.ref wt),f' (.str x),v6,v7,v8,v9,p8]∧Bf K H H' D wt ar s bC wl2∧wl2.length+2*j8 ar bC≤gg.length+2*j8 ar kvs∧(∀ y,has bC y=B'→y∈wl2∨y=x∨∀ q∈ar,q.one=y→has bC q.other=B')∧has bC x=B'∧∀ q∈ar.take i,q.one=x→has bC q.other=B')
    ⟨v6,v7,v8,v9,p8,kvs,gg,rfl,b3,Re _,fun y hy=>?_,JP,fun q hq=>by rw[SK] at hq;cases hq⟩ ?_ ?_ ?_⟩
   .rcases AR y hy with z|z
    .rcases RY.mp z with z|z
     .exact .inr (.inl z)
     .exact .inl z
    .exact .inr (.inr z)
   .rintro i σ H' _ ⟨_,_,_,_,_,bC,wl2,rfl,b4,_⟩
    exact b4.old.Vk hl
   .rintro i y σ H' hy ⟨u6,u7,u8,u9,Gr,bC,wl2,rfl,b4,vH,rh,qU,lL⟩
    obtain⟨q,hq,dq⟩:=gm hd hy
    obtain⟨tq,rfl,JI⟩:=tW (b4.old.dt dq)
    have sU:=Rv hq
    refine⟨tq,_,O,JI,O,_,_,O,_,_,O,_,_,O,_,_,O,_,_,O,O,?_⟩
    have skip:(q.one=x→has bC q.other=B')→∀ z∈ar.take (i+1),z.one=x→has bC z.other=B':=fun h z hz e=>by
     rw[cJ hq] at hz
     rcases We.mp hz with h1|h1
     .exact lL z h1 e
     .rw[Vh.mp h1] at e ⊢
      exact h e
    refine⟨_,O,_,O,O,_,O,?_⟩
    refine bg (fun c1=>?_) (fun c1=>iM ⟨_,_,_,_,_,bC,wl2,O,b4,vH,rh,qU,skip fun e=>?_⟩)
    .have e1:q.one=x:=by simpa using c1
     refine⟨_,O,_,O,D,_,O,ci.k (k:=UT _) b4.d,_,O,?_⟩
     refine bg (fun c2=>?_) (fun c2=>⟨_,_,_,_,_,bC,wl2,O,b4,vH,rh,qU,skip fun _=>?_⟩)
     .have hn:has bC q.other=K':=by
       unfold has
       simpa using c2
      obtain⟨vx,A5⟩:=Xp.mp qU
      obtain⟨rx,zs,rfl,Ic,QD,px,zx,_⟩:=b4.ok x vx A5
      have gx:ci H' D (.str x) (f' (.ref rx)):=by
       rw[← A5]
       exact ci.k (k:=UT x) b4.d
      have kb:=b4.k
      refine⟨_,O,_,O,D,_,O,gx,_,O,(by show 1≤S';decide),fun z nz=>⟨rx,z,_,_,O,O,ae.new nz _ _ Ic,ag,(by rw[Q9,Rh];show _+1≤_;lia),fun r2 vk=>?_⟩⟩
      have s5:ae H' (upd (upd H' z (.lst [V.int q.num])) r2 (.lst (zs.map V.int++[V.int q.num]))):=(ae.new nz).trans (ae.new vk)
      have h5:upd (upd H' z (.lst [V.int q.num])) r2 (.lst (zs.map V.int++[V.int q.num])) r2=f' (.lst ((zs++[q.num]).map V.int)):=by rw[ag,Rf];rfl
      have n5:r2≠wt:=fun e=>by
       have:=ae.new (o:=.lst [V.int q.num]) nz _ _ b4.w
       rw[← e,vk] at this
       cases this
      have n6:H r2=i':=by
       cases e:H r2 with
       | none=>rfl
       | some o=>
        have:=ae.new (o:=.lst [V.int q.num]) nz _ _ (b4.old _ _ e)
        rw[vk] at this
        cases this
      generalize upd (upd H' z (.lst [V.int q.num])) r2 (.lst (zs.map V.int++[V.int q.num]))=H5 at s5 h5 ⊢
      have b5:=b4.same s5
      refine⟨_,O,_,O,D,_,O,.inl ⟨bC,UT q.other,b5.d,O,by rw[Rh];lia,O⟩,?_⟩
      rw[rS (.ref r2) (by unfold has at hn;simpa using hn)]
      have b6:=b5.put hD (US oJ) sU (by rw[e1];exact px) h5 n5 n6 hn zx
      have QQ:=Ew (v:=.ref r2) sU hn
      have up:∀ y,has bC y=B'→has (bC++[(UT q.other,V.ref r2)]) y=B':=fun y hy=>by rw[lY hn,hy,SN]
      generalize upd H5 D (.dK (bC++[(UT q.other,V.ref r2)]))=H6 at b6 ⊢
      have Q0:=b6.wk
      have QJ:=b4.wk
      refine⟨_,O,.inl ⟨O,_,P'.of b6.w⟩,_,O,wt,_,_,O,O,b6.w,(by rw[Q9,Rh];lia),?_⟩
      have h7:wl2.map V.str++[V.str q.other]=(wl2++[q.other]).map V.str:=by rw[Rf];rfl
      have Bw:(wl2++[q.other]).length=wl2.length+1:=by rw[Ru];rfl
      rw[h7]
      have b7:=b6.Qel (wl2:=wl2++[q.other]) dY (US oJ) (fun y hy=>by
       rcases We.mp hy with h1|h1
       .exact b6.sub y h1
       .rw[Vh.mp h1,lY hn,Rp rfl];rfl) (by lia)
      refine⟨_,_,_,_,_,_,wl2++[q.other],O,b7,by lia,fun y hy=>?_,up _ qU,fun y hy e=>?_⟩
      .rw[lY hn] at hy
       by_cases zz:y=q.other
       .exact .inl (RG _ (by rw[zz];exact Vh.mpr O))
       .rw[Ry zz,Ut] at hy
        rcases rh y hy with h1|h1|h1
        .exact .inl (RF _ h1)
        .exact .inr (.inl h1)
        .exact .inr (.inr fun q' cQ e'=>up _ (h1 q' cQ e'))
      .rw[cJ hq] at hy
       rcases We.mp hy with h1|h1
       .exact up _ (lL y h1 e)
       .rw[Vh.mp h1,lY hn,Rp rfl];rfl
     .unfold has
      simpa using c2
    .have:¬ q.one=x:=by simpa using c1
     exact UX e this
   .rintro σ H' ⟨u6,u7,u8,u9,Gr,bC,wl2,rfl,b4,vH,rh,qU,lL⟩
    rw[← iE,Rz] at lL
    refine⟨wl2.length+2*j8 ar bC,?_,_,_,_,_,_,_,bC,wl2,O,O,b4,fun y hy=>?_⟩
    .have:(x::gg).length=gg.length+1:=rfl
     lia
    .rcases rh y hy with h1|h1|h1
     .exact .inl h1
     .exact .inr fun q hq e=>lL q hq (e.trans h1)
     .exact .inr h1
  .obtain rfl:wl=[]:=by
    cases wl with
    | nil=>rfl
    | cons x gg=>cases c
   have xt:=b2.Qnr (fun x hx=>(AR x hx).resolve_left (fun z=>by cases z)) t
   refine⟨_,O,D,O,.inl ⟨_,.inl b2.d⟩,_,O,_,ci.k (k:=UT t) b2.d,?_⟩
   cases e:a8 kvs (UT t) with
   | none=>
    refine k2 (fun z=>?_) H2 b2.old
    have:=xt.mpr z
    unfold has at this
    rw[e] at this
    cases this
   | some v=>
    obtain⟨r,zs,rfl,h1,h2,h3,h4,h5⟩:=b2.ok t v e
    have:=b2.k
    exact k1 r zs H2 h3 b2.old h1 (by lia) h5
end
open Classical in
def dH (ks:List Ar) (q:Ar):List Ar:=if iV ks q.other q.one then ks else ks++[q]
def jF (ar:List Ar):List Ar:=ar.foldl dH []
open Classical in
def lh (kf:List Ar×List Int) (q:Ar):List Ar×List Int:=if iV kf.1 q.other q.one then(kf.1,kf.2++[q.num]) else(kf.1++[q],kf.2)
def fu (ar:List Ar):List Int:=(ar.foldl lh ([],[])).2
def WU (ks:List Ar) (q:Ar):Bool:=(ks.map WT).any fun e=>VT e (WT q)
theorem rR {ks:List Ar}{q:Ar} (h:iV ks q.other q.one):dH ks q=ks:=by unfold dH;rw[UN h]
theorem oZ {ks:List Ar}{q:Ar} (h:¬ iV ks q.other q.one):dH ks q=ks++[q]:=by unfold dH;rw[UL h]
theorem Qn {ks:List Ar}{fs:List Int}{q:Ar} (h:iV ks q.other q.one):lh (ks,fs) q=(ks,fs++[q.num]):=by unfold lh;rw[UN h]
theorem DN {ks:List Ar}{fs:List Int}{q:Ar} (h:¬ iV ks q.other q.one):lh (ks,fs) q=(ks++[q],fs):=by unfold lh;rw[UL h]
theorem DJ:∀ (l ks:List Ar),(l.foldl dH ks).length≤ks.length+l.length
 | [],_=>Re _
 | q::l,ks=>by
  show(l.foldl dH (dH ks q)).length≤_
  have:=DJ l (dH ks q)
  by_cases h:iV ks q.other q.one
  .rw[rR h] at this ⊢
   rw[Rn]
   lia
  .rw[oZ h,Ru] at this
   rw[oZ h,Rn]
   have e:([q]:List Ar).length=1:=rfl
   lia
theorem zT:∀ {l ks:List Ar}{x:Ar},x∈ks→x∈l.foldl dH ks
 | [],_,_,h=>h
 | q::l,ks,x,h=>by
  show x∈l.foldl dH (dH ks q)
  by_cases e:iV ks q.other q.one
  .rw[rR e];exact zT h
  .rw[oZ e];exact zT (RF _ h)
theorem xV:∀ {l ks:List Ar}{x:Ar},x∈l.foldl dH ks→x∈ks∨x∈l
 | [],_,_,h=>.inl h
 | q::l,ks,x,h=>by
  replace h:x∈l.foldl dH (dH ks q):=h
  by_cases e:iV ks q.other q.one
  .rw[rR e] at h
   rcases xV h with z|z
   .exact .inl z
   .exact .inr (Rk _ z)
  .rw[oZ e] at h
   rcases xV h with z|z
   .rcases We.mp z with z|z
    .exact .inl z
    .exact .inr (Vh.mp z ▸ Rx)
   .exact .inr (Rk _ z)
theorem Me {ks:List Ar}{q:Ar} (h:WU ks q=B'):∃ e∈ks,e.num=q.num:=by
 obtain⟨d,hd,e⟩:=Qak.mp h
 obtain⟨k,hk,rfl⟩:=Wx.mp hd
 refine⟨k,hk,?_⟩
 have z:(VT (.int k.num) (.int q.num) && dO [.str k.one,.str k.other,.int k.span,.int k.weight] [.str q.one,.str q.other,.int q.span,.int q.weight])=B':=e
 have:=((Rt _ _).mp z).1
 exact eq_of_beq this
theorem OZ {ks:List Ar}{q:Ar} (h:q∈ks):WU ks q=B':=Qak.mpr ⟨WT q,Wx.mpr ⟨q,h,O⟩,tX _⟩
theorem zC:∀ (l ks:List Ar) (fs:List Int) (F:List Ar),F=l.foldl dH ks→(l.map Ar.num).Nodup→(∀ x∈ks,∀ q∈l,x.num≠q.num)→(l.foldl lh (ks,fs)).2=fs++(l.filter fun q=>!WU F q).map Ar.num
 | [],_,fs,_,_,_,_=>by simp
 | q::l,ks,fs,F,hF,nd,ap=>by
  have iH:(q.num::l.map Ar.num).Nodup:=nd
  rw[XJ] at iH
  replace hF:F=l.foldl dH (dH ks q):=hF
  show(l.foldl lh (lh (ks,fs) q)).2=_
  by_cases h:iV ks q.other q.one
  .rw[Qn h]
   rw[rR h] at hF
   rw[zC l ks _ F hF iH.2 fun x hx z hz=>ap x hx z (Rk _ hz)]
   have hq:WU F q=K':=by
    cases e:WU F q with
    | false=>rfl
    | true=>
     obtain⟨k,hk,en⟩:=Me e
     rw[hF] at hk
     rcases xV hk with z|z
     .exact UX en (ap k z q Rx)
     .exact UX (Wx.mpr ⟨k,z,en⟩) iH.1
   rw[RT,hq,UN (by rfl),RS,Sv]
   rfl
  .rw[DN h]
   rw[oZ h] at hF
   rw[zC l _ fs F hF iH.2 fun x hx z hz=>by
    rcases We.mp hx with y|y
    .exact ap x y z (Rk _ hz)
    .rw[Vh.mp y]
     exact fun e=>iH.1 (Wx.mpr ⟨z,hz,e.symm⟩)]
   have hq:WU F q=B':=OZ (by rw[hF];exact zT (RG _ (Vh.mpr O)))
   rw[RT,hq,UL (by decide)]
theorem P9 {ar:List Ar} (nd:(ar.map Ar.num).Nodup):(ar.filter fun q=>!WU (jF ar) q).map Ar.num=fu ar:=by
 unfold fu
 rw[zC ar [] [] (jF ar) rfl nd fun x hx=>by cases hx]
 rfl
section
variable {K:R'}
inductive Qnu (K:R') (C:F') (vs:List V) (H:Hp) (Q:VK) (bF:XK):Prop
 | mk (p r v:_) (_:vs=[.ref p]) (_:bE K C H p r v) (_:v.arr.length≤100) (_:∀ k ys H',ae H H'→H k=i'→H' k=f' (.lst ys)→bv K H' ((jF v.arr).map WT) ys→Q (.ref k) H')
theorem P3 (T:Tx K mg a):Vj P w K mg base Vd 2 "kept_arrows" ["net"] [] (Qnu K a.Net):=T.Qjv.U8 fun f fd F=>by
 have qA:=Qnt (P:=P) (w:=w) (base:=base) T
 have YT:=y8 (P:=P) (w:=w) (base:=base) T
 refine F.ok yo (fun vs H Q E h=>?_) (fun ay A outer s H vs Q E hr h=>?_)
 .obtain⟨p,r,v,rfl,_⟩:=h
  rfl
 .obtain⟨p,r,v,rfl,N,hk,k⟩:=h
  refine⟨_,(ao (aV (i:=1) yo.nd O (by first|exact UR rfl|exact UQ O) (bY ai))
   (ao (ej Wj rfl (bV (jj (pv 0) T.Vg YT (hr.mono (by decide)))) (aF (i:=2) yo.nd O (by first|exact UR rfl|exact UQ O)) (ak (aT (j9 (uP (bB qA (hr.mono (by decide)) rfl (af (pv 1) (af (aK fe (pv 2) au (fun _ _=>O)) (af (aK fe (pv 2) au (fun _ _=>O)) ai)))))) (ak (bo (eA Wa Wv WE fS (pv 1) (af (pv 2) ai)))) aP)))
   (ak (aM (pv 1))))),?_⟩
  refine⟨(by show 0≤S';decide),fun g ng=>?_⟩
  have s1:ae H (upd H g (.lst [])):=ae.new ng
  have h1:upd H g (.lst []) g=f' (.lst []):=ag
  generalize upd H g (.lst [])=H1 at s1 h1 ⊢
  have N1:=N.same s1
  obtain⟨dx,hp⟩:=N1.ex
  refine⟨_,O,p,dx,_,O,hp,by rfl,p,r,v,O,N1,by rw[Q9];lia,fun l H2 xs s2 nl h2 d2 _=>?_⟩
  have iE:v.arr.length=xs.length:=by rw[← d2.length,Q9]
  have Gn:l≠g:=fun e=>by rw[e,h1] at nl;cases nl
  refine⟨l,O,⟨_,P'.of h2⟩,iN (K:=K) (a:=l) (xs:=xs) (fun i σ H'=>∃ v2 ys,σ=[f' (.ref p),f' (.ref g),v2]∧(∀ b o,H2 b=f' o→b≠g→H' b=f' o)∧H' g=f' (.lst ys)∧bv K H' (((v.arr.take i).foldl dH []).map WT) ys)
   ⟨i',[],rfl,fun b o e _=>e,s2 _ _ h1,O⟩ ?_ ?_ ?_⟩
  .rintro i σ H' _ ⟨_,_,rfl,o3,_⟩
   exact P'.of (o3 _ _ h2 Gn)
  .rintro i x σ H3 hx ⟨v2,ys,rfl,o3,h3,d3⟩
   have Gg:Tk H2 H3:=fun b o e z=>o3 b o e (fun q=>by rw[q,s2 _ _ h1] at e;cases e;cases z)
   obtain⟨q,hq,dq⟩:=gm d2 hx
   obtain⟨t,rfl,pV⟩:=tW dq
   have ht:=Gg.VP pV
   have kl:=DJ (v.arr.take i) []
   have vO:(v.arr.take i).length≤100:=by rw[Rs];lia
   have sF:ys.length≤100:=by
    rw[← d3.length,Q9]
    have e:([]:List Ar).length=0:=rfl
    lia
   have e1:(v.arr.take (i+1)).foldl dH []=dH ((v.arr.take i).foldl dH []) q:=by
    rw[cJ hq,Sy]
    rfl
   dsimp only[bM]
   refine⟨_,O,_,O,t,_,_,_,O,O,ht,O,_,O,t,_,_,_,O,O,ht,O,g,(v.arr.take i).foldl dH [],q.other,q.one,O,⟨ys,P'.of h3,d3⟩,by rw[← Q9 (f:=WT),d3.length];exact sF,fun r2 zs H4 pt s4 h4 _ _=>?_,fun JO H4 s4=>?_⟩
   .refine⟨_,O,dP O ?_⟩
    refine⟨_,ys,O,fun b o e ne=>s4 _ _ (o3 b o e ne),s4 _ _ h3,?_⟩
    rw[e1,rR ⟨zs,pt⟩]
    exact s4.Vf d3
   .refine⟨_,O,jg O ?_⟩
    have h4:=s4 _ _ h3
    refine⟨_,O,.inl ⟨O,_,P'.of h4⟩,_,O,g,_,_,O,O,h4,by rw[Rh];lia,?_⟩
    have tk:Tk H4 (upd H4 g (.lst (ys++[.ref t]))):=Tk.upd h4 rfl
    refine⟨_,_,O,fun b o e ne=>by rw[aj ne];exact s4 _ _ (o3 b o e ne),ag,?_⟩
    rw[e1,oZ JO,Rf]
    exact bv.snoc (yH (tk.VP (s4.VP ht))) (tk.Vf (cw (fun _=>O) _) (s4.Vf d3))
  .rintro σ H3 ⟨v2,ys,rfl,o3,h3,d3⟩
   rw[← iE,Rz] at d3
   exact⟨_,O,k g ys H3 (fun b o e=>o3 b o (s2 _ _ (s1 _ _ e)) (aq e ng)) ng h3 d3⟩
inductive Kf (K:R') (C:F') (vs:List V) (H:Hp) (Q:VK) (bF:XK):Prop
 | mk (p r v:_) (_:vs=[.ref p]) (_:bE K C H p r v) (_:v.arr.length≤100) (_:(v.arr.map Ar.num).Nodup) (_:∀ k H',ae H H'→H k=i'→H' k=f' (.lst ((fu v.arr).map V.int))→Q (.ref k) H')
theorem Kj (T:Tx K mg a):Vj P w K mg base Vd 3 "turned" ["net"] [] (Kf K a.Net):=T.Qjw.U8 fun f fd F=>by
 have d5:=P3 (P:=P) (w:=w) (base:=base) T
 have YT:=y8 (P:=P) (w:=w) (base:=base) T
 refine F.ok EO (fun vs H Q E h=>?_) (fun ay A outer s H vs Q E hr h=>?_)
 .obtain⟨p,r,v,rfl,_⟩:=h
  rfl
 .obtain⟨p,r,v,rfl,N,hk,nd,k⟩:=h
  refine⟨_,(ao (aV (i:=1) EO.nd O (by first|exact UR rfl|exact UQ O) (bB d5 (hr.mono (by decide)) rfl (af (pv 0) ai)))
   (ak (aM (cG (N:=["arrow","kept"]) (cap:=[i',f' 1]) O (cy (osc:=az yp) (XN:=["net","kept"]) O O (by decide +kernel)) (bV (jj (pv 0) T.Vg YT (hr.mono (by decide)))) (fun cl C s H fp aa=>(aF (i:=0) (show(["arrow","kept"]:List C').Nodup by decide +kernel) rfl (by first|exact UR rfl|exact UQ O))) (fun cl C s H fp aa=>yh (bb (KO (K:=K) O hr.units) (pv 0) (pv 1) (by with_unfolding_all rfl))) (fun cl C s H fp aa=>(aK (lC (K:=K) O) (pv 0) au (fun _ _=>O))))))),?_⟩
  refine⟨_,O,p,r,v,O,N,hk,fun g ys H1 s1 ng h1 d1=>?_⟩
  have N1:=N.same s1
  obtain⟨dx,hp⟩:=N1.ex
  refine⟨_,O,p,dx,_,O,hp,by rfl,p,r,v,O,N1,by rw[Q9];lia,fun l H2 xs s2 nl h2 d2 _=>?_⟩
  have iE:v.arr.length=xs.length:=by rw[← d2.length,Q9]
  refine⟨l,O,⟨_,P'.of h2⟩,fun D hD=>?_⟩
  refine ft (K:=K) (a:=l) (xs:=xs) (fun i τ H'=>∃ v1,τ=[v1,f' (.ref g)]∧ae H2 H'∧H' D=f' (.lst ((((v.arr.take i).filter fun q=>!WU (jF v.arr) q).map Ar.num).map V.int))) ⟨i',O,ae.new hD,ag⟩ ?_ ?_ ?_
  .rintro i τ H' _ ⟨v1,rfl,sm,hy⟩
   exact P'.of (sm _ _ h2)
  .rintro i x τ H' hx ⟨v1,rfl,sm,hy⟩
   obtain⟨q,hq,dq⟩:=gm d2 hx
   obtain⟨t,rfl,ht⟩:=tW (sm.dt dq)
   have fl:(v.arr.take (i+1)).filter (fun q=>!WU (jF v.arr) q)=(v.arr.take i).filter (fun q=>!WU (jF v.arr) q)++(if (!WU (jF v.arr) q)=B' then[q] else[]):=by
    rw[cJ hq,Th]
    cases e:WU (jF v.arr) q<;>simp[e]
   dsimp only[bM]
   refine⟨_,O,_,O,g,(jF v.arr).map WT,ys,WT q,O,P'.of (sm _ _ (s2 _ _ h1)),sm.Vf (s2.Vf d1),yH ht,FA (fun q=>Qi q) _,_,O,?_⟩
   show if (!WU (jF v.arr) q)=B' then _ else _
   refine bg (fun c=>?_) (fun c=>?_)
   .refine⟨_,O,t,_,_,_,O,O,ht,O,_,hy,?_,_,O,?_,?_⟩
    .rw[Q9,Q9,Rh]
     have:=So (fun q=>!WU (jF v.arr) q) (v.arr.take i)
     rw[Rs] at this
     lia
    .intro b u e
     rw[aj (aq e hD)]
     exact sm b u e
    .rw[ag,fl,UN c,Rf,Rf]
     rfl
   .refine⟨_,O,sm,?_⟩
    rw[fl,UL (by rw[c];decide),SD]
    exact hy
  .rintro τ H' ⟨v1,rfl,sm,hy⟩
   rw[← iE,Rz,P9 nd] at hy
   have s3:=s1.trans (s2.trans sm)
   refine k D H' s3 ?_ hy
   cases e:H D with
   | none=>rfl
   | some o=>
    rw[(s1.trans s2) _ _ e] at hD
    cases hD
end
end Nt
theorem CG {k:Key}:∀ (kvs m:List (Key×V)),(∀ kv∈kvs,kv.1≠k)→a8 (kvs.foldl fX m) k=a8 m k
 | [],_,_=>rfl
 | kv::r,m,h=>by
  show a8 (r.foldl fX (fX m kv)) k=_
  rw[CG r _ fun x hx=>h x (Rk _ hx)]
  unfold fX
  rw[uf,UL (US (h kv Rx))]
theorem DI {α:Type}{x:α}:∀ {l:List α}{i:Nat},l[i]?=f' x→l=l.take i++x::l.drop (i+1)
 | y::l,0,h=>by
  obtain rfl:y=x:=VL h
  rfl
 | y::l,i+1,h=>by
  show y::l=y::(l.take i++x::l.drop (i+1))
  rw[← DI (show l[i]?=f' x from h)]
theorem Kv {kvs:List (Key×V)}{kv:Key×V} (nd:(kvs.map (·.1)).Nodup) (h:kvs[i]?=f' kv):a8 (WJ kvs) kv.1=f' kv.2:=by
 have es:=DI h
 generalize kvs.take i=l at es
 generalize kvs.drop (i+1)=r at es
 subst es
 unfold WJ
 rw[Sy]
 show a8 (r.foldl fX (fX (l.foldl fX []) kv)) kv.1=_
 rw[Rf,RS,Qfo,XJ] at nd
 rw[CG r _ fun x hx e=>nd.2.1.1 (Wx.mpr ⟨x,hx,e⟩)]
 unfold fX
 rw[uf,UN rfl]
def ix (ws:List C') (n:C'):Int:=(ws.idxOf n:Nat)
theorem Qnv {n:C'} (h:n∈ws):ws[ws.idxOf n]?=f' n:=by
 have:=TR h
 rw[Rm this,List.getElem_idxOf]
def fq:Nat→List C'→List (Key×V)
 | _,[]=>[]
 | i,n::r=>(UT n,.int (i:Int))::fq (i+1) r
theorem xK:∀ (ws:List C') (i:Nat),(fq i ws).length=ws.length
 | [],_=>rfl
 | n::r,i=>by show(fq (i+1) r).length+1=_;rw[xK r];rfl
theorem CN:∀ (ws:List C') (i:Nat),(fq i ws).map (·.1)=ws.map UT
 | [],_=>rfl
 | n::r,i=>by show UT n::(fq (i+1) r).map (·.1)=_;rw[CN r];rfl
theorem CU:∀ (ws:List C') (i j:Nat) (n:C'),ws[j]?=f' n→(fq i ws)[j]?=f' (UT n,.int ((i+j:Nat):Int))
 | x::r,i,0,n,h=>by
  obtain rfl:x=n:=VL h
  rfl
 | x::r,i,j+1,n,h=>by
  show(fq (i+1) r)[j]?=_
  rw[CU r (i+1) j n h]
  congr 3
  lia
theorem C9:∀ (ws:List C') (i:Nat) (n:C'),fq i (ws++[n])=fq i ws++[(UT n,.int ((i+ws.length:Nat):Int))]
 | [],i,n=>rfl
 | x::r,i,n=>by
  show _::fq (i+1) (r++[n])=_::(fq (i+1) r++_)
  rw[C9 r (i+1) n,Rn,show i+1+r.length=i+(r.length+1) by lia]
def Qaf (ws:List C'):List (Key×V):=WJ (fq 0 ws)
theorem yk (nd:ws.Nodup){n:C'} (h:n∈ws):a8 (Qaf ws) (UT n)=f' (.int (ix ws n)):=by
 have h1:=CU ws 0 _ n (Qnv h)
 have iH:((fq 0 ws).map (·.1)).Nodup:=by
  rw[CN,TV,List.pairwise_map]
  rw[TV] at nd
  exact nd.imp fun z e=>z (W6 e)
 have:=Kv iH h1
 rw[T9] at this
 exact this
section
variable {K:R'}
theorem fz.tk {H H':Hp} (t:Tk H H'):∀ {kvs:List (Key×V)}{ys:List V},fz K H kvs ys→fz K H' kvs ys
 | [],_,h=>h
 | _::_,_,h=>by
  obtain⟨q,kK,e,h1,h2⟩:=h
  exact⟨q,kK,e,t.VP h1,fz.tk t h2⟩
theorem fz.snoc {H:Hp}{kv:Key×V}{t:F'} (ht:U4 K H t [kV kv.1,kv.2]):∀ {kvs:List (Key×V)}{ys:List V},fz K H kvs ys→fz K H (kvs++[kv]) (ys++[.ref t])
 | [],_,h=>by
  obtain rfl:_=[]:=h
  exact⟨t,[],O,ht,O⟩
 | _::_,_,h=>by
  obtain⟨q,kK,rfl,h1,h2⟩:=h
  exact⟨q,_,O,h1,fz.snoc ht h2⟩
theorem fz.len {H:Hp}:∀ {kvs:List (Key×V)}{ys:List V},fz K H kvs ys→kvs.length=ys.length
 | [],_,h=>by rw[show _=[] from h];rfl
 | _::_,_,h=>by
  obtain⟨q,kK,rfl,h1,h2⟩:=h
  rw[Rn,Rn,fz.len h2]
end
namespace Nt
def gu (ws:List C') (tn:List Int) (q:Ar):Wi:=if q.num∈tn then(ix ws q.other,ix ws q.one,q.span,q.weight) else(ix ws q.one,ix ws q.other,q.span,q.weight)
def ma (ws:List C') (q:C'×C'):List Wi:=[(ix ws q.1,ix ws q.2,0,0),(ix ws q.2,ix ws q.1,0,0)]
def sy (ws:List C') (q:C'×C'×Int):Wi:=(ix ws q.2.1,ix ws q.1,0-q.2.2,0)
def fc (ws:List C') (v:bp):List Wi:=v.arr.map (gu ws (fu v.arr))++v.ss.flatMap (ma ws)++v.mm.map (sy ws)
section
variable {K:R'}
structure Acc (K:R') (g:F') (B H:Hp) (dn:List Wi):Prop where
 old:∀ b o,B b=f' o→b≠g→H b=f' o
 tp:∀ ys,H g=f' (.lst ys)→V' H ys
 l:∃ ys,H g=f' (.lst ys)∧bv K H (dn.map wD) ys
theorem Acc.put {g z:F'}{B:Hp}{dn:List Wi}{ys:List V}{q:Wi} (old:∀ b o,B b=f' o→b≠g→H b=f' o) (tp:V' H ys) (hy:H g=f' (.lst ys)) (dy:bv K H (dn.map wD) ys) (s:ae H H1) (hz:H1 z=f' (.tup (wV q))):Acc K g B (upd H1 g (.lst (ys++[.ref z]))) (dn++[q]):=by
 have Ad:=s _ _ hy
 have tk:Tk H1 (upd H1 g (.lst (ys++[.ref z]))):=Tk.upd Ad rfl
 have IM:z≠g:=bN hz Ad (by intro q;cases q)
 refine⟨fun b o e ne=>by rw[aj ne];exact s _ _ (old b o e ne),fun kK e=>?_,_,ag,?_⟩
 .rw[ag] at e
  cases e
  exact V'.snoc (tp.tk ((Tk.of s).trans tk)) (by rw[aj IM];exact hz)
 rw[Rf]
 exact bv.snoc (Qnb (tk.VP (U4.of hz))) (tk.Vf (cw (fun _=>O) _) (s.Vf dy))
structure Wn (ws:List C') (v:bp):Prop where
 keys:jE v.kvs=ws.map V.str
 nd:ws.Nodup
 len:ws.length≤100
 nums:(v.arr.map Ar.num).Nodup
 la:v.arr.length≤100
 ls:v.ss.length≤100
 lm:v.mm.length≤100
 ea:∀ q∈v.arr,q.one∈ws∧q.other∈ws
 es:∀ q∈v.ss,q.1∈ws∧q.2∈ws
 em:∀ q∈v.mm,q.1∈ws∧q.2.1∈ws
inductive PU (K:R') (C:F') (vs:List V) (H:Hp) (Q:VK) (bF:XK):Prop
 | mk (p r v ws:_) (_:vs=[.ref p]) (_:bE K C H p r v) (_:Wn ws v) (_:∀ l ys H',ae H H'→H l=i'→H' l=f' (.lst ys)→bv K H' ((fc ws v).map wD) ys→V' H' ys→Q (.ref l) H')
theorem Lx (l:List Int):(l.map V.int).all jh=B':=by
 induction l with
 | nil=>rfl
 | cons x l ih=>exact ih
theorem OM (n:Int) (l:List Int):X5 (.int n) (l.map V.int)=decide (n∈l):=by
 induction l with
 | nil=>rfl
 | cons x l ih=>
  show(WR (.int x) (.int n) || X5 (.int n) (l.map V.int))=_
  rw[ih]
  by_cases h:x=n
  .subst h
   simp[WR]
  .simp[WR,h,US h]
theorem t8 (ws:List C'):∀ l:List (C'×C'),(l.flatMap (ma ws)).length=2*l.length
 | []=>rfl
 | q::l=>by rw[List.flatMap_cons,Ru,t8 ws l,Rn];show 2+_=_;lia
theorem xM (T:Tx K mg a):Vj P w K mg base Vd 4 "wishes_of" ["net"] [] (PU K a.Net):=T.Qjy.U8 fun f fd F=>by
 have jz:=Kj (P:=P) (w:=w) (base:=base) T
 have W1:=pb (P:=P) (w:=w) (base:=base) T
 have YT:=y8 (P:=P) (w:=w) (base:=base) T
 have Qb1:=NA (P:=P) (w:=w) (base:=base) T
 have Qb2:=Kw (P:=P) (w:=w) (base:=base) T
 refine F.ok ir (fun vs H Q E h=>?_) (fun ay A outer s H vs Q E hr h=>?_)
 .obtain⟨p,r,v,ws,rfl,_⟩:=h
  rfl
 .obtain⟨p,r,v,ws,rfl,N,W,k⟩:=h
  obtain⟨dx,hp⟩:=N.ex
  refine⟨_,(ao (aV (i:=1) ir.nd O (by first|exact UR rfl|exact UQ O) (mh MY O T.Qeg CH (af (cG (N:=["number","name"]) (cap:=[i',i']) O (cy (osc:=az xY) (XN:=["net","numbers","turned_about","wishes","number","one","other","span","weight"]) O O (by decide +kernel)) (tS rfl T.QaR (af (jj (pv 0) T.Vg W1 (hr.mono (by decide))) ai)) (fun cl C s H fp aa=>(kX (K:=K) (n:=2) O O (bj (aF (i:=0) (show(["number","name"]:List C').Nodup by decide +kernel) rfl (by first|exact UR rfl|exact UQ O)) (bj (aF (i:=1) (show(["number","name"]:List C').Nodup by decide +kernel) rfl (by first|exact UR rfl|exact UQ O)) fj)))) (fun cl C s H fp aa=>cS) (fun cl C s H fp aa=>(gj (af (pv 1) (af (pv 0) ai))))) ai)))
   (ao (aV (i:=2) ir.nd O (by first|exact UR rfl|exact UQ O) (bB jz (hr.mono (by decide)) rfl (af (pv 0) ai)))
   (ao (aV (i:=3) ir.nd O (by first|exact UR rfl|exact UQ O) (bY ai))
   (ao (ej Wj rfl (bV (jj (pv 0) T.Vg YT (hr.mono (by decide)))) (kg rfl (bj (aF (i:=4) ir.nd O (by first|exact UR rfl|exact UQ O)) (bj (aF (i:=5) ir.nd O (by first|exact UR rfl|exact UQ O)) (bj (aF (i:=6) ir.nd O (by first|exact UR rfl|exact UQ O)) (bj (aF (i:=7) ir.nd O (by first|exact UR rfl|exact UQ O)) (bj (aF (i:=8) ir.nd O (by first|exact UR rfl|exact UQ O)) fj)))))) (ak (aT (bb Cy (pv 4) (pv 2) (by with_unfolding_all rfl)) (ak (bo (eA Wa Wv WE fS (pv 3) (af (gj (af (fY (cM hr) (pv 1) (pv 6) (fun _ _=>O)) (af (fY (cM hr) (pv 1) (pv 5) (fun _ _=>O)) (af (pv 7) (af (pv 8) ai))))) ai)))) (ak (bo (eA Wa Wv WE fS (pv 3) (af (gj (af (fY (cM hr) (pv 1) (pv 5) (fun _ _=>O)) (af (fY (cM hr) (pv 1) (pv 6) (fun _ _=>O)) (af (pv 7) (af (pv 8) ai))))) ai)))))))
   (ao (ej Wj rfl (bV (jj (pv 0) T.Vg Qb1 (hr.mono (by decide)))) (kg rfl (bj (aF (i:=5) ir.nd O (by first|exact UR rfl|exact UQ O)) (bj (aF (i:=6) ir.nd O (by first|exact UR rfl|exact UQ O)) fj))) (ao (bo (eA Wa Wv WE fS (pv 3) (af (gj (af (fY (cM hr) (pv 1) (pv 5) (fun _ _=>O)) (af (fY (cM hr) (pv 1) (pv 6) (fun _ _=>O)) (af au (af au ai))))) ai)))
   (ak (bo (eA Wa Wv WE fS (pv 3) (af (gj (af (fY (cM hr) (pv 1) (pv 6) (fun _ _=>O)) (af (fY (cM hr) (pv 1) (pv 5) (fun _ _=>O)) (af au (af au ai))))) ai))))))
   (ao (ej Wj rfl (bV (jj (pv 0) T.Vg Qb2 (hr.mono (by decide)))) (kg rfl (bj (aF (i:=5) ir.nd O (by first|exact UR rfl|exact UQ O)) (bj (aF (i:=6) ir.nd O (by first|exact UR rfl|exact UQ O)) (bj (aF (i:=4) ir.nd O (by first|exact UR rfl|exact UQ O)) fj)))) (ak (bo (eA Wa Wv WE fS (pv 3) (af (gj (af (fY (cM hr) (pv 1) (pv 6) (fun _ _=>O)) (af (fY (cM hr) (pv 1) (pv 5) (fun _ _=>O)) (af (bq jJ au (pv 4)) (af au ai))))) ai)))))
   (ak (aM (pv 3))))))))),?_⟩
  refine⟨_,O,p,dx,_,O,hp,by rfl,p,r,v,O,N,fun l nl=>?_⟩
  rw[W.keys]
  have s1:ae H (upd H l (.lst (ws.map V.str))):=ae.new nl
  have h1:upd H l (.lst (ws.map V.str)) l=f' (.lst (ws.map V.str)):=ag
  generalize upd H l (.lst (ws.map V.str))=H1 at s1 h1 ⊢
  refine⟨l,O,⟨_,P'.of h1⟩,fun D hD=>?_⟩
  refine OQ (K:=K) (l:=l) (xs:=ws.map V.str) (fun j τ H'=>∃ v1 v2 us,τ=[v1,v2]∧ae H1 H'∧H' D=f' (.lst us)∧fz K H' (fq 0 (ws.take j)) us) ⟨i',i',[],rfl,ae.new hD,ag,by rw[SK];rfl⟩ ?_ ?_ ?_
  .rintro j τ H' _ ⟨_,_,_,rfl,sm,_⟩
   exact P'.of (sm _ _ h1)
  .rintro j y tt τ H' hy nt ⟨v1,v2,us,rfl,sm,vA,Bp⟩
   obtain⟨n,hn,rfl⟩:=Zw.mp ((RD (f:=V.str) (l:=ws) (i:=j)).symm.trans hy)
   have hj:j<ws.length:=(VJ.mp hn).1
   have hW:=W.len
   have ul:us.length≤j:=by
    rw[← fz.len Bp,xK,Rs]
    lia
   have s3:ae H' (upd H' tt (.tup [.int j,.str n])):=ae.new nt
   have AV:upd H' tt (.tup [.int j,.str n]) tt=f' (.tup [.int j,.str n]):=ag
   generalize upd H' tt (.tup [.int j,.str n])=H3 at s3 AV ⊢
   refine⟨tt,_,O,U4.of AV,O,_,_,O,_,_,O,O,?_⟩
   refine⟨_,O,_,O,(by show 2≤S';decide),fun z nz=>?_⟩
   have s4:ae H3 (upd H3 z (.tup [.str n,.int j])):=ae.new nz
   have At:upd H3 z (.tup [.str n,.int j]) z=f' (.tup [.str n,.int j]):=ag
   generalize upd H3 z (.tup [.str n,.int j])=H4 at s4 At ⊢
   have t4:=s3.trans s4
   have BN:=t4 _ _ vA
   have tk:Tk H4 (upd H4 D (.lst (us++[.ref z]))):=Tk.upd BN rfl
   refine⟨_,BN,by rw[Rh];lia,_,_,_,O,fun b u e=>by rw[aj (aq e hD)];exact t4 _ _ (sm b u e),ag,?_⟩
   rw[cJ hn,C9,Rs,TC (Sg hj),T9]
   exact fz.snoc (kv:=(UT n,.int (j:Int))) (tk.VP (U4.of At)) (((Tk.of t4).trans tk |> fun t=>fz.tk t Bp))
  rintro τ H2 ⟨v1,v2,us,rfl,s2,pY,p2⟩
  rw[Q9,Rz] at p2
  refine⟨D,us,fq 0 ws,O,P'.of pY,p2,by rw[xK];have:=W.len;lia,fun d nd=>?_⟩
  have s3:ae H2 (upd H2 d (.dK (Qaf ws))):=ae.new nd
  have sX:upd H2 d (.dK (Qaf ws)) d=f' (.dK (Qaf ws)):=ag
  change upd H2 d (.dK (WJ (fq 0 ws))) d=_ at sX
  change ae H2 (upd H2 d (.dK (WJ (fq 0 ws)))) at s3
  generalize upd H2 d (.dK (WJ (fq 0 ws)))=H3 at s3 sX ⊢
  have t3:=s1.trans (s2.trans s3)
  have N3:=N.same t3
  refine⟨_,O,p,r,v,O,N3,W.la,W.nums,fun ab H4 s4 QE h4=>?_⟩
  refine⟨(by show 0≤S';decide),fun g ng=>?_⟩
  have mY:H g=i':=by
   cases e:H g with
   | none=>rfl
   | some o=>
    have:=s4 _ _ (t3 _ _ e)
    rw[ng] at this
    cases this
  have s5:ae H4 (upd H4 g (.lst [])):=ae.new ng
  have qd:upd H4 g (.lst []) g=f' (.lst []):=ag
  have dg:d≠g:=aq (s4 _ _ sX) ng
  have F0:ab≠g:=aq h4 ng
  generalize upd H4 g (.lst [])=H5 at s5 qd ⊢
  have A1:=s5 _ _ (s4 _ _ sX)
  have Jf:=s5 _ _ h4
  have N5:=(N3.same s4).same s5
  have t5:ae H H5:=t3.trans (s4.trans s5)
  clear s4 s3 p2 pY s2 h1 s1 h4 N3 t3
  obtain⟨IV,Gw⟩:=N5.ex
  have wl:=W.la
  have Q4:=W.ls
  have QT:=W.lm
  refine⟨_,O,p,IV,_,O,Gw,by rfl,p,r,v,O,N5,by rw[Q9];lia,fun l6 H6 xs s6 n6 h6 d6 _=>?_⟩
  have iE:v.arr.length=xs.length:=by rw[← d6.length,Q9]
  have lg:l6≠g:=fun e=>by rw[e,qd] at n6;cases n6
  refine⟨l6,O,⟨_,P'.of h6⟩,iN (K:=K) (a:=l6) (xs:=xs) (fun i σ H'=>∃ v4 v5 v6 v7 v8,σ=[f' (.ref p),f' (.ref d),f' (.ref ab),f' (.ref g),v4,v5,v6,v7,v8]∧Acc K g H6 H' ((v.arr.take i).map (gu ws (fu v.arr)))) ⟨i',i',i',i',i',rfl,⟨fun b o e _=>e,(fun ys e=>by rw[s6 _ _ qd] at e;cases e;exact V'.nil),[],s6 _ _ qd,by rw[SK];rfl⟩⟩ ?_ ?_ ?_⟩
  .rintro i σ H' _ ⟨_,_,_,_,_,rfl,A7⟩
   exact P'.of (A7.old _ _ h6 lg)
  .rintro i y σ H7 hy ⟨v4,v5,v6,v7,v8,rfl,A7⟩
   obtain⟨q,hq,dq⟩:=gm d6 hy
   have vO:i<v.arr.length:=(VJ.mp hq).1
   have Gs:Tk H6 H7:=fun b o e z=>A7.old b o e (fun w=>by rw[w,s6 _ _ qd] at e;cases e;cases z)
   obtain⟨tq,rfl,qE⟩:=tW dq
   have sU:=Rv hq
   obtain⟨e1,e2⟩:=W.ea q sU
   obtain⟨ys,iX,qm⟩:=A7.l
   have yl:ys.length≤i:=by
    rw[← qm.length,Q9,Q9,Rs]
    lia
   have qr:=A7.old _ _ (s6 _ _ A1) dg
   have JQ:=A7.old _ _ (s6 _ _ Jf) F0
   have gN:∀ n∈ws,ci H7 d (.str n) (f' (.int (ix ws n))):=fun n hn=>by
    rw[← yk W.nd hn]
    exact ci.k (k:=UT n) qr
   have et:(v.arr.take (i+1)).map (gu ws (fu v.arr))=(v.arr.take i).map (gu ws (fu v.arr))++[gu ws (fu v.arr) q]:=by rw[cJ hq,Rf];rfl
   refine⟨tq,_,O,Gs.VP qE,O,_,_,O,_,_,O,_,_,O,_,_,O,_,_,O,O,?_⟩
   refine⟨_,O,_,O,ab,_,O,.inl (P'.of JQ),O,Lx _,_,O,?_⟩
   rw[OM]
   refine bg (fun c=>?_) (fun c=>?_)
   .have c':q.num∈fu v.arr:=RB c
    refine⟨_,O,.inl ⟨O,_,P'.of iX⟩,_,O,_,O,d,_,O,gN _ e2,_,O,_,O,d,_,O,gN _ e1,_,O,_,O,(by show 4≤S';decide),fun z nz=>?_⟩
    have s8:=ae.new (o:=.tup [.int (ix ws q.other),.int (ix ws q.one),.int q.span,.int q.weight]) nz
    refine⟨g,_,_,O,O,s8 _ _ iX,by rw[Rh];lia,_,_,_,_,_,O,?_⟩
    rw[et]
    exact Acc.put A7.old (A7.tp _ iX) iX qm s8 (by rw[ag];unfold gu;rw[UN c'];rfl)
   .have c':q.num∉fu v.arr:=RM c
    refine⟨_,O,.inl ⟨O,_,P'.of iX⟩,_,O,_,O,d,_,O,gN _ e1,_,O,_,O,d,_,O,gN _ e2,_,O,_,O,(by show 4≤S';decide),fun z nz=>?_⟩
    have s8:=ae.new (o:=.tup [.int (ix ws q.one),.int (ix ws q.other),.int q.span,.int q.weight]) nz
    refine⟨g,_,_,O,O,s8 _ _ iX,by rw[Rh];lia,_,_,_,_,_,O,?_⟩
    rw[et]
    exact Acc.put A7.old (A7.tp _ iX) iX qm s8 (by rw[ag];unfold gu;rw[UL c'];rfl)
  rintro σ H7 ⟨v4,v5,v6,v7,v8,rfl,A7⟩
  rw[← iE,Rz] at A7
  have wQ:∀ b o,H5 b=f' o→b≠g→H7 b=f' o:=fun b o e ne=>A7.old b o (s6 _ _ e) ne
  have t7:ae H H7:=fun b o e=>wQ b o (t5 _ _ e) (aq e mY)
  have N7:=N.same t7
  have qr:=wQ _ _ A1 dg
  obtain⟨y7,iX,qm⟩:=A7.l
  have JS:=A7.tp _ iX
  clear A7 wQ d6 h6 s6 n6 lg iE
  obtain⟨Jb,GM⟩:=N7.ex
  refine⟨_,O,p,Jb,_,O,GM,by rfl,p,r,v,O,N7,by rw[Q9];lia,fun l6 H8 xs s8 n6 h6 d6 _=>?_⟩
  have iE:v.ss.length=xs.length:=by rw[← d6.length,Q9]
  have lg:l6≠g:=fun e=>by rw[e,iX] at n6;cases n6
  have lN:=s8 _ _ iX
  refine⟨l6,O,⟨_,P'.of h6⟩,iN (K:=K) (a:=l6) (xs:=xs) (fun i σ H'=>∃ v4 v5 v6 v7 v8,σ=[f' (.ref p),f' (.ref d),f' (.ref ab),f' (.ref g),v4,v5,v6,v7,v8]∧Acc K g H8 H' (v.arr.map (gu ws (fu v.arr))++(v.ss.take i).flatMap (ma ws))) ⟨v4,v5,v6,v7,v8,rfl,⟨fun b o e _=>e,(fun ys e=>by rw[lN] at e;cases e;exact JS.tk (Tk.of s8)),y7,lN,by rw[SK,List.flatMap_nil,SD];exact s8.Vf qm⟩⟩ ?_ ?_ ?_⟩
  .rintro i σ H' _ ⟨_,_,_,_,_,rfl,A9⟩
   exact P'.of (A9.old _ _ h6 lg)
  .rintro i y σ H9 hy ⟨v4,v5,v6,v7,v8,rfl,A9⟩
   obtain⟨⟨o,t⟩,hq,dq⟩:=gm d6 hy
   have vO:i<v.ss.length:=(VJ.mp hq).1
   have Ie:Tk H8 H9:=fun b o e z=>A9.old b o e (fun w=>by rw[w,lN] at e;cases e;cases z)
   obtain⟨tq,rfl,qE⟩:=EW dq
   obtain⟨e1,e2⟩:=W.es _ (Rv hq)
   dsimp only at e1 e2
   obtain⟨ys,lM,tf⟩:=A9.l
   have fl:=t8 ws (v.ss.take i)
   have yl:ys.length≤300:=by
    rw[← tf.length,Q9,Ru,Q9,fl,Rs]
    lia
   have sQ:=A9.old _ _ (s8 _ _ qr) dg
   have gN:∀ {G:Hp},G d=f' (.dK (Qaf ws))→∀ n∈ws,ci G d (.str n) (f' (.int (ix ws n))):=fun hG n hn=>by
    rw[← yk W.nd hn]
    exact ci.k (k:=UT n) hG
   refine⟨tq,_,O,Ie.VP qE,O,_,_,O,_,_,O,O,?_⟩
   refine⟨_,O,.inl ⟨O,_,P'.of lM⟩,_,O,_,O,d,_,O,gN sQ _ e1,_,O,_,O,d,_,O,gN sQ _ e2,(by show 4≤S';decide),fun z nz=>?_⟩
   have sa:=ae.new (o:=.tup [.int (ix ws o),.int (ix ws t),.int 0,.int 0]) nz
   refine⟨g,_,_,O,O,sa _ _ lM,by rw[Rh];lia,?_⟩
   have Aa:=Acc.put (q:=(ix ws o,ix ws t,0,0)) A9.old (A9.tp _ lM) lM tf sa ag
   have oG:upd (upd H9 z (.tup [.int (ix ws o),.int (ix ws t),.int 0,.int 0])) g (.lst (ys++[.ref z])) g=f' (.lst (ys++[.ref z])):=ag
   generalize upd (upd H9 z (.tup [.int (ix ws o),.int (ix ws t),.int 0,.int 0])) g (.lst (ys++[.ref z]))=Ha at Aa oG ⊢
   obtain⟨yb,BK,Jv⟩:=Aa.l
   rw[oG] at BK
   obtain rfl:ys++[.ref z]=yb:=by cases BK;rfl
   have sO:=Aa.old _ _ (s8 _ _ qr) dg
   refine⟨_,O,.inl ⟨O,_,P'.of oG⟩,_,O,_,O,d,_,O,gN sO _ e2,_,O,_,O,d,_,O,gN sO _ e1,(by show 4≤S';decide),fun z2 Jz=>?_⟩
   have sb:=ae.new (o:=.tup [.int (ix ws t),.int (ix ws o),.int 0,.int 0]) Jz
   refine⟨g,_,_,O,O,sb _ _ oG,by rw[Ru,Rh];show _+1<_;lia,?_⟩
   have Ab:=Acc.put (q:=(ix ws t,ix ws o,0,0)) Aa.old (Aa.tp _ oG) oG Jv sb ag
   refine⟨_,_,_,_,_,O,?_⟩
   have et:v.arr.map (gu ws (fu v.arr))++(v.ss.take (i+1)).flatMap (ma ws)=v.arr.map (gu ws (fu v.arr))++(v.ss.take i).flatMap (ma ws)++[(ix ws o,ix ws t,0,0)]++[(ix ws t,ix ws o,0,0)]:=by
    rw[cJ hq,List.flatMap_append,Sv,Sv]
    rfl
   rw[et]
   exact Ab
  rintro σ H9 ⟨v4,v5,v6,v7,v8,rfl,A9⟩
  rw[← iE,Rz] at A9
  have xn:∀ b o,H7 b=f' o→b≠g→H9 b=f' o:=fun b o e ne=>A9.old b o (s8 _ _ e) ne
  have t9:ae H H9:=fun b o e=>xn b o (t7 _ _ e) (aq e mY)
  have N9:=N.same t9
  have sQ:=xn _ _ qr dg
  obtain⟨y9,lM,tf⟩:=A9.l
  have Jy:=A9.tp _ lM
  clear A9 xn d6 h6 s8 n6 lg iE lN
  obtain⟨Ji,Iz⟩:=N9.ex
  refine⟨_,O,p,Ji,_,O,Iz,by rfl,p,r,v,O,N9,by rw[Q9];lia,fun l6 H8 xs s8 n6 h6 d6 _=>?_⟩
  have iE:v.mm.length=xs.length:=by rw[← d6.length,Q9]
  have lg:l6≠g:=fun e=>by rw[e,lM] at n6;cases n6
  have lN:=s8 _ _ lM
  refine⟨l6,O,⟨_,P'.of h6⟩,iN (K:=K) (a:=l6) (xs:=xs) (fun i σ H'=>∃ v4 v5 v6 v7 v8,σ=[f' (.ref p),f' (.ref d),f' (.ref ab),f' (.ref g),v4,v5,v6,v7,v8]∧Acc K g H8 H' (v.arr.map (gu ws (fu v.arr))++v.ss.flatMap (ma ws)++(v.mm.take i).map (sy ws))) ⟨v4,v5,v6,v7,v8,rfl,⟨fun b o e _=>e,(fun ys e=>by rw[lN] at e;cases e;exact Jy.tk (Tk.of s8)),y9,lN,by rw[SK,UA,SD];exact s8.Vf tf⟩⟩ ?_ ?_ ?_⟩
  .rintro i σ H' _ ⟨_,_,_,_,_,rfl,Aa⟩
   exact P'.of (Aa.old _ _ h6 lg)
  .rintro i y σ Ha hy ⟨v4,v5,v6,v7,v8,rfl,Aa⟩
   obtain⟨⟨o,t,m⟩,hq,dq⟩:=gm d6 hy
   have vO:i<v.mm.length:=(VJ.mp hq).1
   have JA:Tk H8 Ha:=fun b o e z=>Aa.old b o e (fun w=>by rw[w,lN] at e;cases e;cases z)
   obtain⟨tq,rfl,qE⟩:=FX dq
   obtain⟨e1,e2⟩:=W.em _ (Rv hq)
   dsimp only at e1 e2
   obtain⟨ys,mP,tJ⟩:=Aa.l
   have fl:=t8 ws v.ss
   have yl:ys.length≤400:=by
    rw[← tJ.length,Q9,Ru,Ru,Q9,Q9,fl,Rs]
    lia
   have sO:=Aa.old _ _ (s8 _ _ sQ) dg
   have gN:∀ n∈ws,ci Ha d (.str n) (f' (.int (ix ws n))):=fun n hn=>by
    rw[← yk W.nd hn]
    exact ci.k (k:=UT n) sO
   refine⟨tq,_,O,JA.VP qE,O,_,_,O,_,_,O,_,_,O,O,?_⟩
   refine⟨_,O,.inl ⟨O,_,P'.of mP⟩,_,O,_,O,d,_,O,gN _ e2,_,O,_,O,d,_,O,gN _ e1,_,O,_,_,O,O,(by show 4≤S';decide),fun z nz=>?_⟩
   have sa:=ae.new (o:=.tup [.int (ix ws t),.int (ix ws o),.int (0-m),.int 0]) nz
   refine⟨g,_,_,O,O,sa _ _ mP,by rw[Rh];lia,_,_,_,_,_,O,?_⟩
   have et:v.arr.map (gu ws (fu v.arr))++v.ss.flatMap (ma ws)++(v.mm.take (i+1)).map (sy ws)=v.arr.map (gu ws (fu v.arr))++v.ss.flatMap (ma ws)++(v.mm.take i).map (sy ws)++[sy ws (o,t,m)]:=by
    rw[cJ hq,Rf,← Sv]
    rfl
   rw[et]
   exact Acc.put Aa.old (Aa.tp _ mP) mP tJ sa ag
  rintro σ Ha ⟨v4,v5,v6,v7,v8,rfl,Aa⟩
  rw[← iE,Rz] at Aa
  obtain⟨ya,mP,tJ⟩:=Aa.l
  exact⟨_,O,k g ya Ha (fun b o e=>Aa.old b o (s8 _ _ (t9 _ _ e)) (aq e mY)) mY mP tJ (Aa.tp _ mP)⟩
end
theorem km {n:C'} (h:n∈ws):0≤ix ws n∧ix ws n<ws.length:=by
 have:=TR h
 unfold ix
 lia
theorem Cb {v:bp} (W:Wn ws v):∀ q∈fc ws v,InR ws.length q:=by
 intro q hq
 unfold fc at hq
 rcases We.mp hq with hq|hq
 .rcases We.mp hq with hq|hq
  .obtain⟨x,hx,rfl⟩:=Wx.mp hq
   obtain⟨e1,e2⟩:=W.ea x hx
   unfold gu
   split
   .exact⟨km e2,km e1⟩
   .exact⟨km e1,km e2⟩
  .obtain⟨x,hx,hq⟩:=Qfq.mp hq
   obtain⟨e1,e2⟩:=W.es x hx
   rcases RY.mp hq with rfl|hq
   .exact⟨km e1,km e2⟩
   .rw[Vh.mp hq]
    exact⟨km e2,km e1⟩
 .obtain⟨x,hx,rfl⟩:=Wx.mp hq
  obtain⟨e1,e2⟩:=W.em x hx
  exact⟨km e2,km e1⟩
theorem zb:Small 0:=⟨by decide,by decide⟩
theorem MO {v:bp} (h:∀ q∈v.arr,Small q.weight):∀ q∈fc ws v,Small q.2.2.2:=by
 intro q hq
 unfold fc at hq
 rcases We.mp hq with hq|hq
 .rcases We.mp hq with hq|hq
  .obtain⟨x,hx,rfl⟩:=Wx.mp hq
   unfold gu
   split
   .exact h x hx
   .exact h x hx
  .obtain⟨x,hx,hq⟩:=Qfq.mp hq
   rcases RY.mp hq with rfl|hq
   .exact zb
   .rw[Vh.mp hq]
    exact zb
 .obtain⟨x,hx,rfl⟩:=Wx.mp hq
  exact zb
theorem CB {v:bp} (W:Wn ws v):(fc ws v).length≤400:=by
 unfold fc
 rw[Ru,Ru,Q9,Q9,t8]
 have:=W.la
 have:=W.ls
 have:=W.lm
 lia
def uN (kvs:Vc) (ws:List C') (ps:List Int):Prop:=ps.length=ws.length∧∀ (i:Nat) (n:C'),ws[i]?=f' n→∃ z,ps[i]?=f' z∧a8 kvs (UT n)=f' (.int z)
section
variable {K:R'}
inductive Kg (K:R') (C:F') (vs:List V) (H:Hp) (Q:VK) (bF:XK):Prop
 | mk (p r v ws lv kvs ps:_) (_:vs=[.ref p,.ref lv]) (_:bE K C H p r v) (_:Wn ws v) (_:H lv=f' (.dK kvs)) (_:uN kvs ws ps) (_:∀ l H',ae H H'→H l=i'→H' l=f' (.lst (ps.map V.int))→Q (.ref l) H')
theorem Di (T:Tx K mg a):Vj P w K mg base Vd 2 "places_by" ["net","levels"] [] (Kg K a.Net):=T.Qjz.U8 fun f fd F=>by
 have W1:=pb (P:=P) (w:=w) (base:=base) T
 refine F.ok NF (fun vs H Q E h=>?_) (fun ay A outer s H vs Q E hr h=>?_)
 .obtain⟨p,r,v,ws,lv,kvs,ps,rfl,_⟩:=h
  rfl
 .obtain⟨p,r,v,ws,lv,kvs,ps,rfl,N,W,hl,⟨L1,L2⟩,k⟩:=h
  obtain⟨dx,hp⟩:=N.ex
  have hW:=W.len
  refine⟨_,(ak (aM (cG (N:=["name","levels"]) (cap:=[i',f' 1]) O (cy (osc:=az yY) (XN:=["net","levels"]) O O (by decide +kernel)) (bV (jj (pv 0) T.Vg W1 (hr.mono (by decide)))) (fun cl C s H fp aa=>(aF (i:=0) (show(["name","levels"]:List C').Nodup by decide +kernel) rfl (by first|exact UR rfl|exact UQ O))) (fun cl C s H fp aa=>cS) (fun cl C s H fp aa=>(fY (cM hr) (pv 1) (pv 0) (fun _ _=>O)))))),?_⟩
  refine⟨_,O,p,dx,_,O,hp,by rfl,p,r,v,O,N,fun l nl=>?_⟩
  rw[W.keys]
  have s1:ae H (upd H l (.lst (ws.map V.str))):=ae.new nl
  have h1:upd H l (.lst (ws.map V.str)) l=f' (.lst (ws.map V.str)):=ag
  generalize upd H l (.lst (ws.map V.str))=H1 at s1 h1 ⊢
  refine⟨l,O,⟨_,P'.of h1⟩,fun D hD=>?_⟩
  refine ft (K:=K) (a:=l) (xs:=ws.map V.str) (fun j τ H'=>∃ v1,τ=[v1,f' (.ref lv)]∧ae H1 H'∧H' D=f' (.lst ((ps.take j).map V.int))) ⟨i',rfl,ae.new hD,ag⟩ ?_ ?_ ?_
  .rintro j τ H' _ ⟨_,rfl,sm,_⟩
   exact P'.of (sm _ _ h1)
  .rintro j y τ H' hy ⟨v1,rfl,sm,vA⟩
   obtain⟨n,hn,rfl⟩:=Zw.mp ((RD (f:=V.str) (l:=ws) (i:=j)).symm.trans hy)
   obtain⟨z,hz,hv⟩:=L2 j n hn
   have gz:ci H' lv (.str n) (f' (.int z)):=by
    rw[← hv]
    exact ci.k (k:=UT n) (sm _ _ (s1 _ _ hl))
   dsimp only[bM]
   refine⟨_,O,_,O,lv,_,O,gz,_,vA,by rw[Q9,Rs,Rh];lia,_,O,fun b u e=>by rw[aj (aq e hD)];exact sm b u e,?_⟩
   rw[ag,cJ hz,Rf]
   rfl
  rintro τ H2 ⟨v1,rfl,s2,pY⟩
  rw[Q9,← L1,Rz] at pY
  refine k D H2 (s1.trans s2) ?_ pY
  cases e:H D with
  | none=>rfl
  | some o=>
   have:=s1 _ _ e
   rw[hD] at this
   cases this
inductive OL (K:R') (C:F') (vs:List V) (H:Hp) (Q:VK) (bF:XK):Prop
 | mk (p r v ws lv kvs ps:_) (_:vs=[.ref p,.ref lv]) (_:bE K C H p r v) (_:Wn ws v) (_:H lv=f' (.dK kvs)) (_:uN kvs ws ps) (_:∀ H',ae H H'→Q (.bl ((fc ws v).all (keep ps))) H')
theorem Nh (T:Tx K mg a):Vj P w K mg base Vd 5 "keeps_net" ["net","levels"] [] (OL K a.Net):=T.QjA.U8 fun f fd F=>by
 have W1:=pb (P:=P) (w:=w) (base:=base) T
 have bf:=xM (P:=P) (w:=w) (base:=base) T
 have bR:=Di (P:=P) (w:=w) (base:=base) T
 have mJ:=LN (P:=P) (w:=w) (base:=base) T
 refine F.ok Ke (fun vs H Q E h=>?_) (fun ay A outer s H vs Q E hr h=>?_)
 .obtain⟨p,r,v,ws,lv,kvs,ps,rfl,_⟩:=h
  rfl
 .obtain⟨p,r,v,ws,lv,kvs,ps,rfl,N,W,hl,L,k⟩:=h
  obtain⟨dx,hp⟩:=N.ex
  refine⟨_,(ak (aM (bB mJ (hr.mono (by decide)) rfl (af (bi fg rfl T.VW dr (af (jj (pv 0) T.Vg W1 (hr.mono (by decide))) ai)) (af (bB bf (hr.mono (by decide)) rfl (af (pv 0) ai)) (af (bB bR (hr.mono (by decide)) rfl (af (pv 0) (af (pv 1) ai))) ai)))))),?_⟩
  refine⟨_,O,p,dx,_,O,hp,by rfl,p,r,v,O,N,fun l nl=>?_⟩
  rw[W.keys]
  have s1:ae H (upd H l (.lst (ws.map V.str))):=ae.new nl
  have h1:upd H l (.lst (ws.map V.str)) l=f' (.lst (ws.map V.str)):=ag
  generalize upd H l (.lst (ws.map V.str))=H1 at s1 h1 ⊢
  refine⟨l,_,O,.inl (P'.of h1),_,O,p,r,v,ws,O,N.same s1,W,fun l2 ys H2 s2 n2 h2 d2 _=>?_⟩
  have t2:=s1.trans s2
  refine⟨_,O,_,O,p,r,v,ws,lv,kvs,ps,O,N.same t2,W,t2 _ _ hl,L,fun l3 H3 s3 n3 h3=>?_⟩
  refine⟨_,l2,fc ws v,l3,ps,O,⟨ys,P'.of (s3 _ _ h2),s3.Vf d2⟩,P'.of h3,by have:=CB W;lia,fun _ q hq=>by rw[L.1];exact Cb W q hq,fun H4 s4=>?_⟩
  have e:nU ((ws.map V.str).length:Nat) (fc ws v) ps=(fc ws v).all (keep ps):=by
   unfold nU
   rw[Rp (by rw[L.1,Q9]),Uu]
  rw[e]
  exact k H4 (t2.trans (s3.trans s4))
inductive Oa (K:R') (C:F') (vs:List V) (H:Hp) (Q:VK) (bF:XK):Prop
 | mk (p r v ws lv kvs ps:_) (_:vs=[.ref p,.ref lv]) (_:bE K C H p r v) (_:Wn ws v) (_:(∀ q∈v.arr,Small q.weight)) (_:H lv=f' (.dK kvs)) (_:uN kvs ws ps) (_:∀ H',ae H H'→Q (.int (zV (fc ws v) ps)) H')
theorem Lp (T:Tx K mg a):Vj P w K mg base Vd 5 "length" ["net","levels"] [] (Oa K a.Net):=T.QjB.U8 fun f fd F=>by
 have bf:=xM (P:=P) (w:=w) (base:=base) T
 have bR:=Di (P:=P) (w:=w) (base:=base) T
 have kN:=Px (P:=P) (w:=w) (base:=base) T
 refine F.ok MR (fun vs H Q E h=>?_) (fun ay A outer s H vs Q E hr h=>?_)
 .obtain⟨p,r,v,ws,lv,kvs,ps,rfl,_⟩:=h
  rfl
 .obtain⟨p,r,v,ws,lv,kvs,ps,rfl,N,W,sm,hl,L,k⟩:=h
  refine⟨_,(ak (aM (bB kN (hr.mono (by decide)) rfl (af (bB bf (hr.mono (by decide)) rfl (af (pv 0) ai)) (af (bB bR (hr.mono (by decide)) rfl (af (pv 0) (af (pv 1) ai))) ai))))),?_⟩
  refine⟨_,O,p,r,v,ws,O,N,W,fun l2 ys H2 s2 n2 h2 d2 _=>?_⟩
  refine⟨_,O,_,O,p,r,v,ws,lv,kvs,ps,O,N.same s2,W,s2 _ _ hl,L,fun l3 H3 s3 n3 h3=>?_⟩
  refine⟨l2,fc ws v,l3,ps,O,⟨ys,P'.of (s3 _ _ h2),s3.Vf d2⟩,P'.of h3,by have:=CB W;lia,fun q hq=>⟨by rw[L.1];exact Cb W q hq,MO sm q hq⟩,fun H4 s4=>?_⟩
  exact k H4 (s2.trans (s3.trans s4))
end
def cl (s:C'):List Nat:=s.cps.toList
theorem sf (s:C'):(cl s).length=s.length:=by simp[cl,QcU]
theorem Qnw {x y:C'} (h:cl x=cl y):x=y:=PyProof.Rows.str_of_list h
def tn (n:Int):C':=UO (toString n)
theorem sA (m:Nat):cl (tn (m:Int))=(Wy 10 m).map Xk:=QoM m
theorem KE (h:c∈(Wy 10 m).map Xk):48≤c∧c≤57:=by
 obtain⟨ch,fh,rfl⟩:=Wx.mp h
 have r:=Nat.isDigit_of_mem_toDigits (by decide) (by decide) fh
 unfold Char.isDigit at r
 rw[Rt,RP,RP] at r
 exact⟨r.1,r.2⟩
theorem Fo (h:0≤n):∀ c∈cl (tn n),48≤c∧c≤57:=by
 obtain⟨m,rfl⟩:=SQ h
 intro c hc
 rw[sA] at hc
 exact KE hc
theorem yT (h:0≤n) (h7:n<10000000):1≤(tn n).length∧(tn n).length≤7:=by
 obtain⟨m,rfl⟩:=SQ h
 rw[← sf,sA,Q9]
 exact⟨Qcf 10 m,QoJ (by decide) (by lia)⟩
theorem OI:∀ {m:Nat},m≠0→((Wy 10 m).map Xk).head?≠f' 48:=by
 intro m
 induction m using QcI with
 | _ m ih=>
  intro h0
  by_cases h:m<10
  .rw[Sz h]
   revert h0
   exact(by decide:∀ d:Nat,d<10→d≠0→(([ZM d].map Xk).head?≠f' 48)) m h
  .have hm:m % 10<10:=Qgx m (by decide)
   have t:Wy 10 (m / 10)++Wy 10 (m % 10)=Wy 10 (10*(m / 10)+m % 10):=S6 (by decide) (by lia) hm
   rw[QfK] at t
   rw[← t,Rf,List.head?_append]
   have z:=ih (m / 10) (by lia) (by lia)
   cases e:((Wy 10 (m / 10)).map Xk).head? with
   | none=>
    have:=Qcf 10 (m / 10)
    rw[Ui,Ux] at e
    rw[e] at this
    exact UX this (by decide)
   | some c=>
    rw[e] at z
    exact z
theorem Ph (h:0≤n) (h0:n≠0):∃ c,(cl (tn n))[0]?=f' c∧c≠48:=by
 obtain⟨m,rfl⟩:=SQ h
 have z:=OI (m:=m) (by lia)
 rw[sA,← Uj]
 cases e:((Wy 10 m).map Xk).head? with
 | none=>
  have:=Qcf 10 m
  rw[Ui,Ux] at e
  rw[e] at this
  exact UX this (by decide)
 | some c=>exact⟨c,O,fun z'=>z (by rw[e,z'])⟩
def Qag:C':="0123456789"
def W3 (c:Nat):Bool:=!(ZO Qag ⟨#[c]⟩ 0 Qag.length 1).isEmpty
theorem Fd (h:48≤c∧c≤57):W3 c=B':=by
 unfold W3
 rw[Qcv]
 exact(by decide:∀ c:Nat,c<58→48≤c→decide (c∈Qag.cps.toList)=B') c (by lia) h.1
theorem uS (h:(ws.map V.str)[i]?=f' y):∃ s,ws[i]?=f' s∧y=.str s:=by
 rw[RD] at h
 cases e:ws[i]? with
 | none=>rw[e] at h;cases h
 | some s=>rw[e] at h;cases h;exact⟨s,O,O⟩
theorem LQ:W3 c=B'↔48≤c∧c≤57:=by
 refine⟨fun h=>?_,Fd⟩
 unfold W3 at h
 rw[Qcv] at h
 have h':c∈Qag.cps.toList:=RB h
 exact(by decide:∀ c∈Qag.cps.toList,48≤c∧c≤57) c h'
def iq (ds:List Nat):Nat:=ds.foldl (fun a d=>10*a+(d-48)) 0
theorem Cd (ds:List Nat) (d:Nat):iq (ds++[d])=10*iq ds+(d-48):=by
 unfold iq
 rw[Sy]
 rfl
theorem Cg:∀ (ds:List Nat),(∀ c∈ds,c≤57)→∀ a,ds.foldl (fun a d=>10*a+(d-48)) a<(a+1)*10 ^ ds.length
 | [],_,a=>by show a<(a+1)*1;lia
 | d::ds,h,a=>by
  have h1:=h d (Rx ..)
  have h2:=Cg ds (fun c hc=>h c (Rk _ hc)) (10*a+(d-48))
  rw[QfC,Rn,Nat.pow_succ]
  have h3:(10*a+(d-48)+1)*10 ^ ds.length≤(a+1)*10*10 ^ ds.length:=Nat.mul_le_mul_right _ (by lia)
  have e:(a+1)*(10 ^ ds.length*10)=(a+1)*10*10 ^ ds.length:=by rw[Qgg (10 ^ ds.length),Nat.mul_assoc]
  lia
theorem CD:∀ (n:Nat) (ds:List Nat),ds.length=n+1→(∀ c∈ds,48≤c∧c≤57)→(ds.head?≠f' 48∨n=0)→(Wy 10 (iq ds)).map Xk=ds
 | 0,ds,hl,h,_=>by
  match ds,hl with
  | [d],_=>
   have hd:=h d (Rx ..)
   have e:iq [d]=d-48:=by show 10*0+(d-48)=_;lia
   rw[e,Sz (by lia)]
   exact(by decide:∀ d:Nat,d<58→48≤d→[ZM (d-48)].map Xk=[d]) d (by lia) hd.1
 | n+1,ds,hl,h,hh=>by
  have gc:ds≠[]:=fun z=>by rw[z] at hl;cases hl
  have e:=(List.dropLast_concat_getLast gc).symm
  have oz:ds.dropLast.length=n+1:=by rw[List.length_dropLast,hl];rfl
  generalize hb:ds.dropLast=b at e oz
  generalize hd:ds.getLast gc=d at e
  subst e
  have wL:b.head?≠f' 48:=by
   rcases hh with hh|hh
   .intro z
    apply hh
    cases b with
    | nil=>cases z
    | cons x b=>exact z
   .cases hh
  have Gz:∀ c∈b,48≤c∧c≤57:=fun c hc=>h c (RF _ hc)
  have ih:=CD n b oz Gz (.inl wL)
  have eS:=h d (RG _ (Rx ..))
  have pos:0<iq b:=by
   rcases Tg (iq b) with z|z
   .rw[z] at ih
    rw[← ih] at wL
    exact UX (by decide) wL
   .exact z
  have hm:d-48<10:=by lia
  have t:Wy 10 (iq b)++Wy 10 (d-48)=Wy 10 (10*iq b+(d-48)):=S6 (by decide) pos hm
  rw[Cd,← t,Rf,ih,Sz hm]
  congr 1
  exact(by decide:∀ d:Nat,d<58→48≤d→[ZM (d-48)].map Xk=[d]) d (by lia) eS.1
theorem J4:∀ m:Nat,iq ((Wy 10 m).map Xk)=m:=by
 intro m
 induction m using QcI with
 | _ m ih=>
  by_cases h:m<10
  .rw[Sz h]
   exact(by decide:∀ d:Nat,d<10→iq ([ZM d].map Xk)=d) m h
  .have hm:m % 10<10:=Qgx m (by decide)
   have t:Wy 10 (m / 10)++Wy 10 (m % 10)=Wy 10 (10*(m / 10)+m % 10):=S6 (by decide) (by lia) hm
   rw[QfK] at t
   rw[← t,Rf,Sz hm]
   show iq ((Wy 10 (m / 10)).map Xk++[(ZM (m % 10)).toNat])=m
   rw[Cd,ih (m / 10) (by lia),(by decide:∀ d:Nat,d<10→(ZM d).toNat-48=d) _ hm]
   lia
def dJ (w:C'):Bool:=decide (1≤w.length) && decide (w.length≤7) && (cl w).all W3 && (decide (w=UO "0") || !decide ((cl w)[0]?=f' 48))
def nv (w:C'):Int:=(iq (cl w):Nat)
theorem NU {w:C'} (h:dJ w=B'):w=tn (nv w)∧0≤nv w∧nv w<10000000:=by
 unfold dJ at h
 rw[Rt,Rt,Rt,RP,RP,Sk,SW,RP,Sw,R9] at h
 obtain⟨⟨⟨h1,h7⟩,hf⟩,hz⟩:=h
 have hd:∀ c∈cl w,48≤c∧c≤57:=fun c hc=>LQ.mp (hf c hc)
 rw[← sf] at h1 h7
 have lt:=Cg (cl w) (fun c hc=>(hd c hc).2) 0
 have p:10 ^ (cl w).length≤10 ^ 7:=Us (by decide) h7
 refine⟨Qnw ?_,by unfold nv;lia,?_⟩
 .rw[show nv w=((iq (cl w):Nat):Int) from rfl,sA]
  refine(CD ((cl w).length-1) (cl w) (by lia) hd ?_).symm
  rcases hz with z|z
  .right
   rw[z]
   rfl
  .left
   rw[Uj]
   exact z
 .have e:nv w=((Qan (fun a d=>10*a+(d-48)) 0 (cl w):Nat):Int):=rfl
  rw[e]
  have:Qan (fun a d=>10*a+(d-48)) 0 (cl w)<10000000:=Rw lt (by lia)
  lia
theorem Qnx (h:0≤n):nv (tn n)=n:=by
 obtain⟨m,rfl⟩:=SQ h
 unfold nv
 rw[sA,J4]
theorem L8 (h:0≤n) (h7:n<10000000):dJ (tn n)=B':=by
 obtain⟨l1,l7⟩:=yT h h7
 unfold dJ
 rw[Rt,Rt,Rt,RP,RP,Sk,SW,RP,Sw,R9]
 refine⟨⟨⟨l1,l7⟩,fun c hc=>Fd (Fo h c hc)⟩,?_⟩
 by_cases h0:n=0
 .left
  rw[h0]
  rfl
 .right
  obtain⟨c,hc,Jh⟩:=Ph h h0
  rw[hc]
  exact fun z=>Jh (VL z)
section
variable {K:R'}
inductive Qny (vs:List V) (H:Hp) (Q:VK) (bF:XK):Prop
 | mk (w:C') (_:vs=[.str w]) (_:w.length≤1000) (_:∀ H',ae H H'→Q (.bl (dJ w)) H')
theorem E7 (T:Tx K mg a):Vj P w K mg base Vd 1 "is_written_number" ["word"] [] Qny:=T.QjF.U8 fun f fd F=>by
 refine F.ok NS (fun vs H Q E h=>?_) (fun ay A outer s H vs Q E hr h=>?_)
 .obtain⟨n,rfl,_⟩:=h
  rfl
 .obtain⟨n,rfl,hn,k⟩:=h
  have hz:n.length≤S':=by rw[Rh];lia
  have no:dJ n=K'→Q (.bl K') H:=fun e=>by
   have:=k H (ae.refl H)
   rw[e] at this
   exact this
  refine⟨_,(ao (aT (PW.pt (ig (bb pc (bi uc O T.VW dr (af (pv 0) ai)) au (aY _)) (ig (bb rC (bi uc O T.VW dr (af (pv 0) ai)) (gb O T.Qj3) (aY _)) (k9 (gv (eG (bi rA O T.Qad sj (af (cG (N:=["sign"]) (cap:=[i']) O (cy (osc:=az yU) (XN:=["word"]) O O (by decide +kernel)) (Dj (pv 0)) (fun cl C s H fp aa=>(aF (i:=0) (show(["sign"]:List C').Nodup by decide +kernel) rfl (by first|exact UR rfl|exact UQ O))) (fun cl C s H fp aa=>cS) (fun cl C s H fp aa=>(kn Ef (pv 0) (E4 O T.QjU) (by with_unfolding_all rfl)))) ai)))))))) (ak (aM nC)) aP)
   (ak (aM (QgR (kn cF (pv 0) bh (aY _)) (rB (kn nG (aK Fc (pv 0) au (fun _ _=>O)) bh (aY _))))))),?_⟩
  refine⟨_,O,_,O,hz,_,_,O,O,_,O,bg (fun c1=>?_) (fun c1=>?_)⟩
  .have c1:=RB c1
   exact ei (no (by unfold dJ;rw[Ry (show ¬ 1≤n.length by lia)];rfl))
  have c1:=RM c1
  refine⟨_,O,_,O,hz,_,_,O,O,_,O,bg (fun c2=>?_) (fun c2=>?_)⟩
  .have c2:=RB c2
   exact no (by unfold dJ;rw[Ry (show ¬ n.length≤7 by lia),S1];rfl)
  have c2:=RM c2
  have i0:dJ n=((cl n).all W3 && (decide (n=UO "0") || !decide ((cl n)[0]?=f' 48))):=by
   unfold dJ
   rw[Rp (show 1≤n.length by lia),Rp (show n.length≤7 by lia)]
   rfl
  refine⟨_,O,n,O,fun D hD=>?_⟩
  refine Dl (x:=n) (fun i τ H'=>∃ v,τ=[v]∧ae H H'∧H' D=f' (.lst ((((cl n).take i).map W3).map V.bl))) ⟨i',rfl,ae.new hD,ag⟩ ?_ ?_
  .rintro i c τ H' hc ⟨v,rfl,sm,hl⟩
   have jr:(cl n)[i]?=f' c:=by
    show n.cps.toList[i]?=_
    rw[S3]
    exact hc
   dsimp only[bM,dQ]
   rw[UN rfl]
   refine⟨_,O,_,_,O,O,_,hl,by rw[Q9,Q9,Rs,sf,Rh];lia,_,O,du hD sm,?_⟩
   rw[ag,cJ jr,Rf,Rf]
   rfl
  .rintro τ H' ⟨v,rfl,sm,hl⟩
   rw[R5 (show(cl n).length≤n.cps.size by rw[sf];exact Re _)] at hl
   refine⟨D,_,O,P'.of hl,_,O,?_⟩
   have e:((cl n).map W3).all id=(cl n).all W3:=by rw[S4];rfl
   rw[e]
   have k':=k H' sm
   rw[i0] at k'
   refine bg (fun c=>?_) (fun c=>?_)
   .have c:(cl n).all W3=K':=by simpa using c
    rw[c] at k'
    exact k'
   .have c:(cl n).all W3=B':=by simpa using c
    rw[c,Uu] at k'
    refine⟨_,O,O,_,O,?_⟩
    refine bg (fun z=>?_) (fun z=>?_)
    .have z:n=UO "0":=by simpa using z
     rw[Rp z,Qf2] at k'
     exact k'
    .have z:¬ n=UO "0":=by simpa using z
     rw[Ry z,Ut] at k'
     cases hc:(cl n)[0]? with
     | none=>
      have:=List.getElem?_eq_none_iff.mp hc
      rw[sf] at this
      lia
     | some c=>
     refine⟨_,O,n,_,c,O,O,hz,?_,O,?_⟩
     .rw[jH (Tp 0)]
      exact hc
     .rw[hc] at k'
      have e2:(!decide (V.str (⟨#[c]⟩:C')=V.str (UO "0")))=!decide ((f' c:Option Nat)=f' 48):=by
       rw[show UO "0"=(⟨#[48]⟩:C') from by decide]
       by_cases q:c=48
       .subst q;rfl
       .rw[Ry (fun z=>q (VL z)),Ry (fun z=>q (by injection z with z;injection z with z;injection z with z;injection z))]
      rw[e2]
      exact k'
end
theorem CQ (n i:Nat):HT.U9 n 0 (f' (i:Int))=min i n:=HT.ziA _ _ i
theorem EL (xs:List V) (i:Nat):iQ xs (f' (i:Int)) i'=xs.drop i:=by
 unfold iQ
 rw[HT.znw,CQ]
 by_cases h:i≤xs.length
 .rw[TC h]
  exact R5 (by rw[SL];exact Re _)
 .rw[Qfx (by lia),Nat.sub_self,SK]
  exact(List.drop_of_length_le (by lia)).symm
theorem zN {x:F'} (s:ae H H') (n:H' x=i'):H x=i':=by
 cases e:H x with
 | none=>rfl
 | some o=>exact UX (s _ _ e) (by rw[n];intro z;cases z)
def im (k:Nat) (Vp:List Int) (ws:List C'):Bool:=decide (k≤ws.length) && decide (ws.length≤k+Vp.length) && ws.all dJ
section
variable {K:R'}
theorem pF (T:Tx K mg a):lW P w K mg base Vd 1 a.NoLine "NoLine" ["self","number"] (tU a.NoLine "number"):=T.Qjb.U8 fun f fd F=>by
 refine F.ok Mt (fun vs H Q E h=>?_) (fun ay A outer s H vs Q E hr h=>?_)
 .obtain⟨x,t,y,rfl,_⟩:=h
  rfl
 .obtain⟨x,t,y,rfl,hx,k⟩:=h
  refine⟨_,(ak (uj (pv 0) (pv 1) O)),?_⟩
  exact⟨_,O,_,O,x,a.NoLine,t,O,hx,T.Qjc,fun dx nd=>k dx nd⟩
theorem o6 {i:V} (k:∀ H' dx,ae H H'→H' dx=f' (.xd [("number",i)])→E (.ref a.NoLine) (f' dx) H') :
  ([i]:List V).length≤S'∧∀ x t',H x=i'→tU a.NoLine "number" (.ref x::([i]++[])) (upd H x (cz a.NoLine t' x i')) (fun v H2=>v=.UU∧∃ dx,H2 x=f' (cz a.NoLine t' x dx)∧E (.ref a.NoLine) dx (del H2 x)) E:=by
 refine⟨by show 1≤S';decide,fun x t hx=>⟨x,t,_,O,ag,fun d nd=>⟨O,f' d,ag,?_⟩⟩⟩
 have xd:d≠x:=fun z=>by rw[z,ag] at nd;cases nd
 have e:del (upd (upd (upd H x (cz a.NoLine t x i')) d (.xd [("number",i)])) x (cz a.NoLine t x (f' d))) x=upd H d (.xd [("number",i)]):=by
  funext b
  unfold del
  by_cases h1:b=x
  .subst h1
   rw[UN rfl,aj (US xd),hx]
  .rw[UL h1,aj h1]
   by_cases h2:b=d
   .subst h2;rw[ag,ag]
   .rw[aj h2,aj h1,aj h2]
 rw[e]
 have iH:H d=i':=by rw[aj xd] at nd;exact nd
 exact k _ d (ae.new iH) ag
inductive Qnz (K:R') (a:Vm) (vs:List V) (H:Hp) (Q:VK) (E:XK):Prop
 | mk (p:_) (ws:List C') (k:Nat) (t:_) (Vp:List Int) (_:vs=[.ref p,.int (k:Int),.ref t]) (_:H p=f' (.lst (ws.map V.str))) (_:(∀ n∈ws,n.length≤1000)) (_:U4 K H t (Vp.map V.int)) (_:ws.length≤1000) (_:Vp.length≤10) (_:(im k Vp ws=B'→∀ l H',ae H H'→H l=i'→H' l=f' (.lst ((ws.map nv++Vp.drop (ws.length-k)).map V.int))→Q (.ref l) H')) (_:(im k Vp ws=K'→∀ H' dx,ae H H'→H' dx=f' (.xd [("number",.int 0)])→E (.ref a.NoLine) (f' dx) H'))
theorem MH (T:Tx K mg a):Vj P w K mg base (Vt P w) 3 "numbers_of" ["words","needed","left_out"] [] (Qnz K a):=T.QjG.U8 fun f fd F=>by
 have aO:=E7 (P:=P) (w:=w) (base:=base) T
 have aE:=pF (P:=P) (w:=w) (base:=base) T
 refine F.VZ Fu (fun vs H Q E h=>?_) (fun ay A outer s H vs Q E hr h=>?_)
 .obtain⟨p,ns,k,t,Vp,rfl,_⟩:=h
  rfl
 .obtain⟨p,ws,k,t,Vp,rfl,hp,hn,ht,b3,b4,q,er⟩:=h
  have ll:((Vp.map V.int).length:Int)=Vp.length:=by rw[Q9]
  have ln:((ws.map V.str).length:Int)=ws.length:=by rw[Q9]
  have bad:im k Vp ws=K'→∀ G,ae H G→∀ H' dx,ae G H'→H' dx=f' (.xd [("number",.int 0)])→E (.ref a.NoLine) (f' dx) H':=fun e G sg H' dx s1 hd=>er e H' dx (sg.trans s1) hd
  refine⟨_,(ao (aV (i:=3) Fu.nd O (by first|exact UR rfl|exact UQ O) (bq jJ (bq nR (pv 1) (bi fg O T.VW dr (af (pv 2) ai))) (bi fg O T.VW dr (af (pv 0) ai))))
   (ao (aT (PW.pt (ig (bb pc (pv 3) au (aY _)) (ig (bb rC (pv 3) (bi fg rfl T.VW dr (af (pv 2) ai)) (aY _)) (k9 (gv (eG (bi rA rfl T.Qad sj (af (cG (N:=["word"]) (cap:=[i']) O (cy (osc:=az tQ) (XN:=["words","needed","left_out","missing"]) O O (by decide +kernel)) (bV (pv 0)) (fun cl C s H fp aa=>(aF (i:=0) (show(["word"]:List C').Nodup by decide +kernel) rfl (by first|exact UR rfl|exact UQ O))) (fun cl C s H fp aa=>cS) (fun cl C s H fp aa=>(bB aO (hr.mono (by decide)) rfl (af (pv 0) ai)))) ai)))))))) (ak (j7 aU aE (hr.mono (by decide)) rfl (af au ai))) aP)
   (ak (aM (bq rV (cG (N:=["word"]) (cap:=[i']) O (cy (osc:=az tQ) (XN:=["words","needed","left_out","missing"]) O O (by decide +kernel)) (bV (pv 0)) (fun cl C s H fp aa=>(aF (i:=0) (show(["word"]:List C').Nodup by decide +kernel) rfl (by first|exact UR rfl|exact UQ O))) (fun cl C s H fp aa=>cS) (fun cl C s H fp aa=>(mh B9 O T.Qcb xO (af (pv 0) ai)))) (mh B6 O T.QaS uw (af (ut MG (pv 2) (sv (bq jJ (bi fg O T.VW dr (af (pv 2) ai)) (pv 3))) zh) ai))))))),?_⟩
  refine⟨_,O,_,O,t,_,O,.inr ht,_,_,O,O,_,O,p,_,O,.inl (P'.of hp),_,_,O,O,?_⟩
  dsimp only[bM]
  rw[ll,ln]
  refine⟨_,O,_,_,O,O,_,O,bg (fun c=>?_) (fun c1=>?_)⟩
  .have c:=RB c
   exact ei (o6 (bad (by unfold im;rw[Ry (show ¬ ws.length≤k+Vp.length by lia),S1];rfl) H (ae.refl _)))
  have c1:=RM c1
  refine⟨_,O,_,O,t,_,O,.inr ht,_,_,O,O,_,O,bg (fun c=>?_) (fun c2=>?_)⟩
  .have c:=RB c
   rw[ll] at c
   exact o6 (bad (by unfold im;rw[Ry (show ¬ k≤ws.length by lia)];rfl) H (ae.refl _))
  have c2:=RM c2
  rw[ll] at c2
  have n0:im k Vp ws=ws.all dJ:=by
   unfold im
   rw[Rp (show k≤ws.length by lia),Rp (show ws.length≤k+Vp.length by lia)]
   rfl
  refine⟨_,O,p,O,⟨_,P'.of hp⟩,fun D hD=>?_⟩
  refine ft (K:=K) (a:=p) (xs:=ws.map V.str) (fun j τ G=>∃ v1,τ=[v1]∧ae H G∧G D=f' (.lst (((ws.take j).map dJ).map V.bl))) ⟨i',rfl,ae.new hD,ag⟩ ?_ ?_ ?_
  .rintro j τ G _ ⟨_,rfl,sg,_⟩
   exact P'.of (sg _ _ hp)
  .rintro j y τ G hy ⟨v1,rfl,sg,hG⟩
   obtain⟨z,hz,rfl⟩:=uS hy
   have hj:j<ws.length:=(VJ.mp hz).1
   dsimp only[bM,dQ]
   rw[UN rfl]
   refine⟨_,O,z,O,hn z (Rv hz),fun G1 A2=>?_⟩
   refine⟨_,A2 _ _ hG,by rw[Q9,Q9,Rs,Rh];lia,_,O,du hD (sg.trans A2),?_⟩
   rw[ag,cJ hz,Rf,Rf]
   rfl
  rintro τ G ⟨v1,rfl,sg,hG⟩
  rw[Q9,Rz] at hG
  refine⟨D,_,O,P'.of hG,_,O,?_⟩
  have e:((ws.map dJ).all id)=ws.all dJ:=by rw[S4];rfl
  rw[e]
  refine bg (fun c=>?_) (fun c=>?_)
  .have c:ws.all dJ=K':=by simpa using c
   exact o6 (bad (n0.trans c) G sg)
  have c:ws.all dJ=B':=by simpa using c
  have num:∀ z∈ws,dJ z=B':=Sk.mp c
  refine⟨_,O,p,O,⟨_,P'.of (sg _ _ hp)⟩,fun D2 iZ=>?_⟩
  refine ft (K:=K) (a:=p) (xs:=ws.map V.str) (fun j τ G'=>∃ v1,τ=[v1]∧ae G G'∧G' D2=f' (.lst (((ws.take j).map nv).map V.int))) ⟨i',rfl,ae.new iZ,ag⟩ ?_ ?_ ?_
  .rintro j τ G' _ ⟨_,rfl,bS,_⟩
   exact P'.of (bS _ _ (sg _ _ hp))
  .rintro j y τ G' hy ⟨v1,rfl,bS,eE⟩
   obtain⟨z,hz,rfl⟩:=uS hy
   have hj:j<ws.length:=(VJ.mp hz).1
   obtain⟨e1,m0,m7⟩:=NU (num z (Rv hz))
   dsimp only[bM,dQ]
   rw[UN rfl]
   refine⟨_,O,nv z,WB (fun x=>[V.str x]) e1,m0,by lia,?_⟩
   refine⟨_,eE,by rw[Q9,Q9,Rs,Rh];lia,_,O,du iZ bS,?_⟩
   rw[ag,cJ hz,Rf,Rf]
   rfl
  rintro τ G' ⟨Q2,rfl,bS,eE⟩
  rw[Q9,Rz] at eE
  have s2:=sg.trans bS
  have pV:=(Tk.of s2).VP ht
  have q:=q (n0.trans c)
  have aS:∀ (q1:F') (G1:Hp),ae G' G1→U4 K G1 q1 ((Vp.drop (ws.length-k)).map V.int)→_:=fun q1 G1 s3 h1=>show ∃ p ys,[V.ref q1]=[.ref p]∧(P' K G1 p ys∨U4 K G1 p ys)∧∀ l,G1 l=i'→Qdo (.ref D2) (.ref l) (upd G1 l (.lst ys)) Q from⟨q1,_,rfl,.inr h1,fun l nl=>⟨D2,l,_,_,O,O,(ae.new nl) _ _ (s3 _ _ eE),ag,by rw[Q9,Q9,Q9,SL,Rh];lia,fun r nr=>q r _ (((s2.trans s3).trans (ae.new nl)).trans (ae.new nr)) (zN ((s2.trans s3).trans (ae.new nl)) nr) (by rw[ag,Rf])⟩⟩
  have eL:(Vp.length:Int)-((k:Int)+Vp.length-ws.length)=((ws.length-k:Nat):Int):=by lia
  refine⟨_,O,_,O,t,_,O,.inr pV,_,O,_,_,O,O,_,O,t,_,O,pV,fun hw=>?_,fun hw q1 wX=>?_⟩
  .skip
   rw[ll,eL,CQ,Q9] at hw
   refine aS t G' (ae.refl _) ?_
   rw[show Vp.drop (ws.length-k)=Vp by
    by_cases z:ws.length-k=0
    .rw[z];rfl
    .have:Vp.length=0:=by have:=hw.1;lia
     rw[List.eq_nil_of_length_eq_zero this];simp]
   exact pV
  .rw[ll,eL,EL,← QfQ]
   exact aS q1 _ (ae.new wX) (U4.of ag)
end
abbrev bk:C':=UO " "
abbrev nl:C':=UO "\n"
abbrev YX:C':=UO "point"
abbrev YY:C':=UO "arrow"
abbrev kSm:C':=UO "same"
abbrev kMs:C':=UO "most"
theorem Qem:bk=⟨#[32]⟩:=by decide
theorem QnA:nl=⟨#[10]⟩:=by decide
def jf (k:C'):Option (Nat×Nat×List Int):=
 if k=YX then f' (1,0,[0]) else if k=YY then f' (2,0,[1,1]) else if k=kSm then f' (2,0,[]) else if k=kMs then f' (2,1,[]) else i'
structure Rd where
 k:C'
 ns:List C'
 xs:List Int
def look:List C'→Option Rd
 | []=>i'
 | k::r=>match jf k with
  | none=>i'
  | some (nn,nd,Vp)=>if r.length<nn then i' else if im nd Vp (r.drop nn)=B' then f' ⟨k,r.take nn,(r.drop nn).map nv++Vp.drop ((r.drop nn).length-nd)⟩ else i'
def Rd.nm (q:Rd) (i:Nat):C':=q.ns.getD i Vy
def Rd.nu (q:Rd) (i:Nat):Int:=q.xs.getD i 0
def Rd.err (v:bp) (q:Rd):Option Er:=
 if q.k=YX then di v.kvs (q.nm 0) (q.nu 0) else if q.k=YY then jZ v (q.nm 0) (q.nm 1) (q.nu 0) (q.nu 1) else if q.k=kSm then lim v.kvs v.ss.length (q.nm 0) (q.nm 1) i' else lim v.kvs v.mm.length (q.nm 0) (q.nm 1) (f' (q.nu 0))
def Rd.put (v:bp) (q:Rd):bp:=
 if q.k=YX then {v with kvs:=v.kvs++[(UT (q.nm 0),.int (q.nu 0))]} else if q.k=YY then {v with arr:=v.arr++[⟨v.nn,q.nm 0,q.nm 1,q.nu 0,q.nu 1⟩],nn:=v.nn+1} else if q.k=kSm then {v with ss:=v.ss++[(q.nm 0,q.nm 1)]} else {v with mm:=v.mm++[(q.nm 0,q.nm 1,q.nu 0)]}
def je (v:bp) (ws:List C'):Option bp:=match look ws with
 | none=>i'
 | some q=>match q.err v with
  | none=>f' (q.put v)
  | some _=>i'
def bL (v:bp) (l:C'):Option bp:=je v (V3 l bk)
def fw:bp→List C'→Option bp
 | v,[]=>f' v
 | v,l::r=>match bL v l with
  | none=>i'
  | some v'=>fw v' r
theorem yQ:∀ (ls ms:List C') (v:bp),fw v (ls++ms)=(fw v ls).bind fun v'=>fw v' ms
 | [],ms,v=>rfl
 | l::r,ms,v=>by
  show(match bL v l with|none=>i'|some v'=>fw v' (r++ms))=Option.bind (match bL v l with|none=>i'|some v'=>fw v' r) _
  cases bL v l with
  | none=>rfl
  | some v'=>exact yQ r ms v'
theorem Lg {v v1 v2:bp} (h:fw v ls=f' v1) (h2:bL v1 l=f' v2):fw v (ls++[l])=f' v2:=by
 rw[yQ,h]
 show(match bL v1 l with|none=>i'|some v'=>fw v' [])=_
 rw[h2]
 rfl
structure jb (m:Nat) (v:bp):Prop where
 k:v.kvs.length≤m
 a:v.arr.length≤m
 n:∀ q∈v.arr,q.num<v.nn
 s:v.ss.length≤m
 m:v.mm.length≤m
theorem LK {v:bp} (h:jb m v) (q:Rd):jb (m+1) (q.put v):=by
 obtain⟨h1,h2,h3,h4,h5⟩:=h
 unfold Rd.put
 split
 .exact⟨by show(_++[_]).length≤_;rw[Ru];exact S8 h1 1,RU h2,h3,RU h4,RU h5⟩
 split
 .refine⟨RU h1,by show(_++[_]).length≤_;rw[Ru];exact S8 h2 1,fun q' hq=>?_,RU h4,RU h5⟩
  show q'.num<v.nn+1
  rcases We.mp hq with hq|hq
  .have:=h3 q' hq
   lia
  .rw[Vh.mp hq]
   show v.nn<v.nn+1
   lia
 split
 .exact⟨RU h1,RU h2,h3,by show(_++[_]).length≤_;rw[Ru];exact S8 h4 1,RU h5⟩
 .exact⟨RU h1,RU h2,h3,RU h4,by show(_++[_]).length≤_;rw[Ru];exact S8 h5 1⟩
theorem NC {v v':bp} (h:bL v l=f' v'):∃ q,look (V3 l bk)=f' q∧q.err v=i'∧v'=q.put v:=by
 unfold bL je at h
 split at h
 .cases h
 .rename_i q hq
  split at h
  .rename_i he
   cases h
   exact⟨q,hq,he,O⟩
  .cases h
theorem Py {v v':bp} (h:jb m v) (e:bL v l=f' v'):jb (m+1) v':=by
 obtain⟨q,_,_,rfl⟩:=NC e
 exact LK h q
theorem Nd:∀ x∈V3 l bk,x.length≤l.length:=by
 have e:Qas bk (V3 l bk)=l:=by
  rw[Qem]
  exact Qe5 _ _
 intro x hx
 cases h:V3 l bk with
 | nil=>rw[h] at hx;cases hx
 | cons y r=>
  rw[h] at hx e
  have e2:=WB QcU e
  rw[Qey] at e2
  have:∀ (ys:List C'),x∈ys→x.length≤(ys.map fun s:C'=>s.length).sum:=fun ys=>by
   induction ys with
   | nil=>intro h;cases h
   | cons z ys ih=>
    intro h
    rw[RS,QfP]
    rcases RY.mp h with rfl|h
    .omega
    .have:=ih h
     lia
  have:=this _ hx
  lia
theorem FK {α:Type}{f:α→Nat}{n:Nat}:∀ {l:List α},(∀ x∈l,f x≤n)→(l.map f).sum≤n*l.length
 | [],_=>by simp
 | x::l,h=>by
  have h1:=h x (Rx ..)
  have h2:=FK (l:=l) fun y hy=>h y (Rk _ hy)
  rw[RS,QfP,Rn,Nat.mul_succ]
  lia
theorem Qa (c:C') (l:List C') (hc:c.length=1){n:Nat} (h:∀ x∈l,x.length≤n):(W8 c l).length≤(n+1)*l.length:=by
 have h1:=FK (f:=fun s:C'=>s.length) h
 cases l with
 | nil=>exact R6 _
 | cons x r=>
  show(QoP c (x::r)).length≤_
  rw[QeS,Qey,hc,Nat.mul_one,Nat.add_mul,Rn]
  rw[Rn] at h1
  lia
structure QnB (K:R') (a:Vm) (k:C') (nn nd:Nat) (Vp:List Int) (t t2:F'):Prop where
 val:a8 (fB a) (UT k)=f' (.ref t)
 q1:∀ H,U4 K H t [.int (nn:Int),.int (nd:Int),.ref t2]
 q2:∀ H,U4 K H t2 (Vp.map V.int)
 b1:nn≤2
 b4:Vp.length≤2
theorem Mn {K:R'} (T:Tx K mg a){k:C'} (h:jf k=f' (nn,nd,Vp)):∃ t t2,QnB K a k nn nd Vp t t2:=by
 have ne:∀ x y:C',¬ y=x→¬ ((UT x:Key)=UT y):=fun x y h z=>h (W6 z).symm
 unfold jf at h
 split at h
 .rename_i e
  cases h
  exact⟨_,_,by subst e;unfold fB;exact dm O,T.Qka,T.Qj9,by decide,by decide⟩
 rename_i n1
 split at h
 .rename_i e
  cases h
  exact⟨_,_,by subst e;unfold fB;rw[cv (ne _ _ n1)];exact dm O,T.Qkc,T.Qkb,by decide,by decide⟩
 rename_i n2
 split at h
 .rename_i e
  cases h
  exact⟨_,_,by subst e;unfold fB;rw[cv (ne _ _ n1),cv (ne _ _ n2)];exact dm O,T.Qke,T.Qkd,by decide,by decide⟩
 rename_i n3
 split at h
 .rename_i e
  cases h
  exact⟨_,_,by subst e;unfold fB;rw[cv (ne _ _ n1),cv (ne _ _ n2),cv (ne _ _ n3)];exact dm O,T.Qkg,T.Qkf,by decide,by decide⟩
 .cases h
theorem NR {k:C'} (h:jf k=i'):a8 (fB a) (UT k)=i':=by
 have ne:∀ x y:C',¬ y=x→¬ ((UT x:Key)=UT y):=fun x y h z=>h (W6 z).symm
 unfold jf at h
 split at h
 .cases h
 rename_i n1
 split at h
 .cases h
 rename_i n2
 split at h
 .cases h
 rename_i n3
 split at h
 .cases h
 rename_i n4
 unfold fB
 rw[cv (ne _ _ n1),cv (ne _ _ n2),cv (ne _ _ n3),cv (ne _ _ n4)]
 rfl
theorem Qj {k:Nat} (h:im k Vp ws=B'):(ws.map nv++Vp.drop (ws.length-k)).length=k+Vp.length:=by
 unfold im at h
 rw[Rt,Rt,RP,RP] at h
 rw[Ru,Q9,SL]
 lia
theorem J1 (x:V) (xs:List V) (n:Nat):iQ (x::xs) (f' 1) (f' (1+(n:Int)))=xs.take n:=by
 unfold iQ
 have e1:HT.U9 (x::xs).length 0 (f' 1)=min 1 (x::xs).length:=HT.ziA _ _ 1
 have e2:HT.U9 (x::xs).length (x::xs).length (f' (1+(n:Int)))=min (1+n) (x::xs).length:=by
  rw[show(1:Int)+(n:Int)=((1+n:Nat):Int) by lia]
  exact HT.ziA _ _ _
 rw[e1,e2,Rn,show min 1 (xs.length+1)=1 by lia,List.drop_one,List.tail_cons,show min (1+n) (xs.length+1)-1=min n xs.length by lia]
 by_cases h:n≤xs.length
 .rw[TC h]
 .rw[Qfx (by lia),Rz,R5 (by lia)]
theorem iL {α:Type}{xs:List α}{x:α} (h:xs[i]?=f' x):VH xs (i:Int)=f' x:=by
 rw[jH (by lia),show((i:Int)).toNat=i by lia]
 exact h
theorem uW {α:Type}{xs:List α}{d:α} (h:i<xs.length):xs[i]?=f' (xs.getD i d):=by
 rw[Rr,Rm h]
 rfl
section
variable {K:R'}
def W4 (a:Vm):List F':=[a.NoName,a.Taken,a.NoPoint,a.Alone,a.NoNumber,a.TooMany,a.NoSuch,a.NoLine]
theorem Qh (k:∀ C dd,C∈W4 a→E (.ref C) dd H):∀ er,kZ a E er H
 | .name=>k _ _ (by simp[W4])
 | .taken=>k _ _ (by simp[W4])
 | .point n=>fun dx _=>k _ _ (by simp[W4])
 | .alone=>k _ _ (by simp[W4])
 | .number=>k _ _ (by simp[W4])
 | .many=>k _ _ (by simp[W4])
 | .such i=>fun dx _=>k _ _ (by simp[W4])
inductive Nw (K:R') (a:Vm) (vs:List V) (H:Hp) (Q:VK) (E:XK):Prop
 | mk (p r v l:_) (_:vs=[.ref p,.str l]) (_:l.length≤900) (_:bE K a.Net H p r v) (_:jb 1000 v) (_:(∀ v',bL v l=f' v'→∀ x H',(x=.UU∨x=.int v.nn)→Kp p r H H'→bE K a.Net H' p r v'→Q x H')) (_:(bL v l=i'→∀ C dd H',ae H H'→C∈W4 a→E (.ref C) dd H'))
theorem Ex (T:Tx K mg a) (Z:KD P w K a.LINES (fB a)):Vj P w K mg base (Vt P w) 7 "put_line" ["net","line"] [] (Nw K a):=T.QjH.U8 fun f fd F=>by
 have eR:=MH (P:=P) (w:=w) (base:=base) T
 have aE:=pF (P:=P) (w:=w) (base:=base) T
 have Zs:=CZ (P:=P) (w:=w) (base:=base) T
 have QbY:=Ma (P:=P) (w:=w) (base:=base) T
 have Qab:=CK (P:=P) (w:=w) (base:=base) T
 have Qb0:=Nl (P:=P) (w:=w) (base:=base) T
 refine F.VZ o7 (fun vs H Q E h=>?_) (fun ay A outer s H vs Q E hr h=>?_)
 .obtain⟨p,r,v,l,rfl,_⟩:=h
  rfl
 .obtain⟨p,r,v,l,rfl,hl,N,V2,k,er⟩:=h
  have wl:∀ x∈V3 l bk,x.length≤1000:=fun x hx=>by have:=Nd x hx;lia
  have wc:(V3 l bk).length≤1000:=by have:=PyProof.Rows.split_le l bk;lia
  have wp:=PyProof.Rows.split_pos l bk
  have er:je v (V3 l bk)=i'→∀ G,ae H G→∀ C dd,C∈W4 a→E (.ref C) dd G:=fun e G sg C dd hC=>er e C dd G sg hC
  have k:∀ v',je v (V3 l bk)=f' v'→∀ x H',(x=.UU∨x=.int v.nn)→Kp p r H H'→bE K a.Net H' p r v'→Q x H':=k
  refine⟨_,(ao (aV (i:=2) o7.nd O (by first|exact UR rfl|exact UQ O) (eA Qa3 ZI Qcl yr (pv 1) (af bh ai)))
   (ao (aV (i:=3) o7.nd O (by first|exact UR rfl|exact UQ O) (aK bA (pv 2) au (fun _ _=>O)))
   (ao (aT (j9 (N0 (pv 3) (gX rfl T.Qd6))) (ak (j7 aU aE (hr.mono (by decide)) rfl (af au ai))) aP)
   (ao (aV (i:=4) o7.nd O (by first|exact UR rfl|exact UQ O) (Qc (gX O T.Qd6) (pv 3) (fun _ _=>O)))
   (ao (aV (i:=5) o7.nd O (by first|exact UR rfl|exact UQ O) (ut yy (pv 2) (sv au) (sv (bq nR au (aK fe (pv 4) au (fun _ _=>O))))))
   (ao (aT (bb pc (bi fg rfl T.VW dr (af (pv 5) ai)) (aK fe (pv 4) au (fun _ _=>O)) (aY _)) (ak (j7 aU aE (hr.mono (by decide)) rfl (af au ai))) aP)
   (ao (aV (i:=6) o7.nd O (by first|exact UR rfl|exact UQ O) (ff eR aU (hr.mono (by decide)) rfl (af (ut yy (pv 2) (sv (bq nR au (aK fe (pv 4) au (fun _ _=>O)))) zh) (af (aK fe (pv 4) au (fun _ _=>O)) (af (aK fe (pv 4) au (fun _ _=>O)) ai)))))
   (ao (aT (bb cF (pv 3) bh (aY _)) (ak (aM (eu (pv 0) T.Vg Zs aU (hr.mono (by decide)) (af (aK bA (pv 5) au (fun _ _=>O)) (af (aK bA (pv 6) au (fun _ _=>O)) ai))))) aP)
   (ao (aT (bb cF (pv 3) bh (aY _)) (ak (aM (eu (pv 0) T.Vg QbY aU (hr.mono (by decide)) (af (aK bA (pv 5) au (fun _ _=>O)) (af (aK bA (pv 5) au (fun _ _=>O)) (af (aK bA (pv 6) au (fun _ _=>O)) (af (aK bA (pv 6) au (fun _ _=>O)) ai))))))) aP)
   (ao (aT (bb cF (pv 3) bh (aY _)) (ak (aM (eu (pv 0) T.Vg Qab aU (hr.mono (by decide)) (af (aK bA (pv 5) au (fun _ _=>O)) (af (aK bA (pv 5) au (fun _ _=>O)) ai))))) aP)
   (ak (aM (eu (pv 0) T.Vg Qb0 aU (hr.mono (by decide)) (af (aK bA (pv 5) au (fun _ _=>O)) (af (aK bA (pv 5) au (fun _ _=>O)) (af (aK bA (pv 6) au (fun _ _=>O)) ai)))))))))))))))),?_⟩
  refine⟨_,O,O,l,bk,O,O,O,by rw[Rh];lia,fun wd mX=>?_⟩
  generalize V3 l bk=ws at wl wc wp er k mX ⊢
  cases ws with
  | nil=>exact UX wp (by decide)
  | cons kd r0=>
  have s1:ae H (upd H wd (.lst ((kd::r0).map V.str))):=ae.new mX
  have h1:upd H wd (.lst ((kd::r0).map V.str)) wd=f' (.lst ((kd::r0).map V.str)):=ag
  generalize upd H wd (.lst ((kd::r0).map V.str))=H1 at s1 h1 ⊢
  have bad:je v (kd::r0)=i'→∀ G,ae H1 G→∀ H' dx,ae G H'→H' dx=f' (.xd [("number",.int 0)])→E (.ref a.NoLine) (f' dx) H':=fun e G sg H' dx s2 _=>er e H' (s1.trans (sg.trans s2)) _ _ (by simp[W4])
  refine⟨_,O,wd,_,_,.str kd,O,O,P'.of h1,iL (i:=0) O,?_⟩
  refine⟨_,O,a.LINES,fB a,UT kd,O,Z,O,_,O,?_⟩
  cases hf:jf kd with
  | none=>
   rw[NR hf]
   refine ei (o6 (bad ?_ H1 (ae.refl _)))
   unfold je look
   dsimp only
   rw[hf]
  | some fm=>
  obtain⟨nn,nd,Vp⟩:=fm
  obtain⟨t,t2,L⟩:=Mn T hf
  have b1:=L.b1
  have b4:=L.b4
  rw[L.val]
  refine bg (fun c=>UX c Rq) (fun _=>?_)
  refine⟨_,O,a.LINES,fB a,UT kd,_,O,Z,O,L.val,?_⟩
  have a0:VH [V.int (nn:Int),.int (nd:Int),.ref t2] 0=f' (.int (nn:Int)):=rfl
  have a1:VH [V.int (nn:Int),.int (nd:Int),.ref t2] 1=f' (.int (nd:Int)):=rfl
  have a2:VH [V.int (nn:Int),.int (nd:Int),.ref t2] 2=f' (.ref t2):=rfl
  refine⟨_,O,_,O,_,O,t,_,_,_,O,O,L.q1 _,a0,_,_,O,O,_,O,wd,_,O,P'.of h1,fun nm HA=>?_⟩
  dsimp only
  have ec:iQ ((kd::r0).map V.str) (f' 1) (f' (1+(nn:Int)))=(r0.take nn).map V.str:=by
   rw[RS,J1,List.map_take]
  rw[ec]
  have s2:ae H1 (upd H1 nm (.lst ((r0.take nn).map V.str))):=ae.new HA
  have h2:upd H1 nm (.lst ((r0.take nn).map V.str)) nm=f' (.lst ((r0.take nn).map V.str)):=ag
  generalize upd H1 nm (.lst ((r0.take nn).map V.str))=H2 at s2 h2 ⊢
  refine⟨_,O,nm,_,O,.inl (P'.of h2),_,O,t,_,_,_,O,O,L.q1 _,a0,_,_,O,O,_,O,?_⟩
  refine bg (fun c=>?_) (fun c=>?_)
  .have c:=RB c
   rw[Q9,Rs] at c
   refine o6 (bad ?_ H2 s2)
   unfold je look
   dsimp only
   rw[hf]
   dsimp only
   rw[UN (by lia)]
  have c:=RM c
  rw[Q9,Rs] at c
  have c0:¬ r0.length<nn:=by lia
  refine⟨_,O,_,O,t,_,_,_,O,O,L.q1 _,a0,_,_,O,O,_,O,wd,_,O,P'.of (s2 _ _ h1),fun q nq=>?_⟩
  dsimp only
  have ed:iQ ((kd::r0).map V.str) (f' (1+(nn:Int))) i'=(r0.drop nn).map V.str:=by
   rw[show(1:Int)+(nn:Int)=((1+nn:Nat):Int) by lia,EL,Qgh 1,RS,List.drop_succ_cons,QfQ]
  rw[ed]
  have s3:ae H2 (upd H2 q (.lst ((r0.drop nn).map V.str))):=ae.new nq
  have h3:upd H2 q (.lst ((r0.drop nn).map V.str)) q=f' (.lst ((r0.drop nn).map V.str)):=ag
  generalize upd H2 q (.lst ((r0.drop nn).map V.str))=H3 at s3 h3 ⊢
  have AX:=s2.trans s3
  rw[Rn] at wc
  refine⟨_,O,t,_,_,_,O,O,L.q1 _,a1,_,O,t,_,_,_,O,O,L.q1 _,a2,q,r0.drop nn,nd,t2,Vp,O,h3,fun n hn=>wl n (Rk _ (List.mem_of_mem_drop hn)),L.q2 _,by rw[SL];lia,by lia,fun ok nu H4 s4 QN rg=>?_,fun ok H' dx s4 gw=>?_⟩
  rotate_left
  .refine bad ?_ H3 AX H' dx s4 gw
   unfold je look
   dsimp only
   rw[hf]
   dsimp only
   rw[UL c0,UL (by rw[ok];decide)]
  have xl:=Qj ok
  have lk:look (kd::r0)=f' ⟨kd,r0.take nn,(r0.drop nn).map nv++Vp.drop ((r0.drop nn).length-nd)⟩:=by
   unfold look
   dsimp only
   rw[hf]
   dsimp only
   rw[UL c0,UN ok]
  have nl:(r0.take nn).length=nn:=by rw[Rs];lia
  have lE:∀ x∈r0.take nn,x.length≤1000:=fun x hx=>wl x (Rk _ (List.mem_of_mem_take hx))
  generalize (r0.drop nn).map nv++Vp.drop ((r0.drop nn).length-nd)=xs at xl lk rg
  generalize r0.take nn=ns at nl lk h2 lE
  have vE:=s1.trans (AX.trans s4)
  have N4:=N.same vE
  obtain⟨dx,tD⟩:=N4.ex
  have gy:=(s3.trans s4) _ _ h2
  have kp:∀ {H5:Hp},Kp p r H4 H5→Kp p r H H5:=fun k5=>(Kp.of vE).trans k5
  have no:∀ {x y:C'},x≠y→decide (V.str x=V.str y)=K':=fun h=>Ry (fun z=>h (by injection z))
  have kF:∀ q:Rd,look (kd::r0)=f' q→q.err v=i'→∀ x H5,(x=.UU∨x=.int v.nn)→Kp p r H4 H5→bE K a.Net H5 p r (q.put v)→Q x H5:=fun q hq he x H5 hx k5 N5=>by
   refine k (q.put v) ?_ x H5 hx (kp k5) N5
   unfold je
   rw[hq]
   dsimp only
   rw[he]
  have ie:∀ q:Rd,look (kd::r0)=f' q→∀ e,q.err v=f' e→∀ H5,ae H4 H5→kZ a E e H5:=fun q hq e he H5 s5=>by
   refine Qh (fun C dd hC=>er ?_ H5 (vE.trans s5) C dd hC) e
   unfold je
   rw[hq]
   dsimp only
   rw[he]
  have ni:∀ {i:Nat},i<nn→(ns.map V.str)[i]?=f' (.str (ns.getD i Vy)):=fun h=>by rw[RD,uW (d:=Vy) (by lia)];rfl
  have xi:∀ {i:Nat},i<nd+Vp.length→(xs.map V.int)[i]?=f' (.int (xs.getD i 0)):=fun h=>by rw[RD,uW (d:=(0:Int)) (by lia)];rfl
  have QK:=lk
  unfold jf at hf
  split at hf
  .rename_i ek
   cases hf
   have E0:(Rd.mk kd ns xs).err v=di v.kvs (ns.getD 0 Vy) (xs.getD 0 0):=UN ek
   have P0:(Rd.mk kd ns xs).put v={v with kvs:=v.kvs++[(UT (ns.getD 0 Vy),.int (xs.getD 0 0))]}:=UN ek
   refine⟨_,O,O,_,O,jg (Rp (WB V.str ek)) ?_⟩
   refine⟨_,O,p,dx,_,O,tD,by rfl,_,O,nm,_,_,.str _,O,O,P'.of gy,iL (i:=0) (ni (by decide)),_,O,nu,_,_,.int _,O,O,P'.of rg,iL (i:=0) (xi (by decide)),p,r,v,_,_,O,?_,N4,V2.k,(fun e he=>ie _ lk e (E0.trans he)),fun he H5 k5 N5=>kF _ lk (E0.trans he) _ H5 (.inl O) k5 (by rw[P0];exact N5)⟩
   refine lE _ ?_
   exact Rv (uW (d:=Vy) (i:=0) (by lia))
  rename_i k1
  refine⟨_,O,O,_,O,dP (no k1) ?_⟩
  split at hf
  .rename_i ek
   cases hf
   have E0:(Rd.mk kd ns xs).err v=jZ v (ns.getD 0 Vy) (ns.getD 1 Vy) (xs.getD 0 0) (xs.getD 1 0):=(UL k1).trans (UN ek)
   have P0:(Rd.mk kd ns xs).put v={v with arr:=v.arr++[⟨v.nn,ns.getD 0 Vy,ns.getD 1 Vy,xs.getD 0 0,xs.getD 1 0⟩],nn:=v.nn+1}:=(UL k1).trans (UN ek)
   refine⟨_,O,O,_,O,jg (Rp (WB V.str ek)) ?_⟩
   exact⟨_,O,p,dx,_,O,tD,by rfl,_,O,nm,_,_,.str _,O,O,P'.of gy,iL (i:=0) (ni (by decide)),_,O,nm,_,_,.str _,O,O,P'.of gy,iL (i:=1) (ni (by decide)),_,O,nu,_,_,.int _,O,O,P'.of rg,iL (i:=0) (xi (by decide)),_,O,nu,_,_,.int _,O,O,P'.of rg,iL (i:=1) (xi (by decide)),p,r,v,_,_,_,_,O,N4,V2.a,V2.n,(fun he H5 k5 N5=>kF _ lk (E0.trans he) _ H5 (.inr O) k5 (by rw[P0];exact N5)),fun e he=>ie _ lk e (E0.trans he)⟩
  rename_i k2
  refine⟨_,O,O,_,O,dP (no k2) ?_⟩
  split at hf
  .rename_i ek
   cases hf
   have E0:(Rd.mk kd ns xs).err v=lim v.kvs v.ss.length (ns.getD 0 Vy) (ns.getD 1 Vy) i':=(UL k1).trans ((UL k2).trans (UN ek))
   have P0:(Rd.mk kd ns xs).put v={v with ss:=v.ss++[(ns.getD 0 Vy,ns.getD 1 Vy)]}:=(UL k1).trans ((UL k2).trans (UN ek))
   refine⟨_,O,O,_,O,jg (Rp (WB V.str ek)) ?_⟩
   exact⟨_,O,p,dx,_,O,tD,by rfl,_,O,nm,_,_,.str _,O,O,P'.of gy,iL (i:=0) (ni (by decide)),_,O,nm,_,_,.str _,O,O,P'.of gy,iL (i:=1) (ni (by decide)),p,r,v,_,_,O,N4,V2.s,(fun he H5 k5 N5=>kF _ lk (E0.trans he) _ H5 (.inl O) k5 (by rw[P0];exact N5)),fun e he=>ie _ lk e (E0.trans he)⟩
  rename_i k3
  refine⟨_,O,O,_,O,dP (no k3) ?_⟩
  split at hf
  .rename_i ek
   cases hf
   have E0:(Rd.mk kd ns xs).err v=lim v.kvs v.mm.length (ns.getD 0 Vy) (ns.getD 1 Vy) (f' (xs.getD 0 0)):=(UL k1).trans ((UL k2).trans (UL k3))
   have P0:(Rd.mk kd ns xs).put v={v with mm:=v.mm++[(ns.getD 0 Vy,ns.getD 1 Vy,xs.getD 0 0)]}:=(UL k1).trans ((UL k2).trans (UL k3))
   exact⟨_,O,p,dx,_,O,tD,by rfl,_,O,nm,_,_,.str _,O,O,P'.of gy,iL (i:=0) (ni (by decide)),_,O,nm,_,_,.str _,O,O,P'.of gy,iL (i:=1) (ni (by decide)),_,O,nu,_,_,.int _,O,O,P'.of rg,iL (i:=0) (xi (by decide)),p,r,v,_,_,_,O,N4,V2.m,(fun he H5 k5 N5=>kF _ lk (E0.trans he) _ H5 (.inl O) k5 (by rw[P0];exact N5)),fun e he=>ie _ lk e (E0.trans he)⟩
  .cases hf
end
structure r6 (ls:List C'):Prop where
 nn:∀ l∈ls,10∉cl l
 le:∀ l∈ls,l.length≤100
 V2:ls.length≤200
 ne:ls=[]∨(ls≠[]∧W8 nl ls≠UO "")
theorem r6.split {ls:List C'} (h:r6 ls) (h0:ls≠[]):V3 (W8 nl ls) nl=ls:=by
 rw[QnA]
 exact C2 h0 h.nn
theorem r6.len (h:r6 ls):(W8 nl ls).length≤101*ls.length:=Qa nl ls (by decide) h.le
def vd (H:Hp) (x:F') (r:Rec):Prop:=∀ b o,H b=f' o→b≠x∧b≠r.dh∧b≠r.da∧b≠r.ls∧b≠r.lm
theorem vd.kp {x:F'}{r:Rec} (a:vd H x r) (s:ae H H1) (k:Kp x r H1 H2):ae H H2:=fun b o e=>by
 obtain⟨e1,e2,e3,e4,e5⟩:=a b o e
 exact k b o (s _ _ e) e1 e2 e3 e4 e5
theorem KA:jb 0 VS:=⟨Re _,Re _,(fun _ h=>by cases h),Re _,Re _⟩
section
variable {K:R'}
theorem draws (T:Tx K mg a) (h:C∈W4 a):Vn K C (.ref a.DrawError)=f' B':=by
 unfold W4 at h
 rcases RY.mp h with rfl|h
 .exact T.Qd7
 rcases RY.mp h with rfl|h
 .exact T.Qd8
 rcases RY.mp h with rfl|h
 .exact T.Qec
 rcases RY.mp h with rfl|h
 .exact T.Qd9
 rcases RY.mp h with rfl|h
 .exact T.Qea
 rcases RY.mp h with rfl|h
 .exact T.Qeb
 rcases RY.mp h with rfl|h
 .exact T.Qed
 .rw[Vh.mp h]
  exact T.Qee
inductive Om (K:R') (a:Vm) (vs:List V) (H:Hp) (Q:VK) (E:XK):Prop
 | mk (ls:_) (_:vs=[.str (W8 nl ls)]) (_:r6 ls) (_:(∀ v,fw VS ls=f' v→∀ x r H',ae H H'→bE K a.Net H' x r v→Q (.ref x) H')) (_:(∀ i l v,ls[i]?=f' l→fw VS (ls.take i)=f' v→bL v l=i'→∀ H' dx,ae H H'→H' dx=f' (.xd [("number",.int (i:Int))])→E (.ref a.NoLine) (f' dx) H'))
theorem Mg (T:Tx K mg a) (Z:KD P w K a.LINES (fB a)):Vj P w K mg base (Vt P w) 8 "read_net" ["text"] [] (Om K a):=T.QjI.U8 fun f fd F=>by
 have cj:=Ex (P:=P) (w:=w) (base:=base) T Z
 have YS:=yt (P:=P) (w:=w) (base:=base) T
 have aE:=pF (P:=P) (w:=w) (base:=base) T
 refine F.VZ ve (fun vs H Q E h=>?_) (fun ay A outer s H vs Q E hr h=>?_)
 .obtain⟨ls,rfl,_⟩:=h
  rfl
 .obtain⟨ls,rfl,R,k,er⟩:=h
  have tl:=R.len
  have Hw:=R.V2
  refine⟨_,(ao (aV (i:=1) ve.nd O (by first|exact UR rfl|exact UQ O) (tN YS (hr.mono (by decide)) rfl))
   (ao (aT (bb cF (pv 0) bh (aY _)) (ak (aM (pv 1))) aP)
   (ao (ej Y3 rfl (tS rfl T.QaR (af (eA Qa3 ZI Qcl yr (pv 0) (af bh ai)) ai)) (kg rfl (bj (aF (i:=2) ve.nd O (by first|exact UR rfl|exact UQ O)) (bj (aF (i:=3) ve.nd O (by first|exact UR rfl|exact UQ O)) fj))) (ak (OF ⟨O,O⟩ O aU (fun _=>QoO) O T.QbS T.QdM T.QdN (by decide) (fun a H₀ pn dv=>(ak (MX dv aE (hr.mark.mono (by decide)) rfl (af (pv 2) ai)))) (fun pn E1 R1 aB pO=>(ak (bo (ff cj aB (hr.mono (by decide)) rfl (af (pv 1) (af (pv 3) ai)))))) aP)))
   (ak (aM (pv 1)))))),?_⟩
  refine fun x dx nx kE BG=>⟨x,dx,O,ag,fun r H2 fr fo N2=>⟨O,?_⟩⟩
  have s2:ae H H2:=fun b o e=>fr b o (by rw[aj (aq e nx),aj (aq e kE)];exact e) (aq e nx)
  have ap:vd H x r:=fun b o e=>⟨aq e nx,fo b o (by rw[aj (aq e nx),aj (aq e kE)];exact e)⟩
  refine⟨_,O,O,_,O,?_⟩
  rcases R.ne with h0|⟨h0,gc⟩
  .subst h0
   refine jg (Rp O) ?_
   exact⟨_,O,k VS O x r H2 s2 N2⟩
  .refine dP (Ry (fun z=>gc (by injection z))) ?_
   refine⟨_,O,O,W8 nl ls,nl,O,O,O,by rw[Rh];lia,fun y ny=>?_⟩
   rw[R.split h0]
   have s3:ae H2 (upd H2 y (.lst (ls.map V.str))):=ae.new ny
   have h3:upd H2 y (.lst (ls.map V.str)) y=f' (.lst (ls.map V.str)):=ag
   have pQ:y≠x∧y≠r.dh∧y≠r.da∧y≠r.ls∧y≠r.lm:=by
    have qt:∀ b o,H2 b=f' o→b≠y:=fun b o e=>aq e ny
    obtain⟨⟨dx,e1⟩,e2,⟨bJ,e3,_⟩,⟨xs,e4,_⟩,⟨ys,e5,_⟩,_⟩:=N2
    exact⟨US (qt _ _ e1),US (qt _ _ e2),US (qt _ _ e3),US (qt _ _ e4),US (qt _ _ e5)⟩
   have N3:=N2.same s3
   generalize upd H2 y (.lst (ls.map V.str))=H3 at s3 h3 N3 ⊢
   refine⟨y,O,⟨_,P'.of h3⟩,zJ (K:=K) (l:=y) (xs:=ls.map V.str) (fun i σ G=>∃ v2 v3 v,σ=[f' (.str (W8 nl ls)),f' (.ref x),v2,v3]∧ae H G∧G y=f' (.lst (ls.map V.str))∧fw VS (ls.take i)=f' v∧jb i v∧bE K a.Net G x r v) ⟨i',i',VS,rfl,s2.trans s3,h3,rfl,KA,N3⟩ ?_ ?_ ?_⟩
   .rintro i σ G _ ⟨_,_,_,rfl,_,hy,_⟩
    exact P'.of hy
   .rintro i z t σ G hz nt ⟨v2,v3,v,rfl,sg,hy,hv,fv,NG⟩
    obtain⟨l,el,rfl⟩:=uS hz
    have hi:i<ls.length:=(VJ.mp el).1
    have st:ae G (upd G t (.tup [.int (i:Int),.str l])):=ae.new nt
    have ht:U4 K (upd G t (.tup [.int (i:Int),.str l])) t [.int (i:Int),.str l]:=U4.of ag
    generalize upd G t (.tup [.int (i:Int),.str l])=G1 at st ht ⊢
    have HU:=R.le l (Rv el)
    refine⟨t,_,O,ht,O,_,_,O,_,_,O,O,?_⟩
    dsimp only[bM]
    refine⟨_,O,_,O,x,r,v,l,O,by lia,NG.same st,⟨by have:=fv.k;lia,by have:=fv.a;lia,fv.n,by have:=fv.s;lia,by have:=fv.m;lia⟩,fun v' hs vx H4 _ z8 N4=>?_,fun hs C dd H4 s4 hC=>?_⟩
    .refine⟨_,_,v',O,ap.kp (sg.trans st) z8,z8 _ _ (st _ _ hy) pQ.1 pQ.2.1 pQ.2.2.1 pQ.2.2.2.1 pQ.2.2.2.2,?_,Py fv hs,N4⟩
     rw[cJ el]
     exact Lg hv hs
    .refine⟨C,B',O,draws T hC,ei (fun e ob he ho cV hf=>?_)⟩
     have s5:ae H (upd H4 e (.UZ ob (.own e))):=((sg.trans st).trans s4).trans (ae.new he)
     refine⟨_,O,o6 fun H' dx s6 gw=>?_⟩
     exact er i l v el hv hs H' dx (s5.trans s6) gw
   .rintro σ G ⟨v2,v3,v,rfl,sg,hy,hv,fv,NG⟩
    rw[Q9,Rz] at hv
    exact⟨_,O,k v hv x r G sg NG⟩
end
inductive Ln where
 | pt (n:C') (ns:List Int)
 | ar (o t:C') (ns:List Int)
 | sm (o t:C')
 | ms (o t:C') (m:Int)
def Ln.words:Ln→List C'
 | .pt n ns=>UO "point"::n::ns.map tn
 | .ar o t ns=>UO "arrow"::o::t::ns.map tn
 | .sm o t=>[UO "same",o,t]
 | .ms o t m=>[UO "most",o,t,tn m]
def Ln.text (l:Ln):C':=W8 bk l.words
def NOk (n:Int):Prop:=0≤n∧n<10000000
def Ln.Ok:Ln→Prop
 | .pt n ns=>dk n=B'∧ns.length≤1∧∀ m∈ns,NOk m
 | .ar o t ns=>dk o=B'∧dk t=B'∧ns.length≤2∧∀ m∈ns,NOk m
 | .sm o t=>dk o=B'∧dk t=B'
 | .ms o t m=>dk o=B'∧dk t=B'∧NOk m
theorem QnC:∀ c∈cl abc,97≤c∧c≤122:=by decide +kernel
theorem Es {n:C'} (h:dk n=B'):(∀ c∈cl n,97≤c)∧n.length≤8:=by
 unfold dk at h
 rw[Rt,Rt,RP,RP] at h
 refine⟨fun c hc=>?_,h.1.2⟩
 have:=Sk.mp h.2 c hc
 unfold small at this
 rw[Qcv] at this
 exact(QnC c (RB this)).1
def YZ (s:C'):Prop:=(∀ c∈cl s,48≤c)∧s.length≤8
theorem nH {n:C'} (h:dk n=B'):YZ n:=⟨fun c hc=>by have:=(Es h).1 c hc;lia,(Es h).2⟩
theorem zA (h:NOk n):YZ (tn n):=⟨fun c hc=>(Fo h.1 c hc).1,by have:=(yT h.1 h.2).2;lia⟩
theorem OX:YZ (UO "point")∧YZ (UO "arrow")∧YZ (UO "same")∧YZ (UO "most"):=by
 refine⟨⟨?_,?_⟩,⟨?_,?_⟩,⟨?_,?_⟩,⟨?_,?_⟩⟩<;>decide
theorem Ln.wok {l:Ln} (h:l.Ok):∀ x∈l.words,YZ x:=by
 obtain⟨k1,k2,k3,k4⟩:=OX
 intro x hx
 cases l with
 | pt n ns=>
  obtain⟨h1,h2,h3⟩:=h
  rcases RY.mp hx with rfl|hx
  .exact k1
  rcases RY.mp hx with rfl|hx
  .exact nH h1
  obtain⟨m,hm,rfl⟩:=Wx.mp hx
  exact zA (h3 m hm)
 | ar o t ns=>
  obtain⟨h1,gS,h2,h3⟩:=h
  rcases RY.mp hx with rfl|hx
  .exact k2
  rcases RY.mp hx with rfl|hx
  .exact nH h1
  rcases RY.mp hx with rfl|hx
  .exact nH gS
  obtain⟨m,hm,rfl⟩:=Wx.mp hx
  exact zA (h3 m hm)
 | sm o t=>
  obtain⟨h1,gS⟩:=h
  rcases RY.mp hx with rfl|hx
  .exact k3
  rcases RY.mp hx with rfl|hx
  .exact nH h1
  rw[Vh.mp hx]
  exact nH gS
 | ms o t m=>
  obtain⟨h1,gS,h2⟩:=h
  rcases RY.mp hx with rfl|hx
  .exact k4
  rcases RY.mp hx with rfl|hx
  .exact nH h1
  rcases RY.mp hx with rfl|hx
  .exact nH gS
  rw[Vh.mp hx]
  exact zA h2
theorem Ln.V2 {l:Ln} (h:l.Ok):1≤l.words.length∧l.words.length≤5:=by
 cases l with
 | pt n ns=>
  obtain⟨h1,h2,h3⟩:=h
  show 1≤(UO "point"::n::ns.map tn).length∧(UO "point"::n::ns.map tn).length≤5
  rw[Rn,Rn,Q9]
  lia
 | ar o t ns=>
  obtain⟨h1,gS,h2,h3⟩:=h
  show 1≤(UO "arrow"::o::t::ns.map tn).length∧(UO "arrow"::o::t::ns.map tn).length≤5
  rw[Rn,Rn,Rn,Q9]
  lia
 | sm o t=>exact⟨by show 1≤3;decide,by show 3≤5;decide⟩
 | ms o t m=>exact⟨by show 1≤4;decide,by show 4≤5;decide⟩
theorem Ln.split {l:Ln} (h:l.Ok):V3 l.text bk=l.words:=by
 unfold Ln.text
 rw[Qem]
 refine C2 (fun e=>?_) fun y hy z=>?_
 .have:=(Ln.V2 h).1
  rw[e] at this
  exact UX this (by decide)
 .have:=(Ln.wok h y hy).1 32 z
  lia
def Ln.rd:Ln→Rd
 | .pt n ns=>⟨YX,[n],ns++([0]:List Int).drop ns.length⟩
 | .ar o t ns=>⟨YY,[o,t],ns++([1,1]:List Int).drop ns.length⟩
 | .sm o t=>⟨kSm,[o,t],[]⟩
 | .ms o t m=>⟨kMs,[o,t],[m]⟩
theorem yx (h:∀ m∈ns,NOk m):(ns.map tn).all dJ=B'∧(ns.map tn).map nv=ns:=by
 refine⟨?_,?_⟩
 .rw[S4,Sk]
  exact fun m hm=>L8 (h m hm).1 (h m hm).2
 .rw[TD]
  exact(List.map_congr_left fun m hm=>Qnx (h m hm).1).trans (List.map_id _)
theorem Pd:jf YX=f' (1,0,[0]):=UN rfl
theorem MP:jf YY=f' (2,0,[1,1]):=(UL (by decide)).trans (UN rfl)
theorem Qu:jf kSm=f' (2,0,[]):=(UL (by decide)).trans ((UL (by decide)).trans (UN rfl))
theorem Pc:jf kMs=f' (2,1,[]):=(UL (by decide)).trans ((UL (by decide)).trans ((UL (by decide)).trans (UN rfl)))
theorem ue {k:C'}{r:List C'} (hf:jf k=f' (nn,nd,Vp)) (h1:¬ r.length<nn) (h2:im nd Vp (r.drop nn)=B'):look (k::r)=f' ⟨k,r.take nn,(r.drop nn).map nv++Vp.drop ((r.drop nn).length-nd)⟩:=by
 unfold look
 dsimp only
 rw[hf]
 dsimp only
 rw[UL h1,UN h2]
theorem Ln.QnD {l:Ln} (h:l.Ok):look l.words=f' l.rd:=by
 cases l with
 | pt n ns=>
  obtain⟨h1,h2,h3⟩:=h
  obtain⟨e1,e2⟩:=yx h3
  refine(ue (r:=n::ns.map tn) Pd (by simp) ?_).trans ?_
  .unfold im
   show(decide (0≤(ns.map tn).length) && decide ((ns.map tn).length≤0+1) && (ns.map tn).all dJ)=B'
   rw[e1,Rp (R6 _),Rp (show(ns.map tn).length≤0+1 by rw[Q9];lia)]
   rfl
  .show f' (Rd.mk YX [n] ((ns.map tn).map nv++QcW ((ns.map tn).length-0) [0]))=_
   rw[e2,Q9]
   rfl
 | ar o t ns=>
  obtain⟨h1,gS,h2,h3⟩:=h
  obtain⟨e1,e2⟩:=yx h3
  refine(ue (r:=o::t::ns.map tn) MP (by simp) ?_).trans ?_
  .unfold im
   show(decide (0≤(ns.map tn).length) && decide ((ns.map tn).length≤0+2) && (ns.map tn).all dJ)=B'
   rw[e1,Rp (R6 _),Rp (show(ns.map tn).length≤0+2 by rw[Q9];lia)]
   rfl
  .show f' (Rd.mk YY [o,t] ((ns.map tn).map nv++QcW ((ns.map tn).length-0) [1,1]))=_
   rw[e2,Q9]
   rfl
 | sm o t=>exact(ue (r:=[o,t]) Qu (by simp) rfl).trans rfl
 | ms o t m=>
  obtain⟨e1,e2⟩:=yx (ns:=[m]) fun x hx=>by rw[Vh.mp hx];exact h.2.2
  refine(ue (r:=[o,t,tn m]) Pc (by simp) ?_).trans ?_
  .unfold im
   show(decide (1≤1) && decide (1≤1) && ([m].map tn).all dJ)=B'
   rw[e1]
   rfl
  .show f' (Rd.mk kMs [o,t] (([m].map tn).map nv++[]))=_
   rw[e2]
   rfl
theorem Ln.step {l:Ln}{v:bp} (h:l.Ok):bL v l.text=match l.rd.err v with|none=>f' (l.rd.put v)|some _=>i':=by
 unfold bL
 rw[Ln.split h]
 unfold je
 rw[Ln.QnD h]
 try rfl
structure j6 (v:bp) (names:List C') (k a s m:Nat):Prop where
 has:∀ x,has v.kvs x=B'↔x∈names
 kl:v.kvs.length=k
 al:v.arr.length=a
 sl:v.ss.length=s
 ml:v.mm.length=m
theorem PY:j6 VS [] 0 0 0 0:=⟨fun x=>⟨fun h=>(by cases h),fun h=>(by cases h)⟩,rfl,rfl,rfl,rfl⟩
theorem EG {kvs:Vc}{n x:C'} (h:has kvs n=K'):has (kvs++[(UT n,y)]) x=(decide (x=n) || has kvs x):=by
 have hn:a8 kvs (UT n)=i':=by
  unfold has at h
  cases e:a8 kvs (UT n) with
  | none=>rfl
  | some z=>rw[e] at h;cases h
 unfold has
 rw[r9 _ _ _ _ hn]
 by_cases e:x=n
 .rw[UN (WB UT e),Rp e]
  rfl
 .rw[UL (fun z=>e (W6 z)),Ry e]
  rfl
section
variable {v:bp}{k a s:Nat}
theorem j6.no (p:j6 v names k a s m){x:C'} (h:x∉names):K07.Nt.has v.kvs x=K':=by
 cases e:K07.Nt.has v.kvs x with
 | false=>rfl
 | true=>exact UX ((p.has x).mp e) h
theorem DX (p:j6 v names k a s m){n:C'} (ok:(Ln.pt n ns).Ok) (h0:0≤ns.getD 0 0∧ns.getD 0 0≤50) (hn:n∉names) (hk:k<20):∃ v',bL v (Ln.pt n ns).text=f' v'∧j6 v' (names++[n]) (k+1) a s m:=by
 have e0:(Ln.pt n ns).rd.nu 0=ns.getD 0 0:=by
  match ns,ok.2.1 with
  | [],_=>rfl
  | [x],_=>rfl
 have e1:(Ln.pt n ns).rd.err v=i':=by
  refine(UN O).trans ?_
  show di v.kvs n ((Ln.pt n ns).rd.nu 0)=i'
  rw[e0]
  unfold di
  rw[UL (by rw[ok.1];decide),UL (by rw[p.no hn];decide),UL (by lia),UL (by rw[p.kl];lia)]
 refine⟨_,(Ln.step ok).trans (by rw[e1]),?_⟩
 rw[show(Ln.pt n ns).rd.put v={v with kvs:=v.kvs++[(UT n,.int ((Ln.pt n ns).rd.nu 0))]} from UN rfl]
 refine⟨fun x=>?_,?_,p.al,p.sl,p.ml⟩
 .rw[EG (p.no hn),SW,RP,p.has x,We,Vh]
  exact Or.comm
 .show(v.kvs++[_]).length=k+1
  rw[Ru,p.kl]
  rfl
theorem QnE (ok:(Ln.ar o t ns).Ok):(Ln.ar o t ns).rd.err v=jZ v o t (ns.getD 0 1) (ns.getD 1 1):=by
 refine(UL (show YY≠YX by decide)).trans ((UN rfl).trans ?_)
 show jZ v o t ((Ln.ar o t ns).rd.nu 0) ((Ln.ar o t ns).rd.nu 1)=_
 match ns,ok.2.2.1 with
 | [],_=>rfl
 | [x],_=>rfl
 | [x,y],_=>rfl
end
end Nt
theorem Kb:aR "flow" (.ref d) (bW r)=bW {r with f:=d}:=by
 have h1:¬ (("ones":C')="flow"):=by decide +kernel
 have h2:¬ (("others":C')="flow"):=by decide +kernel
 have h3:¬ (("leasts":C')="flow"):=by decide +kernel
 have h4:¬ (("places":C')="flow"):=by decide +kernel
 simp only[bW,aR,h1,h2,h3,h4,VU,WL]
theorem Ni:aR "needs" (.ref d) (bW r)=bW {r with n:=d}:=by
 have h1:¬ (("ones":C')="needs"):=by decide +kernel
 have h2:¬ (("others":C')="needs"):=by decide +kernel
 have h3:¬ (("leasts":C')="needs"):=by decide +kernel
 have h4:¬ (("places":C')="needs"):=by decide +kernel
 have h5:¬ (("flow":C')="needs"):=by decide +kernel
 simp only[bW,aR,h1,h2,h3,h4,h5,VU,WL]
def QnF (ws:List Wt):Prop:=∃ n,n<ws.length∧∀ c P,Vl (wn ws c) P n<0
theorem QnG {ws:List Wt} (cB:∀ x∈ws,x.1<c∧x.2.1<c):(wn ws c).Ok:=by
 refine⟨fun n hn=>?_,fun n hn=>?_⟩
 .have hn:n<ws.length:=hn
  show(ws.getD n (0,0,0,0)).1<c
  rw[Rr,Rm hn]
  exact(cB _ (T8 hn)).1
 .have hn:n<ws.length:=hn
  show(ws.getD n (0,0,0,0)).2.1<c
  rw[Rr,Rm hn]
  exact(cB _ (T8 hn)).2
structure L0 (C:F') (H G:Hp) (q:F') (c:Nat) (r:LR):Prop where
 s:ae H G
 ex:∃ dx,G q=f' (.ins C dx (bW r))
 hp:G r.p=f' (.lst ((U5 c (0:Int)).map V.int))
 hf:G r.f=f' (.lst [])
variable {G1:Hp}{dd od:Option F'}{i0 i1 m u z:Int}{l lv p0 p1 p2 p3:F'}{sl:Array (Option L')}{t0 t1 t2 t3:V4}{v:bp}
theorem QC:∀ j,((U5 c (0:Int)).take j).map (fun x=>decide (0<x))=U5 (min j c) K':=fun j=>by
 rw[List.take_replicate,List.map_replicate]
 rfl
section
variable {K:R'}
inductive QnH (K:R') (t:Vm) (vs:List V) (H:Hp) (Q:VK) (E:XK):Prop
 | mk (l ws:_) (c:Nat) (_:vs=[.int c,.ref l]) (_:il K H l ((ws:List Wt).map wI)) (_:(∀ x∈ws,x.1<c∧x.2.1<c)) (_:ws.length≤200) (_:c≤200) (_:(ws=[]∨QnF ws)) (_:(ws=[]→∀ g pA fA H',ae H H'→H' g=f' (.tup [.ref pA,.ref fA])→H pA=i'→H' pA=f' (.lst ((frN (U5 c 0) (VO c)).map V.int))→H' fA=f' (.lst [])→Q (.ref g) H')) (_:∀ ring lr dx H',ae H H'→H' dx=f' (.xd [("ring",.ref lr)])→H' lr=f' (.lst (nums ring))→uu (wn ws c) ring→E (.ref t.Ring) (f' dx) H')
theorem Fq (T:Tx K mg a):Vj P w K mg base (Vt P w) 6 "laid" ["count","wishes"] [] (QnH K a):=T.Qjt.U8 fun f fd F=>by
 have Qb3:=Oz (P:=P) (w:=w) (base:=base) T
 have qq:=Qna (P:=P) (w:=w) (base:=base) T
 have bK:=Fa (P:=P) (w:=w) (base:=base) T
 have db:=NB (P:=P) (w:=w) (base:=base) T
 have aN:=Ei (P:=P) (w:=w) (base:=base) T
 have dX:=PV (P:=P) (w:=w) (base:=base) T
 have gC:=PF (P:=P) (w:=w) (base:=base) T
 refine F.VZ ux (fun vs H Q E h=>?_) (fun ay A outer s H vs Q E hr h=>?_)
 .obtain⟨l,ws,c,rfl,_⟩:=h
  rfl
 .obtain⟨l,ws,c,rfl,BP,cB,hw,hc,qP,k1,k2⟩:=h
  have ok:=QnG cB
  refine⟨_,(ao (aV (i:=2) ux.nd O (by first|exact UR rfl|exact UQ O) (DU Qb3 (hr.mono (by decide)) rfl (af (pv 0) (af (pv 1) ai))))
   (ao (bo (ff qq aU (hr.mono (by decide)) rfl (af (pv 2) ai)))
   (ao (aV (i:=3) ux.nd O (by first|exact UR rfl|exact UQ O) (bB bK (hr.mono (by decide)) rfl (af (pv 1) ai)))
   (ao (ej Y3 rfl (bV (bB db (hr.mono (by decide)) rfl (af (pv 3) ai))) (aF (i:=4) ux.nd O (by first|exact UR rfl|exact UQ O)) (ao (eh (pv 2) (cG (N:=["amount"]) (cap:=[i']) O (cy (osc:=az rY) (XN:=["count","wishes","layout","weights","worth"]) O O (by decide +kernel)) (bV (bw (pv 2) rfl)) (fun cl C s H fp aa=>(aF (i:=0) (show(["amount"]:List C').Nodup by decide +kernel) rfl (by first|exact UR rfl|exact UQ O))) (fun cl C s H fp aa=>cS) (fun cl C s H fp aa=>(bq rN (pv 0) (gb O T.QaQ)))) O)
   (ao (eh (pv 2) (bB aN (hr.mono (by decide)) rfl (af (pv 0) (af (pv 1) (af (cG (N:=["weight","worth"]) (cap:=[i',f' 4]) O (cy (osc:=az rY) (XN:=["count","wishes","layout","weights","worth"]) O O (by decide +kernel)) (bV (pv 3)) (fun cl C s H fp aa=>(aF (i:=0) (show(["weight","worth"]:List C').Nodup by decide +kernel) rfl (by first|exact UR rfl|exact UQ O))) (fun cl C s H fp aa=>cS) (fun cl C s H fp aa=>(bq ke (bq Km (pv 0) (pv 1)) (gb O T.QaQ)))) ai)))) O)
   (ak (uo Y3 (eG (bi Ee rfl T.Qef FT (af (cG (N:=["need"]) (cap:=[i']) O (cy (osc:=az rY) (XN:=["count","wishes","layout","weights","worth"]) O O (by decide +kernel)) (bV (bw (pv 2) rfl)) (fun cl C s H fp aa=>(aF (i:=0) (show(["need"]:List C').Nodup by decide +kernel) rfl (by first|exact UR rfl|exact UQ O))) (fun cl C s H fp aa=>cS) (fun cl C s H fp aa=>(kn rC (pv 0) au (aY _)))) ai))) (ak (bo iw)))))))
   (ak (aM (gj (af (bB dX (hr.mono (by decide)) rfl (af (bw (pv 2) rfl) (af (bB gC (hr.mono (by decide)) rfl (af (pv 0) (af (pv 1) ai))) ai))) (af (bw (pv 2) rfl) ai))))))))),?_⟩
  refine⟨_,O,_,O,fun q dx nq nd ne=>?_⟩
  have wX:upd H dx (.own q) q=i':=by rw[aj (US ne)];exact nq
  have sa:ae H (upd (upd H dx (.own q)) q (.ins a.Layout dx [])):=(ae.new nd).trans (ae.new wX)
  have qa:upd (upd H dx (.own q)) q (.ins a.Layout dx []) q=f' (.ins a.Layout dx []):=ag
  generalize upd (upd H dx (.own q)) q (.ins a.Layout dx [])=Ha at sa qa ⊢
  refine⟨q,dx,l,ws,c,O,qa,BP.same sa,cB,by lia,by lia,fun r0 Hb IR Lb Jl IA Hf np nf nn=>⟨O,?_⟩⟩
  have sb:ae H Hb:=fun b o e=>IR b o (sa b o e) fun y=>by
   rw[Vh.mp y,nq] at e
   cases e
  have Al:=none_of sa np
  refine⟨_,O,q,r0,ws,c,O,Lb,Jl,ok,hw,hc,fun fits GQ Hc oy wy=>?_,fun ring lr Hx Hc oy gw sI XE len=>?_⟩
  rotate_left
  .refine k2 ring lr Hx Hc (fun b o e=>oy b o (sb b o e) fun y=>?_) gw sI XE
   rw[Vh.mp y,Al] at e
   cases e
  rcases qP with Jq|⟨n,hn,bad⟩
  rotate_left
  .exact UX (fits n hn) (by have:=bad c (fn (pC ws c));lia)
  have sc:ae H Hc:=fun b o e=>oy b o (sb b o e) fun y=>by
   rw[Vh.mp y,Al] at e
   cases e
  have Lc:ik a.Layout Hc q r0 ws c:=Lb.kx oy fun y hy=>.inl (Vh.mp hy)
  have Bt:Hc r0.f=f' (.lst ((U5 ws.length (0:Int)).map V.int)):=oy _ _ IA (by simp[US Lb.pf])
  subst Jq
  have fp:pC [] c=U5 c 0:=by
   have:=ye (ws:=[]) (c:=c) (P:=U5 c 0) (j:=0) (fun n h=>UX h (Sm n)) c
   rw[T9] at this
   exact this
  rw[fp] at wy
  have Br:L0 a.Layout H Hc q c r0:=⟨sc,Lc.ex,wy,Bt⟩
  have lP:∃ nd,Hc r0.n=f' (.lst nd):=⟨_,oy _ _ Hf (by simp[US Lb.pn])⟩
  have qp:r0.p≠q:=US Lc.nq.1
  have xB:∀ {G},ae H G→il K G l (([]:List Wt).map wI):=fun sg=>BP.same sg
  refine⟨_,O,l,[],O,xB sc,by decide,fun wl Hd sd Ii cP=>?_⟩
  have cP:Hd wl=f' (.lst (([]:List Int).map V.int)):=cP
  refine⟨_,O,wl,[],O,P'.of cP,(fun x hx=>by cases hx),fun m g He se ng hg W3 QM=>?_⟩
  have ku:=sd.trans se
  have xu:=se _ _ cP
  have Bi:wl≠q:=fun z=>by
   obtain⟨Ho,e⟩:=Lc.ex
   rw[← z,Ii] at e
   cases e
  have BB:g≠q:=fun z=>by
   obtain⟨Ho,e⟩:=Lc.ex
   rw[← z] at e
   rw[sd _ _ e] at ng
   cases ng
  have m0:m=0:=by
   rcases Tg m with z|z
   .exact z
   .have:=W3.1 0 z
    exact UX this (by decide)
  subst m0
  obtain⟨Q5,JD⟩:=Lc.ex
  refine⟨g,O,⟨_,P'.of hg⟩,iN (K:=K) (a:=g) (xs:=(pw 0).map V.int) (fun i σ G=>∃ r v4,σ=[f' (.int (c:Nat)),f' (.ref l),f' (.ref q),f' (.ref wl),v4]∧L0 a.Layout H G q c r∧r.p=r0.p∧G wl=f' (.lst [])∧G g=f' (.lst ((pw 0).map V.int)))
   ⟨r0,i',rfl,⟨sc.trans ku,⟨_,ku _ _ JD⟩,ku _ _ wy,ku _ _ Bt⟩,rfl,xu,hg⟩ ?_ ?_ ?_⟩
  .rintro i σ G _ ⟨r,v4,rfl,_,_,_,xb⟩
   exact P'.of xb
  .rintro i x σ G hx ⟨r,v4,rfl,lp,ep,Ap,A8⟩
   have ex:x=.int 1:=by
    match i,hx with
    | 0,hx=>exact(VL hx).symm
    | i+1,hx=>exact UX hx (by simp[pw])
   subst ex
   obtain⟨ce,ow⟩:=lp.ex
   dsimp only[bM]
   refine⟨_,O,q,a.Layout,ce,_,_,O,ow,T.VN,T.QaM,B8,r.f,O,⟨_,P'.of lp.hf⟩,fun D hD=>?_⟩
   refine ft (K:=K) (a:=r.f) (xs:=[]) (fun j τ G'=>∃ v1,τ=[v1]∧ae G G'∧G' D=f' (.lst [])) ⟨i',rfl,ae.new hD,ag⟩ ?_ ?_ ?_
   .rintro j τ G' _ ⟨v1,rfl,sg,_⟩
    exact P'.of (sg _ _ lp.hf)
   .rintro j y τ G' hy _
    simp at hy
   rintro τ G1 ⟨v1,rfl,s1,Hm⟩
   refine⟨_,O,q,a.Layout,ce,_,O,s1 _ _ ow,T.VN,T.QaM,(by show 8<1000;decide),?_⟩
   rw[Kb]
   have Az:D≠q:=US (aq ow hD)
   have pq:r.p≠q:=by rw[ep];exact qp
   have xE:=lp.s.trans s1
   have up:∀ {G':Hp}{o:HO},ae H G'→ae H (upd G' q o):=fun sg=>du nq sg
   have q2:upd G1 q (.ins a.Layout ce (bW {r with f:=D})) q=f' (.ins a.Layout ce (bW {r with f:=D})):=ag
   have S2:ae H (upd G1 q (.ins a.Layout ce (bW {r with f:=D}))):=up xE
   have p2:upd G1 q (.ins a.Layout ce (bW {r with f:=D})) r.p=f' (.lst ((U5 c (0:Int)).map V.int)):=by rw[aj pq];exact s1 _ _ lp.hp
   have f2:upd G1 q (.ins a.Layout ce (bW {r with f:=D})) D=f' (.lst []):=by rw[aj Az];exact Hm
   have w2:upd G1 q (.ins a.Layout ce (bW {r with f:=D})) wl=f' (.lst []):=by rw[aj Bi];exact s1 _ _ Ap
   have g2:upd G1 q (.ins a.Layout ce (bW {r with f:=D})) g=f' (.lst ((pw 0).map V.int)):=by rw[aj BB];exact s1 _ _ A8
   generalize upd G1 q (.ins a.Layout ce (bW {r with f:=D}))=G2 at q2 S2 p2 f2 w2 g2 ⊢
   refine⟨_,O,_,O,_,O,wl,O,⟨_,P'.of w2⟩,fun Z hZ=>?_⟩
   refine ft (K:=K) (a:=wl) (xs:=[]) (fun j τ G'=>∃ v1,τ=[v1,f' (.int 1)]∧ae G2 G'∧G' Z=f' (.lst [])) ⟨i',rfl,ae.new hZ,ag⟩ ?_ ?_ ?_
   .rintro j τ G' _ ⟨v1,rfl,sg,_⟩
    exact P'.of (sg _ _ w2)
   .rintro j y τ G' hy _
    simp at hy
   rintro τ G3 ⟨v2,rfl,s3,JW⟩
   refine⟨(c:Int),l,[],Z,[],O,xB (S2.trans s3),P'.of JW,O,by lia,by lia,(fun q hq=>by cases hq),fun nA G4 s4 Gh h4=>?_⟩
   rw[RA] at h4
   have h4:G4 nA=f' (.lst ((U5 c (0:Int)).map V.int)):=h4
   have oB:=s3.trans s4
   refine⟨_,O,q,a.Layout,ce,_,O,oB _ _ q2,T.VN,T.QbW,(by show 8<1000;decide),?_⟩
   rw[Ni]
   have Gq:nA≠q:=US (aq q2 (none_of s3 Gh))
   have q5:upd G4 q (.ins a.Layout ce (bW { {r with f:=D} with n:=nA})) q=f' (.ins a.Layout ce (bW { {r with f:=D} with n:=nA})):=ag
   have S5:ae H (upd G4 q (.ins a.Layout ce (bW { {r with f:=D} with n:=nA}))):=up (S2.trans oB)
   have p5:upd G4 q (.ins a.Layout ce (bW { {r with f:=D} with n:=nA})) r.p=f' (.lst ((U5 c (0:Int)).map V.int)):=by rw[aj pq];exact oB _ _ p2
   have f5:upd G4 q (.ins a.Layout ce (bW { {r with f:=D} with n:=nA})) D=f' (.lst []):=by rw[aj Az];exact oB _ _ f2
   have n5:upd G4 q (.ins a.Layout ce (bW { {r with f:=D} with n:=nA})) nA=f' (.lst ((U5 c (0:Int)).map V.int)):=by rw[aj Gq];exact h4
   have w5:upd G4 q (.ins a.Layout ce (bW { {r with f:=D} with n:=nA})) wl=f' (.lst []):=by rw[aj Bi];exact oB _ _ w2
   have g5:upd G4 q (.ins a.Layout ce (bW { {r with f:=D} with n:=nA})) g=f' (.lst ((pw 0).map V.int)):=by rw[aj BB];exact oB _ _ g2
   generalize upd G4 q (.ins a.Layout ce (bW { {r with f:=D} with n:=nA}))=G5 at q5 S5 p5 f5 n5 w5 g5 ⊢
   refine⟨fun mm σ G=>G5=G∧mm=0∧σ=[f' (.int (c:Nat)),f' (.ref l),f' (.ref q),f' (.ref wl),f' (.int 1)],⟨0,O,O,O⟩,?_⟩
   rintro mm σ G6 ⟨rfl,rfl,rfl⟩
   refine⟨_,O,q,a.Layout,ce,_,_,O,q5,T.VN,T.QbW,Nz,nA,O,⟨_,P'.of n5⟩,fun Y hY=>?_⟩
   refine ft (K:=K) (a:=nA) (xs:=(U5 c (0:Int)).map V.int) (fun j τ G'=>∃ v1,τ=[v1]∧ae G5 G'∧G' Y=f' (.lst ((((U5 c (0:Int)).take j).map fun x=>decide (0<x)).map V.bl))) ⟨i',O,ae.new hY,ag⟩ ?_ ?_ ?_
   .rintro j τ G' _ ⟨v1,rfl,sg,_⟩
    exact P'.of (sg _ _ n5)
   .rintro j y τ G' hy ⟨v1,rfl,sg,eE⟩
    obtain⟨z,hz,rfl⟩:=rT hy
    dsimp only[bM,dQ]
    rw[UN rfl]
    refine⟨_,O,_,_,O,O,_,eE,?_,_,O,du hY sg,?_⟩
    .rw[Q9,Q9,Rs,R7,Rh]
     lia
    .rw[ag,cJ hz,Rf,Rf]
     rfl
   rintro τ G7 ⟨v3,rfl,s7,IL⟩
   refine⟨Y,_,O,P'.of IL,_,O,?_⟩
   rw[QC]
   refine bg (fun c1=>?_) (fun c1=>?_)
   .obtain⟨x,hx,om⟩:=Qak.mp c1
    rw[List.eq_of_mem_replicate hx] at om
    cases om
   .exact⟨{ {r with f:=D} with n:=nA},_,O,⟨S5.trans s7,⟨_,s7 _ _ q5⟩,s7 _ _ p5,s7 _ _ f5⟩,ep,s7 _ _ w5,s7 _ _ g5⟩
  .rintro σ G ⟨r,v4,rfl,lp,ep,Ap,A8⟩
   obtain⟨ce,ow⟩:=lp.ex
   refine⟨_,O,q,a.Layout,ce,_,_,O,ow,T.VN,T.YR,oQ,_,O,_,O,l,[],c,O,xB lp.s,(fun x hx=>by cases hx),by lia,fun gp G1 s1 n1 h1=>?_⟩
   refine⟨r.p,gp,_,VO c,O,P'.of (s1 _ _ lp.hp),P'.of h1,by rw[R7,S0],by rw[R7];lia,fun gn G2 s2 n2 h2=>?_⟩
   have oN:=s1.trans s2
   refine⟨_,O,q,a.Layout,ce,_,_,O,oN _ _ ow,T.VN,T.QaM,B8,(by show 2≤S';decide),fun gt GR=>?_⟩
   have s3:ae G2 (upd G2 gt (.tup [.ref gn,.ref r.f])):=ae.new GR
   exact k1 O gt gn r.f _ (lp.s.trans (oN.trans s3)) ag (none_of lp.s (none_of s1 n2)) (s3 _ _ h2) (s3 _ _ (oN _ _ lp.hf))
end
namespace Nt
abbrev nA:C':=UO "a"
abbrev nB:C':=UO "b"
structure AB (v:bp):Prop where
 k:jE v.kvs=[nA,nB].map V.str
 s:v.ss=[]
 m:v.mm=[]
theorem Qen:([nA,nB]:List C').Nodup:=by decide
theorem AB.wn0 (h:AB v) (e:v.arr=[]):Wn [nA,nB] v:=by
 refine⟨h.k,Qen,by decide,?_,?_,?_,?_,?_,?_,?_⟩
 .rw[e];exact SA
 .rw[e];decide
 .rw[h.s];decide
 .rw[h.m];decide
 .rw[e];intro q hq;cases hq
 .rw[h.s];intro q hq;cases hq
 .rw[h.m];intro q hq;cases hq
theorem AB.wn1 (h:AB v){q:Ar} (e:v.arr=[q]) (h1:q.one=nA) (h2:q.other=nB):Wn [nA,nB] v:=by
 refine⟨h.k,Qen,by decide,?_,?_,?_,?_,?_,?_,?_⟩
 .rw[e];exact XJ.mpr ⟨RJ,SA⟩
 .rw[e];show 1≤100;decide
 .rw[h.s];decide
 .rw[h.m];decide
 .rw[e];intro x hx;rw[Vh.mp hx,h1,h2];exact⟨by decide,by decide⟩
 .rw[h.s];intro q hq;cases hq
 .rw[h.m];intro q hq;cases hq
theorem AB.none (h:AB v) (e:v.arr=[]):fc [nA,nB] v=[]:=by
 unfold fc
 rw[e,h.s,h.m]
 rfl
def eI:Vc:=[(UT nA,.int 0),(UT nB,.int 0)]
theorem zU:uN eI [nA,nB] [0,0]:=by
 refine⟨O,fun i n e=>?_⟩
 match i,e with
 | 0,e=>cases e;exact⟨0,O,dm O⟩
 | 1,e=>cases e;exact⟨0,O,(cv (fun z=>UX (W6 z) (by decide))).trans (dm rfl)⟩
 | i+2,e=>simp at e
theorem fr0:frN (U5 2 0) (VO 2)=[0,0]:=by decide
theorem mk0:WJ (([nA,nB].map UT).zip (([0,0]:List Int).map V.int))=eI:=by
 show cg (cg [] (UT nA) (.int 0)) (UT nB) (.int 0)=eI
 rw[rS (κ:=Key) (.int 0) (show a8 [] (UT nA)=i' from rfl)]
 have e2:a8 ([]++[((UT nA:Key),V.int 0)]) (UT nB)=i':=(cv (p:=((UT nA:Key),V.int 0)) (r:=[]) (fun z=>UX (W6 z) (by decide))).trans rfl
 rw[rS (κ:=Key) (.int 0) e2]
 rfl
section
variable {K:R'}
inductive QnI (K:R') (t:Vm) (vs:List V) (H:Hp) (Q:VK) (bF:XK):Prop
 | mk (p r v:_) (_:vs=[.ref p]) (_:bE K t.Net H p r v) (_:AB v) (_:v.arr=[]) (_:∀ g d fA H',ae H H'→H' g=f' (.tup [.ref d,.ref fA])→H d=i'→H' d=f' (.dK eI)→Q (.ref g) H')
theorem Pw (T:Tx K mg a):Vj P w K mg base (Vt P w) 8 "levelled" ["net"] [] (QnI K a):=T.QjC.U8 fun f fd F=>by
 have gR:=Fq (P:=P) (w:=w) (base:=base) T
 have bf:=xM (P:=P) (w:=w) (base:=base) T
 have W1:=pb (P:=P) (w:=w) (base:=base) T
 refine F.VZ yw (fun vs H Q E h=>?_) (fun ay A outer s H vs Q E hr h=>?_)
 .obtain⟨p,r,v,rfl,_⟩:=h
  rfl
 .obtain⟨p,r,v,rfl,N,ab,e0,k1⟩:=h
  have wn:=ab.wn0 e0
  obtain⟨dx,hp⟩:=N.ex
  refine⟨_,(ao (aV (i:=1) yw.nd O (by first|exact UR rfl|exact UQ O) (jj (pv 0) T.Vg W1 (hr.mono (by decide))))
   (ao (aV (i:=2) yw.nd O (by first|exact UR rfl|exact UQ O) (ff gR aU (hr.mono (by decide)) rfl (af (bi fg rfl T.VW dr (af (pv 1) ai)) (af (bB bf (hr.mono (by decide)) rfl (af (pv 0) ai)) ai))))
   (ak (aM (gj (af (MU rfl T.Qeg rfl T.Qae (af (pv 1) (af (aK fe (pv 2) au (fun _ _=>O)) ai))) (af (aK fe (pv 2) au (fun _ _=>O)) ai))))))),?_⟩
  refine⟨_,O,p,dx,_,O,hp,by rfl,p,r,v,O,N,fun l nl=>?_⟩
  rw[wn.keys]
  have s1:ae H (upd H l (.lst ([nA,nB].map V.str))):=ae.new nl
  have h1:upd H l (.lst ([nA,nB].map V.str)) l=f' (.lst ([nA,nB].map V.str)):=ag
  generalize upd H l (.lst ([nA,nB].map V.str))=H1 at s1 h1 ⊢
  refine⟨_,O,l,_,O,.inl (P'.of h1),_,O,p,r,v,[nA,nB],O,N.same s1,wn,fun l2 ys H2 s2 sZ bO eS _=>?_⟩
  rw[ab.none e0] at eS
  have t2:=s1.trans s2
  refine⟨l2,[],2,O,⟨ys,P'.of bO,eS⟩,(fun x hx=>by cases hx),by decide,by decide,.inl rfl,fun _ gt pA fA H3 s3 BX QG Bk Q7=>?_,fun ring lr dx H3 s3 _ _ XE=>?_⟩
  rotate_left
  .obtain⟨_,_,pu,p,_,fi,_,pT,_⟩:=XE.XE
   have h0:(pu p).isSome=B':=pT 0
   cases e:pu p with
   | none=>rw[e] at h0;cases h0
   | some n=>exact UX (fi.a p n e).1 (Sm n)
  rw[fr0] at Bk
  have GV:=s3 _ _ (s2 _ _ h1)
  refine⟨_,O,_,O,gt,_,_,_,O,O,U4.of BX,O,l,pA,[nA,nB].map UT,([0,0]:List Int).map V.int,O,by rw[TD];exact P'.of GV,P'.of Bk,by decide,by decide,fun d nd=>?_⟩
  rw[mk0]
  have s4:ae H3 (upd H3 d (.dK eI)):=ae.new nd
  have h4:upd H3 d (.dK eI) d=f' (.dK eI):=ag
  generalize upd H3 d (.dK eI)=H4 at s4 h4 ⊢
  refine⟨_,O,gt,_,_,_,O,O,U4.of (s4 _ _ BX),O,(by show 2≤S';decide),fun q nq=>?_⟩
  have s5:ae H4 (upd H4 q (.tup [.ref d,.ref fA])):=ae.new nq
  exact k1 q d fA _ (t2.trans (s3.trans (s4.trans s5))) ag (none_of (t2.trans s3) nd) (s5 _ _ h4)
end
def fU (n l:F'):List (C'×V):=[("net",.ref n),("levels",.ref l)]
theorem rL {n:F'}:(fU n l).lookup ("net":C')=f' (.ref n):=Wu
theorem yZ {n:F'}:(fU n l).lookup ("levels":C')=f' (.ref l):=(Vr (by decide +kernel)).trans Wu
theorem Oe {n l':F'}:aR "levels" (.ref l') (fU n l)=fU n l':=by
 have h1:¬ (("net":C')="levels"):=by decide +kernel
 simp only[fU,aR,h1,VU,WL]
structure gr (K:R') (a:Vm) (H:Hp) (d p:F') (r:Rec) (v:bp) (lv:F') (kvs:Vc):Prop where
 ex:∃ dx,H d=f' (.ins a.Desk dx (fU p lv))
 net:bE K a.Net H p r v
 lev:H lv=f' (.dK kvs)
 n1:lv≠r.dh
 n2:lv≠r.da
def Y0 (d p:F') (r:Rec) (H H':Hp):Prop:=∀ b o,H b=f' o→b≠d→b≠p→b≠r.dh→b≠r.da→b≠r.ls→b≠r.lm→H' b=f' o
theorem gr.same {K:R'}{a:Vm}{H H':Hp}{d p:F'}{r:Rec}{v:bp}{lv:F'}{kvs:Vc} (h:gr K a H d p r v lv kvs) (s:ae H H'):gr K a H' d p r v lv kvs:=by
 obtain⟨⟨dx,e⟩,n,l,n1,n2⟩:=h
 exact⟨⟨dx,s _ _ e⟩,n.same s,s _ _ l,n1,n2⟩
theorem gr.kp {K:R'}{r:Rec}{v':bp}{kvs:Vc} (h:gr K a H d p r v lv kvs) (k:Kp p r H H') (n:bE K a.Net H' p r v'):gr K a H' d p r v' lv kvs:=by
 obtain⟨⟨dx,e⟩,N,l,n1,n2⟩:=h
 obtain⟨⟨dp,e1⟩,e2,⟨bJ,e3,_⟩,⟨xs,e4,_⟩,⟨ys,e5,_⟩,_⟩:=N
 refine⟨⟨dx,k d _ e (bN e e1 (by intro z;injection z with _ _ z;cases z)) (bN e e2 (by intro z;cases z)) (bN e e3 (by intro z;cases z)) (bN e e4 (by intro z;cases z)) (bN e e5 (by intro z;cases z))⟩,n,k lv _ l (bN l e1 (by intro z;cases z)) n1 n2 (bN l e4 (by intro z;cases z)) (bN l e5 (by intro z;cases z)),n1,n2⟩
section
variable {K:R'}
structure Stl (K:R') (a:Vm) (H:Hp) (p:F') (r:Rec) (v:bp) (lv:F'):Prop where
 net:bE K a.Net H p r v
 wn:Wn [nA,nB] v
 lev:H lv=f' (.dK eI)
 no:(fc [nA,nB] v).all (keep [0,0])=K'
inductive KB (K:R') (a:Vm) (vs:List V) (H:Hp) (tz:VK) (E:XK):Prop
 | mk (p r v lv:_) (_:vs=[.ref p,.ref lv]) (_:Stl K a H p r v lv) (_:∀ H',ae H H'→E (.ref a.Stale) i' H')
theorem DF (T:Tx K mg a):Vj P w K mg base (Vt P w) 6 "kept_rows" ["net","levels"] [] (KB K a):=T.QjK.U8 fun f fd F=>by
 have fO:=Nh (P:=P) (w:=w) (base:=base) T
 have W1:=pb (P:=P) (w:=w) (base:=base) T
 have bD:=zm (P:=P) (w:=w) (base:=base) T
 refine F.VZ EY (fun vs H Q E h=>?_) (fun ay A outer s H vs Q E hr h=>?_)
 .obtain⟨p,r,v,lv,rfl,_⟩:=h
  rfl
 .obtain⟨p,r,v,lv,rfl,S,k⟩:=h
  obtain⟨dx,hp⟩:=S.net.ex
  refine⟨_,(ao (ej Y3 O (bV (jj (pv 0) T.Vg W1 (hr.mono (by decide)))) (aF (i:=2) EY.nd O (by first|exact UR rfl|exact UQ O)) (ak (aT (j9 (yg (cM hr) (pv 2) (pv 1))) (ak (j7 aU bD (hr.mono (by decide)) rfl (af (pv 2) ai))) aP)))
   (ao (aT (gv (eG (bB fO (hr.mono (by decide)) rfl (af (pv 0) (af (pv 1) ai))))) (ak (io aU T.QiS rfl T.QdT)) aP)
   (ak (aM iw)))),?_⟩
  refine⟨_,O,p,dx,_,O,hp,by rfl,p,r,v,O,S.net,fun l nl=>?_⟩
  rw[S.wn.keys]
  have s1:ae H (upd H l (.lst ([nA,nB].map V.str))):=ae.new nl
  have h1:upd H l (.lst ([nA,nB].map V.str)) l=f' (.lst ([nA,nB].map V.str)):=ag
  generalize upd H l (.lst ([nA,nB].map V.str))=H1 at s1 h1 ⊢
  refine⟨l,O,⟨_,P'.of h1⟩,iN (K:=K) (a:=l) (xs:=[nA,nB].map V.str) (fun i σ G=>∃ v2,σ=[f' (.ref p),f' (.ref lv),v2]∧H1=G) ⟨i',rfl,rfl⟩ ?_ ?_ ?_⟩
  .rintro i σ G _ ⟨v2,rfl,rfl⟩
   exact P'.of h1
  .rintro i x σ G hx ⟨v2,rfl,rfl⟩
   obtain⟨n,hn,rfl⟩:=uS hx
   obtain⟨z,_,hz⟩:=zU.2 i n hn
   dsimp only[bM]
   refine⟨_,O,_,O,lv,_,O,ci.k (k:=UT n) (s1 _ _ S.lev),_,O,?_⟩
   rw[hz]
   exact iM ⟨_,O,O⟩
  .rintro σ G ⟨v2,rfl,rfl⟩
   refine⟨_,O,_,O,p,r,v,[nA,nB],lv,eI,[0,0],O,S.net.same s1,S.wn,s1 _ _ S.lev,zU,fun H2 s2=>⟨_,O,?_⟩⟩
   rw[S.no]
   exact ei ⟨by show 0≤S';decide,k H2 (s1.trans s2)⟩
inductive ON (K:R') (a:Vm) (vs:List V) (H:Hp) (tz:VK) (E:XK):Prop
 | mk (p r v lv:_) (_:vs=[.ref p,.ref lv]) (_:Stl K a H p r v lv) (_:∀ H',ae H H'→E (.ref a.Stale) i' H')
theorem O9 (T:Tx K mg a):Vj P w K mg base (Vt P w) 7 "cross_text" ["net","levels"] [] (ON K a):=T.QjL.U8 fun f fd F=>by
 have bT:=DF (P:=P) (w:=w) (base:=base) T
 refine F.VZ tV (fun vs H Q E h=>?_) (fun ay A outer s H vs Q E hr h=>?_)
 .obtain⟨p,r,v,lv,rfl,_⟩:=h
  rfl
 .obtain⟨p,r,v,lv,rfl,S,k⟩:=h
  refine⟨_,(ao (aV (i:=2) tV.nd O (by first|exact UR rfl|exact UQ O) (ff bT aU (hr.mono (by decide)) rfl (af (pv 0) (af (pv 1) ai))))
   (ao (aV (i:=3) tV.nd O (by first|exact UR rfl|exact UQ O) iw)
   (ao (aV (i:=4) tV.nd O (by first|exact UR rfl|exact UQ O) iw)
   (ak (aM iw))))),?_⟩
  exact⟨_,O,_,O,p,r,v,lv,O,S,k⟩
inductive Le (K:R') (a:Vm) (vs:List V) (H:Hp) (tz:VK) (E:XK):Prop
 | mk (p r v lv g:_) (_:vs=[.ref p,.ref lv,.int g]) (_:Stl K a H p r v lv) (_:∀ H',ae H H'→E (.ref a.Stale) i' H')
theorem Ld (T:Tx K mg a):Vj P w K mg base (Vt P w) 7 "draw_text" ["net","levels","gap"] [] (Le K a):=T.QjM.U8 fun f fd F=>by
 have bT:=DF (P:=P) (w:=w) (base:=base) T
 refine F.VZ uA (fun vs H Q E h=>?_) (fun ay A outer s H vs Q E hr h=>?_)
 .obtain⟨p,r,v,lv,g,rfl,_⟩:=h
  rfl
 .obtain⟨p,r,v,lv,g,rfl,S,k⟩:=h
  refine⟨_,(ao (aV (i:=3) uA.nd O (by first|exact UR rfl|exact UQ O) (ff bT aU (hr.mono (by decide)) rfl (af (pv 0) (af (pv 1) ai))))
   (ao (aV (i:=4) uA.nd O (by first|exact UR rfl|exact UQ O) iw)
   (ao (aV (i:=5) uA.nd O (by first|exact UR rfl|exact UQ O) (aK fe iw au (fun _ _=>O)))
   (ak (aM iw))))),?_⟩
  exact⟨_,O,_,O,p,r,v,lv,O,S,k⟩
inductive NX (K:R') (a:Vm) (vs:List V) (H:Hp) (Q:VK) (bF:XK):Prop
 | mk (p r v l v':_) (_:vs=[.ref p,.str l]) (_:l.length≤900) (_:bE K a.Net H p r v) (_:jb 1000 v) (_:0≤v.nn) (_:v.nn≤1000) (_:bL v l=f' v') (_:∀ x H',Kp p r H H'→bE K a.Net H' p r v'→Q x H')
theorem Nm (T:Tx K mg a) (Z:KD P w K a.LINES (fB a)):Vj P w K mg base (Vt P w) 8 "put_text" ["net","line"] [] (NX K a):=T.QjJ.U8 fun f fd F=>by
 have cj:=Ex (P:=P) (w:=w) (base:=base) T Z
 refine F.VZ D4 (fun vs H Q E h=>?_) (fun ay A outer s H vs Q E hr h=>?_)
 .obtain⟨p,r,v,l,v',rfl,_⟩:=h
  rfl
 .obtain⟨p,r,v,l,v',rfl,hl,N,V2,n0,n1,hs,k⟩:=h
  refine⟨_,(ao (aV (i:=2) D4.nd O (by first|exact UR rfl|exact UQ O) (ff cj aU (hr.mono (by decide)) rfl (af (pv 0) (af (pv 1) ai))))
   (ak (aM (Eu (j9 (uP (pv 2))) bh (Nk (E8 bh (E8 (Lm (pv 2)) Qiw))))))),?_⟩
  refine⟨_,O,_,O,p,r,v,l,O,hl,N,V2,fun w hw x H' hx kp N'=>?_,fun e=>by rw[hs] at e;cases e⟩
  rw[hs] at hw
  cases hw
  dsimp only[bM]
  rcases hx with rfl|rfl
  .exact⟨_,O,_,O,jg (Rp O) (k _ H' kp N')⟩
  .have Bh:0≤v.nn∧v.nn<10000000:=⟨n0,by lia⟩
   have l7:=(yT Bh.1 Bh.2).2
   have lg:v.nn.natAbs.log2<1920:=by
    by_cases z:v.nn.natAbs=0
    .rw[z];decide
    .have:v.nn.natAbs.log2<24:=(Nat.log2_lt z).mpr (by show v.nn.natAbs<16777216;lia)
     lia
   have l1:(Vy++UO "arrow ").length≤S':=by decide +kernel
   have l2:(Vy++UO "arrow "++tn v.nn).length≤S':=by
    have e6:(Vy++UO "arrow ").length=6:=by decide +kernel
    rw[QeE,e6,Rh]
    lia
   exact⟨_,O,_,O,dP (Ry (by intro z;cases z)) ⟨_,rfl,l1,_,rfl,v.nn,rfl,lg,_,rfl,l2,l2,k _ H' kp N'⟩⟩
end
section
variable {K:R'}
inductive Qy (K:R') (a:Vm) (vs:List V) (H:Hp) (Q:VK) (bF:XK):Prop
 | mk (d dx:_) (_:vs=[.ref d]) (_:H d=f' (.ins a.Desk dx [])) (_:∀ p r lv H',(∀ b o,H b=f' o→b≠d→H' b=f' o)→(∀ b o,H b=f' o→b≠p∧b≠r.dh∧b≠r.da∧b≠r.ls∧b≠r.lm)→gr K a H' d p r VS lv []→Q .UU H')
theorem OU (T:Tx K mg a):nN P w K mg base Vd 3 a.Desk "Desk" ["self"] (Qy K a):=T.Qb7.U8 fun f fd F=>by
 have YS:=yt (P:=P) (w:=w) (base:=base) T
 refine F.ok Ol (fun vs H Q E h=>?_) (fun ay A outer s H vs Q E hr h=>?_)
 .obtain⟨d,dx,rfl,_⟩:=h
  rfl
 .obtain⟨d,dx,rfl,hd,k⟩:=h
  refine⟨_,(ao (eh (pv 0) (tN YS (hr.mono (by decide)) rfl) rfl)
   (ak (eh (pv 0) sr rfl))),?_⟩
  refine fun x dn nx Im BG=>⟨x,dn,O,ag,fun r H2 fr fo N2=>⟨O,?_⟩⟩
  have e0:∀ b o,H b=f' o→upd (upd H dn (.own x)) x (.ins a.Net dn []) b=f' o:=fun b o e=>by rw[aj (aq e nx),aj (aq e Im)];exact e
  have s2:ae H H2:=fun b o e=>fr b o (e0 b o e) (aq e nx)
  have ap:∀ b o,H b=f' o→b≠x∧b≠r.dh∧b≠r.da∧b≠r.ls∧b≠r.lm:=fun b o e=>⟨aq e nx,fo b o (e0 b o e)⟩
  have eS:=s2 _ _ hd
  refine⟨_,O,d,a.Desk,dx,[],O,eS,T.WD,T.Zr,by decide,?_⟩
  obtain⟨ax,zX,B3,As,Bc⟩:=ap _ _ hd
  have N3:bE K a.Net (upd H2 d (.ins a.Desk dx (aR "net" (.ref x) []))) x r VS:=by
   obtain⟨⟨dy,h1⟩,h2,⟨bJ,h3,h4⟩,⟨xs,h5,h6⟩,⟨ys,h7,h8⟩,n1,n2⟩:=N2
   have tk:Tk H2 (upd H2 d (.ins a.Desk dx (aR "net" (.ref x) []))):=Tk.upd eS rfl
   exact⟨⟨dy,by rw[aj (US ax)];exact h1⟩,by rw[aj (US zX)];exact h2,⟨bJ,by rw[aj (US B3)];exact h3,tk.arr h4⟩,⟨xs,by rw[aj (US As)];exact h5,tk.Vf (cw (fun _=>O) _) h6⟩,⟨ys,by rw[aj (US Bc)];exact h7,tk.Vf (cw (fun _=>O) _) h8⟩,n1,n2⟩
  have q3:upd H2 d (.ins a.Desk dx (aR "net" (.ref x) [])) d=f' (.ins a.Desk dx (aR "net" (.ref x) [])):=ag
  have k3:∀ b o,H b=f' o→b≠d→upd H2 d (.ins a.Desk dx (aR "net" (.ref x) [])) b=f' o:=fun b o e z=>by rw[aj z];exact s2 _ _ e
  generalize upd H2 d (.ins a.Desk dx (aR "net" (.ref x) []))=H3 at N3 q3 k3 ⊢
  refine fun lv qu=>⟨_,O,d,a.Desk,dx,_,O,by rw[aj (aq q3 qu)];exact q3,T.WD,T.Z',by show 1<1000;decide,?_⟩
  have s4:ae H3 (upd H3 lv (.dK [])):=ae.new qu
  have h4:upd H3 lv (.dK []) lv=f' (.dK []):=ag
  have N4:=N3.same s4
  have q4:=s4 _ _ q3
  have AC:lv≠r.dh∧lv≠r.da:=by
   obtain⟨_,h2,⟨bJ,h3,_⟩,_⟩:=N3
   exact⟨US (aq h2 qu),US (aq h3 qu)⟩
  have ld:lv≠d:=US (aq q3 qu)
  generalize upd H3 lv (.dK [])=H4 at s4 h4 N4 q4 ⊢
  have ef:aR "levels" (.ref lv) (aR "net" (.ref x) [])=fU x lv:=by
   have z:¬ (("net":C')="levels"):=by decide +kernel
   simp only[fU,aR,z,VU]
  show Q .UU _
  rw[ef]
  have N5:bE K a.Net (upd H4 d (.ins a.Desk dx (fU x lv))) x r VS:=by
   obtain⟨⟨dy,h1⟩,h2,⟨bJ,h3,h4⟩,⟨xs,h5,h6⟩,⟨ys,h7,h8⟩,n1,n2⟩:=N4
   have tk:Tk H4 (upd H4 d (.ins a.Desk dx (fU x lv))):=Tk.upd q4 rfl
   exact⟨⟨dy,by rw[aj (US ax)];exact h1⟩,by rw[aj (US zX)];exact h2,⟨bJ,by rw[aj (US B3)];exact h3,tk.arr h4⟩,⟨xs,by rw[aj (US As)];exact h5,tk.Vf (cw (fun _=>O) _) h6⟩,⟨ys,by rw[aj (US Bc)];exact h7,tk.Vf (cw (fun _=>O) _) h8⟩,n1,n2⟩
  exact k x r lv _ (fun b o e z=>by rw[aj z];exact s4 _ _ (k3 b o e z)) ap ⟨⟨dx,ag⟩,N5,by rw[aj ld];exact h4,AC.1,AC.2⟩
inductive Ng (K:R') (a:Vm) (vs:List V) (H:Hp) (Q:VK) (bF:XK):Prop
 | mk (d p r v lv kvs g l2 fA:_) (_:vs=[.ref d,.ref g]) (_:gr K a H d p r v lv kvs) (_:AB v) (_:v.arr=[]) (_:H g=f' (.tup [.ref l2,.ref fA])) (_:H l2=f' (.dK eI)) (_:l2≠r.dh) (_:l2≠r.da) (_:∀ x H',Y0 d p r H H'→gr K a H' d p r v l2 eI→Q x H')
theorem QnJ:zV [] [0,0]=0:=by decide
theorem Nv (T:Tx K mg a):dI P w K mg base Vd 6 a.Desk "level_by" ["self","answer"] [] (Ng K a):=T.QaP.U8 fun f fd F=>by
 have jt:=Lp (P:=P) (w:=w) (base:=base) T
 refine F.ok Pz (fun vs H Q E h=>?_) (fun ay A outer s H vs Q E hr h=>?_)
 .obtain⟨d,p,r,v,lv,kvs,g,l2,fA,rfl,_⟩:=h
  rfl
 .obtain⟨d,p,r,v,lv,kvs,g,l2,fA,rfl,D,ab,e0,hg,bO,n1,n2,k⟩:=h
  obtain⟨dx,hd⟩:=D.ex
  refine⟨_,(ao (eh (pv 0) (aK fe (pv 1) au (fun _ _=>O)) O)
   (ak (aM (bq rF bh (mh Du rfl T.Qcc yN (af (bB jt (hr.mono (by decide)) rfl (af (bw (pv 0) rfl) (af (bw (pv 0) rfl) ai))) ai)))))),?_⟩
  refine⟨_,O,g,_,_,_,O,O,U4.of hg,O,_,O,d,a.Desk,dx,_,O,hd,T.WD,T.Z',(by show 2<1000;decide),?_⟩
  rw[Oe]
  have kd:Y0 d p r H (upd H d (.ins a.Desk dx (fU p l2))):=fun b o e z _ _ _ _ _=>by rw[aj z];exact e
  have q1:upd H d (.ins a.Desk dx (fU p l2)) d=f' (.ins a.Desk dx (fU p l2)):=ag
  have my:upd H d (.ins a.Desk dx (fU p l2)) l2=f' (.dK eI):=by rw[aj (bN bO hd (by intro z;cases z))];exact bO
  have N1:bE K a.Net (upd H d (.ins a.Desk dx (fU p l2))) p r v:=by
   obtain⟨⟨dy,h1⟩,h2,⟨bJ,h3,h4⟩,⟨xs,h5,h6⟩,⟨ys,h7,h8⟩,m1,m2⟩:=D.net
   have tk:Tk H (upd H d (.ins a.Desk dx (fU p l2))):=Tk.upd hd rfl
   exact⟨⟨dy,by rw[aj (bN h1 hd (by intro z;injection z with _ _ z;cases z))];exact h1⟩,by rw[aj (bN h2 hd (by intro z;cases z))];exact h2,⟨bJ,by rw[aj (bN h3 hd (by intro z;cases z))];exact h3,tk.arr h4⟩,⟨xs,by rw[aj (bN h5 hd (by intro z;cases z))];exact h5,tk.Vf (cw (fun _=>O) _) h6⟩,⟨ys,by rw[aj (bN h7 hd (by intro z;cases z))];exact h7,tk.Vf (cw (fun _=>O) _) h8⟩,m1,m2⟩
  generalize upd H d (.ins a.Desk dx (fU p l2))=H1 at kd q1 my N1 ⊢
  refine⟨_,O,d,a.Desk,dx,_,_,O,q1,T.WD,T.Zr,rL,_,O,d,a.Desk,dx,_,_,O,q1,T.WD,T.Z',yZ,p,r,v,[nA,nB],l2,eI,[0,0],O,N1,ab.wn0 e0,(by rw[e0];intro q hq;cases hq),my,zU,fun H2 s2=>?_⟩
  rw[ab.none e0,QnJ]
  exact⟨0,O,by decide,_,_,O,O,(by decide +kernel),k _ H2 (fun b o e z1 z2 z3 z4 z5 z6=>s2 _ _ (kd b o e z1 z2 z3 z4 z5 z6)) ⟨⟨dx,s2 _ _ q1⟩,N1.same s2,s2 _ _ my,n1,n2⟩⟩
def Stale (K:R') (a:Vm) (H:Hp) (d p:F') (r:Rec) (v:bp) (lv:F') (E:XK):Prop:=gr K a H d p r v lv eI∧Wn [nA,nB] v∧(fc [nA,nB] v).all (keep [0,0])=K'∧∀ H',ae H H'→E (.ref a.Stale) i' H'
inductive Qm (K:R') (a:Vm) (vs:List V) (H:Hp) (Q:VK) (E:XK):Prop
 | mk (d p r v lv kvs wd:_) (_:vs=[.ref d,.str wd]) (_:gr K a H d p r v lv kvs) (_:((wd=UO "level"∧AB v∧v.arr=[]∧∀ x l2 H',Y0 d p r H H'→H l2=i'→gr K a H' d p r v l2 eI→Q x H')∨(wd=UO "cross"∧Stale K a H d p r v lv E)))
theorem PR (T:Tx K mg a):dI P w K mg base (Vt P w) 9 a.Desk "say_word" ["self","word"] [] (Qm K a):=T.Qb9.U8 fun f fd F=>by
 have gM:=Pw (P:=P) (w:=w) (base:=base) T
 have QaP:=Nv (P:=P) (w:=w) (base:=base) T
 have eX:=O9 (P:=P) (w:=w) (base:=base) T
 have aE:=pF (P:=P) (w:=w) (base:=base) T
 refine F.VZ D9 (fun vs H Q E h=>?_) (fun ay A outer s H vs Q E hr h=>?_)
 .obtain⟨d,p,r,v,lv,kvs,wd,rfl,_⟩:=h
  rfl
 .obtain⟨d,p,r,v,lv,kvs,wd,rfl,D,h⟩:=h
  obtain⟨dx,hd⟩:=D.ex
  have no:∀ {x y:C'},x≠y→decide (V.str x=V.str y)=K':=fun h=>Ry (fun z=>h (by injection z))
  refine⟨_,(ao (aT (bb cF (pv 1) bh (aY _)) (ak (aM (Qip iw (rB bh)))) aP)
   (ao (aT (bb cF (pv 1) bh (aY _)) (ak (aM (yO (pv 0) T.WD QaP (hr.mono (by decide)) (af (ff gM aU (hr.mono (by decide)) rfl (af (bw (pv 0) rfl) ai)) ai)))) aP)
   (ao (aT (bb cF (pv 1) bh (aY _)) (ao (aV (i:=2) D9.nd O (by first|exact UR rfl|exact UQ O) iw)
   (ak (aM (bq rF (bq rF (yO (pv 0) T.WD QaP (hr.mono (by decide)) (af (pv 2) ai)) bh) (mh Du rfl T.Qcc yN (af (aK fe (pv 2) au (fun _ _=>O)) ai)))))) aP)
   (ao (aT (bb cF (pv 1) bh (aY _)) (ak (aM iw)) aP)
   (ao (aT (bb cF (pv 1) bh (aY _)) (ak (aM (ff eX aU (hr.mono (by decide)) rfl (af (bw (pv 0) rfl) (af (bw (pv 0) rfl) ai))))) aP)
   (ao (aT (bb cF (pv 1) bh (aY _)) (ak (aM iw)) aP)
   (ak (j7 aU aE (hr.mono (by decide)) rfl (af au ai))))))))),?_⟩
  rcases h with⟨rfl,ab,e0,k⟩|⟨rfl,_,wn,ns,k⟩
  .refine⟨_,O,O,_,O,dP (no (by decide)) ?_⟩
   refine⟨_,O,O,_,O,jg (Rp O) ?_⟩
   refine⟨_,O,d,dx,_,O,hd,by rfl,_,O,d,a.Desk,dx,_,_,O,hd,T.WD,T.Zr,rL,p,r,v,O,D.net,ab,e0,fun g l2 fA H1 s1 hg sZ bO=>?_⟩
   have nn:l2≠r.dh∧l2≠r.da:=by
    obtain⟨_,h2,⟨bJ,h3,_⟩,_⟩:=D.net
    exact⟨US (aq h2 sZ),US (aq h3 sZ)⟩
   exact⟨d,p,r,v,lv,kvs,g,l2,fA,O,D.same s1,ab,e0,hg,bO,nn.1,nn.2,fun x H2 kd D2=>k x l2 H2 (fun b o e=>kd b o (s1 _ _ e)) sZ D2⟩
  .refine⟨_,O,O,_,O,dP (no (by decide)) ?_⟩
   refine⟨_,O,O,_,O,dP (no (by decide)) ?_⟩
   refine⟨_,O,O,_,O,dP (no (by decide)) ?_⟩
   refine⟨_,O,O,_,O,dP (no (by decide)) ?_⟩
   refine⟨_,O,O,_,O,jg (Rp O) ?_⟩
   rename_i D'
   exact⟨_,O,d,a.Desk,dx,_,_,O,hd,T.WD,T.Zr,rL,_,O,d,a.Desk,dx,_,_,O,hd,T.WD,T.Z',yZ,p,r,v,lv,O,⟨D.net,wn,D'.lev,ns⟩,k⟩
inductive KC (K:R') (a:Vm) (vs:List V) (H:Hp) (tz:VK) (E:XK):Prop
 | mk (d p r v lv l:_) (_:vs=[.ref d,.str (UO "draw"),.ref l]) (_:H l=f' (.lst [.str (UO "3")])) (_:Stale K a H d p r v lv E)
theorem QnK:dJ (UO "3")=B':=by decide +kernel
theorem Qp (T:Tx K mg a):dI P w K mg base (Vt P w) 9 a.Desk "say_number" ["self","word","written"] [] (KC K a):=T.Qca.U8 fun f fd F=>by
 have aO:=E7 (P:=P) (w:=w) (base:=base) T
 have aD:=rj (P:=P) (w:=w) (base:=base) T
 have fM:=Ld (P:=P) (w:=w) (base:=base) T
 have Qac:=Ct (P:=P) (w:=w) (base:=base) T
 have aE:=pF (P:=P) (w:=w) (base:=base) T
 refine F.VZ El (fun vs H Q E h=>?_) (fun ay A outer s H vs Q E hr h=>?_)
 .obtain⟨d,p,r,v,lv,l,rfl,_⟩:=h
  rfl
 .obtain⟨d,p,r,v,lv,l,rfl,hl,D,wn,ns,k⟩:=h
  have no:∀ {x y:C'},x≠y→decide (V.str x=V.str y)=K':=fun h=>Ry (fun z=>h (by injection z))
  refine⟨_,(ao (aT (PW.pt (ig (bb nG (bi fg O T.VW dr (af (pv 2) ai)) au (aY _)) (k9 (gv (eG (bB aO (hr.mono (by decide)) rfl (af (aK bA (pv 2) au (fun _ _=>O)) ai))))))) (ak (j7 aU aE (hr.mono (by decide)) rfl (af au ai))) aP)
   (ao (aV (i:=3) El.nd O (by first|exact UR rfl|exact UQ O) (mh B9 O T.Qcb xO (af (aK bA (pv 2) au (fun _ _=>O)) ai)))
   (ao (aT (bb cF (pv 1) bh (aY _)) (ao (bo (eu (bw (pv 0) rfl) T.Vg Qac aU (hr.mono (by decide)) (af (pv 3) ai)))
   (ak (aM bh))) aP)
   (ao (aT (bb cF (pv 1) bh (aY _)) (ak (aM iw)) aP)
   (ao (aT (gv (eG (bB aD (hr.mono (by decide)) rfl (af (pv 3) (af (gb rfl T.QjZ) (af (gb rfl T.QjV) ai)))))) (ak (j7 aU aE (hr.mono (by decide)) rfl (af au ai))) aP)
   (ak (aM (ff fM aU (hr.mono (by decide)) rfl (af (bw (pv 0) rfl) (af (bw (pv 0) rfl) (af (pv 3) ai))))))))))),?_⟩
  refine⟨_,O,l,_,O,.inl (P'.of hl),O,_,O,iM ?_⟩
  refine⟨_,O,l,_,_,.str (UO "3"),O,O,P'.of hl,O,_,O,by decide +kernel,fun H1 s1=>⟨_,O,?_⟩⟩
  rw[QnK]
  refine iM ?_
  have cT:=s1 _ _ hl
  have D1:=D.same s1
  obtain⟨dx,hd⟩:=D1.ex
  refine⟨_,O,l,_,_,.str (UO "3"),O,O,P'.of cT,O,3,WB (fun x=>[V.str x]) (by decide +kernel),by decide,by decide,?_⟩
  refine⟨_,O,O,_,O,dP (no (by decide)) ?_⟩
  refine⟨_,O,O,_,O,dP (no (by decide)) ?_⟩
  refine⟨_,O,3,1,50,O,_,O,iM ?_⟩
  exact⟨_,O,d,a.Desk,dx,_,_,O,hd,T.WD,T.Zr,rL,_,O,d,a.Desk,dx,_,_,O,hd,T.WD,T.Z',yZ,_,O,p,r,v,lv,3,O,⟨D1.net,wn,D1.lev,ns⟩,fun H2 s2=>k H2 (s1.trans s2)⟩
def Fl (l:C'):Bool:=match V3 l bk with
 | x::_::_=>!X5 (.str x) [.str (UO "drop"),.str (UO "ring"),.str (UO "draw")]
 | _=>K'
inductive QnL (K:R') (a:Vm) (vs:List V) (H:Hp) (Q:VK) (E:XK):Prop
 | mk (d p r v lv kvs l:_) (_:vs=[.ref d,.str l]) (_:gr K a H d p r v lv kvs) (_:l.length≤900) (_:((Fl l=B'∧jb 1000 v∧0≤v.nn∧v.nn≤1000∧∃ v',bL v l=f' v'∧∀ x H',Y0 d p r H H'→gr K a H' d p r v' lv kvs→Q x H') ∨
  (l=UO "level"∧AB v∧v.arr=[]∧∀ x l2 H',Y0 d p r H H'→H l2=i'→gr K a H' d p r v l2 eI→Q x H')∨((l=UO "cross"∨l=UO "draw 3")∧Stale K a H d p r v lv E)))
theorem Kt:V3 (UO "level") bk=[UO "level"]:=by decide +kernel
theorem P1:V3 (UO "cross") bk=[UO "cross"]:=by decide +kernel
theorem MA:V3 (UO "draw 3") bk=[UO "draw",UO "3"]:=by decide +kernel
theorem QnM (T:Tx K mg a) (Z:KD P w K a.LINES (fB a)):dI P w K mg base (Vt P w) 10 a.Desk "say" ["self","line"] [] (QnL K a):=T.Qb8.U8 fun f fd F=>by
 have Qb9:=PR (P:=P) (w:=w) (base:=base) T
 have Qca:=Qp (P:=P) (w:=w) (base:=base) T
 have gW:=Nm (P:=P) (w:=w) (base:=base) T Z
 refine F.VZ FY (fun vs H Q E h=>?_) (fun ay A outer s H vs Q E hr h=>?_)
 .obtain⟨d,p,r,v,lv,kvs,l,rfl,_⟩:=h
  rfl
 .obtain⟨d,p,r,v,lv,kvs,l,rfl,D,hl,h⟩:=h
  refine⟨_,(ao (aV (i:=2) FY.nd O (by first|exact UR rfl|exact UQ O) (eA Qa3 ZI Qcl yr (pv 1) (af bh ai)))
   (ao (aT (bb cF (bi fg rfl T.VW dr (af (pv 2) ai)) au (aY _)) (ak (aM (eu (pv 0) T.WD Qb9 aU (hr.mono (by decide)) (af (pv 1) ai)))) aP)
   (ao (aT (bb Cy (aK bA (pv 2) au (fun _ _=>O)) (gj (af bh (af bh (af bh ai)))) (by with_unfolding_all rfl)) (ak (aM (eu (pv 0) T.WD Qca aU (hr.mono (by decide)) (af (aK bA (pv 2) au (fun _ _=>O)) (af (ut yy (pv 2) (sv au) zh) ai))))) aP)
   (ak (aM (ff gW aU (hr.mono (by decide)) rfl (af (bw (pv 0) rfl) (af (pv 1) ai)))))))),?_⟩
  refine⟨_,O,O,l,bk,O,O,O,by rw[Rh];lia,fun wd mX=>?_⟩
  rcases h with⟨hp,V2,n0,n1,v',hs,k⟩|⟨rfl,ab,e0,k⟩|⟨rfl|rfl,D',wn,ns,k⟩
  .unfold Fl at hp
   cases e:V3 l bk with
   | nil=>rw[e] at hp;cases hp
   | cons x r1=>
   cases r1 with
   | nil=>rw[e] at hp;cases hp
   | cons y r2=>
   rw[e] at hp
   have lc:(x::y::r2).length≤1000:=by
    have:=PyProof.Rows.split_le l bk
    rw[e] at this
    lia
   have s1:ae H (upd H wd (.lst ((x::y::r2).map V.str))):=ae.new mX
   have h1:upd H wd (.lst ((x::y::r2).map V.str)) wd=f' (.lst ((x::y::r2).map V.str)):=ag
   generalize upd H wd (.lst ((x::y::r2).map V.str))=H1 at s1 h1 ⊢
   refine⟨_,O,wd,_,O,.inl (P'.of h1),O,_,O,dP (Ry (fun z=>by injection z with z;rw[Q9,Rn,Rn] at z;lia)) ?_⟩
   refine⟨_,O,wd,_,_,.str x,O,O,P'.of h1,iL (i:=0) O,(by show 3≤S';decide),fun q nq=>⟨q,_,O,.inr (U4.of ag),O,O,_,O,?_⟩⟩
   have hp:X5 (.str x) [.str (UO "drop"),.str (UO "ring"),.str (UO "draw")]=K':=by simpa using hp
   dsimp only
   rw[show X5 (V.str x) [V.str (UO "drop"),V.str (UO "ring"),V.str (UO "draw")]=K' from hp]
   refine iM ?_
   have s2:=s1.trans (ae.new (o:=.tup [.str (UO "drop"),.str (UO "ring"),.str (UO "draw")]) nq)
   have D2:=D.same s2
   obtain⟨dx,hd⟩:=D2.ex
   exact⟨_,O,d,a.Desk,dx,_,_,O,hd,T.WD,T.Zr,rL,_,O,p,r,v,l,v',O,hl,D2.net,V2,n0,n1,hs,fun x H3 kp N3=>k x H3 (fun b o e z1 z2 z3 z4 z5 z6=>kp b o (s2 _ _ e) z2 z3 z4 z5 z6) (D2.kp kp N3)⟩
  .rw[Kt]
   have s1:ae H (upd H wd (.lst ([UO "level"].map V.str))):=ae.new mX
   have h1:upd H wd (.lst ([UO "level"].map V.str)) wd=f' (.lst ([UO "level"].map V.str)):=ag
   generalize upd H wd (.lst ([UO "level"].map V.str))=H1 at s1 h1 ⊢
   have D1:=D.same s1
   obtain⟨dx,hd⟩:=D1.ex
   refine⟨_,O,wd,_,O,.inl (P'.of h1),O,_,O,jg (Rp O) ?_⟩
   exact⟨_,O,d,dx,_,O,hd,by rfl,_,O,d,p,r,v,lv,kvs,_,O,D1,.inl ⟨O,ab,e0,fun x l2 H2 kd nl D2=>k x l2 H2 (fun b o e=>kd b o (s1 _ _ e)) (zN s1 nl) D2⟩⟩
  .rw[P1]
   have s1:ae H (upd H wd (.lst ([UO "cross"].map V.str))):=ae.new mX
   have h1:upd H wd (.lst ([UO "cross"].map V.str)) wd=f' (.lst ([UO "cross"].map V.str)):=ag
   generalize upd H wd (.lst ([UO "cross"].map V.str))=H1 at s1 h1 ⊢
   have D1:=D'.same s1
   obtain⟨dx,hd⟩:=D1.ex
   refine⟨_,O,wd,_,O,.inl (P'.of h1),O,_,O,jg (Rp O) ?_⟩
   exact⟨_,O,d,dx,_,O,hd,by rfl,_,O,d,p,r,v,lv,eI,_,O,D1,.inr ⟨O,D1,wn,ns,fun H2 s2=>k H2 (s1.trans s2)⟩⟩
  .rw[MA]
   have s1:ae H (upd H wd (.lst ([UO "draw",UO "3"].map V.str))):=ae.new mX
   have h1:upd H wd (.lst ([UO "draw",UO "3"].map V.str)) wd=f' (.lst ([UO "draw",UO "3"].map V.str)):=ag
   generalize upd H wd (.lst ([UO "draw",UO "3"].map V.str))=H1 at s1 h1 ⊢
   refine⟨_,O,wd,_,O,.inl (P'.of h1),O,_,O,dP (Ry (fun z=>by injection z with z;exact UX z (by decide))) ?_⟩
   refine⟨_,O,wd,_,_,.str (UO "draw"),O,O,P'.of h1,O,(by show 3≤S';decide),fun q nq=>⟨q,_,O,.inr (U4.of ag),O,O,_,O,?_⟩⟩
   refine jg (by decide +kernel) ?_
   have s2:=s1.trans (ae.new (o:=.tup [.str (UO "drop"),.str (UO "ring"),.str (UO "draw")]) nq)
   have D2:=D'.same s2
   obtain⟨dx,hd⟩:=D2.ex
   have h2:=(ae.new (o:=.tup [.str (UO "drop"),.str (UO "ring"),.str (UO "draw")]) nq) _ _ h1
   refine⟨_,O,d,dx,_,O,hd,by rfl,_,O,wd,_,_,.str (UO "draw"),O,O,P'.of h2,O,_,O,_,O,wd,_,O,P'.of h2,fun q2 GD=>?_⟩
   have s3:=s2.trans (ae.new (o:=.lst [.str (UO "3")]) GD)
   exact⟨d,p,r,v,lv,q2,O,ag,D'.same s3,wn,ns,fun H3 s4=>k H3 (s3.trans s4)⟩
end
def j4 (n:C') (w:Int):List (C'×V):=[("name",.str n),("wide",.int w)]
theorem LX {n:C'}{w:Int}:(j4 n w).lookup ("name":C')=f' (.str n):=Wu
theorem Pa {n:C'}{w:Int}:aR "wide" (.int w) (aR "name" (.str n) [])=j4 n w:=by
 have h1:¬ (("name":C')="wide"):=by decide +kernel
 simp only[j4,aR,h1,VU]
section
variable {K:R'}
inductive QnN (a:Vm) (vs:List V) (H:Hp) (Q:VK) (bF:XK):Prop
 | mk (o dx n w:_) (_:vs=[.ref o,.str n,.int w]) (_:H o=f' (.ins a.Own dx [])) (_:Q .UU (upd (upd H o (.ins a.Own dx (aR "name" (.str n) []))) o (.ins a.Own dx (j4 n w))))
theorem Qv (T:Tx K mg a):nN P w K mg base Vd 1 a.Own "Own" ["self","name","wide"] (QnN a):=T.Qb5.U8 fun f fd F=>by
 refine F.ok Lj (fun vs H Q E h=>?_) (fun ay A outer s H vs Q E hr h=>?_)
 .obtain⟨o,dx,n,w,rfl,_⟩:=h
  rfl
 .obtain⟨o,dx,n,w,rfl,ho,k⟩:=h
  refine⟨_,(ao (eh (pv 0) (pv 1) O)
   (ak (eh (pv 0) (pv 2) rfl))),?_⟩
  refine⟨_,O,_,O,o,a.Own,dx,[],O,ho,T.QaN,T.Qd1,by decide,?_⟩
  refine⟨_,O,_,O,o,a.Own,dx,_,O,ag,T.QaN,T.Qi6,by show 1<1000;decide,?_⟩
  rw[Pa]
  exact k
inductive MT (a:Vm) (vs:List V) (H:Hp) (Q:VK) (bF:XK):Prop
 | mk (o dx n w:_) (_:vs=[.ref o]) (_:H o=f' (.ins a.Own dx (j4 n w))) (_:Q (.str n) H)
theorem MF (T:Tx K mg a):dI P w K mg base Vd 1 a.Own "label" ["self"] [] (MT a):=T.Qb6.U8 fun f fd F=>by
 refine F.ok O7 (fun vs H Q E h=>?_) (fun ay A outer s H vs Q E hr h=>?_)
 .obtain⟨o,dx,n,w,rfl,_⟩:=h
  rfl
 .obtain⟨o,dx,n,w,rfl,ho,k⟩:=h
  refine⟨_,(ak (aM (bw (pv 0) O))),?_⟩
  exact⟨_,O,o,a.Own,dx,_,_,O,ho,T.QaN,T.Qd1,LX,k⟩
structure One (a:Vm) (H:Hp) (l r o:F'):Prop where
 hl:H l=f' (.lst [.ref r])
 hr:H r=f' (.lst [.ref o])
 ho:∃ dx w,H o=f' (.ins a.Own dx (j4 nA w))
theorem One.same {r o:F'} (h:One a H l r o) (s:ae H H'):One a H' l r o:=by
 obtain⟨h1,h2,dx,w,h3⟩:=h
 exact⟨s _ _ h1,s _ _ h2,dx,w,s _ _ h3⟩
theorem ur (h:([x]:List V)[i]?=f' y):i=0∧y=x:=by
 match i,h with
 | 0,h=>exact⟨O,(VL h).symm⟩
 | i+1,h=>simp at h
inductive LP (a:Vm) (vs:List V) (H:Hp) (Q:VK) (bF:XK):Prop
 | mk (l r o:_) (_:vs=[.ref l]) (_:One a H l r o) (_:∀ m q H',ae H H'→H' m=f' (.lst [.ref q])→H' q=f' (.lst [.str nA])→Q (.ref m) H')
theorem Pk (T:Tx K mg a):Vj P w K mg base Vd 2 "marks_of" ["rows"] [] (LP a):=T.QjD.U8 fun f fd F=>by
 have Qb6:=MF (P:=P) (w:=w) (base:=base) T
 refine F.ok zG (fun vs H Q E h=>?_) (fun ay A outer s H vs Q E hr h=>?_)
 .obtain⟨l,r,o,rfl,_⟩:=h
  rfl
 .obtain⟨l,r,o,rfl,U0,k⟩:=h
  refine⟨_,(ao (aV (i:=1) zG.nd O (by first|exact UR rfl|exact UQ O) (bY ai))
   (ao (ej Wj rfl (bV (pv 0)) (aF (i:=2) zG.nd O (by first|exact UR rfl|exact UQ O)) (ak (bo (eA Wa Wv WE fS (pv 1) (af (cG (N:=["item"]) (cap:=[i']) O (cy (osc:=az zQ) (XN:=["rows","marks","row"]) O O (by decide +kernel)) (bV (pv 2)) (fun cl C s H fp aa=>(aF (i:=0) (show(["item"]:List C').Nodup by decide +kernel) rfl (by first|exact UR rfl|exact UQ O))) (fun cl C s H fp aa=>cS) (fun cl C s H fp aa=>(jj (pv 0) T.QaN Qb6 (hr.mono (by decide))))) ai)))))
   (ak (aM (pv 1))))),?_⟩
  refine⟨by show 0≤S';decide,fun m nm=>?_⟩
  have s1:ae H (upd H m (.lst [])):=ae.new nm
  have h1:upd H m (.lst []) m=f' (.lst []):=ag
  generalize upd H m (.lst [])=H1 at s1 h1 ⊢
  have O1:=U0.same s1
  refine⟨_,O,l,O,⟨_,P'.of O1.hl⟩,iN (K:=K) (a:=l) (xs:=[.ref r]) (fun i σ G=>∃ v2,σ=[f' (.ref l),f' (.ref m),v2]∧ae H G∧(i=0→G m=f' (.lst []))∧(i=1→∃ q,G m=f' (.lst [.ref q])∧G q=f' (.lst [.str nA]))) ⟨i',rfl,s1,fun _=>h1,fun z=>by cases z⟩ ?_ ?_ ?_⟩
  .rintro i σ G _ ⟨v2,rfl,sg,_⟩
   exact P'.of (sg _ _ U0.hl)
  .rintro i x σ G hx ⟨v2,rfl,sg,hm,_⟩
   obtain⟨rfl,rfl⟩:=ur hx
   have hm:=hm rfl
   have OG:=U0.same sg
   dsimp only[bM]
   refine⟨_,O,.inl ⟨O,_,P'.of hm⟩,_,O,r,O,⟨_,P'.of OG.hr⟩,fun D hD=>?_⟩
   refine ft (K:=K) (a:=r) (xs:=[.ref o]) (fun j τ G'=>∃ v1,τ=[v1]∧ae G G'∧(j=0→G' D=f' (.lst []))∧(j=1→G' D=f' (.lst [.str nA]))) ⟨i',rfl,ae.new hD,fun _=>ag,fun z=>by cases z⟩ ?_ ?_ ?_
   .rintro j τ G' _ ⟨v1,rfl,bS,_⟩
    exact P'.of (bS _ _ OG.hr)
   .rintro j y τ G' hy ⟨v1,rfl,bS,eE,_⟩
    obtain⟨rfl,rfl⟩:=ur hy
    have eE:=eE rfl
    obtain⟨dx,w0,ho⟩:=(OG.same bS).ho
    dsimp only[bM,dQ]
    rw[UN rfl]
    refine⟨_,O,o,dx,_,O,ho,by rfl,o,dx,nA,w0,O,ho,?_⟩
    exact⟨_,eE,by show 0<S';decide,_,O,du hD bS,(fun z=>by cases z),fun _=>ag⟩
   rintro τ G' ⟨v1,rfl,bS,_,eE⟩
   have eE:=eE rfl
   have mD:m≠D:=aq hm hD
   refine⟨m,_,_,O,O,bS _ _ hm,by show 0<S';decide,?_⟩
   exact⟨_,O,du nm (sg.trans bS),(fun z=>by cases z),fun _=>⟨D,ag,by rw[aj (US mD)];exact eE⟩⟩
  .rintro σ G ⟨v2,rfl,sg,_,hm⟩
   obtain⟨q,hm,hq⟩:=hm rfl
   exact⟨_,O,k m q G sg hm hq⟩
inductive MQ (vs:List V) (H:Hp) (Q:VK) (bF:XK):Prop
 | mk (m q:_) (_:vs=[.ref m]) (_:H m=f' (.lst [.ref q])) (_:H q=f' (.lst [.str nA])) (_:∀ l H',ae H H'→H' l=f' (.lst [.str nA])→Q (.ref l) H')
theorem Oq (T:Tx K mg a):Vj P w K mg base Vd 1 "marks_in_line" ["rows"] [] MQ:=T.Qjx.U8 fun f fd F=>by
 refine F.ok xS (fun vs H Q E h=>?_) (fun ay A outer s H vs Q E hr h=>?_)
 .obtain⟨m,q,rfl,_⟩:=h
  rfl
 .obtain⟨m,q,rfl,hm,hq,k⟩:=h
  refine⟨_,(ao (aV (i:=1) xS.nd O (by first|exact UR rfl|exact UQ O) (bY ai))
   (ao (ej Wj rfl (bV (pv 0)) (aF (i:=2) xS.nd O (by first|exact UR rfl|exact UQ O)) (ak (bo (eA Wa Qfu PySem.F.type_list_extend NL (pv 1) (af (pv 2) ai)))))
   (ak (aM (pv 1))))),?_⟩
  refine⟨by show 0≤S';decide,fun l Ah=>?_⟩
  have s1:ae H (upd H l (.lst [])):=ae.new Ah
  have h1:upd H l (.lst []) l=f' (.lst []):=ag
  generalize upd H l (.lst [])=H1 at s1 h1 ⊢
  refine⟨_,O,m,O,⟨_,P'.of (s1 _ _ hm)⟩,iN (K:=K) (a:=m) (xs:=[.ref q]) (fun i σ G=>∃ v2,σ=[f' (.ref m),f' (.ref l),v2]∧ae H G∧(i=0→G l=f' (.lst []))∧(i=1→G l=f' (.lst [.str nA]))) ⟨i',rfl,s1,fun _=>h1,fun z=>by cases z⟩ ?_ ?_ ?_⟩
  .rintro i σ G _ ⟨v2,rfl,sg,_⟩
   exact P'.of (sg _ _ hm)
  .rintro i x σ G hx ⟨v2,rfl,sg,hl,_⟩
   obtain⟨rfl,rfl⟩:=ur hx
   have hl:=hl rfl
   dsimp only[bM]
   refine⟨_,O,.inl ⟨O,_,P'.of hl⟩,_,O,l,q,_,_,O,O,hl,sg _ _ hq,by show 0+1≤S';decide,?_⟩
   exact⟨_,O,du Ah sg,(fun z=>by cases z),fun _=>ag⟩
  .rintro σ G ⟨v2,rfl,sg,_,hl⟩
   exact⟨_,O,k l G sg (hl O)⟩
inductive M9 (a:Vm) (vs:List V) (H:Hp) (tz:VK) (E:XK):Prop
 | mk (l r o d:_) (n:Int) (_:vs=[.ref l,.ref d]) (_:One a H l r o) (_:H d=f' (.dK [(UT nA,.int n)])) (_:200<n) (_:∀ H',ae H H'→E (.ref a.TooLong) i' H')
theorem KP (T:Tx K mg a):Vj P w K mg base (Vt P w) 4 "picture" ["rows","places"] [] (M9 a):=T.QjE.U8 fun f fd F=>by
 have gH:=Pk (P:=P) (w:=w) (base:=base) T
 have de:=Oq (P:=P) (w:=w) (base:=base) T
 have aD:=rj (P:=P) (w:=w) (base:=base) T
 refine F.VZ O8 (fun vs H Q E h=>?_) (fun ay A outer s H vs Q E hr h=>?_)
 .obtain⟨l,r,o,d,n,rfl,_⟩:=h
  rfl
 .obtain⟨l,r,o,d,n,rfl,U0,hd,hn,k⟩:=h
  refine⟨_,(ao (aT (gv (eG (bi rA O T.Qad sj (af (cG (N:=["mark","places"]) (cap:=[i',f' 1]) O (cy (osc:=az uY) (XN:=["rows","places"]) O O (by decide +kernel)) (bV (bB de (hr.mono (by decide)) rfl (af (bB gH (hr.mono (by decide)) rfl (af (pv 0) ai)) ai))) (fun cl C s H fp aa=>(aF (i:=0) (show(["mark","places"]:List C').Nodup by decide +kernel) rfl (by first|exact UR rfl|exact UQ O))) (fun cl C s H fp aa=>cS) (fun cl C s H fp aa=>(bB aD (hr.mono (by decide)) rfl (af (fY (cM hr) (pv 1) (pv 0) (fun _ _=>O)) (af au (af (gb O T.QjX) ai)))))) ai)))) (ak (io aU T.QiQ O T.QdS)) aP)
   (ak (aM (eA Qa3 PySem.F.slot_str_join PySem.F.type_str_join Pg bh (af (cG (N:=["row","places"]) (cap:=[i',f' 1]) O (cy (osc:=az uY) (XN:=["rows","places"]) O O (by decide +kernel)) (bV (pv 0)) (fun cl C s H fp aa=>(aF (i:=0) (show(["row","places"]:List C').Nodup by decide +kernel) rfl (by first|exact UR rfl|exact UQ O))) (fun cl C s H fp aa=>cS) (fun cl C s H fp aa=>iw)) ai))))),?_⟩
  refine⟨_,O,l,r,o,O,U0,fun m q H1 s1 hm hq=>?_⟩
  refine⟨m,q,O,hm,hq,fun l2 H2 s2 bO=>?_⟩
  have oN:=s1.trans s2
  refine⟨l2,O,⟨_,P'.of bO⟩,fun D hD=>?_⟩
  refine ft (K:=K) (a:=l2) (xs:=[.str nA]) (fun j τ G'=>∃ v1,τ=[v1,f' (.ref d)]∧ae H2 G'∧(j=0→G' D=f' (.lst []))∧(j=1→G' D=f' (.lst ([K'].map V.bl)))) ⟨i',rfl,ae.new hD,fun _=>ag,fun z=>by cases z⟩ ?_ ?_ ?_
  .rintro j τ G' _ ⟨v1,rfl,bS,_⟩
   exact P'.of (bS _ _ bO)
  .rintro j y τ G' hy ⟨v1,rfl,bS,eE,_⟩
   obtain⟨rfl,rfl⟩:=ur hy
   have eE:=eE rfl
   dsimp only[bM,dQ]
   rw[UN rfl]
   refine⟨_,O,_,O,d,.int n,O,?_,n,0,200,O,?_⟩
   .have:=ci.k (k:=UT nA) (bS _ _ (oN _ _ hd))
    rw[dm rfl] at this
    exact this
   .have e:(decide ((0:Int)≤n) && decide (n≤200))=K':=by rw[Ry (show ¬ n≤200 by lia),S1]
    rw[e]
    exact⟨_,eE,by show 0<S';decide,_,O,du hD bS,(fun z=>by cases z),fun _=>ag⟩
  rintro τ G' ⟨v1,rfl,bS,_,eE⟩
  refine⟨D,_,O,P'.of (eE O),_,O,jg O ?_⟩
  exact⟨by show 0≤S';decide,k G' (oN.trans bS)⟩
end
def cK (n:Int):C':=if n % 2=0 then UO "zz" else nB
def Ref (a:Vm) (n:Int) (H:Hp) (C:F') (dd:Option F'):Nat→Prop
 | 0=>C=a.NoName∧dd=i'
 | 1=>C=a.Taken∧dd=i'
 | 2=>C=a.Alone∧dd=i'
 | 3=>C=a.NoNumber∧dd=i'
 | 4=>C=a.TooMany∧dd=i'
 | 5=>C=a.NoFlow∧dd=i'
 | 6=>C=a.TooLong∧dd=i'
 | 7=>C=a.Stale∧dd=i'
 | 8=>C=a.NoPoint∧∃ dx,dd=f' dx∧H dx=f' (.xd [("name",.str (cK n))])
 | 9=>C=a.NoSuch∧∃ dx,dd=f' dx∧H dx=f' (.xd [("number",.int n)])
 | 10=>C=a.NoLine∧∃ dx,dd=f' dx∧H dx=f' (.xd [("number",.int 2)])
 | 11=>C=a.Ring∧∃ dx l,dd=f' dx∧H dx=f' (.xd [("ring",.ref l)])∧H l=f' (.lst [.int 1])
 | _=>False
def pE:Nat→Bool
 | 5=>B'
 | 6=>B'
 | 7=>B'
 | 11=>B'
 | _=>K'
def bx (k:Nat):C':=UO "b"++(⟨#[97+k]⟩:C')
theorem QnO:∀ k:Fin 20,dk (bx k.val)=B':=by decide +kernel
theorem QnP:∀ j k:Fin 20,bx j.val=bx k.val→j=k:=by decide +kernel
theorem QnQ:∀ k:Fin 20,bx k.val≠nA:=by decide +kernel
theorem QnR:∀ k:Fin 20,(UO "abcdefghijklmnopqrst").cps.toList[k.val]?=f' (97+k.val):=by decide +kernel
theorem QnS:∀ i:Fin 4,dk ([UO "",UO "A",UO "ninelette",UO "a b"].getD i.val Vy)=K'∧([UO "",UO "A",UO "ninelette",UO "a b"].getD i.val Vy).length≤1000:=by decide +kernel
def dA:bp:={VS with kvs:=[(UT nA,.int 0)]}
theorem ui:has dA.kvs nA=B':=by
 show(a8 [((UT nA:Key),V.int 0)] (UT nA)).isSome=B'
 rw[dm rfl]
 rfl
theorem tO {x:C'} (h:x≠nA):has dA.kvs x=K':=by
 show(a8 [((UT nA:Key),V.int 0)] (UT x)).isSome=K'
 rw[cv (fun z=>h (W6 z).symm)]
 rfl
theorem uh:dk nA=B':=by decide +kernel
theorem uU:dk nB=B':=by decide +kernel
def jG:List C':=[UO "point a",UO "x",UO "",UO "arrow a"]
abbrev lA:C':=UO "point a"
abbrev lB:C':=UO "point b"
theorem KL:∀ i:Fin 4,UO "point a\npoint b\n"++jG.getD i.val Vy=W8 nl [lA,lB,jG.getD i.val Vy]:=by decide +kernel
theorem LJ:∀ i:Fin 4,(∀ l∈[lA,lB,jG.getD i.val Vy],10∉cl l∧l.length≤100)∧W8 nl [lA,lB,jG.getD i.val Vy]≠UO "":=by decide +kernel
theorem LH:∀ i:Fin 4,i.val=0∨(look (V3 (jG.getD i.val Vy) bk)).isSome=K':=by decide +kernel
theorem tA:lA=(Ln.pt nA []).text:=by decide +kernel
theorem tB:lB=(Ln.pt nB []).text:=by decide +kernel
theorem okA:(Ln.pt nA []).Ok:=⟨uh,R6 _,fun m hm=>by cases hm⟩
theorem okB:(Ln.pt nB []).Ok:=⟨uU,R6 _,fun m hm=>by cases hm⟩
theorem zv:∃ v,bL VS lA=f' v∧j6 v [nA] 1 0 0 0:=by
 rw[tA]
 exact DX PY okA ⟨Tp 0,by show(0:Int)≤50;decide⟩ RJ (by decide)
theorem Cc (p:j6 v [nA] 1 0 0 0):∃ v',bL v lB=f' v'∧j6 v' [nA,nB] 2 0 0 0:=by
 rw[tB]
 exact DX p okB ⟨Tp 0,by show(0:Int)≤50;decide⟩ (by decide) (by decide)
theorem QnT:∃ v,fw VS [lA,lB]=f' v∧j6 v [nA,nB] 2 0 0 0:=by
 obtain⟨v,e,p⟩:=zv
 obtain⟨v',e',p'⟩:=Cc p
 refine⟨v',?_,p'⟩
 show(match bL VS lA with|none=>i'|some v=>fw v [lB])=_
 rw[e]
 show(match bL v lB with|none=>i'|some v=>fw v [])=_
 rw[e']
 rfl
theorem Na (p:j6 v [nA,nB] 2 0 0 0) (i:Fin 4):bL v (jG.getD i.val Vy)=i':=by
 rcases LH i with z|z
 .rw[z]
  show bL v lA=i'
  rw[tA,Ln.step okA]
  have e:(Ln.pt nA []).rd.err v=f' .taken:=by
   have:(Ln.pt nA []).rd.err v=di v.kvs nA 0:=UN rfl
   rw[this]
   unfold di
   rw[UL (by rw[uh];decide),UN ((p.has nA).mpr (by decide))]
  rw[e]
 .unfold bL je
  cases e:look (V3 (jG.getD i.val Vy) bk) with
  | none=>rfl
  | some q=>rw[e] at z;cases z
structure Bs (v:bp) (i:Nat):Prop where
 l:v.kvs.length=i+1
 h:∀ y,has v.kvs y=B'→y=nA∨∃ j,j<i∧y=bx j
theorem Bs.no (h:Bs v i) (hi:i<20):has v.kvs (bx i)=K':=by
 cases e:has v.kvs (bx i) with
 | false=>rfl
 | true=>
  rcases h.h _ e with z|⟨j,hj,z⟩
  .exact UX z (QnQ ⟨i,hi⟩)
  .have:=QnP ⟨i,hi⟩ ⟨j,by lia⟩ z
   injection this with this
   lia
section
variable {K:R'}
inductive QnU (a:Vm) (vs:List V) (H:Hp) (Q:VK) (E:XK):Prop
 | mk (w:Nat) (n:Int) (_:vs=[.int (w:Int),.int n]) (_:w<12) (_:0≤n) (_:n<1000000000) (_:(pE w=B'→∀ H',ae H H'→Q .UU H')) (_:(pE w=K'→∀ C dd H',ae H H'→Ref a n H' C dd w→E (.ref C) dd H'))
theorem Xf {w k:Nat} (h:decide (V.int (w:Int)=V.int (k:Int))=B'):w=k:=by
 have:=RB h
 injection this with this
 lia
theorem Qeo {l:List C'} (hn:0≤n) (hl:l.length=4):∃ i:Fin 4,VH (l.map V.str) (n % 4)=f' (.str (l.getD i.val Vy)):=by
 have h1:0≤n % 4:=SX _ (by decide)
 have h2:n % 4<4:=SB _ (by decide)
 refine⟨⟨(n % 4).toNat,by lia⟩,?_⟩
 rw[jH h1,RD,uW (d:=Vy) (by lia)]
 rfl
theorem Qep (hn:0≤n):VH [V.str (UO "zz"),.str nB] (n % 2)=f' (.str (cK n)):=by
 have h1:0≤n % 2:=SX _ (by decide)
 have h2:n % 2<2:=SB _ (by decide)
 unfold cK
 by_cases z:n % 2=0
 .rw[UN z,z]
  rfl
 .rw[UL z,show n % 2=1 by lia]
  rfl
theorem Fs (T:Tx K mg a) (Z:KD P w K a.LINES (fB a)):Vj P w K mg base (Vt P w) 9 "_law_of_nets" ["_law_which","_law_number"] [] (QnU a):=T.QjP.U8 fun f fd F=>by
 have gU:=Mg (P:=P) (w:=w) (base:=base) T Z
 have YS:=yt (P:=P) (w:=w) (base:=base) T
 have Zs:=CZ (P:=P) (w:=w) (base:=base) T
 have Qaa:=Kz (P:=P) (w:=w) (base:=base) T
 have QbZ:=Kd (P:=P) (w:=w) (base:=base) T
 have Qab:=CK (P:=P) (w:=w) (base:=base) T
 have Qac:=Ct (P:=P) (w:=w) (base:=base) T
 refine F.VZ yv (fun vs H Q E h=>?_) (fun ay A outer s H vs Q E hr h=>?_)
 .obtain⟨w,n,rfl,_⟩:=h
  rfl
 .obtain⟨w,n,rfl,wN,n0,n9,k1,k2⟩:=h
  refine⟨_,(ao (aV (i:=2) yv.nd O (by first|exact UR rfl|exact UQ O) (tN YS (hr.mono (by decide)) rfl))
   (ao (bo (eu (pv 2) T.Vg Qaa aU (hr.mono (by decide)) (af bh ai)))
   (ao (aT (bb cF (pv 0) au (aY _)) (ak (bo (eu (pv 2) T.Vg Qaa aU (hr.mono (by decide)) (af (aK bA (bY (af bh (af bh (af bh (af bh ai))))) (bq ke (pv 1) au) (fun _ _=>O)) ai)))) aP)
   (ao (aT (bb cF (pv 0) au (aY _)) (ak (bo (eu (pv 2) T.Vg Zs aU (hr.mono (by decide)) (af bh (af (bq ke (pv 1) au) ai))))) aP)
   (ao (aT (bb cF (pv 0) au (aY _)) (ak (bo (eu (pv 2) T.Vg QbZ aU (hr.mono (by decide)) (af bh (af bh ai))))) aP)
   (ao (aT (bb cF (pv 0) au (aY _)) (ak (bo (eu (pv 2) T.Vg Zs aU (hr.mono (by decide)) (af bh (af (bq nR au (pv 1)) ai))))) aP)
   (ao (aT (bb cF (pv 0) au (aY _)) (ak (ej Y3 rfl (rm rfl T.Zt (af au ai)) (aF (i:=3) yv.nd O (by first|exact UR rfl|exact UQ O)) (ak (bo (eu (pv 2) T.Vg Qaa aU (hr.mono (by decide)) (af (bq rF bh (aK Fc bh (pv 3) (fun _ _=>O))) ai)))))) aP)
   (ao (aT (bb cF (pv 0) au (aY _)) (ak (bo (eu (pv 2) T.Vg Qab aU (hr.mono (by decide)) (af bh (af (aK bA (bY (af bh (af bh ai))) (bq ke (pv 1) au) (fun _ _=>O)) ai))))) aP)
   (ao (aT (bb cF (pv 0) au (aY _)) (ak (bo (eu (pv 2) T.Vg Qac aU (hr.mono (by decide)) (af (pv 1) ai)))) aP)
   (ak (aT (bb cF (pv 0) au (aY _)) (ak (bo (ff gU aU (hr.mono (by decide)) rfl (af (bq rF bh (aK bA (bY (af bh (af bh (af bh (af bh ai))))) (bq ke (pv 1) au) (fun _ _=>O))) ai)))) aP))))))))))),?_⟩
  refine fun x dx nx kE BG=>⟨x,dx,O,ag,fun r H1 fr fo N1=>⟨O,?_⟩⟩
  have s1:ae H H1:=fun b o e=>fr b o (by rw[aj (aq e nx),aj (aq e kE)];exact e) (aq e nx)
  have ap:vd H x r:=fun b o e=>⟨aq e nx,fo b o (by rw[aj (aq e nx),aj (aq e kE)];exact e)⟩
  obtain⟨GC,aB⟩:=N1.ex
  have GJ:di VS.kvs nA 0=i':=by decide +kernel
  refine⟨_,O,x,GC,_,O,aB,by rfl,x,r,VS,nA,0,O,by decide,N1,by decide,fun er e=>(by rw[GJ] at e;cases e),fun _ H2 Hq N2=>?_⟩
  have s2:ae H H2:=ap.kp s1 Hq
  have N2:bE K a.Net H2 x r dA:=N2
  obtain⟨jw,dv⟩:=N2.ex
  have one:dA.kvs.length=1:=rfl
  refine⟨_,O,O,_,O,bg (fun c=>?_) (fun c0=>?_)⟩
  .have ew:w=0:=Xf c
   subst ew
   refine⟨_,O,x,jw,_,O,dv,by rfl,(by show 4≤S';decide),fun q nq=>?_⟩
   obtain⟨i,hi⟩:=Qeo (l:=[UO "",UO "A",UO "ninelette",UO "a b"]) n0 rfl
   obtain⟨b1,b2⟩:=QnS i
   refine⟨_,O,_,_,O,O,(by show(0:Int)<4;decide),q,_,_,_,O,O,P'.of ag,hi,x,r,dA,_,0,O,b2,N2.same (ae.new nq),by decide,fun er e H3 s3=>?_,fun e=>?_⟩
   .unfold di at e
    rw[UN b1] at e
    cases e
    exact k2 O _ _ H3 (s2.trans ((ae.new nq).trans s3)) ⟨O,O⟩
   .unfold di at e
    rw[UN b1] at e
    cases e
  refine⟨_,O,O,_,O,bg (fun c=>?_) (fun c1=>?_)⟩
  .have ew:w=1:=Xf c
   subst ew
   have pe:di dA.kvs nA (n % 51)=f' .taken:=by
    unfold di
    rw[UL (by rw[uh];decide),UN ui]
   refine⟨_,O,x,jw,_,O,dv,by rfl,_,O,_,_,O,O,(by show(0:Int)<51;decide),x,r,dA,nA,_,O,by decide,N2,by decide,fun er e H3 s3=>?_,fun e=>by rw[pe] at e;cases e⟩
   rw[pe] at e
   cases e
   exact k2 O _ _ H3 (s2.trans s3) ⟨O,O⟩
  refine⟨_,O,O,_,O,bg (fun c=>?_) (fun c2=>?_)⟩
  .have ew:w=2:=Xf c
   subst ew
   have tw:two dA.kvs nA nA=f' .alone:=by
    unfold two
    rw[UL (by rw[ui];decide),UL (by rw[ui];decide),UN rfl]
   refine⟨_,O,x,jw,_,O,dv,by rfl,x,r,dA,nA,nA,1,1,O,N2,by decide,(fun q hq=>by cases hq),(fun e=>by rw[xX tw] at e;cases e),fun er e H3 s3=>?_⟩
   rw[xX tw] at e
   cases e
   exact k2 O _ _ H3 (s2.trans s3) ⟨O,O⟩
  refine⟨_,O,O,_,O,bg (fun c=>?_) (fun c3=>?_)⟩
  .have ew:w=3:=Xf c
   subst ew
   have pe:di dA.kvs nB (51+n)=f' .number:=by
    unfold di
    rw[UL (by rw[uU];decide),UL (by rw[tO (by decide)];decide),UN (by lia)]
   refine⟨_,O,x,jw,_,O,dv,by rfl,_,O,_,_,O,O,x,r,dA,nB,_,O,by decide,N2,by decide,fun er e H3 s3=>?_,fun e=>by rw[pe] at e;cases e⟩
   rw[pe] at e
   cases e
   exact k2 O _ _ H3 (s2.trans s3) ⟨O,O⟩
  refine⟨_,O,O,_,O,bg (fun c=>?_) (fun c4=>?_)⟩
  .have ew:w=4:=Xf c
   subst ew
   refine⟨20,O,by decide,by decide,zp (lo:=0) (n:=20) (fun i σ G=>∃ v3 v,σ=[f' (.int 4),f' (.int n),f' (.ref x),v3]∧i≤19∧ae H G∧bE K a.Net G x r v∧Bs v i) ⟨i',dA,rfl,by decide,s2,N2,⟨O,fun y hy=>?_⟩⟩ ?_ ?_⟩
   .by_cases z:y=nA
    .exact .inl z
    .rw[tO z] at hy
     cases hy
   .rintro i σ G hi ⟨v3,v,rfl,Ai,sg,NG,bs⟩
    obtain⟨ce,GH⟩:=NG.ex
    have bk:=QnO ⟨i,hi⟩
    have bn:=bs.no hi
    have bl:=bs.l
    dsimp only[bM]
    refine⟨_,O,x,ce,_,O,GH,by rfl,_,O,_,_,97+i,O,O,(by decide +kernel),?_,_,_,O,O,?_,x,r,v,bx i,0,O,?_,NG,by lia,fun er e H3 s3=>?_,fun e H3 Gi N3=>?_⟩
    .rw[jH (by lia),show((0:Int)+(i:Int)).toNat=i by lia]
     exact QnR ⟨i,hi⟩
    .have e1:(UO "b").length=1:=by decide
     have e2:(⟨#[97+i]⟩:C').length=1:=rfl
     rw[e1,e2,Rh]
     decide
    .show(UO "b"++(⟨#[97+i]⟩:C')).length≤1000
     have e1:(UO "b").length=1:=by decide
     have e2:(⟨#[97+i]⟩:C').length=1:=rfl
     rw[QeE,e1,e2]
     decide
    .unfold di at e
     rw[UL (by rw[bk];decide),UL (by rw[bn];decide),UL (by decide)] at e
     split at e
     .cases e
      exact k2 O _ _ H3 (sg.trans s3) ⟨O,O⟩
     .cases e
    .unfold di at e
     rw[UL (by rw[bk];decide),UL (by rw[bn];decide),UL (by decide)] at e
     split at e
     .cases e
     .rename_i h20
      refine⟨_,_,O,by lia,ap.kp sg Gi,N3,⟨?_,fun y hy=>?_⟩⟩
      .show(v.kvs++[_]).length=i+1+1
       rw[Ru,bl]
       rfl
      .rw[EG bn,SW,RP] at hy
       rcases hy with z|z
       .exact .inr ⟨i,by lia,z⟩
       .rcases bs.h y z with z|⟨j,hj,z⟩
        .exact .inl z
        .exact .inr ⟨j,by lia,z⟩
   .rintro σ G ⟨v3,v,rfl,Ai,_⟩
    exact UX Ai (by decide)
  refine⟨_,O,O,_,O,bg (fun c=>?_) (fun c8=>?_)⟩
  .have ew:w=8:=Xf c
   subst ew
   refine⟨_,O,x,jw,_,O,dv,by rfl,(by show 2≤S';decide),fun q nq=>?_⟩
   have Iq:cK n≠nA:=by
    unfold cK
    split<;>decide
   have tw:two dA.kvs nA (cK n)=f' (.point (cK n)):=by
    unfold two
    rw[UL (by rw[ui];decide),UN (tO Iq)]
   refine⟨_,O,_,_,O,O,(by show(0:Int)<2;decide),q,_,_,_,O,O,P'.of ag,Qep n0,x,r,dA,nA,cK n,O,N2.same (ae.new nq),by decide,(fun e=>by rw[tZ tw] at e;cases e),fun er e H3 s3=>?_⟩
   rw[tZ tw] at e
   cases e
   exact fun dx gw=>k2 O _ _ H3 (s2.trans ((ae.new nq).trans s3)) ⟨O,dx,O,gw⟩
  refine⟨_,O,O,_,O,bg (fun c=>?_) (fun c9=>?_)⟩
  .have ew:w=9:=Xf c
   subst ew
   refine⟨_,O,x,jw,_,O,dv,by rfl,_,O,x,r,dA,n,O,N2,(fun e=>by cases e),fun _ H3 s3=>?_⟩
   exact fun dx gw=>k2 O _ _ H3 (s2.trans s3) ⟨O,dx,O,gw⟩
  refine⟨_,O,O,_,O,bg (fun c=>?_) (fun JM=>?_)⟩
  .have ew:w=10:=Xf c
   subst ew
   refine⟨(by show 4≤S';decide),fun q nq=>?_⟩
   obtain⟨i,hi⟩:=Qeo (l:=jG) n0 rfl
   obtain⟨o1,o2⟩:=LJ i
   obtain⟨v,hv,pv⟩:=QnT
   have st:=Na pv i
   have tl:(UO "point a\npoint b\n").length+(jG.getD i.val Vy).length≤S':=by
    have:=(o1 (jG.getD i.val Vy) (by simp)).2
    have e1:(UO "point a\npoint b\n").length=16:=by decide +kernel
    rw[e1,Rh]
    lia
   have tx:=KL i
   generalize jG.getD i.val Vy=th at hi o1 o2 st tl tx
   refine⟨_,O,_,_,O,O,(by show(0:Int)<4;decide),q,_,_,_,O,O,P'.of ag,hi,_,_,O,O,tl,[lA,lB,th],WB (fun x=>[V.str x]) tx,⟨fun l h=>(o1 l h).1,fun l h=>(o1 l h).2,by show 3≤200;decide,.inr ⟨by simp,o2⟩⟩,fun v' e=>?_,fun j l v' el cX hs H3 dx s3 gw=>?_⟩
   .have:fw VS [lA,lB,th]=i':=by
     rw[show([lA,lB,th]:List C')=[lA,lB]++[th] from rfl,yQ,hv]
     show(match bL v th with|none=>i'|some v'=>fw v' [])=i'
     rw[st]
    rw[this] at e
    cases e
   .have j2:j=2:=by
     match j,el,cX with
     | 0,el,cX=>
      cases el
      cases cX
      obtain⟨v0,e0,_⟩:=zv
      rw[hs] at e0
      cases e0
     | 1,el,cX=>
      cases el
      obtain⟨v0,e0,p0⟩:=zv
      have cX:(match bL VS lA with|none=>i'|some v=>fw v [])=f' v':=cX
      rw[e0] at cX
      cases cX
      obtain⟨v1,e1,_⟩:=Cc p0
      rw[hs] at e1
      cases e1
     | 2,_,_=>rfl
     | j+3,el,_=>simp at el
    subst j2
    exact k2 O _ _ H3 (s2.trans ((ae.new nq).trans s3)) ⟨O,dx,O,gw⟩
  have lt:pE w=B':=by
   have ne:∀ k:Nat,decide (V.int (w:Int)=V.int (k:Int))=K'→w≠k:=fun k h z=>by
    rw[z,Rp rfl] at h
    cases h
   have e0:=ne 0 c0
   have e1:=ne 1 c1
   have e2:=ne 2 c2
   have e3:=ne 3 c3
   have e4:=ne 4 c4
   have e8:=ne 8 c8
   have e9:=ne 9 c9
   have Gp:=ne 10 JM
   match w,wN,e0,e1,e2,e3,e4,e8,e9,Gp with
   | 5,_,_,_,_,_,_,_,_,_=>rfl
   | 6,_,_,_,_,_,_,_,_,_=>rfl
   | 7,_,_,_,_,_,_,_,_,_=>rfl
   | 11,_,_,_,_,_,_,_,_,_=>rfl
  exact k1 lt H2 s2
end
def iy:bp:={VS with kvs:=[(UT nA,.int 0),(UT nB,.int 0)]}
def oR:bp:={iy with arr:=[⟨0,nA,nB,1,1⟩],nn:=1}
abbrev X9:C':=UO "arrow a b"
theorem tAr:X9=(Ln.ar nA nB []).text:=by decide +kernel
theorem Qeq:(Ln.ar nA nB []).Ok:=⟨uh,uU,R6 _,fun m hm=>by cases hm⟩
theorem Fp:has iy.kvs nA=B'∧has iy.kvs nB=B':=by
 refine⟨?_,?_⟩
 .show(a8 [((UT nA:Key),V.int 0),(UT nB,.int 0)] (UT nA)).isSome=B'
  rw[dm rfl]
  rfl
 .show(a8 [((UT nA:Key),V.int 0),(UT nB,.int 0)] (UT nB)).isSome=B'
  rw[cv (fun z=>UX (W6 z) (by decide)),dm rfl]
  rfl
theorem YV:bL VS lA=f' dA:=by
 have e:(Ln.pt nA []).rd.err VS=i':=by
  have:(Ln.pt nA []).rd.err VS=di VS.kvs nA 0:=UN rfl
  rw[this]
  decide +kernel
 rw[tA,Ln.step okA,e]
 rfl
theorem WQ:bL dA lB=f' iy:=by
 have e:(Ln.pt nB []).rd.err dA=i':=by
  have:(Ln.pt nB []).rd.err dA=di dA.kvs nB 0:=UN rfl
  rw[this]
  unfold di
  rw[UL (by rw[uU];decide),UL (by rw[tO (by decide)];decide),UL (by decide),UL (by decide)]
 rw[tB,Ln.step okB,e]
 rfl
theorem XG:bL iy X9=f' oR:=by
 have e:(Ln.ar nA nB []).rd.err iy=i':=by
  have tw:two iy.kvs nA nB=i':=by
   unfold two
   rw[UL (by rw[Fp.1];decide),UL (by rw[Fp.2];decide),UL (by decide)]
  rw[QnE Qeq,CC tw]
  decide
 rw[tAr,Ln.step Qeq,e]
 rfl
theorem ab0:AB iy:=⟨O,O,O⟩
theorem ab1:AB oR:=⟨O,O,O⟩
theorem QnV:jb 1000 VS:=⟨by decide,by decide,(fun _ h=>by cases h),by decide,by decide⟩
theorem QnW:jb 1000 dA:=⟨by decide,by decide,(fun _ h=>by cases h),by decide,by decide⟩
theorem QnX:jb 1000 iy:=⟨by decide,by decide,(fun _ h=>by cases h),by decide,by decide⟩
theorem LB (h:s≠t):¬ iV [] s t:=by
 rintro⟨zs,p⟩
 cases p with
 | nil=>exact h rfl
 | snoc _ hq _=>cases hq
theorem Mu:fu [⟨0,nA,nB,1,1⟩]=[]:=by
 show(lh ([],[]) ⟨0,nA,nB,1,1⟩).2=[]
 rw[DN (LB (by decide))]
theorem QnY:(fc [nA,nB] oR).all (keep [0,0])=K':=by
 unfold fc
 show([gu [nA,nB] (fu [⟨0,nA,nB,1,1⟩]) ⟨0,nA,nB,1,1⟩]++[]++[]).all (keep [0,0])=K'
 rw[Mu]
 decide
theorem KR (h:0≤n):kj 1 [(0,0,1,1)] [0-1-n]=K':=by
 unfold kj
 show(decide (1=1) && (!(decide (0-1-n<0) || false) && _))=K'
 rw[Rp (show 0-1-n<0 by lia)]
 rfl
section
variable {K:R'}
theorem ws1 {t:F'}{x y:Int} (ht:H t=f' (.tup [.int x,.int y,.int z,.int u])) (hl:H l=f' (.lst [.ref t])):il K H l [(x,y,z,u)]:=
 ⟨_,P'.of hl,_,_,rfl,⟨t,_,rfl,U4.of ht,_,_,rfl,rfl,_,_,rfl,rfl,_,_,rfl,rfl,_,_,rfl,rfl,rfl⟩,rfl⟩
theorem ws2 {t t':F'}{x y x' y' z' u':Int} (ht:H t=f' (.tup [.int x,.int y,.int z,.int u])) (sN:H t'=f' (.tup [.int x',.int y',.int z',.int u'])) (hl:H l=f' (.lst [.ref t,.ref t'])):il K H l [(x,y,z,u),(x',y',z',u')]:=
 ⟨_,P'.of hl,_,_,rfl,⟨t,_,rfl,U4.of ht,_,_,rfl,rfl,_,_,rfl,rfl,_,_,rfl,rfl,_,_,rfl,rfl,rfl⟩,_,_,rfl,⟨t',_,rfl,U4.of sN,_,_,rfl,rfl,_,_,rfl,rfl,_,_,rfl,rfl,_,_,rfl,rfl,rfl⟩,rfl⟩
theorem QnZ {ring:List Nat} (h:uu (wn [(0,1,0,1),(1,1,m,3)] 2) ring):ring=[1]:=by
 obtain⟨Pl,t,pu,p,k,fi,p2,pT,er,cN,first⟩:=h.XE
 have mQ:∀ v n,pu v=f' n→v=1∧n<2:=fun v n e=>by
  obtain⟨h1,h2,_⟩:=fi.a v n e
  have h1:n<2:=h1
  match n,h1,h2 with
  | 0,_,h2=>exact⟨h2.symm,by decide⟩
  | 1,_,h2=>exact⟨h2.symm,by decide⟩
 have p1:p=1:=by
  have:=pT 0
  cases e:pu p with
  | none=>rw[show U' (K07.bk (wn [(0,1,0,1),(1,1,m,3)] 2) pu) 0 p=p from rfl,e] at this;cases this
  | some n=>exact(mQ p n e).1
 subst p1
 have b1:K07.bk (wn [(0,1,0,1),(1,1,m,3)] 2) pu 1=1:=by
  have:=pT 1
  cases e:pu (K07.bk (wn [(0,1,0,1),(1,1,m,3)] 2) pu 1) with
  | none=>rw[show U' (K07.bk (wn [(0,1,0,1),(1,1,m,3)] 2) pu) 1 1=K07.bk (wn [(0,1,0,1),(1,1,m,3)] 2) pu 1 from rfl,e] at this;cases this
  | some n=>exact(mQ _ n e).1
 have k0:k=0:=by
  rcases Tg k with z|z
  .exact z
  .exact UX b1 (first 1 (Re _) z)
 subst k0
 have IK:pu 1=f' 1:=by
  have h0:=pT 0
  cases e:pu 1 with
  | none=>rw[show U' (K07.bk (wn [(0,1,0,1),(1,1,m,3)] 2) pu) 0 1=1 from rfl,e] at h0;cases h0
  | some n=>
   obtain⟨_,n2⟩:=mQ 1 n e
   match n,n2,e with
   | 0,_,e=>
    have:K07.bk (wn [(0,1,0,1),(1,1,m,3)] 2) pu 1=0:=by
     rw[xW (by rw[e];rfl),show cn pu 1=0 by unfold cn;rw[e];rfl]
     rfl
    rw[b1] at this
    cases this
   | 1,_,_=>rfl
 rw[er]
 show[cn pu 1]=[1]
 unfold cn
 rw[IK]
 rfl
end
section
variable {K:R'}
inductive Ml (a:Vm) (vs:List V) (H:Hp) (Q:VK) (E:XK):Prop
 | mk (w:Nat) (n:Int) (_:vs=[.int (w:Int),.int n]) (_:w<12) (_:0≤n) (_:n<1000000000) (_:pE w=B') (_:∀ C dd H',ae H H'→Ref a n H' C dd w→E (.ref C) dd H')
def Qn0:Nat→bp
 | 0=>VS
 | 1=>dA
 | 2=>iy
 | 3=>iy
 | _=>oR
def Qn1:Nat→Vc
 | 3=>eI
 | 4=>eI
 | _=>[]
theorem Qz {w:Nat} (h:w<12) (l:pE w=B') (e5:w≠5) (e6:w≠6) (e7:w≠7) (AF:w≠11):False:=by
 have:∀ w:Fin 12,pE w.val=B'→w.val=5∨w.val=6∨w.val=7∨w.val=11:=by decide
 have:=this ⟨w,h⟩ l
 dsimp only at this
 lia
theorem three {z:V}:∃ u,VH [x,y,z] (n % 3)=f' u∧(u=x∨u=y∨u=z):=by
 have h1:0≤n % 3:=SX _ (by decide)
 have h2:n % 3<3:=SB _ (by decide)
 have:n % 3=0∨n % 3=1∨n % 3=2:=by lia
 rcases this with e|e|e<;>rw[e]
 .exact⟨x,O,.inl O⟩
 .exact⟨y,O,.inr (.inl O)⟩
 .exact⟨z,O,.inr (.inr O)⟩
theorem Qn2:∃ u,VH [x,y] (n % 2)=f' u∧(u=x∨u=y):=by
 have h1:0≤n % 2:=SX _ (by decide)
 have h2:n % 2<2:=SB _ (by decide)
 have:n % 2=0∨n % 2=1:=by lia
 rcases this with e|e<;>rw[e]
 .exact⟨x,O,.inl O⟩
 .exact⟨y,O,.inr O⟩
theorem Db (T:Tx K mg a) (Z:KD P w K a.LINES (fB a)):Vj P w K mg base (Vt P w) 11 "_law_of_stages" ["_law_which","_law_number"] [] (Ml a):=T.QjQ.U8 fun f fd F=>by
 have kB:=MC (P:=P) (w:=w) (base:=base) T
 have iC:=KP (P:=P) (w:=w) (base:=base) T
 have gR:=Fq (P:=P) (w:=w) (base:=base) T
 have Qb5:=Qv (P:=P) (w:=w) (base:=base) T
 have Qb7:=OU (P:=P) (w:=w) (base:=base) T
 have Qb8:=QnM (P:=P) (w:=w) (base:=base) T Z
 refine F.VZ yD (fun vs H Q E h=>?_) (fun ay A outer s H vs Q E hr h=>?_)
 .obtain⟨w,n,rfl,_⟩:=h
  rfl
 .obtain⟨w,n,rfl,wN,n0,n9,lt,k⟩:=h
  refine⟨_,(ao (aT (bb cF (pv 0) au (aY _)) (ak (bo (zE kB aU (hr.mono (by decide)) rfl (bP eO (bP (kh (bP (yP (bP eO (bP eO (bP eO (bP eO gq))))) gq)) (bP (QdB bA (kh (bP (kh gq) (bP (kh (bP (Z6 jJ (Z6 jJ eO eO) (Wh.mk (pv 1))) gq)) (bP (kh (bP eO (bP eO gq))) gq)))) (Z6 ke (Wh.mk (pv 1)) eO) (fun _ _=>O)) gq)))))) aP) (ao (aT (bb cF (pv 0) au (aY _)) (ak (bo (zE iC aU (hr.mono (by decide)) rfl (bP (kh (bP (kh (bP (Wh.mk (DU Qb5 (hr.mono (by decide)) rfl (af bh (af au ai)))) gq)) gq)) (bP (QiD (C7 bh (bq nR au (pv 1)) CF) rfl rfl (by decide) (by decide)) gq))))) aP) (ao (QiF (bb cF (pv 0) au (aY _)) (KZ (PSb.mk (aV (i:=2) yD.nd O (by first|exact UR rfl|exact UQ O) (tN Qb7 (hr.mono (by decide)) rfl))) (QiE (QiG Y3 rfl (kh (bP pB (bP pB (bP pB (bP pB (bP (QdB bA (kh (bP pB (bP pB gq))) (Z6 ke (Wh.mk (pv 1)) eO) (fun _ _=>O)) gq)))))) (aF (i:=3) yD.nd O (by first|exact UR rfl|exact UQ O)) (ak (bo (eu (pv 2) T.WD Qb8 aU (hr.mono (by decide)) (af (pv 3) ai))))))) aP) (ak (aT (bb cF (pv 0) au (aY _)) (ak (bo (zE gR aU (hr.mono (by decide)) rfl (bP eO (bP (kh (bP (yP (bP eO (bP eO (bP eO (bP eO gq))))) (bP (yP (bP eO (bP eO (bP (Z6 nR eO (Wh.mk (pv 1))) (bP eO gq))))) gq))) gq))))) aP))))),?_⟩
  refine⟨_,O,O,_,O,bg (fun c=>?_) (fun c5=>?_)⟩
  .have ew:w=5:=Xf c
   subst ew
   refine⟨(by show 4≤S';decide),fun t nt=>⟨(by show 1≤S';decide),fun l nl=>?_⟩⟩
   have s1:ae H (upd (upd H t (.tup [.int 0,.int 0,.int 1,.int 1])) l (.lst [.ref t])):=(ae.new nt).trans (ae.new nl)
   have ht:upd (upd H t (.tup [.int 0,.int 0,.int 1,.int 1])) l (.lst [.ref t]) t=f' (.tup [.int 0,.int 0,.int 1,.int 1]):=(ae.new nl) _ _ ag
   have hl:upd (upd H t (.tup [.int 0,.int 0,.int 1,.int 1])) l (.lst [.ref t]) l=f' (.lst [.ref t]):=ag
   generalize upd (upd H t (.tup [.int 0,.int 0,.int 1,.int 1])) l (.lst [.ref t])=H1 at s1 ht hl ⊢
   refine⟨(by show 0≤S';decide),fun e1 m1=>⟨_,_,O,O,_,O,_,_,O,O,(by show 1≤S';decide),fun e2 m2=>⟨(by show 2≤S';decide),fun e3 m3=>⟨(by show 3≤S';decide),fun e4 m4=>?_⟩⟩⟩⟩
   have s2:ae H1 (upd (upd (upd (upd H1 e1 (.lst [])) e2 (.lst [.int (0-1-n)])) e3 (.lst [.int 1,.int 1])) e4 (.lst [.ref e1,.ref e2,.ref e3])):=(((ae.new m1).trans (ae.new m2)).trans (ae.new m3)).trans (ae.new m4)
   have g1:upd (upd (upd (upd H1 e1 (.lst [])) e2 (.lst [.int (0-1-n)])) e3 (.lst [.int 1,.int 1])) e4 (.lst [.ref e1,.ref e2,.ref e3]) e1=f' (.lst []):=(((ae.new m2).trans (ae.new m3)).trans (ae.new m4)) _ _ ag
   have g2:upd (upd (upd (upd H1 e1 (.lst [])) e2 (.lst [.int (0-1-n)])) e3 (.lst [.int 1,.int 1])) e4 (.lst [.ref e1,.ref e2,.ref e3]) e2=f' (.lst [.int (0-1-n)]):=((ae.new m3).trans (ae.new m4)) _ _ ag
   have g3:upd (upd (upd (upd H1 e1 (.lst [])) e2 (.lst [.int (0-1-n)])) e3 (.lst [.int 1,.int 1])) e4 (.lst [.ref e1,.ref e2,.ref e3]) e3=f' (.lst [.int 1,.int 1]):=(ae.new m4) _ _ ag
   have g4:upd (upd (upd (upd H1 e1 (.lst [])) e2 (.lst [.int (0-1-n)])) e3 (.lst [.int 1,.int 1])) e4 (.lst [.ref e1,.ref e2,.ref e3]) e4=f' (.lst [.ref e1,.ref e2,.ref e3]):=ag
   generalize upd (upd (upd (upd H1 e1 (.lst [])) e2 (.lst [.int (0-1-n)])) e3 (.lst [.int 1,.int 1])) e4 (.lst [.ref e1,.ref e2,.ref e3])=H2 at s2 g1 g2 g3 g4 ⊢
   obtain⟨u,hu,qP⟩:=three (n:=n) (x:=.ref e1) (y:=.ref e2) (z:=.ref e3)
   obtain⟨e,fl,rfl,he,gf,fl5⟩:∃ e fl,u=.ref e∧H2 e=f' (.lst ((fl:List Int).map V.int))∧kj 1 [(0,0,1,1)] fl=K'∧fl.length≤1000:=by
    rcases qP with rfl|rfl|rfl
    .exact⟨e1,[],O,g1,by decide,by decide⟩
    .exact⟨e2,[0-1-n],O,g2,KR n0,by show 1≤1000;decide⟩
    .exact⟨e3,[1,1],O,g3,by decide,by decide⟩
   refine⟨_,O,_,_,O,O,(by show(0:Int)<3;decide),e4,_,_,_,O,O,P'.of g4,hu,1,l,[(0,0,1,1)],e,fl,O,ws1 (s2 _ _ ht) (s2 _ _ hl),P'.of he,by decide,fl5,by decide,by decide,?_,(fun g=>by rw[show(1:Int).toNat=1 from rfl,gf] at g;cases g),fun _ H3 s3=>k _ _ H3 (s1.trans (s2.trans s3)) ⟨O,O⟩⟩
   intro q hq
   rw[Vh.mp hq]
   exact⟨⟨⟨by decide,by decide⟩,by decide,by decide⟩,by decide,by decide⟩
  refine⟨_,O,O,_,O,bg (fun c=>?_) (fun c6=>?_)⟩
  .have ew:w=6:=Xf c
   subst ew
   refine fun o dx no kE ne=>⟨o,dx,nA,0,O,ag,O,?_⟩
   have G9:upd H dx (.own o) o=i':=by rw[aj (US ne)];exact no
   have s1:ae H (upd (upd (upd (upd H dx (.own o)) o (.ins a.Own dx [])) o (.ins a.Own dx (aR "name" (.str nA) []))) o (.ins a.Own dx (j4 nA 0))):=du no (du no ((ae.new kE).trans (ae.new G9)))
   have h1:upd (upd (upd (upd H dx (.own o)) o (.ins a.Own dx [])) o (.ins a.Own dx (aR "name" (.str nA) []))) o (.ins a.Own dx (j4 nA 0)) o=f' (.ins a.Own dx (j4 nA 0)):=ag
   generalize upd (upd (upd (upd H dx (.own o)) o (.ins a.Own dx [])) o (.ins a.Own dx (aR "name" (.str nA) []))) o (.ins a.Own dx (j4 nA 0))=H1 at s1 h1 ⊢
   refine⟨(by show 1≤S';decide),fun r nr=>⟨(by show 1≤S';decide),fun l nl=>?_⟩⟩
   have U0:One a (upd (upd H1 r (.lst [.ref o])) l (.lst [.ref r])) l r o:=⟨ag,(ae.new nl) _ _ ag,dx,0,((ae.new nr).trans (ae.new nl)) _ _ h1⟩
   have s2:ae H (upd (upd H1 r (.lst [.ref o])) l (.lst [.ref r])):=s1.trans ((ae.new nr).trans (ae.new nl))
   generalize upd (upd H1 r (.lst [.ref o])) l (.lst [.ref r])=H2 at s2 U0 ⊢
   refine fun d nd=>⟨_,O,_,_,O,O,ag,[(UT nA,.int (201+n))],O,by show 1≤15;decide,?_⟩
   have s3:ae H2 (upd (upd H2 d (.dK [])) d (.dK (jI [] [(UT nA,.int (201+n))]))):=du nd (ae.new nd)
   have h3:upd (upd H2 d (.dK [])) d (.dK (jI [] [(UT nA,.int (201+n))])) d=f' (.dK [(UT nA,.int (201+n))]):=ag
   generalize upd (upd H2 d (.dK [])) d (.dK (jI [] [(UT nA,.int (201+n))]))=H3 at s3 h3 ⊢
   exact⟨l,r,o,d,201+n,O,U0.same s3,h3,by lia,fun H4 s4=>k _ _ H4 (s2.trans (s3.trans s4)) ⟨O,O⟩⟩
  refine⟨_,O,O,_,O,bg (fun c=>?_) (fun c7=>?_)⟩
  .have ew:w=7:=Xf c
   subst ew
   refine fun d dx nd kE ne=>⟨d,dx,O,ag,fun p r lv H1 fr ap D=>⟨O,?_⟩⟩
   have e0:∀ b o,H b=f' o→upd (upd H dx (.own d)) d (.ins a.Desk dx []) b=f' o:=fun b o e=>by rw[aj (aq e nd),aj (aq e kE)];exact e
   have s1:ae H H1:=fun b o e=>fr b o (e0 b o e) (aq e nd)
   have kd:∀ {G G':Hp},ae H G→Y0 d p r G G'→ae H G':=fun sg kp b o e=>by
    obtain⟨z1,z2,z3,z4,z5⟩:=ap b o (e0 b o e)
    exact kp b o (sg b o e) (aq e nd) z1 z2 z3 z4 z5
   refine⟨(by show 2≤S';decide),fun q nq=>?_⟩
   obtain⟨u,hu,qP⟩:=Qn2 (n:=n) (x:=.str (UO "cross")) (y:=.str (UO "draw 3"))
   obtain⟨th,rfl,BS⟩:∃ th,u=.str th∧(th=UO "cross"∨th=UO "draw 3"):=by
    rcases qP with rfl|rfl
    .exact⟨_,O,.inl O⟩
    .exact⟨_,O,.inr O⟩
   refine⟨_,O,_,_,O,O,(by show(0:Int)<2;decide),q,_,_,_,O,O,P'.of ag,hu,(by show 5≤S';decide),fun ll Af=>?_⟩
   have s2:ae H1 (upd (upd H1 q (.lst [.str (UO "cross"),.str (UO "draw 3")])) ll (.lst [.str lA,.str lB,.str (UO "level"),.str X9,.str th])):=(ae.new nq).trans (ae.new Af)
   have h2:upd (upd H1 q (.lst [.str (UO "cross"),.str (UO "draw 3")])) ll (.lst [.str lA,.str lB,.str (UO "level"),.str X9,.str th]) ll=f' (.lst [.str lA,.str lB,.str (UO "level"),.str X9,.str th]):=ag
   have oK:H1 ll=i':=zN (ae.new nq) Af
   have oq:ll≠d∧ll≠p∧ll≠r.dh∧ll≠r.da∧ll≠r.ls∧ll≠r.lm:=by
    obtain⟨⟨dd,ed⟩,⟨⟨dy,e1⟩,e2,⟨bJ,e3,_⟩,⟨xs,e4,_⟩,⟨ys,e5,_⟩,_⟩,_⟩:=D
    exact⟨US (aq ed oK),US (aq e1 oK),US (aq e2 oK),US (aq e3 oK),US (aq e4 oK),US (aq e5 oK)⟩
   have D2:=D.same s2
   have S2:=s1.trans s2
   generalize upd (upd H1 q (.lst [.str (UO "cross"),.str (UO "draw 3")])) ll (.lst [.str lA,.str lB,.str (UO "level"),.str X9,.str th])=H2 at s2 h2 D2 S2 ⊢
   refine⟨ll,O,⟨_,P'.of h2⟩,iN (K:=K) (a:=ll) (xs:=[.str lA,.str lB,.str (UO "level"),.str X9,.str th]) (fun i σ G=>∃ v3 lv,σ=[f' (.int 7),f' (.int n),f' (.ref d),v3]∧i≤4∧ae H G∧G ll=f' (.lst [.str lA,.str lB,.str (UO "level"),.str X9,.str th])∧gr K a G d p r (Qn0 i) lv (Qn1 i)) ⟨i',lv,rfl,by decide,S2,h2,D2⟩ ?_ ?_ ?_⟩
   .rintro i σ G _ ⟨v3,lv,rfl,_,_,hG,_⟩
    exact P'.of hG
   .rintro i x σ G hx ⟨v3,lv,rfl,i4,sg,hG,DG⟩
    obtain⟨ce,qC⟩:=DG.ex
    have kl:∀ {G'},Y0 d p r G G'→G' ll=f' (.lst [.str lA,.str lB,.str (UO "level"),.str X9,.str th]):=fun kp=>kp _ _ hG oq.1 oq.2.1 oq.2.2.1 oq.2.2.2.1 oq.2.2.2.2.1 oq.2.2.2.2.2
    match i,i4,hx,DG with
    | 0,_,hx,DG=>
     cases hx
     dsimp only[bM]
     exact⟨_,O,d,ce,_,O,qC,by rfl,_,O,d,p,r,VS,lv,_,_,O,DG,by decide +kernel,.inl ⟨by decide +kernel,QnV,by decide,by decide,dA,YV,fun x H3 kp D3=>⟨_,lv,O,by decide,kd sg kp,kl kp,D3⟩⟩⟩
    | 1,_,hx,DG=>
     cases hx
     dsimp only[bM]
     exact⟨_,O,d,ce,_,O,qC,by rfl,_,O,d,p,r,dA,lv,_,_,O,DG,by decide +kernel,.inl ⟨by decide +kernel,QnW,by decide,by decide,iy,WQ,fun x H3 kp D3=>⟨_,lv,O,by decide,kd sg kp,kl kp,D3⟩⟩⟩
    | 2,_,hx,DG=>
     cases hx
     dsimp only[bM]
     exact⟨_,O,d,ce,_,O,qC,by rfl,_,O,d,p,r,iy,lv,_,_,O,DG,by decide +kernel,.inr (.inl ⟨O,ab0,O,fun x l2 H3 kp _ D3=>⟨_,l2,O,by decide,kd sg kp,kl kp,D3⟩⟩)⟩
    | 3,_,hx,DG=>
     cases hx
     dsimp only[bM]
     exact⟨_,O,d,ce,_,O,qC,by rfl,_,O,d,p,r,iy,lv,_,_,O,DG,by decide +kernel,.inl ⟨by decide +kernel,QnX,by decide,by decide,oR,XG,fun x H3 kp D3=>⟨_,lv,O,by decide,kd sg kp,kl kp,D3⟩⟩⟩
    | 4,_,hx,DG=>
     cases hx
     dsimp only[bM]
     refine⟨_,O,d,ce,_,O,qC,by rfl,_,O,d,p,r,oR,lv,_,_,O,DG,?_,.inr (.inr ⟨BS,DG,ab1.wn1 rfl rfl rfl,QnY,fun H3 s3=>k _ _ H3 (sg.trans s3) ⟨O,O⟩⟩)⟩
     rcases BS with rfl|rfl<;>decide +kernel
   .rintro σ G ⟨v3,lv,rfl,i4,_⟩
    exact UX (show 5≤4 from i4) (by decide)
  refine⟨_,O,O,_,O,bg (fun c=>?_) (fun HB=>?_)⟩
  .have ew:w=11:=Xf c
   subst ew
   refine⟨(by show 4≤S';decide),fun t nt=>⟨_,O,_,_,O,O,(by show 4≤S';decide),fun t' AA=>⟨(by show 2≤S';decide),fun l nl=>?_⟩⟩⟩
   have s1:ae H (upd (upd (upd H t (.tup [.int 0,.int 1,.int 0,.int 1])) t' (.tup [.int 1,.int 1,.int (1+n),.int 3])) l (.lst [.ref t,.ref t'])):=((ae.new nt).trans (ae.new AA)).trans (ae.new nl)
   have ht:upd (upd (upd H t (.tup [.int 0,.int 1,.int 0,.int 1])) t' (.tup [.int 1,.int 1,.int (1+n),.int 3])) l (.lst [.ref t,.ref t']) t=f' (.tup [.int 0,.int 1,.int 0,.int 1]):=((ae.new AA).trans (ae.new nl)) _ _ ag
   have sN:upd (upd (upd H t (.tup [.int 0,.int 1,.int 0,.int 1])) t' (.tup [.int 1,.int 1,.int (1+n),.int 3])) l (.lst [.ref t,.ref t']) t'=f' (.tup [.int 1,.int 1,.int (1+n),.int 3]):=(ae.new nl) _ _ ag
   have hl:upd (upd (upd H t (.tup [.int 0,.int 1,.int 0,.int 1])) t' (.tup [.int 1,.int 1,.int (1+n),.int 3])) l (.lst [.ref t,.ref t']) l=f' (.lst [.ref t,.ref t']):=ag
   generalize upd (upd (upd H t (.tup [.int 0,.int 1,.int 0,.int 1])) t' (.tup [.int 1,.int 1,.int (1+n),.int 3])) l (.lst [.ref t,.ref t'])=H1 at s1 ht sN hl ⊢
   refine⟨l,[(0,1,0,1),(1,1,1+n,3)],2,O,ws2 ht sN hl,?_,by show 2≤200;decide,by decide,.inr ⟨1,by show 1<2;decide,fun c Pl=>?_⟩,(fun e=>by cases e),fun ring lr dx H2 s2 gw sI XE=>?_⟩
   .intro x hx
    simp only[RY,RJ,WA] at hx
    rcases hx with rfl|rfl
    .exact⟨by decide,by decide⟩
    .exact⟨show 1<2 by decide,show 1<2 by decide⟩
   .show Pl 1-Pl 1-(1+n)<0
    lia
   .rw[QnZ XE] at sI
    exact k _ _ H2 (s1.trans s2) ⟨O,dx,lr,O,gw,sI⟩
  exfalso
  have ne:∀ k:Nat,decide (V.int (w:Int)=V.int (k:Int))=K'→w≠k:=fun k h z=>by
   rw[z,Rp rfl] at h
   cases h
  have e5:=ne 5 c5
  have e6:=ne 6 c6
  have e7:=ne 7 c7
  have AF:=ne 11 HB
  exact Qz wN lt e5 e6 e7 AF
end
def eK (a:Vm):Nat→F'
 | 0=>a.NoName
 | 1=>a.Taken
 | 2=>a.Alone
 | 3=>a.NoNumber
 | 4=>a.TooMany
 | 5=>a.NoFlow
 | 6=>a.TooLong
 | 7=>a.Stale
 | 8=>a.NoPoint
 | 9=>a.NoSuch
 | 10=>a.NoLine
 | _=>a.Ring
def row (i:Nat):List Bool:=(VO 12).map fun j=>decide (i=j)
section
variable {K:R'}
theorem kt0 (T:Tx K mg a):∀ i:Fin 12,UK K (.ref (eK a i.val)) (.ref a.NoName)=f' (decide (i.val=0))
 | ⟨0,_⟩=>T.Qks
 | ⟨1,_⟩=>T.QkE
 | ⟨2,_⟩=>T.QkQ
 | ⟨3,_⟩=>T.Qk2
 | ⟨4,_⟩=>T.Qle
 | ⟨5,_⟩=>T.Qlq
 | ⟨6,_⟩=>T.QlC
 | ⟨7,_⟩=>T.QlO
 | ⟨8,_⟩=>T.Ql0
 | ⟨9,_⟩=>T.Qmc
 | ⟨10,_⟩=>T.Qmo
 | ⟨11,_⟩=>T.QmA
theorem kt1 (T:Tx K mg a):∀ i:Fin 12,UK K (.ref (eK a i.val)) (.ref a.Taken)=f' (decide (i.val=1))
 | ⟨0,_⟩=>T.Qkt
 | ⟨1,_⟩=>T.QkF
 | ⟨2,_⟩=>T.QkR
 | ⟨3,_⟩=>T.Qk3
 | ⟨4,_⟩=>T.Qlf
 | ⟨5,_⟩=>T.Qlr
 | ⟨6,_⟩=>T.QlD
 | ⟨7,_⟩=>T.QlP
 | ⟨8,_⟩=>T.Ql1
 | ⟨9,_⟩=>T.Qmd
 | ⟨10,_⟩=>T.Qmp
 | ⟨11,_⟩=>T.QmB
theorem kt2 (T:Tx K mg a):∀ i:Fin 12,UK K (.ref (eK a i.val)) (.ref a.Alone)=f' (decide (i.val=2))
 | ⟨0,_⟩=>T.Qku
 | ⟨1,_⟩=>T.QkG
 | ⟨2,_⟩=>T.QkS
 | ⟨3,_⟩=>T.Qk4
 | ⟨4,_⟩=>T.Qlg
 | ⟨5,_⟩=>T.Qls
 | ⟨6,_⟩=>T.QlE
 | ⟨7,_⟩=>T.QlQ
 | ⟨8,_⟩=>T.Ql2
 | ⟨9,_⟩=>T.Qme
 | ⟨10,_⟩=>T.Qmq
 | ⟨11,_⟩=>T.QmC
theorem kt3 (T:Tx K mg a):∀ i:Fin 12,UK K (.ref (eK a i.val)) (.ref a.NoNumber)=f' (decide (i.val=3))
 | ⟨0,_⟩=>T.Qkv
 | ⟨1,_⟩=>T.QkH
 | ⟨2,_⟩=>T.QkT
 | ⟨3,_⟩=>T.Qk5
 | ⟨4,_⟩=>T.Qlh
 | ⟨5,_⟩=>T.Qlt
 | ⟨6,_⟩=>T.QlF
 | ⟨7,_⟩=>T.QlR
 | ⟨8,_⟩=>T.Ql3
 | ⟨9,_⟩=>T.Qmf
 | ⟨10,_⟩=>T.Qmr
 | ⟨11,_⟩=>T.QmD
theorem kt4 (T:Tx K mg a):∀ i:Fin 12,UK K (.ref (eK a i.val)) (.ref a.TooMany)=f' (decide (i.val=4))
 | ⟨0,_⟩=>T.Qkw
 | ⟨1,_⟩=>T.QkI
 | ⟨2,_⟩=>T.QkU
 | ⟨3,_⟩=>T.Qk6
 | ⟨4,_⟩=>T.Qli
 | ⟨5,_⟩=>T.Qlu
 | ⟨6,_⟩=>T.QlG
 | ⟨7,_⟩=>T.QlS
 | ⟨8,_⟩=>T.Ql4
 | ⟨9,_⟩=>T.Qmg
 | ⟨10,_⟩=>T.Qms
 | ⟨11,_⟩=>T.QmE
theorem kt5 (T:Tx K mg a):∀ i:Fin 12,UK K (.ref (eK a i.val)) (.ref a.NoFlow)=f' (decide (i.val=5))
 | ⟨0,_⟩=>T.Qkx
 | ⟨1,_⟩=>T.QkJ
 | ⟨2,_⟩=>T.QkV
 | ⟨3,_⟩=>T.Qk7
 | ⟨4,_⟩=>T.Qlj
 | ⟨5,_⟩=>T.Qlv
 | ⟨6,_⟩=>T.QlH
 | ⟨7,_⟩=>T.QlT
 | ⟨8,_⟩=>T.Ql5
 | ⟨9,_⟩=>T.Qmh
 | ⟨10,_⟩=>T.Qmt
 | ⟨11,_⟩=>T.QmF
theorem kt6 (T:Tx K mg a):∀ i:Fin 12,UK K (.ref (eK a i.val)) (.ref a.TooLong)=f' (decide (i.val=6))
 | ⟨0,_⟩=>T.Qky
 | ⟨1,_⟩=>T.QkK
 | ⟨2,_⟩=>T.QkW
 | ⟨3,_⟩=>T.Qk8
 | ⟨4,_⟩=>T.Qlk
 | ⟨5,_⟩=>T.Qlw
 | ⟨6,_⟩=>T.QlI
 | ⟨7,_⟩=>T.QlU
 | ⟨8,_⟩=>T.Ql6
 | ⟨9,_⟩=>T.Qmi
 | ⟨10,_⟩=>T.Qmu
 | ⟨11,_⟩=>T.QmG
theorem kt7 (T:Tx K mg a):∀ i:Fin 12,UK K (.ref (eK a i.val)) (.ref a.Stale)=f' (decide (i.val=7))
 | ⟨0,_⟩=>T.Qkz
 | ⟨1,_⟩=>T.QkL
 | ⟨2,_⟩=>T.QkX
 | ⟨3,_⟩=>T.Qk9
 | ⟨4,_⟩=>T.Qll
 | ⟨5,_⟩=>T.Qlx
 | ⟨6,_⟩=>T.QlJ
 | ⟨7,_⟩=>T.QlV
 | ⟨8,_⟩=>T.Ql7
 | ⟨9,_⟩=>T.Qmj
 | ⟨10,_⟩=>T.Qmv
 | ⟨11,_⟩=>T.QmH
theorem kt8 (T:Tx K mg a):∀ i:Fin 12,UK K (.ref (eK a i.val)) (.ref a.NoPoint)=f' (decide (i.val=8))
 | ⟨0,_⟩=>T.QkA
 | ⟨1,_⟩=>T.QkM
 | ⟨2,_⟩=>T.QkY
 | ⟨3,_⟩=>T.Qla
 | ⟨4,_⟩=>T.Qlm
 | ⟨5,_⟩=>T.Qly
 | ⟨6,_⟩=>T.QlK
 | ⟨7,_⟩=>T.QlW
 | ⟨8,_⟩=>T.Ql8
 | ⟨9,_⟩=>T.Qmk
 | ⟨10,_⟩=>T.Qmw
 | ⟨11,_⟩=>T.QmI
theorem kt9 (T:Tx K mg a):∀ i:Fin 12,UK K (.ref (eK a i.val)) (.ref a.NoSuch)=f' (decide (i.val=9))
 | ⟨0,_⟩=>T.QkB
 | ⟨1,_⟩=>T.QkN
 | ⟨2,_⟩=>T.QkZ
 | ⟨3,_⟩=>T.Qlb
 | ⟨4,_⟩=>T.Qln
 | ⟨5,_⟩=>T.Qlz
 | ⟨6,_⟩=>T.QlL
 | ⟨7,_⟩=>T.QlX
 | ⟨8,_⟩=>T.Ql9
 | ⟨9,_⟩=>T.Qml
 | ⟨10,_⟩=>T.Qmx
 | ⟨11,_⟩=>T.QmJ
theorem Qn3 (T:Tx K mg a):∀ i:Fin 12,UK K (.ref (eK a i.val)) (.ref a.NoLine)=f' (decide (i.val=10))
 | ⟨0,_⟩=>T.QkC
 | ⟨1,_⟩=>T.QkO
 | ⟨2,_⟩=>T.Qk0
 | ⟨3,_⟩=>T.Qlc
 | ⟨4,_⟩=>T.Qlo
 | ⟨5,_⟩=>T.QlA
 | ⟨6,_⟩=>T.QlM
 | ⟨7,_⟩=>T.QlY
 | ⟨8,_⟩=>T.Qma
 | ⟨9,_⟩=>T.Qmm
 | ⟨10,_⟩=>T.Qmy
 | ⟨11,_⟩=>T.QmK
theorem Qn4 (T:Tx K mg a):∀ i:Fin 12,UK K (.ref (eK a i.val)) (.ref a.Ring)=f' (decide (i.val=11))
 | ⟨0,_⟩=>T.QkD
 | ⟨1,_⟩=>T.QkP
 | ⟨2,_⟩=>T.Qk1
 | ⟨3,_⟩=>T.Qld
 | ⟨4,_⟩=>T.Qlp
 | ⟨5,_⟩=>T.QlB
 | ⟨6,_⟩=>T.QlN
 | ⟨7,_⟩=>T.QlZ
 | ⟨8,_⟩=>T.Qmb
 | ⟨9,_⟩=>T.Qmn
 | ⟨10,_⟩=>T.Qmz
 | ⟨11,_⟩=>T.QmL
theorem ktv (T:Tx K mg a):∀ i:Fin 12,UK K (.ref (eK a i.val)) (.type "ValueError")=f' B'
 | ⟨0,_⟩=>T.QmM
 | ⟨1,_⟩=>T.QmN
 | ⟨2,_⟩=>T.QmO
 | ⟨3,_⟩=>T.QmP
 | ⟨4,_⟩=>T.QmQ
 | ⟨5,_⟩=>T.QmR
 | ⟨6,_⟩=>T.QmS
 | ⟨7,_⟩=>T.QmT
 | ⟨8,_⟩=>T.QmU
 | ⟨9,_⟩=>T.QmV
 | ⟨10,_⟩=>T.QmW
 | ⟨11,_⟩=>T.QmX
theorem mrs (T:Tx K mg a):∀ i:Fin 12,Vn K (eK a i.val) (.ref a.DrawError)=f' B'
 | ⟨0,_⟩=>T.Qd7
 | ⟨1,_⟩=>T.Qd8
 | ⟨2,_⟩=>T.Qd9
 | ⟨3,_⟩=>T.Qea
 | ⟨4,_⟩=>T.Qeb
 | ⟨5,_⟩=>T.Qkk
 | ⟨6,_⟩=>T.Qkl
 | ⟨7,_⟩=>T.Qkm
 | ⟨8,_⟩=>T.Qec
 | ⟨9,_⟩=>T.Qed
 | ⟨10,_⟩=>T.Qee
 | ⟨11,_⟩=>T.Qkn
theorem xis (T:Tx K mg a):∀ i:Fin 12,Wg K (eK a i.val)
 | ⟨0,_⟩=>T.QiI
 | ⟨1,_⟩=>T.QiK
 | ⟨2,_⟩=>T.QiM
 | ⟨3,_⟩=>T.QiN
 | ⟨4,_⟩=>T.QiO
 | ⟨5,_⟩=>T.QiP
 | ⟨6,_⟩=>T.QiR
 | ⟨7,_⟩=>T.QiT
 | ⟨8,_⟩=>T.QiW
 | ⟨9,_⟩=>T.QiZ
 | ⟨10,_⟩=>T.Qi2
 | ⟨11,_⟩=>T.Qi5
theorem Vu.same {x:F'} (h:Vu H x C dd) (e:ae H H'):Vu H' x C dd:=by
 obtain⟨o,u,h1,r⟩:=h.at_
 exact⟨o,u,e _ _ h1,r⟩
theorem rX (s:ae H H'):∀ {dd:Option F'},Yq H dd→Yq H' dd
 | none,_=>trivial
 | some _,⟨fs,h⟩=>⟨fs,s _ _ h⟩
theorem M8:∀ w:Nat,Ref a n H C dd w→C=eK a w∧Yq H dd
 | 0,⟨e1,e2⟩=>⟨e1,by rw[e2];trivial⟩
 | 1,⟨e1,e2⟩=>⟨e1,by rw[e2];trivial⟩
 | 2,⟨e1,e2⟩=>⟨e1,by rw[e2];trivial⟩
 | 3,⟨e1,e2⟩=>⟨e1,by rw[e2];trivial⟩
 | 4,⟨e1,e2⟩=>⟨e1,by rw[e2];trivial⟩
 | 5,⟨e1,e2⟩=>⟨e1,by rw[e2];trivial⟩
 | 6,⟨e1,e2⟩=>⟨e1,by rw[e2];trivial⟩
 | 7,⟨e1,e2⟩=>⟨e1,by rw[e2];trivial⟩
 | 8,⟨e1,dx,e2,e3⟩=>⟨e1,by rw[e2];exact⟨_,e3⟩⟩
 | 9,⟨e1,dx,e2,e3⟩=>⟨e1,by rw[e2];exact⟨_,e3⟩⟩
 | 10,⟨e1,dx,e2,e3⟩=>⟨e1,by rw[e2];exact⟨_,e3⟩⟩
 | 11,⟨e1,dx,l,e2,e3,_⟩=>⟨e1,by rw[e2];exact⟨_,e3⟩⟩
 | _+12,h=>h.elim
inductive Qk (a:Vm) (vs:List V) (H:Hp) (Q:VK) (bF:XK):Prop
 | mk (e:_) (i:Fin 12) (dd:_) (_:vs=[.ref e]) (_:Vu H e (eK a i.val) dd) (_:Yq H dd) (_:∀ l H',ae H H'→H' l=f' (.lst ((row i.val).map V.bl))→Q (.ref l) H')
theorem Eo (T:Tx K mg a):Vj P w K mg base Vd 1 "_law_kinds" ["_law_e"] [] (Qk a):=T.QjO.U8 fun f fd F=>by
 refine F.ok yG (fun vs H Q E h=>?_) (fun ay A outer s H vs Q E hr h=>?_)
 .obtain⟨e,i,dd,rfl,_⟩:=h
  rfl
 .obtain⟨e,i,dd,rfl,ix,xd,k⟩:=h
  have iz:=xis T i
  refine⟨_,(ao (aV (i:=1) yG.nd O (by first|exact UR rfl|exact UQ O) (bY (af (bi iu O T.Ws fV (af (pv 0) (af (gX O T.QdO) ai))) (af (bi iu O T.Ws fV (af (pv 0) (af (gX O T.QdP) ai))) (af (bi iu O T.Ws fV (af (pv 0) (af (gX O T.QdQ) ai))) (af (bi iu O T.Ws fV (af (pv 0) (af (gX O T.QaI) ai))) ai))))))
   (ao (aV (i:=1) yG.nd O (by first|exact UR rfl|exact UQ O) (bq rV (pv 1) (bY (af (bi iu O T.Ws fV (af (pv 0) (af (gX O T.Z7) ai))) (af (bi iu O T.Ws fV (af (pv 0) (af (gX O T.QbU) ai))) (af (bi iu O T.Ws fV (af (pv 0) (af (gX O T.QdS) ai))) (af (bi iu O T.Ws fV (af (pv 0) (af (gX O T.QdT) ai))) ai)))))))
   (ak (aM (bq rV (pv 1) (bY (af (bi iu rfl T.Ws fV (af (pv 0) (af (gX rfl T.QdU) ai))) (af (bi iu rfl T.Ws fV (af (pv 0) (af (gX rfl T.QdV) ai))) (af (bi iu rfl T.Ws fV (af (pv 0) (af (gX rfl T.QdW) ai))) (af (bi iu rfl T.Ws fV (af (pv 0) (af (gX rfl T.QdX) ai))) ai)))))))))),?_⟩
  refine⟨_,O,e,_,dd,_,_,_,O,ix,xd,iz,(fun _ r=>r),kt0 T i,_,O,e,_,dd,_,_,_,O,ix,xd,iz,(fun _ r=>r),kt1 T i,_,O,e,_,dd,_,_,_,O,ix,xd,iz,(fun _ r=>r),kt2 T i,_,O,e,_,dd,_,_,_,O,ix,xd,iz,(fun _ r=>r),kt3 T i,(by show 4≤S';decide),fun l1 n1=>?_⟩
  have s1:=ae.new (o:=.lst [.bl (decide (i.val=0)),.bl (decide (i.val=1)),.bl (decide (i.val=2)),.bl (decide (i.val=3))]) n1
  have h1:=ag (H:=H) (a:=l1) (o:=HO.lst [.bl (decide (i.val=0)),.bl (decide (i.val=1)),.bl (decide (i.val=2)),.bl (decide (i.val=3))])
  have oh:=Vu.same ix s1
  have nY:=rX s1 xd
  generalize upd H l1 (.lst [.bl (decide (i.val=0)),.bl (decide (i.val=1)),.bl (decide (i.val=2)),.bl (decide (i.val=3))])=H1 at s1 h1 oh nY ⊢
  refine⟨_,O,_,O,e,_,dd,_,_,_,O,oh,nY,iz,(fun _ r=>r),kt4 T i,_,O,e,_,dd,_,_,_,O,oh,nY,iz,(fun _ r=>r),kt5 T i,_,O,e,_,dd,_,_,_,O,oh,nY,iz,(fun _ r=>r),kt6 T i,_,O,e,_,dd,_,_,_,O,oh,nY,iz,(fun _ r=>r),kt7 T i,(by show 4≤S';decide),fun l2 n2=>?_⟩
  refine⟨l1,l2,_,_,O,O,(ae.new n2) _ _ h1,ag,(by show 4+4≤S';decide),fun l3 n3=>?_⟩
  have s2:=(ae.new (o:=.lst [.bl (decide (i.val=4)),.bl (decide (i.val=5)),.bl (decide (i.val=6)),.bl (decide (i.val=7))]) n2).trans (ae.new (o:=.lst ([.bl (decide (i.val=0)),.bl (decide (i.val=1)),.bl (decide (i.val=2)),.bl (decide (i.val=3))]++[.bl (decide (i.val=4)),.bl (decide (i.val=5)),.bl (decide (i.val=6)),.bl (decide (i.val=7))])) n3)
  have h3:=ag (H:=upd H1 l2 (.lst [.bl (decide (i.val=4)),.bl (decide (i.val=5)),.bl (decide (i.val=6)),.bl (decide (i.val=7))])) (a:=l3) (o:=HO.lst ([.bl (decide (i.val=0)),.bl (decide (i.val=1)),.bl (decide (i.val=2)),.bl (decide (i.val=3))]++[.bl (decide (i.val=4)),.bl (decide (i.val=5)),.bl (decide (i.val=6)),.bl (decide (i.val=7))]))
  have qF:=Vu.same oh s2
  have lG:=rX s2 nY
  generalize upd (upd H1 l2 (.lst [.bl (decide (i.val=4)),.bl (decide (i.val=5)),.bl (decide (i.val=6)),.bl (decide (i.val=7))])) l3 (.lst ([.bl (decide (i.val=0)),.bl (decide (i.val=1)),.bl (decide (i.val=2)),.bl (decide (i.val=3))]++[.bl (decide (i.val=4)),.bl (decide (i.val=5)),.bl (decide (i.val=6)),.bl (decide (i.val=7))]))=H2 at s2 h3 qF lG ⊢
  refine⟨_,O,_,O,e,_,dd,_,_,_,O,qF,lG,iz,(fun _ r=>r),kt8 T i,_,O,e,_,dd,_,_,_,O,qF,lG,iz,(fun _ r=>r),kt9 T i,_,O,e,_,dd,_,_,_,O,qF,lG,iz,(fun _ r=>r),Qn3 T i,_,O,e,_,dd,_,_,_,O,qF,lG,iz,(fun _ r=>r),Qn4 T i,(by show 4≤S';decide),fun l4 n4=>?_⟩
  refine⟨l3,l4,_,_,O,O,(ae.new n4) _ _ h3,ag,(by show 8+4≤S';decide),fun l5 n5=>?_⟩
  exact k l5 _ (s1.trans (s2.trans ((ae.new n4).trans (ae.new n5)))) ag
inductive Qn5 (vs:List V) (H:Hp) (Q:VK) (bF:XK):Prop
 | mk (w:Fin 12) (n:Int) (_:vs=[.int (w.val:Int),.int n]) (_:0≤n) (_:n<1000000000) (_:∀ l H',ae H H'→H' l=f' (.lst ((row w.val++[B']).map V.bl))→Q (.ref l) H')
theorem Mm (T:Tx K mg a) (Z:KD P w K a.LINES (fB a)):Vj P w K mg base Vd 12 "_law_kind" ["_law_which","_law_number"] [] Qn5:=T.QjR.U8 fun f fd F=>by
 have aL:=Fs (P:=P) (w:=w) (base:=base) T Z
 have a9:=Db (P:=P) (w:=w) (base:=base) T Z
 have bI:=Eo (P:=P) (w:=w) (base:=base) T
 refine F.ok ua (fun vs H Q E h=>?_) (fun ay A outer s H vs Q E hr h=>?_)
 .obtain⟨i,n,rfl,_⟩:=h
  rfl
 .obtain⟨i,n,rfl,n0,n9,k⟩:=h
  refine⟨_,(ao (aV (i:=2) ua.nd O (by first|exact UR rfl|exact UQ O) xJ)
   (ao (sB ⟨rfl,rfl⟩ rfl (Wr.Yr (i:=3) O T.QbS T.QdM T.QdN (by decide) ua.nd rfl rfl (fun a H₀=>(ak (aV (i:=2) ua.nd O (by first|exact UR rfl|exact UQ O) (bq rV (bB bI (hr.mark.mono (by decide)) rfl (af (pv 3) ai)) (bY (af (bi (M7 (K:=K) O) O T.Ws fV (af (pv 3) (af (tK O T.Qm2 K3) ai))) ai)))))) Wr.nil) (fun pn E1 R1 aB pO=>(ao (bo (ff aL aB (hr.mono (by decide)) rfl (af (pv 0) (af (pv 1) ai))))
   (ak (bo (ff a9 aB (hr.mono (by decide)) rfl (af (pv 0) (af (pv 1) ai))))))) aP)
   (ak (aM (pv 2))))),?_⟩
  apply Qie (I:=fun(C:F') (dd:Option F') H'=>ae H H'∧Ref a n H' C dd i.val)
  case g=>
   intro a7
   refine⟨_,O,_,O,i.val,n,O,i.isLt,n0,n9,fun lt H1 s1=>?_,fun _ C dd H1 s1 rf=>a7 C dd H1 ⟨s1,rf⟩⟩
   exact⟨_,O,_,O,i.val,n,O,i.isLt,n0,n9,lt,fun C dd H2 s2 rf=>a7 C dd H2 ⟨s1.trans s2,rf⟩⟩
  case h=>
  rintro C dd H1 ⟨s1,rf⟩
  obtain⟨rfl,xd⟩:=M8 i.val rf
  refine⟨_,B',O,mrs T i,ei (fun x ob hx ho cV hf=>?_)⟩
  have s2:=ae.new (o:=.UZ ob (.own x)) hx
  have ix:Vu (upd H1 x (.UZ ob (.own x))) x (eK a i.val) dd:=⟨ob,.own x,ag,ho,cV,hf⟩
  have lG:=rX s2 xd
  refine⟨_,O,x,i,dd,O,ix,lG,fun l H3 s3 hl=>?_⟩
  refine⟨_,O,x,_,dd,_,_,B',O,Vu.same ix s3,rX s3 lG,xis T i,(fun _ r=>r),ktv T i,(by show 1≤S';decide),fun l2 n2=>?_⟩
  refine⟨l,l2,_,_,O,O,(ae.new n2) _ _ hl,ag,(by show 12+1≤S';decide),fun l3 n3=>?_⟩
  refine⟨_,O,?_⟩
  exact k l3 _ (s1.trans (s2.trans (s3.trans ((ae.new n2).trans (ae.new n3))))) (by rw[ag,Rf];rfl)
end
section
variable {K:R'}
inductive LL (vs:List V) (H:Hp) (Q:VK) (bF:XK):Prop
 | mk (n:Int) (_:vs=[.int n]) (_:0≤n) (_:n<1000000000) (_:∀ H',ae H H'→Q (.bl B') H')
def Qce (n:Int):Dt:=.lst [.str (cK n),.int n,.int 2,.lst [.int 1]]
theorem Ce (h:H p=f' (.lst [.str (cK n),.int n,.int 2,.ref q])) (h':H q=f' (.lst [.int 1])):VI K H (Qce n) (.ref p):=
 ⟨p,_,rfl,P'.of h,_,_,rfl,rfl,_,_,rfl,rfl,_,_,rfl,rfl,_,_,rfl,⟨q,_,rfl,P'.of h',_,_,rfl,rfl,rfl⟩,rfl⟩
theorem OD (T:Tx K mg a) (Z:KD P w K a.LINES (fB a)):Vj P w K mg base Vd 13 "_law_fields" ["_law_number"] [] LL:=T.QjS.U8 fun f fd F=>by
 have aL:=Fs (P:=P) (w:=w) (base:=base) T Z
 have a9:=Db (P:=P) (w:=w) (base:=base) T Z
 refine F.ok oU (fun vs H Q E h=>?_) (fun ay A outer s H vs Q E hr h=>?_)
 .obtain⟨n,rfl,_⟩:=h
  rfl
 .obtain⟨n,rfl,n0,n9,k⟩:=h
  refine⟨_,(ao (aV (i:=1) oU.nd O (by first|exact UR rfl|exact UQ O) (bY ai))
   (ao (sB ⟨rfl,rfl⟩ rfl (Wr.Yr (i:=2) O T.QdU T.QiU T.QiV (by decide) oU.nd rfl rfl (fun a H₀=>(ak (bo (uR (K:=K) O Wa Wv WE fS (pv 1) (af (uQ (K:=K) O (pv 2) O) ai))))) Wr.nil) (fun pn E1 R1 aB pO=>(ak (bo (ff aL aB (hr.mono (by decide)) rfl (af au (af (pv 0) ai)))))) aP)
   (ao (sB ⟨rfl,rfl⟩ rfl (Wr.Yr (i:=2) O T.QdV T.QiX T.QiY (by decide) oU.nd rfl rfl (fun a H₀=>(ak (bo (uR (K:=K) O Wa Wv WE fS (pv 1) (af (uQ (K:=K) O (pv 2) O) ai))))) Wr.nil) (fun pn E1 R1 aB pO=>(ak (bo (ff aL aB (hr.mono (by decide)) rfl (af au (af (pv 0) ai)))))) aP)
   (ao (sB ⟨rfl,rfl⟩ rfl (Wr.Yr (i:=2) O T.QdW T.Qi0 T.Qi1 (by decide) oU.nd rfl rfl (fun a H₀=>(ak (bo (uR (K:=K) O Wa Wv WE fS (pv 1) (af (uQ (K:=K) O (pv 2) O) ai))))) Wr.nil) (fun pn E1 R1 aB pO=>(ak (bo (ff aL aB (hr.mono (by decide)) rfl (af au (af (pv 0) ai)))))) aP)
   (ao (sB ⟨rfl,rfl⟩ rfl (Wr.Yr (i:=2) O T.QdX T.Qi3 T.Qi4 (by decide) oU.nd rfl rfl (fun a H₀=>(ak (bo (uR (K:=K) O Wa Wv WE fS (pv 1) (af (uQ (K:=K) O (pv 2) O) ai))))) Wr.nil) (fun pn E1 R1 aB pO=>(ak (bo (ff a9 aB (hr.mono (by decide)) rfl (af au (af (pv 0) ai)))))) aP)
   (ak (aM (kn (QhP hr.units) (pv 1) (bY (af (aK bA (bY (af bh (af bh ai))) (bq ke (pv 0) au) (fun _ _=>O)) (af (pv 0) (af au (af (bY (af au ai)) ai))))) (aY _))))))))),?_⟩
  refine⟨(by show 0≤S';decide),fun p np=>?_⟩
  have s1:ae H (upd H p (.lst [])):=ae.new np
  have h1:upd H p (.lst []) p=f' (.lst []):=ag
  generalize upd H p (.lst [])=H1 at s1 h1 ⊢
  refine⟨_,O,8,n,O,by decide,n0,n9,(fun e=>by cases e),fun _ C dd H2 s2 rf=>?_⟩
  obtain⟨rfl,dx,rfl,e2⟩:=rf
  refine⟨_,B',O,T.Qko,ei (fun x ob hx ho cV hf=>?_)⟩
  have ix:Vu (upd H2 x (.UZ ob (.own x))) x a.NoPoint (f' dx):=⟨ob,.own x,ag,ho,cV,hf⟩
  have sx:=ae.new (o:=.UZ ob (.own x)) hx
  refine⟨_,O,.inl ⟨O,_,P'.of (sx _ _ (s2 _ _ h1))⟩,_,O,x,_,dx,_,_,O,ix,sx _ _ e2,T.Qd2,O,p,_,_,O,O,sx _ _ (s2 _ _ h1),by show 0<S';decide,?_⟩
  have t1:ae H (upd (upd H2 x (.UZ ob (.own x))) p (.lst ([]++[.str (cK n)]))):=du np (s1.trans (s2.trans sx))
  have h2:upd (upd H2 x (.UZ ob (.own x))) p (.lst ([]++[.str (cK n)])) p=f' (.lst [.str (cK n)]):=ag
  clear s1 h1 s2 e2 ix sx
  generalize upd (upd H2 x (.UZ ob (.own x))) p (.lst ([]++[.str (cK n)]))=H3 at t1 h2 ⊢
  refine⟨_,O,9,n,O,by decide,n0,n9,(fun e=>by cases e),fun _ C dd H4 s2 rf=>?_⟩
  obtain⟨rfl,dx,rfl,e2⟩:=rf
  refine⟨_,B',O,T.Qkp,ei (fun x ob hx ho cV hf=>?_)⟩
  have ix:Vu (upd H4 x (.UZ ob (.own x))) x a.NoSuch (f' dx):=⟨ob,.own x,ag,ho,cV,hf⟩
  have sx:=ae.new (o:=.UZ ob (.own x)) hx
  refine⟨_,O,.inl ⟨O,_,P'.of (sx _ _ (s2 _ _ h2))⟩,_,O,x,_,dx,_,_,O,ix,sx _ _ e2,T.Qd3,O,p,_,_,O,O,sx _ _ (s2 _ _ h2),by show 1<S';decide,?_⟩
  have t2:ae H (upd (upd H4 x (.UZ ob (.own x))) p (.lst ([.str (cK n)]++[.int n]))):=du np (t1.trans (s2.trans sx))
  have h3:upd (upd H4 x (.UZ ob (.own x))) p (.lst ([.str (cK n)]++[.int n])) p=f' (.lst [.str (cK n),.int n]):=ag
  clear t1 h2 s2 e2 ix sx
  generalize upd (upd H4 x (.UZ ob (.own x))) p (.lst ([.str (cK n)]++[.int n]))=H5 at t2 h3 ⊢
  refine⟨_,O,10,n,O,by decide,n0,n9,(fun e=>by cases e),fun _ C dd H6 s2 rf=>?_⟩
  obtain⟨rfl,dx,rfl,e2⟩:=rf
  refine⟨_,B',O,T.Qkq,ei (fun x ob hx ho cV hf=>?_)⟩
  have ix:Vu (upd H6 x (.UZ ob (.own x))) x a.NoLine (f' dx):=⟨ob,.own x,ag,ho,cV,hf⟩
  have sx:=ae.new (o:=.UZ ob (.own x)) hx
  refine⟨_,O,.inl ⟨O,_,P'.of (sx _ _ (s2 _ _ h3))⟩,_,O,x,_,dx,_,_,O,ix,sx _ _ e2,T.Qd4,O,p,_,_,O,O,sx _ _ (s2 _ _ h3),by show 2<S';decide,?_⟩
  have t3:ae H (upd (upd H6 x (.UZ ob (.own x))) p (.lst ([.str (cK n),.int n]++[.int 2]))):=du np (t2.trans (s2.trans sx))
  have h4:upd (upd H6 x (.UZ ob (.own x))) p (.lst ([.str (cK n),.int n]++[.int 2])) p=f' (.lst [.str (cK n),.int n,.int 2]):=ag
  clear t2 h3 s2 e2 ix sx
  generalize upd (upd H6 x (.UZ ob (.own x))) p (.lst ([.str (cK n),.int n]++[.int 2]))=H7 at t3 h4 ⊢
  refine⟨_,O,11,n,O,by decide,n0,n9,O,fun C dd H8 s2 rf=>?_⟩
  obtain⟨rfl,dx,l,rfl,e2,e3⟩:=rf
  refine⟨_,B',O,T.Qkr,ei (fun x ob hx ho cV hf=>?_)⟩
  have ix:Vu (upd H8 x (.UZ ob (.own x))) x a.Ring (f' dx):=⟨ob,.own x,ag,ho,cV,hf⟩
  have sx:=ae.new (o:=.UZ ob (.own x)) hx
  have nl:l≠p:=fun e=>by
   have q:=s2 _ _ h4
   rw[e,q] at e3
   cases e3
  refine⟨_,O,.inl ⟨O,_,P'.of (sx _ _ (s2 _ _ h4))⟩,_,O,x,_,dx,_,_,O,ix,sx _ _ e2,T.Qd5,O,p,_,_,O,O,sx _ _ (s2 _ _ h4),by show 3<S';decide,?_⟩
  have t4:ae H (upd (upd H8 x (.UZ ob (.own x))) p (.lst ([.str (cK n),.int n,.int 2]++[.ref l]))):=du np (t3.trans (s2.trans sx))
  have h5:upd (upd H8 x (.UZ ob (.own x))) p (.lst ([.str (cK n),.int n,.int 2]++[.ref l])) p=f' (.lst [.str (cK n),.int n,.int 2,.ref l]):=ag
  have h6:upd (upd H8 x (.UZ ob (.own x))) p (.lst ([.str (cK n),.int n,.int 2]++[.ref l])) l=f' (.lst [.int 1]):=by rw[aj nl];exact sx _ _ e3
  clear t3 h4 s2 e2 e3 ix sx
  generalize upd (upd H8 x (.UZ ob (.own x))) p (.lst ([.str (cK n),.int n,.int 2]++[.ref l]))=H9 at t4 h5 h6 ⊢
  refine⟨_,O,(by show 2≤S';decide),fun q nq=>?_⟩
  refine⟨_,O,_,_,O,O,(by show(0:Int)<2;decide),q,_,_,_,O,O,P'.of ag,Qep n0,_,O,(by show 1≤S';decide),fun r nr=>⟨(by show 4≤S';decide),fun u nu=>?_⟩⟩
  have s7:=(ae.new (o:=.lst [.str (UO "zz"),.str nB]) nq).trans ((ae.new (o:=.lst [.int 1]) nr).trans (ae.new (o:=.lst [.str (cK n),.int n,.int 2,.ref r]) nu))
  refine⟨Qce n,Qce n,O,O,Ce (s7 _ _ h5) (s7 _ _ h6),Ce ag ((ae.new nu) _ _ ag),⟨trivial,trivial,trivial,⟨trivial,trivial⟩,trivial⟩,?_⟩
  show Q (.bl (VT _ _)) _
  rw[tX]
  exact k _ (t4.trans s7)
end
section
variable {K:R'}
theorem made {x:F'}{o1 o2 o3:HO}{ob:U6} (nx:H x=i') (s:ae (upd H x o1) G1) (nd:G1 dx=i') (ho:ob.cls=.ref C) (hd:ob.dict=f' dx) (hf:∃ vs,ob.data=.fields vs) :
  ae H (upd (del (upd (upd G1 dx o2) x o3) x) x (.UZ ob (.own x)))∧Vu (upd (del (upd (upd G1 dx o2) x o3) x) x (.UZ ob (.own x))) x C (f' dx)∧upd (del (upd (upd G1 dx o2) x o3) x) x (.UZ ob (.own x)) dx=f' o2∧∀ b u,b≠x→G1 b=f' u→upd (del (upd (upd G1 dx o2) x o3) x) x (.UZ ob (.own x)) b=f' u:=by
 have n1:dx≠x:=fun e=>by
  have q:=s x _ ag
  rw[e,q] at nd
  cases nd
 have k:∀ b u,b≠x→G1 b=f' u→upd (del (upd (upd G1 dx o2) x o3) x) x (.UZ ob (.own x)) b=f' u:=fun b u n q=>by
  rw[aj n,kU n,aj n,aj (aq q nd)]
  exact q
 refine⟨fun b u q=>?_,⟨ob,.own x,ag,ho,hd,hf⟩,?_,k⟩
 .have n:=aq q nx
  exact k b u n (s b u (by rw[aj n];exact q))
 .rw[aj n1,kU n1,aj n1,ag]
def mdD (n:Int):Dt:=.lst [.str (UO "ab"),.int n,.int n,.lst [.int 0,.int n]]
theorem FM (h:H p=f' (.lst [.str (UO "ab"),.int n,.int n,.ref q])) (h':H q=f' (.lst [.int 0,.int n])):VI K H (mdD n) (.ref p):=
 ⟨p,_,rfl,P'.of h,_,_,rfl,rfl,_,_,rfl,rfl,_,_,rfl,rfl,_,_,rfl,⟨q,_,rfl,P'.of h',_,_,rfl,rfl,_,_,rfl,rfl,rfl⟩,rfl⟩
theorem Qn6:∀ i:Fin 12,((row i.val).filter id).length=1:=by decide
theorem Qn7:∀ i:Fin 12,((row i.val++[B']).filter id).length=2:=by decide
theorem Qw {bs:List Bool} (h:(bs.map V.bl)[j]?=f' y):∃ b,bs[j]?=f' b∧y=.bl b:=by
 rw[RD] at h
 cases e:bs[j]? with
 | none=>rw[e] at h;cases h
 | some b=>rw[e] at h;cases h;exact⟨b,O,O⟩
theorem EB {bs:List Bool} (hl:G1 l=f' (.lst (bs.map V.bl))) (hD:G1 D=i') (lb:bs.length≤100) (k:∀ G,ae G1 G→G D=f' (.lst ((bs.filter id).map V.bl))→Q (.ref D) G):jK (Zj K l) D [i'] (upd G1 D (.lst [])) (bM 0) (L2.tB (ZZ 0)) (ZZ 0) Q:=by
 refine ft (K:=K) (a:=l) (xs:=bs.map V.bl) (fun j τ G=>∃ v1,τ=[v1]∧ae G1 G∧G D=f' (.lst (((bs.take j).filter id).map V.bl))) ⟨i',rfl,ae.new hD,ag⟩ ?_ ?_ ?_
 .rintro j τ G _ ⟨_,rfl,sg,_⟩
  exact P'.of (sg _ _ hl)
 .rintro j y τ G hy ⟨v1,rfl,sg,hG⟩
  obtain⟨b,hb,rfl⟩:=Qw hy
  have hj:j<bs.length:=(VJ.mp hb).1
  have fl:=So id (bs.take j)
  rw[Rs] at fl
  have e1:bs.take (j+1)=bs.take j++[b]:=by rw[List.take_succ,hb];rfl
  dsimp only[bM]
  refine⟨_,O,_,O,?_⟩
  rw[e1,Th]
  cases b with
  | true=>exact ei ⟨_,O,_,hG,by rw[Q9,Rh];lia,_,O,du hD sg,by rw[ag,Rf];rfl⟩
  | false=>exact iM ⟨_,O,sg,by rw[hG];simp⟩
 .rintro τ G ⟨_,rfl,sg,hG⟩
  rw[Q9,Rz] at hG
  exact k _ sg hG
inductive Qn8 (vs:List V) (H:Hp) (Q:VK) (bF:XK):Prop
 | mk (n:Int) (_:vs=[.int n]) (_:∀ H',Q (.bl B') H')
theorem Mz (T:Tx K mg a):Vj P w K mg base Vd 3 "_law_made" ["_law_number"] [] Qn8:=T.QjT.U8 fun f fd F=>by
 have bD:=zm (P:=P) (w:=w) (base:=base) T
 have dF:=Cs (P:=P) (w:=w) (base:=base) T
 have aE:=pF (P:=P) (w:=w) (base:=base) T
 have gG:=Eh (P:=P) (w:=w) (base:=base) T
 have bI:=Eo (P:=P) (w:=w) (base:=base) T
 refine F.ok pG (fun vs H Q E h=>?_) (fun ay A outer s H vs Q E hr h=>?_)
 .obtain⟨n,rfl,_⟩:=h
  rfl
 .obtain⟨n,rfl,k⟩:=h
  refine⟨_,(ao (aV (i:=1) pG.nd O (by first|exact UR rfl|exact UQ O) (ug bD (hr.mono (by decide)) rfl (af bh ai)))
   (ao (aV (i:=2) pG.nd O (by first|exact UR rfl|exact UQ O) (ug dF (hr.mono (by decide)) rfl (af (pv 0) ai)))
   (ao (aV (i:=3) pG.nd O (by first|exact UR rfl|exact UQ O) (ug aE (hr.mono (by decide)) rfl (af (pv 0) ai)))
   (ao (aV (i:=4) pG.nd O (by first|exact UR rfl|exact UQ O) (ug gG (hr.mono (by decide)) rfl (af (bY (af au (af (pv 0) ai))) ai)))
   (ao (aT (bb (Cp hr.units) (bY (af (rM (pv 1) rfl) (af (rM (pv 2) rfl) (af (rM (pv 3) rfl) (af (rM (pv 4) rfl) ai))))) (bY (af bh (af (pv 0) (af (pv 0) (af (bY (af au (af (pv 0) ai))) ai))))) (aY _)) (ak (aM nC)) aP)
   (ao (ej Wj rfl (bV (bY (af (pv 1) (af (pv 2) (af (pv 3) (af (pv 4) ai)))))) (aF (i:=5) pG.nd O (by first|exact UR rfl|exact UQ O)) (ak (aT (PW.pt (ig (gv (eG (bi iu O T.Ws fV (af (pv 5) (af (gX O T.QbS) ai))))) (k9 (bb nG (bi fg O T.VW dr (af (cG (N:=["_law_kind_here"]) (cap:=[i']) O (cy (osc:=az yM) (XN:=["_law_number","_law_one","_law_two","_law_three","_law_four","_law_e"]) O O (by decide +kernel)) (bV (bB bI (hr.mono (by decide)) rfl (af (pv 5) ai))) (fun cl C s H fp aa=>(aF (i:=0) (show(["_law_kind_here"]:List C').Nodup by decide +kernel) rfl (by first|exact UR rfl|exact UQ O))) (fun cl C s H fp aa=>yh (eG (pv 0))) (fun cl C s H fp aa=>(pv 0))) ai)) au (aY _))))) (ak (aM nC)) aP)))
   (ak (aM nC)))))))),?_⟩
  refine⟨(by show 1≤S';decide),fun x1 t1 IQ=>⟨x1,t1,_,O,ag,fun d1 Go=>⟨O,f' d1,ag,fun b1 o1 p1 f1=>?_⟩⟩⟩
  obtain⟨-,i1,g1,-⟩:=made (o2:=.xd [("name",.str (UO "ab"))]) (o3:=cz a.NoPoint t1 x1 (f' d1)) IQ (ae.refl _) Go o1 p1 f1
  generalize upd (del (upd (upd (upd H x1 _) d1 _) x1 _) x1) x1 _=H1 at i1 g1 ⊢
  refine⟨_,O,(by show 1≤S';decide),fun x2 t2 GE=>⟨x2,t2,_,O,ag,fun d2 kJ=>⟨O,f' d2,ag,fun b2 o2 p2 f2=>?_⟩⟩⟩
  obtain⟨s2,i2,g2,-⟩:=made (o2:=.xd [("number",.int n)]) (o3:=cz a.NoSuch t2 x2 (f' d2)) GE (ae.refl _) kJ o2 p2 f2
  have i1:=Vu.same i1 s2
  have g1:=s2 _ _ g1
  generalize upd (del (upd (upd (upd H1 x2 _) d2 _) x2 _) x2) x2 _=H2 at s2 i1 g1 i2 g2 ⊢
  refine⟨_,O,(by show 1≤S';decide),fun x3 t3 Gf=>⟨x3,t3,_,O,ag,fun d3 xp=>⟨O,f' d3,ag,fun b3 o3 p3 f3=>?_⟩⟩⟩
  obtain⟨s3,i3,g3,-⟩:=made (o2:=.xd [("number",.int n)]) (o3:=cz a.NoLine t3 x3 (f' d3)) Gf (ae.refl _) xp o3 p3 f3
  have i1:=Vu.same i1 s3
  have g1:=s3 _ _ g1
  have i2:=Vu.same i2 s3
  have g2:=s3 _ _ g2
  generalize upd (del (upd (upd (upd H2 x3 _) d3 _) x3 _) x3) x3 _=H3 at s3 i1 g1 i2 g2 i3 g3 ⊢
  refine⟨_,O,(by show 2≤S';decide),fun l4 n4=>⟨(by show 1≤S';decide),fun x4 t4 B0=>⟨x4,t4,l4,_,O,ag,by rw[aj (aq ag B0),ag],fun l5 n5 d4 JG=>⟨O,f' d4,ag,fun b4 o4 p4 f4=>?_⟩⟩⟩⟩
  obtain⟨s4,i4,g4,k4⟩:=made (o2:=.xd [("ring",.ref l5)]) (o3:=cz a.Ring t4 x4 (f' d4)) B0 (ae.new n5) JG o4 p4 f4
  have s4:=(ae.new n4).trans s4
  have r4:=k4 l5 _ (fun e=>by rw[e,ag] at n5;cases n5) ag
  have i1:=Vu.same i1 s4
  have g1:=s4 _ _ g1
  have i2:=Vu.same i2 s4
  have g2:=s4 _ _ g2
  have i3:=Vu.same i3 s4
  have g3:=s4 _ _ g3
  clear k4
  generalize upd (del (upd (upd (upd (upd _ x4 _) l5 _) d4 _) x4 _) x4) x4 _=H4 at s4 i1 g1 i2 g2 i3 g3 i4 g4 r4 ⊢
  refine⟨_,O,x1,_,d1,_,_,O,i1,g1,T.Qd2,O,_,O,x2,_,d2,_,_,O,i2,g2,T.Qd3,O,_,O,x3,_,d3,_,_,O,i3,g3,T.Qd4,O,_,O,x4,_,d4,_,_,O,i4,g4,T.Qd5,O,(by show 4≤S';decide),fun u nu=>?_⟩
  refine⟨_,O,_,O,_,O,(by show 2≤S';decide),fun v nv=>⟨(by show 4≤S';decide),fun z nz=>?_⟩⟩
  have su:=ae.new (o:=.lst [.str (UO "ab"),.int n,.int n,.ref l5]) nu
  have sz:=(ae.new (o:=.lst [.int 0,.int n]) nv).trans (ae.new (o:=.lst [.str (UO "ab"),.int n,.int n,.ref v]) nz)
  refine⟨mdD n,mdD n,O,O,FM (sz _ _ ag) (sz _ _ (su _ _ r4)),FM ag ((ae.new nz) _ _ ag),⟨trivial,trivial,trivial,⟨trivial,trivial,trivial⟩,trivial⟩,_,O,dP (by rw[tX];rfl) ?_⟩
  have s5:=su.trans sz
  have i1:=Vu.same i1 s5
  have g1:=s5 _ _ g1
  have i2:=Vu.same i2 s5
  have g2:=s5 _ _ g2
  have i3:=Vu.same i3 s5
  have g3:=s5 _ _ g3
  have i4:=Vu.same i4 s5
  have g4:=s5 _ _ g4
  generalize upd (upd (upd H4 u _) v _) z _=H5 at i1 g1 i2 g2 i3 g3 i4 g4 ⊢
  refine⟨_,O,_,O,_,O,_,O,(by show 4≤S';decide),fun q nq=>?_⟩
  have sq:=ae.new (o:=.lst [.ref x1,.ref x2,.ref x3,.ref x4]) nq
  have hq:upd H5 q (.lst [.ref x1,.ref x2,.ref x3,.ref x4]) q=_:=ag
  have al:∀ y∈[V.ref x1,.ref x2,.ref x3,.ref x4],∃ x:F',∃ i:Fin 12,∃ dx,y=.ref x∧Vu (upd H5 q (.lst [.ref x1,.ref x2,.ref x3,.ref x4])) x (eK a i.val) (f' dx)∧Yq (upd H5 q (.lst [.ref x1,.ref x2,.ref x3,.ref x4])) (f' dx)∧UK K (.ref (eK a i.val)) (.ref a.DrawError)=f' B':=by
   intro y hy
   simp only[RY,RJ,WA] at hy
   rcases hy with rfl|rfl|rfl|rfl
   .exact⟨x1,8,d1,O,Vu.same i1 sq,⟨_,sq _ _ g1⟩,T.QmY⟩
   .exact⟨x2,9,d2,O,Vu.same i2 sq,⟨_,sq _ _ g2⟩,T.QmZ⟩
   .exact⟨x3,10,d3,O,Vu.same i3 sq,⟨_,sq _ _ g3⟩,T.Qm0⟩
   .exact⟨x4,11,d4,O,Vu.same i4 sq,⟨_,sq _ _ g4⟩,T.Qm1⟩
  generalize upd H5 q (.lst [.ref x1,.ref x2,.ref x3,.ref x4])=H6 at hq al ⊢
  refine⟨q,O,⟨_,P'.of hq⟩,iN (K:=K) (a:=q) (xs:=[.ref x1,.ref x2,.ref x3,.ref x4]) (fun k σ G=>∃ v5,σ=[f' (.int n),f' (.ref x1),f' (.ref x2),f' (.ref x3),f' (.ref x4),v5]∧ae H6 G) ⟨_,rfl,ae.refl _⟩ ?_ ?_ ?_⟩
  .rintro k σ G _ ⟨_,rfl,sg⟩
   exact P'.of (sg _ _ hq)
  .rintro j y σ G hy ⟨v5,rfl,sg⟩
   obtain⟨x,i,dx,rfl,ix,xd,kd⟩:=al y (Rv hy)
   have ix:=Vu.same ix sg
   have xd:=rX sg xd
   dsimp only[bM]
   refine⟨_,O,x,_,_,_,_,B',O,ix,xd,xis T i,(fun _ r=>r),kd,_,O,dP O ?_⟩
   refine⟨_,O,x,i,_,O,ix,xd,fun l G1 og hl=>?_⟩
   refine⟨l,O,⟨_,P'.of hl⟩,fun D hD=>?_⟩
   refine EB hl hD (by show 12≤100;decide) fun G2 mH xy=>?_
   refine⟨D,_,O,.inl (P'.of xy),O,_,O,?_⟩
   rw[Q9,Qn6 i]
   exact iM ⟨_,O,sg.trans (og.trans mH)⟩
  .rintro σ G ⟨v5,rfl,_⟩
   exact k _
end
end Nt
section
open Nt
section
variable {K:R'}
inductive Mv (K:R') (vs:List V) (H:Hp) (Q:VK) (bF:XK):Prop
 | mk (p:_) (ns:List Int) (k:_) (_:vs=[.ref p,.int k]) (_:P' K H p (ns.map V.int)) (_:0≤k) (_:∀ c,Q (.int c) H)
theorem NW (T:Tx K mg a):Vj P w K mg base Vd 1 "_law_cell_at" ["_law_script","_law_k"] [] (Mv K):=T.QjN.U8 fun f fd F=>by
 refine F.ok PL (fun vs H Q E h=>?_) (fun ay A outer s H vs Q E hr h=>?_)
 .obtain⟨p,ns,k,rfl,_⟩:=h
  rfl
 .obtain⟨p,ns,k,rfl,hS,h0,q⟩:=h
  refine⟨_,(ao (aT (bb pc (pv 1) (bi fg O T.VW dr (af (pv 0) ai)) (aY _)) (ak (aM (aK bA (pv 0) (pv 1) (fun _ _=>O)))) aP)
   (ak (aM au))),?_⟩
  refine⟨_,O,_,O,p,_,O,.inl hS,_,_,O,O,_,O,?_⟩
  refine bg (fun c=>?_) (fun c=>?_)
  .have h1:k<ns.length:=by
    have:=RB c
    rwa [Q9] at this
   obtain⟨z,hz⟩:=Qid h0 h1
   exact⟨_,O,_,O,p,_,_,_,O,O,hS,hz,q z⟩
  .exact q 0
theorem Qn9:∀ i:Fin 12,VH ((row i.val++[B']).map V.bl) (i.val:Int)=f' (.bl B'):=by decide
theorem Oi:∀ i:Fin 12,VH ((row i.val++[B']).map V.bl) (-1)=f' (.bl B'):=by decide
theorem Lr:∀ i:Fin 12,(row i.val++[B']).length≤100:=by decide
inductive Qer (K:R') (vs:List V) (H:Hp) (Q:VK) (bF:XK):Prop
 | mk (p:F') (ns:List Int) (_:vs=[.ref p]) (_:P' K H p (ns.map V.int)) (_:ns.length≤63) (_:∀ H',Q (.bl B') H')
theorem Qoa (T:Tx K mg a) (Z:KD P w K a.LINES (fB a)) (f:F') (fd:WV) (F:gk K "law" "law" oY f fd):cE P w K mg base Vd 16 f fd ["_law_script"] (Qer K):=by
 have bU:=NW (P:=P) (w:=w) (base:=base) T
 have fH:=Mm (P:=P) (w:=w) (base:=base) T Z
 have dS:=OD (P:=P) (w:=w) (base:=base) T Z
 have fP:=Mz (P:=P) (w:=w) (base:=base) T
 refine F.ok uJ (fun vs H Q E h=>?_) (fun ay A outer s H vs Q E hr h=>?_)
 .obtain⟨p,ns,rfl,_⟩:=h
  rfl
 .obtain⟨p,ns,rfl,hS,av,kq⟩:=h
  refine⟨_,(ao (ej Wj O (rm O T.Zt (af au ai)) (aF (i:=1) uJ.nd O (by first|exact UR rfl|exact UQ O)) (ao (aV (i:=2) uJ.nd O (by first|exact UR rfl|exact UQ O) (bB fH (hr.mono (by decide)) rfl (af (pv 1) (af (bq ke (bB bU (hr.mono (by decide)) rfl (af (pv 0) (af (pv 1) ai))) (bq Fb au au)) ai))))
   (ak (aT (PW.pt (ig (j9 (uP (pv 2))) (ig (bb nG (bi fg rfl T.VW dr (af (cG (N:=["_law_one"]) (cap:=[i']) O (cy (osc:=az oY) (XN:=["_law_script","_law_which","_law_found","_law_number"]) O O (by decide +kernel)) (bV (pv 2)) (fun cl C s H fp aa=>(aF (i:=0) (show(["_law_one"]:List C').Nodup by decide +kernel) rfl (by first|exact UR rfl|exact UQ O))) (fun cl C s H fp aa=>yh (eG (pv 0))) (fun cl C s H fp aa=>(pv 0))) ai)) au (aY _)) (ig (gv (eG (aK bA (pv 2) (pv 1) (fun _ _=>O)))) (k9 (gv (eG (aK bA (pv 2) (Qg8 Qhb au) (fun _ _=>O))))))))) (ak (aM nC)) aP))))
   (ao (aV (i:=3) uJ.nd O (by first|exact UR rfl|exact UQ O) (bq ke (bB bU (hr.mono (by decide)) rfl (af (pv 0) (af au ai))) (bq Fb au au)))
   (ak (aM (ub (bB dS (hr.mono (by decide)) rfl (af (pv 3) ai)) (rB (bB fP (hr.mono (by decide)) rfl (af (pv 3) ai)))))))),?_⟩
  refine⟨12,O,by decide,by decide,zp (lo:=0) (n:=12) (fun i σ G=>∃ v1 v2,σ=[f' (.ref p),v1,v2,i']∧ae H G) ⟨i',i',rfl,ae.refl _⟩ ?_ ?_⟩
  .rintro i σ G hi ⟨v1,v2,rfl,sg⟩
   dsimp only[bM]
   simp only[Int.zero_add]
   refine⟨_,O,_,O,_,O,p,ns,_,O,sg.Vk hS,Int.natCast_nonneg i,fun c=>?_⟩
   refine⟨_,_,O,O,⟨by decide,by decide,by decide⟩,_,_,O,O,(by show(0:Int)<10 ^ 9;decide),⟨i,hi⟩,_,O,SX _ (by decide),SB _ (by decide),fun l G1 og hl=>?_⟩
   have kr:P' K G1 l _:=P'.of hl
   refine⟨_,O,_,O,dP O ?_⟩
   refine⟨_,O,l,O,⟨_,kr⟩,fun D hD=>EB hl hD (Lr ⟨i,hi⟩) fun G2 mH xy=>?_⟩
   refine⟨D,_,O,.inl (P'.of xy),O,_,O,?_⟩
   rw[Q9,Qn7 ⟨i,hi⟩]
   refine dP O ?_
   have i8:=mH.Vk kr
   refine⟨_,O,_,O,l,_,_,_,O,O,i8,Qn9 ⟨i,hi⟩,_,O,dP O ?_⟩
   refine⟨_,O,_,O,l,_,_,_,O,O,i8,Oi ⟨i,hi⟩,_,O,iM ?_⟩
   exact⟨_,_,O,sg.trans (og.trans mH)⟩
  .rintro σ G ⟨v1,v2,rfl,sg⟩
   refine⟨_,O,p,ns,12,O,sg.Vk hS,by decide,fun c=>?_⟩
   refine⟨_,_,O,O,⟨by decide,by decide,by decide⟩,_,_,O,O,(by show(0:Int)<10 ^ 9;decide),?_⟩
   refine⟨_,O,_,O,SX _ (by decide),SB _ (by decide),fun H' s'=>?_⟩
   exact⟨B',O,ei ⟨_,O,_,O,fun Bm=>kq _⟩⟩
end
end
theorem zng {K:R'}{n:Nat} (h:K.lookup p=f' ⟨.type "tuple",od,.seq #[] n,sl⟩):∀ H,U4 K H p []:=fun _=>.inr ⟨_,_,_,h,O,O,(by show 0≤S';decide),.nil⟩
theorem znh {K:R'}{n:Nat} (h:K.lookup p=f' ⟨.type "tuple",od,.seq #[.int i0 t0] n,sl⟩):∀ H,U4 K H p [.int i0]:=fun _=>.inr ⟨_,_,_,h,O,O,(by show 1≤S';decide),.cons ⟨_,O⟩ (.nil)⟩
theorem zjZ {K:R'}{n:Nat} (h:K.lookup p=f' ⟨.type "tuple",od,.seq #[.int i0 t0,.int i1 t1] n,sl⟩):∀ H,U4 K H p [.int i0,.int i1]:=fun _=>.inr ⟨_,_,_,h,O,O,(by show 2≤S';decide),.cons ⟨_,O⟩ (.cons ⟨_,O⟩ (.nil))⟩
theorem ziq {K:R'}{n:Nat}{i2:F'} (h:K.lookup p=f' ⟨.type "tuple",od,.seq #[.int i0 t0,.int i1 t1,.ref i2] n,sl⟩):∀ H,U4 K H p [.int i0,.int i1,.ref i2]:=fun _=>.inr ⟨_,_,_,h,O,O,(by show 3≤S';decide),.cons ⟨_,O⟩ (.cons ⟨_,O⟩ (.cons rfl (.nil)))⟩
theorem kd4_mk {pr:Vv}{K:R'}{ep:Nat}{k0:C'}{k1:C'}{k2:C'}{k3:C'} (h:K.lookup p=f' ⟨.type "dict",i',.dict #[⟨ZU w (UT k0),.str k0 t0,.ref p0⟩,⟨ZU w (UT k1),.str k1 t1,.ref p1⟩,⟨ZU w (UT k2),.str k2 t2,.ref p2⟩,⟨ZU w (UT k3),.str k3 t3,.ref p3⟩] ep,#[]⟩) (hs:(p == Wm)=K') (hn:[(UT k0:Key),(UT k1:Key),(UT k2:Key),(UT k3:Key)].Nodup):KD pr w K p [(UT k0,.ref p0),(UT k1,.ref p1),(UT k2,.ref p2),(UT k3,.ref p3)]:=by
 refine⟨hs,[(UT k0,.ref p0),(UT k1,.ref p1),(UT k2,.ref p2),(UT k3,.ref p3)],.cons ⟨O,O⟩ (.cons ⟨O,O⟩ (.cons ⟨O,O⟩ (.cons ⟨O,O⟩ (.nil)))),_,h,_,_,⟨O,O,O⟩,O,fun e he=>?_,.cons ki O (.cons ki O (.cons ki O (.cons ki O (.nil)))),hn⟩
 simp only[List.mem_toArray,RY,RJ,WA] at he
 rcases he with rfl|rfl|rfl|rfl<;>exact⟨_,ki,O⟩
theorem all_mk {l:QbB}{K:R'}{h:Vb}{fa f:F'}{TS:List F'}{q0 q1 q2 q3 q4 q5 q6 q7 q8 q9 HC Iw Gk HX JE GU Jp Ja JL w9 IB AM JR Bd HK AZ GI BI:F'}{oc:L'}{an:Option F'}{eQ:Array (Option L')}{kV cf pm ay ct:L'} (X:K.In h) (G:h.Ns V1 mg) (Il:mg "law"=f' (.ref fa)) (gl0:Y5 K V1 "LINES"=f' (f' (.ref w9))) (kz0:KD l.prog w K w9 [(UT "point",.ref AM),(UT "arrow",.ref Bd),(UT "same",.ref AZ),(UT "most",.ref BI)]) (T:Tx K mg ⟨q0,q1,q2,q3,q4,q5,q6,q7,q8,q9,HC,Iw,Gk,HX,JE,GU,Jp,Ja,JL,w9,IB,AM,JR,Bd,HK,AZ,GI,BI⟩) (al:Y5 K V1 "law"=f' (f' (.ref f))) (ll:K.lookup f=f' ⟨oc,od,.func (X8 "law" "law" oY kV cf pm an ay ct),eQ⟩) (cl:XM K ay "law"=B') (hnd:([]:List F').Nodup) :
  ∃ (fd:WV) (ts:List Tab) (sp:Sp),(∀ (s:UM) (u:L'),Ze s fd ⟨[u],[]⟩ [("_law_script",u)])∧(ts.map (·.1)).Nodup∧(∀ t∈ts,t.1∈TS∧(∃ c,Qaj K c t.1=B')∧K.lookup t.1=i') ∧
    (∀ (H:Hp) (a:F') (ns:List Int),ns.length≤63→rl ts H→P' K H a (ns.map V.int)→sp [.ref a] H (fun v _=>v=.bl B') fun _ _ _=>False) ∧
    ∀ base:Vb,K.In base→base.Ns V1 mg→cE l.prog w K mg base Vd 16 fa fd ["_law_script"] sp:=by
 have e:=Il.symm.trans (ZL X G al)
 cases e
 refine⟨_,[],Qer K,fun s v=>.of_eq O,hnd,?_,?_,fun base _ _=>Qoa T kz0 _ _ (py (st:=oY) ll cl)⟩
 .intro t ht
  cases ht
 .exact fun H p ns hl hO hS=>⟨p,ns,O,hS,hl,fun _=>O⟩
theorem walk {l:QbB}{q:Vv}{eB:List C'}{XP:(C'→Option L')→Vb→Prop}{YP:VA→Vb→Prop}{d:DefRec}{K:Params→R'}{TS:List F'} (hn:l.most=f' 63) (lO:d.params.defaults=[])
  (hY:∀ (w:VA) (h:Vb),YP w h→(K w.params).In h∧∀ P∈TS,h.get? P=f' (QcD #[]))
  (F:∀ (w:VA) (mg:C'→Option L') (fa:F') (h:Vb),(K w.params).In h→h.Ns V1 mg→mg d.name=f' (.ref fa)→∃ (fd:WV) (ts:List Tab) (sp:Sp),(∀ (s:UM) (u:L'),Ze s fd ⟨[u],[]⟩ [("_law_script",u)])∧(ts.map (·.1)).Nodup∧(∀ t∈ts,t.1∈TS∧(∃ c,Qaj (K w.params) c t.1=B')∧(K w.params).lookup t.1=i') ∧
    (∀ (H:Hp) (a:F') (ns:List Int),ns.length≤63→rl ts H→P' (K w.params) H a (ns.map V.int)→sp [.ref a] H (fun v _=>v=.bl B') fun _ _ _=>False) ∧
    ∀ base:Vb,(K w.params).In base→base.Ns V1 mg→cE l.prog w (K w.params) mg base Vd 16 fa fd ["_law_script"] sp) :
  PySem.W.WalkO q eB XP YP l.row.toRowW d [] (fun f vs=>QcR f vs):=
 L2.znN (n:=63) (k:=16) (x:="_law_script") hn (by decide) lO ⟨by decide,by decide⟩ hY F
end K07
namespace PySem.W.Fast
def tw6580236485648500431:=0
def tw2979225338422815498:=0
def tw14006759099445657787:=0
def tw8304889347245434663:=0
def tw18375932414857868552:=0
def tw15389366331973953862:=0
def tw2504450361627085764:=0
def tw13815391173166739917:=0
def tw8523012545523576399:=0
def tw266332566654083328:=0
def tw293025124925610258:=0
def tw11329609751578664270:=0
def tw8523188693984520048:=0
def tw8494895360325914386:=0
def tw12039578918030934449:=0
def tw10840057117203497403:=0
def tw6208099902938348282:=0
def tw7646985959406921702:=0
def tw49555616149114651:=0
def tw18302928148154286218:=0
def tw16504261636479920036:=0
def tw2405567122359418640:=0
def tw7099659863445342032:=0
def tw2835147223183070843:=0
def tw3807513198548435576:=0
def tw17035434965684344512:=0
def tw17763328604488211471:=0
def tw14847784270014469989:=0
def tw305015307671400902:=0
def tw4570083660188330264:=0
def tw5265823200245539399:=0
def tw10903612413911037777:=0
def tw4623829814710701490:=0
def tw11029379074010278858:=0
def tw1222953919414489531:=0
def tw8015733703483563324:=0
def tw5350027066607570798:=0
def tw4435881620838305124:=0
def tw5034807172203359546:=0
def tw8813893256791396689:=0
def tw10022226190065359177:=0
def tw12983560209040038240:=0
def tw2862139708076659851:=0
def tw5584518480563883690:=0
def tw11400949606479176186:=0
def tw12492522120786578826:=0
def tw4803480597399265078:=0
def tw17776429671601400916:=0
def tw8822165123636323326:=0
def tw7123090330526420945:=0
def tw2286900229953180324:=0
def tw12692624988955172146:=0
def tw11945847684767572283:=0
def tw3358421319923699433:=0
def tw953603262512852432:=0
def tw3529892241733411561:=0
def tw14575148963051807750:=0
def tw17344225940267747989:=0
def tw1831236905033049654:=0
def tw12905935864331166450:=0
def tw16096303379081133686:=0
def tw2522607338413745774:=0
def tw15222416294481345588:=0
def tw11251291769797299852:=0
def tw7755775929766922057:=0
def tw12926168214170249826:=0
def tw17913033751722056011:=0
def tw13828574348822263244:=0
def tw2955078286047703329:=0
def tw3561446068174036942:=0
def tw16509966008465790978:=0
def tw14520769201080787028:=0
def tw11809893699875058166:=0
def tw16595289636497161583:=0
def tw7352364037818128832:=0
def tw14598123685973867738:=0
def tw17469489262029258364:=0
def tw553172550759207584:=0
def tw2560716268235368734:=0
def tw5995304440300290811:=0
def tw3155997602933245831:=0
def tw6341438406477186261:=0
def tw12936255279585751203:=0
def tw11956675438734692413:=0
def tw16153640111755435033:=0
def tw16528593888427023979:=0
def tw17920781515507582400:=0
def tw9984150474772274816:=0
def tw4711592649879999874:=0
def tw7802570896914439035:=0
def tw3382891795829439618:=0
def tw18188717325062224495:=0
def tw8393624496297419152:=0
def tw1451797008309122800:=0
def tw12559731875932825064:=0
def tw14936466641778442238:=0
def tw17268783974961879711:=0
def tw17873530140241632972:=0
def tw16551462287566366924:=0
def tw7576857879945876889:=0
def tw13126975233560457017:=0
def tw3782694042663034751:=0
def tw2432957104844517515:=0
def tw17235120616782820601:=0
def tw16668128813979519923:=0
def tw14337310155197629877:=0
def tw14100388927168161461:=0
def tw8794149917101305471:=0
def tw10896647530615148569:=0
def tw392116744370486591:=0
def tw18249066914450145998:=0
def tw13795238733947751411:=0
def tw11426930394816904535:=0
def tw3553377737700331970:=0
def tw14209077872788970649:=0
def tw18193218108814719200:=0
def tw16220741514328648113:=0
def tw1615827235892753945:=0
def tw18164010442054306873:=0
def tw2079739805443774763:=0
def tw14196473446890792954:=0
def tw5206938764545871488:=0
def tw14946063967674948946:=0
def tw6082767593994788313:=0
def tw376157468578158383:=0
def tw5164496819132117716:=0
def tw1829229144836221646:=0
def tw8131280104053020765:=0
def tw17750145279558790235:=0
def tw5097328820630352681:=0
def tw14683103720209523842:=0
def tw16435481244442508705:=0
def tw15214269317843717778:=0
def tw11061645513953385738:=0
def tw3062189609197709663:=0
def tw13599686622712956469:=0
def tw6132513133142386441:=0
def tw356205952366752468:=0
def tw5927440183003047879:=0
def tw15427434384910784100:=0
def tw16053829473590396889:=0
def tw13416858079684457867:=0
def tw9754942440186039824:=0
def tw4084012829146721278:=0
def tw10303124281657749540:=0
def tw12067460044448775152:=0
def tw4392167507684973295:=0
def tw6213681774519815569:=0
def tw15114142247371832106:=0
def tw3488565889115502842:=0
def tw9591359649091003978:=0
def tw3936668687263350509:=0
def tw16219579609272233162:=0
def tw15721923468246397627:=0
def tw14823856475570438399:=0
def tw10140930905935928109:=0
def tw16802333954612438774:=0
def tw3857525346480426687:=0
def tw15160174934806601439:=0
def tw12670750174981846458:=0
def tw14237071366730507478:=0
def tw983678938643997019:=0
def tw17653473514756424381:=0
def tw13202769384626266908:=0
def tw11818397037954667758:=0
def tw10186064357179336563:=0
def tw16701552932513679787:=0
def tw14312395702975296785:=0
def tw9157226458052266659:=0
def tw4616944246717344031:=0
def tw12063510175634150180:=0
def tw12485378541947148877:=0
def tw3686511431454588616:=0
def tw6893677394496579185:=0
def tw14272087363193945350:=0
def tw9941922759188276924:=0
def tw14000997108003737581:=0
def tw15373511366369696345:=0
def tw6019784296747637508:=0
def tw8489234146652278864:=0
def tw13525973105346058591:=0
def tw9834601794431738295:=0
def tw4750690412958230464:=0
def tw14916054918637280359:=0
def tw9998888614289195592:=0
def tw12735085356963286192:=0
def tw13856833137609121938:=0
def tw5905665712439315633:=0
def tw10077163396635942717:=0
def tw6588239258766357669:=0
def tw18211364146403106489:=0
def tw1618659046570713720:=0
def tw10441156413656507938:=0
def tw10280784287581785256:=0
def tw17750585897141269508:=0
def tw14107065512607056300:=0
def tw7506578851610907860:=0
def tw8787566498632203377:=0
def tw12912660477071444190:=0
def tw10045682299272193706:=0
def tw9701438512910873863:=0
def tw6757753430040639667:=0
def tw2656908587744786504:=0
def tw18303003452748802653:=0
def tw8378833185157625773:=0
def tw1539041428245278426:=0
def tw10133714736073820808:=0
def tw5355273971629796127:=0
def tw10420196161001866647:=0
def tw15318753570866092824:=0
def tw17576351470685809165:=0
def tw7508064915679290214:=0
def tw9542279104122038925:=0
def tw1330830957799251274:=0
def tw8759878065390308268:=0
def tw3429722232784276034:=0
def tw12976099095916228:=0
def tw9586518081550917929:=0
def tw12914403320674567111:=0
def tw4218150143192174894:=0
def tw9266002732783770559:=0
def tw678234299444320877:=0
def tw2957143222946831601:=0
def tw15167742890457196996:=0
def tw11382627868443982622:=0
def tw15306626644519895440:=0
def tw15191963085339269525:=0
def tw69520532274759914:=0
def tw11440976094802128718:=0
def tw2869644710623471442:=0
def tw14458341573406466876:=0
def tw498124961731280071:=0
def tw7144661413278844368:=0
def tw1641358861890966656:=0
def tw13426903737452728768:=0
def tw6013743758794165157:=0
def tw6772928931165457739:=0
def tw8729410829214145695:=0
def tw4549084571192109970:=0
def tw8249674589838958558:=0
def tw5345616958974857845:=0
def tw14947088144301302245:=0
def tw11674840209972293081:=0
def tw3445125932999572742:=0
def tw1623245979138456750:=0
def tw14473782771934691457:=0
def tw12523710567055101140:=0
def tw5081078569283862256:=0
def tw11222521240081166120:=0
def tw8669286331139786862:=0
def tw4811984731983978794:=0
def tw16702636889160886746:=0
def tw17707762649415922733:=0
def tw11465912770936540803:=0
def tw17512382449849457548:=0
def tw8439325367523732536:=0
def tw14781606667513394009:=0
def tw3923714545198764257:=0
def tw13574655281783757366:=0
def tw10501949549270786383:=0
def tw9592052421109995844:=0
def tw4106069267424152984:=0
def tw16347014477181170926:=0
def tw5841763398215355428:=0
def tw14862409152732216192:=0
def tw8157057403039512890:=0
def tw4789414499137746999:=0
def tw14314508280579994825:=0
def tw369925027303936775:=0
def tw1574321728836680880:=0
def tw7980876689723363519:=0
def tw16550349384334198327:=0
def tw5650974365345415412:=0
def tw9288208698722195029:=0
def tw10617973194809484958:=0
def tw13262155013692190254:=0
def tw9697604974568756475:=0
def tw7444980699339812345:=0
def tw7226276256724462610:=0
def tw14094258314186467290:=0
def tw10304982922513781423:=0
def tw8015634202828751879:=0
def tw5253236774985849099:=0
def tw6550446366915732031:=0
def tw11935803758521136558:=0
def tw4748379450590342796:=0
def tw13881068555056264154:=0
def tw11119671893471743279:=0
def tw9514801023545002882:=0
def tw1159570092747773783:=0
def tw13020525955045096242:=0
def tw8415017057868234569:=0
def tw4063669682146811899:=0
def tw11871757320368873314:=0
def tw17829072453955702458:=0
def tw3106236780822753992:=0
def tw17609536755899476707:=0
def tw1681601337137861418:=0
def tw5799161119024433217:=0
def tw11991503132736200074:=0
def tw2120060289692522549:=0
def tw15598330817358513374:=0
def tw14449805730318402389:=0
def tw1721323251482538009:=0
def tw1299411252658254605:=0
def tw746804367282153728:=0
def tw759614089618329068:=0
def tw3296605143590578689:=0
def tw9058214860931485177:=0
def tw2144422594068155538:=0
def tw17642930346138433991:=0
def tw7033306034707819352:=0
def tw7033699438925656868:=0
def tw4055010489970985967:=0
def tw17241293511840977314:=0
def tw2955820000134293121:=0
def tw3170864058248539530:=0
def tw5193634657695549015:=0
def tw1655721359994190219:=0
def tw11930363295255488775:=0
def tw4734855950969632747:=0
def tw1642992148567907005:=0
def tw16677799876856613476:=0
def tw1178303577339355804:=0
def tw12929191257418235862:=0
def tw5930053455008371477:=0
def tw7544621164888095174:=0
def tw16113043659590059622:=0
def tw15735412186580239066:=0
def tw1421430058773341441:=0
def tw10796691367830852853:=0
def tw8460098933031170748:=0
def tw5875167856288924884:=0
def tw13226206690167295137:=0
def tw14773663609162710758:=0
def tw8479459750025204455:=0
def tw8660874296466305342:=0
def tw8656302570130258305:=0
def tw15144198395373976354:=0
def tw9066969501726136979:=0
def tw17806777793476926570:=0
def tw16399299596736392105:=0
def tw5817909507788939525:=0
end PySem.W.Fast
open PySem PySem.W PyProof.Rows
set_option maxRecDepth 100000 in
set_option maxHeartbeats 0 in
theorem PySem.Challenge.cw_layerdraw_k07_each_refusal_by_itself_holds : PySem.Challenge.rw_layerdraw_k07_each_refusal_by_itself.Holds := by
 w_on;o_law;k_head;(case hw=>w_witness2)
 k_fill
 refine K07.walk (l:=PySem.Challenge.rw_layerdraw_k07_each_refusal_by_itself) (TS:=[]) rfl rfl (fun w h Y=>⟨PySem.W.km_in_of Y,fun _ hP=>nomatch hP⟩) ?F
 case F=>
  intro w mg fa h KX G ql
  refine' K07.all_mk KX G ql ?gl0 ?kz0 ?T ?al ?ll ?cl ?hnd
  case gl0=>k_is
  case kz0=>(refine' K07.kd4_mk ?u0 ?u2 ?u3;(case u0=>k_is);(case u2=>first|k_is|kit_is|kernel_rfl|rfl);(case u3=>decide))
  case T=>
   constructor
   any_goals dsimp only
   any_goals first|k_is|kit_is|(refine' PySem.W.mg_of KX G ?_;k_is)|(refine' PySem.W.mg_none_of KX G ?_;k_is)|(refine' L2.int_mk KX G ?_;any_goals first|k_is|kit_is|kernel_rfl|rfl)|(refine' L2.str_mk KX G ?_;any_goals first|k_is|kit_is|kernel_rfl|rfl)|(unfold L2.zbj;k_is)|(refine' K07.zng ?u0;(case u0=>k_is))|(refine' K07.znh ?u0;(case u0=>k_is))|(refine' K07.zjZ ?u0;(case u0=>k_is))|(refine' K07.ziq ?u0;(case u0=>k_is))|((first|refine' L2.ziP ?u0 ?u1 ?u2 ?u3 ?u4 ?u5 .nil ?u7|refine' L2.ziP ?u0 ?u1 ?u2 ?u3 ?u4 ?u5 L2.vals1i ?u7|refine' L2.ziP ?u0 ?u1 ?u2 ?u3 ?u4 ?u5 L2.vals2i ?u7);(case u0=>k_is);(case u1=>first|k_is|kit_is|kernel_rfl|rfl);(case u2=>first|k_is|kit_is|kernel_rfl|rfl);(case u3=>first|k_is|kit_is|kernel_rfl|rfl);(case u4=>first|k_is|kit_is|kernel_rfl|rfl);(case u5=>first|k_is|kit_is|kernel_rfl|rfl);(case u7=>intro td s us KI hl;first|(have h9:us.length=2:=(by simpa using hl);clear hl;revert us;exact L2.len2 fun _ _=>PySem.W.binds_K KI rfl td rfl rfl rfl)|(have h9:us.length=3:=(by simpa using hl);clear hl;revert us;exact L2.len3 fun _ _ _=>PySem.W.binds_K KI rfl td rfl rfl rfl)|(have h9:us.length=4:=(by simpa using hl);clear hl;revert us;exact L2.len4 fun _ _ _ _=>PySem.W.binds_K KI rfl td rfl rfl rfl)|(have h9:us.length=5:=(by simpa using hl);clear hl;revert us;exact L2.len5 fun _ _ _ _ _=>PySem.W.binds_K KI rfl td rfl rfl rfl)))|((first|refine' L2.def_mk KX G ?_ ?_ ?_ ?_ ?_|refine' L2.met_mk ?_ ?_ ?_ ?_ ?_ ?_|refine' L2.ini_mk KX G ?_ ?_ ?_ ?_ ?_ ?_ ?_ ?_|refine' L2.zp0 KX G ?_ ?_ ?_ ?_ ?_ ?_ ?_ ?_);any_goals (first|k_is|kit_is|kernel_rfl|exact L2.len1 fun _=>rfl|exact L2.len2 fun _ _=>rfl|exact L2.len3 fun _ _ _=>rfl|exact L2.len4 fun _ _ _ _=>rfl|exact L2.len5 fun _ _ _ _ _=>rfl);done)|(refine' L2.lam_mk KX G ?u0 ?u1 ?u2 ?u3 ?u4 ?u5 ?u6;(case u0=>first|k_is|kit_is|kernel_rfl|rfl);(case u1=>first|k_is|kit_is|kernel_rfl|rfl);(case u2=>rfl);(case u3=>first|k_is|kit_is|kernel_rfl|rfl);(case u4=>rfl);(case u5=>first|k_is|kit_is|kernel_rfl|rfl);(case u6=>first|k_is|kit_is|kernel_rfl|rfl))|(constructor <;> first|k_is|kit_is|kernel_rfl|rfl)
   any_goals first|(refine' K07.zng ?u0;(case u0=>k_is))|(refine' K07.znh ?u0;(case u0=>k_is))|(refine' K07.zjZ ?u0;(case u0=>k_is))|(refine' K07.ziq ?u0;(case u0=>k_is))
  any_goals first|k_is|kit_is|exact List.mem_cons_self|(simp;done)|decide
