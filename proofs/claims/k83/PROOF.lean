import PyProof.Rows.All
import Wide.All
import OpenK.AllK
import Wide.FinOn
import Lean
import PyProof.EqAt
import PyProof.EqKinds
import PyProof.TupleCall
import PyProof.NeKinds
import PySem.Challenge.RW_layerdraw_k83_lines_that_are_none
set_option Elab.async false
set_option linter.all false
set_option maxRecDepth 100000
set_option maxHeartbeats 16000000
set_option genInjectivity false
set_option genSizeOf false
noncomputable section
theorem O.{u}{α:Sort u}{a:α}:a=a:=rfl
section
open PySem PySem.Spec PyProof.Rows
def oG:=@wpAny_bind
def Sc:=@Heap.get?_push_of_some
def Sd:=@wpAny_pure
def Se:=@Heap.lt_size
def Sf:=@Heap.get?_push_size
def Sg:=@Nat.le_refl
def Sh:=@Nat.ne_of_lt
def Si:=@List.size_toArray
def Sj:=@Nat.lt_of_lt_of_le
def Sk:=@Bool.false_ne_true
def Sl:=@List.mem_append_right
def Sm:=@Heap.get?_update_other
def Sn:=@wpAny_holding
def So:=@Nat.lt_irrefl
def Sq:=@Heap.get?_update_self
def Sr:=@wpAny_field
def Ss:=@List.length_map
def Su:=@Heap.size_push
def Sv:=@Bool.and_eq_true
def Sw:=@List.mem_cons_of_mem
def Sx:=@wpAny_callSpecial?_slot
def Sy:=@Nat.le_add_right
def Sz:=@List.length_cons
def SA:=@wpAny_seqItems
def SC:=@Bool.false_eq_true
def SD:=@List.mem_append_left
def SE:=@wpAny_mono
def SG:=@List.not_mem_nil
def SH:=@Nat.le_succ
def SI:=@List.getElem?_eq_getElem
def SJ:=@List.mem_cons_self
def SK:=@wpAny_Call_Name_kw
def SL:=@wpAny_call_entry
def SM:=@Nat.lt_succ_of_lt
def SN:=@Nat.le_trans
def SO:=@wpAny_truthy_bool
def SQ:=@wpAny_attempt
def SR:=@List.getD_eq_getElem?_getD
def SS:=@List.mem_cons
def SU:=@wpAny_tryCatch
def SV:=@wpAny_updateSeq
def SW:=@wpAny_isInstance
def SX:=@Nat.ne_of_gt
def SY:=@Nat.lt_succ_self
def SZ:=@wpAny_setField
def S0:=@decide_eq_false
def S1:=@Nat.le_of_lt
def S6:=@Nat.lt_of_le_of_lt
def S7:=@List.all_eq_true
def S8:=@sizeLine_eq
def S9:=@List.map_cons
def Ta:=@wpAny_letGo
def Tb:=@List.mem_of_getElem?
def Tc:=@Int.toNat_natCast
def Td:=@List.getElem?_map
def Te:=@wpAny_loadPart_at
def Tf:=@List.lookup_cons
def Tg:=@List.length_append
def Th:=@Nat.zero_le
def Ti:=@wpAny_rule
def Tj:=@wpAny_pyIter_list
def Tl:=@wpAny_call
def Tn:=@wpAny_passesOwn
def To:=@wpAny_newObj_type
def Tp:=@wpAny_typeOf
def Tq:=@List.replicate_succ
def Tr:=@List.any_cons
def Ts:=@Bool.eq_iff_iff
def Tu:=@List.find?_cons
def Tv:=@List.forIn_cons
def Tw:=@List.getElem?_set_self
def Tz:=@wpAny_nextOf_list_item
def TB:=@List.getElem?_set_ne
def TC:=@Option.bind_some
def TD:=@wpAny_standAt
def TF:=@List.filterMap_cons
def TH:=@Nat.le_of_eq
def TK:=@wpAny_setField_rec
def TL:=@List.flatten_cons
def TM:=@List.range_succ_eq_map
def TN:=@Array.getElem?_eq_none
def TQ:=@Int.le_refl
def TR:=@List.all_cons
def TU:=@List.getElem?_eq_none
def TV:=@Array.getElem?_setIfInBounds_ne
def TW:=@wpAny_execs_nil
def TX:=@Option.map_some
def TY:=@Nat.lt_trans
def TZ:=@wpAny_typeNameOfWhole_itemiter
def T0:=@Heap.get?_push_cases
def T2:=@wpAny_typeNameOfWhole_keyiter
def T3:=@Array.length_toList
def T4:=@wpAny_isSubtype_exc
def T5:=@List.getElem_of_mem
def T6:=@wpAny_loadPart
def T7:=@decide_eq_true
def T8:=@List.nodup_nil
def T9:=@List.forIn_nil
def Ua:=@wpAny_fieldsOf
def Ub:=@wpAny_of_eq
def Uc:=@Int.fdiv_eq_ediv_of_nonneg
def Ud:=@wpAny_FormattedValue_plain
def Ue:=@Option.isSome_map
def Uf:=@wpAny_Call_method
def Ug:=@wpAny_check_type_call_sub
def Uh:=@wpAny_typeNameOf_itemiter
def Ui:=@Array.getElem?_eq_getElem
def Uj:=@List.length_take
def Uk:=@wpAny_comprehension_free
def Ul:=@wpAny_typeNameOf_keyiter
def Um:=@wpAny_pyIter_zip
def Uo:=@List.take_length
def Up:=@Nat.lt_or_ge
def Uq:=@wpAny_pyNext_range_item
def Ur:=@wpAny_specialOf
def Us:=@List.of_mem_zip
def Ut:=@List.take_of_length_le
def Uu:=@wpAny_pyNext_list_item
def Uv:=@wpAny_pyIter_rangeiter
def Uw:=@wpAny_pyNext_dict_item
def Ux:=@wpAny_isTrue_Compare1
def Uy:=@wpAny_pyIter_listiter
def Uz:=@Bool.and_false
def UA:=@Array.getElem?_toList
def UB:=@wpAny_pyNext_zip_item
def UC:=@List.getElem?_toArray
def UD:=@wpAny_notOrdered_dict
def UE:=@wpAny_newFunctionEnv
def UF:=@wpAny_check_new_subT
def UG:=@wpAny_handleBy_cons
def UH:=@wpAny_dictSet_pairs
def UI:=@wpAny_Constant_int
def UJ:=@wpAny_pyIter_range
def UK:=@List.contains_cons
def UL:=@Bool.or_true
def UM:=@List.forIn_toArray
def UN:=@wpAny_assign_Name
def UO:=@Heap.Ns1.of_empty
def UP:=@wpAny_dictEntries
def UQ:=@wpAny_pyIter_dict
def UR:=@Nat.lt_of_succ_lt
def US:=@List.take_add_one
def UT:=@wpAny_pyIter_enum
def UU:=@wpAny_Name
end
open Array renaming getElem?_eq_some_iff->Qdh,length_toList->Qdt,getElem?_toList->Qf5,toList->QgZ
open Bool renaming true->D',false->M',and_eq_true->XB,not_eq_true'->QaB,and_eq_false_iff->Qbc,not_eq_false'->Qb1,or_true->Qco,true_and->QdV,false_or->QdW,noConfusion->QgA,or_eq_true->QgJ,and_false->QgR,or_false->QgX,not_true->QgY,true_or->Qg9
open Char renaming toNat->Qcr
open False renaming elim->WB
open ForInStep renaming yield->Qb3
open Int renaming toNat_natCast->WA,emod_lt_of_pos->Qav,emod_nonneg->QaF,le_refl->Qbj
open Int.ofNat renaming inj->QdL
open List renaming length_map->U1,mem_singleton->Vn,map_append->Vr,replicate->VA,getElem?_eq_some_iff->VI,length_take->VJ,range->VX,mem_cons->V5,mem_of_getElem?->V9,mem_append->Wb,take_length->We,getElem?_map->WJ,length_append->WM,length_cons->WV,filter_cons->W2,mem_map->W4,getElem?_eq_getElem->Xd,mem_cons_self->Xf,mem_cons_of_mem->Xp,append_nil->Xq,take_of_length_le->XM,length_filter_le->XO,getD_eq_getElem?_getD->X8,mem_iff_getElem?->YN,foldl_append->YR,nodup_cons->YT,map_set->YX,filter_append->Zj,not_mem_nil->Zk,length_set->Zn,map_cons->Zp,length_range->ZV,length_drop->ZW,mem_filter->ZX,take_zero->ZZ,lookup->Z3,mem_append_right->Qap,mem_append_left->Qaq,append_assoc->QaA,filter_nil->QaE,mem_range->Qbg,all_map->Qbh,foldl->Qbk,getElem?_zip_eq_some->QbS,lookup_cons->Qb7,any_eq_true->Qb8,map_nil->Qcm,map_map->Qcn,length_eq_zero_iff->Qdl,flatMap_append->Qdu,mem_flatMap->QdC,getElem_mem->QdD,all_eq_true->QdE,range_succ->QdM,length_zip->QdN,map_take->QdT,map_drop->QdU,map->Qed,idxOf_lt_length_of_mem->QfE,nodup_iff_pairwise_ne->QfJ,getElem?_append_right->QfK,getElem?_eq_none_iff->QfP,getElem?_append_left->QfQ,head?_eq_getElem?->Qf4,length_singleton->Qf8,length_replicate->Qf9,replicate_succ->Qgh,length_take_le->Qgi,length_pos_iff->Qgj,mem_filterMap->Qgr,nodup_append->Qgw,nil_append->QgG,length_nil->QgH,foldl_cons->QgI,drop_zero->QgQ,sum_cons->QgW,take->QhF
open List.Pairwise renaming nil->Qmv
open Nat renaming le_refl->Xh,min_eq_left->Qbf,toDigits->Qbi,min_le_right->Qb9,not_lt->Qcs,pow_le_pow_right->Qds,succ_le_succ->QdJ,min_eq_right->QdK,zero_add->Qd3,lt_or_ge->Qd4,toDigits_of_lt_base->Qf3,eq_zero_or_pos->Qgv,le_succ_of_le->Qgz,digitChar->Qg8,mul_comm->Qhl,le_trans->Qhm,add_comm->Qhn,zero_le->Qhv,log2_lt->Qhw,le_zero->Qhx
open Ne renaming symm->U5
open Option renaming some->i',none->B',isSome_iff_exists->Yt,map_eq_some_iff->Qan,bind_eq_some_iff->QfO,getD_none->Qgq
open Option.some renaming inj->VQ,injEq->QmV
open Or renaming inr->UX,inl->UY
open PyProof.Rows renaming seqObj->W5,envOfC->X2,AllBare->Yz,Keyed->Y4,callWith_type1->Zh,slot_tuple_getitem->ZU,IsTup->Qaf,IntsAre->Qbq,subscriptTail->Qd6,Constant_none->Qd7,Subscript_->Qeg,callWith_kw->Qft,mulOk_of->Qfy,kws_cons->Qfz,kws_nil->QfC,subscriptTail_builtinR->Qgu,entry_tuple_getitem->QgP,args_tuple_getitem->QgV,get?_update_seq->Qhu,slicePart_none->QhE,tDigits_len_ge->QmN,str_of_list->QmO,split_pos->QmP,len_join_cons->QmQ,digits10_le->QmR,callWith_builtin1->QmS
open PySem renaming Str->C',Addr->F',Value->K',wpAny->L',model->UV,Shared->UW,sizeLine->U2,Stmt->Vc,Obj->Vd,eval->Vg,Expr->Vh,starEach->Vk,sizeLine_eq->Vm,Heap->Vo,rawInt->Vw,Program->Vy,pyNext->VB,World->VL,cLine->VN,wpAny_bind->VO,backTo->VP,argBest->VY,Pos->VZ,Around->V2,mainGlobals->V6,Env->Wh,codeAny->Wp,Tok->Wq,wpAny_pure->Ww,field->WC,bootBuiltins->WK,sysModules->WO,compareOp->WR,holding->WX,Scope->WY,Sem->W6,plainId_quiet->Xg,keywordEach->Xr,backToKw->Xs,IsPair->Xt,NameKind->XD,FuncData->XE,Builtin->XF,codeAny_builtin->XS,assignEach->XZ,binaryOp->X1,Flow->X3,typeLookup->Yc,getItem->Yd,stored->Ye,assign->Yf,isSubtype_stop->Yv,updateSeq->Yw,seqItems?->Yx,ZipApart->Yy,IsPart->YA,IsZip->YB,mem_of_lookup->YO,attributeBase->YV,call_meets->YY,intItems->Y0,valueAt->Y1,numAt->Y2,atKey->Y3,isInstance->Zt,standAt->Zu,bindL->Zv,bindC->Zw,behindInMarks->Z1,codeAny_mono->Z2,sliceBounds->Z4,IsRangeIter->Z5,builtinsNs->Z6,tupleKind->Z7,swapsWith->Z8,getMethod->Z9,bindArgs->Z',callerA->Qaa,Keyword->Qab,BindsTo->Qac,Paired->Qad,Walks->Qae,codeAny_call_builtin->Qar,tupleKind_room_in1->Qaz,call_meetsIn->QaH,getAttr?->QaK,isTrue->QaL,typeIs_str->Qbl,seqIndex?->Qbm,callWith->Qbn,getAttr->Qbo,ItemsOf->Qbp,slot_listiter_next->Qb4,getattributeRaised->Qb5,wpAny_newObj_type->Qca,letOwnedTupleGo->Qch,am_miss_of_fast->Qci,firstArgMember->Qck,callType_codes->Qcl,ExceptHandler->Qcp,wpAny_typeOf->Qcq,subscripted->Qct,excClassObj->Qcu,noteFrame->Qcv,getAttrBy->Qcw,setField->Qcx,entryFor->Qcy,Operator->Qcz,GenState->QcA,setItem->QcB,sub_AttributeError->QdF,foldedSetIterable->QdO,Within->QdX,recursionLimit->Qd0,call->Qd5,seqIndex_neg->Qd8,wpAny_field->Qeb,seqIndex_of->Qec,typeIs_int->Qee,getAttrBy?->Qef,setFlight->Qeh,cellsFrom->Qei,PassesOwn->Qek,Arguments->Qel,plainObj_wpAny_Assign_Attribute->QfF,codeAny_call_builtin_code->Qga,wpAny_callSpecial?_slot->Qgk,codeAny_call_builtin_at->Qgl,codeAny_handlers_test->Qgx,unbindBehindTheSuite->QgB,codeAny_exc_new_subT->QgC,entry_listiter_next->QgK,args_listiter_next->QgS,wpAny_sequenceKey->Qg0,slot_list_getitem->Qg1,wpAny_madeBy_exc->Qha,wpAny_lookBehind->Qhb,wpAny_getItem_of->Qhc,wpAny_execs_cons->Qhd,wpAny_call_entry->Qhe,pastItsLine_dict->Qhf,kt_code_dict_new->Qhg,entryFor_of_tree->Qhh,callGetattribute->Qhi,wpAny_dictEpoch->Qho,getAttrByItsOwn->Qhp,codeAny_of_tree->Qhq,wpAny_notIn_of->Qhy,fitsIndex_both->Qhz,entry_typeCall->QhA,entryFor_alias->QhB,boundAndCalled->QhC
open PySem.Around renaming under_plainId->X',under->QdS,frames_deeper->Qf2
open PySem.Builtin.Builtins renaming bindParams->QbL
open PySem.Builtin.Dict renaming updateFrom->QbQ,selfAndRest->Qfs,pairItems->Qfv
open PySem.Builtin.Dict_items renaming ownsTuple->Qfm
open PySem.Builtin.List renaming listExtendWith->Zg,listTooLong->QbO,listSameRef->QbP,listItems->QbT,listFitsIndex->Qdd,listUpdate->Qfu,listLengthHint->QmM
open PySem.Builtin.Range renaming rangeFitsLong->Qfo,rangeSize->Qfr,small->QfB
open PySem.Builtin.Slice renaming slicePlaces->QbM,sliceAdjust->Qde,sliceApplied->Qfq,slicePartIndex->Qmt,sliceFields->Qmu
open PySem.Builtin.SmallTypes renaming nextOf->Ys,ownedTupleIsFree->Qam
open PySem.Builtin.Str renaming occurrences->QaI
open PySem.Builtin.Tuple renaming tupleExact->QbN,tupleItemsOf->Qfp
open PySem.Calls renaming spliced_cons->ZT,spliced_nil->Qax,callWith_builtin->Qbb,evalArgs_plain->Qb0,Name_function_global->Qdg,loadGlobal_global->QfW
open PySem.Challenge renaming pw_layerdraw_k83_lines_that_are_none->Qmh
open PySem.CmpOf renaming ints_lt->QdR
open PySem.CmpOp renaming NotIn->Qg7,In->QhD
open PySem.Code renaming quiet_builtin->Qat,isFrame->QdZ,frames->Qhk
open PySem.EntryCells renaming newEntry->QfN
open PySem.EqMixed renaming ne_str_int->Qml,ne_str_bool->Qmm,ne_int_str->Qmn,ne_bool_str->Qmo,eq_str_int->Qmp,eq_str_bool->Qmq,eq_int_str->Qmr,eq_bool_str->Qms
open PySem.EqNone renaming ne_str_none->Qmy,ne_none_str->Qmz,ne_none_none->QmA,ne_none_int->QmB,ne_none_bool->QmC,ne_int_none->QmD,ne_bool_none->QmE,eq_str_none->QmF,eq_none_str->QmG,eq_none_none->QmH,eq_none_int->QmI,eq_none_bool->QmJ,eq_int_none->QmK,eq_bool_none->QmL
open PySem.F renaming plainAttrs_list->WU,slot_list_append->XQ,type_list_append->X9,plain_max_loop->Zl,plain_min_loop->ZP,plainAttrs_str->ZQ,slot_dict_get->Qao,slot_str_split->QaD,slot_zip_next->QaG,plainAttrs_dict->Qba,slot_list_extend->Qbe,type_list_extend->QbR,slot_list_getattribute->QbU,entry_dict_get->QbV,type_str_join->QbW,slot_zip_getattribute->QbX,slot_str_join->QbY,entry_max_loop->Qcd,slot_dict_itemiterator_next->Qdf,slot_dict_items->Qdi,type_str_split->Qdj,entry_min_loop->Qdk,plain_extend_loop->Qdz,args_str_split_2->QdB,entry_str_split->QdH,args_zip_next_1->QdI,entry_zip_next->QdP,slot_dict_itemiterator_iter->Qfn,excBase_ValueError->Qfw,excAttr_ValueError->Qfx,slot_dict_getitem->QfA,slot_str_ascii_iterator_next->QfD,type_dict_items->QfG,args_dict_get_3->QfH,args_dict_get_2->QfI,slot_dict_keyiterator_next->QfM,type_dict_get->QfT,slot_dict_pop->QfU,entry_bexc_ga->QfV,slot_tuple_iterator_next->QfX,slot_range_iterator_next->QfY,args_bexc_ga->QfZ,slot_str_iterator_next->Qf7,slot_enumerate_next->Qgp,kt_typeCall_dict_1->Qgt,slot_list_insert->QgD,args_list_init_2->QgE,args_dict_init_2->QgF,typeCall_list_1->QgM,entry_list_init->QgN,entry_dict_init->QgO,kt_called_dict->QgU,slot_list_pop->Qg5,slot_int_rmul->Qg6,called_list->Qht
open PySem.Heap renaming ExtBut->XX,SameBut->Yb
open PySem.Heap.DictOf renaming new->Qdx
open PySem.Heap.IsSliceOf renaming new->Qmi
open PySem.Heap.SameBut renaming update->Xe,refl->Qmx
open PySem.ItemsOf renaming nil->QgL
open PySem.Moved renaming trans->Qd2
open PySem.NameKind renaming free->WN,cell->XU
open PySem.Obj renaming mapSeq->Wv,mapFields->YU,data_mapFields->Qau,isFreed_of_fields->QbZ,cls_mapFields->Qgy
open PySem.Paired renaming length->Qcg,snoc->QgT
open PySem.PassesOwn renaming never->Wu,leaving->Qdr
open PySem.SeqAt renaming EqAt->YC,notIn_listAt->Qgg
open PySem.SeqAt.EqAt renaming of_refs->QdY,same->Qea,str_int->QfR,int_str->QfS,str_str->QmW,str_none->QmX,str_bool->QmY,none_str->QmZ,none_int->Qm0,none_bool->Qm1,int_none->Qm2,int_int->Qm3,int_bool->Qm4,bool_str->Qm5,bool_none->Qm6,bool_int->Qm7,bool_bool->Qm8
open PySem.SeqAt.RcAt renaming lists_lengths->Qgo,tuples->Qhj,lists->Qhs
open PySem.Shared renaming TypeIs->Qcf
open PySem.Str renaming ofString->Vb,empty->VT,length_append->Qa9,length->Qd9
open PySem.StrLaws renaming found_one->Qgf
open PySem.Txt renaming split->VG,join->YZ,mul->Qej
open PySem.Value renaming ref->U9,none->VD,bool->XY,int->X0,type->Zs,str->QaJ,builtin->Qcj,isStrOf->QdQ,float->Qd1,isInt->Qg3,bytes->Qg4
open PySem.W renaming Frag->R',findIn->Wg,mroIn->Wl,typeIn->W3,keepIn->XC,kia_one->XR,kitOne->XT,Looks->Ya,codeIn->Yu,emptyDict->YQ,codeHdIn->YS,fnOf->YW,looks_findIn->Zi,instObj->Zm,InstAt->Zo,nsIn->Zq,isFn->Zr,mg_of->Z0,callWith_K->Qas,hasDictIn->Qaw,any_some->QaC,looks_mroIn->Qbd,plainGet->Qb2,takerIn->Qb6,tabObj->Qcb,lookIn->Qcc,clsIn->Qce,OpenLaw->QcC,methodCall_KW->Qdm,plainGet_of->Qdn,looks_clsIn->Qdo,callWith_K0->Qdp,check_slot->Qdq,specialIn->Qdv,methodObj->Qdw,handedIn->Qdy,makesIn->QdA,notCls->QdG,cellsFrom_some->QfL,findObj_own->Qf0,codeHd_of_K->Qf1,looks_find->Qf6,set_plain->Qgb,plainOver->Qgc,kitx_list->Qgd,kitx_dict->Qge,takesIn->Qgm,findObj->Qgn,kla_fn->Qgs
open PySem.W.KIN renaming signs_num->QmT,call_num->QmU
open PySem.W.Looks renaming here->ZR,of_pure->Qmj,ld->Qmk
open PySem.W.WData renaming int->Qhr
open PySem.W.WShape renaming has->Qg2
open PySem.Within renaming cons->Qmw
open Sum renaming inr->U7,inl->Va
open Sum.inr renaming inj->XW
open True renaming intro->WW
def U3:=@if_pos
def U4:=@if_neg
def U':=@absurd
def Wc:=@if_false
def Wo:=@or_false
def WQ:=@beq_iff_eq
def WS:=@congrArg
def Xi:=@if_true
def ZY:=@beq_self_eq_true
def Qay:=@beq_eq_false_iff_ne
namespace L2
variable {A:Around}{E:Value→Shared→Prop}{G:Prop}{P prog:Program}{Q:Option Value→Shared→Prop}{R:Result→Shared→Prop}{a b e it t:Addr}{cs:List Addr}{env:Env}{h h':Heap}{i:Nat}{pos:Pos}{s:Shared}{vs:Array Value}{w:World}
open PySem PySem.Spec PyProof.Rows
theorem Xu {α:Sort _}{a b:α→Prop} (k:∀ x,a x→b x→G):(∃ x,a x∧b x)→G:=fun⟨x,h1,h2⟩=>k x h1 h2
theorem ex4 {α β:Sort _}{a b:α→β→Prop} (k:∀ x y,a x y→b x y→G):(∃ x y,a x y∧b x y)→G:=fun⟨x,y,h1,h2⟩=>k x y h1 h2
theorem Ve {α β:Sort _}{a b c:α→β→Prop} (k:∀ x y,a x y→b x y→c x y→G):(∃ x y,a x y∧b x y∧c x y)→G:=fun⟨x,y,h1,h2,h3⟩=>k x y h1 h2 h3
theorem PR:Qcy table "proto.unchain"=i' XF.«proto.unchain»:=Qhh (by kernel_rfl)
def YD (cs:List F') (j:Nat):K':=match cs[j]? with|none=>VD|some b=>U9 b
def Vx (h:Vo) (cs:List F'):Prop:=cs.Nodup∧∀ j a,cs[j]?=i' a→∃ o vs,h.get? a=i' o∧o.data=.fields vs∧vs[2]?=i' (YD cs (j+1))
def Hd (A:V2) (h:Vo):Prop:=A.handled=B'∨∃ a cs,A.handled=i' (.ref a)∧Vx h (a::cs)
theorem Hd.keeps (x:Hd A h) (k:∀ b o,h.get? b=i' o→h'.get? b=i' o):Hd A h':=by
 rcases x with e|⟨a,cs,e,nd,c⟩
 .exact .inl e
 .refine .inr ⟨a,cs,e,nd,fun j b hb=>?_⟩
  obtain⟨o,vs,ho,r⟩:=c j b hb
  exact⟨o,vs,k b o ho,r⟩
theorem Hd.but {oi:Vd} (x:Hd A h) (aJ:h.get? it=i' oi) (yH:∀ vs,oi.data=.fields vs→vs.size<3∨vs[2]?≠i' VD∧∀ b,vs[2]?≠i' (.ref b)) (k:∀ b o,b≠it→h.get? b=i' o→h'.get? b=i' o):Hd A h':=by
 rcases x with e|⟨a,cs,e,nd,c⟩
 .exact .inl e
 .refine .inr ⟨a,cs,e,nd,fun j b hb=>?_⟩
  obtain⟨o,vs,ho,hd,h2⟩:=c j b hb
  refine⟨o,vs,k b o (fun z=>?_) ho,hd,h2⟩
  subst z
  rw[aJ] at ho
  cases ho
  rcases yH vs hd with q|⟨q1,q2⟩
  .have:=(Qdh.mp h2).1
   lia
  .unfold YD at h2
   cases hz:(a::cs)[j+1]? with
   | none=>rw[hz] at h2;exact q1 h2
   | some y=>rw[hz] at h2;exact q2 y h2
theorem Pf (c:Vx s.heap cs) (he:e∉cs) (hR:R (.ok (.ret .none)) s):∀ (n j i:Nat) (o sl:F') (tg:Bool),cs.length-j=n→cs[j]?=i' o→cs[i]?=i' sl→i≤j →
  Wp (UV prog w) A (.builtin "proto.unchain" ⟨[.ref e,.ref o,.ref sl,.bool tg],[]⟩) R s:=by
 intro n
 induction n with
 | zero=>
  intro j i o sl tg hn hj _ _
  have:=(VI.mp hj).1
  lia
 | succ n ih=>
  intro j i o sl tg hn hj hi Ds
  obtain⟨oo,vs,ho,hd,h2⟩:=c.2 j o hj
  refine XS PR ?_
  unfold XF.«proto.unchain»
  refine oG (Sr ho hd h2 ?_)
  cases hz:cs[j+1]? with
  | none=>
   simp only[YD,hz]
   rw[U3 (by rfl)]
   refine oG (Sd (Sd ?_))
   exact hR
  | some b=>
   simp only[YD,hz]
   have hb:b∈cs:=Tb hz
   have kX:b≠e:=fun z=>he (z ▸ hb)
   have IQ:b≠sl:=fun z=>by
    subst z
    have e1:=VI.mp hz
    have e2:=VI.mp hi
    have lt:i<j+1:=by lia
    exact(List.pairwise_iff_getElem.mp c.1) i (j+1) e2.1 e1.1 lt (e2.2.trans e1.2.symm)
   rw[U4 (by simp),U4 (by simpa using kX),U4 (by simpa using IQ)]
   have JP:∃ b',cs[i+1]?=i' b':=by
    have e1:=(VI.mp hz).1
    exact⟨_,SI (by lia)⟩
   obtain⟨b',nV⟩:=JP
   cases tg with
   | false=>
    rw[U4 (by simp)]
    refine oG (Sd (Sd ?_))
    exact(⟨Qat _ (by decide +kernel),ih (j+1) i b sl D' (by lia) hz hi (by lia)⟩)
   | true=>
    rw[U3 rfl]
    obtain⟨os,ws,kU,eQ,fE⟩:=c.2 i sl hi
    simp only[YD,nV] at fE
    refine oG (Sr kU eQ fE (Sd ?_))
    exact(⟨Qat _ (by decide +kernel),ih (j+1) (i+1) b b' M' (by lia) hz nV (by lia)⟩)
theorem BC {α:Type}{oe:Vd}{Q:α→UW→Prop} (hd:A.handled=B'∨∃ a cs,A.handled=i' (.ref a)∧Vx s.heap (a::cs)∧e∉a::cs) (he:s.heap.get? e=i' oe) (hf:oe.data=.fields vs) (h2:2<vs.size)
  (h:∀ h' o' ke,(∀ b o,b≠e→s.heap.get? b=i' o→h'.get? b=i' o)→h'.get? e=i' o'→o'.cls=oe.cls→o'.dict=oe.dict→o'.data=.fields ke→ke.size=vs.size→ke[1]?=vs[1]?→ke[2]?=(match A.handled with|none=>vs[2]?|some v=>i' v)→E (.ref e) {s with heap:=h'}) :
  L' (UV prog w) A (raiseNew (.ref e):W6 α) Q E s:=by
 unfold raiseNew
 refine oG (wpAny_handled ?_)
 rcases hd with hn|⟨a,cs,ha,c,eO⟩
 .rw[hn]
  exact oG (Sd (wpAny_throw (h s.heap oe vs (fun _ _ _ q=>q) he O O hf O O (by rw[hn]))))
 .rw[ha]
  have IE:a≠e:=fun z=>eO (by simp[z])
  show L' _ _ (if (U9 a != U9 e)=D' then _ else _) _ _ s
  rw[U3 (by simpa using IE)]
  refine oG (Sn (wpAny_runValue (Pf c eO ?_ _ 0 0 a a M' O O O (Sg _))))
  have up:=Qau hf (·.setIfInBounds 2 (U9 a))
  refine oG (show L' _ _ (Qcx (.ref e) 2 (.ref a)) _ _ s from SZ he hf h2 (wpAny_throw (h _ _ _ (fun b q hb hq=>(Sm _ _ (U5 hb)).trans hq) (Sq _ he (QbZ up)) (Qgy _ _) ?_ up (by simp) ?_ ?_)))
  .obtain⟨c1,d1,dt,sl⟩:=oe
   cases dt<;>rfl
  .rw[TV (by decide)]
  .rw[ha];simp[h2]
theorem Vx.lt (c:Vx h cs):∀ b∈cs,b<h.objs.size:=fun b hb=>by
 obtain⟨j,hj⟩:=YN.mp hb
 obtain⟨o,_,ho,_⟩:=c.2 j b hj
 exact Se ho
theorem Vx.mono (c:Vx h cs) (k:∀ b o,b∈cs→h.get? b=i' o→h'.get? b=i' o):Vx h' cs:=⟨c.1,fun j a hj=>by
 obtain⟨o,vs,ho,r⟩:=c.2 j a hj
 exact⟨o,vs,k a o (Tb hj) ho,r⟩⟩
theorem nJ {α:Type}{Q:α→UW→Prop} (hd:Hd A s.heap)
  (h:∀ h' e,(∀ b o,s.heap.get? b=i' o→h'.get? b=i' o)→(∃ o',h'.get? e=i' o'∧o'.cls=.type "StopIteration")→E (.ref e) {s with heap:=h'}) :
  L' (UV prog w) A (newExc (.type "StopIteration") [] >>= fun e=>(raiseNew e:W6 α)) Q E s:=by
 refine oG ?_
 unfold newExc newTuple
 refine oG (To ?_ (by size_fits))
 refine oG (m:=Qck _ _) (Ub (a:=VD) (by first|rfl|(simp only[Qck];rfl)) (To ?_ (by size_fits)))
 refine BC ?_ (Sf _ O) O (by simp;lia) fun h' o' ke k' e' c' _ _ _ _ _=>
  h h' _ (fun b o q=>k' b o (Sh (by rw[Su];exact SM (Se q))) (Sc _ (Sc _ q))) ⟨o',e',c'⟩
 rcases hd with hn|⟨a,cs,ha,c⟩
 .exact .inl hn
 .refine .inr ⟨a,cs,ha,c.mono fun b o _ q=>Sc _ (Sc _ q),fun z=>?_⟩
  have:=c.lt _ z
  rw[Su] at this
  exact U' (Sj this (SH _)) (So _)
theorem E8 {l:F'} {items} (hd:Hd A s.heap) (aJ:s.heap.IsListIter it l i) (hl:s.heap.IsList l items) (hx:items[i]?=B')
  (hQ:∀ h',XX it s.heap h'→Q B' {s with heap:=h'}):L' (UV prog w) A (VB (.ref it)) Q E s:=by
 obtain⟨o,ho,hc,az⟩:=id aJ
 obtain⟨ol,rR,_,nl,tN⟩:=hl
 unfold VB
 refine oG (SQ (Sx (name:=Vb "__next__") aJ.typeIs Qb4 (SL Qb4 aJ.typeIs QgK ?_ (QgS _))))
 refine(show L' _ _ (WC (.ref it) 0 >>= _) _ _ s from oG (Sr ho az (x:=.ref l) O ?_))
 refine(show L' _ _ (if (U9 l == VD)=D' then _ else _) _ _ s from ?_)
 rw[U4 (by simp)]
 refine(show L' _ _ (WC (.ref it) 1 >>= _) _ _ s from oG (Sr ho az (x:=.int i 0) O ?_))
 refine(show L' _ _ (Yx (.ref l) >>= _) _ _ s from oG (SA rR tN ?_))
 simp only[Tc,hx]
 refine oG (Ti (oG (SZ ho az (by simp) ?_)))
 have sb:Yb it s.heap (s.heap.update it (YU (·.setIfInBounds 0 VD))):=Xe ..
 refine nJ (A:=A.in1) (hd.but ho (fun vs q=>.inl (by rw[az] at q;cases q;simp)) sb.extBut) fun h' e k' ⟨o',e',c'⟩=>?_
 exact oG (SW (T:="StopIteration") (b:=D') ⟨o',e',c'⟩ Yv (Sd (hQ h' fun b q hb hq=>k' b q (sb.extBut b q hb hq))))
theorem HZ {items} (hd:Hd A s.heap) (aJ:s.heap.IsTupleIter it t i) (ht:s.heap.IsTuple t items) (hx:items[i]?=B')
  (hQ:∀ h',XX it s.heap h'→Q B' {s with heap:=h'}):L' (UV prog w) A (VB (.ref it)) Q E s:=by
 obtain⟨o,ho,hc,az⟩:=id aJ
 obtain⟨ol,rR,_,nl,tN⟩:=ht
 unfold VB
 refine oG (SQ (Sx (name:=Vb "__next__") aJ.typeIs QfX (SL QfX aJ.typeIs F.entry_tuple_iterator_next ?_ (F.args_tuple_iterator_next_1 _))))
 refine(show L' _ _ (WC (.ref it) 0 >>= _) _ _ s from oG (Sr ho az (x:=.ref t) O ?_))
 refine(show L' _ _ (if (U9 t == VD)=D' then _ else _) _ _ s from ?_)
 rw[U4 (by simp)]
 refine(show L' _ _ (WC (.ref it) 1 >>= _) _ _ s from oG (Sr ho az (x:=.int i 0) O ?_))
 refine(show L' _ _ (Yx (.ref t) >>= _) _ _ s from oG (SA rR tN ?_))
 simp only[Tc,hx]
 refine oG (Ti (oG (SZ ho az (by simp) ?_)))
 have sb:Yb it s.heap (s.heap.update it (YU (·.setIfInBounds 0 VD))):=Xe ..
 refine nJ (A:=A.in1) (hd.but ho (fun vs q=>.inl (by rw[az] at q;cases q;simp)) sb.extBut) fun h' e k' ⟨o',e',c'⟩=>?_
 exact oG (SW (T:="StopIteration") (b:=D') ⟨o',e',c'⟩ Yv (Sd (hQ h' fun b q hb hq=>k' b q (sb.extBut b q hb hq))))
theorem Fe {x left step:Int} (hd:Hd A s.heap) (aJ:Z5 s.heap it x left step) (so:left≤0)
  (hQ:∀ h',XX it s.heap h'→Q B' {s with heap:=h'}):L' (UV prog w) A (VB (.ref it)) Q E s:=by
 have hT:s.TypeIs (.ref it) "range_iterator":=⟨_,aJ,O⟩
 unfold VB
 refine oG (SQ (Sx (name:=Vb "__next__") hT QfY (SL QfY hT F.entry_range_iterator_next ?_ (F.args_range_iterator_next_1 _))))
 refine(show L' _ _ (WC (.ref it) 0 >>= _) _ _ s from oG (Sr aJ O (x:=Vw x) O ?_))
 refine(show L' _ _ (WC (.ref it) 1 >>= _) _ _ s from oG (Sr aJ O (x:=Vw left) O ?_))
 refine(show L' _ _ (WC (.ref it) 2 >>= _) _ _ s from oG (Sr aJ O (x:=Vw step) O ?_))
 refine(show L' _ _ (if left≤0 then _ else _) _ _ s from ?_)
 rw[U3 so]
 refine oG (Ti (oG ?_))
 refine nJ (A:=A.in1) hd fun h' e k' ⟨o',e',c'⟩=>?_
 exact oG (SW (T:="StopIteration") (b:=D') ⟨o',e',c'⟩ Yv (Sd (hQ h' fun b q _ hq=>k' b q hq)))
theorem Qx {items:Array K'}{Q:List K'→UW→Prop} (hd:Hd A s.heap) (ht:Qaf s.heap t items)
  (hQ:∀ h',XX s.heap.objs.size s.heap h'→Q items.toList {s with heap:=h'}):L' (UV prog w) A (unpackItems (.ref t) items.size B') Q E s:=by
 have bq:t≠s.heap.objs.size:=by obtain⟨o,ho,_⟩:=ht;exact Sh (Se ho)
 unfold unpackItems
 refine oG ?_
 unfold notIterableAtAll
 refine oG (Ur ht.typeIs slot_tuple_iter.lookup (Sd ?_))
 simp only[SC,Wc]
 refine oG (Sn (iter_tuple ht (oG (Sn (draw_tuple bq items.size 0 _ _ ⟨_,Sf _ O,O,O⟩ (ht.push _) (by lia) fun h₁ yW bC=>?_)))))
 rw[show QhF items.size (List.drop 0 items.toList)=items.toList by rw[QgQ];exact Ut (by simp)]
 rw[U4 (by simp)]
 have JD:Qaf h₁ t items:=(ht.push _).extBut bC.extBut bq
 have k₁:∀ b o,s.heap.get? b=i' o→h₁.get? b=i' o:=fun b o e=>bC.extBut b o (Sh (Se e)) (Sc _ e)
 refine oG (Sn (HZ (hd.keeps k₁) yW (show Vo.IsTuple h₁ t items from JD) (by simp) fun h₂ JW=>?_))
 simp only[Option.isSome_none,SC,Wc]
 exact Sd (hQ h₂ fun b o hb e=>JW b o hb (k₁ b o e))
theorem Nw {lF:List Vh} {x1}{items:Array K'}{Q:Unit→UW→Prop} (hd:Hd A s.heap) (ht:Qaf s.heap t items) (hn:(XZ lF env).length=items.size) (sL:(XZ lF env).findIdx? (·.1)=B')
  (h:∀ h',XX s.heap.objs.size s.heap h'→L' (UV prog w) A (assignInOrder ((XZ lF env).map (·.2)) items.toList) Q E {s with heap:=h'}):L' (UV prog w) A (Yf (.Tuple lF x1 pos) env (.ref t)) Q E s:=by
 rw[assign_Tuple]
 refine oG (TD ?_)
 unfold unpack
 rw[hn,sL]
 exact oG (Sn (Qx hd ht h))
abbrev Key:=Sum Int C'
def lO:Key→K'→Bool
 | .inl k,v=>Qg3 k v
 | .inr x,v=>QdQ x v
def QaM (w:VL):Key→Int
 | .inl k=>hashInt k
 | .inr x=>hashStr w x
theorem kt:∀ {k:Key}{v:K'},lO k v=D'→(∃ i t,k=Va i∧v=X0 i t)∨(∃ x t,k=U7 x∧v=QaJ x t)
 | .inl i,v,h=>by
  obtain⟨t,e⟩:=K'.isInt_shape (k:=i) (v:=v) h
  exact .inl ⟨i,t,O,e⟩
 | .inr x,v,h=>by
  obtain⟨t,e⟩:=K'.isStrOf_shape (x:=x) (v:=v) h
  exact .inr ⟨x,t,O,e⟩
theorem P6 (i:Int) (t:Wq):lO (.inl i) (.int i t)=D':=by simp[lO,Qg3]
theorem Pk (x:C') (t:Wq):lO (.inr x) (.str x t)=D':=by simp[lO,QdQ]
theorem QhG (a b:Int):decide ((Va a:Key)=Va b)=(a == b):=by
 by_cases e:a=b
 .subst e;simp
 .have h:¬ (Va a:Key)=Va b:=fun q=>e (Va.inj q)
  rw[S0 h]
  exact(Qay.mpr e).symm
theorem QhH (a b:C'):decide ((U7 a:Key)=U7 b)=decide (a=b):=by
 by_cases e:a=b
 .subst e;simp
 .have h:¬ (U7 a:Key)=U7 b:=fun q=>e (XW q)
  rw[S0 h,S0 e]
theorem QhI (a:Int) (b:C'):decide ((Va a:Key)=U7 b)=M':=S0 (fun q=>nomatch q)
theorem QhJ (a:C') (b:Int):decide ((U7 a:Key)=Va b)=M':=S0 (fun q=>nomatch q)
def bM (prog:Vy) (w:VL):PySem.KeyKind prog w Key where
 is:=lO
 hash:=QaM w
 inj:=fun v a b ha hb=>by
  rcases kt ha with⟨i,t,rfl,rfl⟩|⟨x,t,rfl,rfl⟩
  .rcases kt hb with⟨j,u,rfl,e⟩|⟨y,u,rfl,e⟩
   .injection e with e1 _;rw[e1]
   .exact nomatch e
  .rcases kt hb with⟨j,u,rfl,e⟩|⟨y,u,rfl,e⟩
   .exact nomatch e
   .injection e with e1 _;rw[e1]
 byValue:=fun k v h=>by
  rcases kt h with⟨i,t,rfl,rfl⟩|⟨x,t,rfl,rfl⟩<;>rfl
 pyHash:=fun hv h=>by
  rcases kt hv with⟨i,t,rfl,rfl⟩|⟨x,t,rfl,rfl⟩
  .exact wpAny_pyHash_int h
  .exact wpAny_pyHash_str h
 eqBool:=fun hu hv h=>by
  rcases kt hu with⟨i,t,rfl,rfl⟩|⟨x,t,rfl,rfl⟩
  .rcases kt hv with⟨j,u,rfl,rfl⟩|⟨y,u,rfl,rfl⟩
   .rw[QhG] at h;exact wpAny_eqBool_int h
   .rw[QhI] at h;exact QfS i t y u _ _ _ _ h
  .rcases kt hv with⟨j,u,rfl,rfl⟩|⟨y,u,rfl,rfl⟩
   .rw[QhJ] at h;exact QfR x t j u _ _ _ _ h
   .rw[QhH] at h;exact wpAny_eqBool_str h
 «strs»:=fun k x t v h=>by
  rcases kt h with⟨i,u,rfl,e⟩|⟨y,u,rfl,e⟩
  .exact nomatch e
  .injection e with e1 _
   subst e1
   cases v<;>rfl
theorem M9 (prog:Vy) (w:VL) (i:Int) (t:Wq):(bM prog w).is (.inl i) (.int i t)=D':=P6 i t
theorem Qu (prog:Vy) (w:VL) (x:C') (t:Wq):(bM prog w).is (.inr x) (.str x t)=D':=Pk x t
set_option genInjectivity true
inductive V where
 | U8 | bl (b:Bool) | int (i:Int) | str (x:C') | byt (b:Array UInt8) | Y5 (b:UInt64) | ref (a:F') | ty (n:String)
 deriving DecidableEq
set_option genInjectivity false
def aA:V→K'→Prop
 | .U8,u=>u=VD
 | .bl b,u=>u=XY b
 | .int i,u=>∃ t,u=X0 i t
 | .str x,u=>∃ t,u=QaJ x t
 | .byt b,u=>∃ t,u=Qg4 b t
 | .Y5 b,u=>∃ t,u=Qd1 b t
 | .ref a,u=>u=U9 a
 | .ty n,u=>u=Zs n
abbrev aB:List V→List K'→Prop:=Qad aA
theorem aB.length {xs:List V}{us:List K'} (r:aB xs us):xs.length=us.length:=Qcg r
theorem aB.get:∀ {xs:List V}{us:List K'}{i:Nat}{x:V},aB xs us→xs[i]?=i' x→∃ u,us[i]?=i' u∧aA x u
 | _,_,_,_,.nil,e=>by simp at e
 | _,_,0,_,.cons r _,e=>by simp at e;subst e;exact⟨_,O,r⟩
 | _,_,i+1,x,.cons _ t,e=>by
  obtain⟨u,h1,h2⟩:=aB.get (i:=i) (x:=x) t (by simpa using e)
  exact⟨u,by simpa using h1,h2⟩
theorem aB.set {x:V}{u:K'} (r:aA x u):∀ {xs:List V}{us:List K'} (i:Nat),aB xs us→aB (xs.set i x) (us.set i u)
 | _,_,_,.nil=>.nil
 | _,_,0,.cons _ t=>.cons r t
 | _,_,i+1,.cons q t=>.cons q (aB.set r i t)
theorem aB.append:∀ {xs ys:List V}{us ws:List K'},aB xs us→aB ys ws→aB (xs++ys) (us++ws)
 | _,_,_,_,.nil,s=>s
 | _,_,_,_,.cons r t,s=>.cons r (aB.append t s)
theorem aB.take:∀ {xs:List V}{us:List K'} (n:Nat),aB xs us→aB (xs.take n) (us.take n)
 | _,_,0,_=>.nil
 | _,_,_+1,.nil=>.nil
 | _,_,n+1,.cons r t=>.cons r (aB.take n t)
theorem aB.drop:∀ {xs:List V}{us:List K'} (n:Nat),aB xs us→aB (xs.drop n) (us.drop n)
 | _,_,0,r=>r
 | _,_,_+1,.nil=>.nil
 | _,_,n+1,.cons _ t=>aB.drop n t
def dW:Option V→Option K'→Prop
 | some v,i' u=>aA v u
 | none,B'=>True
 | _,_=>False
def KV {κ:Type}:List (κ×V)→List (κ×K')→Prop:=Qad fun(p:κ×V) (q:κ×K')=>p.1=q.1∧aA p.2 q.2
def kV:Key→V
 | .inl i=>.int i
 | .inr x=>.str x
inductive HO where
 | lst (xs:List V)
 | tup (xs:List V)
 | dK (kvs:List (Key×V)) | dT (kvs:List (List Key×V))
 | set (S:Int→Bool) (n:Nat)
 | ins (C dx:F') (fs:List (C'×V))
 | own (x:F')
 | xd (fs:List (C'×V))
 | met (f x:F')
 | XG (lo hi:Int)
 | Vf (o:Vd) (u:HO)
 | V' (pos:VZ) (qual:C')
 | ext (φ:Vo→Prop)
abbrev Hp:=F'→Option HO
def upd (H:Hp) (a:F') (o:HO):Hp:=fun b=>if b=a then i' o else H b
theorem ah {H:Hp}{o:HO}:upd H a o a=i' o:=by unfold upd;rw[U3 rfl]
theorem aj {H:Hp}{o:HO} (h:b≠a):upd H a o b=H b:=by unfold upd;rw[U4 h]
theorem bQ {H:Hp}{o u:HO} (h:H a=i' o) (h':H b=i' u) (d:o≠u):a≠b:=by
 intro e;subst e;rw[h] at h';exact d (VQ h')
theorem ao {H:Hp}{o:HO} (h:H a=i' o) (h':H b=B'):a≠b:=by
 intro e;subst e;rw[h] at h';cases h'
section
variable (P:Vy) (w:VL)
def cM (H:Hp) (h:Vo) (a:F'):HO→Prop
 | .lst xs=>xs.length≤U2∧∃ (ag:List K') (n:Nat),aB xs ag∧h.get? a=i' {cls:=.type "list",data:=.seq ag.toArray n}
 | .tup xs=>xs.length≤U2∧∃ ag:List K',aB xs ag∧Qaf h a ag.toArray
 | .dK kvs=>kvs.length≤U2∧(a == WO)=M'∧∃ vs,KV kvs vs∧h.DictOf (bM P w) a vs
 | .dT kvs=>kvs.length≤U2∧(a == WO)=M'∧∃ xs:List (List Key×F'×K'),
   Qad (fun(p:List Key×V) (q:List Key×F'×K')=>p.1=q.1∧H q.2.1=i' (.tup (p.1.map kV))∧aA p.2 q.2.2) kvs xs ∧
   ∃ o es ep,h.get? a=i' o∧o.ExactDict∧o.data=.dict es ep∧es.toList=xs.map (entryOfKey (Z7 (bM P w)))∧(xs.map (·.1)).Nodup
 | .set S n=>h.SetOf (intKind P w) a S n
 | .ins C dx fs=>H dx=i' (.own a)∧fs.length≤1000∧dx≠a∧h.get? a=i' (Zm C dx) ∧
   ∃ mA,h.Ns1 dx mA∧(∀ f,dW (fs.lookup f) (mA f))∧QdX mA (fs.map (·.1))
 | .own _=>∃ o,h.get? a=i' o
 | .xd fs=>∃ mA,h.Ns1 a mA∧∀ f,dW (fs.lookup f) (mA f)
 | .XG lo hi=>∃ t u v,h.get? a=i' {cls:=.type "range",data:=.fields #[.int lo t,.int hi u,.int 1 v]}
 | .Vf o u=>h.get? a=i' o∧cM H h a u
 | .V' pos qual=>h.get? a=i' {cls:=.none,data:=.fields #[]}∨∃ c oc vs t,H c=i' (.Vf oc (.own a))∧oc.data=.fields vs∧vs[1]?=i' (.str qual t)∧h.get? a=i' {cls:=.none,data:=.fields #[Vw pos.line,Vw pos.col,.ref c]}
 | .met f x=>h.get? a=i' (Qdw (.ref f) (.ref x))
 | .ext φ=>φ h∧(∃ o,h.get? a=i' o)∧∀ h1 h2:Vo,φ h1→(∀ o,h1.get? a=i' o→h2.get? a=i' o)→φ h2
def VH (H:Hp) (h:Vo):Prop:=∀ a o,H a=i' o→cM P w H h a o
end
section
variable {H H':Hp}{o:HO}
theorem cM.lt (x:cM P w H h a o):a<h.objs.size:=by
 cases o with
 | lst xs=>obtain⟨_,_,_,_,e⟩:=x;exact Se e
 | tup xs=>obtain⟨_,_,_,p⟩:=x;exact p.lt
 | dK kvs=>obtain⟨_,_,_,_,o,_,_,e,_⟩:=x;exact Se e
 | dT kvs=>obtain⟨_,_,_,_,o,_,_,e,_⟩:=x;exact Se e
 | set S n=>obtain⟨o,_,_,_,e,_⟩:=x;exact Se e
 | ins C dx fs=>obtain⟨_,_,_,e,_⟩:=x;exact Se e
 | own y=>obtain⟨_,e⟩:=x;exact Se e
 | xd fs=>obtain⟨_,⟨_,_,_,e,_⟩,_⟩:=x;exact Se e
 | XG lo hi=>obtain⟨_,_,_,e⟩:=x;exact Se e
 | Vf ob u=>obtain⟨e,_⟩:=x;exact Se e
 | V' pos qual=>
  rcases x with e|⟨_,_,_,_,_,_,_,e⟩
  .exact Se e
  .exact Se e
 | met f y=>exact Se (show h.get? a=i' _ from x)
 | ext φ=>obtain⟨_,⟨_,e⟩,_⟩:=x;exact Se e
theorem Paired.QcD {α β:Type}{F G:α→β→Prop}:∀ {l₁:List α}{l₂:List β},Qad F l₁ l₂→(∀ a b,F a b→G a b)→Qad G l₁ l₂
 | _,_,.nil,_=>.nil
 | _,_,.cons r t,f=>.cons (f _ _ r) (Paired.QcD t f)
theorem cM.WZ (x:cM P w H h a o) (k:∀ b u,(b=a∨H b=i' (.own a))→h.get? b=i' u→h'.get? b=i' u)
  (ho:∀ b,H b=i' (.own a)→H' b=i' (.own a)) (ht:∀ b xs,H b=i' (.tup xs)→H' b=i' (.tup xs)) (hf:∀ b ob,H b=i' (.Vf ob (.own a))→H' b=i' (.Vf ob (.own a)):=by exact fun _ _ q=>q):cM P w H' h' a o:=by
 induction o with
 | lst xs=>obtain⟨z,ag,n,r,e⟩:=x;exact⟨z,ag,n,r,k _ _ (.inl O) e⟩
 | tup xs=>obtain⟨z,ag,r,ob,e,c⟩:=x;exact⟨z,ag,r,ob,k _ _ (.inl O) e,c⟩
 | dK kvs=>obtain⟨z,y,vs,r,ob,es,ep,e,c⟩:=x;exact⟨z,y,vs,r,ob,es,ep,k _ _ (.inl O) e,c⟩
 | dT kvs=>
  obtain⟨z,y,xs,r,ob,es,ep,e,c⟩:=x
  exact⟨z,y,xs,Paired.QcD r fun p q z=>⟨z.1,ht _ _ z.2.1,z.2.2⟩,ob,es,ep,k _ _ (.inl O) e,c⟩
 | set S n=>obtain⟨ob,es,ep,t,e,c⟩:=x;exact⟨ob,es,ep,t,k _ _ (.inl O) e,c⟩
 | ins C dx fs=>
  obtain⟨d,z,ne,e,mA,⟨od,es,ep,e2,c⟩,r⟩:=x
  exact⟨ho _ d,z,ne,k _ _ (.inl O) e,mA,⟨od,es,ep,k _ _ (.inr d) e2,c⟩,r⟩
 | own y=>obtain⟨ob,e⟩:=x;exact⟨ob,k _ _ (.inl O) e⟩
 | xd fs=>obtain⟨mA,⟨od,es,ep,e,c⟩,r⟩:=x;exact⟨mA,⟨od,es,ep,k _ _ (.inl O) e,c⟩,r⟩
 | XG lo hi=>obtain⟨t,u,v,e⟩:=x;exact⟨t,u,v,k _ _ (.inl O) e⟩
 | Vf ob u ih=>obtain⟨e,q⟩:=x;exact⟨k _ _ (.inl O) e,ih q⟩
 | V' pos qual=>
  rcases x with e|⟨c,oc,vs,t,e1,e2,e3,e⟩
  .exact .inl (k a _ (.inl O) e)
  .exact .inr ⟨c,oc,vs,t,hf c oc e1,e2,e3,k a _ (.inl O) e⟩
 | met f y=>
  have e:h.get? a=i' (Qdw (.ref f) (.ref y)):=x
  show h'.get? a=i' (Qdw (.ref f) (.ref y))
  exact k a _ (.inl O) e
 | ext φ=>obtain⟨p,⟨o,e⟩,st⟩:=x;exact⟨st _ _ p fun o q=>k _ _ (.inl O) q,⟨o,k _ _ (.inl O) e⟩,st⟩
theorem VH.lt (x:VH P w H h) (e:H a=i' o):a<h.objs.size:=(x a o e).lt
theorem VH.fresh (x:VH P w H h) (e:h.objs.size≤a):H a=B':=by
 cases q:H a with
 | none=>rfl
 | some u=>exact U' (Sj (x.lt q) e) (So _)
theorem VH.kept (x:VH P w H h) (k:∀ b u,h.get? b=i' u→h'.get? b=i' u):VH P w H h':=fun a o e=>
 (x a o e).WZ (fun b u _ q=>k b u q) (fun _ q=>q) fun _ _ q=>q
theorem VH.laid (x:VH P w H h) (k:∀ b u,h.get? b=i' u→h'.get? b=i' u) (hp:h.objs.size≤a) (new:cM P w (upd H a o) h' a o):VH P w (upd H a o) h':=fun b u e=>by
 have hn:=x.fresh hp
 by_cases hb:b=a
 .subst hb;rw[ah] at e;cases e;exact new
 .rw[aj hb] at e
  exact(x b u e).WZ (fun c v _ q=>k c v q) (fun c q=>by rw[aj (ao q hn)];exact q) (fun c xs q=>by rw[aj (ao q hn)];exact q) fun c ob q=>by rw[aj (ao q hn)];exact q
end
def Rd (H:Hp) (a:F') (u:HO):Prop:=H a=i' u∨∃ o,H a=i' (.Vf o u)
variable {H H':Hp}{M:Model}{N:List C'}{Q:K'→UW→Prop}{aa bR:List (F'×Vd)}{c e:Vh}{ch:List F'}{d':Drawn}{g':Array QcA}{o ob:Vd}{op:CmpOp}{s':UW}{t':Nat}{u:K'}{v:V}{x:C'}
theorem Rd.ok {u:HO} (r:Rd H a u) (x:VH P w H h):cM P w H h a u:=by
 rcases r with r|⟨o,r⟩
 .exact x a u r
 .obtain⟨_,q⟩:=x a _ r
  exact q
def Mut:Option HO→Prop
 | some (.lst _)=>True
 | some (.dK _)=>True
 | some (.dT _)=>True
 | some (.set _ _)=>True
 | some (.ins _ _ _)=>True
 | some (.ext _)=>True
 | _=>False
section
variable {x e:F'}{o':HO}
theorem VH.write (ok:VH P w H h) (mu:Mut (H x)) (he:e=x∨H e=i' (.own x)) (k:∀ b u,b≠e→h.get? b=i' u→h'.get? b=i' u) (qh:∃ u,h'.get? e=i' u)
  (new:cM P w (upd H x o') h' x o'):VH P w (upd H x o') h':=fun b u q=>by
 have ua:∀ c y,H c=i' (.own y)→c≠x:=fun c y r z=>by subst z;rw[r] at mu;exact mu
 have yj:∀ c xs,H c=i' (.tup xs)→c≠x:=fun c xs r z=>by subst z;rw[r] at mu;exact mu
 by_cases hb:b=x
 .subst hb;rw[ah] at q;cases q;exact new
 .rw[aj hb] at q
  by_cases kX:b=e
  .have q':H b=i' (.own x):=by
    rcases he with z|z
    .exact U' (kX.trans z) hb
    .rw[kX];exact z
   rw[q] at q';cases q'
   obtain⟨v,hv⟩:=qh
   exact⟨v,by rw[kX];exact hv⟩
  .refine(ok b u q).WZ (fun c v hc r=>k c v ?_ r) (fun c r=>by rw[aj (ua c b r)];exact r) (fun c xs r=>by rw[aj (yj c xs r)];exact r) fun c ob r=>by rw[aj (fun z=>by subst z;rw[r] at mu;exact mu)];exact r
   rcases hc with rfl|hc
   .exact kX
   .rintro rfl
    rcases he with z|z
    .exact ua c b hc z
    .rw[hc] at z;cases z;exact hb rfl
end
structure Un (fs ex:List F') (H H':Hp) (h h':Vo):Prop where
 keep:∀ b o,h.get? b=i' o→H b=B'→b∉fs→b∉ex→h'.get? b=i' o
 slot:∀ b o,h.get? b=i' o→H b=B'→b∈fs→b∉ex→∃ sl,h'.get? b=i' {o with slots:=sl}
 free:∀ b o,h.get? b=i' o→H b=B'→b∉ex→H' b=B'
 there:∀ b o,h.get? b=i' o→b∉ex→∃ o',h'.get? b=i' o'
 Xv:∀ b xs,H b=i' (.tup xs)→H' b=i' (.tup xs)
 W0:∀ b o u,H b=i' (.Vf o u)→H' b=i' (.Vf o u)
 Xj:∀ b p q,H b=i' (.V' p q)→H' b=i' (.V' p q)
section
variable {fs J3 ex CP:List F'}{H1 H2:Hp}{h1 h2:Vo}{x e:F'}{o:HO}
theorem Un.any (u:Un fs ex H H1 h h1) (q:h.get? b=i' ob) (n:H b=B') (hx:b∉ex):∃ sl,h1.get? b=i' {ob with slots:=sl}:=by
 by_cases hb:b∈fs
 .exact u.slot b ob q n hb hx
 .exact⟨ob.slots,u.keep b ob q n hb hx⟩
theorem Un.trans (a:Un fs ex H H1 h h1) (b:Un fs ex H1 H2 h1 h2):Un fs ex H H2 h h2 where
 keep:=fun c ob q n hc hx=>b.keep c ob (a.keep c ob q n hc hx) (a.free c ob q n hx) hc hx
 slot:=fun c ob q n hc hx=>by
  obtain⟨sl,e1⟩:=a.slot c ob q n hc hx
  obtain⟨zc,e2⟩:=b.slot c _ e1 (a.free c ob q n hx) hc hx
  exact⟨zc,e2⟩
 free:=fun c ob q n hx=>by
  obtain⟨o',e1⟩:=a.there c ob q hx
  exact b.free c o' e1 (a.free c ob q n hx) hx
 there:=fun c ob q hx=>by
  obtain⟨o',e1⟩:=a.there c ob q hx
  exact b.there c o' e1 hx
 Xv:=fun c xs q=>b.Xv c xs (a.Xv c xs q)
 W0:=fun c ob xs q=>b.W0 c ob xs (a.W0 c ob xs q)
 Xj:=fun c p q z=>b.Xj c p q (a.Xj c p q z)
theorem Un.kept (k:∀ b u,h.get? b=i' u→h'.get? b=i' u):Un fs ex H H h h':=
 ⟨fun b ob q _ _ _=>k b ob q,fun b ob q _ _ _=>⟨ob.slots,k b ob q⟩,fun _ _ _ n _=>n,fun b ob q _=>⟨ob,k b ob q⟩,fun _ _ q=>q,fun _ _ _ q=>q,fun _ _ _ q=>q⟩
theorem Un.refl:Un fs ex H H h h:=Un.kept fun _ _ q=>q
theorem Un.laid (k:∀ b u,h.get? b=i' u→h'.get? b=i' u) (hp:h.objs.size≤a) (hn:H a=B'):Un fs ex H (upd H a o) h h' where
 keep:=fun b u q _ _ _=>k b u q
 slot:=fun b u q _ _ _=>⟨u.slots,k b u q⟩
 free:=fun b u q n _=>by rw[aj (Sh (Sj (Se q) hp))];exact n
 there:=fun b u q _=>⟨u,k b u q⟩
 Xv:=fun b xs q=>by rw[aj (ao q hn)];exact q
 W0:=fun b u xs q=>by rw[aj (ao q hn)];exact q
 Xj:=fun b p r q=>by rw[aj (ao q hn)];exact q
theorem Un.write (mu:Mut (H x)) (he:e=x∨H e=i' (.own x)) (k:∀ b u,b≠e→h.get? b=i' u→h'.get? b=i' u) (qh:∃ u,h'.get? e=i' u):Un fs ex H (upd H x o) h h':=by
 have hx:∀ b,H b=B'→b≠x:=fun b n z=>by subst z;rw[n] at mu;exact mu
 have hb:∀ b,H b=B'→b≠e:=fun b n z=>by
  subst z
  rcases he with r|r
  .exact hx b n r
  .rw[n] at r;cases r
 have hm:∀ b u,H b=i' u→¬ Mut (i' u)→b≠x:=fun b u q nm z=>by subst z;rw[q] at mu;exact nm mu
 refine⟨fun b u q n _ _=>k b u (hb b n) q,fun b u q n _ _=>⟨u.slots,k b u (hb b n) q⟩,fun b u q n _=>by rw[aj (hx b n)];exact n,fun b u q _=>?_,
  fun b xs q=>by rw[aj (hm b _ q fun z=>z)];exact q,fun b u xs q=>by rw[aj (hm b _ q fun z=>z)];exact q,fun b p r q=>by rw[aj (hm b _ q fun z=>z)];exact q⟩
 by_cases kX:b=e
 .subst kX;exact qh
 .exact⟨u,k b u kX q⟩
end
def trk (h:Vo) (H:Hp):List F':=(VX h.objs.size).filter fun a=>(H a).isSome
def nj (h:Vo) (H:Hp):Vo:=PySem.W.hideAll h (trk h H)
theorem Ot (h:Vo) (H:Hp):(nj h H).objs.size=h.objs.size:=PySem.W.hideAll_size _ _
theorem Br (e:h.get? b=i' o) (n:H b=B'):(nj h H).get? b=i' o:=
 PySem.W.hideAll_get _ e fun hm=>by
  have q:(H b).isSome=D':=(ZX.mp hm).2
  rw[n] at q;simp at q
theorem Nj (e:(nj h H).get? b=i' o):h.get? b=i' o∧H b=B':=by
 have e':h.get? b=i' o:=PySem.W.of_hideAll (trk h H) e
 refine⟨e',?_⟩
 cases q:H b with
 | none=>rfl
 | some x=>
  have hm:b∈trk h H:=ZX.mpr ⟨Qbg.mpr (Se e'),by simp[q]⟩
  have z:(nj h H).get? b=B':=PySem.W.hideAll_none (trk h H) hm
  rw[z] at e;cases e
def Oj (g h:Vo) (L:F'):List (F'×Vd):=(VX h.objs.size).filterMap fun a=>if a=L∨(g.get? a).isSome=D' then B' else(h.get? a).map fun o=>(a,o)
def aW (g h:Vo) (L d:F'):List (F'×Vd):=(Oj g h L).filter fun p=>decide (p.1≠d)
structure Mod (K:R') (mg:C'→Option K') (base:Vo):Prop where
 YE:K.In base
 glob:base.Ns V6 mg
 blt:∃ mb,base.Ns Z6 mb∧∀ x:C',x≠"__name__"→mb x=WK x
 nolimit:base.NoLimit
 bmain:∃ bm ob,mg "__builtins__"=i' (.ref bm)∧bm≠Z6∧base.get? bm=i' ob∧ob.cls=.type "module"∧ob.dict=i' Z6∧ob.data=.plain
structure Cx where
 prog:Vy
 w:VL
 K:R'
 mg:C'→Option K'
 base:Vo
 A:V2
 N:List C'
 s₀:UW
 H₀:Hp
 env:Wh
 outer:List Wh
 stack:List Wh
 ex:List F'
 fn:C'→Bool
 calm:Bool
 pn:List (F'×Vd)
 xe:K'→UW→Prop
def VR (l:List Wh):List F':=l.filterMap (·.frame)
abbrev Cx.fs (X:Cx):List F':=VR X.outer
def Vis (sc:WY) (x:C'):Prop:=sc.names.lookup x=i' .local∨sc.names.lookup x=i' .cell∨sc.names.lookup x=i' .free
def Loc (sc:WY) (x:C'):Prop:=sc.names.lookup x=i' .local∨sc.names.lookup x=i' .cell
def Look (env:Wh) (h:Vo) (m:C'→Option K') (x:C') (u:K'):Prop:=
 (env.kindOf x=i' .local∧m x=i' u)∨((env.kindOf x=i' .cell∨env.kindOf x=i' .free)∧∃ c,env.cells.lookup x=i' c∧h.IsCell c (i' u))
def jK (H:Hp) (cs:List F'):Prop:=cs.Nodup∧∀ j a,cs[j]?=i' a→∃ o u vs,H a=i' (.Vf o u)∧o.data=.fields vs∧vs[2]?=i' (YD cs (j+1))
def jn (A:V2) (H:Hp):Prop:=A.handled=B'∨∃ a cs,A.handled=i' (.ref a)∧jK H (a::cs)
structure Cx.Ok (X:Cx):Prop where
 mod:Mod X.K X.mg X.base
 kind:X.env.scope.kind=.function
 glob:X.env.globals=V6
 blt:X.env.builtins=Z6
 above:X.s₀.heap.objs.size≤X.env.locals
 inj:∀ x y c,X.env.cells.lookup x=i' c→X.env.cells.lookup y=i' c→x=y
 has:∀ x,(X.env.kindOf x=i' .cell∨X.env.kindOf x=i' .free)→∃ c,X.env.cells.lookup x=i' c
 Zx:∀ x c,X.fn x=D'→X.env.cells.lookup x=i' c→X.s₀.heap.objs.size≤c
 hd:jn X.A X.H₀
 frames:X.A.frames=i' X.stack
 Zy:X.stack=X.outer∨(X.stack=X.env::X.outer∧X.env.frame=i' X.env.locals)
 exf:∀ b∈X.ex,b≠X.env.locals∧∀ x c,X.env.cells.lookup x=i' c→c≠b
 bs:∀ b o,X.base.get? b=i' o→X.s₀.heap.get? b=i' o∧X.H₀ b=B'
 XH:X.base.objs.size≤X.s₀.heap.objs.size
 Y6:∀ b o,X.base.get? b=i' o→b∉X.ex
 Zz:∀ b∈X.ex,b∉X.fs
 W7:X.s₀.heap.FunFrames X.base X.outer
 Yg:∀ b∈X.fs,X.H₀ b=B'
structure Inv (X:Cx) (aa:List (F'×Vd)) (σ:List (Option V)) (H:Hp) (s:UW):Prop where
 ok:X.Ok
 os:s.os=X.s₀.os
 bare:Yz s.gens
 base:Un X.fs X.ex X.H₀ H X.s₀.heap s.heap
 loc:∃ m,s.heap.Ns X.env.locals m∧∀ (i:Nat) (x:C') (v:V),X.N[i]?=i' x→σ[i]?=i' (i' v)→Vis X.env.scope x→∃ u,aA v u∧Look X.env s.heap m x u
 cell:∀ x c,X.env.cells.lookup x=i' c→∃ v,s.heap.IsCell c v
 free:H X.env.locals=B'
 Wx:∀ x c,X.env.cells.lookup x=i' c→H c=B'
 pin:∀ p∈X.pn++aa,s.heap.get? p.1=i' p.2∧H p.1=B'∧p.1≠X.env.locals∧p.1∉X.fs∧∀ v,p.2.data≠.cell v
 UZ:VH X.prog X.w H s.heap
 len:σ.length=X.N.length
section
variable {X:Cx}{σ:List (Option V)}
theorem Cx.Ok.QhK (ok:X.Ok) (e:X.base.get? b=i' o):b∉X.fs:=fun hb=>by
 have:=(ok.W7.mem hb).1
 rw[e] at this;cases this
theorem Inv.bs (I:Inv X aa σ H s):∀ b o,X.base.get? b=i' o→s.heap.get? b=i' o∧H b=B':=fun b o e=>
 ⟨I.base.keep b o (I.ok.bs b o e).1 (I.ok.bs b o e).2 (I.ok.QhK e) (I.ok.Y6 b o e),I.base.free b o (I.ok.bs b o e).1 (I.ok.bs b o e).2 (I.ok.Y6 b o e)⟩
theorem Inv.bk (I:Inv X aa σ H s):∀ b o,X.base.get? b=i' o→s.heap.get? b=i' o:=fun b o e=>(I.bs b o e).1
theorem Inv.mod (I:Inv X aa σ H s):Mod X.K X.mg X.base:=I.ok.mod
theorem Inv.Vv (I:Inv X aa σ H s):X.K.In s.heap:=I.ok.mod.YE.keeps I.bk
theorem jK.mono (c:jK H cs) (k:∀ b o u,H b=i' (.Vf o u)→H' b=i' (.Vf o u)):jK H' cs:=⟨c.1,fun j a hj=>by
 obtain⟨o,u,vs,h,r⟩:=c.2 j a hj
 exact⟨o,u,vs,k a o u h,r⟩⟩
theorem jK.chn (c:jK H cs) (k:VH P w H h):Vx h cs:=⟨c.1,fun j a hj=>by
 obtain⟨o,u,vs,q,r⟩:=c.2 j a hj
 obtain⟨z,_⟩:=k a _ q
 exact⟨o,vs,z,r⟩⟩
theorem jK.Qbr (c:jK H cs) (hb:H b=B'):b∉cs:=fun z=>by
 obtain⟨j,hj⟩:=YN.mp z
 obtain⟨o,u,vs,q,_⟩:=c.2 j b hj
 rw[hb] at q;cases q
theorem jn.mono {A:V2} (x:jn A H) (k:∀ b o u,H b=i' (.Vf o u)→H' b=i' (.Vf o u)):jn A H':=by
 rcases x with e|⟨a,cs,e,c⟩
 .exact .inl e
 .exact .inr ⟨a,cs,e,c.mono k⟩
theorem Inv.Y7 (I:Inv X aa σ H s):jn X.A H:=I.ok.hd.mono I.base.W0
theorem jn.hd (x:jn A H) (k:VH P w H h):Hd A h:=by
 rcases x with e|⟨a,cs,e,c⟩
 .exact .inl e
 .exact .inr ⟨a,cs,e,c.chn k⟩
theorem jn.new {p:F'}{u:HO} (x:jn A H) (hn:H p=B'):jn A (upd H p u):=x.mono fun b o v q=>by rw[aj (ao q hn)];exact q
theorem Inv.hd (I:Inv X aa σ H s):Hd X.A s.heap:=I.Y7.hd I.UZ
theorem Inv.lt (I:Inv X aa σ H s):X.env.locals<s.heap.objs.size:=let ⟨_,hn,_⟩:=I.loc;hn.lt
theorem Inv.sz (I:Inv X aa σ H s):X.s₀.heap.objs.size≤s.heap.objs.size:=SN I.ok.above (S1 I.lt)
theorem Inv.Qem (I:Inv X aa σ H s) (h:s.heap.objs.size≤a):a∉X.fs:=fun hb=>by
 obtain⟨_,o,ho,_⟩:=I.ok.W7.mem hb
 exact U' (Sj (Se ho) (SN I.sz h)) (So _)
theorem Inv.YF (I:Inv X aa σ H s):∀ x c,X.env.cells.lookup x=i' c→c≠X.env.locals:=fun x c e z=>by
 obtain⟨v,o,ho,hd⟩:=I.cell x c e
 obtain⟨m,⟨o',es,ep,ja,cS,_⟩,_⟩:=I.loc
 rw[z,ja] at ho;cases ho;rw[cS] at hd;cases hd
theorem Inv.W7 (I:Inv X aa σ H s):s.heap.FunFrames X.base X.outer:=by
 have all:∀ (l:List Wh),(∀ b∈VR l,b∈X.fs)→X.s₀.heap.FunFrames X.base l→s.heap.FunFrames X.base l:=by
  intro l
  induction l with
  | nil=>intro _ _;trivial
  | cons env r ih=>
   intro hs hl
   obtain⟨hk,⟨L,o,hf,hn,ho,hd⟩,hr⟩:=hl
   have hL:L∈X.fs:=hs L (by unfold VR;rw[TF,hf];exact SJ)
   obtain⟨sl,e⟩:=I.base.slot L o ho (I.ok.Yg L hL) hL fun z=>I.ok.Zz L z hL
   exact⟨hk,⟨L,_,hf,hn,e,hd⟩,ih (fun b hb=>hs b (by unfold VR;rw[TF,hf];exact Sw _ hb)) hr⟩
 exact all X.outer (fun _ hb=>hb) I.ok.W7
theorem Inv.stack (I:Inv X aa σ H s):s.heap.FunFrames X.base X.stack:=by
 rcases I.ok.Zy with e|⟨e,hf⟩
 .rw[e];exact I.W7
 .rw[e]
  obtain⟨m,hn,_⟩:=I.loc
  refine .cons (by rw[I.ok.kind];decide) hf hn ?_ I.W7
  exact Vo.get?_none_of_le (SN I.ok.XH I.ok.above)
theorem Inv.Xw (I:Inv X aa σ H s):∀ b∈VR X.stack,b∈X.env.locals::X.fs:=fun b hb=>by
 rcases I.ok.Zy with e|⟨e,hf⟩
 .rw[e] at hb;exact Sw _ hb
 .rw[e] at hb
  unfold VR at hb
  rw[TF,hf] at hb
  exact hb
theorem Inv.QaN (I:Inv X aa σ H s):∀ b∈VR X.stack,H b=B':=fun b hb=>by
 rcases SS.mp (I.Xw b hb) with e|hb
 .rw[e];exact I.free
 .obtain⟨_,o,ho,_⟩:=I.ok.W7.mem hb
  exact I.base.free b o ho (I.ok.Yg b hb) fun z=>I.ok.Zz b z hb
theorem Inv.step (I:Inv X aa σ H s)
  (gj:∀ b∈ch,(b∈X.ex∨X.s₀.heap.objs.size≤b)∧b≠X.env.locals∧(∀ x c,X.env.cells.lookup x=i' c→c≠b)∧∀ p∈X.pn++aa,p.1≠b)
  (keep:∀ b o,b≠X.env.locals→b∉X.fs→b∉ch→s.heap.get? b=i' o→H b=B'→h'.get? b=i' o)
  (slot:∀ b o,b≠X.env.locals→b∈X.fs→b∉ch→s.heap.get? b=i' o→H b=B'→∃ sl,h'.get? b=i' {o with slots:=sl}) (free:∀ b o,b∉ch→s.heap.get? b=i' o→H b=B'→H' b=B')
  (there:∀ b o,b∉ch→s.heap.get? b=i' o→∃ o',h'.get? b=i' o')
  (Xv:∀ b xs,H b=i' (.tup xs)→H' b=i' (.tup xs)) (W0:∀ b o u,H b=i' (.Vf o u)→H' b=i' (.Vf o u)) (Xj:∀ b p q,H b=i' (.V' p q)→H' b=i' (.V' p q))
  (ns:∀ m,s.heap.Ns X.env.locals m→h'.Ns X.env.locals m) (UZ:VH X.prog X.w H' h') (hg:Yz g') :
  Inv X aa σ H' {s with heap:=h',gens:=g',drawn:=d',toks:=t'}:=by
 have CI:∀ b o,X.s₀.heap.get? b=i' o→b≠X.env.locals:=fun b o e=>Sh (Sj (Se e) I.ok.above)
 have vB:∀ b o,X.s₀.heap.get? b=i' o→b∉X.ex→b∉ch:=fun b o e hx hb=>by
  rcases(gj b hb).1 with z|z
  .exact hx z
  .exact U' (Sj (Se e) z) (So _)
 have mz:∀ x c,X.env.cells.lookup x=i' c→∀ v,s.heap.IsCell c v→h'.IsCell c v:=fun x c e v ⟨o,ho,hd⟩=>by
  have tK:c∉ch:=fun z=>(gj c z).2.2.1 x c e rfl
  by_cases hc:c∈X.fs
  .obtain⟨sl,q⟩:=slot c o (I.YF x c e) hc tK ho (I.Wx x c e)
   exact⟨_,q,hd⟩
  .exact⟨o,keep c o (I.YF x c e) hc tK ho (I.Wx x c e),hd⟩
 refine⟨I.ok,I.os,hg,⟨fun b o e n hb hx=>?_,fun b o e n hb hx=>?_,fun b o e n hx=>?_,fun b o e hx=>?_,fun b xs e=>Xv b xs (I.base.Xv b xs e),fun b o xs e=>W0 b o xs (I.base.W0 b o xs e),fun b p q e=>Xj b p q (I.base.Xj b p q e)⟩,?_,fun x c e=>?_,?_,fun x c e=>?_,fun p hp=>?_,UZ,I.len⟩
 .exact keep b o (CI b o e) hb (vB b o e hx) (I.base.keep b o e n hb hx) (I.base.free b o e n hx)
 .obtain⟨sl,e1⟩:=I.base.slot b o e n hb hx
  obtain⟨zc,e2⟩:=slot b _ (CI b o e) hb (vB b o e hx) e1 (I.base.free b o e n hx)
  exact⟨zc,e2⟩
 .obtain⟨o',e1⟩:=I.base.there b o e hx
  exact free b o' (vB b o e hx) e1 (I.base.free b o e n hx)
 .obtain⟨o',e1⟩:=I.base.there b o e hx
  exact there b o' (vB b o e hx) e1
 .obtain⟨m,hn,hl⟩:=I.loc
  refine⟨m,ns m hn,fun i x v e1 e2 e3=>?_⟩
  obtain⟨u,r,l⟩:=hl i x v e1 e2 e3
  refine⟨u,r,?_⟩
  rcases l with l|⟨k,c,e,z⟩
  .exact .inl l
  .exact .inr ⟨k,c,e,mz x c e _ z⟩
 .obtain⟨v,z⟩:=I.cell x c e
  exact⟨v,mz x c e v z⟩
 .obtain⟨m,⟨o,_,_,ho,_⟩,_⟩:=I.loc
  exact free _ o (fun z=>(gj _ z).2.1 O) ho I.free
 .obtain⟨v,o,ho,hd⟩:=I.cell x c e
  exact free c o (fun z=>(gj c z).2.2.1 x c e O) ho (I.Wx x c e)
 .obtain⟨e,n,ne,nf,d⟩:=I.pin p hp
  have tK:p.1∉ch:=fun z=>(gj p.1 z).2.2.2 p hp rfl
  exact⟨keep p.1 p.2 ne nf tK e n,free p.1 p.2 tK e n,ne,nf,d⟩
theorem Inv.un (I:Inv X aa σ H s) (u:Un X.fs [] H H' s.heap h') (UZ:VH X.prog X.w H' h'):Inv X aa σ H' {s with heap:=h',toks:=t'}:=by
 obtain⟨m,⟨o,es,ep,ho,r⟩,_⟩:=id I.loc
 obtain⟨sl,hL⟩:=u.any ho I.free (by simp)
 exact I.step (g':=s.gens) (d':=s.drawn) (ch:=[]) (fun _ z=>nomatch z) (fun b o _ hb _ e n=>u.keep b o e n hb (by simp)) (fun b o _ hb _ e n=>u.slot b o e n hb (by simp)) (fun b o _ e n=>u.free b o e n (by simp)) (fun b o _ e=>u.there b o e (by simp)) u.Xv u.W0 u.Xj (fun m' hm=>by
  obtain⟨o',ij,yY,ja,r'⟩:=hm
  rw[ho] at ja;cases ja
  exact⟨_,ij,yY,hL,r'⟩) UZ I.bare
theorem Inv.call (I:Inv X aa σ H s) (u:Un (VR X.stack) ch H H' s.heap h') (UZ:VH X.prog X.w H' h') (hg:Yz g')
  (gj:∀ b∈ch,(b∈X.ex∨X.s₀.heap.objs.size≤b)∧b≠X.env.locals∧(∀ x c,X.env.cells.lookup x=i' c→c≠b)∧∀ p∈X.pn++aa,p.1≠b) :
  Inv X aa σ H' {s with heap:=h',gens:=g',drawn:=d',toks:=t'}:=by
 obtain⟨m,⟨o,es,ep,ho,r⟩,_⟩:=id I.loc
 obtain⟨sl,hL⟩:=u.any ho I.free fun z=>(gj _ z).2.1 rfl
 exact I.step (ch:=ch) gj (fun b o hL hb hc e n=>u.keep b o e n (fun z=>(SS.mp (I.Xw b z)).elim hL hb) hc) (fun b o _ _ hc e n=>u.any e n hc) (fun b o hc e n=>u.free b o e n hc) (fun b o hc e=>u.there b o e hc) u.Xv u.W0 u.Xj (fun m' hm=>by
  obtain⟨o',ij,yY,ja,r'⟩:=hm
  rw[ho] at ja;cases ja
  exact⟨_,ij,yY,hL,r'⟩) UZ hg
theorem Inv.turned (I:Inv X aa σ H s) (k:∀ b o,b≠it→s.heap.get? b=i' o→h'.get? b=i' o) (hn:H it=B') (hL:it≠X.env.locals)
  (h1:it∈X.ex∨X.s₀.heap.objs.size≤it) (h2:∀ x c,X.env.cells.lookup x=i' c→c≠it) (h3:∀ p∈X.pn++aa,p.1≠it):Inv X aa σ H {s with heap:=h',toks:=t'}:=by
 have C2:∀ b u,H b=i' u→b≠it:=fun b u e z=>by rw[z,hn] at e;cases e
 refine I.step (g':=s.gens) (d':=s.drawn) (ch:=[it]) (fun b hb=>?_) (fun b o _ _ hc e _=>k b o (fun z=>hc (by simp[z])) e) (fun b o _ _ hc e _=>⟨o.slots,k b o (fun z=>hc (by simp[z])) e⟩) (fun _ _ _ _ n=>n)
  (fun b o hc e=>⟨o,k b o (fun z=>hc (by simp[z])) e⟩) (fun _ _ e=>e) (fun _ _ _ e=>e) (fun _ _ _ e=>e) (fun m hm=>?_) (fun b u e=>?_) I.bare
 .have e:b=it:=by simpa using hb
  subst e
  exact⟨h1,hL,h2,h3⟩
 .obtain⟨o,es,ep,ho,r⟩:=hm
  exact⟨o,es,ep,k _ o (U5 hL) ho,r⟩
 .refine(I.UZ b u e).WZ (fun c v hc q=>k c v ?_ q) (fun _ q=>q) fun _ _ q=>q
  rcases hc with z|z
  .rw[z];exact C2 b u e
  .exact C2 c _ z
theorem Inv.tok (I:Inv X aa σ H s) (t:Nat):Inv X aa σ H {s with toks:=t}:=I.un (h':=s.heap) (t':=t) Un.refl I.UZ
theorem Inv.kept {t':Nat} (I:Inv X aa σ H s) (k:∀ b u,s.heap.get? b=i' u→h'.get? b=i' u):Inv X aa σ H {s with heap:=h',toks:=t'}:=I.un (Un.kept k) (I.UZ.kept k)
theorem Inv.laid {a:F'}{o:HO}{t':Nat} (I:Inv X aa σ H s) (k:∀ b u,s.heap.get? b=i' u→h'.get? b=i' u) (hp:s.heap.objs.size≤a) (new:cM X.prog X.w (upd H a o) h' a o) :
  Inv X aa σ (upd H a o) {s with heap:=h',toks:=t'}:=I.un (Un.laid k hp (I.UZ.fresh hp)) (I.UZ.laid k hp new)
theorem Inv.write {x e:F'}{o:HO}{t':Nat} (I:Inv X aa σ H s) (mu:Mut (H x)) (he:e=x∨H e=i' (.own x)) (k:∀ b u,b≠e→s.heap.get? b=i' u→h'.get? b=i' u) (qh:∃ u,h'.get? e=i' u)
  (new:cM X.prog X.w (upd H x o) h' x o):Inv X aa σ (upd H x o) {s with heap:=h',toks:=t'}:=I.un (Un.write mu he k qh) (I.UZ.write mu he k qh new)
theorem Inv.Y8 (I:Inv X aa σ H s) (h:∀ p∈bR,s.heap.get? p.1=i' p.2∧H p.1=B'∧p.1≠X.env.locals∧p.1∉X.fs∧∀ v,p.2.data≠.cell v):Inv X bR σ H s:=
 ⟨I.ok,I.os,I.bare,I.base,I.loc,I.cell,I.free,I.Wx,fun p hp=>(Wb.mp hp).elim (fun z=>I.pin p (SD _ z)) (h p),I.UZ,I.len⟩
theorem Aj (hN:N.Nodup){j:Nat} (a:N[i]?=i' x) (b:N[j]?=i' x):i=j:=by
 obtain⟨h1,e1⟩:=VI.mp a
 obtain⟨h2,e2⟩:=VI.mp b
 exact(List.getElem_inj hN).mp (e1.trans e2.symm)
theorem GZ {Q:Unit→UW→Prop} (I:Inv X aa σ H s) (hN:X.N.Nodup) (hi:X.N[i]?=i' x) (hx:Loc X.env.scope x) (r:aA v u)
  (h:∀ s',Inv X aa (σ.set i (i' v)) H s'→(∃ a,Yb a s.heap s'.heap∧(a=X.env.locals∨X.env.cells.lookup x=i' a))→Q () s') (hf:X.fn x=D'∨X.env.scope.names.lookup x=i' .local:=by first|exact .inl rfl|exact .inr rfl|assumption):L' M A (storeName X.env x u) Q E s:=by
 obtain⟨m,hn,hl⟩:=id I.loc
 have oP:(X.env.scope.kind == .class || (X.env.scope.kind == .module && X.env.locals != X.env.globals))=M':=by rw[I.ok.kind];rfl
 have wa:i<σ.length:=by rw[I.len];exact(VI.mp hi).1
 have YF:=I.YF
 have il:∀ {a:F'}{h':Vo},(∃ o,s.heap.get? a=i' o∧H a=B')→Yb a s.heap h'→VH X.prog X.w H h':=fun {a h'} ha hs b ob e=>by
  obtain⟨_,_,mq⟩:=ha
  refine(I.UZ b ob e).WZ (fun c w' hc q=>(hs.2 c ?_).trans q) (fun _ q=>q) fun _ _ q=>q
  rintro rfl
  rcases hc with rfl|hc
  .rw[mq] at e;cases e
  .rw[mq] at hc;cases hc
 rcases hx with hk|hk
 .refine wpAny_storeName_local hk hn (fun h' lj hs=>?_) oP
  obtain⟨oL,_,_,B5,_⟩:=id hn
  refine h _ ⟨I.ok,I.os,I.bare,⟨fun b o e n hb hx=>?_,fun b o e n hb hx=>?_,I.base.free,fun b o e hx=>?_,I.base.Xv,I.base.W0,I.base.Xj⟩,⟨_,lj,fun j y v' e1 e2 e3=>?_⟩,fun y c e=>?_,I.free,I.Wx,fun p hp=>?_,il ⟨oL,B5,I.free⟩ hs,by simpa using I.len⟩ ⟨_,hs,.inl rfl⟩
  .exact(hs.2 b (Sh (Sj (Se e) I.ok.above))).trans (I.base.keep b o e n hb hx)
  .obtain⟨sl,e1⟩:=I.base.slot b o e n hb hx
   exact⟨sl,(hs.2 b (Sh (Sj (Se e) I.ok.above))).trans e1⟩
  .obtain⟨o',e1⟩:=I.base.there b o e hx
   exact⟨o',(hs.2 b (Sh (Sj (Se e) I.ok.above))).trans e1⟩
  .by_cases hj:j=i
   .subst hj
    rw[hi] at e1;cases e1
    rw[Tw wa] at e2
    cases e2
    exact⟨u,r,.inl ⟨hk,by simp⟩⟩
   .rw[TB (U5 hj)] at e2
    obtain⟨u',r',q⟩:=hl j y v' e1 e2 e3
    refine⟨u',r',?_⟩
    rcases q with⟨k,e⟩|⟨k,c,e,z⟩
    .refine .inl ⟨k,?_⟩
     have:y≠x:=fun e=>hj (Aj hN e1 (e ▸ hi))
     simp[this,e]
    .exact .inr ⟨k,c,e,z.sameBut hs (YF y c e)⟩
  .obtain⟨w',z⟩:=I.cell y c e
   exact⟨w',z.sameBut hs (YF y c e)⟩
  .obtain⟨e,n,ne,nf,d⟩:=I.pin p hp
   exact⟨(hs.2 p.1 ne).trans e,n,ne,nf,d⟩
 .have xJ:X.fn x=D':=by
   rcases hf with z|z
   .exact z
   .rw[z] at hk;cases hk
  obtain⟨c,hc⟩:=I.ok.has x (.inl hk)
  obtain⟨w',z⟩:=I.cell x c hc
  refine wpAny_storeName_cell I.ok.kind hk hc z (fun h' iF hs=>?_)
  obtain⟨oc,sv,yf⟩:=id z
  refine h {s with heap:=h'} ⟨I.ok,I.os,I.bare,⟨fun b o e n hb hx=>?_,fun b o e n hb hx=>?_,I.base.free,fun b o e hx=>?_,I.base.Xv,I.base.W0,I.base.Xj⟩,⟨m,hn.sameBut hs (U5 (YF x c hc)),fun j y v' e1 e2 e3=>?_⟩,fun y c' e=>?_,I.free,I.Wx,fun p hp=>?_,il ⟨oc,sv,I.Wx x c hc⟩ hs,by simpa using I.len⟩ ⟨c,hs,.inr hc⟩
  .exact(hs.2 b (Sh (Sj (Se e) (I.ok.Zx x c xJ hc)))).trans (I.base.keep b o e n hb hx)
  .obtain⟨sl,e1⟩:=I.base.slot b o e n hb hx
   exact⟨sl,(hs.2 b (Sh (Sj (Se e) (I.ok.Zx x c xJ hc)))).trans e1⟩
  .obtain⟨o',e1⟩:=I.base.there b o e hx
   exact⟨o',(hs.2 b (Sh (Sj (Se e) (I.ok.Zx x c xJ hc)))).trans e1⟩
  .by_cases hj:j=i
   .subst hj
    rw[hi] at e1;cases e1
    rw[Tw wa] at e2
    cases e2
    exact⟨u,r,.inr ⟨.inl hk,c,hc,iF⟩⟩
   .rw[TB (U5 hj)] at e2
    obtain⟨u',r',q⟩:=hl j y v' e1 e2 e3
    refine⟨u',r',?_⟩
    rcases q with q|⟨k,c',e,z'⟩
    .exact .inl q
    .refine .inr ⟨k,c',e,z'.sameBut hs ?_⟩
     rintro rfl
     exact hj (Aj hN e1 (I.ok.inj _ _ _ e hc ▸ hi))
  .by_cases DB:c'=c
   .subst DB;exact⟨_,iF⟩
   .obtain⟨w2,z2⟩:=I.cell y c' e
    exact⟨w2,z2.sameBut hs DB⟩
  .obtain⟨e,n,ne,nf,d⟩:=I.pin p hp
   refine⟨(hs.2 p.1 ?_).trans e,n,ne,nf,d⟩
   intro q
   rw[q,sv] at e
   have q':oc=p.2:=VQ e
   exact d w' (by rw[← q'];exact yf)
theorem Aq {Q:Unit→UW→Prop} (I:Inv X aa σ H s) (hN:X.N.Nodup) (hi:X.N[i]?=i' x) (hx:Loc X.env.scope x) (r:aA v u)
  (h:∀ s',Inv X aa (σ.set i (i' v)) H s'→Q () s') (hf:X.fn x=D'∨X.env.scope.names.lookup x=i' .local:=by first|exact .inl rfl|exact .inr rfl|assumption):L' M A (storeName X.env x u) Q E s:=
 GZ I hN hi hx r (fun s' I' _=>h s' I') hf
theorem Inv.Qen (I:Inv X aa σ H s) (ho:s'.os=s.os) (u:Un (VR X.stack) ch H H' s.heap s'.heap) (UZ:VH X.prog X.w H' s'.heap) (hg:Yz s'.gens)
  (gj:∀ b∈ch,(b∈X.ex∨X.s₀.heap.objs.size≤b)∧b≠X.env.locals∧(∀ x c,X.env.cells.lookup x=i' c→c≠b)∧∀ p∈X.pn++aa,p.1≠b):Inv X aa σ H' s':=by
 obtain⟨h',g',d',t',o'⟩:=s'
 have e:o'=s.os:=ho
 subst e
 exact I.call (g':=g') (t':=t') (d':=d') u UZ hg gj
end
abbrev XK:=K'→Option F'→Hp→Prop
abbrev St:=List (Option V)
abbrev VK:=V→Hp→Prop
abbrev TE:=St→Hp→VK→Prop
abbrev TT:=St→Hp→(Bool→Hp→Prop)→Prop
abbrev TA:=St→Hp→(List V→Hp→Prop)→Prop
structure d8 where
 nx:St→Hp→Prop
 rt:VK
 bk:St→Hp→Prop:=fun _ _=>False
 ct:St→Hp→Prop:=fun _ _=>False
abbrev TS:=d8→St→Hp→Prop
def EP (X:Cx) (aa:List (F'×Vd)) (σ:St) (Q:VK) (u:K') (s':UW):Prop:=∃ v H',Inv X aa σ H' s'∧aA v u∧Q v H'
def TP (X:Cx) (aa:List (F'×Vd)) (σ:St) (Q:Bool→Hp→Prop) (b:Bool) (s':UW):Prop:=∃ H',Inv X aa σ H' s'∧Q b H'
def AP (X:Cx) (aa:List (F'×Vd)) (σ:St) (Q:List V→Hp→Prop) (us:List K') (s':UW):Prop:=∃ vs H',Inv X aa σ H' s'∧aB vs us∧Q vs H'
def SP (X:Cx) (aa:List (F'×Vd)) (D:d8) (f:X3) (s':UW):Prop:=
 match f with
 | .next=>∃ σ' H',Inv X aa σ' H' s'∧D.nx σ' H'
 | .brk=>∃ σ' H',Inv X aa σ' H' s'∧D.bk σ' H'
 | .cont=>∃ σ' H',Inv X aa σ' H' s'∧D.ct σ' H'
 | .ret u=>∃ v σ' H',Inv X aa σ' H' s'∧aA v u∧D.rt v H'
def PE (X:Cx) (e:Vh) (t:TE):Prop:=
 ∀ (aa:List (F'×Vd)) (s:UW) (σ:St) (H:Hp) (Q:VK),Inv X aa σ H s→t σ H Q→L' (UV X.prog X.w) X.A (Vg e X.env) (EP X aa σ Q) X.xe s
def PT (X:Cx) (e:Vh) (t:TT):Prop:=
 ∀ (aa:List (F'×Vd)) (s:UW) (σ:St) (H:Hp) (Q:Bool→Hp→Prop),Inv X aa σ H s→t σ H Q→L' (UV X.prog X.w) X.A (QaL e X.env (Vg e X.env)) (TP X aa σ Q) X.xe s
def PW (X:Cx) (e:Vh) (t:TT):Prop:=
 ∀ (db:W6 K') (aa:List (F'×Vd)) (s:UW) (σ:St) (H:Hp) (Q:Bool→Hp→Prop),Inv X aa σ H s→t σ H Q→L' (UV X.prog X.w) X.A (QaL e X.env db) (TP X aa σ Q) X.xe s
theorem PW.pt {X:Cx}{t:TT} (h:PW X e t):PT X e t:=h _
def PA (X:Cx) (es:List Vh) (t:TA):Prop:=
 ∀ (pos:VZ) (aa:List (F'×Vd)) (s:UW) (σ:St) (H:Hp) (Q:List V→Hp→Prop),Inv X aa σ H s→t σ H Q→L' (UV X.prog X.w) X.A (spliced (VP pos (Vk es X.env))) (AP X aa σ Q) X.xe s
def PS (X:Cx) (st:Vc) (t:TS):Prop:=
 ∀ (aa:List (F'×Vd)) (s:UW) (σ:St) (H:Hp) (D:d8),Inv X aa σ H s→t D σ H→L' (UV X.prog X.w) X.A (exec st X.env) (SP X aa D) X.xe s
def Wy (X:Cx) (st:List Vc) (t:TS):Prop:=
 ∀ (aa:List (F'×Vd)) (s:UW) (σ:St) (H:Hp) (D:d8),Inv X aa σ H s→t D σ H→L' (UV X.prog X.w) X.A (execs st X.env) (SP X aa D) X.xe s
theorem U6 {α:Type}{t:W6 α}{Q Q':α→UW→Prop} (h:L' M A t Q E s) (hQ:∀ a s,Q a s→Q' a s):L' M A t Q' E s:=SE h hQ fun _ _ x=>x
section
variable {X:Cx}
inductive QhL (i:Nat) (σ:St) (H:Hp) (Q:VK):Prop where
 | mk (v:V) (h:σ[i]?=i' (i' v)) (k:Q v H)
def QcE (i:Nat):TE:=fun σ H Q=>QhL i σ H Q
def tC (v:V):TE:=fun _ H Q=>Q v H
theorem QhM (hN:X.N[i]?=i' x) (hv:Vis X.env.scope x) (hd:(x == ("__debug__":C'))=M':=by decide) (gq:(x == ("__classdict__":C'))=M':=by decide):PE X (.Name x pos) (QcE i):=by
 intro aa s σ H Q I h
 obtain⟨v,e,h⟩:=h
 obtain⟨m,hn,hl⟩:=I.loc
 obtain⟨u,r,l⟩:=hl i x v hN e hv
 have aG:EP X aa σ Q u s:=⟨v,H,I,r,h⟩
 rcases l with⟨hk,hm⟩|⟨hk,c,hc,bJ⟩
 .exact UU (wpAny_loadName_local I.ok.kind hk hn hm aG) hd
 .rcases hk with hk|hk
  .exact UU (wpAny_loadName_cell I.ok.kind hk hc bJ aG) hd
  .exact UU (wpAny_loadName_free I.ok.kind hk hc bJ aG gq) hd
theorem au {i j pos}:PE X (.Constant (.int i) j pos) (tC (.int i)):=fun _ _ _ H _ I h=>UI ⟨.int i,H,I.tok _,⟨_,O⟩,h⟩
theorem uz {b j pos}:PE X (.Constant (.bool b) j pos) (tC (.bl b)):=fun _ _ _ H _ I h=>Constant_bool ⟨.bl b,H,I,O,h⟩
theorem GN {j pos}:PE X (.Constant .none j pos) (tC .U8):=fun _ _ _ H _ I h=>Qd7 ⟨.U8,H,I,O,h⟩
theorem aN {x j pos}:PE X (.Constant (.str x) j pos) (tC (.str x)):=fun _ _ _ H _ I h=>Calls.Constant_str ⟨.str x,H,I.tok _,⟨_,O⟩,h⟩
def Gl (X:Cx) (x:C'):Prop:=X.env.kindOf x=i' .globalImplicit
theorem pW {σ:St} (I:Inv X aa σ H s) (hg:Gl X x) (hm:X.mg x=i' u) (h:Q u s)
  (hd:(x == ("__debug__":C'))=M':=by decide):L' (UV X.prog X.w) X.A (Vg (.Name x pos) X.env) Q E s:=
 Qdg I.ok.kind hg (QfW (by rw[I.ok.glob];exact I.mod.glob.keeps I.bk) hm h) hd
theorem jr {σ:St} (I:Inv X aa σ H s) (hg:Gl X x) (hm:X.mg x=B') (hv:WK x=i' u) (h:Q u s)
  (hn:x≠"__name__":=by decide) (hd:(x == ("__debug__":C'))=M':=by decide):L' (UV X.prog X.w) X.A (Vg (.Name x pos) X.env) Q E s:=by
 obtain⟨mb,h1,h2⟩:=I.mod.blt
 exact Qdg I.ok.kind hg (Calls.loadGlobal_builtin (by rw[I.ok.glob];exact I.mod.glob.keeps I.bk) hm (by rw[I.ok.blt];exact h1.keeps I.bk) ((h2 x hn).trans hv) h) hd
theorem BE (hg:Gl X x) (hm:X.mg x=i' u) (r:aA v u) (hd:(x == ("__debug__":C'))=M':=by decide):PE X (.Name x pos) (tC v):=
 fun _ _ _ H _ I h=>pW I hg hm ⟨v,H,I,r,h⟩ hd
theorem Mb (hg:Gl X x) (hm:X.mg x=B') (hv:WK x=i' u) (r:aA v u) (hn:x≠"__name__":=by decide) (hd:(x == ("__debug__":C'))=M':=by decide):PE X (.Name x pos) (tC v):=
 fun _ _ _ H _ I h=>jr I hg hm hv ⟨v,H,I,r,h⟩ hn hd
variable {a b:Vh}{ta tb:TE}
def PC (X:Cx) (op:CmpOp) (a b:Vh) (t:TE):Prop:=
 ∀ (aa:List (F'×Vd)) (s:UW) (σ:St) (H:Hp) (Q:VK),Inv X aa σ H s→t σ H Q →
  L' (UV X.prog X.w) X.A (Vg a X.env) (fun v s₁=>L' (UV X.prog X.w) X.A (Vg b X.env) (fun u s₂=>L' (UV X.prog X.w) X.A (WR op v u) (EP X aa σ Q) X.xe s₂) X.xe s₁) X.xe s
theorem O9 (b:Vh) (h:op≠.In) (h2:op≠.NotIn):Z1 op b=M':=by
 have e1:(op == QhD)=M':=by cases op<;>first|rfl|exact U' O h
 have e2:(op == Qg7)=M':=by cases op<;>first|rfl|exact U' O h2
 cases b<;>simp[Z1,e1,e2]
def QhN (ta:TE):TE:=fun σ H Q=>ta σ H fun x H1=>Q (.bl (decide (x=.U8))) H1
def QhO (ta:TE):TE:=fun σ H Q=>ta σ H fun x H1=>Q (.bl (!decide (x=.U8))) H1
theorem aA.Qeo {x:V}{v:K'} (r:aA x v):(v == VD)=decide (x=.U8):=by
 cases x with
 | U8=>cases r;rfl
 | bl _=>cases r;rfl
 | int _=>obtain⟨t,rfl⟩:=r;rfl
 | str _=>obtain⟨t,rfl⟩:=r;rfl
 | byt _=>obtain⟨t,rfl⟩:=r;rfl
 | Y5 _=>obtain⟨t,rfl⟩:=r;rfl
 | ref _=>cases r;rfl
 | ty _=>cases r;rfl
theorem Bv {j a9} (ha:PE X a ta):PC X .Is a (.Constant .none j a9) (QhN ta):=by
 intro aa s σ H Q I h
 refine U6 (ha aa s σ H _ I h) fun v s1=>L2.Ve fun x H1 I1 r1 q1=>?_
 exact Qd7 (is_none_gen ⟨.bl _,H1,I1,by rw[r1.Qeo];rfl,q1⟩)
theorem Qd {j a9} (ha:PE X a ta):PC X .IsNot a (.Constant .none j a9) (QhO ta):=by
 intro aa s σ H Q I h
 refine U6 (ha aa s σ H _ I h) fun v s1=>L2.Ve fun x H1 I1 r1 q1=>?_
 exact Qd7 (isnot_none_gen ⟨.bl _,H1,I1,by rw[r1.Qeo];rfl,q1⟩)
inductive tBI (Q:(Bool→Hp→Prop)) (x:V) (H1:Hp):Prop
 | mk (c:_) (_:x=.bl c) (_:Q c H1)
def tB (t:TE):TT:=fun σ H Q=>t σ H fun x H1=>tBI Q x H1
theorem jQ {t:TE} (h:PC X op a b t) (h1:Z1 op b=M':=by first|exact O9 _ (by decide) (by decide)|rfl):PT X (.Compare a [op] [b] pos) (tB t):=by
 intro aa s σ H Q I hw
 refine Ux (U6 (h aa s σ H _ I hw) fun v s1 h1=>U6 h1 fun u s2 h2=>U6 h2 fun c s3=>L2.Ve fun x H1 I1 r1 q1=>?_) h1
 obtain⟨d,rfl,q⟩:=q1
 cases r1
 exact SO ⟨H1,I1,q⟩
theorem iT {t:TE} (h:PE X e t) (he:∀ db,QaL e X.env db=(do let v ← db;Zu e.pos;WX [v] (truthy v)):=by intro _;rfl):PT X e (tB t):=by
 intro aa s σ H Q I hw
 refine isTrue_plain (U6 (h aa s σ H _ I hw) fun v s1=>L2.Ve fun x H1 I1 r1 q1=>?_) (he _)
 obtain⟨d,rfl,q⟩:=q1
 cases r1
 exact SO ⟨H1,I1,q⟩
variable {tA wo:TT}{aW:List Vh}
def QhP (t u:TT):TT:=fun σ H Q=>t σ H fun c H1=>if c=D' then u σ H1 Q else Q M' H1
def tOr (t u:TT):TT:=fun σ H Q=>t σ H fun c H1=>if c=D' then Q D' H1 else u σ H1 Q
def QhQ (t:TT):TT:=fun σ H Q=>t σ H fun c H1=>Q (!c) H1
theorem qM (ha:PT X a tA):PW X (.BoolOp .And [a] pos) tA:=by
 intro wh aa s σ H Q I h
 refine isTrue_and (U6 (ha aa s σ H Q I h) fun c s1 e=>?_)
 cases c with
 | true=>exact isTrue_and_nil e
 | false=>exact e
theorem qT (ha:PT X a tA):PW X (.BoolOp .Or [a] pos) tA:=by
 intro wh aa s σ H Q I h
 refine isTrue_or (U6 (ha aa s σ H Q I h) fun c s1 e=>?_)
 cases c with
 | false=>exact isTrue_or_nil e
 | true=>exact e
theorem pI (ha:PT X a tA) (hb:PW X (.BoolOp .And (b::aW) pos) wo):PW X (.BoolOp .And (a::b::aW) pos) (QhP tA wo):=by
 intro wh aa s σ H Q I h
 refine isTrue_and (U6 (ha aa s σ H _ I h) fun c s1=>L2.Xu fun H1 I1 q1=>?_)
 cases c with
 | true=>exact hb wh aa s1 σ H1 Q I1 q1
 | false=>exact⟨H1,I1,q1⟩
theorem lS (ha:PT X a tA) (hb:PW X (.BoolOp .Or (b::aW) pos) wo):PW X (.BoolOp .Or (a::b::aW) pos) (tOr tA wo):=by
 intro wh aa s σ H Q I h
 refine isTrue_or (U6 (ha aa s σ H _ I h) fun c s1=>L2.Xu fun H1 I1 q1=>?_)
 cases c with
 | true=>exact⟨H1,I1,q1⟩
 | false=>exact hb wh aa s1 σ H1 Q I1 q1
theorem kG (ha:PT X a tA):PT X (.UnaryOp .Not a pos) (QhQ tA):=by
 intro aa s σ H Q I h
 exact isTrue_not (ha aa s σ H (fun c H1=>Q (!c) H1) I h)
inductive QhR (tb:TE) (σ:St) (Q:VK) (x:V) (H1:Hp):Prop
 | mk (c:_) (_:x=.bl c) (_:if c=D' then tb σ H1 Q else Q (.bl M') H1)
def QhS (ta tb:TE):TE:=fun σ H Q=>ta σ H fun x H1=>QhR tb σ Q x H1
inductive QhT (tb:TE) (σ:St) (Q:VK) (x:V) (H1:Hp):Prop
 | mk (c:_) (_:x=.bl c) (_:if c=D' then Q (.bl D') H1 else tb σ H1 Q)
def QhU (ta tb:TE):TE:=fun σ H Q=>ta σ H fun x H1=>QhT tb σ Q x H1
inductive QhV (Q:VK) (x:V) (H1:Hp):Prop
 | mk (c:_) (_:x=.bl c) (_:Q (.bl (!c)) H1)
def QhW (ta:TE):TE:=fun σ H Q=>ta σ H fun x H1=>QhV Q x H1
theorem pD {op}{t:TE} (h:PE X a t):PE X (.BoolOp op [a] pos) t:=fun aa s σ H Q I hw=>BoolOp_one (h aa s σ H Q I hw)
theorem uX (ha:PE X a ta) (hb:PE X (.BoolOp .And (b::aW) pos) tb):PE X (.BoolOp .And (a::b::aW) pos) (QhS ta tb):=by
 intro aa s σ H Q I h
 refine BoolOp_and (U6 (ha aa s σ H _ I h) fun v s1=>L2.Ve fun x H1 I1 r1 q1=>?_)
 obtain⟨c,rfl,q1⟩:=q1
 cases r1
 refine SO ?_
 cases c with
 | true=>exact hb aa s1 σ H1 Q I1 q1
 | false=>exact⟨.bl M',H1,I1,O,q1⟩
theorem w5 (ha:PE X a ta) (hb:PE X (.BoolOp .Or (b::aW) pos) tb):PE X (.BoolOp .Or (a::b::aW) pos) (QhU ta tb):=by
 intro aa s σ H Q I h
 refine BoolOp_or (U6 (ha aa s σ H _ I h) fun v s1=>L2.Ve fun x H1 I1 r1 q1=>?_)
 obtain⟨c,rfl,q1⟩:=q1
 cases r1
 refine SO ?_
 cases c with
 | false=>exact hb aa s1 σ H1 Q I1 q1
 | true=>exact⟨.bl D',H1,I1,O,q1⟩
theorem HS (ha:PE X a ta):PE X (.UnaryOp .Not a pos) (QhW ta):=by
 intro aa s σ H Q I h
 refine UnaryOp_ (U6 (ha aa s σ H _ I h) fun v s1=>L2.Ve fun x H1 I1 r1 q1=>?_)
 obtain⟨c,rfl,q1⟩:=q1
 cases r1
 exact not_of (SO ⟨.bl (!c),H1,I1,O,q1⟩)
def tIf (t:TT) (ta tb:TE):TE:=fun σ H Q=>t σ H fun c H1=>if c=D' then ta σ H1 Q else tb σ H1 Q
theorem wv (hc:PT X c tA) (ha:PE X a ta) (hb:PE X b tb):PE X (.IfExp c a b pos) (tIf tA ta tb):=by
 intro aa s σ H Q I h
 refine wpAny_IfExp (U6 (hc aa s σ H _ I h) fun d s1=>L2.Xu fun H1 I1 q1=>?_)
 cases d with
 | true=>exact ha aa s1 σ H1 Q I1 q1
 | false=>exact hb aa s1 σ H1 Q I1 q1
end
def P' (K:R') (H:Hp) (a:F') (xs:List V):Prop:=
 Rd H a (.lst xs) ∨
  ∃ (o:Vd) (ag:Array K') (n:Nat),K.lookup a=i' o∧o.cls=.type "list"∧o.dict=B'∧o.data=.seq ag n∧ag.size≤U2∧aB xs ag.toList
def Vi (K:R') (H:Hp) (a:F') (xs:List V):Prop:=
 Rd H a (.tup xs) ∨
  ∃ (o:Vd) (ag:Array K') (n:Nat),K.lookup a=i' o∧o.cls=.type "tuple"∧o.data=.seq ag n∧ag.size≤U2∧aB xs ag.toList
def QhX:K'→Option V
 | .none=>i' .U8
 | .bool b=>i' (.bl b)
 | .int i _=>i' (.int i)
 | .str x _=>i' (.str x)
 | .bytes b _=>i' (.byt b)
 | .float b _=>i' (.Y5 b)
 | .ref a=>i' (.ref a)
 | .type n=>i' (.ty n)
 | _=>B'
variable {D:d8}{X:Cx}{a9 Qag:VZ}{body st:List Vc}{es:List Vh}{fp:List F'}{lo:Int}{n:Nat}{tb:TS}{tc:TT}{te ti tl to:TE}{tg:Vh}{xs:List V}{σ:St}
theorem aA.abs {x:V} (r:aA x u):QhX u=i' x:=by
 cases x with
 | U8=>cases r;rfl
 | bl _=>cases r;rfl
 | int _=>obtain⟨t,rfl⟩:=r;rfl
 | str _=>obtain⟨t,rfl⟩:=r;rfl
 | byt _=>obtain⟨t,rfl⟩:=r;rfl
 | Y5 _=>obtain⟨t,rfl⟩:=r;rfl
 | ref _=>cases r;rfl
 | ty _=>cases r;rfl
theorem aA.inj {x y:V}{u:K'} (r:aA x u) (q:aA y u):x=y:=VQ (r.abs.symm.trans q.abs)
theorem aB.inj:∀ {xs ys:List V}{us:List K'},aB xs us→aB ys us→xs=ys
 | _,_,_,.nil,.nil=>rfl
 | _,_,_,.cons r t,.cons r' t'=>by rw[r.inj r',aB.inj t t']
section
variable {ys:List V}
theorem P'.of {K:R'} (h:H a=i' (.lst xs)):P' K H a xs:=.inl (.inl h)
theorem Vi.of {K:R'} (h:H a=i' (.tup xs)):Vi K H a xs:=.inl (.inl h)
theorem Inv.list (I:Inv X aa σ H s) (h:P' X.K H a xs):∃ ag:List K',aB xs ag∧PlainL s.heap a ag.toArray∧xs.length≤U2:=by
 rcases h with h|⟨o,ag,n,hk,hc,hd,hs,hz,r⟩
 .obtain⟨z,ag,n,r,e⟩:=h.ok I.UZ
  exact⟨ag,r,⟨_,n,e,O,O,O⟩,z⟩
 .refine⟨ag.toList,r,⟨o,n,I.Vv a o hk,hc,hd,by simpa using hs⟩,?_⟩
  have e:=r.length
  simp only[T3] at e
  lia
theorem Inv.tuple (I:Inv X aa σ H s) (h:Vi X.K H a xs):∃ ag:List K',aB xs ag∧Qaf s.heap a ag.toArray∧xs.length≤U2:=by
 rcases h with h|⟨o,ag,n,hk,hc,hs,hz,r⟩
 .obtain⟨z,ag,r,p⟩:=h.ok I.UZ
  exact⟨ag,r,p,z⟩
 .refine⟨ag.toList,r,⟨o,I.Vv a o hk,hc,n,by simpa using hs⟩,?_⟩
  have e:=r.length
  simp only[T3] at e
  lia
theorem Inv.QaO (I:Inv X aa σ H s) (h:P' X.K H a xs) (h':P' X.K H a ys):xs=ys:=by
 obtain⟨ag,r,⟨o,n,e,_,_,d⟩,_⟩:=I.list h
 obtain⟨its',r',⟨o',n',e',_,_,d'⟩,_⟩:=I.list h'
 rw[e] at e';cases e'
 rw[d] at d'
 injection d' with d1 _
 have:ag=its':=by simpa using WS QgZ d1
 subst this
 exact r.inj r'
theorem Inv.QhY (I:Inv X aa σ H s) (h:Vi X.K H a xs) (h':Vi X.K H a ys):xs=ys:=by
 obtain⟨ag,r,⟨o,e,_,n,d⟩,_⟩:=I.tuple h
 obtain⟨its',r',⟨o',e',_,n',d'⟩,_⟩:=I.tuple h'
 rw[e] at e';cases e'
 rw[d] at d'
 injection d' with d1 _
 have:ag=its':=by simpa using WS QgZ d1
 subst this
 exact r.inj r'
end
abbrev Cx.wish (X:Cx) (E:K'→UW→Prop):Cx:={X with xe:=E}
abbrev Cx.ZA (X:Cx):Cx:=X.wish fun _ _=>False
theorem Cx.Ok.wish {X:Cx} (ok:X.Ok) (E:K'→UW→Prop):(X.wish E).Ok:=
 ⟨ok.mod,ok.kind,ok.glob,ok.blt,ok.above,ok.inj,ok.has,ok.Zx,ok.hd,ok.frames,ok.Zy,ok.exf,ok.bs,ok.XH,ok.Y6,ok.Zz,ok.W7,ok.Yg⟩
theorem Cx.Ok.Y9 (ok:(X.wish E).Ok):X.Ok:=
 ⟨ok.mod,ok.kind,ok.glob,ok.blt,ok.above,ok.inj,ok.has,ok.Zx,ok.hd,ok.frames,ok.Zy,ok.exf,ok.bs,ok.XH,ok.Y6,ok.Zz,ok.W7,ok.Yg⟩
theorem Inv.wish (I:Inv X aa σ H s) (E:K'→UW→Prop):Inv (X.wish E) aa σ H s:=⟨I.ok.wish E,I.os,I.bare,I.base,I.loc,I.cell,I.free,I.Wx,I.pin,I.UZ,I.len⟩
theorem Inv.Y9 (I:Inv (X.wish E) aa σ H s):Inv X aa σ H s:=⟨I.ok.Y9,I.os,I.bare,I.base,I.loc,I.cell,I.free,I.Wx,I.pin,I.UZ,I.len⟩
theorem SP.Y9 {D:d8}{f:X3}{s':UW} (h:SP (X.wish E) aa D f s'):SP X aa D f s':=by
 cases f with
 | next=>obtain⟨σ',H',I,q⟩:=h;exact⟨σ',H',I.Y9,q⟩
 | brk=>obtain⟨σ',H',I,q⟩:=h;exact⟨σ',H',I.Y9,q⟩
 | cont=>obtain⟨σ',H',I,q⟩:=h;exact⟨σ',H',I.Y9,q⟩
 | ret u=>obtain⟨v,σ',H',I,r,q⟩:=h;exact⟨v,σ',H',I.Y9,r,q⟩
theorem Wy.ZA {t:TS} (h:Wy X.ZA st t):Wy X st t:=fun aa s σ H D I hw=>
 SE (h aa s σ H D (I.wish _) hw) (fun _ _ q=>q.Y9) fun _ _ z=>WB z
section
variable {st:Vc}{aW:List Vc}{t u:TS}
def QhZ:TS:=fun D σ H=>D.nx σ H
def Qep (t u:TS):TS:=fun D σ H=>t {D with nx:=u D} σ H
theorem bp:Wy X [] QhZ:=fun _ _ σ H _ I h=>TW ⟨σ,H,I,h⟩
theorem ak (h1:PS X st t) (h2:Wy X aW u):Wy X (st::aW) (Qep t u):=by
 intro aa s σ H D I h
 refine Qhd (U6 (h1 aa s σ H {D with nx:=u D} I h) fun f s1 q=>?_)
 cases f with
 | next=>
  obtain⟨σ',H',I',q⟩:=q
  exact h2 aa s1 σ' H' D I' q
 | ret v=>exact q
 | brk=>exact q
 | cont=>exact q
theorem av (h1:PS X st t):Wy X [st] t:=by
 intro aa s σ H D I h
 refine Qhd (U6 (h1 aa s σ H D I h) fun f s1 q=>?_)
 cases f with
 | next=>exact TW q
 | ret v=>exact q
 | brk=>exact q
 | cont=>exact q
theorem Inv.quiet (I:Inv X aa σ H s):interactive X.env=M':=by simp[interactive,I.ok.kind]
def Qh0 (te:TE):TS:=fun D σ H=>te σ H fun _ H1=>D.nx σ H1
theorem cF (he:PE X e te) (hs:Z8 e B' pos.line X.env=pure M':=by rfl):PS X (.Expr e pos) (Qh0 te):=by
 intro aa s σ H D I h
 exact wpAny_Expr_any (U6 (he aa s σ H _ I h) fun v s1=>L2.Ve fun x H1 I1 r1 q1=>⟨σ,H1,I1,q1⟩) I.quiet hs
def Qh1 (te:TE):TS:=fun D σ H=>te σ H D.rt
theorem aK (he:PE X e te):PS X (.Return (i' e) pos) (Qh1 te):=by
 intro aa s σ H D I h
 exact wpAny_Return_some (U6 (he aa s σ H _ I h) fun v s1=>L2.Ve fun x H1 I1 r1 q1=>⟨x,σ,H1,I1,r1,q1⟩)
def Qh2:TS:=fun D _ H=>D.rt .U8 H
theorem NQ:PS X (.Return B' pos) Qh2:=fun _ _ σ H _ I h=>wpAny_Return_none ⟨.U8,σ,H,I,O,h⟩
def Qeq (c:TT) (t u:TS):TS:=fun D σ H=>c σ H fun b H1=>if b=D' then t D σ H1 else u D σ H1
theorem bo {a b:List Vc} (hc:PT X c tc) (ha:Wy X a t) (hb:Wy X b u):PS X (.If c a b pos) (Qeq tc t u):=by
 intro aa s σ H D I h
 refine wpAny_If (U6 (hc aa s σ H _ I h) fun d s1=>L2.Xu fun H1 I1 q1=>?_)
 cases d with
 | true=>exact ha aa s1 σ H1 D I1 q1
 | false=>exact hb aa s1 σ H1 D I1 q1
end
abbrev TG:=V→St→Hp→(St→Hp→Prop)→Prop
abbrev ZC:=List V→St→Hp→(St→Hp→Prop)→Prop
def PG (X:Cx) (cK:Vh) (t:TG):Prop:=
 ∀ (aa:List (F'×Vd)) (s:UW) (σ:St) (H:Hp) (v:V) (u:K') (Q:St→Hp→Prop),Inv X aa σ H s→aA v u→t v σ H Q →
  L' (UV X.prog X.w) X.A (Yf cK X.env u) (fun _ s'=>∃ σ' H',Inv X aa σ' H' s'∧Q σ' H') X.xe s
def PGs (X:Cx) (ts:List Vh) (t:ZC):Prop:=
 ∀ (aa:List (F'×Vd)) (s:UW) (σ:St) (H:Hp) (vs:List V) (us:List K') (Q:St→Hp→Prop),Inv X aa σ H s→aB vs us→t vs σ H Q →
  L' (UV X.prog X.w) X.A (assignInOrder ((XZ ts X.env).map (·.2)) us) (fun _ s'=>∃ σ' H',Inv X aa σ' H' s'∧Q σ' H') X.xe s
abbrev QaP:=V→V→V→Hp→(Hp→Prop)→Prop
def QcF (X:Cx) (t:QaP):Prop:=
 ∀ (aa:List (F'×Vd)) (s:UW) (σ:St) (H:Hp) (o i v:V) (ov iv u:K') (Q:Hp→Prop),Inv X aa σ H s→aA o ov→aA i iv→aA v u→t o i v H Q →
  L' (UV X.prog X.w) X.A (QcB ov iv u) (fun _ s'=>∃ H',Inv X aa σ H' s'∧Q H') X.xe s
abbrev TIp:=V→V→Hp→VK→Prop
def PIp (X:Cx) (op:Qcz) (t:TIp):Prop:=
 ∀ (aa:List (F'×Vd)) (s:UW) (σ:St) (H:Hp) (x y:V) (v u:K') (Q:VK),Inv X aa σ H s→aA x v→aA y u→t x y H Q →
  L' (UV X.prog X.w) X.A (inplaceOp op v u) (EP X aa σ Q) X.xe s
def bE (i:Nat):TG:=fun v σ H Q=>Q (σ.set i (i' v)) H
theorem aC (hN:X.N.Nodup) (hi:X.N[i]?=i' x) (hx:Loc X.env.scope x) (hf:X.fn x=D'∨X.env.scope.names.lookup x=i' .local:=by first|exact .inl rfl|exact .inr rfl|assumption):PG X (.Name x pos) (bE i):=by
 intro aa s σ H v u Q I r h
 exact UN (Aq I hN hi hx r (fun s' I'=>⟨_,H,I',h⟩) hf)
def Qh3:ZC:=fun vs σ H Q=>vs=[]∧Q σ H
inductive Qh4 (t:TG) (u:ZC) (vs:List V) (σ:St) (H:Hp) (Q:(St→Hp→Prop)):Prop
 | mk (v r:_) (_:vs=v::r) (_:t v σ H fun σ' H'=>u r σ' H' Q)
theorem cV:PGs X [] Qh3:=by
 intro aa s σ H vs us Q I r h
 obtain⟨e,h⟩:=h
 subst e
 cases r
 exact assignInOrder_nil ⟨σ,H,I,h⟩
theorem aP {t:TG}{u:ZC} (h1:PG X e t) (h2:PGs X es u)
  (hs:(XZ (e::es) X.env).map (·.2)=Yf e X.env::(XZ es X.env).map (·.2):=by rfl):PGs X (e::es) (Qh4 t u):=by
 intro aa s σ H vs us Q I r h
 obtain⟨v,vr,e1,h⟩:=h
 subst e1
 cases r with
 | cons r rr=>
  rw[hs]
  refine assignInOrder_cons (U6 (h1 aa s σ H _ _ _ I r h) fun _ s1=>L2.ex4 fun σ1 H1 I1 q1=>?_)
  exact h2 aa s1 σ1 H1 _ _ Q I1 rr q1
inductive Qer (K:R') (n:Nat) (t:ZC) (v:V) (σ:St) (H:Hp) (Q:(St→Hp→Prop)):Prop
 | mk (a xs:_) (_:v=.ref a) (_:Vi K H a xs) (_:xs.length=n) (_:t xs σ H Q)
theorem iW {k:Nat}{t:ZC} (hc:X.calm=D') (h:PGs X es t)
  (hn:(XZ es X.env).length=n:=by rfl) (cO:(XZ es X.env).findIdx? (·.1)=B':=by rfl):PG X (.Tuple es k pos) (Qer X.K n t):=by
 intro aa s σ H v u Q I r hw
 obtain⟨a,xs,e1,hq,hl,hw⟩:=hw
 subst e1
 cases r
 obtain⟨ag,rv,ht,hz⟩:=I.tuple hq
 refine Nw I.hd ht (by simp[hn,← hl,rv.length]) cO fun h' hx=>?_
 have I1:Inv X aa σ H {s with heap:=h'}:=I.kept (t':=s.toks) fun b o e=>hx b o (Sh (Se e)) e
 exact h aa _ σ H xs _ Q I1 (by simpa using rv) hw
def Qh5 (to ti:TE) (t:QaP):TG:=fun v σ H Q=>to σ H fun o H1=>ti σ H1 fun i H2=>t o i v H2 fun H3=>Q σ H3
theorem Fu {o i:Vh}{t:QaP} (ho:PE X o to) (hi:PE X i ti) (hs:QcF X t)
  (ha:∀ v,Yf (.Subscript o i pos) X.env v=(do
   let ov ← WX [v] (Vg o X.env)
   let iv ← WX [v,ov] (Vg i X.env)
   Zu pos
   WX [v,ov,iv] (QcB ov iv v)
   release [v,ov,iv] []):=by intro _;rfl):PG X (.Subscript o i pos) (Qh5 to ti t):=by
 intro aa s σ H v u Q I r h
 rw[ha]
 refine oG (Sn (U6 (ho aa s σ H _ I h) fun ov s1=>L2.Ve fun x H1 I1 r1 q1=>?_))
 refine oG (Sn (U6 (hi aa s1 σ H1 _ I1 q1) fun iv s2=>L2.Ve fun y H2 I2 r2 q2=>?_))
 refine oG (TD (oG (Sn (U6 (hs aa s2 σ H2 x y v ov iv u _ I2 r1 r2 r q2) fun _ s3=>L2.Xu fun H3 I3 q3=>?_))))
 exact wpAny_release ⟨σ,H3,I3,q3⟩
def QaQ (te:TE) (g:TG):TS:=fun D σ H=>te σ H fun x H1=>g x σ H1 D.nx
theorem F0 {g:TG} (he:PE X e te) (hg:PG X tg g) (hs:swapsWithSole [tg] e pos.line X.env=pure M':=by rfl) (hw:swappedStores [tg] e X.env=pure B':=by rfl)
  (h1:(XZ [tg] X.env).map (·.2)=[Yf tg X.env]:=by rfl):PS X (.Assign [tg] e pos) (QaQ te g):=by
 intro aa s σ H D I h
 refine wpAny_Assign_stores (U6 (he aa s σ H _ I h) fun v s1=>L2.Ve fun x H1 I1 r1 q1=>?_) hs hw
 rw[h1]
 exact U6 (hg aa s1 σ H1 x v _ I1 r1 q1) fun _ s2 q=>q
theorem aR (hN:X.N.Nodup) (hi:X.N[i]?=i' x) (hx:Loc X.env.scope x) (he:PE X e te) (hs:Z8 e (i' (.Name x a9)) pos.line X.env=pure M':=by rfl) (hf:X.fn x=D'∨X.env.scope.names.lookup x=i' .local:=by first|exact .inl rfl|exact .inr rfl|assumption) :
  PS X (.Assign [.Name x a9] e pos) (QaQ te (bE i)):=by
 intro aa s σ H D I h
 refine wpAny_Assign_Name (U6 (he aa s σ H _ I h) fun v s1=>L2.Ve fun y H1 I1 r1 q1=>?_) hs
 exact Aq I1 hN hi hx r1 (fun s2 I2=>⟨_,H1,I2,q1⟩) hf
def Qh6 (to ti te:TE) (kT:V→V→Hp→VK→Prop) (wb:TIp) (ly:QaP):TS:=fun D σ H=>to σ H fun o H1=>ti σ H1 fun i H2=>kT o i H2 fun x H3=>te σ H3 fun y H4=>wb x y H4 fun z H5=>ly o i z H5 fun H6=>D.nx σ H6
def Qes (X:Cx) (t:V→V→Hp→VK→Prop):Prop:=
 ∀ (aa:List (F'×Vd)) (s:UW) (σ:St) (H:Hp) (o i:V) (ov iv:K') (Q:VK),Inv X aa σ H s→aA o ov→aA i iv→t o i H Q →
  L' (UV X.prog X.w) X.A (Yd ov iv) (EP X aa σ Q) X.xe s
theorem pB {o i:Vh}{kT:V→V→Hp→VK→Prop}{wb:TIp}{ly:QaP}{op:Qcz} (ho:PE X o to) (hi:PE X i ti) (hg:Qes X kT) (he:PE X e te) (hp:PIp X op wb) (hs:QcF X ly)
  (ha:∀ ov iv new,augStore i ov iv new=(do WX [new,ov,iv] (QcB ov iv new);release [new,ov,iv] [];pure .next):=by intros;rfl):PS X (.AugAssign (.Subscript o i Qag) op e pos) (Qh6 to ti te kT wb ly):=by
 intro aa s σ H D I h
 refine wpAny_AugAssign_SubscriptAny (U6 (ho aa s σ H _ I h) fun ov s1=>L2.Ve fun x1 H1 I1 r1 q1=>?_) ha
 refine U6 (hi aa s1 σ H1 _ I1 q1) fun iv s2=>L2.Ve fun x2 H2 I2 r2 q2=>?_
 refine U6 (hg aa s2 σ H2 x1 x2 ov iv _ I2 r1 r2 q2) fun old s3=>L2.Ve fun x3 H3 I3 r3 q3=>?_
 refine U6 (he aa s3 σ H3 _ I3 q3) fun v s4=>L2.Ve fun x4 H4 I4 r4 q4=>?_
 refine U6 (hp aa s4 σ H4 x3 x4 old v _ I4 r3 r4 q4) fun new s5=>L2.Ve fun x5 H5 I5 r5 q5=>?_
 exact U6 (hs aa s5 σ H5 x1 x2 x5 ov iv new _ I5 r1 r2 r5 q5) fun _ s6=>L2.Xu fun H6 I6 q6=>⟨σ,H6,I6,q6⟩
inductive ipI (f:Int→Int→Int) (x:V) (y:V) (H:Hp) (Q:VK):Prop
 | mk (i j:_) (_:x=.int i) (_:y=.int j) (_:Q (.int (f i j)) H)
theorem uB:PIp X .Add (ipI fun i j=>i+j):=by
 intro aa s σ H x y v u Q I r1 r2 h
 obtain⟨i,j,e1,e2,q⟩:=h
 subst e1;subst e2
 obtain⟨t,rfl⟩:=r1
 obtain⟨t',rfl⟩:=r2
 exact iadd_int ⟨.int _,H,I.tok _,⟨_,O⟩,q⟩
theorem E3:PIp X .Sub (ipI fun i j=>i-j):=by
 intro aa s σ H x y v u Q I r1 r2 h
 obtain⟨i,j,e1,e2,q⟩:=h
 subst e1;subst e2
 obtain⟨t,rfl⟩:=r1
 obtain⟨t',rfl⟩:=r2
 exact isub_int ⟨.int _,H,I.tok _,⟨_,O⟩,q⟩
def Qh7 (c:TT) (tb:TS):TS:=fun D σ H=>∃ W:Nat→St→Hp→Prop,(∃ m,W m σ H)∧∀ m σ H,W m σ H →
 c σ H fun b H1=>if b=D' then ∃ N:St→Hp→Prop,(∀ σ' H',N σ' H'→∃ m',m'<m∧W m' σ' H')∧tb {D with nx:=N,ct:=N,bk:=D.nx} σ H1 else D.nx σ H1
theorem vm (hp:Qek (UV X.prog X.w) X.A X.env X.xe) (hc:PT X c tc) (hb:Wy X body tb):PS X (.While c body [] pos) (Qh7 tc tb):=by
 intro aa s σ H D I h
 obtain⟨W,⟨m0,w0⟩,gP⟩:=h
 refine wpAny_While (codeAny_whileLoop (fun n s'=>∃ σ' H',Inv X aa σ' H' s'∧W n σ' H') ?_ m0 ⟨σ,H,I,w0⟩)
 rintro n s1 ⟨σ1,H1,I1,w1⟩
 refine Tn hp (U6 (hc aa s1 σ1 H1 _ I1 (gP n σ1 H1 w1)) fun b s2=>L2.Xu fun H2 I2 q2=>?_)
 cases b with
 | true=>
  obtain⟨N,hN,q2⟩:=q2
  rw[U3 rfl]
  refine Tn hp (U6 (hb aa s2 σ1 H2 _ I2 q2) fun f s3 q3=>?_)
  cases f with
  | next=>
   obtain⟨σ3,H3,I3,n3⟩:=q3
   obtain⟨m',hm,w3⟩:=hN σ3 H3 n3
   exact⟨m',hm,σ3,H3,I3,w3⟩
  | cont=>
   obtain⟨σ3,H3,I3,n3⟩:=q3
   obtain⟨m',hm,w3⟩:=hN σ3 H3 n3
   exact⟨m',hm,σ3,H3,I3,w3⟩
  | brk=>exact q3
  | ret v=>exact q3
 | false=>
  rw[U4 Sk]
  exact TW ⟨σ1,H2,I2,q2⟩
structure It where
 go:Nat→Hp→Prop
 yld:Nat→Hp→V→Hp→Prop
 stop:Nat→Hp→Prop
def bI (X:Cx) (aa:List (F'×Vd)) (H:Hp) (b:F'):Prop:=
 H b=B'∧b≠X.env.locals∧b∉X.fs∧(b∈X.ex∨X.s₀.heap.objs.size≤b)∧(∀ x c,X.env.cells.lookup x=i' c→c≠b)∧∀ p∈X.pn++aa,p.1≠b
theorem Inv.Xk (I:Inv X aa σ H s) (hb:s.heap.objs.size≤b) (hn:H' b=B'):bI X aa H' b:=by
 refine⟨hn,SX (Sj I.lt hb),I.Qem hb,.inr (SN I.sz hb),fun x c e z=>?_,fun p hp z=>?_⟩
 .obtain⟨v,q⟩:=I.cell x c e
  exact U' (Sj q.lt (by rw[z];exact hb)) (So _)
 .exact U' (Sj (Se (I.pin p hp).1) (by rw[z];exact hb)) (So _)
structure nF (P:Vy) (w:VL) (K:R') (tg:Vh) (J:It) (fp:List F') (it:F') (tn:Nat→Vo→Prop):Prop where
 mem:it∈fp
 obj:∀ i h,tn i h→∀ b∈fp,∃ o,h.get? b=i' o∧∀ v,o.data≠.cell v
 keep:∀ i h h',tn i h→(∀ b∈fp,∀ o,h.get? b=i' o→h'.get? b=i' o)→tn i h'
 item:∀ (X:Cx),X.prog=P→X.w=w→X.K=K→X.calm=D'→∀ (i:Nat) (aa:List (F'×Vd)) (s:UW) (σ:St) (H:Hp) (E:K'→UW→Prop),Inv X aa σ H s→(∀ b∈fp,bI X aa H b)→tn i s.heap→J.go i H →
  L' (UV P w) X.A (VB (.ref it)) (fun r s1=>∃ u,r=i' u ∧
   L' (UV P w) X.A (Qch tg (.ref it) u) (fun _ s2=>∃ x H',Inv X aa σ H' s2∧aA x u∧J.yld i H x H'∧tn (i+1) s2.heap∧∀ b∈fp,H' b=B') E s1) E s
 done:∀ (X:Cx),X.prog=P→X.w=w→X.K=K→X.calm=D'→∀ (i:Nat) (aa:List (F'×Vd)) (s:UW) (σ:St) (H:Hp) (E:K'→UW→Prop),Inv X aa σ H s→(∀ b∈fp,bI X aa H b)→tn i s.heap→J.stop i H →
  L' (UV P w) X.A (VB (.ref it)) (fun r s1=>r=B'∧Inv X aa σ H s1) E s
 self:∀ (A:V2) (i:Nat) (s:UW) (Q:K'→UW→Prop) (E:K'→UW→Prop),tn i s.heap→Q (.ref it) s→L' (UV P w) A (pyIter (.ref it)) Q E s
abbrev TI:=St→Hp→(It→Hp→Prop)→Prop
def PIE (X:Cx) (aa:List (F'×Vd)) (σ:St) (tg:Vh) (R:It→Hp→Prop) (vD:K') (s2:UW):Prop:=
 ∃ (it:F') (fp:List F') (tn:Nat→Vo→Prop) (J:It) (H':Hp),vD=.ref it∧Inv X aa σ H' s2∧nF X.prog X.w X.K tg J fp it tn∧tn 0 s2.heap∧(∀ b∈fp,bI X aa H' b)∧R J H'
def PI (X:Cx) (tg iter:Vh) (wi:TI):Prop:=
 ∀ (aa:List (F'×Vd)) (s:UW) (σ:St) (H:Hp) (R:It→Hp→Prop),Inv X aa σ H s→wi σ H R →
  L' (UV X.prog X.w) X.A (Vg iter X.env) (fun v s1=>L' (UV X.prog X.w) X.A (pyIter v) (PIE X aa σ tg R) X.xe s1) X.xe s
theorem wN {n:String}{Q:Unit→UW→Prop} (ho:s.heap.get? it=i' o) (hc:o.cls=.type n) (hd:o.data=.fields vs)
    (hn:["enumerate","zip","dict_itemiterator","dict_reverseitemiterator","odict_iterator","itertools.zip_longest","itertools.pairwise"].contains n=M') (hQ:Q () s):L' M A (Qch tg (.ref it) u) Q E s:=by
  unfold Qch
  cases tg<;>first
    | exact Sd hQ
    | (cases u<;>first
        | exact Sd hQ
        | (refine oG (wpAny_load ho ?_)
           rw[hc,hd]
           show L' M A (if (["enumerate","zip","dict_itemiterator","dict_reverseitemiterator","odict_iterator","itertools.zip_longest","itertools.pairwise"].contains n && vs[0]? == i' (Vw _))=D' then _ else _) Q E s
           rw[U4 (by intro h;rw[hn,Bool.false_and] at h;cases h)]
           exact Sd hQ))
def Itl (K:R') (a:F'):It:=
 ⟨fun i H=>∃ xs x,P' K H a xs∧xs[i]?=i' x,fun i H x H'=>H'=H∧∀ xs,P' K H a xs→xs[i]?=i' x,fun i H=>∃ xs,P' K H a xs∧xs.length≤i⟩
def Itr (lo:Int) (n:Nat):It:=⟨fun i _=>i<n,fun i H x H'=>H'=H∧x=.int (lo+i),fun i _=>n≤i⟩
theorem Oe {K:R'} (a it:F'):nF P w K tg (Itl K a) [it] it (fun i h=>h.IsListIter it a i) where
 mem:=by simp
 obj:=fun i h st b hb=>by
  have e:b=it:=by simpa using hb
  subst e
  obtain⟨o,e,c,d⟩:=st
  exact⟨o,e,fun v z=>by rw[d] at z;cases z⟩
 keep:=fun i h h' st k=>st.at fun o e=>k it (by simp) o e
 item:=by
  intro X hP hw hK hc i aa s σ H E I hf st hg
  subst hP hw hK
  obtain⟨xs,x,hq,hx⟩:=hg
  obtain⟨ag,rv,p,hz⟩:=I.list hq
  obtain⟨u,hu,ru⟩:=rv.get hx
  obtain⟨f0,f1,f2,f3,f4,f5⟩:=hf it (by simp)
  refine Uu st p.isList (x:=u) (by simpa using hu) fun h' ic sb=>?_
  have I1:Inv X aa σ H {s with heap:=h'}:=I.turned (t':=s.toks) (fun b o hb e=>(sb.2 b hb).trans e) f0 f1 f3 f4 f5
  obtain⟨o,e,c,d⟩:=id ic
  exact⟨u,O,wN (s:={s with heap:=h'}) e c d (by decide) ⟨x,H,I1,ru,⟨O,fun ys hy=>by rw[I.QaO hy hq];exact hx⟩,ic,fun b hb=>(hf b hb).1⟩⟩
 done:=by
  intro X hP hw hK hc i aa s σ H E I hf st hg
  subst hP hw hK
  obtain⟨xs,hq,hx⟩:=hg
  obtain⟨ag,rv,p,hz⟩:=I.list hq
  obtain⟨f0,f1,f2,f3,f4,f5⟩:=hf it (by simp)
  have hl:=rv.length
  exact E8 I.hd st p.isList (by simp;lia) fun h' eb=>⟨O,I.turned (t':=s.toks) (fun b o hb e=>eb b o hb e) f0 f1 f3 f4 f5⟩
 self:=fun _ _ _ _ _ st h=>Uy st h
theorem Og {K:R'} (it:F') (lo:Int) (n:Nat):nF P w K tg (Itr lo n) [it] it (fun i h=>Z5 h it (lo+(i:Nat)*1) ((n:Int)-(i:Nat)) 1) where
 mem:=by simp
 obj:=fun i h st b hb=>by
  have e:b=it:=by simpa using hb
  subst e
  exact⟨_,st,fun v z=>by
   have z':Data.fields _=Data.cell v:=z
   cases z'⟩
 keep:=fun i h h' st k=>k it (by simp) _ st
 item:=by
  intro X hP hw hK hc i aa s σ H E I hf st hg
  subst hP hw hK
  obtain⟨f0,f1,f2,f3,f4,f5⟩:=hf it (by simp)
  refine Uq st (by have:i<n:=hg;lia) fun h' jd sb=>?_
  have ic:Z5 h' it (lo+((i+1:Nat):Int)*1) ((n:Int)-((i+1:Nat):Int)) 1:=by
   rw[show lo+((i+1:Nat):Int)*1=lo+(i:Int)*1+1 by lia,show(n:Int)-((i+1:Nat):Int)=(n:Int)-(i:Int)-1 by lia]
   exact jd
  have I1:Inv X aa σ H {s with heap:=h',toks:=s.toks+1}:=I.turned (fun b o hb e=>sb.extBut b o hb e) f0 f1 f3 f4 f5
  exact⟨_,O,wN (s:={s with heap:=h',toks:=s.toks+1}) (n:="range_iterator") ic O O (by decide) ⟨.int (lo+i),H,I1,⟨_,by rw[Int.mul_one]⟩,⟨O,O⟩,ic,fun b hb=>(hf b hb).1⟩⟩
 done:=by
  intro X hP hw hK hc i aa s σ H E I hf st hg
  subst hP hw hK
  obtain⟨f0,f1,f2,f3,f4,f5⟩:=hf it (by simp)
  exact Fe I.hd st (by have:n≤i:=hg;lia) fun h' eb=>⟨O,I.turned (t':=s.toks) (fun b o hb e=>eb b o hb e) f0 f1 f3 f4 f5⟩
 self:=fun _ _ _ _ _ st h=>Uv st h
inductive Qh8 (K:R') (R:(It→Hp→Prop)) (x:V) (H1:Hp):Prop
 | mk (a:_) (_:x=.ref a) (_:(∃ xs,P' K H1 a xs)) (_:R (Itl K a) H1)
def Qh9 (K:R') (tl:TE):TI:=fun σ H R=>tl σ H fun x H1=>Qh8 K R x H1
theorem bF {l:Vh} (hl:PE X l tl):PI X tg l (Qh9 X.K tl):=by
 intro aa s σ H R I h
 refine U6 (hl aa s σ H _ I h) fun v s1=>L2.Ve fun x H1 I1 r1 q1=>?_
 obtain⟨a,e,⟨xs,hq⟩,q⟩:=q1
 subst e
 cases r1
 obtain⟨ag,rv,p,hz⟩:=I1.list hq
 refine Tj p.isList ?_
 refine⟨s1.heap.objs.size,[s1.heap.objs.size],_,_,H1,O,I1.kept (t':=s1.toks) fun b o e=>Sc _ e,Oe a _,⟨_,Sf _ O,O,O⟩,fun b hb=>?_,q⟩
 have e:b=s1.heap.objs.size:=by simpa using hb
 subst e
 exact I1.Xk (Sg _) (I1.UZ.fresh (Sg _))
theorem MA {R:It→Hp→Prop}{hi:Int}{t u v:Wq}{tk:Nat} (I:Inv X aa σ H s) (h1:-(2 ^ 62)≤lo) (h2:lo<2 ^ 62) (h3:-(2 ^ 62)≤hi) (h4:hi<2 ^ 62)
  (q:R (Itr lo (hi-lo).toNat) H):L' (UV X.prog X.w) X.A (pyIter (.ref s.heap.objs.size)) (PIE X aa σ tg R) E {s with heap:=s.heap.push {cls:=.type "range",data:=.fields #[.int lo t,.int hi u,.int 1 v]},toks:=tk}:=by
 refine UJ (IsRange.new ..) (small_one h1 h2 h3 h4) ?_
 have I1:Inv X aa σ H {s with heap:=s.heap.push {cls:=.type "range",data:=.fields #[.int lo t,.int hi u,.int 1 v]},toks:=tk}:=I.kept fun b o e=>Sc _ e
 refine⟨(s.heap.push {cls:=.type "range",data:=.fields #[.int lo t,.int hi u,.int 1 v]}).objs.size,[(s.heap.push {cls:=.type "range",data:=.fields #[.int lo t,.int hi u,.int 1 v]}).objs.size],_,_,H,O,
  I1.kept (t':=tk) fun b o e=>Sc _ e,Og _ lo (hi-lo).toNat,?_,fun b hb=>?_,q⟩
 .have e1:lo+((0:Nat):Int)*1=lo:=by simp
  have e2:(((hi-lo).toNat:Nat):Int)-((0:Nat):Int)=Qfr lo hi 1:=by rw[rangeSize_one];split<;>lia
  show Z5 _ _ (lo+((0:Nat):Int)*1) ((((hi-lo).toNat:Nat):Int)-((0:Nat):Int)) 1
  rw[e1,e2]
  exact Sf _ rfl
 .have e:b=(s.heap.push {cls:=.type "range",data:=.fields #[.int lo t,.int hi u,.int 1 v]}).objs.size:=by simpa using hb
  subst e
  exact I1.Xk (Sg _) (I1.UZ.fresh (Sg _))
inductive Qia (R:(It→Hp→Prop)) (vs:List V) (H1:Hp):Prop
 | mk (j:Int) (_:vs=[.int j]) (_:-(2 ^ 62)≤j) (_:j<2 ^ 62) (_:R (Itr 0 j.toNat) H1)
def Qib (ta:TA):TI:=fun σ H R=>ta σ H fun vs H1=>Qia R vs H1
theorem xt {a:Vh}{ta:TA}{p:VZ} (hg:Gl X "range") (hm:X.mg "range"=B') (ha:PA X [a] ta) (hs:Vk [a] X.env=[(M',Vg a X.env)]:=by rfl):PI X tg (.Call (.Name "range" p) [a] [] pos) (Qib ta):=by
 intro aa s σ H R I h
 refine Call_ (jr I hg hm boot_range (Zh (U6 (ha pos aa s σ H _ I h) fun us s1=>L2.Ve fun vs H1 I1 r1 q1=>?_) hs O))
 obtain⟨j,e,q1,q2,q⟩:=q1
 subst e
 cases r1 with
 | cons r rr=>
  cases rr
  obtain⟨t,rfl⟩:=r
  exact call_range_1 (MA I1 (by lia) (by lia) q1 q2 (by simpa using q))
def Qic (wi:TI) (g:TG) (tb:TS):TS:=fun D σ H=>wi σ H fun J H1=>∃ W:Nat→Nat→St→Hp→Prop,(∃ m,W 0 m σ H1)∧∀ i m σ H,W i m σ H →
 (J.stop i H∧D.nx σ H)∨(J.go i H∧∃ N:St→Hp→Prop,(∀ σ' H',N σ' H'→∃ m',m'<m∧W (i+1) m' σ' H')∧∀ x H',J.yld i H x H'→g x σ H' fun σ2 H2=>tb {D with nx:=N,ct:=N,bk:=D.nx} σ2 H2)
def ut (fp:List F') (h:Vo):List (F'×Vd):=fp.filterMap fun b=>(h.get? b).map fun o=>(b,o)
theorem ww (hb:b∈fp) (e:h.get? b=i' o):(b,o)∈ut fp h:=Qgr.mpr ⟨b,hb,by rw[e];rfl⟩
theorem Qq {p:F'×Vd} (hp:p∈ut fp h):p.1∈fp∧h.get? p.1=i' p.2:=by
 obtain⟨b,hb,e⟩:=Qgr.mp hp
 cases q:h.get? b with
 | none=>rw[q] at e;cases e
 | some o=>
  rw[q] at e
  have e':(b,o)=p:=VQ e
  subst e'
  exact⟨hb,q⟩
theorem Inv.pinned (I:Inv X aa σ H s) (hf:∀ b∈fp,bI X aa H b) (ho:∀ b∈fp,∃ o,s.heap.get? b=i' o∧∀ v,o.data≠.cell v):Inv X (aa++ut fp s.heap) σ H s:=
 I.Y8 fun p hp=>(Wb.mp hp).elim (fun z=>I.pin p (Sl _ z)) fun z=>by
  obtain⟨hb,e⟩:=Qq z
  obtain⟨f0,f1,f2,_⟩:=hf p.1 hb
  obtain⟨o,e',d⟩:=ho p.1 hb
  rw[e] at e';cases e'
  exact⟨e,f0,f1,f2,d⟩
theorem Inv.Qbs {pl:List (F'×Vd)} (I:Inv X (aa++pl) σ H s):Inv X aa σ H s:=I.Y8 fun p hp=>I.pin p (Sl _ (SD _ hp))
theorem fg {iter:Vh}{wi:TI}{g:TG} (hp:Qek (UV X.prog X.w) X.A X.env X.xe) (hc:X.calm=D') (hi:PI X tg iter wi) (hg:PG X tg g) (hb:Wy X body tb)
  (hs:∀ x,QdO iter X.env x=pure x:=by intro _;rfl):PS X (.For tg iter body [] pos) (Qic wi g tb):=by
 intro aa s σ H D I h
 refine wpAny_For (U6 (hi aa s σ H _ I h) fun v s1 h1=>U6 h1 fun vD s2 h2=>?_) hs
 obtain⟨it,fp,tn,J,H2,e,I2,T,i8,f2,W,⟨m0,w0⟩,gP⟩:=h2
 subst e
 have gM:∀ {H':Hp},(∀ b∈fp,H' b=B')→∀ b∈fp,bI X aa H' b:=fun hn b hb=>⟨hn b hb,(f2 b hb).2⟩
 refine codeAny_forLoop_any (fun n s'=>∃ i σ' H',Inv X aa σ' H' s'∧tn i s'.heap∧(∀ b∈fp,H' b=B')∧W i n σ' H') ?_ m0 ⟨0,σ,H2,I2,i8,fun b hb=>(f2 b hb).1,w0⟩
 rintro n s3 ⟨i,σ3,H3,I3,Xl,tL,w3⟩
 rcases gP i n σ3 H3 w3 with⟨stop,qn⟩|⟨go,N,hN,step⟩
 .refine Tn hp (U6 (T.done X O O O hc i aa s3 σ3 H3 X.xe I3 (gM tL) Xl stop) fun r s4 ⟨hr,I4⟩=>?_)
  subst hr
  exact TW ⟨σ3,H3,I4,qn⟩
 .refine Tn hp (U6 (T.item X O O O hc i aa s3 σ3 H3 X.xe I3 (gM tL) Xl go) fun r s4 ⟨u,hr,h4⟩=>?_)
  subst hr
  refine Tn hp (U6 h4 fun _ s5=>L2.Ve fun x H5 I5 r5 aQ=>?_)
  obtain⟨y5,fP,zP⟩:=aQ
  have xR:=I5.pinned (gM zP) (T.obj _ _ fP)
  refine Tn hp (U6 (hg _ s5 σ3 H5 x u _ xR r5 (step x H5 y5)) fun _ s6=>L2.ex4 fun σ6 H6 I6 q6=>?_)
  refine Tn hp (U6 (hb _ s6 σ6 H6 _ I6 q6) fun f s7 q7=>?_)
  have again:∀ {σ7:St}{H7:Hp},Inv X (aa++ut fp s5.heap) σ7 H7 s7→N σ7 H7→∃ m,m<n∧∃ i σ' H',Inv X aa σ' H' s7∧tn i s7.heap∧(∀ b∈fp,H' b=B')∧W i m σ' H':=fun {σ7 H7} I7 n7=>by
   obtain⟨m',hm,w7⟩:=hN σ7 H7 n7
   refine⟨m',hm,i+1,σ7,H7,I7.Qbs,T.keep _ _ _ fP fun b hb o e=>(I7.pin (b,o) (Sl _ (Sl _ (ww hb e)))).1,fun b hb=>?_,w7⟩
   obtain⟨o,e,d⟩:=T.obj _ _ fP b hb
   exact(I7.pin (b,o) (Sl _ (Sl _ (ww hb e)))).2.1
  cases f with
  | next=>obtain⟨σ7,H7,I7,n7⟩:=q7;exact again I7 n7
  | cont=>obtain⟨σ7,H7,I7,n7⟩:=q7;exact again I7 n7
  | brk=>obtain⟨σ7,H7,I7,q7⟩:=q7;exact⟨σ7,H7,I7.Qbs,q7⟩
  | ret v=>obtain⟨x7,σ7,H7,I7,r7,q7⟩:=q7;exact⟨x7,σ7,H7,I7.Qbs,r7,q7⟩
def WkW (J:It) (E:St→Hp→Prop) (B:(St→Hp→Prop)→V→St→Hp→Prop) (σ:St) (H:Hp):Prop:=∃ W:Nat→Nat→St→Hp→Prop,(∃ m,W 0 m σ H)∧∀ i m σ H,W i m σ H→(J.stop i H∧E σ H)∨(J.go i H∧∃ N:St→Hp→Prop,(∀ σ' H',N σ' H'→∃ m',m'<m∧W (i+1) m' σ' H')∧∀ x H',J.yld i H x H'→B N x σ H')
theorem Yh {J:It}{E:St→Hp→Prop}{B:(St→Hp→Prop)→V→St→Hp→Prop} (Pv:Nat→St→Hp→Prop) (h0:Pv 0 σ H) (hg:∀ i σ H,i≤n→Pv i σ H→(i<n→J.go i H)∧(n≤i→J.stop i H)) (hs:∀ i x σ H H',i<n→Pv i σ H→J.yld i H x H'→B (Pv (i+1)) x σ H') (hd:∀ σ H,Pv n σ H→E σ H):WkW J E B σ H:=by
 refine⟨fun i m σ H=>m=n-i∧i≤n∧Pv i σ H,⟨n,by simp,Th _,h0⟩,?_⟩
 rintro i m σ H ⟨rfl,hi,p⟩
 obtain⟨q1,q2⟩:=hg i σ H hi p
 by_cases bq:i<n
 .exact .inr ⟨q1 bq,Pv (i+1),fun σ' H' p'=>⟨n-(i+1),by lia,O,bq,p'⟩,fun x H' y=>hs i x σ H H' bq p y⟩
 .have e:i=n:=by lia
  subst e
  exact .inl ⟨q2 (Sg _),hd σ H p⟩
def QaR (J:It) (D:d8) (g:TG) (tb:TS) (σ:St) (H:Hp):Prop:=WkW J D.nx (fun N x σ H'=>g x σ H' fun σ2 H2=>tb {D with nx:=N,ct:=N,bk:=D.nx} σ2 H2) σ H
theorem jW {K:R'}{g:TG} (Pv:Nat→St→Hp→Prop) (h0:Pv 0 σ H) (hl:∀ i σ H,i≤xs.length→Pv i σ H→P' K H a xs)
  (hs:∀ i x σ H,xs[i]?=i' x→Pv i σ H→g x σ H fun σ2 H2=>tb {D with nx:=Pv (i+1),ct:=Pv (i+1),bk:=D.nx} σ2 H2) (hd:∀ σ H,Pv xs.length σ H→D.nx σ H):QaR (Itl K a) D g tb σ H:=
 Yh (n:=xs.length) Pv h0 (fun i σ H hi p=>⟨fun h=>⟨xs,xs[i],hl i σ H hi p,by simp[h]⟩,fun h=>⟨xs,hl i σ H hi p,h⟩⟩) (fun i x σ H H' hi p y=>by
 obtain⟨rfl,y⟩:=y
 exact hs i x σ _ (y xs (hl i σ _ (S1 hi) p)) p) hd
theorem EU {g:TG} (Pv:Nat→St→Hp→Prop) (h0:Pv 0 σ H)
  (hs:∀ i σ H,i<n→Pv i σ H→g (.int (lo+i)) σ H fun σ2 H2=>tb {D with nx:=Pv (i+1),ct:=Pv (i+1),bk:=D.nx} σ2 H2) (hd:∀ σ H,Pv n σ H→D.nx σ H):QaR (Itr lo n) D g tb σ H:=
 Yh (n:=n) Pv h0 (fun _ _ _ _ _=>⟨id,id⟩) (fun i x σ H H' hi p y=>by
 obtain⟨rfl,rfl⟩:=y
 exact hs i σ _ hi p) hd
abbrev R2:=V→V→Hp→VK→Prop
def VU (X:Cx) (f:K'→K'→W6 K') (r:R2):Prop:=
 ∀ (aa:List (F'×Vd)) (s:UW) (σ:St) (H:Hp) (x y:V) (v u:K') (Q:VK),Inv X aa σ H s→aA x v→aA y u→r x y H Q →
  L' (UV X.prog X.w) X.A (f v u) (EP X aa σ Q) X.xe s
def UnR (X:Cx) (f:K'→W6 K') (r:V→Hp→VK→Prop):Prop:=
 ∀ (aa:List (F'×Vd)) (s:UW) (σ:St) (H:Hp) (x:V) (v:K') (Q:VK),Inv X aa σ H s→aA x v→r x H Q →
  L' (UV X.prog X.w) X.A (f v) (EP X aa σ Q) X.xe s
def fi (X:Cx) (f:K') (r:List V→Hp→VK→Prop):Prop:=
 ∀ (aa:List (F'×Vd)) (s:UW) (σ:St) (H:Hp) (xs:List V) (us:List K') (Q:VK),Inv X aa σ H s→aB xs us→r xs H Q →
  L' (UV X.prog X.w) X.A (call f us) (EP X aa σ Q) X.xe s
def Qid (X:Cx) (r:V→Hp→(Bool→Hp→Prop)→Prop):Prop:=
 ∀ (aa:List (F'×Vd)) (s:UW) (σ:St) (H:Hp) (x:V) (v:K') (Q:Bool→Hp→Prop),Inv X aa σ H s→aA x v→r x H Q →
  L' (UV X.prog X.w) X.A (truthy v) (TP X aa σ Q) X.xe s
def ZD (r:R2) (ta tb:TE):TE:=fun σ H Q=>ta σ H fun x H1=>tb σ H1 fun y H2=>r x y H2 Q
def tUn (r:V→Hp→VK→Prop) (ta:TE):TE:=fun σ H Q=>ta σ H fun x H1=>r x H1 Q
inductive rI (C:Int→Int→Prop) (g:Int→Int→V) (x:V) (y:V) (H:Hp) (Q:VK):Prop
 | mk (i j:_) (_:x=.int i) (_:y=.int j) (_:C i j) (_:Q (g i j) H)
inductive Y' (g:Int→Int→V) (x:V) (y:V) (H:Hp) (Q:VK):Prop
 | mk (i j:_) (_:x=.int i) (_:y=.int j) (_:Q (g i j) H)
inductive rU (g:Int→V) (x:V) (H:Hp) (Q:VK):Prop
 | mk (i:_) (_:x=.int i) (_:Q (g i) H)
variable {C dx:F'}{b expr:Bool}{f:K'→K'→W6 K'}{g:Int→Int→Int}{kw:List (C'×K')}{m name:C'}{mA:C'→Option K'}{o:Option K'}{pl:W6 Bool}{r:R2}{ta tb tc:TE}{us vs:List K'}{x y:V}
section
variable {a b:Vh}
theorem QcG (ha:PE X a ta) (hb:PE X b tb){R:V→V→Hp→Prop} (I:Inv X aa σ H s)
  (h:ta σ H fun x H1=>tb σ H1 fun y H2=>R x y H2)
  (hf:∀ v u s2 x y H2,Inv X aa σ H2 s2→aA x v→aA y u→R x y H2→L' (UV X.prog X.w) X.A (f v u) Q X.xe s2) :
  L' (UV X.prog X.w) X.A (Vg a X.env) (fun v s₁=>L' (UV X.prog X.w) X.A (Vg b X.env) (fun u s₂=>L' (UV X.prog X.w) X.A (f v u) Q X.xe s₂) X.xe s₁) X.xe s:=by
 refine U6 (ha aa s σ H _ I h) fun v s1=>L2.Ve fun x H1 I1 r1 q1=>?_
 refine U6 (hb aa s1 σ H1 _ I1 q1) fun u s2=>L2.Ve fun y H2 I2 r2 q2=>?_
 exact hf v u s2 x y H2 I2 r1 r2 q2
theorem aX {op:Qcz} (ho:VU X (X1 op) r) (ha:PE X a ta) (hb:PE X b tb):PE X (.BinOp a op b pos) (ZD r ta tb):=by
 intro aa s σ H Q I h
 exact wpAny_BinOp (QcG ha hb I h fun v u s2 x y H2 I2 rx ry q=>ho aa s2 σ H2 x y v u Q I2 rx ry q)
theorem Qet {op:UnaryOp}{r:V→Hp→VK→Prop} (ho:UnR X (unaryOp op) r) (ha:PE X a ta):PE X (.UnaryOp op a pos) (tUn r ta):=by
 intro aa s σ H Q I h
 exact UnaryOp_ (U6 (ha aa s σ H _ I h) fun v s1=>L2.Ve fun x H1 I1 r1 q1=>ho aa s1 σ H1 x v Q I1 r1 q1)
theorem opI {C:Int→Int→Prop}
  (rule:∀ (i j:Int) (t u:Wq) (s:UW) (Q:K'→UW→Prop) (E:K'→UW→Prop),C i j→Q (.int (g i j) s.toks) {s with toks:=s.toks+1}→L' (UV X.prog X.w) X.A (f (.int i t) (.int j u)) Q E s) :
  VU X f (rI C fun i j=>.int (g i j)):=by
 intro aa s σ H x y v u Q I rx ry h
 obtain⟨i,j,rfl,rfl,hc,q⟩:=h
 obtain⟨t,rfl⟩:=rx
 obtain⟨t',rfl⟩:=ry
 exact rule i j t t' s _ _ hc ⟨.int (g i j),H,I.tok _,⟨_,O⟩,q⟩
theorem Qeu 
  (rule:∀ (i j:Int) (t u:Wq) (s:UW) (Q:K'→UW→Prop) (E:K'→UW→Prop),Q (.int (g i j) s.toks) {s with toks:=s.toks+1}→L' (UV X.prog X.w) X.A (f (.int i t) (.int j u)) Q E s) :
  VU X f (Y' fun i j=>.int (g i j)):=by
 intro aa s σ H x y v u Q I rx ry h
 obtain⟨i,j,rfl,rfl,q⟩:=h
 obtain⟨t,rfl⟩:=rx
 obtain⟨t',rfl⟩:=ry
 exact rule i j t t' s _ _ ⟨.int (g i j),H,I.tok _,⟨_,O⟩,q⟩
theorem Qbt {g:Int→Int→Bool}
  (rule:∀ (i j:Int) (t u:Wq) (s:UW) (Q:K'→UW→Prop) (E:K'→UW→Prop),Q (.bool (g i j)) s→L' (UV X.prog X.w) X.A (f (.int i t) (.int j u)) Q E s) :
  VU X f (Y' fun i j=>.bl (g i j)):=by
 intro aa s σ H x y v u Q I rx ry h
 obtain⟨i,j,rfl,rfl,q⟩:=h
 obtain⟨t,rfl⟩:=rx
 obtain⟨t',rfl⟩:=ry
 exact rule i j t t' s _ _ ⟨.bl (g i j),H,I,O,q⟩
def Qie (i j:Int):Prop:=0<j∧j<1073741824
def QcH (i j:Int):Prop:=(-(2 ^ 64)<i∧i<2 ^ 64)∨(-(2 ^ 64)<j∧j<2 ^ 64)
theorem QcH.ok {i j:Int} (h:QcH i j):IntMulOk i j:=by
 rcases h with⟨h1,h2⟩|⟨h1,h2⟩
 .exact .of_left (intBits_le_64 h1 h2)
 .exact .of_right (intBits_le_64 h1 h2)
theorem md:VU X (X1 .Add) (Y' fun i j=>.int (i+j)):=Qeu fun _ _ _ _ _ _ _ q=>add_int q
theorem iU:VU X (X1 .Sub) (Y' fun i j=>.int (i-j)):=Qeu fun _ _ _ _ _ _ _ q=>sub_int q
theorem qU:VU X (X1 .Mult) (rI QcH fun i j=>.int (i*j)):=opI fun _ _ _ _ _ _ _ hc q=>mul_int q hc.ok
theorem On:VU X (X1 .FloorDiv) (rI Qie fun i j=>.int (i / j)):=opI fun i j _ _ _ _ _ hc q=>by
 have h1:(0:Int)<j:=hc.1
 have h2:j<1073741824:=hc.2
 exact floordiv_int (by lia) (by rw[Uc i (by lia)];exact q) (.inl (PyProof.noPylong_small (by lia)))
theorem jP:VU X (X1 .Mod) (rI (fun _ j=>0<j) fun i j=>.int (i % j)):=opI fun i j _ _ _ _ _ hc q=>by
 have h1:(0:Int)<j:=hc
 exact mod_int' (by lia) (by rw[Int.fmod_eq_emod_of_nonneg i (by lia)];exact q)
theorem unI {f:K'→W6 K'}{g:Int→Int}
  (rule:∀ (i:Int) (t:Wq) (s:UW) (Q:K'→UW→Prop) (E:K'→UW→Prop),Q (.int (g i) s.toks) {s with toks:=s.toks+1}→L' (UV X.prog X.w) X.A (f (.int i t)) Q E s) :
  UnR X f (rU fun i=>.int (g i)):=by
 intro aa s σ H x v Q I rx h
 obtain⟨i,rfl,q⟩:=h
 obtain⟨t,rfl⟩:=rx
 exact rule i t s _ _ ⟨.int (g i),H,I.tok _,⟨_,O⟩,q⟩
theorem EO:UnR X (unaryOp .USub) (rU fun i=>.int (-i)):=unI fun _ _ _ _ _ q=>neg_int q
end
def Qev:V→V→Bool
 | .U8,.U8=>D' | .U8,.int _=>D' | .int _,.U8=>D' | .U8,.bl _=>D' | .bl _,.U8=>D' | .U8,.str _=>D' | .str _,.U8=>D'
 | .int _,.int _=>D' | .bl _,.bl _=>D' | .str _,.str _=>D' | .byt _,.byt _=>D'
 | .int _,.str _=>D' | .str _,.int _=>D' | .bl _,.str _=>D' | .str _,.bl _=>D'
 | _,_=>M'
def rEq:R2:=fun x y H Q=>Qev x y=D'∧Q (.bl (decide (x=y))) H
def rNe:R2:=fun x y H Q=>Qev x y=D'∧Q (.bl (!decide (x=y))) H
theorem FL {i j:Int}:decide (V.int i=V.int j)=(i == j):=by
 rw[Ts]
 simp
theorem Hh {i j:Bool}:decide (V.bl i=V.bl j)=(i == j):=by
 rw[Ts]
 simp
theorem HE {i j:C'}:decide (V.str i=V.str j)=(i == j):=by
 rw[Ts]
 simp
theorem FQ {i j:Array UInt8}:decide (V.byt i=V.byt j)=(i.toList == j.toList):=by
 rw[Ts]
 cases i
 cases j
 simp
section
variable {a b:Vh}
theorem bZ {Q:VK}{k k':Bool} (I:Inv X aa σ H s) (q:Q (.bl k) H) (e:k=k'):EP X aa σ Q (.bool k') s:=by
 subst e
 exact⟨.bl k,H,I,O,q⟩
theorem cw:VU X (WR .Eq) rEq:=by
 intro aa s σ H x y v u Q I rx ry h
 obtain⟨hs,q⟩:=h
 cases x with
 | U8=>
  cases rx
  cases y with
  | U8=>cases ry;exact QmH (bZ I q (by simp))
  | bl j=>cases ry;exact QmJ (bZ I q (by simp))
  | int j=>obtain⟨t',rfl⟩:=ry;exact QmI (bZ I q (by simp))
  | str j=>obtain⟨t',rfl⟩:=ry;exact QmG (bZ I q (by simp))
  | _=>exact U' (show M'=D' from hs) Sk
 | bl i=>
  cases rx
  cases y with
  | U8=>cases ry;exact QmL (bZ I q (by simp))
  | bl j=>cases ry;exact eq_bool (bZ I q Hh)
  | str j=>obtain⟨t',rfl⟩:=ry;exact Qms (bZ I q (by simp))
  | _=>exact U' (show M'=D' from hs) Sk
 | int i=>
  obtain⟨t,rfl⟩:=rx
  cases y with
  | U8=>cases ry;exact QmK (bZ I q (by simp))
  | int j=>obtain⟨t',rfl⟩:=ry;exact eq_int (bZ I q FL)
  | str j=>obtain⟨t',rfl⟩:=ry;exact Qmr (bZ I q (by simp))
  | _=>exact U' (show M'=D' from hs) Sk
 | str i=>
  obtain⟨t,rfl⟩:=rx
  cases y with
  | U8=>cases ry;exact QmF (bZ I q (by simp))
  | bl j=>cases ry;exact Qmq (bZ I q (by simp))
  | int j=>obtain⟨t',rfl⟩:=ry;exact Qmp (bZ I q (by simp))
  | str j=>obtain⟨t',rfl⟩:=ry;exact eq_str (bZ I q HE)
  | _=>exact U' (show M'=D' from hs) Sk
 | byt i=>
  obtain⟨t,rfl⟩:=rx
  cases y with
  | byt j=>obtain⟨t',rfl⟩:=ry;exact PySem.W.eq_bytes (bZ I q FQ)
  | _=>exact U' (show M'=D' from hs) Sk
 | _=>cases y<;>exact U' (show M'=D' from hs) Sk
theorem wQ:VU X (WR .NotEq) rNe:=by
 intro aa s σ H x y v u Q I rx ry h
 obtain⟨hs,q⟩:=h
 cases x with
 | U8=>
  cases rx
  cases y with
  | U8=>cases ry;exact QmA (bZ I q (by simp))
  | bl j=>cases ry;exact QmC (bZ I q (by simp))
  | int j=>obtain⟨t',rfl⟩:=ry;exact QmB (bZ I q (by simp))
  | str j=>obtain⟨t',rfl⟩:=ry;exact Qmz (bZ I q (by simp))
  | _=>exact U' (show M'=D' from hs) Sk
 | bl i=>
  cases rx
  cases y with
  | U8=>cases ry;exact QmE (bZ I q (by simp))
  | bl j=>cases ry;exact ne_bool (bZ I q (WS not Hh))
  | str j=>obtain⟨t',rfl⟩:=ry;exact Qmo (bZ I q (by simp))
  | _=>exact U' (show M'=D' from hs) Sk
 | int i=>
  obtain⟨t,rfl⟩:=rx
  cases y with
  | U8=>cases ry;exact QmD (bZ I q (by simp))
  | int j=>obtain⟨t',rfl⟩:=ry;exact ne_int (bZ I q (WS not FL))
  | str j=>obtain⟨t',rfl⟩:=ry;exact Qmn (bZ I q (by simp))
  | _=>exact U' (show M'=D' from hs) Sk
 | str i=>
  obtain⟨t,rfl⟩:=rx
  cases y with
  | U8=>cases ry;exact Qmy (bZ I q (by simp))
  | bl j=>cases ry;exact Qmm (bZ I q (by simp))
  | int j=>obtain⟨t',rfl⟩:=ry;exact Qml (bZ I q (by simp))
  | str j=>obtain⟨t',rfl⟩:=ry;exact ne_str (bZ I q (WS not HE))
  | _=>exact U' (show M'=D' from hs) Sk
 | byt i=>
  obtain⟨t,rfl⟩:=rx
  cases y with
  | byt j=>obtain⟨t',rfl⟩:=ry;exact PySem.W.ne_bytes (bZ I q (WS not FQ))
  | _=>exact U' (show M'=D' from hs) Sk
 | _=>cases y<;>exact U' (show M'=D' from hs) Sk
theorem mX:VU X (WR .Lt) (Y' fun i j=>.bl (decide (i<j))):=Qbt fun _ _ _ _ _ _ _ q=>lt_int q
theorem Qew:VU X (WR .LtE) (Y' fun i j=>.bl (decide (i≤j))):=Qbt fun _ _ _ _ _ _ _ q=>le_int q
theorem kK:VU X (WR .Gt) (Y' fun i j=>.bl (decide (j<i))):=Qbt fun _ _ _ _ _ _ _ q=>gt_int q
theorem AD:VU X (WR .GtE) (Y' fun i j=>.bl (decide (j≤i))):=Qbt fun _ _ _ _ _ _ _ q=>ge_int q
theorem AX:VU X (WR .In) (fun x y H Q=>∃ i j,x=.str i∧y=.str j∧Q (.bl (!(QaI j i 0 j.length 1).isEmpty)) H):=by
 intro aa s σ H x y v u Q I rx ry h
 obtain⟨i,j,rfl,rfl,q⟩:=h
 obtain⟨t,rfl⟩:=rx
 obtain⟨t',rfl⟩:=ry
 exact in_str (bZ I q O)
theorem aV (b:Vh) (h:op≠.In:=by decide) (h2:op≠.NotIn:=by decide):Z1 op b=M':=by
 have e1:(op == QhD)=M':=by cases op<;>first|rfl|exact U' O h
 have e2:(op == Qg7)=M':=by cases op<;>first|rfl|exact U' O h2
 cases b<;>simp[Z1,e1,e2]
theorem jS (ho:VU X (WR op) r) (ha:PE X a ta) (hb:PE X b tb) (hm:Z1 op b=M'):PE X (.Compare a [op] [b] pos) (ZD r ta tb):=by
 intro aa s σ H Q I h
 exact wpAny_Compare1 (QcG ha hb I h fun v u s2 x y H2 I2 rx ry q=>ho aa s2 σ H2 x y v u Q I2 rx ry q) hm
inductive Qif (Q:(Bool→Hp→Prop)) (x:V) (H':Hp):Prop
 | mk (k:_) (_:x=.bl k) (_:Q k H')
def Qig (t:TE):TT:=fun σ H Q=>t σ H fun x H'=>Qif Q x H'
theorem a7 (ho:VU X (WR op) r) (ha:PE X a ta) (hb:PE X b tb) (hm:Z1 op b=M'):PT X (.Compare a [op] [b] pos) (Qig (ZD r ta tb)):=by
 intro aa s σ H Q I h
 refine Ux (U6 (ha aa s σ H _ I h) fun v s1=>L2.Ve fun x H1 I1 r1 q1=>U6 (hb aa s1 σ H1 _ I1 q1) fun u s2=>L2.Ve fun y H2 I2 r2 q2=>
  U6 (ho aa s2 σ H2 x y v u _ I2 r1 r2 q2) fun c s3 ⟨z,H3,I3,r3,k,e,q3⟩=>?_) hm
 subst e
 cases r3
 exact SO ⟨H3,I3,q3⟩
def QcI (K:R') (x:V) (H:Hp) (k:Bool):Prop:=
 match x with
 | .U8=>k=M'
 | .bl b=>k=b
 | .int i=>k=(i != 0)
 | .str y=>y.length≤U2∧k=((y.length:Int) != 0)
 | .byt y=>y.size≤U2∧k=((y.size:Int) != 0)
 | .ref p=>(∃ xs,P' K H p xs∧k=!xs.isEmpty)∨(∃ xs,Vi K H p xs∧k=!xs.isEmpty)∨∃ kvs,H p=i' (.dK kvs)∧k=!kvs.isEmpty
 | _=>False
theorem OR {κ:Type}{kvs:List (κ×V)}{vs:List (κ×K')} (r:KV kvs vs):(!vs.isEmpty)=!kvs.isEmpty:=by
 cases r<;>rfl
theorem EX {ag:List K'} (r:aB xs ag):(!ag.toArray.isEmpty)=!xs.isEmpty:=by
 cases r<;>simp
theorem mR:(U2:Nat)<2 ^ 63:=by rw[S8];decide
theorem FM:Qid X (fun x H Q=>∃ k,QcI X.K x H k∧Q k H):=by
 intro aa s σ H x v Q I rx h
 obtain⟨k,e,q⟩:=h
 have hl:=mR
 have hs:U2=16777216:=S8
 cases x with
 | U8=>
  cases rx
  have e':k=M':=e
  subst e'
  exact truthy_none ⟨H,I,q⟩
 | bl b=>
  cases rx
  have e':k=b:=e
  subst e'
  exact SO ⟨H,I,q⟩
 | int i=>
  obtain⟨t,rfl⟩:=rx
  have e':k=(i != 0):=e
  subst e'
  exact PySem.P.truthy_int ⟨H,I,q⟩
 | str y=>
  obtain⟨t,rfl⟩:=rx
  obtain⟨hy,e'⟩:y.length≤U2∧k=((y.length:Int) != 0):=e
  subst e'
  exact PySem.P.truthy_str (by lia) ⟨H,I.tok _,q⟩
 | byt y=>
  obtain⟨t,rfl⟩:=rx
  obtain⟨hy,e'⟩:y.size≤U2∧k=((y.size:Int) != 0):=e
  subst e'
  exact PySem.W.truthy_bytes (by lia) ⟨H,I.tok _,q⟩
 | ref p=>
  cases rx
  have e':(∃ xs,P' X.K H p xs∧k=!xs.isEmpty)∨(∃ xs,Vi X.K H p xs∧k=!xs.isEmpty)∨∃ kvs,H p=i' (.dK kvs)∧k=!kvs.isEmpty:=e
  rcases e' with⟨xs,hx,e'⟩|⟨xs,hx,e'⟩|⟨kvs,hx,e'⟩
  .subst e'
   obtain⟨ag,r,pl,hz⟩:=I.list hx
   have aq:=r.length
   exact wpAny_truthy_list pl.isList (by simp only[Si];lia) ⟨H,I.tok _,by rw[EX r];exact q⟩
  .subst e'
   obtain⟨ag,r,pl,hz⟩:=I.tuple hx
   have aq:=r.length
   exact truthy_tuple pl (by simp only[Si];lia) ⟨H,I.tok _,by rw[EX r];exact q⟩
  .subst e'
   obtain⟨hz,hS,vs,r,m⟩:kvs.length≤U2∧(p == WO)=M'∧∃ vs,KV kvs vs∧s.heap.DictOf (bM X.prog X.w) p vs:=I.UZ p _ hx
   have aq:kvs.length=vs.length:=Qcg r
   exact wpAny_truthy_dict hS m (by lia) ⟨H,I.tok _,by rw[OR r];exact q⟩
 | _=>exact(show False from e).elim
theorem OB (ha:PE X a ta) (he:∀ db,QaL a X.env db=(do let v ← db;Zu a.pos;WX [v] (truthy v))) :
  PT X a (fun σ H Q=>ta σ H fun x H'=>∃ k,QcI X.K x H' k∧Q k H'):=by
 intro aa s σ H Q I h
 exact isTrue_plain (U6 (ha aa s σ H _ I h) fun v s1=>L2.Ve fun x H1 I1 r1 q1=>FM aa s1 σ H1 x v Q I1 r1 q1) (he _)
theorem uP:VU X (X1 .Add) (fun x y H Q=>∃ i j,x=.str i∧y=.str j∧i.length+j.length≤U2∧Q (.str (i++j)) H):=by
 intro aa s σ H x y v u Q I rx ry h
 obtain⟨i,j,rfl,rfl,hz,q⟩:=h
 obtain⟨t,rfl⟩:=rx
 obtain⟨t',rfl⟩:=ry
 exact add_str (fun t' tk=>⟨.str (i++j),H,I.tok _,⟨_,O⟩,q⟩) hz
theorem eZ (r:aB [x] us):∃ u,us=[u]∧aA x u:=by
 cases r with
 | cons r1 r2=>cases r2;exact⟨_,O,r1⟩
theorem pG (r:aB [x,y] us):∃ u w',us=[u,w']∧aA x u∧aA y w':=by
 cases r with
 | cons r1 r2=>
  cases r2 with
  | cons r3 r4=>cases r4;exact⟨_,_,O,r1,r3⟩
theorem Nd:fi X (.type "int") (fun xs H Q=>(∃ i,xs=[.int i]∧Q (.int i) H)∨∃ k,xs=[.bl k]∧Q (.int (if k then 1 else 0)) H):=by
 intro aa s σ H xs us Q I r h
 rcases h with⟨i,rfl,q⟩|⟨k,rfl,q⟩
 .obtain⟨u,rfl,t,rfl⟩:=eZ r
  exact call_int_int ⟨.int i,H,I,⟨_,O⟩,q⟩
 .obtain⟨u,rfl,r1⟩:=eZ r
  cases r1
  exact call_int_bool ⟨.int (if k then 1 else 0),H,I.tok _,⟨_,O⟩,q⟩
theorem w9:fi X (.type "str") (fun xs H Q=>∃ i,xs=[.int i]∧i.natAbs.log2<1920∧Q (.str (toString i)) H):=by
 intro aa s σ H xs us Q I r h
 obtain⟨i,rfl,hz,q⟩:=h
 obtain⟨u,rfl,t,rfl⟩:=eZ r
 exact PySem.P.str_of_int hz ⟨.str _,H,I.tok _,⟨_,O⟩,q⟩
end
structure py (h:Vo) (x dx C:F') (mA:C'→Option K'):Prop where
 obj:h.get? x=i' (Zm C dx)
 ns:h.Ns1 dx mA
 ne:dx≠x
theorem A0 (n:h.Ns1 dx mA):∃ od,h.get? dx=i' od∧∀ name,Qcc name od=i' (mA name):=by
 obtain⟨o,es,ep,ho,hd,hk,_,hm⟩:=n
 refine⟨o,ho,fun name=>?_⟩
 have e:=hm name
 unfold nsFind findBy at e
 rw[← Array.find?_toList] at e
 unfold Qcc
 rw[hd]
 dsimp only
 split
 .rename_i y q
  rw[q] at e
  exact WS i' e
 .rename_i q
  rw[q] at e
  have a:es.toList.any (·.refKey)=M':=by
   rw[List.any_eq_false]
   intro y hy
   obtain⟨z,t,cr⟩:=hk y (Array.mem_toList_iff.mp hy)
   simp[DictEntry.refKey,cr]
  have a':¬ es.toList.any (·.refKey)=D':=by rw[a];exact Sk
  rw[U4 a']
  exact WS i' e
theorem py.look {x:F'} (I:py h x dx C mA):∃ od,Zo h x (Zm C dx) C (i' od)∧∀ name,Qcc name od=i' (mA name):=
 let ⟨od,ho,hl⟩:=A0 I.ns
 ⟨od,⟨I.obj,rfl,rfl,ho⟩,hl⟩
section
variable {K:R'}{x f:F'}{v:K'}
theorem P4 (X:K.In s.heap) (I:py s.heap x dx C mA) (hg:Qb2 K C name=D') (hh:Qaw K C=D')
  (ha:Wg K (.ref C) name=i' B') (hv:mA name=i' v) (eM:Qdy v=D') (h:Q v {s with toks:=s.toks+1}) :
  L' (UV prog w) A (Qbo (.ref x) name expr) Q E s:=by
 obtain⟨od,J,hl⟩:=I.look
 exact PySem.W.get_value X J (Qdn hg).1 (Qf0 hh ha O (by rw[hl,hv])) eM h
theorem Q1 {Q:K'×List K'→UW→Prop} (X:K.In s.heap) (I:py s.heap x dx C mA) (hg:Qb2 K C name=D')
  (hf:Wg K (.ref C) name=i' (i' (.ref f))) (ht:Zr K (.ref f)=D') (hv:mA name=B') (h:Q (.ref f,[.ref x]) s) :
  L' (UV prog w) A (Z9 (.ref x) name pl) Q E s:=by
 obtain⟨od,J,hl⟩:=I.look
 exact PySem.W.method_fn X J (Qdn hg).1 (Qdn hg).2 hf (WQ.mp ht) (by show(Qcc name od).map (·.isSome)=i' M';rw[hl,hv];rfl) h
theorem QH {ns:List C'}{Q:Unit→UW→Prop} (X:K.In s.heap) (I:py s.heap x dx C mA)
  (hs:Wg K (.ref C) "__setattr__"=i' (i' (.builtin "object.__setattr__"))) (hp:Qgc K C=D') (ht:Qb6 K C name=i' B') (hh:Qaw K C=D')
  (hw:QdX mA ns) (hsz:ns.length≤U2)
  (h:∀ h',py h' x dx C (fun y=>if y=name then i' v else mA y)→Yb dx s.heap h'→Q () {s with heap:=h',toks:=s.toks+2}) :
  L' (UV prog w) A (setAttr (.ref x) name v) Q E s:=by
 obtain⟨od,J,hl⟩:=I.look
 refine Qgb X J hs (PySem.W.osa_open (s:={s with toks:=s.toks+1}) (r:=B') X J hp ht fun b=>?_)
 obtain⟨cd,hc,cS⟩:=QaC hh
 have hx:s.heap.get? x=i' ⟨.ref C,i' dx,.plain,#[]⟩:=I.obj
 refine oG (Sd (oG (oG (T6 hx (oG (ZR (s:={s with toks:=s.toks+1}) (Qdo X hc) ?_))))))
 rw[cS]
 refine Sd (a:=i' dx) (oG (Sd (oG ?_)))
 refine wpAny_nsSet1 (s:={s with toks:=s.toks+1}) I.ns fun h' nX fE=>?_
 obtain⟨oD,Ku,Ka,yL,zR,jD⟩:=nX.count (Qmw name v hw)
 refine oG (Qhb yL (by rw[zR];exact Qhf (SN jD (by rw[Sz];lia))) ?_)
 exact Sd (h _ ⟨(fE.2 _ (U5 I.ne)).trans I.obj,nX,I.ne⟩ fE)
theorem Rc (X:K.In s.heap) (hm:QdA K C=D')
  (hi:Wg K (.ref C) "__init__"=i' (i' (.ref f))) (hf:W3 K (.ref f)=i' (.type "function"))
  (h:Wp (UV prog w) (A.under (.builtin "type.__call__" ⟨.ref C::vs,kw⟩)) (.call (.ref f) ⟨.ref (s.heap.objs.size+1)::vs,kw⟩) (PySem.W.InitBack (s.heap.objs.size+1) R)
   {s with heap:=(s.heap.push YQ).push (Zm C s.heap.objs.size)}) :
  Wp (UV prog w) A (.call (.ref C) ⟨vs,kw⟩) R s:=by
 obtain⟨hh,g,d,t,os⟩:=s
 exact PySem.W.make_core (PySem.W.makes_of X hm) (Zi X hi) (fun self=>PySem.W.bind_fn X self hf) (.inl O) h
end
def aZ (f:C') (v:V):List (C'×V)→List (C'×V)
 | []=>[(f,v)]
 | (g,x)::r=>if g=f then(g,v)::r else(g,x)::aZ f v r
theorem GF (f g:C') (v:V):∀ fs:List (C'×V),(aZ f v fs).lookup g=if g=f then i' v else fs.lookup g
 | []=>by
  show Z3 g [(f,v)]=_
  by_cases h:g=f
  .have hb:(g == f)=D':=WQ.mpr h
   simp only[Z3,hb,U3 h]
  .have hb:(g == f)=M':=Qay.mpr h
   simp only[Z3,hb,U4 h]
 | (k,x)::r=>by
  have ih:=GF f g v r
  rw[show aZ f v ((k,x)::r)=(if k=f then(k,v)::r else(k,x)::aZ f v r) from rfl]
  by_cases hk:k=f
  .rw[U3 hk]
   by_cases h:g=k
   .have hb:(g == k)=D':=WQ.mpr h
    simp only[Z3,hb,U3 (h.trans hk)]
   .have hb:(g == k)=M':=Qay.mpr h
    simp only[Z3,hb,U4 (fun e:g=f=>h (e.trans hk.symm))]
  .rw[U4 hk]
   by_cases h:g=k
   .have hb:(g == k)=D':=WQ.mpr h
    simp only[Z3,hb,U4 (fun e:g=f=>hk (h.symm.trans e))]
   .have hb:(g == k)=M':=Qay.mpr h
    simp only[Z3,hb]
    exact ih
theorem BM (f:C') (v:V):∀ fs:List (C'×V),f∈(aZ f v fs).map (·.1)∧∀ g,g∈fs.map (·.1)→g∈(aZ f v fs).map (·.1)
 | []=>⟨by simp[aZ],fun g h=>by simp at h⟩
 | (k,x)::r=>by
  obtain⟨i1,i2⟩:=BM f v r
  rw[show aZ f v ((k,x)::r)=(if k=f then(k,v)::r else(k,x)::aZ f v r) from rfl]
  by_cases hk:k=f
  .rw[U3 hk]
   subst hk
   exact⟨by simp,fun g h=>by simpa using h⟩
  .rw[U4 hk]
   refine⟨?_,fun g h=>?_⟩
   .rw[S9]
    exact Sw _ i1
   .rw[S9] at h ⊢
    rcases SS.mp h with e|e
    .exact SS.mpr (.inl e)
    .exact Sw _ (i2 g e)
theorem E6 (f:C') (v:V):∀ fs:List (C'×V),(aZ f v fs).length≤fs.length+1
 | []=>by simp[aZ]
 | (k,x)::r=>by
  have ih:=E6 f v r
  rw[show aZ f v ((k,x)::r)=(if k=f then(k,v)::r else(k,x)::aZ f v r) from rfl]
  by_cases hk:k=f
  .rw[U3 hk,Sz,Sz];lia
  .rw[U4 hk,Sz,Sz];lia
theorem dW.some_of (r:dW (i' v) o):∃ u,o=i' u∧aA v u:=by
 cases o with
 | none=>exact(show False from r).elim
 | some u=>exact⟨u,O,r⟩
theorem dW.none_of (r:dW B' o):o=B':=by
 cases o with
 | none=>rfl
 | some u=>exact(show False from r).elim
theorem HN (r:aA v u):Qdy u=D':=by
 cases v with
 | U8=>cases (show u=VD from r);rfl
 | bl b=>cases (show u=XY b from r);rfl
 | int i=>obtain⟨t,e⟩:=(show ∃ t,u=X0 i t from r);cases e;rfl
 | str x=>obtain⟨t,e⟩:=(show ∃ t,u=QaJ x t from r);cases e;rfl
 | byt b=>obtain⟨t,e⟩:=(show ∃ t,u=Qg4 b t from r);cases e;rfl
 | Y5 b=>obtain⟨t,e⟩:=(show ∃ t,u=Qd1 b t from r);cases e;rfl
 | ref a=>cases (show u=U9 a from r);rfl
 | ty n=>cases (show u=Zs n from r);rfl
section
variable {fs J3:List (C'×V)}
theorem xj (UZ:VH P w H h) (e:H a=i' (.ins C dx fs)):∃ mA,py h a dx C mA∧(∀ f,dW (fs.lookup f) (mA f))∧QdX mA (fs.map (·.1))∧fs.length≤1000∧H dx=i' (.own a):=by
 obtain⟨d,z,ne,ob,mA,n,r,q⟩:=(show cM P w H h a (.ins C dx fs) from UZ a _ e)
 exact⟨mA,⟨ob,n,ne⟩,r,q,z,d⟩
end
structure WD (K:R') (C:F'):Prop where
 pg:Qb2 K C VT=D'
 hd:Qaw K C=D'
 po:Qgc K C=D'
 sa:Wg K (.ref C) "__setattr__"=i' (i' (.builtin "object.__setattr__"))
theorem WD.get {K:R'}{C:F'} (c:WD K C) (f:C'):Qb2 K C f=D':=c.pg
def zbk (K:R') (C:F') (f:C'):Prop:=Wg K (.ref C) f=i' B'
theorem zbk.Qih {K:R'}{f:C'} (n:zbk K C f):Qb6 K C f=i' B':=by
 unfold Qb6
 rw[show Wg K (.ref C) f=i' B' from n]
 rfl
structure Con (K:R') (C:F') (f:C') (v:V) (u:K'):Prop where
 at_:Wg K (.ref C) f=i' (i' u)
 rel:aA v u
 get:Qdv K u "__get__"=i' B'
 cp:PySem.W.copiedNames.contains f=M'
structure QaS (K:R') (C:F') (m:C') (f:F'):Prop where
 at_:Wg K (.ref C) m=i' (i' (.ref f))
 fn:Zr K (.ref f)=D'
 kp:XC K (.ref f)=D'
section
variable {fs:List (C'×V)}{f:C'}
theorem P8 (I:Inv X aa σ H s) (e:H a=i' (.ins C dx fs)) (c:WD X.K C) (n:zbk X.K C f) (l:fs.lookup f=i' v)
  (h:∀ u s',Inv X aa σ H s'→aA v u→Q u s'):L' (UV X.prog X.w) A (Qbo (.ref a) f b) Q E s:=by
 obtain⟨mA,U0,r,_,_,_⟩:=xj I.UZ e
 obtain⟨u,hu,ru⟩:=dW.some_of (v:=v) (o:=mA f) (by rw[← l];exact r f)
 exact P4 I.Vv U0 (c.get f) c.hd n hu (HN ru) (h u _ (I.tok _) ru)
theorem An {g:F'}{Q:K'×List K'→UW→Prop} (I:Inv X aa σ H s) (e:H a=i' (.ins C dx fs)) (c:WD X.K C) (k:QaS X.K C m g) (l:fs.lookup m=B')
  (h:Q (.ref g,[.ref a]) s):L' (UV X.prog X.w) A (Z9 (.ref a) m pl) Q E s:=by
 obtain⟨mA,U0,r,_,_,_⟩:=xj I.UZ e
 have hn:mA m=B':=dW.none_of (by rw[← l];exact r m)
 exact Q1 I.Vv U0 (c.get m) k.at_ k.fn hn h
theorem Pt {Q:Unit→UW→Prop} (I:Inv X aa σ H s) (e:H a=i' (.ins C dx fs)) (c:WD X.K C) (n:zbk X.K C f) (hl:fs.length<1000) (ry:aA y u)
  (h:∀ s',Inv X aa σ (upd H a (.ins C dx (aZ f y fs))) s'→Q () s'):L' (UV X.prog X.w) A (setAttr (.ref a) f u) Q E s:=by
 obtain⟨mA,U0,r,wi,_,ho⟩:=xj I.UZ e
 have hz:(fs.map (·.1)).length≤U2:=by rw[Ss,S8];lia
 refine QH I.Vv U0 c.sa c.po n.Qih c.hd wi hz fun h' O' sb=>h _ ?_
 have hd:∃ o,h'.get? dx=i' o:=let ⟨o,_,_,e',_⟩:=O'.ns;⟨o,e'⟩
 refine I.write (x:=a) (e:=dx) (by rw[e];exact WW) (.inr ho) (fun b q hb z=>(sb.2 b hb).trans z) hd ?_
 refine⟨by rw[aj U0.ne];exact ho,?_,U0.ne,O'.obj,_,O'.ns,fun g=>?_,fun g hg=>?_⟩
 .have:=E6 f y fs;lia
 .show dW ((aZ f y fs).lookup g) (if g=f then i' u else mA g)
  rw[GF]
  by_cases q:g=f
  .rw[U3 q,U3 q];exact ry
  .rw[U4 q,U4 q];exact r g
 .by_cases q:g=f
  .rw[q];exact(BM f y fs).1
  .refine(BM f y fs).2 g (wi g fun z=>hg ?_)
   show(if g=f then i' u else mA g)=B'
   rw[U4 q];exact z
theorem Inv.made (I:Inv X aa σ H s):Inv X aa σ (upd (upd H s.heap.objs.size (.own (s.heap.objs.size+1))) (s.heap.objs.size+1) (.ins C s.heap.objs.size []))
  {s with heap:=(s.heap.push YQ).push (Zm C s.heap.objs.size)}:=by
 have e1:(s.heap.push YQ).get? s.heap.objs.size=i' YQ:=Sf s.heap rfl
 have e2:((s.heap.push YQ).push (Zm C s.heap.objs.size)).get? (s.heap.objs.size+1)=i' (Zm C s.heap.objs.size):=by
  have:=Sf (s.heap.push YQ) (o:=Zm C s.heap.objs.size) rfl
  rwa [Su] at this
 have e3:(s.heap.push YQ).Ns s.heap.objs.size (fun _=>B'):=⟨YQ,#[],_,e1,O,(fun e he=>U' he (by simp)),fun _=>O⟩
 have I1:=I.laid (a:=s.heap.objs.size) (o:=.own (s.heap.objs.size+1)) (h':=s.heap.push YQ) (t':=s.toks) (fun b u q=>Sc _ q) (Sg _) ⟨_,e1⟩
 refine I1.laid (a:=s.heap.objs.size+1) (o:=.ins C s.heap.objs.size []) (t':=s.toks) (fun b u q=>Sc _ q) (TH (Su _ _)) ?_
 have ne:s.heap.objs.size≠s.heap.objs.size+1:=Sh (SY _)
 refine⟨by rw[aj ne,ah],Th _,ne,e2,fun _=>B',(UO e3).at fun o q=>Sc _ q,fun _=>WW,fun y hy=>U' O hy⟩
theorem HF {f:C'} (hb:YV e f env (Vg e env)=Vg e env)
  (h:L' (UV prog w) A (Vg e env) (fun o s₁=>L' (UV prog w) A (Qbo o f D') Q E s₁) E s):L' (UV prog w) A (Vg (.Attribute e f pos) env) Q E s:=
 Attribute_any_ h (by rw[arm_eval_Attribute,hb])
end
inductive Qii (K:R') (f:C') (Q:VK) (x:V) (H1:Hp):Prop
 | mk (a C dx fs v:_) (_:x=.ref a) (_:H1 a=i' (.ins C dx fs)) (_:WD K C) (_:zbk K C f) (_:fs.lookup f=i' v) (_:Q v H1)
def Qex (K:R') (ta:TE) (f:C'):TE:=fun σ H Q=>ta σ H fun x H1=>Qii K f Q x H1
inductive Qij (K:R') (f:C') (D:d8) (σ:St) (y:V) (x:V) (H2:Hp):Prop
 | mk (a C dx fs:_) (_:x=.ref a) (_:H2 a=i' (.ins C dx fs)) (_:WD K C) (_:zbk K C f) (_:fs.length<1000) (_:D.nx σ (upd H2 a (.ins C dx (aZ f y fs))))
def Qik (K:R') (ta tv:TE) (f:C'):TS:=fun D σ H=>tv σ H fun y H1=>ta σ H1 fun x H2=>Qij K f D σ y x H2
section
variable {o value:Vh}{f:C'}{tv:TE}
theorem bf (he:PE X e ta) (hb:YV e f X.env (Vg e X.env)=Vg e X.env):PE X (.Attribute e f pos) (Qex X.K ta f):=by
 intro aa s σ H Q I h
 refine HF hb (U6 (he aa s σ H _ I h) fun u s1=>L2.Ve fun x H1 I1 rx aQ=>?_)
 obtain⟨a,C,dx,fs,v,ex,ea,c,n,l,q⟩:=aQ
 subst ex
 obtain rfl:u=U9 a:=rx
 exact P8 I1 ea c n l fun u' s2 I2 ru=>⟨v,H1,I2,ru,q⟩
theorem fj (ha:PE X o ta) (hv:PE X value tv) (hs:Z8 value (i' (.Attribute o f a9)) pos.line X.env=pure M'):PS X (.Assign [.Attribute o f a9] value pos) (Qik X.K ta tv f):=by
 intro aa s σ H D I h
 refine QfF (U6 (hv aa s σ H _ I h) fun u s1=>L2.Ve fun y H1 I1 ry q=>U6 (ha aa s1 σ H1 _ I1 q) fun ov s2=>L2.Ve fun x H2 I2 rx aQ=>?_) hs
 obtain⟨a,C,dx,fs,ex,ea,c,n,l,q2⟩:=aQ
 subst ex
 obtain rfl:ov=U9 a:=rx
 exact Pt I2 ea c n l ry fun s3 I3=>⟨σ,_,I3,q2⟩
end
section
variable {c:K'}
inductive iZ (K:R') (H:Hp):V→K'→Prop where
 | U8:iZ K H .U8 (.type "NoneType")
 | bl (x:Bool):iZ K H (.bl x) (.type "bool")
 | int (i:Int):iZ K H (.int i) (.type "int")
 | str (x:C'):iZ K H (.str x) (.type "str")
 | Y5 (x:UInt64):iZ K H (.Y5 x) (.type "float")
 | lst {a:F'}{xs:List V} (e:H a=i' (.lst xs)):iZ K H (.ref a) (.type "list")
 | Vf {a:F'}{o:Vd}{xs:List V} (e:H a=i' (.Vf o (.lst xs))):iZ K H (.ref a) (.type "list")
 | tup {a:F'}{xs:List V} (e:H a=i' (.tup xs)):iZ K H (.ref a) (.type "tuple")
 | dK {a:F'}{kvs:List (Key×V)} (e:H a=i' (.dK kvs)):iZ K H (.ref a) (.type "dict")
 | dT {a:F'}{kvs:List (List Key×V)} (e:H a=i' (.dT kvs)):iZ K H (.ref a) (.type "dict")
 | ins {a C dx:F'}{fs:List (C'×V)} (e:H a=i' (.ins C dx fs)) (cl:WD K C) (ha:Wg K (.ref C) "__class__"=i' (i' (.builtin "object.__class__")))
   (hn:Qdv K (.builtin "object.__class__") "__get__"=i' (i' (.builtin "getset_descriptor.__get__"))) (htk:Qgm K (.builtin "object.__class__")=i' D')
   (hm:Wl K C (.type "object")=i' D'):iZ K H (.ref a) (.ref C)
theorem QB {t:K'} (I:Inv X aa σ H s) (rx:aA x u) (ty:iZ X.K H x t) (e:XT X.K t c=i' b) (h:∀ tk,Q (.bool b) {s with toks:=tk}) :
  L' (UV X.prog X.w) A (call (.builtin "isinstance") [u,c]) Q E s:=by
 cases ty with
 | U8=>cases (show u=VD from rx);exact XR PySem.W.kitx_none I.Vv WW e (fun z=>nomatch z) h
 | bl y=>cases (show u=XY y from rx);exact XR PySem.W.kitx_bool I.Vv WW e (fun z=>nomatch z) h
 | int i=>obtain⟨t,q⟩:=(show ∃ t,u=X0 i t from rx);cases q;exact XR PySem.W.kitx_int I.Vv WW e (fun z=>nomatch z) h
 | str y=>obtain⟨t,q⟩:=(show ∃ t,u=QaJ y t from rx);cases q;exact XR PySem.W.kitx_str I.Vv WW e (fun z=>nomatch z) h
 | Y5 y=>obtain⟨t,q⟩:=(show ∃ t,u=Qd1 y t from rx);cases q;exact XR PySem.W.kitx_float I.Vv WW e (fun z=>nomatch z) h
 | @lst a xs ea=>
  cases (show u=U9 a from rx)
  obtain⟨_,_,n,_,h1⟩:=(show cM X.prog X.w H s.heap a (.lst xs) from I.UZ a _ ea)
  exact XR Qgd I.Vv ⟨_,h1,O⟩ e (fun z=>nomatch z) h
 | @Vf a ob xs ea=>
  cases (show u=U9 a from rx)
  obtain⟨_,_,_,n,_,h1⟩:=(show cM X.prog X.w H s.heap a (.Vf ob (.lst xs)) from I.UZ a _ ea)
  exact XR Qgd I.Vv ⟨_,h1,O⟩ e (fun z=>nomatch z) h
 | @tup a xs ea=>
  cases (show u=U9 a from rx)
  obtain⟨_,_,_,p⟩:=(show cM X.prog X.w H s.heap a (.tup xs) from I.UZ a _ ea)
  obtain⟨o,h1,h2,_⟩:=p
  exact XR PySem.W.kitx_tuple I.Vv ⟨o,h1,h2⟩ e (fun z=>nomatch z) h
 | @dK a kvs ea=>
  cases (show u=U9 a from rx)
  obtain⟨_,_,vs,_,p⟩:=(show cM X.prog X.w H s.heap a (.dK kvs) from I.UZ a _ ea)
  obtain⟨o,es,ep,h1,h2,_⟩:=p
  exact XR Qge I.Vv ⟨o,h1,h2.1⟩ e (fun z=>nomatch z) h
 | @dT a kvs ea=>
  cases (show u=U9 a from rx)
  obtain⟨_,_,xs,_,o,es,ep,h1,h2,_⟩:=(show cM X.prog X.w H s.heap a (.dT kvs) from I.UZ a _ ea)
  exact XR Qge I.Vv ⟨o,h1,h2.1⟩ e (fun z=>nomatch z) h
 | @ins a C dx fs ea cl ha hn htk hm=>
  cases (show u=U9 a from rx)
  obtain⟨mA,U0,_⟩:=xj I.UZ ea
  obtain⟨od,J,_⟩:=U0.look
  exact XR (PySem.W.kitx_own (cl.get _) cl.hd ha hn htk hm) I.Vv J e (fun z=>nomatch z) h
end
structure bj (k:Nat) (A:V2):Prop where
 dp:A.depth+3*k+5<Qd0
 un:A.units+16*k+200<VN
theorem bj.mono {j k:Nat} (r:bj k A) (h:j≤k):bj j A:=⟨by have:=r.dp;lia,by have:=r.un;lia⟩
theorem bj.deeper {k:Nat}{A:V2} (r:bj (k+1) A) (env:Wh):bj k (A.deeper env):=
 ⟨by have:=r.dp;show A.depth+1+3*k+5<_;lia,by have:=r.un;show A.units+3+16*k+200<_;lia⟩
theorem bj.in1 {k:Nat}{A:V2} (r:bj (k+1) A):bj k A.in1:=
 ⟨by have:=r.dp;show A.depth+3*k+5<_;lia,by have:=r.un;show A.units+1+16*k+200<_;lia⟩
theorem OH:(A.under (.builtin "type.__call__" ⟨.ref C::us,kw⟩)).depth=A.depth+1:=by
 first|rfl|simp[QdS,Code.weight,Code.isCreation,Code.isGuard,Code.isCaller,Qhk,QdZ,guardIds]
theorem QD:(A.under (.builtin "type.__call__" ⟨.ref C::us,kw⟩)).units=A.units+1:=by
 first|rfl|simp[QdS,Code.cUnits,Qhk,QdZ]
theorem bj.make {k:Nat} (r:bj (k+1) A) (C:F') (us:List K') (kw:List (C'×K')):bj k (A.under (.builtin "type.__call__" ⟨.ref C::us,kw⟩)):=
 ⟨by have:=r.dp;rw[OH];lia,by have:=r.un;rw[QD];lia⟩
theorem bj.depth {k:Nat}{A:V2} (r:bj k A):A.depth<Qd0:=by have:=r.dp;lia
theorem bj.units {k:Nat}{A:V2} (r:bj k A):A.units+64<VN:=by have:=r.un;lia
def mT:TA:=fun _ H Q=>Q [] H
def Qey (ta:TE) (tr:TA):TA:=fun σ H Q=>ta σ H fun x H1=>tr σ H1 fun xs H2=>Q (x::xs) H2
section
variable {t:TA}
theorem ai:PA X [] mT:=fun _ _ _ _ H Q I h=>Qax ⟨[],H,I,.nil,h⟩
theorem af (ha:PE X e te) (hr:PA X es t) (hs:Vk (e::es) X.env=(M',Vg e X.env)::Vk es X.env:=by rfl):PA X (e::es) (Qey te t):=by
 intro pos aa s σ H Q I h
 rw[hs]
 show L' _ _ (spliced ((M',Vg e X.env)::VP pos (Vk es X.env))) _ _ s
 refine ZT (U6 (ha aa s σ H _ I h) fun u s1=>L2.Ve fun x H1 I1 r1 q1=>?_)
 exact U6 (hr pos aa s1 σ H1 _ I1 q1) fun us s2 ⟨xs,H2,I2,r2,q2⟩=>⟨x::xs,H2,I2,.cons r1 r2,q2⟩
def Qil (t:TA):TE:=fun σ H Q=>t σ H fun xs H1=>xs.length≤U2∧∀ p,H1 p=B'→Q (.ref p) (upd H1 p (.tup xs))
def QcJ (t:TA):TE:=fun σ H Q=>t σ H fun xs H1=>xs.length≤U2∧∀ p,H1 p=B'→Q (.ref p) (upd H1 p (.lst xs))
theorem fZ {x1} (h:PA X es t):PE X (.Tuple es x1 pos) (Qil t):=by
 intro aa s σ H Q I hq
 refine wpAny_Tuple_spliced (U6 (h pos aa s σ H _ I hq) fun us s1 ⟨xs,H1,I1,r,z,q⟩=>⟨by rw[← r.length];exact z,?_⟩)
 have hf:H1 s1.heap.objs.size=B':=I1.UZ.fresh (Sg _)
 refine⟨.ref s1.heap.objs.size,upd H1 s1.heap.objs.size (.tup xs),I1.laid (t':=s1.toks) (fun b u e=>Sc _ e) (Sg _) ?_,O,q _ hf⟩
 exact⟨z,us,r,⟨_,Sf _ O,O,_,O⟩⟩
theorem dC (h:PA X es t):PE X (.List es pos) (QcJ t):=by
 intro aa s σ H Q I hq
 refine wpAny_List_spliced (U6 (h pos aa s σ H _ I hq) fun us s1 ⟨xs,H1,I1,r,z,q⟩=>⟨by rw[← r.length];exact z,?_⟩)
 have hf:H1 s1.heap.objs.size=B':=I1.UZ.fresh (Sg _)
 refine⟨.ref s1.heap.objs.size,upd H1 s1.heap.objs.size (.lst xs),I1.laid (t':=s1.toks) (fun b u e=>Sc _ e) (Sg _) ?_,O,q _ hf⟩
 exact⟨z,us,0,r,Sf _ O⟩
end
abbrev Sp:=List V→Hp→VK→XK→Prop
abbrev XI:=List Wh→Hp→UW→XK→K'→UW→Prop
variable {CX:XI}{E:XK}{Q:VK}{base:Vo}{f:F'}{fd:XE}{mg:C'→Option K'}{outer:List Wh}{ps:List C'}{qual x:C'}{scope:WY}{sp:Sp}{t:TA}{vs:List V}
structure pV (P:Vy) (w:VL) (K:R') (mg:C'→Option K') (base:Vo) (A:V2) (outer:List Wh) (s:UW) (H:Hp):Prop where
 frames:A.frames=i' outer
 mod:Mod K mg base
 bs:∀ b o,base.get? b=i' o→s.heap.get? b=i' o∧H b=B'
 XH:base.objs.size≤s.heap.objs.size
 W7:s.heap.FunFrames base outer
 Yg:∀ b∈VR outer,H b=B'
 UZ:VH P w H s.heap
 bare:Yz s.gens
 hd:jn A H
def CE (outer:List Wh) (P:Vy) (w:VL) (H:Hp) (s:UW) (Q:VK) (u:K') (s':UW):Prop:=
 ∃ v H',s'.os=s.os∧Yz s'.gens∧Un (VR outer) [] H H' s.heap s'.heap∧VH P w H' s'.heap∧aA v u∧Q v H'
def CR (CX:XI) (outer:List Wh) (P:Vy) (w:VL) (H:Hp) (s:UW) (Q:VK) (E:XK) (r:Result) (s':UW):Prop:=
 match r with
 | .ok (.ret u)=>CE outer P w H s Q u s'
 | .ok _=>False
 | .error e=>CX outer H s E e s'
structure cg (P:Vy) (w:VL) (K:R') (mg:C'→Option K') (base:Vo) (CX:XI) (k:Nat) (f:F') (fd:XE) (ps:List C') (sp:Sp):Prop where
 len:∀ vs H Q E,sp vs H Q E→vs.length=ps.length
 run:∀ (A:V2) (outer:List Wh) (s:UW) (H:Hp) (args:Args) (us:List K') (vs:List V) (Q:VK) (E:XK),bj k A→pV P w K mg base A outer s H→Qac s fd args (ps.zip us)→aB vs us→sp vs H Q E →
  Wp (UV P w) A (.call (.ref f) args) (CR CX outer P w H s Q E) s
theorem pV.make {K:R'} (e:pV P w K mg base A outer s H) (C:F') (us:List K') (kw:List (C'×K')) :
  pV P w K mg base (A.under (.builtin "type.__call__" ⟨.ref C::us,kw⟩)) outer s H:=⟨by first|exact e.frames|(simpa [QdS,Code.envs,QdZ,pushEnvs] using e.frames),e.mod,e.bs,e.XH,e.W7,e.Yg,e.UZ,e.bare,e.hd⟩
theorem Inv.Qbu (I:Inv X aa σ H s):pV X.prog X.w X.K X.mg X.base X.A X.stack s H:=
 ⟨I.ok.frames,I.ok.mod,I.bs,SN I.ok.XH I.sz,I.stack,I.QaN,I.UZ,I.bare,I.Y7⟩
theorem Inv.after (I:Inv X aa σ H s) (h:CE X.stack X.prog X.w H s Q u s'):EP X aa σ Q u s':=by
 obtain⟨v,H',os,bare,un,UZ,r,q⟩:=h
 obtain⟨hh,g,d,t,vL⟩:=s'
 obtain rfl:vL=s.os:=os
 exact⟨v,H',I.call (h':=hh) (g':=g) (d':=d) (t':=t) (ch:=[]) un UZ bare (fun b z=>U' z (by simp)),r,q⟩
def Qez (sp:Sp) (aH:List V) (E:XK) (t:TA):TE:=fun σ H Q=>t σ H fun vs H1=>sp (vs++aH) H1 Q E
inductive Qim (C:F') (m:C') (sp:Sp) (aH:List V) (E:XK) (t:TA) (σ:St) (Q:VK) (x:V) (H1:Hp):Prop
 | mk (a dx fs:_) (_:x=.ref a) (_:H1 a=i' (.ins C dx fs)) (_:fs.lookup m=B') (_:t σ H1 fun vs H2=>sp (x::(vs++aH)) H2 Q E)
def wK (C:F') (m:C') (sp:Sp) (aH:List V) (E:XK) (ta:TE) (t:TA):TE:=fun σ H Q=>ta σ H fun x H1=>Qim C m sp aH E t σ Q x H1
def wq (C:F') (sp:Sp) (aH:List V) (E:XK) (t:TA):TE:=fun σ H Q=>t σ H fun vs H1=>∀ x dx,H1 x=B'→H1 dx=B'→dx≠x →
 sp (.ref x::(vs++aH)) (upd (upd H1 dx (.own x)) x (.ins C dx [])) (fun v H2=>v=.U8∧Q (.ref x) H2) E
def eB (K:R') (fd:XE) (ps:List C') (ds:List K'):Prop:=
 ∀ (s:UW) (us:List K'),K.In s.heap→(us++ds).length=ps.length→Qac s fd ⟨us,[]⟩ (ps.zip (us++ds))
theorem eB.all {K:R'} (h:∀ us:List K',us.length=ps.length→Z' fd ⟨us,[]⟩=pure (ps.zip us)):eB K fd ps []:=fun s us _ hl=>by
 rw[Xq] at hl ⊢
 exact .of_eq (h us hl)
def lW (CX:XI) (X:Cx) (E:XK):Prop:=∀ (aa:List (F'×Vd)) (σ:St) (H:Hp) (s:UW) (e:K') (s':UW),Inv X aa σ H s→CX X.stack H s E e s'→X.xe e s'
section
variable {k:Nat}{aH:List V}{ds:List K'}{p aL:VZ}{o:Vh}
theorem A2 (F:cg X.prog X.w X.K X.mg X.base CX k f fd ps sp) (hr:bj k X.A) (hb:eB X.K fd ps ds) (hd:aB aH ds) (hx:lW CX X E)
  (I:Inv X aa σ H s) (r:aB vs us) (h:sp (vs++aH) H Q E):L' (UV X.prog X.w) X.A (call (.ref f) us) (EP X aa σ Q) X.xe s:=by
 have r2:aB (vs++aH) (us++ds):=r.append hd
 have hl:(us++ds).length=ps.length:=by rw[← r2.length];exact F.len _ _ _ _ h
 refine Tl (Z2 (F.run X.A X.stack s H ⟨us,[]⟩ (us++ds) (vs++aH) Q E hr I.Qbu (hb s us I.Vv hl) r2 h) fun r s' hq=>?_)
 cases r with
 | error e=>exact hx aa σ H s e s' I hq
 | ok fl=>
  cases fl with
  | ret u=>exact I.after hq
  | next=>exact WB hq
  | brk=>exact WB hq
  | cont=>exact WB hq
theorem QW (F:cg X.prog X.w X.K X.mg X.base CX k f fd ps sp) (hr:bj k X.A) (hg:Gl X x) (hm:X.mg x=i' (.ref f)) (hk:XC X.K (.ref f)=D') (hb:eB X.K fd ps ds) (hd:aB aH ds) (hx:lW CX X E)
  (ha:PA X (e::es) t) (V0:(x == ("__debug__":C'))=M':=by decide) (he:Vk (e::es) X.env=(M',Vg e X.env)::Vk es X.env:=by rfl) (ck:(VP pos (Vk es X.env)).any (·.1)=M':=by rfl) :
  PE X (.Call (.Name x p) (e::es) [] pos) (Qez sp aH E t):=by
 intro aa s σ H Q I h
 refine SK (pW I hg hm ?_ V0)
 refine Qas (h₀:=X.base) I.ok.mod.YE hk (U6 (ha pos aa s σ H _ I h) fun us s1=>L2.Ve fun vs H1 I1 r q=>⟨I1.Vv,?_⟩) he ck
 exact A2 F hr hb hd hx I1 r q
theorem MX (he:PE X o ta) (c:WD X.K C) (hm:QaS X.K C m f) (F:cg X.prog X.w X.K X.mg X.base CX k f fd ps sp) (hr:bj k X.A) (hb:eB X.K fd ps ds) (hd:aB aH ds) (hx:lW CX X E) (ha:PA X (e::es) t)
  (cO:Vk (e::es) X.env=(M',Vg e X.env)::Vk es X.env:=by rfl) (ck:(VP pos (Vk es X.env)).any (·.1)=M':=by rfl)
  (ht:Vg (.Call (.Attribute o m aL) (e::es) [] pos) X.env=(do
   let ov ← Vg o X.env
   Zu aL.atName
   let (f,first) ← WX [ov] (Z9 ov m pl)
   Qbn pos f first (VP pos (Vk (e::es) X.env)) (Xs pos (Xr [] X.env))):=by rfl) :
  PE X (.Call (.Attribute o m aL) (e::es) [] pos) (wK C m sp aH E ta t):=by
 intro aa s σ H Q I h
 refine Qdm (pl:=pl) (U6 (he aa s σ H _ I h) fun u s1=>L2.Ve fun x H1 I1 rx aQ=>?_) ht
 obtain⟨a,dx,fs,ex,ea,l,q⟩:=aQ
 subst ex
 obtain rfl:u=U9 a:=rx
 refine An I1 ea c hm l ?_
 refine Qas (first:=[.ref a]) (h₀:=X.base) I.ok.mod.YE hm.kp (U6 (ha pos aa s1 σ H1 _ I1 q) fun us s2=>L2.Ve fun vs H2 I2 r q2=>⟨I2.Vv,?_⟩) cO ck
 exact A2 (us:=.ref a::us) (vs:=.ref a::vs) F hr hb hd hx I2 (.cons O r) q2
theorem Qy (he:PE X o ta) (c:WD X.K C) (hm:QaS X.K C m f) (F:cg X.prog X.w X.K X.mg X.base CX k f fd ps sp) (hr:bj k X.A) (hb:eB X.K fd ps ds) (hd:aB aH ds) (hx:lW CX X E)
  (ht:Vg (.Call (.Attribute o m aL) [] [] pos) X.env=(do
   let ov ← Vg o X.env
   Zu aL.atName
   let (f,first) ← WX [ov] (Z9 ov m pl)
   Qbn pos f first (VP pos (Vk [] X.env)) (Xs pos (Xr [] X.env))):=by rfl) :
  PE X (.Call (.Attribute o m aL) [] [] pos) (wK C m sp aH E ta mT):=by
 intro aa s σ H Q I h
 refine Qdm (pl:=pl) (U6 (he aa s σ H _ I h) fun u s1=>L2.Ve fun x H1 I1 rx aQ=>?_) ht
 obtain⟨a,dx,fs,ex,ea,l,q⟩:=aQ
 subst ex
 obtain rfl:u=U9 a:=rx
 refine An I1 ea c hm l ?_
 exact Qdp (first:=[.ref a]) I1.Vv hm.kp (A2 (us:=[.ref a]) (vs:=[.ref a]) F hr hb hd hx I1 (.cons O .nil) q)
structure Mk (K:R') (C f:F'):Prop where
 makes:QdA K C=D'
 init:Wg K (.ref C) "__init__"=i' (i' (.ref f))
 fn:Zr K (.ref f)=D'
 kp:XC K (.ref C)=D'
theorem FI (M:Mk X.K C f) (F:cg X.prog X.w X.K X.mg X.base CX k f fd ps sp) (hr:bj (k+1) X.A) (hb:eB X.K fd ps ds) (hd:aB aH ds)
  (hx:lW CX X E) (I:Inv X aa σ H s) (r:aB vs us)
  (h:∀ x dx,H x=B'→H dx=B'→dx≠x→sp (.ref x::(vs++aH)) (upd (upd H dx (.own x)) x (.ins C dx [])) (fun v H2=>v=.U8∧Q (.ref x) H2) E) :
  L' (UV X.prog X.w) X.A (call (.ref C) us) (EP X aa σ Q) X.xe s:=by
 have hq:=h (s.heap.objs.size+1) s.heap.objs.size (I.UZ.fresh (SH _)) (I.UZ.fresh (Sg _)) (Sh (SY _))
 have I2:=Inv.made (C:=C) I
 have r2:aB (V.ref (s.heap.objs.size+1)::(vs++aH)) (U9 (s.heap.objs.size+1)::(us++ds)):=.cons O (r.append hd)
 have hl:(U9 (s.heap.objs.size+1)::us++ds).length=ps.length:=by
  have e:=r2.length
  rw[F.len _ _ _ _ hq] at e
  exact e.symm
 refine Tl (Rc (f:=f) I.Vv M.makes M.init (WQ.mp M.fn) (Z2 (F.run _ X.stack _ _ ⟨U9 (s.heap.objs.size+1)::us,[]⟩ (U9 (s.heap.objs.size+1)::(us++ds)) _ _ E (hr.make C us [])
  (I2.Qbu.make C us []) (hb _ (U9 (s.heap.objs.size+1)::us) I2.Vv hl) r2 hq) fun r s' fq=>?_))
 cases r with
 | error e=>exact hx aa σ _ _ e s' I2 fq
 | ok fl=>
  cases fl with
  | ret u=>
   obtain⟨v,H',I3,rv,ev,q3⟩:=I2.after fq
   subst ev
   exact⟨rv,⟨V.ref (s.heap.objs.size+1),H',I3,O,q3⟩⟩
  | next=>exact WB fq
  | brk=>exact WB fq
  | cont=>exact WB fq
theorem MB (M:Mk X.K C f) (F:cg X.prog X.w X.K X.mg X.base CX k f fd ps sp) (hr:bj (k+1) X.A) (hg:Gl X x) (hm:X.mg x=i' (.ref C)) (hb:eB X.K fd ps ds) (hd:aB aH ds) (hx:lW CX X E)
  (ha:PA X (e::es) t) (V0:(x == ("__debug__":C'))=M':=by decide) (he:Vk (e::es) X.env=(M',Vg e X.env)::Vk es X.env:=by rfl) (ck:(VP pos (Vk es X.env)).any (·.1)=M':=by rfl) :
  PE X (.Call (.Name x p) (e::es) [] pos) (wq C sp aH E t):=by
 intro aa s σ H Q I h
 refine SK (pW I hg hm ?_ V0)
 refine Qas (h₀:=X.base) I.ok.mod.YE M.kp (U6 (ha pos aa s σ H _ I h) fun us s1=>L2.Ve fun vs H1 I1 r q=>⟨I1.Vv,?_⟩) he ck
 exact FI M F hr hb hd hx I1 r q
theorem Mi (M:Mk X.K C f) (F:cg X.prog X.w X.K X.mg X.base CX k f fd ps sp) (hr:bj (k+1) X.A) (hg:Gl X x) (hm:X.mg x=i' (.ref C)) (hb:eB X.K fd ps ds) (hd:aB aH ds) (hx:lW CX X E)
  (V0:(x == ("__debug__":C'))=M':=by decide):PE X (.Call (.Name x p) [] [] pos) (wq C sp aH E mT):=by
 intro aa s σ H Q I h
 refine SK (pW I hg hm ?_ V0)
 exact Qdp I.Vv M.kp (FI (us:=[]) M F hr hb hd hx I .nil h)
end
section
variable {k:Nat}{ks:List C'}{p aL dR:VZ}{o:Vh}{Ry:List Qab}{tk:TA}{nm:Option C'}
structure KBinds (K:R') (fd:XE) (ps ks:List C') (g:List K'→List K'→List K') (gV:List V→List V→List V):Prop where
 to:∀ (s:UW) (us ws:List K'),K.In s.heap→(g us ws).length=ps.length→Qac s fd ⟨us,ks.zip ws⟩ (ps.zip (g us ws))
 rel:∀ {vs:List V}{us:List K'}{zs:List V}{ws:List K'},aB vs us→aB zs ws→aB (gV vs zs) (g us ws)
variable {g:List K'→List K'→List K'}{gV:List V→List V→List V}
end
structure aI (N P:List C') (sc:WY):Prop where
 kind:sc.kind=.function
 co:sc.isCoroutine=M'
 gen:sc.isGenerator=M'
 nd:N.Nodup
 pre:N.take P.length=P
 par:∀ x∈P,sc.names.lookup x=i' .local∨sc.names.lookup x=i' .cell
 Qin:∀ y∈sc.names,y.2≠.free
theorem Hq {kindOf:C'→Option XD}{x:C'}:∀ {fO:List (C'×K')}{m:C'→Option K'},(∀ v,(x,v)∉fO)→Zv kindOf fO m x=m x
 | [],_,_=>rfl
 | (n,v)::r,m,h=>by
  unfold Zv
  rw[Hq fun w hw=>h w (Sw _ hw)]
  split
  .have:x≠n:=by rintro rfl;exact h v SJ
   simp[this]
  .rfl
theorem Hm {kindOf:C'→Option XD}{x:C'}:∀ {fO:List (C'×K')}{m:C'→Option K'},(∀ v,(x,v)∉fO)→Zw kindOf fO m x=m x
 | [],_,_=>rfl
 | (n,v)::r,m,h=>by
  unfold Zw
  rw[Hm fun w hw=>h w (Sw _ hw)]
  split
  .rfl
  .have:x≠n:=by rintro rfl;exact h v SJ
   simp[this]
theorem E2 {kindOf:C'→Option XD}{x:C'}{v:K'}:∀ {P:List C'}{vs:List K'}{i:Nat}{m:C'→Option K'},P.Nodup→P[i]?=i' x→vs[i]?=i' v→kindOf x=i' .local →
  Zv kindOf (P.zip vs) m x=i' v
 | [],_,_,_,_,h,_,_=>by simp at h
 | _::_,[],_,_,_,_,h,_=>by simp at h
 | p::P,w::vs,0,m,nd,h1,h2,hk=>by
  simp at h1 h2;subst h1;subst h2
  show Zv kindOf ((p,w)::P.zip vs) m p=_
  unfold Zv
  rw[Hq fun v hv=>(YT.mp nd).1 (Us hv).1,U3 hk]
  simp
 | p::P,w::vs,i+1,m,nd,h1,h2,hk=>by
  show Zv kindOf ((p,w)::P.zip vs) m x=_
  unfold Zv
  exact E2 (i:=i) (YT.mp nd).2 (by simpa using h1) (by simpa using h2) hk
theorem GK {kindOf:C'→Option XD}{x:C'}{v:K'}:∀ {P:List C'}{vs:List K'}{i:Nat}{m:C'→Option K'},P.Nodup→P[i]?=i' x→vs[i]?=i' v→kindOf x≠i' .local →
  Zw kindOf (P.zip vs) m x=i' v
 | [],_,_,_,_,h,_,_=>by simp at h
 | _::_,[],_,_,_,_,h,_=>by simp at h
 | p::P,w::vs,0,m,nd,h1,h2,hk=>by
  simp at h1 h2;subst h1;subst h2
  show Zw kindOf ((p,w)::P.zip vs) m p=_
  unfold Zw
  rw[Hm fun v hv=>(YT.mp nd).1 (Us hv).1,U4 hk]
  simp
 | p::P,w::vs,i+1,m,nd,h1,h2,hk=>by
  show Zw kindOf ((p,w)::P.zip vs) m x=_
  unfold Zw
  exact GK (i:=i) (YT.mp nd).2 (by simpa using h1) (by simpa using h2) hk
def jU (N:List C') (vs:List V):St:=vs.map i'++VA (N.length-vs.length) B'
def jh (CX:XI) (P:Vy) (w:VL) (K:R') (mg:C'→Option K') (base:Vo) (N:List C') (qual:C') (scope:WY) (f:F') (cd:K') (A:V2) (outer:List Wh) (s:UW) (H:Hp) (E:XK):Cx where
 prog:=P
 w:=w
 K:=K
 mg:=mg
 base:=base
 A:=A.deeper (X2 qual scope s.heap.objs.size f cd)
 N:=N
 s₀:=s
 H₀:=H
 env:=X2 qual scope s.heap.objs.size f cd
 outer:=outer
 stack:=X2 qual scope s.heap.objs.size f cd::outer
 ex:=[]
 calm:=D'
 fn:=fun _=>D'
 pn:=[]
 xe:=fun e s'=>L' (UV P w) (A.deeper (X2 qual scope s.heap.objs.size f cd)) (leaving (X2 qual scope s.heap.objs.size f cd) e) (fun _ zr=>CX outer H s E e zr) (fun e' zr=>CX outer H s E e' zr) s'
theorem FW {sc:WY} (h:sc.names.lookup x=i' .cell):∃ c,(Qei n sc.names []).lookup x=i' c:=by
 have q:=QfL sc.names n [] (.inl h)
 exact Yt.mp q
theorem Qr {K:R'}{cd:K'}{s1:UW}
  (S:aI N ps scope) (e0:pV P w K mg base A outer s H) (hl:vs.length=ps.length) (r:aB vs us)
  (x:InCallC s s.heap.objs.size (Zv (X2 qual scope s.heap.objs.size f cd).kindOf (ps.zip us) fun _=>B') (Qei (s.heap.objs.size+1) scope.names []) (Zw (X2 qual scope s.heap.objs.size f cd).kindOf (ps.zip us) fun _=>B') s1) :
  Inv (jh CX P w K mg base N qual scope f cd A outer s H E) [] (jU N vs) H s1:=by
 have ck:ps.length≤N.length:=by have:=WS List.length S.pre;rw[Uj] at this;lia
 obtain⟨h1,tk,rfl,hk⟩:=x.done
 have nR:∀ b:F',b∉(jh CX P w K mg base N qual scope f cd A outer s H E).ex:=fun b z=>U' (show b∈([]:List F') from z) (by simp)
 refine⟨⟨e0.mod,S.kind,O,O,Sg _,fun y z c h1 h2=>?_,fun y hy=>?_,fun y c _ h=>?_,e0.hd,Qf2 e0.frames,.inr ⟨O,O⟩,fun b z=>U' z (nR b),e0.bs,e0.XH,fun b _ _=>nR b,fun b z=>U' z (nR b),e0.W7,e0.Yg⟩,
  rfl,e0.bare,Un.kept hk,⟨_,x.toInCall.ns,fun i y v h1 h2 h3=>?_⟩,fun y c h=>⟨_,x.cell y c h⟩,e0.UZ.fresh (Sg _),fun y c h=>?_,fun p hp=>U' (show p∈([]:List (F'×Vd)) from hp) (by simp),e0.UZ.kept hk,?_⟩
 .exact name_of_addr x.apart (YO h1) (YO h2)
 .have hy:scope.names.lookup y=i' .cell∨scope.names.lookup y=i' .free:=hy
  rcases hy with hy|hy
  .exact FW hy
  .exact U' O (S.Qin _ (YO hy))
 .exact S1 (x.above y c (YO h))
 .have hi:i<vs.length:=by
   unfold jU at h2
   by_cases hi:i<vs.length
   .exact hi
   .rw[QfK (by simpa using hi)] at h2
    rw[List.getElem?_replicate] at h2
    split at h2<;>cases h2
  have ha:vs[i]?=i' v:=by
   unfold jU at h2
   rw[QfQ (by simpa using hi),Td] at h2
   cases e:vs[i]? with
   | none=>rw[e] at h2;cases h2
   | some a=>rw[e] at h2;cases h2;rfl
  obtain⟨u,hu,rv⟩:=r.get ha
  have hp:ps[i]?=i' y:=by
   rw[← S.pre,List.getElem?_take_of_lt (by lia)];exact h1
  have Db:ps.Nodup:=by rw[← S.pre];exact S.nd.sublist (List.take_sublist _ _)
  refine⟨u,rv,?_⟩
  rcases S.par y (Tb hp) with k|k
  .exact .inl ⟨k,E2 Db hp hu k⟩
  .obtain⟨c,e⟩:=FW (n:=s.heap.objs.size+1) k
   refine .inr ⟨.inl k,c,e,?_⟩
   have q:=x.cell y c e
   rw[GK Db hp hu (by show scope.names.lookup y≠_;rw[k];decide)] at q
   exact q
 .exact e0.UZ.fresh (S1 (x.above y c (YO h)))
 .unfold jU
  show _=N.length
  rw[Tg,Ss,Qf9]
  lia
theorem A1 {K:R'}{k:Nat}{params:Qel}{dV kV bP pm aw ct oc:K'}{an od:Option F'}
  {dH:Array (Option K')} (lk:K.lookup f=i' ⟨oc,od,.func (YW name qual params body scope dV kV bP pm an aw ct),dH⟩) (gq:Yu K aw qual=D') (S:aI N ps scope)
  (len:∀ vs H Q E,sp vs H Q E→vs.length=ps.length)
  (cq:∀ (A:V2) (outer:List Wh) (s:UW) (H:Hp) (vs:List V) (Q:VK) (E:XK),bj k (A.deeper (X2 qual scope s.heap.objs.size f aw))→sp vs H Q E →
   ∃ t,Wy (jh CX P w K mg base N qual scope f aw A outer s H E) body t∧t {nx:=fun _ H'=>Q .U8 H',rt:=Q} (jU N vs) H) :
  cg P w K mg base CX (k+1) f (YW name qual params body scope dV kV bP pm an aw ct) ps sp:=by
 refine⟨len,fun A outer s H args us vs Q E hr e0 hb r jb=>?_⟩
 have hl:=len _ _ _ _ jb
 have KX:K.In s.heap:=e0.mod.YE.keeps fun b o e=>(e0.bs b o e).1
 have lim:s.heap.NoLimit:=e0.mod.nolimit.keeps fun b o e=>(e0.bs b o e).1
 have bv:∀ y∈ps.zip us,scope.names.lookup y.1=i' .local∨(scope.names.lookup y.1=i' .cell∧((Qei (s.heap.objs.size+1) scope.names []).lookup y.1).isSome=D'):=fun⟨n,v⟩ hy=>by
  rcases S.par n (Us hy).1 with q|q
  .exact .inl q
  .exact .inr ⟨q,QfL _ _ _ (.inl q)⟩
 refine codeAny_call_function hr.depth (KX _ _ lk) O S.co S.gen O (PySem.W.codeRec_of KX gq) (hb _ _ _ _ ?_)
 refine wpAny_newFunctionEnv_cells S.kind bv fun env he s1 x=>?_
 subst he
 refine⟨lim.keeps x.toInCall.keep,codeAny_func ?_⟩
 obtain⟨t,ht,hq⟩:=cq A outer s H vs Q E (hr.deeper _) jb
 have I:Inv (jh CX P w K mg base N qual scope f aw A outer s H E) [] (jU N vs) H s1:=Qr S e0 hl r x
 refine SE (ht [] s1 (jU N vs) H _ I hq) (fun fl s' hs=>?_) fun e s' hs=>hs
 have aG:∀ {σ':St}{H':Hp}{v:V}{u:K'},Inv (jh CX P w K mg base N qual scope f aw A outer s H E) [] σ' H' s'→aA v u→Q v H'→CE outer P w H s Q u s':=
  fun {σ' H' v u} J rv q=>⟨v,H',J.os,J.bare,J.base,J.UZ,rv,q⟩
 cases fl with
 | ret u=>
  obtain⟨v,σ',H',J,rv,q⟩:=hs
  exact aG J rv q
 | next=>
  obtain⟨σ',H',J,q⟩:=hs
  exact aG (v:=V.U8) (u:=VD) J O q
 | brk=>
  obtain⟨_,_,_,q⟩:=hs
  exact WB q
 | cont=>
  obtain⟨_,_,_,q⟩:=hs
  exact WB q
section
variable {p:VZ}{id T:String}{r:List V→Hp→VK→Prop}
def tCB (r:List V→Hp→VK→Prop) (t:TA):TE:=fun σ H Q=>t σ H fun vs H1=>r vs H1 Q
theorem bx (hc:fi X (.builtin id) r) (hg:Gl X x) (hm:X.mg x=B') (hv:WK x=i' (.builtin id)) (ha:PA X (e::es) t) (hn:x≠"__name__":=by decide) (V0:(x == ("__debug__":C'))=M':=by decide)
  (he:Vk (e::es) X.env=(M',Vg e X.env)::Vk es X.env:=by rfl) (ck:(VP pos (Vk es X.env)).any (·.1)=M':=by rfl):PE X (.Call (.Name x p) (e::es) [] pos) (tCB r t):=by
 intro aa s σ H Q I h
 refine SK (jr I hg hm hv ?_ hn V0)
 exact QmS (U6 (ha pos aa s σ H _ I h) fun us s1=>L2.Ve fun vs H1 I1 r1 q1=>hc aa s1 σ H1 vs us Q I1 r1 q1) he ck
theorem jO (hc:fi X (.type T) r) (hg:Gl X x) (hm:X.mg x=B') (hv:WK x=i' (.type T)) (ha:PA X (e::es) t) (hn:x≠"__name__":=by decide) (V0:(x == ("__debug__":C'))=M':=by decide)
  (he:Vk (e::es) X.env=(M',Vg e X.env)::Vk es X.env:=by rfl) (ck:(VP pos (Vk es X.env)).any (·.1)=M':=by rfl):PE X (.Call (.Name x p) (e::es) [] pos) (tCB r t):=by
 intro aa s σ H Q I h
 refine SK (jr I hg hm hv ?_ hn V0)
 exact Zh (U6 (ha pos aa s σ H _ I h) fun us s1=>L2.Ve fun vs H1 I1 r1 q1=>hc aa s1 σ H1 vs us Q I1 r1 q1) he ck
end
end L2
namespace HT
variable {sl:Addr}
open PySem PyProof.Rows
section
open PySem.SeqAt
open PySem.AutoSeq1 (wpAny_loadPart')
open PySem.MeetsSeq PySem.MeetsSeq2 PySem.MeetsSeq3
end
section
variable {prog:Vy}{w:VL}{A:V2}{E:K'→UW→Prop}{s:UW}
def Vj (n d:Nat):Option Int→Nat
 | none=>d
 | some v=>if v<0 then(v+(n:Int)).toNat else min v.toNat n
theorem zjd (n d:Nat):Vj n d B'=d:=rfl
theorem ZE (n d k:Nat):Vj n d (i' (k:Int))=min k n:=by
 show(if (k:Int)<0 then((k:Int)+(n:Int)).toNat else min (k:Int).toNat n)=min k n
 rw[U4 (by lia),WA]
theorem Qio (n d:Nat) (hd:d≤n) (o:Option Int):Vj n d o≤n:=by
 cases o with
 | none=>exact hd
 | some v=>
  show(if v<0 then(v+(n:Int)).toNat else min v.toNat n)≤n
  by_cases hv:v<0
  .rw[U3 hv];lia
  .rw[U4 hv];exact Qb9 _ _
theorem Gy (v:Int) (n d:Nat):(if v<0 then max (v+(n:Int)) 0 else min v (n:Int))=((Vj n d (i' v):Nat):Int):=by
 show(if v<0 then max (v+(n:Int)) 0 else min v (n:Int))=(((if v<0 then(v+(n:Int)).toNat else min v.toNat n):Nat):Int)
 by_cases hv:v<0
 .simp only[U3 hv];lia
 .simp only[U4 hv];lia
theorem ME (lo hi:Option Int) (n:Nat):Qde lo hi 1 (n:Int)=(((Vj n 0 lo:Nat):Int),((Vj n n hi:Nat):Int)):=by
 have h1:¬ ((1:Int)<0):=by lia
 unfold Qde
 simp only[h1,Wc]
 refine Prod.ext ?_ ?_
 .cases lo with
  | none=>rfl
  | some v=>exact Gy v n 0
 .cases hi with
  | none=>rfl
  | some v=>exact Gy v n n
theorem N0 (i j:Nat):QbM (i:Int) (j:Int) 1=j-i:=by
 unfold QbM
 have h1:(1:Int) > 0:=by lia
 simp only[h1,Xi,Int.ediv_one]
 split<;>lia
theorem HX {v:K'}{o:Option Int}{Q:Option Int→UW→Prop} (p:YA v o) (h:Q o s):L' (UV prog w) A (Qmt v) Q E s:=by
 cases p with
 | none=>exact QhE h
 | int i t=>exact slicePart_int h
theorem Ho {vl vu:K'}{lo hi:Option Int}{n:Nat}{Q:Int×Int×Nat→UW→Prop} (hs:s.heap.IsSliceOf sl vl vu .none) (pl:YA vl lo) (pu:YA vu hi)
  (h:Q (((Vj n 0 lo:Nat):Int),1,Vj n n hi-Vj n 0 lo) s):L' (UV prog w) A (Qfq (.ref sl) (pure (n:Int))) Q E s:=by
 obtain⟨os,kU,cE,eQ⟩:=id hs
 unfold Qfq Qmu
 refine VO (VO (Qeb kU eQ (x:=vl) O (VO (Qeb kU eQ (x:=vu) O (VO (Qeb kU eQ (x:=.none) O (Ww ?_)))))))
 refine VO (QhE ?_)
 show L' _ _ (if ((1:Int) == 0)=D' then _ else _) _ _ s
 rw[U4 (by decide)]
 refine VO (HX pl (VO (HX pu (VO (Ww ?_)))))
 show L' _ _ (match Qde lo hi 1 (n:Int) with|(lo,hi)=>pure (lo,(1:Int),QbM lo hi 1)) _ _ s
 rw[ME lo hi n]
 show L' _ _ (pure (((Vj n 0 lo:Nat):Int),(1:Int),QbM ((Vj n 0 lo:Nat):Int) ((Vj n n hi:Nat):Int) 1)) _ _ s
 rw[N0]
 exact Ww h
theorem Rh (xs:Array K') (i k:Nat):((VX k).filterMap fun(m:Nat)=>xs[((i:Int)+(m:Int)*1).toNat]?).toArray=((xs.toList.drop i).take k).toArray:=by
 have e:(fun(m:Nat)=>xs[((i:Int)+(m:Int)*1).toNat]?)=fun m=>xs[i+m]?:=by
  funext m
  have:((i:Int)+(m:Int)*1).toNat=i+m:=by lia
  rw[this]
 rw[e]
 have:=pick_run xs i k
 rw[List.filterMap_map] at this
 have e2:((fun x=>xs[x]?) ∘ fun x=>i+x)=fun m=>xs[i+m]?:=rfl
 rw[e2] at this
 rw[this]
theorem zeI {t:F'}{items:Array K'}{vl vu:K'}{lo hi:Option Int}{Q:K'→UW→Prop} (ht:Qaf s.heap t items) (hs:s.heap.IsSliceOf sl vl vu .none) (pl:YA vl lo) (pu:YA vu hi)
  (hw:¬ (Vj items.size 0 lo=0∧Vj items.size items.size hi=items.size))
  (h:Q (.ref s.heap.objs.size) {s with heap:=s.heap.push {cls:=.type "tuple",data:=.seq ((items.toList.drop (Vj items.size 0 lo)).take (Vj items.size items.size hi-Vj items.size 0 lo)).toArray} })
  (hsz:items.size≤U2):L' (UV prog w) A (Yd (.ref t) (.ref sl)) Q E s:=by
 have im:sizeOk (.seq ((items.toList.drop (Vj items.size 0 lo)).take (Vj items.size items.size hi-Vj items.size 0 lo)).toArray):=by
  show((items.toList.drop (Vj items.size 0 lo)).take (Vj items.size items.size hi-Vj items.size 0 lo)).toArray.size≤U2
  rw[List.size_toArray,VJ,ZW,Qdt]
  lia
 have hj:Vj items.size items.size hi≤items.size:=Qio _ _ (Xh _) hi
 obtain⟨os,kU,cE,eQ⟩:=id hs
 have zL:s.TypeIs (.ref sl) "slice":=⟨os,kU,cE⟩
 unfold Yd
 try with_reducible refine wpAny_holding ?_
 first|refine VO (Ww ?_)|skip
 refine VO (Qg0 ht.typeIs (by decide) ?_)
 refine VO (Qgk (name:=Vb "__getitem__") ht.typeIs ZU
  (Qhe ZU ht.typeIs QgP ?_ (QgV _ _)))
 show L' _ _ (Qfp (.ref t) >>= _) _ _ s
 refine VO (tupleItemsOf_ ht ?_)
 refine VO (Qcq zL ?_)
 rw[U3 (by decide)]
 refine VO (Ho hs pl pu ?_)
 have yH:¬ ((((Vj items.size 0 lo:Nat):Int) == 0 && (1:Int) == 1 && (Vj items.size items.size hi-Vj items.size 0 lo) == items.size)=D'):=by
  intro q
  rw[XB,XB] at q
  have q1:((Vj items.size 0 lo:Nat):Int)=0:=eq_of_beq q.1.1
  have q2:Vj items.size items.size hi-Vj items.size 0 lo=items.size:=eq_of_beq q.2
  exact hw ⟨by lia,by lia⟩
 show L' _ _ (if (((Vj items.size 0 lo:Nat):Int) == 0 && (1:Int) == 1 && (Vj items.size items.size hi-Vj items.size 0 lo) == items.size)=D' then _ else _) _ _ s
 rw[U4 yH,Rh]
 first
  | exact VO (m:=QbN _) (Qca (Ww ⟨_,O,Ww h⟩) im)
  | exact VO (m:=QbN _) (Qca (VO (Ww (Ww ⟨_,O,Ww h⟩))) im)
  | exact VO (VO (m:=QbN _) (Qca (Ww (Ww ⟨_,O,Ww h⟩)) im))
  | exact VO (VO (m:=QbN _) (Qca (Ww ⟨_,O,Ww h⟩) im))
end
end HT
namespace L2
variable {A:Around}{E Q:Value→Shared→Prop}{H H':Hp}{P prog:Program}{T id:String}{X:Cx}{a b p:Addr}{aa:List (Addr×Obj)}{ag its':List Value}{e value:Expr}{h':Heap}{i:Int}{kR:List (TE×TE)}{kvs:List (List Key×V)}{n t':Nat}{o:Option V}{pos:Pos}{s:Shared}{u v:Value}{w:World}{x y:V}{xs:List (List Key×Addr×Value)}{σ:St}
open PySem PySem.Spec PyProof.Rows
abbrev TO:=St→Hp→(Option Int→Hp→Prop)→Prop
def PO (X:Cx) (e:Option Vh) (t:TO):Prop:=
 ∀ (aa:List (F'×Vd)) (s:UW) (σ:St) (H:Hp) (Q:Option Int→Hp→Prop),Inv X aa σ H s→t σ H Q →
  L' (UV X.prog X.w) X.A (evalPart e X.env) (fun u s'=>∃ o H',Inv X aa σ H' s'∧YA u o∧Q o H') X.xe s
def OM:TO:=fun _ H Q=>Q B' H
inductive Qip (Q:(Option Int→Hp→Prop)) (x:V) (H1:Hp):Prop
 | mk (i:_) (_:x=.int i) (_:Q (i' i) H1)
def Qiq (t:TE):TO:=fun σ H Q=>t σ H fun x H1=>Qip Q x H1
section
variable {te:TE}{lo hi:Option Vh}{tl th:TO}{p2:VZ}
theorem pL:PO X B' OM:=by
 intro aa s σ H Q I h
 rw[evalPart_none]
 exact Sd ⟨B',H,I,.none,h⟩
theorem jL (h:PE X e te):PO X (i' e) (Qiq te):=by
 intro aa s σ H Q I hw
 rw[evalPart_some]
 refine U6 (h aa s σ H _ I hw) fun u s1=>L2.Ve fun x H1 I1 r1 q1=>?_
 obtain⟨i,rfl,q⟩:=q1
 obtain⟨t,rfl⟩:=r1
 exact⟨i' i,H1,I1,.int i t,q⟩
def SlR (X:Cx) (r:V→Option Int→Option Int→Hp→VK→Prop):Prop:=
 ∀ (aa:List (F'×Vd)) (s:UW) (σ:St) (H:Hp) (x:V) (v vl vu:K') (lo hi:Option Int) (sl:F') (Q:VK),Inv X aa σ H s→aA x v→s.heap.IsSliceOf sl vl vu .none→YA vl lo→YA vu hi→r x lo hi H Q →
  ∃ T id,Yc (.type T) "__getitem__"=pure (i' (.builtin id))∧s.TypeIs v T∧L' (UV X.prog X.w) X.A (Yd v (.ref sl)) (EP X aa σ Q) X.xe s
def tSl (r:V→Option Int→Option Int→Hp→VK→Prop) (te:TE) (tl th:TO):TE:=fun σ H Q=>te σ H fun x H1=>tl σ H1 fun l H2=>th σ H2 fun u H3=>r x l u H3 Q
theorem m5 {r:V→Option Int→Option Int→Hp→VK→Prop} (hr:SlR X r) (he:PE X e te) (hl:PO X lo tl) (hu:PO X hi th):PE X (.Subscript e (.Slice lo hi B' p2) pos) (tSl r te tl th):=by
 intro aa s σ H Q I h
 refine Qeg (U6 (he aa s σ H _ I h) fun v s1=>L2.Ve fun x H1 I1 r1 q1=>?_)
 refine wpAny_Slice (U6 (hl aa s1 σ H1 _ I1 q1) fun vl s2 ⟨l,H2,I2,pl,q2⟩=>U6 (hu aa s2 σ H2 _ I2 q2) fun vu s3=>L2.Ve fun u H3 I3 pu q3=>?_)
 rw[evalPart_none]
 refine Sd ?_
 have I4:Inv X aa σ H3 {s3 with heap:=s3.heap.push {cls:=.type "slice",data:=.fields #[vl,vu,.none]} }:=I3.kept (t':=s3.toks) fun b ob q=>Sc _ q
 obtain⟨T,id,hT,ht,hg⟩:=hr aa {s3 with heap:=s3.heap.push {cls:=.type "slice",data:=.fields #[vl,vu,.none]} } σ H3 x v vl vu l u s3.heap.objs.size Q I4 r1 (Qmi ..) pl pu q3
 show L' (UV X.prog X.w) X.A (Qd6 e (.Slice lo hi B' p2) v (.ref s3.heap.objs.size)) (EP X aa σ Q) X.xe {s3 with heap:=s3.heap.push {cls:=.type "slice",data:=.fields #[vl,vu,.none]} }
 exact tail_any (ops:=[.ref s3.heap.objs.size,v]) ht hT hg (by with_unfolding_all rfl)
def du (xs:List V) (lo hi:Option Int):List V:=(xs.drop (HT.Vj xs.length 0 lo)).take (HT.Vj xs.length xs.length hi-HT.Vj xs.length 0 lo)
theorem E9 (xs:List V) (lo hi:Option Int):(du xs lo hi).length≤xs.length:=by
 unfold du
 rw[Uj,ZW]
 lia
inductive Qir (K:R') (x:V) (lo:Option Int) (hi:Option Int) (H:Hp) (Q:VK):Prop
 | mk (a xs:_) (_:x=.ref a) (_:Vi K H a xs) (_:¬ (HT.Vj xs.length 0 lo=0∧HT.Vj xs.length xs.length hi=xs.length)) (_:∀ p,H p=B'→Q (.ref p) (upd H p (.tup (du xs lo hi))))
theorem Qis:SlR X (Qir X.K):=by
 intro aa s σ H x v vl vu lo hi sl Q I rx hs pl pu h
 obtain⟨a,xs,rfl,hx,hw,q⟩:=h
 cases rx
 obtain⟨ag,r,ht,hz⟩:=I.tuple hx
 have aq:ag.toArray.size=xs.length:=by rw[Si];exact r.length.symm
 refine⟨"tuple",_,ZU.lookup,ht.typeIs,?_⟩
 refine HT.zeI ht hs pl pu (by rw[aq];exact hw) ?_ (by rw[aq];exact hz)
 rw[aq]
 refine⟨.ref s.heap.objs.size,_,I.laid (t':=s.toks) (o:=.tup (du xs lo hi)) (fun b ob q=>Sc _ q) (Sg _) ?_,O,q _ (I.UZ.fresh (Sg _))⟩
 exact⟨SN (E9 xs lo hi) hz,_,(r.drop (HT.Vj xs.length 0 lo)).take (HT.Vj xs.length xs.length hi-HT.Vj xs.length 0 lo),Qaf.new _ _⟩
end
def Yi (n:Nat) (i:Int):Option Nat:=if 0≤i then(if i<n then i' i.toNat else B') else if -(n:Int)≤i then i' (i+n).toNat else B'
def V1 {α:Type} (xs:List α) (i:Int):Option α:=(Yi xs.length i).bind fun j=>xs[j]?
theorem HJ {j:Nat} (h:Yi n i=i' j):Qbm i n=i' j∧j<n∧-(n:Int)≤i∧i<n:=by
 unfold Yi at h
 by_cases h0:0≤i
 .rw[U3 h0] at h
  by_cases h1:i<n
  .rw[U3 h1] at h
   have e:i.toNat=j:=VQ h
   exact⟨by rw[Qec h0 h1,e],by lia,by lia,h1⟩
  .rw[U4 h1] at h;cases h
 .rw[U4 h0] at h
  by_cases h1:-(n:Int)≤i
  .rw[U3 h1] at h
   have e:(i+n).toNat=j:=VQ h
   exact⟨by rw[Qd8 (by lia) h1,e],by lia,h1,by lia⟩
  .rw[U4 h1] at h;cases h
theorem BA {α:Type}{xs:List α}{v:α} (h:V1 xs i=i' v):∃ j,Qbm i xs.length=i' j∧xs[j]?=i' v∧j<xs.length∧-(xs.length:Int)≤i∧i<xs.length:=by
 unfold V1 at h
 cases e:Yi xs.length i with
 | none=>rw[e] at h;cases h
 | some j=>
  rw[e] at h
  obtain⟨h1,h2,h3,h4⟩:=HJ e
  exact⟨j,h1,h,h2,h3,h4⟩
def GY (b:Vh):Prop:=∀ o i,Qct b M' o i=operate [o,i] (Yd o i)
def ZF (X:Cx) (r:R2):Prop:=
 ∀ (value slice:Vh) (aa:List (F'×Vd)) (s:UW) (σ:St) (H:Hp) (x y:V) (v u:K') (Q:VK),Inv X aa σ H s→aA x v→aA y u→r x y H Q →
  Qct slice M' v u=operate [v,u] (Yd v u)→L' (UV X.prog X.w) X.A (Qd6 value slice v u) (EP X aa σ Q) X.xe s
def MtR (X:Cx) (id:String) (r:V→List V→Hp→VK→Prop):Prop:=
 ∀ (aa:List (F'×Vd)) (s:UW) (σ:St) (H:Hp) (x:V) (xs:List V) (v:K') (us:List K') (Q:VK),Inv X aa σ H s→aA x v→aB xs us→r x xs H Q →
  L' (UV X.prog X.w) X.A (call (.builtin id) (v::us)) (EP X aa σ Q) X.xe s
section
variable {a b:Vh}{ta tb:TE}
theorem aF {r:R2} (hr:ZF X r) (ha:PE X a ta) (hb:PE X b tb) (hs:GY b):PE X (.Subscript a b pos) (ZD r ta tb):=by
 intro aa s σ H Q I h
 exact Qeg (QcG ha hb I h fun v u s2 x y H2 I2 rx ry q=>hr a b aa s2 σ H2 x y v u Q I2 rx ry q (hs _ _))
inductive QeA (K:R') (x:V) (y:V) (H:Hp) (Q:VK):Prop
 | mk (p xs i v:_) (_:x=.ref p) (_:y=.int i) (_:P' K H p xs) (_:V1 xs i=i' v) (_:Q v H)
inductive QcK (K:R') (x:V) (y:V) (H:Hp) (Q:VK):Prop
 | mk (p xs i v:_) (_:x=.ref p) (_:y=.int i) (_:Vi K H p xs) (_:V1 xs i=i' v) (_:Q v H)
inductive Qit (x:V) (y:V) (H:Hp) (Q:VK):Prop
 | mk (z i c:_) (_:x=.str z) (_:y=.int i) (_:z.length≤U2) (_:V1 z.cps.toList i=i' c) (_:Q (.str ⟨#[c]⟩) H)
theorem bb:ZF X (QeA X.K):=by
 intro value slice aa s σ H x y v u Q I rx ry h hs
 obtain⟨p,xs,i,z,rfl,rfl,hq,he,q⟩:=h
 cases rx
 obtain⟨t,rfl⟩:=ry
 obtain⟨ag,r,pl,hz⟩:=I.list hq
 obtain⟨j,h1,h2,h3,h4,h5⟩:=BA he
 obtain⟨w,ew,dE⟩:=r.get h2
 have hl:=r.length
 have hn:=mR
 have aG:EP X aa σ Q w s:=⟨z,H,I,dE,q⟩
 by_cases h0:0≤i
 .have hj:i.toNat=j:=by
   rw[Qec h0 h5] at h1
   exact VQ h1
  exact item_listR pl.isList h0 (by lia) (by rw[hj];simpa using ew) aG hs
 .have hj:(i+(ag.toArray.size:Int)).toNat=j:=by
   rw[Qd8 (by lia) h4] at h1
   rw[Si,← hl]
   exact VQ h1
  exact Qgu (x:=w) pl.isList.typeIs Qg1.lookup
   (wpAny_getItem_list_neg (Q:=fun r s'=>r=w∧EP X aa σ Q r s') pl.isList (by lia) (by rw[Si]<;>lia) (by lia) (by rw[hj];simpa using ew) ⟨O,aG⟩) hs
theorem eA:ZF X (QcK X.K):=by
 intro value slice aa s σ H x y v u Q I rx ry h hs
 obtain⟨p,xs,i,z,rfl,rfl,hq,he,q⟩:=h
 cases rx
 obtain⟨t,rfl⟩:=ry
 obtain⟨ag,r,pl,hz⟩:=I.tuple hq
 obtain⟨j,h1,h2,h3,h4,h5⟩:=BA he
 obtain⟨w,ew,dE⟩:=r.get h2
 have hl:=r.length
 have hn:=mR
 have aG:EP X aa σ Q w s:=⟨z,H,I,dE,q⟩
 exact Qgu (x:=w) pl.typeIs ZU.lookup
  (getItem_tuple (j:=j) (Q:=fun r s'=>r=w∧EP X aa σ Q r s') pl (by lia) (by lia) (by rw[Si,← hl];exact h1) (by simpa using ew) ⟨O,aG⟩) hs
theorem HI:ZF X Qit:=by
 intro value slice aa s σ H x y v u Q I rx ry h hs
 obtain⟨z,i,c,rfl,rfl,hz,he,q⟩:=h
 obtain⟨t,rfl⟩:=rx
 obtain⟨t',rfl⟩:=ry
 obtain⟨j,h1,h2,h3,h4,h5⟩:=BA he
 have hl:z.cps.toList.length=z.length:=by simp[Qd9]
 rw[hl] at h1 h4 h5
 have hn:=mR
 exact tail_any (Qbl s z t) slot_str_getitem.lookup (getItem_str (c:=c) (by
  have e1:decide (i< -(2 ^ 63:Int))=M':=S0 (by lia)
  have e2:decide (i ≥ 2 ^ 63)=M':=S0 (by lia)
  rw[e1,e2,QgX]) (by rw[h1];simpa using h2) ⟨.str ⟨#[c]⟩,H,I.tok _,⟨_,O⟩,q⟩) hs
theorem Rf (ag:List K') (n j:Nat) (u:K'):Wv (·.setIfInBounds j u) {cls:=.type "list",data:=.seq ag.toArray n}={cls:=.type "list",data:=.seq (ag.set j u).toArray n}:=by
 simp[Wv]
theorem Inv.lst {aa:List (F'×Vd)}{σ:St}{H:Hp}{s:UW}{p:F'}{xs:List V} (I:Inv X aa σ H s) (h:H p=i' (.lst xs)) :
  ∃ (ag:List K') (n:Nat),aB xs ag∧s.heap.get? p=i' {cls:=.type "list",data:=.seq ag.toArray n}∧xs.length≤U2:=by
 obtain⟨z,ag,n,r,e⟩:=I.UZ p _ h
 exact⟨ag,n,r,e,z⟩
theorem Inv.Qiu {xs ys:List V}{n':Nat}{f:Vd→Vd} (I:Inv X aa σ H s) (h:H p=i' (.lst xs))
  (ho:s.heap.get? p=i' {cls:=.type "list",data:=.seq ag.toArray n}) (hf:f {cls:=.type "list",data:=.seq ag.toArray n}={cls:=.type "list",data:=.seq its'.toArray n'}) (r:aB ys its') (hz:ys.length≤U2) (t:Nat) :
  Inv X aa σ (upd H p (.lst ys)) {s with heap:=s.heap.update p f,toks:=t}:=by
 have e:(s.heap.update p f).get? p=i' {cls:=.type "list",data:=.seq its'.toArray n'}:=by
  rw[Sq f ho (by rw[hf]<;>rfl),hf]
 refine I.write (x:=p) (e:=p) (by rw[h];trivial) (.inl rfl) (fun b u hb q=>(Sm _ _ (U5 hb)).trans q) ⟨_,e⟩ ?_
 exact⟨hz,its',n',r,e⟩
inductive Qiv (o:V) (i:V) (v:V) (H:Hp) (Q:(Hp→Prop)):Prop
 | mk (p xs k j:_) (_:o=.ref p) (_:i=.int k) (_:H p=i' (.lst xs)) (_:Yi xs.length k=i' j) (_:Q (upd H p (.lst (xs.set j v))))
theorem lM:QcF X Qiv:=by
 intro aa s σ H o i v ov iv u Q I ro ri rv h
 obtain⟨p,xs,k,j,rfl,rfl,hp,hj,q⟩:=h
 cases ro
 obtain⟨t,rfl⟩:=ri
 obtain⟨ag,n,r,ho,hz⟩:=I.lst hp
 obtain⟨h1,h2,h3,h4⟩:=HJ hj
 have hl:=r.length
 have hn:=mR
 have I':Inv X aa σ (upd H p (.lst (xs.set j v))) {s with heap:=s.heap.update p (Wv (·.setIfInBounds j u))}:=
  I.Qiu hp ho (Rf ag n j u) (r.set rv j) (by rw[Zn];exact hz) s.toks
 by_cases h0:0≤k
 .have hk:k.toNat=j:=by
   rw[Qec h0 h4] at h1
   exact VQ h1
  exact PySem.W.ki_setAt ho h0 (by lia) (by rw[Si,← hl];exact h4) (by rw[hk];exact⟨_,I',q⟩)
 .have hk:(k+(ag.toArray.size:Int)).toNat=j:=by
   rw[Qd8 (by lia) h3] at h1
   rw[Si,← hl]
   exact VQ h1
  exact PySem.W.ki_setBack ho (by lia) (by rw[Si,← hl];exact h3) (by lia) (by rw[hk];exact⟨_,I',q⟩)
theorem Q4 (lo hi:Option Int) (n:Nat):(Z4 lo hi B' n).1=((HT.Vj n 0 lo:Nat):Int)∧(Z4 lo hi B' n).2.1=((HT.Vj n n hi:Nat):Int)∧(Z4 lo hi B' n).2.2=1:=by
 refine⟨?_,?_,O⟩
 .cases lo with
  | none=>simp[Z4,HT.Vj]
  | some i=>
   simp only[Z4,HT.Vj,Qgq,show(1:Int) > 0 by decide,Xi]
   by_cases h:i<0
   .simp only[h,Xi]<;>lia
   .simp only[h,Wc]<;>lia
 .cases hi with
  | none=>simp[Z4,HT.Vj]
  | some i=>
   simp only[Z4,HT.Vj,Qgq,show(1:Int) > 0 by decide,Xi]
   by_cases h:i<0
   .simp only[h,Xi]<;>lia
   .simp only[h,Wc]<;>lia
theorem L9 (ag:List K') (lo hi:Option Int):slicePick ag.toArray lo hi B'=((ag.drop (HT.Vj ag.length 0 lo)).take (HT.Vj ag.length ag.length hi-HT.Vj ag.length 0 lo)).toArray:=by
 obtain⟨h1,h2,h3⟩:=Q4 lo hi ag.toArray.size
 unfold slicePick
 rw[h1,h2,h3]
 simp only[sliceRange_one,pick_run,Si]<;>rfl
inductive Qiw (K:R') (x:V) (lo:Option Int) (hi:Option Int) (H:Hp) (Q:VK):Prop
 | mk (a xs:_) (_:x=.ref a) (_:P' K H a xs) (_:∀ p,H p=B'→Q (.ref p) (upd H p (.lst (du xs lo hi))))
theorem nL:SlR X (Qiw X.K):=by
 intro aa s σ H x v vl vu lo hi sl Q I rx hs pl pu h
 obtain⟨a,xs,rfl,hx,q⟩:=h
 cases rx
 obtain⟨ag,r,ht,hz⟩:=I.list hx
 have aq:=r.length
 refine⟨"list",_,Qg1.lookup,ht.isList.typeIs,?_⟩
 refine wpAny_getItem_list_slice ht.isList hs pl pu .none (by simp) ?_ (by rw[Si]<;>lia)
 rw[L9,← aq]
 refine⟨.ref s.heap.objs.size,_,I.laid (t':=s.toks) (o:=.lst (du xs lo hi)) (fun b ob q=>Sc _ q) (Sg _) ?_,O,q _ (I.UZ.fresh (Sg _))⟩
 exact⟨SN (E9 xs lo hi) hz,_,0,(r.drop (HT.Vj xs.length 0 lo)).take (HT.Vj xs.length xs.length hi-HT.Vj xs.length 0 lo),Sf _ O⟩
def js:V→Bool
 | .U8=>D'
 | .bl _=>D'
 | .int _=>D'
 | .str _=>D'
 | _=>M'
def W8:V→V→Bool
 | .U8,.U8=>D'
 | .bl a,.bl b=>a == b
 | .bl a,.int b=>(if a then 1 else 0) == b
 | .int a,.bl b=>a == (if b then 1 else 0)
 | .int a,.int b=>a == b
 | .str a,.str b=>a == b
 | _,_=>M'
theorem gh (ry:aA y u) (rx:aA x v) (fy:js y=D') (fx:js x=D'):YC A s u v (W8 y x):=by
 cases y with
 | U8=>
  cases ry
  cases x with
  | U8=>cases rx;exact Qea _
  | bl b=>cases rx;exact Qm1 b
  | int b=>obtain⟨t,rfl⟩:=rx;exact Qm0 b t
  | str b=>obtain⟨t,rfl⟩:=rx;exact QmZ b t
  | _=>exact U' (show M'=D' from fx) Sk
 | bl a=>
  cases ry
  cases x with
  | U8=>cases rx;exact Qm6 a
  | bl b=>cases rx;exact Qm8 a b
  | int b=>obtain⟨t,rfl⟩:=rx;exact Qm7 a b t
  | str b=>obtain⟨t,rfl⟩:=rx;exact Qm5 a b t
  | _=>exact U' (show M'=D' from fx) Sk
 | int a=>
  obtain⟨t',rfl⟩:=ry
  cases x with
  | U8=>cases rx;exact Qm2 a t'
  | bl b=>cases rx;exact Qm4 a t' b
  | int b=>obtain⟨t,rfl⟩:=rx;exact Qm3 a t' b t
  | str b=>obtain⟨t,rfl⟩:=rx;exact QfS a t' b t
  | _=>exact U' (show M'=D' from fx) Sk
 | str a=>
  obtain⟨t',rfl⟩:=ry
  cases x with
  | U8=>cases rx;exact QmX a t'
  | bl b=>cases rx;exact QmY a t' b
  | int b=>obtain⟨t,rfl⟩:=rx;exact QfR a t' b t
  | str b=>obtain⟨t,rfl⟩:=rx;exact QmW a t' b t
  | _=>exact U' (show M'=D' from fx) Sk
 | _=>exact U' (show M'=D' from fy) Sk
def W9 (x:V) (u:K'):Bool:=match u with
 | .none=>W8 .U8 x
 | .bool b=>W8 (.bl b) x
 | .int i _=>W8 (.int i) x
 | .str z _=>W8 (.str z) x
 | _=>M'
theorem Ia (r:aA y u) (f:js y=D'):W9 x u=W8 y x:=by
 cases y with
 | U8=>cases r;rfl
 | bl b=>cases r;rfl
 | int i=>obtain⟨t,rfl⟩:=r;rfl
 | str z=>obtain⟨t,rfl⟩:=r;rfl
 | _=>exact U' (show M'=D' from f) Sk
theorem uw {x:V}:∀ {xs:List V}{us:List K'},aB xs us→xs.all js=D'→us.any (W9 x)=xs.any fun y=>W8 y x
 | _,_,.nil,_=>rfl
 | y::xs,u::us,.cons r t,f=>by
  rw[TR,Sv] at f
  rw[Tr,Tr,Ia r f.1,uw t f.2]
theorem uC {A:V2}{s:UW}{x:V}{v:K'} (rx:aA x v) (fx:js x=D'):∀ {xs:List V}{us:List K'},aB xs us→xs.all js=D'→∀ u∈us,YC A s u v (W9 x u)
 | _,_,.nil,_=>fun u hu=>by cases hu
 | y::xs,u::us,.cons r t,f=>fun u' hu=>by
  rw[TR,Sv] at f
  rcases SS.mp hu with rfl|hu
  .rw[Ia r f.1];exact gh r rx f.1 fx
  .exact uC rx fx t f.2 u' hu
def Yj (x:V) (xs:List V):Bool:=xs.any fun y=>W8 y x
inductive rIn (K:R') (sI:Bool) (x:V) (y:V) (H:Hp) (Q:VK):Prop
 | mk (p xs:_) (_:y=.ref p) (_:(P' K H p xs∨Vi K H p xs)) (_:js x=D') (_:xs.all js=D') (_:Q (.bl (if sI then !Yj x xs else Yj x xs)) H)
theorem EK:VU X (WR .In) (rIn X.K M'):=by
 intro aa s σ H x y v u Q I rx ry h
 obtain⟨p,xs,rfl,hq,fx,fs,q⟩:=h
 cases ry
 rcases hq with hq|hq
 .obtain⟨ag,r,pl,hz⟩:=I.list hq
  refine SeqAt.in_listAt (W9 x) pl.isList (fun w hw=>uC rx fx r fs w (by simpa using hw)) ⟨.bl _,H,I,O,?_⟩
  rw[show ag.toArray.any (W9 x)=ag.any (W9 x) by simp,uw r fs]
  exact q
 .obtain⟨ag,r,pl,hz⟩:=I.tuple hq
  refine SeqAt.in_tupleAt (W9 x) pl (fun w hw=>uC rx fx r fs w (by simpa using hw)) ⟨.bl _,H,I,O,?_⟩
  rw[show ag.toArray.any (W9 x)=ag.any (W9 x) by simp,uw r fs]
  exact q
theorem Fp:VU X (WR .NotIn) (rIn X.K D'):=by
 intro aa s σ H x y v u Q I rx ry h
 obtain⟨p,xs,rfl,hq,fx,fs,q⟩:=h
 cases ry
 rcases hq with hq|hq
 .obtain⟨ag,r,pl,hz⟩:=I.list hq
  refine Qgg (W9 x) pl.isList (fun w hw=>uC rx fx r fs w (by simpa using hw)) ⟨.bl _,H,I,O,?_⟩
  rw[show ag.toArray.any (W9 x)=ag.any (W9 x) by simp,uw r fs]
  exact q
 .obtain⟨ag,r,pl,hz⟩:=I.tuple hq
  refine SeqAt.notIn_tupleAt (W9 x) pl (fun w hw=>uC rx fx r fs w (by simpa using hw)) ⟨.bl _,H,I,O,?_⟩
  rw[show ag.toArray.any (W9 x)=ag.any (W9 x) by simp,uw r fs]
  exact q
theorem fV:fi X (.builtin "len") (fun xs H Q=>∃ p ys,xs=[.ref p]∧(P' X.K H p ys∨Vi X.K H p ys)∧Q (.int ys.length) H):=by
 intro aa s σ H xs us Q I r h
 obtain⟨p,ys,rfl,hq,q⟩:=h
 obtain⟨u,rfl,rx⟩:=eZ r
 cases rx
 have hn:=mR
 rcases hq with hq|hq
 .obtain⟨ag,r',pl,hz⟩:=I.list hq
  have aq:=r'.length
  exact Calls.call_len_list pl.isList (by simp only[Si]<;>lia) ⟨.int ys.length,H,I.tok _,⟨s.toks+1,by rw[Si,aq]⟩,q⟩
 .obtain⟨ag,r',pl,hz⟩:=I.tuple hq
  have aq:=r'.length
  exact len_tuple pl (by simp only[Si]<;>lia) ⟨.int ys.length,H,I.tok _,⟨s.toks+1,by rw[Si,aq]⟩,q⟩
theorem xn:fi X (.builtin "len") (fun xs H Q=>∃ z,xs=[.str z]∧z.length≤U2∧Q (.int z.length) H):=by
 intro aa s σ H xs us Q I r h
 obtain⟨z,rfl,hz,q⟩:=h
 obtain⟨u,rfl,t,rfl⟩:=eZ r
 have hn:=mR
 exact len_str (by lia) ⟨.int z.length,H,I.tok _,⟨_,O⟩,q⟩
theorem Gh:fi X (.type "list") (fun xs H Q=>∃ p ys,xs=[.ref p]∧(P' X.K H p ys∨Vi X.K H p ys)∧∀ l,H l=B'→Q (.ref l) (upd H l (.lst ys))):=by
 intro aa s σ H xs us Q I r h
 obtain⟨p,ys,rfl,hq,q⟩:=h
 obtain⟨u,rfl,rx⟩:=eZ r
 cases rx
 have aG:∀ (ag:List K'),aB ys ag→ys.length≤U2→∀ (h':Vo) (c':Nat),(∀ b o',s.heap.get? b=i' o'→h'.get? b=i' o') →
   h'.get? s.heap.objs.size=i' {cls:=.type "list",dict:=B',data:=.seq ag.toArray c',slots:=#[]}→EP X aa σ Q (.ref s.heap.objs.size) {s with heap:=h'}:=fun ag r' hz h' c' kp e=>
  ⟨.ref s.heap.objs.size,_,I.laid (t':=s.toks) kp (Sg _) (show cM X.prog X.w _ h' _ (.lst ys) from⟨hz,ag,c',r',e⟩),O,q _ (I.UZ.fresh (Sg _))⟩
 rcases hq with hq|hq
 .obtain⟨ag,r',pl,hz⟩:=I.list hq
  have aq:=r'.length
  obtain⟨o,ho,hc,n,hd⟩:=pl.isList
  exact call_list_seq p (.inl O) ho hc hd (fun h' c' kp e=>aG ag r' hz h' c' kp e) (by simp only[Si]<;>lia)
 .obtain⟨ag,r',pl,hz⟩:=I.tuple hq
  have aq:=r'.length
  obtain⟨o,ho,hc,n,hd⟩:=pl
  exact call_list_seq p (.inr O) ho hc hd (fun h' c' kp e=>aG ag r' hz h' c' kp e) (by simp only[Si]<;>lia)
def tyV (K:R') (T:String) (x:V) (H:Hp):Prop:=match x with
 | .str _=>T="str"
 | .int _=>T="int"
 | .ref p=>(T="list"∧∃ xs,P' K H p xs)∨(T="tuple"∧∃ o,K.lookup p=i' o∧o.cls=.type "tuple"∧o.dict=B') ∨
   (T="dict"∧((∃ kvs,H p=i' (.dK kvs))∨∃ kvs,H p=i' (.dT kvs)))∨(T="set"∧∃ S n,H p=i' (.set S n))
 | _=>False
theorem FP (I:Inv X aa σ H s) (r:aA x v) (ty:tyV X.K T x H) :
  s.TypeIs v T∧∀ a,v=.ref a→∃ ob,s.heap.get? a=i' ob∧ob.dict=B':=by
 cases x with
 | str z=>
  obtain⟨t,rfl⟩:=r
  cases (show T="str" from ty)
  exact⟨Qbl s z t,fun _ e=>nomatch e⟩
 | int i=>
  obtain⟨t,rfl⟩:=r
  cases (show T="int" from ty)
  exact⟨Qee s i t,fun _ e=>nomatch e⟩
 | ref p=>
  cases r
  rcases ty with⟨rfl,xs,hq⟩|⟨rfl,o,hk,hc,hd⟩|⟨rfl,hk⟩|⟨rfl,S,n,hk⟩
  .obtain⟨ag,_,pl,_⟩:=I.list hq
   refine⟨pl.isList.typeIs,fun a e=>?_⟩
   cases e
   obtain⟨o,n,e,c,hd,_⟩:=pl
   exact⟨o,e,hd⟩
  .refine⟨⟨o,I.Vv p o hk,hc⟩,fun a e=>?_⟩
   cases e
   exact⟨o,I.Vv _ o hk,hd⟩
  .have z:∃ o,s.heap.get? p=i' o∧o.ExactDict:=by
    rcases hk with⟨kvs,hk⟩|⟨kvs,hk⟩
    .obtain⟨_,_,_,_,o,_,_,e,ex,_⟩:=I.UZ p _ hk
     exact⟨o,e,ex⟩
    .obtain⟨_,_,_,_,o,_,_,e,ex,_⟩:=I.UZ p _ hk
     exact⟨o,e,ex⟩
   obtain⟨o,e,ex⟩:=z
   refine⟨⟨o,e,ex.1⟩,fun a e2=>?_⟩
   cases e2
   exact⟨o,e,ex.2.1⟩
  .obtain⟨o,_,_,_,e,ex,_⟩:=I.UZ p _ hk
   refine⟨⟨o,e,ex.1⟩,fun a e2=>?_⟩
   cases e2
   exact⟨o,e,ex.2.1⟩
 | _=>exact WB ty
def Qix (K:R') (T:String) (r:V→List V→Hp→VK→Prop) (to:TE):TE:=fun σ H Q=>to σ H fun x H1=>tyV K T x H1∧r x [] H1 Q
def tBM (K:R') (T:String) (r:V→List V→Hp→VK→Prop) (to:TE) (t:TA):TE:=fun σ H Q=>to σ H fun x H1=>tyV K T x H1∧t σ H1 fun xs H2=>r x xs H2 Q
variable {o:Vh}{es:List Vh}{to:TE}{t:TA}{name:C'}{aL aE:VZ}{r:V→List V→Hp→VK→Prop}
theorem HA (pa:PlainAttrs T) (slot:Slot T name id) (xX:typeOf (.builtin id)=pure (.type "method_descriptor")) (hm:MtR X id r) (ho:PE X o to)
  (jt:YV o name X.env (Vg o X.env)=Vg o X.env:=by rfl) (jG:(aL.endLine == aE.line)=D':=by rfl):PE X (.Call (.Attribute o name aL) [] [] aE) (Qix X.K T r to):=by
 intro aa s σ H Q I h
 refine wpAny_Call_method0_late jt jG (U6 (ho aa s σ H _ I h) fun v s1=>L2.Ve fun x H1 I1 r1 aQ=>?_)
 obtain⟨ty,q1⟩:=aQ
 obtain⟨h1,h2⟩:=FP I1 r1 ty
 exact⟨T,id,pa,slot,xX,h1,h2,Qbb O (PySem.evalArgs_none (hm aa s1 σ H1 x [] v [] Q I1 r1 .nil q1))⟩
theorem cW (pa:PlainAttrs T) (slot:Slot T name id) (xX:typeOf (.builtin id)=pure (.type "method_descriptor")) (hm:MtR X id r) (ho:PE X o to) (ha:PA X (e::es) t)
  (jt:YV o name X.env (Vg o X.env)=Vg o X.env:=by rfl)
  (yd:((VP aE (Vk (e::es) X.env)).all (fun x=>!x.1) && (Xs aE (Xr [] X.env)).all (fun x=>x.1.isSome)
   && decide ((e::es).length+([]:List Qab).length+(if ([]:List Qab).isEmpty then 0 else 1)<30))=D':=by rfl)
  (jG:(aL.endLine == aE.line)=D':=by rfl) (hs:Vk (e::es) X.env=(M',Vg e X.env)::Vk es X.env:=by rfl) (oW:(VP aE (Vk es X.env)).any (·.1)=M':=by rfl) :
  PE X (.Call (.Attribute o name aL) (e::es) [] aE) (tBM X.K T r to t):=by
 intro aa s σ H Q I h
 refine wpAny_Call_method_late jt yd jG O (U6 (ho aa s σ H _ I h) fun v s1=>L2.Ve fun x H1 I1 r1 aQ=>?_)
 obtain⟨ty,q1⟩:=aQ
 obtain⟨h1,h2⟩:=FP I1 r1 ty
 refine⟨T,id,pa,slot,xX,h1,h2,?_⟩
 have hA:=ha aE aa s1 σ H1 _ I1 q1
 rw[hs] at hA ⊢
 refine Qbb (by show(M' || (VP aE (Vk es X.env)).any (·.1))=M';rw[oW]<;>rfl) (Qb0 ?_)
 exact U6 hA fun us s2=>L2.Ve fun vs H2 I2 r2 q2=>hm aa s2 σ H2 x vs v us Q I2 r1 r2 q2
end
def MtM (X:Cx) (id:String) (r:V→List V→Hp→VK→Prop):Prop:=
 ∀ (aa:List (F'×Vd)) (s:UW) (σ:St) (H:Hp) (x:V) (xs:List V) (v:K') (us:List K') (Q:VK),Inv X aa σ H s→aA x v→aB xs us→r x xs H Q →
  L' (UV X.prog X.w) X.A (call (.builtin id) (v::us)) (EP X aa σ Q) X.xe s
theorem aB.one:∀ {x:V}{us:List K'},aB [x] us→∃ u,us=[u]∧aA x u
 | _,_,.cons r .nil=>⟨_,O,r⟩
theorem aB.eraseIdx:∀ {xs:List V}{us:List K'} (i:Nat),aB xs us→aB (xs.eraseIdx i) (us.eraseIdx i)
 | _,_,_,.nil=>.nil
 | _,_,0,.cons _ t=>t
 | _,_,i+1,.cons r t=>.cons r (aB.eraseIdx i t)
theorem aB.rep {xs:List V}{us:List K'} (h:aB xs us):∀ k:Nat,aB (VA k xs).flatten (VA k us).flatten
 | 0=>.nil
 | k+1=>by
  rw[Tq,Tq,TL,TL]
  exact aB.append h (aB.rep h k)
theorem GS {α:Type}:∀ (l:List α) (i:Nat),(l.eraseIdx i).length≤l.length
 | [],_=>Sg _
 | _::_,0=>SH _
 | _::r,i+1=>QdJ (GS r i)
theorem GP (ag:List K'):∀ (k:Nat) (acc:List K'),
  Qbk (fun x1 x2=>x1++x2) acc.toArray (VA k ag.toArray)=(acc++(VA k ag).flatten).toArray
 | 0,acc=>by simp
 | k+1,acc=>by
  have e:acc.toArray++ag.toArray=(acc++ag).toArray:=by simp
  have e2:(acc++ag)++(VA k ag).flatten=acc++(VA (k+1) ag).flatten:=by
   rw[Tq,TL,QaA]
  rw[← e2,← GP ag k (acc++ag),← e,Tq,QgI]
section
variable {l:F'}{xs ys zs:List V}
theorem Inv.Qbv {f:Array K'→Array K'} (I:Inv X aa σ H s) (hH:H l=i' (.lst xs))
  (e:s.heap.get? l=i' {cls:=.type "list",data:=.seq ag.toArray n}) (hf:f ag.toArray=its'.toArray) (hv:aB ys its') (hz:ys.length≤U2) :
  Inv X aa σ (upd H l (.lst ys)) {s with heap:=s.heap.update l (Wv f),toks:=t'}:=by
 have q:=PySem.IsL.update e f
 rw[hf] at q
 refine I.write (x:=l) (e:=l) (by rw[hH];exact trivial) (.inl O) (fun b' u hb hu=>(Sm s.heap (Wv f) (U5 hb)).trans hu) ⟨_,q⟩ ?_
 exact⟨hz,its',_,hv,q⟩
theorem Inv.QcL (I:Inv X aa σ H s) (hv:aB ys ag) (hz:ys.length≤U2) :
  Inv X aa σ (upd H s.heap.objs.size (.lst ys)) {s with heap:=s.heap.push {cls:=.type "list",data:=.seq ag.toArray},toks:=t'}:=
 I.laid (fun _ _ q=>Sc _ q) (Sg _) ⟨hz,ag,0,hv,Sf _ O⟩
theorem Inv.fresh (I:Inv X aa σ H s):H s.heap.objs.size=B':=I.UZ.fresh (Sg _)
theorem Inv.Za (I:Inv X aa σ H s) (hH:H l=i' (.lst xs)):xs.length≤U2∧∃ (ag:List K') (n:Nat),aB xs ag∧xs.length=ag.length∧s.heap.get? l=i' {cls:=.type "list",data:=.seq ag.toArray n}:=by
 obtain⟨z,ag,n,r,e⟩:=I.UZ l _ hH
 exact⟨z,ag,n,r,r.length,e⟩
theorem EM (h:n≤U2):QbO n=M':=by
 unfold QbO
 exact S0 (by lia)
end
inductive OZ (x:V) (vs:List V) (H:Hp) (Q:VK):Prop
 | mk (l xs y:_) (_:x=.ref l) (_:vs=[y]) (_:H l=i' (.lst xs)) (_:xs.length<U2) (_:Q .U8 (upd H l (.lst (xs++[y]))))
theorem jo:MtM X "list.append" OZ:=by
 intro aa s σ H x vs v us Q I rx rv h
 obtain⟨l,xs,y,rfl,rfl,hH,hz,q⟩:=h
 cases rx
 obtain⟨u,rfl,ru⟩:=rv.one
 obtain⟨z,ag,n,r,hl,e⟩:=I.Za hH
 refine YY XQ ⟨_,e,O⟩ F.entry_list_append (F.args_list_append_2 _ _) (PySem.list_append l ag.toArray n u (by rw[Si];lia)) ⟨e,?_⟩
 refine⟨.U8,_,I.Qbv (its':=ag++[u]) hH e (by simp) (r.append (.cons ru .nil)) ?_,O,q⟩
 rw[Tg,Qf8]
 lia
inductive LQ (x:V) (vs:List V) (H:Hp) (Q:VK):Prop
 | mk (l b xs zs:_) (_:x=.ref l) (_:vs=[.ref b]) (_:H l=i' (.lst xs)) (_:H b=i' (.lst zs)) (_:xs.length+zs.length≤U2) (_:Q .U8 (upd H l (.lst (xs++zs))))
theorem xB:MtM X "list.extend" LQ:=by
 intro aa s σ H x vs v us Q I rx rv h
 obtain⟨l,b,xs,zs,rfl,rfl,hH,hB,hz,q⟩:=h
 cases rx
 obtain⟨u,rfl,ru⟩:=rv.one
 cases ru
 obtain⟨z,ag,n,r,hl,e⟩:=I.Za hH
 obtain⟨z2,gU,n2,r2,bD,e2⟩:=I.Za hB
 have hsz:ag.toArray.size+gU.toArray.size≤U2:=by rw[Si,Si];lia
 have jw:¬ (!ag.toArray.isEmpty && QbO (ag.toArray.size+gU.toArray.size))=D':=by
  rw[EM hsz,Uz]
  exact Sk
 refine YY Qbe ⟨_,e,O⟩ F.entry_list_extend (F.args_list_extend_2 _ _)
  (AutoSeq1.list_extend_list_list_0 l ag.toArray n b gU.toArray n2 jw (by rw[Si];lia) (by lia)) ⟨e,e2,?_⟩
 refine⟨.U8,_,I.Qbv (its':=ag++gU) hH e (by simp) (r.append r2) ?_,O,q⟩
 rw[Tg]
 lia
inductive Qiy (x:V) (vs:List V) (H:Hp) (Q:VK):Prop
 | mk (l xs i k y:_) (_:x=.ref l) (_:vs=[.int i]) (_:H l=i' (.lst xs)) (_:-(2 ^ 63)≤i) (_:i<2 ^ 63) (_:Qbm i xs.length=i' k) (_:xs[k]?=i' y) (_:Q y (upd H l (.lst (xs.eraseIdx k))))
theorem Nn:MtM X "list.pop" Qiy:=by
 intro aa s σ H x vs v us Q I rx rv h
 obtain⟨l,xs,i,k,y,rfl,rfl,hH,h1,h2,hk,hy,q⟩:=h
 cases rx
 obtain⟨u,rfl,ru⟩:=rv.one
 obtain⟨t,rfl⟩:=ru
 obtain⟨z,ag,n,r,hl,e⟩:=I.Za hH
 obtain⟨w,hw,dE⟩:=r.get hy
 refine YY Qg5 ⟨_,e,O⟩ F.entry_list_pop (F.args_list_pop_2 _ _)
  (MeetsSeq.list_pop_at l ag.toArray n i t k w (Qhz h1 h2) (by rw[Si,← hl];exact hk) (by rw[← UA];exact hw) (by rw[Si];lia)) ⟨e,?_⟩
 refine⟨y,_,I.Qbv (its':=ag.eraseIdx k) hH e ?_ (r.eraseIdx k) ?_,dE,q⟩
 .show ag.toArray.eraseIdxIfInBounds k=(ag.eraseIdx k).toArray
  rw[List.eraseIdxIfInBounds_toArray]
 .have:=GS xs k
  lia
inductive QeB (x:V) (y:V) (H:Hp) (Q:VK):Prop
 | mk (l b xs zs:_) (_:x=.ref l) (_:y=.ref b) (_:H l=i' (.lst xs)) (_:H b=i' (.lst zs)) (_:xs.length+zs.length≤U2) (_:∀ p,H p=B'→Q (.ref p) (upd H p (.lst (xs++zs))))
theorem me:VU X (X1 .Add) QeB:=by
 intro aa s σ H x y v u Q I rx ry h
 obtain⟨l,b,xs,zs,rfl,rfl,hH,hB,hz,q⟩:=h
 cases rx
 cases ry
 obtain⟨z,ag,n,r,hl,e⟩:=I.Za hH
 obtain⟨z2,gU,n2,r2,bD,e2⟩:=I.Za hB
 refine PySem.P.add_list e e2 ?_ (by rw[Si,Si];lia)
 have ea:ag.toArray++gU.toArray=(ag++gU).toArray:=by simp
 rw[ea]
 exact⟨.ref _,_,I.QcL (t':=s.toks) (r.append r2) (by rw[Tg];lia),O,q _ I.fresh⟩
inductive Qiz (x:V) (y:V) (H:Hp) (Q:VK):Prop
 | mk (l k xs:_) (_:x=.ref l) (_:y=.int k) (_:H l=i' (.lst xs)) (_:-(2 ^ 63)≤k) (_:k<2 ^ 63) (_:xs.length*k.toNat≤U2) (_:∀ p,H p=B'→Q (.ref p) (upd H p (.lst (VA k.toNat xs).flatten)))
theorem Pc {α:Type} (xs:List α) (k:Nat):(VA k xs).flatten.length=k*xs.length:=by
 induction k with
 | zero=>simp
 | succ k ih=>rw[Tq,TL,Tg,ih,Nat.succ_mul,Qhn]
theorem xp:VU X (X1 .Mult) Qiz:=by
 intro aa s σ H x y v u Q I rx ry h
 obtain⟨l,k,xs,rfl,rfl,hH,h1,h2,hz,q⟩:=h
 cases rx
 obtain⟨t,rfl⟩:=ry
 obtain⟨z,ag,n,r,hl,e⟩:=I.Za hH
 have aq:ag.toArray.size*k.toNat≤U2:=by rw[Si,← hl];exact hz
 have fQ:¬ ag.toArray.size*k.toNat > (2 ^ 63-1) / 8:=by
  have:(U2:Nat)≤(2 ^ 63-1) / 8:=by decide
  lia
 have zQ:¬ (!Qdd k)=D':=by
  rw[Qhz h1 h2]
  exact Sk
 have jw:¬ QbO (ag.toArray.size*k.toNat)=D':=by
  rw[EM aq]
  exact Sk
 have cQ:Qbk (fun x1 x2=>x1++x2) #[] (VA (if ag.toArray.isEmpty=D' then 0 else k.toNat) ag.toArray)=(VA k.toNat ag).flatten.toArray:=by
  have f0:∀ m:Nat,Qbk (fun x1 x2=>x1++x2) #[] (VA m ag.toArray)=(VA m ag).flatten.toArray:=fun m=>by
   have:=GP ag m []
   rw[QgG] at this
   exact this
  rw[f0]
  cases ag with
  | nil=>simp
  | cons a r'=>rw[U4 (by simp)]
 refine wpAny_binaryOp_repeat_ref (T:="list") (U:="int") (by decide) ⟨_,e,O⟩ (fun s'=>Qee s' k t) noFill_list_mul F.fills_int_mul Qg6 repeat_list F.slot_int_index.lookup
  (YY Qg6 (Qee s k t) F.entry_int_rmul (F.args_int_rmul_2 _ _) (int___rmul___int_list k t l ag.toArray n)
   ⟨e,rfl,⟨_,e,rfl⟩,YY F.slot_list_mul ⟨_,e,rfl⟩ F.entry_list_mul (F.args_list_mul_2 _ _) (AutoListH.list___mul___list_int_3 l ag.toArray n k t zQ fQ jw) ⟨e,?_⟩⟩)
 rw[cQ]
 exact⟨.ref _,_,I.QcL (t':=s.toks) (r.rep k.toNat) (by rw[Pc,Qhl];exact hz),O,q _ I.fresh⟩
section
variable {κ:Type} [DecidableEq κ]
def aS (kvs:List (κ×V)) (k:κ):Option V:=(kvs.find? fun kv=>decide (kv.1=k)).map (·.2)
def bi (kvs:List (κ×V)) (k:κ) (v:V):List (κ×V):=
 if (kvs.any fun kv=>decide (kv.1=k))=D' then kvs.map (fun kv=>if kv.1=k then(kv.1,v) else kv) else kvs++[(k,v)]
def iV (kvs:List (κ×V)) (k:κ):List (κ×V):=kvs.filter fun kv=>decide (kv.1≠k)
theorem dr {p:κ×V}{r:List (κ×V)}{k:κ} (e:p.1=k):aS (p::r) k=i' p.2:=by simp[aS,Tu,e]
theorem cf {p:κ×V}{r:List (κ×V)}{k:κ} (e:¬ p.1=k):aS (p::r) k=aS r k:=by simp[aS,Tu,e]
theorem vj (k:κ):∀ kvs:List (κ×V),(kvs.any fun kv=>decide (kv.1=k))=(aS kvs k).isSome
 | []=>rfl
 | p::r=>by
  rw[Tr]
  by_cases e:p.1=k
  .simp only[dr e,T7 e,Qg9,Option.isSome_some]
  .rw[cf e,S0 e,QdW];exact vj k r
theorem Fg (k j:κ) (y:V):∀ kvs:List (κ×V),aS (kvs.map fun kv=>if kv.1=k then(kv.1,y) else kv) j=(aS kvs j).map fun x=>if j=k then y else x
 | []=>rfl
 | p::r=>by
  have ih:=Fg k j y r
  rw[S9]
  by_cases h:p.1=k
  .rw[U3 h]
   by_cases e:p.1=j
   .rw[dr (p:=(p.1,y)) e,dr e,TX,U3 (e.symm.trans h)]
   .rw[cf (p:=(p.1,y)) e,cf e,ih]
  .rw[U4 h]
   by_cases e:p.1=j
   .rw[dr (p:=p) e,dr e,TX,U4 (fun z=>h (e.trans z))]
   .rw[cf (p:=p) e,cf e,ih]
theorem xo (k j:κ) (y:V):∀ kvs:List (κ×V),aS kvs k=B'→aS (kvs++[(k,y)]) j=if j=k then i' y else aS kvs j
 | [],_=>by
  by_cases e:k=j
  .rw[U3 e.symm];exact dr (p:=(k,y)) e
  .rw[U4 (fun z=>e z.symm)];exact cf (p:=(k,y)) e
 | p::r,hn=>by
  rw[List.cons_append]
  have hk:¬ p.1=k:=fun z=>by rw[dr z] at hn;cases hn
  rw[cf hk] at hn
  have ih:=xo k j y r hn
  by_cases e:p.1=j
  .rw[dr e,dr e,U4 (fun z=>hk (e.trans z))]
  .rw[cf e,cf e,ih]
theorem BF (kvs:List (κ×V)) (k j:κ) (y:V):aS (bi kvs k y) j=if j=k then i' y else aS kvs j:=by
 unfold bi
 by_cases a:(kvs.any fun kv=>decide (kv.1=k))=D'
 .rw[U3 a,Fg]
  rw[vj] at a
  by_cases e:j=k
  .obtain⟨x,hx⟩:=Yt.mp a
   rw[U3 e,e,hx,TX,U3 rfl]
  .rw[U4 e]
   cases aS kvs j with
   | none=>rfl
   | some x=>rw[TX,U4 e]
 .rw[U4 a]
  refine xo k j y kvs ?_
  rw[vj] at a
  cases q:aS kvs k with
  | none=>rfl
  | some x=>rw[q] at a;exact(a O).elim
theorem wx (kvs:List (κ×V)) (k:κ) (v:V):(bi kvs k v).length≤kvs.length+1:=by
 unfold bi
 split
 .rw[Ss];lia
 .rw[Tg,Sz,QgH];lia
theorem uE {kvs:List (κ×V)}{k:κ} (v:V) (h:aS kvs k=B'):bi kvs k v=kvs++[(k,v)]:=by
 unfold bi
 rw[vj,h]
 exact U4 (by decide)
theorem dW.Qah {u:Option K'} (r:dW o u):o.isSome=u.isSome:=by
 cases o with
 | none=>cases u with
  | none=>rfl
  | some _=>exact(show False from r).elim
 | some _=>cases u with
  | none=>exact(show False from r).elim
  | some _=>rfl
theorem dW.getD {o:Option V}{u:Option K'}{d:V}{d':K'} (r:dW o u) (rd:aA d d'):aA (o.getD d) (u.getD d'):=by
 cases o with
 | none=>cases u with
  | none=>exact rd
  | some _=>exact(show False from r).elim
 | some _=>cases u with
  | none=>exact(show False from r).elim
  | some _=>exact r
theorem KV.val {kvs:List (κ×V)}{vs:List (κ×K')} (r:KV kvs vs) (k:κ):dW (aS kvs k) (Y1 vs k):=by
 unfold KV at r
 induction r with
 | nil=>exact WW
 | @cons p q ps qs h t ih=>
  obtain⟨h1,h2⟩:=h
  by_cases e:p.1=k
  .have e':q.1=k:=h1.symm.trans e
   have b:Y1 (q::qs) k=i' q.2:=by simp[Y1,Tu,e']
   rw[dr e,b];exact h2
  .have e':¬ q.1=k:=fun z=>e (h1.trans z)
   have b:Y1 (q::qs) k=Y1 qs k:=by simp[Y1,Tu,e']
   rw[cf e,b];exact ih
theorem KV.any {kvs:List (κ×V)}{vs:List (κ×K')} (r:KV kvs vs) (k:κ):(kvs.any fun kv=>decide (kv.1=k))=vs.any fun kv=>decide (kv.1=k):=by
 unfold KV at r
 induction r with
 | nil=>rfl
 | cons h t ih=>rw[Tr,Tr,ih,h.1]
theorem KV.QcM {kvs:List (κ×V)}{vs:List (κ×K')} (r:KV kvs vs) (k:κ) (ry:aA y u) :
  KV (kvs.map fun kv=>if kv.1=k then(kv.1,y) else kv) (vs.map fun kv=>if kv.1=k then(kv.1,u) else kv):=by
 unfold KV at r ⊢
 induction r with
 | nil=>exact .nil
 | @cons p q ps qs h t ih=>
  rw[S9,S9]
  refine .cons ?_ ih
  obtain⟨h1,h2⟩:=h
  by_cases e:p.1=k
  .rw[U3 e,U3 (h1.symm.trans e)];exact⟨h1,ry⟩
  .rw[U4 e,U4 (fun z=>e (h1.trans z))];exact⟨h1,h2⟩
theorem KV.put {kvs:List (κ×V)}{vs:List (κ×K')} (r:KV kvs vs) (k:κ) (ry:aA y u):KV (bi kvs k y) (Ye vs k u):=by
 unfold bi Ye
 rw[r.any k]
 by_cases e:(vs.any fun kv=>decide (kv.1=k))=D'
 .rw[U3 e,U3 e];exact r.QcM k ry
 .rw[U4 e,U4 e];exact QgT r ⟨O,ry⟩
theorem KV.drop {kvs:List (κ×V)}{vs:List (κ×K')} (r:KV kvs vs) (k:κ):KV (iV kvs k) (without vs k):=by
 unfold KV at r ⊢
 unfold iV without
 induction r with
 | nil=>exact .nil
 | @cons p q ps qs h t ih=>
  obtain⟨h1,h2⟩:=h
  rw[W2,W2]
  by_cases e:p.1=k
  .have a:¬ decide (p.1≠k)=D':=by simp[e]
   have b:¬ decide (q.1≠k)=D':=by simp[h1.symm.trans e]
   rw[U4 a,U4 b];exact ih
  .have e':¬ q.1=k:=fun z=>e (h1.trans z)
   have a:decide (p.1≠k)=D':=by simp[e]
   have b:decide (q.1≠k)=D':=by simp[e']
   rw[U3 a,U3 b];exact .cons ⟨h1,h2⟩ ih
theorem KV.length {kvs:List (κ×V)}{vs:List (κ×K')} (r:KV kvs vs):kvs.length=vs.length:=Qcg r
theorem M3 (kvs:List (κ×V)) (k:κ):(iV kvs k).length≤kvs.length:=XO _ _
end
theorem i6 {k:Key} (r:aA (kV k) u):(bM P w).is k u=D':=by
 cases k with
 | inl i=>obtain⟨t,e⟩:=(show ∃ t,u=X0 i t from r);subst e;exact M9 P w i t
 | inr x=>obtain⟨t,e⟩:=(show ∃ t,u=QaJ x t from r);subst e;exact Qu P w x t
theorem Fy {P:Vy}{w:VL}:∀ {ks:List Key}{us:List K'},aB (ks.map kV) us→ItemsAre (bM P w) ks us
 | [],_,r=>by rw[Qcm] at r;cases r;exact .nil
 | k::ks,_,r=>by
  rw[S9] at r
  cases r with
  | cons h t=>exact .cons (i6 h) (Fy t)
abbrev KT (H:Hp):List (List Key×V)→List (List Key×F'×K')→Prop:=Qad fun p q=>p.1=q.1∧H q.2.1=i' (.tup (p.1.map kV))∧aA p.2 q.2.2
theorem KT.val (r:KT H kvs xs) (k:List Key):dW (aS kvs k) ((Y3 xs k).map (·.2)):=by
 induction r with
 | nil=>exact WW
 | @cons p q ps qs h t ih=>
  obtain⟨h1,_,h2⟩:=h
  by_cases e:p.1=k
  .have e':q.1=k:=h1.symm.trans e
   have b:Y3 (q::qs) k=i' q.2:=by simp[Y3,Tu,e']
   rw[dr e,b];exact h2
  .have e':¬ q.1=k:=fun z=>e (h1.trans z)
   have b:Y3 (q::qs) k=Y3 qs k:=by simp[Y3,Tu,e']
   rw[cf e,b];exact ih
theorem KT.QcM (r:KT H kvs xs) (k:List Key) (ry:aA y u) :
  KT H (kvs.map fun kv=>if kv.1=k then(kv.1,y) else kv) (xs.map (putAt k u)):=by
 induction r with
 | nil=>exact .nil
 | @cons p q ps qs h t ih=>
  rw[S9,S9]
  refine .cons ?_ ih
  obtain⟨h1,h2,h3⟩:=h
  unfold putAt
  by_cases e:p.1=k
  .rw[U3 e,U3 (h1.symm.trans e)];exact⟨h1,h2,ry⟩
  .rw[U4 e,U4 (fun z=>e (h1.trans z))];exact⟨h1,h2,h3⟩
theorem KT.put (r:KT H kvs xs) (k:List Key) (hb:H b=i' (.tup (k.map kV))) (ry:aA y u) :
  KT H (bi kvs k y) (storedH xs k b u):=by
 have e:(kvs.any fun kv=>decide (kv.1=k))=(Y3 xs k).isSome:=by
  rw[vj,(r.val k).Qah,Ue]
 unfold bi storedH
 rw[e]
 by_cases q:(Y3 xs k).isSome=D'
 .rw[U3 q,U3 q];exact r.QcM k ry
 .rw[U4 q,U4 q];exact QgT r ⟨O,hb,ry⟩
theorem KT.keeps (r:KT H kvs xs) (ht:∀ b ys,H b=i' (.tup ys)→H' b=i' (.tup ys)):KT H' kvs xs:=
 Paired.QcD r fun _ _ z=>⟨z.1,ht _ _ z.2.1,z.2.2⟩
section
variable {h:Vo}
theorem QeC {u:HO} (ok:VH P w H h) (e:Rd H a u):cM P w H h a u:=e.ok ok
theorem lL {kvs:List (Key×V)} (ok:VH P w H h) (e:Rd H a (.dK kvs)):kvs.length≤U2∧(a == WO)=M'∧∃ vs,KV kvs vs∧h.DictOf (bM P w) a vs:=
 show cM P w H h a (.dK kvs) from QeC ok e
theorem pJ {kvs:List (Key×V)} (ok:VH P w H h) (e:H a=i' (.dK kvs)):kvs.length≤U2∧(a == WO)=M'∧∃ vs,KV kvs vs∧h.DictOf (bM P w) a vs:=lL ok (.inl e)
theorem pC {ks:List Key} (ok:VH P w H h) (e:H a=i' (.tup (ks.map kV))):(Z7 (bM P w)).is h ks a:=by
 obtain⟨_,ag,r,o,h1,h2,n,h3⟩:=(show cM P w H h a (.tup (ks.map kV)) from ok a _ e)
 exact⟨o,ag.toArray,n,h1,h2,h3,by simpa using Fy r⟩
theorem mZ (ok:VH P w H h) (e:Rd H a (.dT kvs)):kvs.length≤U2∧(a == WO)=M' ∧
  ∃ xs,KT H kvs xs∧h.DictOfH (Z7 (bM P w)) a xs:=by
 obtain⟨z,y,xs,r,o,es,ep,h1,h2,h3,h4,h5⟩:=(show cM P w H h a (.dT kvs) from QeC ok e)
 refine⟨z,y,xs,r,o,es,ep,h1,h2,h3,h4,fun x hx=>?_,h5⟩
 have all:∀ {l:List (List Key×V)}{m:List (List Key×F'×K')},KT H l m→∀ x∈m,(Z7 (bM P w)).is h x.1 x.2.1:=by
  intro l m q
  induction q with
  | nil=>intro x hx;exact nomatch hx
  | @cons p q ps qs hq t ih=>
   intro x hx
   rcases SS.mp hx with e|hx
   .subst e
    exact pC ok (by rw[← hq.1];exact hq.2.1)
   .exact ih x hx
 exact all r x hx
theorem QiA (ok:VH P w H h) (e:H a=i' (.dT kvs)):kvs.length≤U2∧(a == WO)=M' ∧
  ∃ xs,KT H kvs xs∧h.DictOfH (Z7 (bM P w)) a xs:=mZ ok (.inl e)
end
def bS (H:Hp) (a:F') (y:V) (r:Option V):Prop:=
 (∃ kvs k,Rd H a (.dK kvs)∧y=kV k∧r=aS kvs k)∨∃ kvs k b,Rd H a (.dT kvs)∧y=.ref b∧H b=i' (.tup (k.map kV))∧r=aS kvs k
def rF (H:Hp) (a:F') (y v:V) (H':Hp):Prop:=
 (∃ kvs k,H a=i' (.dK kvs)∧y=kV k∧kvs.length<U2∧H'=upd H a (.dK (bi kvs k v))) ∨
 ∃ kvs k b,H a=i' (.dT kvs)∧y=.ref b∧H b=i' (.tup (k.map kV))∧kvs.length<U2∧H'=upd H a (.dT (bi kvs k v))
theorem bS.k {H:Hp}{a:F'}{kvs:List (Key×V)}{k:Key} (e:H a=i' (.dK kvs)):bS H a (kV k) (aS kvs k):=.inl ⟨kvs,k,.inl e,O,O⟩
theorem rF.k {H:Hp}{a:F'}{kvs:List (Key×V)}{k:Key}{v:V} (e:H a=i' (.dK kvs)) (hl:kvs.length<U2):rF H a (kV k) v (upd H a (.dK (bi kvs k v))):=.inl ⟨kvs,k,e,O,hl,O⟩
section
variable {v:V}{r:K'}
theorem Inv.big (I:Inv X aa σ H s):WO<s.heap.objs.size:=by
 have h:V6<s.heap.objs.size:=(I.mod.glob.keeps I.bk).lt
 exact TY (by decide) h
theorem MI (hu:A.units+1<VN) (I:Inv X aa σ H s) (g:bS H a y (i' v)) (ry:aA y u) (h:∀ w' s',Inv X aa σ H s'→aA v w'→Q w' s') :
  L' (UV X.prog X.w) A (Yd (.ref a) u) Q E s:=by
 rcases g with⟨kvs,k,e,ey,l⟩|⟨kvs,k,b,e,ey,eb,l⟩
 .subst ey
  obtain⟨z,hd,vs,rel,dd⟩:=lL I.UZ e
  obtain⟨w',hw,dE⟩:=dW.some_of (v:=v) (o:=Y1 vs k) (by rw[l];exact rel.val k)
  exact Qhc (i6 ry) dd.mapOf hw (h w' _ (I.tok _) dE)
 .subst ey
  cases (show u=U9 b from ry)
  obtain⟨z,hd,xs,rel,dd⟩:=mZ I.UZ e
  obtain⟨w',hw,dE⟩:=dW.some_of (v:=v) (o:=(Y3 xs k).map (·.2)) (by rw[l];exact rel.val k)
  obtain⟨p,hp,ii⟩:=Qan.mp hw
  refine wpAny_getItem_heap (Qaz hu) (pC I.UZ eb) dd hp ?_
  rw[ii]
  exact h w' _ (I.tok _) dE
theorem QiB (hu:A.units+1<VN) (I:Inv X aa σ H s) (g:bS H a y o) (ry:aA y u) (h:∀ s',Inv X aa σ H s'→Q (.bool o.isSome) s') :
  L' (UV X.prog X.w) A (WR .In u (.ref a)) Q E s:=by
 rcases g with⟨kvs,k,e,ey,l⟩|⟨kvs,k,b,e,ey,eb,l⟩
 .subst ey
  obtain⟨z,hd,vs,rel,dd⟩:=lL I.UZ e
  refine wpAny_in_of (i6 ry) hd dd.mapOf ?_
  rw[← (rel.val k).Qah,← l]
  exact h _ (I.tok _)
 .subst ey
  cases (show u=U9 b from ry)
  obtain⟨z,hd,xs,rel,dd⟩:=mZ I.UZ e
  refine wpAny_in_heap (Qaz hu) (pC I.UZ eb) hd dd ?_
  have q:=(rel.val k).Qah
  rw[Ue] at q
  rw[← q,← l]
  exact h _ (I.tok _)
theorem Nl (hu:A.units+1<VN) (I:Inv X aa σ H s) (g:bS H a y o) (ry:aA y u) (h:∀ s',Inv X aa σ H s'→Q (.bool (!o.isSome)) s') :
  L' (UV X.prog X.w) A (WR .NotIn u (.ref a)) Q E s:=by
 rcases g with⟨kvs,k,e,ey,l⟩|⟨kvs,k,b,e,ey,eb,l⟩
 .subst ey
  obtain⟨z,hd,vs,rel,dd⟩:=lL I.UZ e
  refine Qhy (i6 ry) hd dd.mapOf ?_
  rw[← (rel.val k).Qah,← l]
  exact h _ (I.tok _)
 .subst ey
  cases (show u=U9 b from ry)
  obtain⟨z,hd,xs,rel,dd⟩:=mZ I.UZ e
  refine wpAny_notIn_heap (Qaz hu) (pC I.UZ eb) hd dd ?_
  have q:=(rel.val k).Qah
  rw[Ue] at q
  rw[← q,← l]
  exact h _ (I.tok _)
theorem xb {ob:HO} (I:Inv X aa σ H s) (mu:Mut (H a)) (hs:Yb a s.heap h') (he:∃ q,h'.get? a=i' q) (new:cM X.prog X.w (upd H a ob) h' a ob) :
  Inv X aa σ (upd H a ob) {s with heap:=h',toks:=t'}:=
 I.write (x:=a) (e:=a) mu (.inl O) (fun b q hb z=>(hs.2 b hb).trans z) he new
theorem AY {kvs:List (Key×V)}{vs:List (Key×K')} (z:kvs.length≤U2) (hd:(a == WO)=M') (rel:KV kvs vs) (dd:h'.DictOf (bM P w) a vs) :
  cM P w H' h' a (.dK kvs):=⟨z,hd,vs,rel,dd⟩
theorem QF {Q:Unit→UW→Prop} (hu:A.units+1<VN) (I:Inv X aa σ H s) (g:rF H a y v H') (ry:aA y u) (rv:aA v r) (h:∀ s',Inv X aa σ H' s'→Q () s') :
  L' (UV X.prog X.w) A (QcB (.ref a) u r) Q E s:=by
 rcases g with⟨kvs,k,e,ey,l,eH⟩|⟨kvs,k,b,e,ey,eb,l,eH⟩
 .subst ey eH
  obtain⟨z,hd,vs,rel,dd⟩:=pJ I.UZ e
  have hz:vs.length≤U2:=by rw[← rel.length];exact z
  have hl:(bi kvs k v).length≤U2:=by have:=wx kvs k v;lia
  refine wpAny_setItem_pairs (hsz:=hz) (i6 ry) dd fun h' j7 hs=>h _ ?_
  have he:∃ q,h'.get? a=i' q:=let ⟨q,_,_,hq,_⟩:=j7;⟨q,hq⟩
  exact xb I (by rw[e];exact WW) hs he (AY hl hd (rel.put k rv) j7)
 .subst ey eH
  cases (show u=U9 b from ry)
  obtain⟨z,hd,xs,rel,dd⟩:=QiA I.UZ e
  have hz:xs.length≤U2:=by rw[← Qcg rel];exact z
  have hl:(bi kvs k v).length≤U2:=by have:=wx kvs k v;lia
  refine wpAny_setItem_heap (hsz:=hz) (Qaz hu) (pC I.UZ eb) dd fun h' j7 hs=>h _ ?_
  obtain⟨q,es,ep,hq,h2,h3,h4,_,h5⟩:=j7
  refine xb I (by rw[e];exact WW) hs ⟨q,hq⟩ ⟨hl,hd,_,(rel.put k eb rv).keeps fun c ys ec=>?_,q,es,ep,hq,h2,h3,h4,h5⟩
  rw[aj (bQ ec e (fun z=>nomatch z))]
  exact ec
end
section
variable {kvs:List (Key×V)}{k:Key}
theorem QiC {v:V}{more:List K'} (I:Inv X aa σ H s) (e:H a=i' (.dK kvs)) (ry:aA (kV k) u) (l:aS kvs k=i' v) (hm:more=[]∨∃ x,more=[x])
  (h:∀ w' s',Inv X aa σ (upd H a (.dK (iV kvs k))) s'→aA v w'→Q w' s'):L' (UV X.prog X.w) A (call (.builtin "dict.pop") (.ref a::u::more)) Q E s:=by
 obtain⟨z,hd,vs,rel,dd⟩:=pJ I.UZ e
 obtain⟨w',hw,dE⟩:=dW.some_of (v:=v) (o:=Y1 vs k) (by rw[← l];exact rel.val k)
 have hp:(keyPart u).isSome=D':=by
  cases k with
  | inl i=>obtain⟨t,q⟩:=(show ∃ t,u=X0 i t from ry);subst q;rfl
  | inr x=>obtain⟨t,q⟩:=(show ∃ t,u=QaJ x t from ry);subst q;rfl
 have ha:argsOk "dict.pop" ⟨.ref a::u::more,[]⟩:=by
  rcases hm with q|⟨x,q⟩
  .subst q;exact PySem.F.args_dict_pop_2 _ _
  .subst q;exact PySem.F.args_dict_pop_3 _ _ _
 refine QaH QfU dd.typeIs PySem.F.entry_dict_pop ha (meets_dict_pop_there (bM X.prog X.w) a (i6 ry) more hm hp)
  ⟨vs,w',dd,by rw[← rel.length];exact z,hw,fun h' j7 hs=>h w' _ ?_ dE⟩
 have he:∃ q,h'.get? a=i' q:=let ⟨q,_,_,hq,_⟩:=j7;⟨q,hq⟩
 exact xb I (by rw[e];exact WW) hs he (AY (SN (M3 kvs k) z) hd (rel.drop k) j7)
theorem QiD (I:Inv X aa σ H s) (e:Rd H a (.dK kvs)) (h:∀ t s',Inv X aa σ H s'→Q (.int kvs.length t) s'):L' (UV X.prog X.w) A (call (.builtin "len") [.ref a]) Q E s:=by
 obtain⟨z,hd,vs,rel,dd⟩:=lL I.UZ e
 refine call_len_dict hd dd (by rw[← rel.length];rw[S8] at z;lia) ?_
 rw[← rel.length]
 exact h _ _ (I.tok _)
end
def QcN (i:Vh):Prop:=∀ ov iv,Qct i M' ov iv=operate [ov,iv] (Yd ov iv)
theorem HP {env:Wh}{slice:Vh}
  (hl:Yc (.type T) "__getitem__"=pure (i' (.builtin id))) (hs:QcN slice)
  (h:L' (UV prog w) A (Vg value env) (fun o s₁=>L' (UV prog w) A (Vg slice env) (fun i s₂=>s₂.TypeIs o T∧L' (UV prog w) A (Yd o i) Q E s₂) E s₁) E s) :
  L' (UV prog w) A (Vg (.Subscript value slice pos) env) Q E s:=by
 refine Qeg (SE h (fun o s₁ h₁=>SE h₁ (fun i s₂ h₂=>?_) fun _ _ x=>x) fun _ _ x=>x)
 obtain⟨hT,h₂⟩:=h₂
 unfold Qd6
 refine oG ?_
 rw[getitemInPython_of_ne hT.not_modules]
 refine oG (Ur hT hl ?_)
 have aG:L' (UV prog w) A (Qct slice M' o i) (fun r s₃=>L' (UV prog w) A (letTemporaryGo value o r >>= fun _=>pure r) Q E s₃) E s₂:=by
  rw[hs o i]
  exact wpAny_operating (SE h₂ (fun r s₃ h₃=>oG (wpAny_letTemporaryGo (Sd h₃))) fun _ _ x=>x)
 first
  | exact Sd (oG aG)
  | exact oG (Sd (oG aG))
  | exact oG aG
theorem QQ (I:Inv X aa σ H s) (g:bS H a y o):s.TypeIs (.ref a) "dict":=by
 rcases g with⟨kvs,k,e,_,_⟩|⟨kvs,k,b,e,_,_,_⟩
 .obtain⟨_,_,vs,_,dd⟩:=lL I.UZ e
  exact dd.typeIs
 .obtain⟨_,_,xs,_,dd⟩:=mZ I.UZ e
  exact dd.typeIs
inductive QiE (Q:VK) (x:V) (y:V) (H2:Hp):Prop
 | mk (a v:_) (_:x=.ref a) (_:bS H2 a y (i' v)) (_:Q v H2)
def QiF (td ty:TE):TE:=fun σ H Q=>td σ H fun x H1=>ty σ H1 fun y H2=>QiE Q x y H2
inductive QiG (Q:VK) (y:V) (x:V) (H2:Hp):Prop
 | mk (a o:_) (_:x=.ref a) (_:bS H2 a y o) (_:Q (.bl o.isSome) H2)
def QiH (ty td:TE):TE:=fun σ H Q=>ty σ H fun y H1=>td σ H1 fun x H2=>QiG Q y x H2
inductive Ql (Q:VK) (y:V) (x:V) (H2:Hp):Prop
 | mk (a o:_) (_:x=.ref a) (_:bS H2 a y o) (_:Q (.bl (!o.isSome)) H2)
def M7 (ty td:TE):TE:=fun σ H Q=>ty σ H fun y H1=>td σ H1 fun x H2=>Ql Q y x H2
inductive QiI (D:d8) (σ:St) (v:V) (x:V) (y:V) (H3:Hp):Prop
 | mk (a H4:_) (_:x=.ref a) (_:rF H3 a y v H4) (_:D.nx σ H4)
def QiJ (td ty tv:TE):TS:=fun D σ H=>tv σ H fun v H1=>td σ H1 fun x H2=>ty σ H2 fun y H3=>QiI D σ v x y H3
section
variable {o i:Vh}{a9 Qag:VZ}{td ty tv:TE}
theorem dU (hu:X.A.units+1<VN) (ho:PE X o td) (hi:PE X i ty) (hs:QcN i):PE X (.Subscript o i pos) (QiF td ty):=by
 intro aa s σ H Q I h
 refine HP QfA.lookup hs (U6 (ho aa s σ H _ I h) fun u s1=>L2.Ve fun x H1 I1 rx q1=>U6 (hi aa s1 σ H1 _ I1 q1) fun iv s2=>L2.Ve fun y H2 I2 ry aQ=>?_)
 obtain⟨a,v,ex,g,q2⟩:=aQ
 subst ex
 obtain rfl:u=U9 a:=rx
 exact⟨QQ I2 g,MI hu I2 g ry fun w' s3 I3 dE=>⟨v,H2,I3,dE,q2⟩⟩
theorem BV (hu:X.A.units+1<VN) (hi:PE X i ty) (ho:PE X o td):PC X .In i o (QiH ty td):=by
 intro aa s σ H Q I h
 refine U6 (hi aa s σ H _ I h) fun iv s1=>L2.Ve fun y H1 I1 ry q1=>U6 (ho aa s1 σ H1 _ I1 q1) fun u s2=>L2.Ve fun x H2 I2 rx aQ=>?_
 obtain⟨a,ov,ex,g,q2⟩:=aQ
 subst ex
 obtain rfl:u=U9 a:=rx
 exact QiB hu I2 g ry fun s3 I3=>⟨.bl ov.isSome,H2,I3,O,q2⟩
theorem BG (hu:X.A.units+1<VN) (hi:PE X i ty) (ho:PE X o td):PC X .NotIn i o (M7 ty td):=by
 intro aa s σ H Q I h
 refine U6 (hi aa s σ H _ I h) fun iv s1=>L2.Ve fun y H1 I1 ry q1=>U6 (ho aa s1 σ H1 _ I1 q1) fun u s2=>L2.Ve fun x H2 I2 rx aQ=>?_
 obtain⟨a,ov,ex,g,q2⟩:=aQ
 subst ex
 obtain rfl:u=U9 a:=rx
 exact Nl hu I2 g ry fun s3 I3=>⟨.bl (!ov.isSome),H2,I3,O,q2⟩
theorem lP (hu:X.A.units+1<VN) (ho:PE X o td) (hi:PE X i ty) (hv:PE X value tv) (hs:Z8 value (i' (.Subscript o i a9)) pos.line X.env=pure M') :
  PS X (.Assign [.Subscript o i a9] value pos) (QiJ td ty tv):=by
 intro aa s σ H D I h
 refine wpAny_Assign_Subscript (U6 (hv aa s σ H _ I h) fun r s1=>L2.Ve fun v H1 I1 rv q1=>U6 (ho aa s1 σ H1 _ I1 q1) fun u s2=>L2.Ve fun x H2 I2 rx q2=>U6 (hi aa s2 σ H2 _ I2 q2) fun iv s3=>L2.Ve fun y H3 I3 ry aQ=>?_) hs
 obtain⟨a,H4,ex,g,q3⟩:=aQ
 subst ex
 obtain rfl:u=U9 a:=rx
 exact QF hu I3 g ry rv fun s4 I4=>⟨σ,H4,I4,q3⟩
end
theorem wT (h:Vo) (hb:WO<h.objs.size):cM P w H (h.push {cls:=.type "dict",data:=.dict #[]}) h.objs.size (.dK []):=
 ⟨Th _,Qay.mpr (U5 (Sh hb)),[],.nil,Qdx h⟩
def QiK:TE:=fun _ H Q=>∀ p,H p=B'→Q (.ref p) (upd H p (.dK []))
theorem mW:PE X (.Dict [] [] pos) QiK:=fun aa s σ H Q I h=>
 wpAny_Dict_empty ⟨.ref s.heap.objs.size,_,I.laid (a:=s.heap.objs.size) (o:=.dK []) (t':=s.toks) (fun _ _ q=>Sc _ q) (Sg _) (wT s.heap I.big),O,h _ (I.UZ.fresh (Sg _))⟩
def BU:List (TE×TE)→St→Hp→(List (V×V)→Hp→Prop)→Prop
 | [],_,H,Q=>Q [] H
 | (tk,tv)::r,σ,H,Q=>tk σ H fun x H1=>tv σ H1 fun y H2=>BU r σ H2 fun ps H3=>Q ((x,y)::ps) H3
abbrev VV:List (V×V)→List (K'×K')→Prop:=Qad fun p q=>aA p.1 q.1∧aA p.2 q.2
def PPs (X:Cx) (pos:VZ) (keys:List (Option Vh)) (c8:List Vh) (kR:List (TE×TE)):Prop:=
 ∀ (aa:List (F'×Vd)) (s:UW) (σ:St) (H:Hp) (Q:List (V×V)→Hp→Prop),Inv X aa σ H s→BU kR σ H Q →
  L' (UV X.prog X.w) X.A (evalPairs (pairTrees keys c8 X.env pos)) (fun vs s'=>∃ ps H',Inv X aa σ H' s'∧VV ps vs∧Q ps H') X.xe s
theorem LY:PPs X pos [] [] []:=fun aa s σ H Q I h=>pairTrees_nil_walk ⟨[],H,I,.nil,h⟩
theorem PF {k v:Vh}{ks:List (Option Vh)}{vs:List Vh}{tk tv:TE} (hk:PE X k tk) (hv:PE X v tv) (hr:PPs X pos ks vs kR) :
  PPs X pos (i' k::ks) (v::vs) ((tk,tv)::kR):=fun aa s σ H Q I h=>
 pairTrees_cons_walk (U6 (hk aa s σ H _ I h) fun u s1=>L2.Ve fun x H1 I1 rx q1=>U6 (hv aa s1 σ H1 _ I1 q1) fun w2 s2=>L2.Ve fun y H2 I2 ry q2=>
  U6 (hr aa s2 σ H2 _ I2 q2) fun ws s3 ⟨ps,H3,I3,rel,q3⟩=>⟨(x,y)::ps,H3,I3,.cons ⟨rx,ry⟩ rel,q3⟩)
def nH (kvs more:List (Key×V)):List (Key×V):=more.foldl (fun acc kv=>bi acc kv.1 kv.2) kvs
theorem KV.merge:∀ {more:List (Key×V)}{rs:List (Key×K')}{kvs:List (Key×V)}{vs:List (Key×K')},KV more rs→KV kvs vs→KV (nH kvs more) (merged vs rs):=by
 intro more rs kvs vs r
 unfold KV at r
 induction r generalizing kvs vs with
 | nil=>intro q;exact q
 | @cons p q ps qs h t ih=>
  intro r0
  have e:KV (bi kvs p.1 p.2) (Ye vs q.1 q.2):=by
   have:=r0.put p.1 h.2
   rw[← h.1];exact this
  exact ih e
theorem GC:∀ (more kvs:List (Key×V)),(nH kvs more).length≤kvs.length+more.length
 | [],kvs=>by show kvs.length≤kvs.length+0;lia
 | p::r,kvs=>by
  have h1:=GC r (bi kvs p.1 p.2)
  have h2:=wx kvs p.1 p.2
  show(nH (bi kvs p.1 p.2) r).length≤_
  rw[Sz];lia
theorem Gm {P:Vy}{w:VL}:∀ {kvs:List (Key×V)}{ws:List (K'×K')},VV (kvs.map fun kv=>(kV kv.1,kv.2)) ws→∃ rs,Carries (bM P w) ws rs∧KV kvs rs
 | [],_,r=>by rw[Qcm] at r;cases r;exact⟨[],WW,.nil⟩
 | p::kvs,_,r=>by
  rw[S9] at r
  cases r with
  | @cons a b as bs h t=>
   obtain⟨rs,c,q⟩:=Gm (P:=P) (w:=w) t
   obtain⟨b1,b2⟩:=b
   exact⟨(p.1,b2)::rs,⟨i6 h.1,O,c⟩,.cons ⟨O,h.2⟩ q⟩
def QiL (kR:List (TE×TE)):TE:=fun σ H Q=>∀ p,H p=B'→BU kR σ (upd H p (.dK [])) fun ps H2=>H2 p=i' (.dK [])∧∃ kvs:List (Key×V),ps=kvs.map (fun kv=>(kV kv.1,kv.2))∧kvs.length≤15∧Q (.ref p) (upd H2 p (.dK (nH [] kvs)))
theorem QP {keys:List (Option Vh)}{c8:List Vh} (h:PPs X pos keys c8 kR) (oH:keys.all (·.isSome)=D') (hl:keys.length=c8.length) (h0:keys≠[])
  (Jl:keys.length≤15):PE X (.Dict keys c8 pos) (QiL kR):=by
 intro aa s σ H Q I q
 have hn:=I.UZ.fresh (Sg s.heap.objs.size)
 have I1:=I.laid (a:=s.heap.objs.size) (o:=.dK []) (h':=s.heap.push {cls:=.type "dict",data:=.dict #[]}) (t':=s.toks) (fun _ _ q=>Sc _ q) (Sg _) (wT s.heap I.big)
 refine wpAny_Dict_walk (knd:=bM X.prog X.w) oH hl h0 Jl (U6 (h aa _ σ _ _ I1 (q _ hn)) fun ws s2=>L2.Ve fun ps H2 I2 rel aQ=>?_)
 obtain⟨e,kvs,ep,lk,q2⟩:=aQ
 subst ep
 obtain⟨rs,c,rk⟩:=Gm (P:=X.prog) (w:=X.w) rel
 obtain⟨z,hd,RC,r0,dd⟩:=pJ I2.UZ e
 cases r0
 refine⟨rs,c,dd,fun h' j7 hs=>⟨.ref s.heap.objs.size,_,?_,O,q2⟩⟩
 have hz:(nH [] kvs).length≤U2:=by
  have h1:=GC kvs []
  rw[QgH] at h1
  rw[S8];lia
 have he:∃ q,h'.get? s.heap.objs.size=i' q:=let ⟨q,_,_,hq,_⟩:=j7;⟨q,hq⟩
 exact xb I2 (by rw[e];exact WW) hs he (AY hz hd (rk.merge .nil) j7)
structure M1 (X:Cx) (o:Vh) (m:C') (aL:VZ) (e:Vh) (aE:VZ):Prop where
 base:YV o m X.env (Vg o X.env)=Vg o X.env
 WE:((VP aE (Vk [e] X.env)).all (fun x=>!x.1) && (Xs aE (Xr [] X.env)).all (fun x=>x.1.isSome)
  && decide (([e]:List Vh).length+([]:List Qab).length+(if ([]:List Qab).isEmpty then 0 else 1)<30))=D'
 line:(aL.endLine == aE.line)=D'
 trees:VP aE (Vk [e] X.env)=[(M',Vg e X.env)]
structure M2 (X:Cx) (o:Vh) (m:C') (aL:VZ) (e f:Vh) (aE:VZ):Prop where
 base:YV o m X.env (Vg o X.env)=Vg o X.env
 WE:((VP aE (Vk [e,f] X.env)).all (fun x=>!x.1) && (Xs aE (Xr [] X.env)).all (fun x=>x.1.isSome)
  && decide (([e,f]:List Vh).length+([]:List Qab).length+(if ([]:List Qab).isEmpty then 0 else 1)<30))=D'
 line:(aL.endLine == aE.line)=D'
 trees:VP aE (Vk [e,f] X.env)=[(M',Vg e X.env),(M',Vg f X.env)]
def IsD (H:Hp) (a:F'):Prop:=(∃ kvs,Rd H a (.dK kvs))∨∃ kvs,Rd H a (.dT kvs)
theorem BP (I:Inv X aa σ H s) (d:IsD H a) :
  s.TypeIs (.ref a) "dict"∧(∀ b,U9 a=.ref b→∃ ob,s.heap.get? b=i' ob∧ob.dict=B')∧(a == WO)=M':=by
 rcases d with⟨kvs,e⟩|⟨kvs,e⟩
 .obtain⟨_,hd,vs,_,dd⟩:=lL I.UZ e
  refine⟨dd.typeIs,fun b q=>?_,hd⟩
  cases q
  obtain⟨ob,_,_,h1,h2,_⟩:=dd
  exact⟨ob,h1,h2.2.1⟩
 .obtain⟨_,hd,xs,_,dd⟩:=mZ I.UZ e
  refine⟨dd.typeIs,fun b q=>?_,hd⟩
  cases q
  obtain⟨ob,_,_,h1,h2,_⟩:=dd
  exact⟨ob,h1,h2.2.1⟩
section
variable {d:V}{r:K'}
theorem QiM (hu:A.units+1<VN) (I:Inv X aa σ H s) (g:bS H a y o) (ry:aA y u) (h:∀ w' s',Inv X aa σ H s'→aA (o.getD .U8) w'→Q w' s') :
  L' (UV X.prog X.w) A (call (.builtin "dict.get") [.ref a,u]) Q E s:=by
 rcases g with⟨kvs,k,e,ey,l⟩|⟨kvs,k,b,e,ey,eb,l⟩
 .subst ey
  obtain⟨z,hd,vs,rel,dd⟩:=lL I.UZ e
  refine QaH Qao dd.typeIs QbV (QfI _ _) (meets_dict_get (bM X.prog X.w) a (i6 ry) hd) ⟨_,dd.mapOf,h _ _ (I.tok _) ?_⟩
  rw[l]
  exact(rel.val k).getD rfl
 .subst ey
  cases (show u=U9 b from ry)
  obtain⟨z,hd,xs,rel,dd⟩:=mZ I.UZ e
  refine QaH Qao dd.typeIs QbV (QfI _ _) (meetsH_dict_get (Z7 (bM X.prog X.w)) a b hd) ⟨Qaz hu,k,xs,pC I.UZ eb,dd,h _ _ (I.tok _) ?_⟩
  rw[l]
  exact(rel.val k).getD rfl
theorem QiN (hu:A.units+1<VN) (I:Inv X aa σ H s) (g:bS H a y o) (ry:aA y u) (rd:aA d r) (h:∀ w' s',Inv X aa σ H s'→aA (o.getD d) w'→Q w' s') :
  L' (UV X.prog X.w) A (call (.builtin "dict.get") [.ref a,u,r]) Q E s:=by
 rcases g with⟨kvs,k,e,ey,l⟩|⟨kvs,k,b,e,ey,eb,l⟩
 .subst ey
  obtain⟨z,hd,vs,rel,dd⟩:=lL I.UZ e
  refine QaH Qao dd.typeIs QbV (QfH _ _ _) (meets_dict_get_default (bM X.prog X.w) a (i6 ry) hd r) ⟨_,dd.mapOf,h _ _ (I.tok _) ?_⟩
  rw[l]
  exact(rel.val k).getD rd
 .subst ey
  cases (show u=U9 b from ry)
  obtain⟨z,hd,xs,rel,dd⟩:=mZ I.UZ e
  refine QaH Qao dd.typeIs QbV (QfH _ _ _) (meetsH_dict_get_default (Z7 (bM X.prog X.w)) a b hd r) ⟨Qaz hu,k,xs,pC I.UZ eb,dd,h _ _ (I.tok _) ?_⟩
  rw[l]
  exact(rel.val k).getD rd
end
inductive LB (ty:TE) (σ:St) (Q:VK) (x:V) (H1:Hp):Prop
 | mk (a:_) (_:x=.ref a) (_:IsD H1 a) (_:ty σ H1 fun y H2=>∃ o,bS H2 a y o∧Q (o.getD .U8) H2)
def QiO (td ty:TE):TE:=fun σ H Q=>td σ H fun x H1=>LB ty σ Q x H1
inductive LC (ty tx:TE) (σ:St) (Q:VK) (x:V) (H1:Hp):Prop
 | mk (a:_) (_:x=.ref a) (_:IsD H1 a) (_:ty σ H1 fun y H2=>tx σ H2 fun z H3=>∃ o,bS H3 a y o∧Q (o.getD z) H3)
def QiP (td ty tx:TE):TE:=fun σ H Q=>td σ H fun x H1=>LC ty tx σ Q x H1
inductive ND (ty:TE) (σ:St) (Q:VK) (x:V) (H1:Hp):Prop
 | mk (a:_) (_:x=.ref a) (_:IsD H1 a) (_:ty σ H1 fun y H2=>∃ kvs k v,H2 a=i' (.dK kvs)∧y=kV k∧aS kvs k=i' v∧Q v (upd H2 a (.dK (iV kvs k))))
def QiQ (td ty:TE):TE:=fun σ H Q=>td σ H fun x H1=>ND ty σ Q x H1
section
variable {o f:Vh}{aL aE:VZ}{td ty tx:TE}
theorem LU (hu:X.A.units+1<VN) (ho:PE X o td) (he:PE X e ty) (m:M1 X o "get" aL e aE):PE X (.Call (.Attribute o "get" aL) [e] [] aE) (QiO td ty):=by
 intro aa s σ H Q I h
 refine Uf m.base m.WE m.line Qba Qao QfT (U6 (ho aa s σ H _ I h) fun u s1=>L2.Ve fun x H1 I1 rx aQ=>?_)
 obtain⟨a,ex,d,q1⟩:=aQ
 subst ex
 obtain rfl:u=U9 a:=rx
 obtain⟨t1,t2,_⟩:=BP I1 d
 refine⟨t1,t2,?_⟩
 rw[m.trees]
 refine Qbb O (Qb0 (ZT (U6 (he aa s1 σ H1 _ I1 q1) fun iv s2 ⟨y,H2,I2,ry,ov,g,q2⟩=>Qax ?_)))
 exact QiM hu I2 g ry fun w' s3 I3 dE=>⟨_,H2,I3,dE,q2⟩
theorem O6 (hu:X.A.units+1<VN) (ho:PE X o td) (he:PE X e ty) (hf:PE X f tx) (m:M2 X o "get" aL e f aE):PE X (.Call (.Attribute o "get" aL) [e,f] [] aE) (QiP td ty tx):=by
 intro aa s σ H Q I h
 refine Uf m.base m.WE m.line Qba Qao QfT (U6 (ho aa s σ H _ I h) fun u s1=>L2.Ve fun x H1 I1 rx aQ=>?_)
 obtain⟨a,ex,d,q1⟩:=aQ
 subst ex
 obtain rfl:u=U9 a:=rx
 obtain⟨t1,t2,_⟩:=BP I1 d
 refine⟨t1,t2,?_⟩
 rw[m.trees]
 refine Qbb O (Qb0 (ZT (U6 (he aa s1 σ H1 _ I1 q1) fun iv s2=>L2.Ve fun y H2 I2 ry q2=>
  ZT (U6 (hf aa s2 σ H2 _ I2 q2) fun fv s3 ⟨z,H3,I3,rz,ov,g,q3⟩=>Qax ?_))))
 exact QiN hu I3 g ry rz fun w' s4 I4 dE=>⟨_,H3,I4,dE,q3⟩
theorem O7 (ho:PE X o td) (he:PE X e ty) (m:M1 X o "pop" aL e aE):PE X (.Call (.Attribute o "pop" aL) [e] [] aE) (QiQ td ty):=by
 intro aa s σ H Q I h
 refine Uf m.base m.WE m.line Qba QfU PySem.F.type_dict_pop (U6 (ho aa s σ H _ I h) fun u s1=>L2.Ve fun x H1 I1 rx aQ=>?_)
 obtain⟨a,ex,d,q1⟩:=aQ
 subst ex
 obtain rfl:u=U9 a:=rx
 obtain⟨t1,t2,_⟩:=BP I1 d
 refine⟨t1,t2,?_⟩
 rw[m.trees]
 refine Qbb O (Qb0 (ZT (U6 (he aa s1 σ H1 _ I1 q1) fun iv s2 ⟨y,H2,I2,ry,kvs,k,v,ea,ey,l,q2⟩=>Qax ?_)))
 subst ey
 exact QiC I2 ea ry l (.inl O) fun w' s3 I3 dE=>⟨v,_,I3,dE,q2⟩
end
section
variable {kvs:List (Key×V)}
end
end L2
namespace Att
variable {P:Params}{h:Heap}{l:OpenLaw}{n:Nat}
open PySem PySem.W PySem.Calls PyProof.Rows
theorem LJ:∀ (ns:List Int) (vs:List K'),WellAll P h vs (ns.map Qhr)→Qbq vs ns:=by
 intro ns
 induction ns with
 | nil=>
  intro vs w
  rw[Qcm] at w
  cases w
  exact .nil
 | cons n ns ih=>
  intro vs w
  rw[Zp] at w
  cases w with
  | cons a b=>
   cases a
   exact .cons _ _ (ih _ b)
theorem Na (hn:l.most=i' n){args:List WData}{oy:List K'}
  (kQ:l.row.toRowW.claim.pre args=D') (cZ:WellAll P h oy args) :
  ∃ a vs ns,oy=[U9 a]∧args=[WData.list (ns.map Qhr)]∧h.get? a=i' {cls:=.type "list",data:=.seq vs.toArray}∧Qbq vs ns∧ns.length≤n:=by
 have Iw:WShape.hasAll [] args [.list .int]=D':=(pre_splitW kQ).1
 have hc:l.pre.holds [] {args:=args}=D':=(pre_splitW kQ).2
 obtain⟨d,r,rfl,h1,h2⟩:=hasAllW_cons Iw
 obtain rfl:=hasAllW_nil h2
 obtain⟨xs,rfl,h3⟩:=hasW_list h1
 obtain⟨ns,rfl⟩:=items_int h3
 have aq:ns.length≤n:=by
  unfold QcC.pre at hc
  have h4:(WTm.not (.lt (.lit (.int (n:Int))) (.len (.arg 0)))).holds [] {args:=[.list (ns.map .int)]}=D':=by
   have h4:=(holds_andW hc).1
   rw[hn] at h4
   exact h4
  have h5:=condW_of h4 (w_not (w_lt w_lit (w_len_list (w_arg O))))
  rw[U1] at h5
  refine Nat.le_of_not_lt fun q=>?_
  have q':(n:Int)<((ns.length:Nat):Int):=by lia
  first
   | (rw[decide_eq_true q'] at h5;exact U' h5 (by decide))
   | (simp at h5;lia)
 cases cZ with
 | cons w1 w2=>
  cases w2
  cases w1 with
  | list ho oH=>exact⟨_,_,ns,O,O,ho,LJ ns _ oH,aq⟩
theorem Q5 (l:QcC) (args:List WData):l.row.toRowW.claim.post args (.bool D') args=D':=
 postW_of (r:=l.row.toRowW) (X:=(D' == D'))
  (show Qg2 [] (.bool D') .bool=D' by first|rfl|decide|simp[Qg2,WShape.arms,WShape.armsAll])
  (show(WTm.eq .res (.lit (.bool D'))).value [] {args:=args,res:=i' (.bool D'),after:=args}=i' (.bool (D' == D')) from w_eq_bool (w_res O) w_lit) rfl
theorem ziE {q:Vy}{ej:List C'}{XP:(C'→Option K')→Vo→Prop}{YP:VL→Vo→Prop}{d:DefRec}
  (hn:l.most=i' n) (mh:d.params.defaults=[])
  (call:∀ (w:VL) (s₀ s₁:UW) (mg mb:C'→Option K') (fa:F') (o:Vd) (pm cd bP:K') (a:F') (vs:List K') (ns:List Int),
   Ground q ej [] XP w s₀ mg mb s₁.heap→YP w s₁.heap →
   s₁.heap.get? fa=i' o→o.data=.func (docDef d.name d.params d.body d.scope pm cd bP)→s₁.heap.CodeRec cd d.name→mg d.name=i' (.ref fa) →
   s₁.heap.get? a=i' {cls:=.type "list",data:=.seq vs.toArray}→Qbq vs ns→ns.length≤n→s₁.gens=#[] →
   Wp (UV l.prog w) Qaa (.call (.ref fa) ⟨[.ref a],[]⟩) (fun r s'=>r=.ok (.ret (.bool D'))∧OldK s₁.heap s'.heap∧s'.os=s₁.os∧Yz s'.gens) s₁) :
  WalkO q ej XP YP l.row.toRowW d [] (fun f vs=>Qd5 f vs):=by
 intro w s₀ s₁ mg mb G Y fa o pm cd bP dV kV ho hd gq hD tF hg args oy as kQ Io R3 cZ Rp
 obtain rfl:dV=.none:=Dflts.none hD mh
 obtain rfl:kV=.none:=Dflts.noKw hD
 obtain⟨a,vs,ns,rfl,rfl,ou,jI,aq⟩:=Na hn kQ cZ
 refine enter_call (Z2 (call w s₀ s₁ mg mb fa o pm cd bP a vs ns G Y ho (fd_plain hd) gq tF ou jI aq hg) fun r s' hq=>?_)
 obtain⟨rfl,h2,h3,h4⟩:=hq
 exact⟨.inl ⟨.bool D',.bool D',[],O,fun _=>O,.bool D',Q5 l _,fun _=>⟨Qmv,fun _ hm=>(nomatch hm)⟩⟩,h2,h3,h4⟩
section
variable {prog:Vy}{w:VL}{A:V2}{E:K'→UW→Prop}{s:UW}{K:R'}
end
end Att
namespace L2
variable {A:Around}{C D I S T Tt a c' d f fI i1 i2 it kS l l1 l2 z:Addr}{CX:XI}{E:Value→Shared→Prop}{H H' H1 H2 H₀:Hp}{M:Model}{N XN ej ps sn:List Str}{P:List Value→Prop}{Q:Option Value→Shared→Prop}{R:Result→Shared→Prop}{X:Cx}{a9 aE dR eI np p p2 pos Qag:Pos}{aH xs zs:List V}{aa:List (Addr×Obj)}{ag vs ys:Array Value}{b expr hdct kM:Bool}{base h h' h₁:Heap}{bm ds jH sub us:List Value}{body e gG iter tg value:Expr}{c e1 ep i j k1 k2 n nT nn t':Nat}{cap:List (Option Nat)}{cd ct fl head oc old pm res u v y:Value}{ch cs fp wr:List Addr}{dH sl:Array (Option Value)}{dd dx:Option Addr}{env:Env}{es g6:List Expr}{fd:FuncData}{fo o oI oe ol ox:Obj}{g:TG}{hs:List ExceptHandler}{key:V→Int}{kvs:List (Key×V)}{mg:Str→Option Value}{name qual x:Str}{newId:String}{ns:List Int}{od:Option Obj}{params:Arguments}{pl:W6 Bool}{prog q:Program}{r:List (Str×NameKind)}{s s' s₁:Shared}{scope:Scope}{sp:Sp}{st:Stmt}{t:Tok}{ta:TA}{tb:Option (Addr×Value)}{te tl ty:TE}{tt:TT}{w:World}{wi:TI}{σ σ' τ:St}
open PySem PySem.Spec PyProof.Rows
theorem GB:∀ {vs:List K'}{ns:List Int},Qbq vs ns→aB (ns.map V.int) vs
 | _,_,.nil=>.nil
 | _,_,.cons n t h=>.cons ⟨t,O⟩ (GB h)
def dZ (s:Vc) (j:Nat):Vc:=match s with
 | .ClassDef _ _ _ body _ _ _ _ _ _ _=>body.getD j (.Pass ⟨0,0,0,0⟩)
 | _=>.Pass ⟨0,0,0,0⟩
def pU (s:Vc):Qel:=match s with
 | .FunctionDef _ a _ _ _ _ _ _ _ _=>a
 | _=>{posonlyargs:=[],args:=[],vararg:=B',kwonlyargs:=[],kw_defaults:=[],kwarg:=B',defaults:=[]}
def jN (s:Vc):List Vc:=match s with
 | .FunctionDef _ _ b _ _ _ _ _ _ _=>b
 | _=>[]
def ay (s:Vc):WY:=match s with
 | .FunctionDef _ _ _ _ _ _ sc _ _ _=>sc
 | _=>{kind:=.function,names:=[],isGenerator:=M',isCoroutine:=M'}
abbrev Vp:XI:=fun _ _ _ _ _ _=>False
abbrev E0:XK:=fun _ _ _=>False
theorem uD:lW Vp X E0:=fun _ _ _ _ _ _ _ h=>h.elim
structure Fun (K:R') (x qual:C') (st:Vc) (f:F') (fd:XE):Prop where
 ex:∃ (oc:K') (od:Option F') (kV bP pm:K') (an:Option F') (aw ct:K') (dH:Array (Option K')),
  fd=YW x qual (pU st) (jN st) (ay st) .none kV bP pm an aw ct∧K.lookup f=i' ⟨oc,od,.func fd,dH⟩∧Yu K aw qual=D'
 kp:XC K (.ref f)=D'
section
variable {P:Vy}{K:R'}
end
theorem bw {k:Nat} (hr:bj k A):A.units+1<VN:=S6 (Nat.add_le_add_left (by decide:1≤64) _) hr.units
theorem pv (i:Nat) (hN:X.N[i]?=i' x:=by rfl) (hv:Vis X.env.scope x:=by first|exact UY rfl|exact UX (UY O)|exact UX (UX O)) (hd:(x == ("__debug__":C'))=M':=by decide)
  (gq:(x == ("__classdict__":C'))=M':=by decide):PE X (.Name x pos) (QcE i):=QhM hN hv hd gq
theorem Hw:fi X (.builtin "len") (fun xs H Q=>∃ a kvs,xs=[V.ref a]∧H a=i' (.dK kvs)∧Q (.int kvs.length) H):=by
 intro aa s σ H xs us Q I r h
 obtain⟨a,kvs,rfl,ha,q⟩:=h
 obtain⟨u,rfl,ru⟩:=eZ r
 cases ru
 exact QiD I (.inl ha) fun t s' I'=>⟨.int kvs.length,H,I',⟨t,O⟩,q⟩
theorem gC {A B:Prop} (h:B):if M'=D' then A else B:=by
 rw[U4 Sk]
 exact h
theorem cY {A B:Prop} (h:A):if D'=D' then A else B:=by
 rw[U3 rfl]
 exact h
def ae (H H':Hp):Prop:=∀ b o,H b=i' o→H' b=i' o
theorem ae.refl (H:Hp):ae H H:=fun _ _ h=>h
theorem ae.trans (a:ae H H1) (b:ae H1 H2):ae H H2:=fun c o h=>b c o (a c o h)
theorem ae.seq {K:R'} (e:ae H H') (h:P' K H a xs):P' K H' a xs:=by
 rcases h with(h|⟨o,h⟩)|h
 .exact .inl (.inl (e _ _ h))
 .exact .inl (.inr ⟨o,e _ _ h⟩)
 .exact .inr h
section
variable {κ:Type} [DecidableEq κ]
end
def d7 (cells:List (C'×F')):List (C'×XD)→List (C'×F')→List (C'×F')
 | [],acc=>acc
 | (n,k)::r,acc=>d7 cells r (if (k == WN)=D' then(n,(cells.lookup n).getD 0)::acc else acc)
theorem A6 (h:∀ y∈scope.names,y.2=.free→(env.cells.lookup y.1).isSome=D') :
  closureFor scope env=pure (d7 env.cells scope.names []):=by
 simp only[closureFor]
 generalize scope.names=l at h ⊢
 generalize ([]:List (C'×F'))=acc
 induction l generalizing acc with
 | nil=>rfl
 | cons x r ih=>
  obtain⟨n,k⟩:=x
  have hr:=fun y hy=>h y (Sw _ hy)
  by_cases hk:k=.free
  .subst hk
   obtain⟨c,hc⟩:=Yt.mp (h (n,.free) SJ O)
   have sT:=ih hr ((n,c)::acc)
   simp only[Tv,cellOf,hc,d7,ZY,Xi,Option.getD_some] at sT ⊢
   exact sT
  .have hb:(k == WN)=M':=by simpa using hk
   have sT:=ih hr acc
   simp only[Tv,d7,hb,SC,Wc] at sT ⊢
   exact sT
theorem uZ {cells:List (C'×F')}{x:C'}{c:F'}:∀ {l:List (C'×XD)}{acc:List (C'×F')},(∀ y∈l,y.2=.free→(cells.lookup y.1).isSome=D') →
  (d7 cells l acc).lookup x=i' c→acc.lookup x=i' c∨cells.lookup x=i' c
 | [],_,_,h=>.inl h
 | (n,k)::r,acc,hf,h=>by
  have hr:∀ y∈r,y.2=.free→(cells.lookup y.1).isSome=D':=fun y hy=>hf y (Sw _ hy)
  by_cases hk:k=.free
  .subst hk
   rcases uZ (l:=r) hr (show(d7 cells r ((n,(cells.lookup n).getD 0)::acc)).lookup x=i' c from h) with q|q
   .rw[Tf] at q
    by_cases hx:x=n
    .subst hx
     rw[ZY] at q
     obtain⟨c',hc⟩:=Yt.mp (hf (x,.free) SJ O)
     have hc:cells.lookup x=i' c':=hc
     rw[hc] at q ⊢
     exact .inr q
    .rw[Qay.mpr hx] at q
     exact .inl q
   .exact .inr q
  .have hb:¬ (k == WN)=D':=by simpa using hk
   have h':(d7 cells r (if (k == WN)=D' then(n,(cells.lookup n).getD 0)::acc else acc)).lookup x=i' c:=h
   rw[U4 hb] at h'
   exact uZ hr h'
theorem uk {cells:List (C'×F')}{x:C'}:∀ {l:List (C'×XD)}{acc:List (C'×F')},((x,WN)∈l∨(acc.lookup x).isSome=D')→((d7 cells l acc).lookup x).isSome=D'
 | [],_,h=>by
  rcases h with h|h
  .cases h
  .exact h
 | (n,k)::r,acc,h=>by
  show((d7 cells r (if (k == WN)=D' then(n,(cells.lookup n).getD 0)::acc else acc)).lookup x).isSome=D'
  refine uk ?_
  rcases h with h|h
  .rcases SS.mp h with e|e
   .cases e
    right
    rw[U3 (by rfl),Tf,ZY]
    rfl
   .exact .inl e
  .right
   by_cases hb:(k == WN)=D'
   .rw[U3 hb,Tf]
    cases hx:x == n with
    | true=>rfl
    | false=>exact h
   .rw[U4 hb]
    exact h
theorem Fn (c:Bool){n:C'}{k:XD} (hx:(x == n)=D'):((if c=D' then(n,XU) else(n,k))::r).lookup x=i' (if c=D' then .cell else k):=by
 cases c<;>simp[Tf,hx]
theorem GX (c:Bool){n:C'}{k:XD} (hx:(x == n)=M'):((if c=D' then(n,XU) else(n,k))::r).lookup x=r.lookup x:=by
 cases c<;>simp[Tf,hx]
theorem GT {env:Wh}:∀ {names:List (C'×XD)}{x:C'},names.lookup x=i' .free →
  (names.map fun(n,k)=>if (k == WN && env.scope.kind == .function && env.kindOf n == i' .cell) then(n,XU) else(n,k)).lookup x=i' .cell ∨
  (names.map fun(n,k)=>if (k == WN && env.scope.kind == .function && env.kindOf n == i' .cell) then(n,XU) else(n,k)).lookup x=i' .free
 | [],_,h=>by simp at h
 | (n,k)::r,x,h=>by
  have ih:=@GT env r x
  rw[Tf] at h
  rw[S9]
  cases hx:x == n with
  | true=>
   rw[hx] at h
   cases h
   dsimp only
   rw[Fn _ hx]
   cases (WN == WN && env.scope.kind == .function && env.kindOf n == i' .cell) with
   | true=>exact .inl rfl
   | false=>exact .inr rfl
  | false=>
   rw[hx] at h
   dsimp only
   rw[GX _ hx]
   exact ih h
theorem By {env:Wh}:∀ {names:List (C'×XD)}{x:C'}{k':XD},(k'=.cell∨k'=.free) →
  (names.map fun(n,k)=>if (k == WN && env.scope.kind == .function && env.kindOf n == i' .cell) then(n,XU) else(n,k)).lookup x=i' k' →
  ∃ k,(k=.free∨k=.cell)∧(x,k)∈names
 | [],_,_,_,h=>by simp at h
 | (n,k)::r,x,k',hk,h=>by
  have ih:=@By env r x k' hk
  rw[S9] at h
  dsimp only at h
  cases hx:x == n with
  | true=>
   have e:x=n:=eq_of_beq hx
   subst e
   rw[Fn _ hx] at h
   cases hc:(k == WN && env.scope.kind == .function && env.kindOf x == i' .cell) with
   | true=>
    simp only[Sv,WQ] at hc
    obtain⟨⟨rfl,_⟩,_⟩:=hc
    exact⟨.free,.inl O,SJ⟩
   | false=>
    rw[hc] at h
    have h:i' k=i' k':=h
    cases h
    rcases hk with rfl|rfl
    .exact⟨_,.inr O,SJ⟩
    .exact⟨_,.inl O,SJ⟩
  | false=>
   rw[GX _ hx] at h
   obtain⟨k2,h1,h2⟩:=ih h
   exact⟨k2,h1,Sw _ h2⟩
def iY (X:Cx) (scope:WY) (cl:List (C'×F')) (C:F') (N:List C') (s:UW) (H:Hp) (fp:List F') (aa:List (F'×Vd)):Cx:=
 {X with N:=N,s₀:=s,H₀:=H,env:=compEnvC scope cl C X.env,outer:=X.stack,stack:=X.stack,ex:=fp,fn:=fun _=>M',pn:=X.pn++aa,xe:=fun _ _=>False}
def iA (cap:List (Option Nat)) (σ:St):St:=cap.map fun o=>o.bind fun j=>(σ[j]?).join
def Qbw:Option XD→Bool
 | some .cell=>D'
 | some .free=>D'
 | _=>M'
def hU (sc:WY) (XN:List C'):List (Option Nat)→List C'→Bool
 | [],[]=>D'
 | some j::r,x::xs=>(XN[j]? == i' x) && (sc.names.lookup x == i' WN) && hU sc XN r xs
 | none::r,_::xs=>hU sc XN r xs
 | _,_=>M'
def eu (osc sc:WY) (XN N:List C') (cap:List (Option Nat)):Bool:=
 (sc.kind == ScopeKind.function) && sc.names.all (fun y=>y.2 != XU) && sc.names.all (fun y=>y.2 != XD.local || sc.names.lookup y.1 == i' XD.local) &&
 sc.names.all (fun y=>y.2 != WN || Qbw (osc.names.lookup y.1)) && hU sc XN cap N
theorem wB {sc:WY}{XN:List C'}:∀ {cap:List (Option Nat)}{N:List C'},hU sc XN cap N=D'→cap.length=N.length
 | [],[],_=>rfl
 | some _::r,_::xs,h=>by
  simp only[hU,Sv] at h
  simp[wB h.2]
 | none::r,_::xs,h=>by
  simp only[hU] at h
  simp[wB h]
 | [],_::_,h=>by simp[hU] at h
 | some _::_,[],h=>by simp[hU] at h
 | none::_,[],h=>by simp[hU] at h
theorem wR {sc:WY}{XN:List C'}:∀ {cap:List (Option Nat)}{N:List C'}{i j:Nat}{x:C'},hU sc XN cap N=D'→cap[i]?=i' (i' j)→N[i]?=i' x→XN[j]?=i' x∧sc.names.lookup x=i' .free
 | [],_,i,_,_,_,h,_=>by simp at h
 | some _::r,y::xs,0,j,x,h,h1,h2=>by
  simp only[hU,Sv,WQ] at h
  simp at h1 h2
  subst h1;subst h2
  exact⟨h.1.1,h.1.2⟩
 | some _::r,y::xs,i+1,j,x,h,h1,h2=>by
  simp only[hU,Sv] at h
  exact wR (i:=i) h.2 (by simpa using h1) (by simpa using h2)
 | none::r,y::xs,0,j,x,h,h1,h2=>by simp at h1
 | none::r,y::xs,i+1,j,x,h,h1,h2=>by
  simp only[hU] at h
  exact wR (i:=i) h (by simpa using h1) (by simpa using h2)
 | some _::_,[],_,_,_,h,_,_=>by simp[hU] at h
 | none::_,[],_,_,_,h,_,_=>by simp[hU] at h
theorem Inv.Qai (I:Inv X aa σ H s) (ok:eu X.env.scope scope X.N N cap=D'):∀ y∈scope.names,y.2=.free→(X.env.cells.lookup y.1).isSome=D':=fun y hy hf=>by
 simp only[eu,Sv,S7] at ok
 have h:=ok.1.2 y hy
 rw[hf] at h
 have h':Qbw (X.env.scope.names.lookup y.1)=D':=by simpa using h
 have hk:X.env.kindOf y.1=i' .cell∨X.env.kindOf y.1=i' .free:=by
  show X.env.scope.names.lookup y.1=_∨X.env.scope.names.lookup y.1=_
  cases e:X.env.scope.names.lookup y.1 with
  | none=>rw[e] at h';cases h'
  | some k=>
   rw[e] at h'
   cases k<;>first|exact .inl rfl|exact .inr rfl|cases h'
 obtain⟨c,e⟩:=I.ok.has y.1 hk
 rw[e]
 rfl
theorem Inv.comp (I:Inv X aa σ H s) (ok:eu X.env.scope scope X.N N cap=D') (f:∀ b∈fp,bI X aa H b) (fo:∀ b∈fp,∃ o,s.heap.get? b=i' o){tk:Nat}{Ie:Vd}
  (hn:h₁.Ns (s.heap.push {cls:=.type "list",data:=.seq #[]}).objs.size (fun _=>B'))
  (hs:Yb (s.heap.push {cls:=.type "list",data:=.seq #[]}).objs.size ((s.heap.push {cls:=.type "list",data:=.seq #[]}).push Ie) h₁) :
  Inv (iY X scope (d7 X.env.cells scope.names []) (s.heap.push {cls:=.type "list",data:=.seq #[]}).objs.size N {s with heap:=s.heap.push {cls:=.type "list",data:=.seq #[]} } (upd H s.heap.objs.size (.lst [])) fp aa)
   [] (iA cap σ) (upd H s.heap.objs.size (.lst [])) {s with heap:=h₁,toks:=tk}:=by
 have mB:=ok
 simp only[eu,Sv,S7,WQ] at ok
 obtain⟨⟨⟨⟨bv,bJ⟩,_⟩,_⟩,fQ⟩:=ok
 have cl:=I.Qai mB
 have hC:(s.heap.push {cls:=.type "list",data:=.seq #[]}).objs.size=s.heap.objs.size+1:=Su ..
 generalize Eh:(s.heap.push {cls:=.type "list",data:=.seq #[]}).objs.size=C at hn hs hC ⊢
 have below:∀ b o,s.heap.get? b=i' o→b≠C∧b≠s.heap.objs.size:=fun b o e=>by
  have:=Se e
  exact⟨by rw[hC];exact Sh (SM this),Sh this⟩
 have old:∀ b o,s.heap.get? b=i' o→h₁.get? b=i' o:=fun b o e=>hs.extBut b o (below b o e).1 (Sc _ (Sc _ e))
 have D8:∀ b o,s.heap.get? b=i' o→(s.heap.push {cls:=.type "list",data:=.seq #[]}).get? b=i' o:=fun b o e=>Sc _ e
 have tw:∀ b o,(s.heap.push {cls:=.type "list",data:=.seq #[]}).get? b=i' o→h₁.get? b=i' o:=fun b o e=>by
  have:b<C:=by rw[← Eh];exact Se e
  exact hs.extBut b o (Sh this) (Sc _ e)
 have hD:H s.heap.objs.size=B':=I.UZ.fresh (Sg _)
 have ir:∀ b o,s.heap.get? b=i' o→H b=B'→upd H s.heap.objs.size (.lst []) b=B':=fun b o e n=>by rw[aj (below b o e).2];exact n
 have J5:upd H s.heap.objs.size (.lst []) C=B':=by
  rw[aj (by rw[hC];exact SX (SY _))]
  exact I.UZ.fresh (by rw[hC];exact SH _)
 have aO:∀ x c,(d7 X.env.cells scope.names []).lookup x=i' c→X.env.cells.lookup x=i' c:=fun x c e=>by
  rcases uZ cl e with q|q
  .simp at q
  .exact q
 have mI:∀ x c,(d7 X.env.cells scope.names []).lookup x=i' c→∃ v o,s.heap.IsCell c v∧s.heap.get? c=i' o:=fun x c e=>by
  obtain⟨v,q⟩:=I.cell x c (aO x c e)
  obtain⟨o,ho,_⟩:=id q
  exact⟨v,o,q,ho⟩
 have yX:VH X.prog X.w (upd H s.heap.objs.size (.lst [])) h₁:=I.UZ.laid old (Sg _) (show cM X.prog X.w _ h₁ s.heap.objs.size (.lst []) from⟨Th _,[],0,.nil,tw _ _ (Sf _ O)⟩)
 have xQ:∀ b∈VR X.stack,∃ o,s.heap.get? b=i' o:=fun b hb=>by
  obtain⟨_,o,ho,_⟩:=I.stack.mem hb
  exact⟨o,ho⟩
 refine⟨⟨I.ok.mod,bv,I.ok.glob,I.ok.blt,TH Eh,fun y z c h1 h2=>I.ok.inj y z c (aO y c h1) (aO z c h2),fun y hy=>?_,fun y c hf _=>QgA hf,I.Y7.new hD,I.ok.frames,.inl O,fun b hb=>?_,
   fun b o e=>⟨D8 b o (I.bs b o e).1,ir b o (I.bs b o e).1 (I.bs b o e).2⟩,?_,fun b o e hb=>?_,fun b hb Ji=>?_,?_,fun b hb=>?_⟩,
  rfl,I.bare,Un.kept tw,⟨_,hn,fun i x v h1 h2 h3=>?_⟩,fun x c e=>?_,J5,fun x c e=>?_,fun p hp=>?_,yX,?_⟩
 ·-- has
  have hy:(relabel scope X.env).names.lookup y=i' .cell∨(relabel scope X.env).names.lookup y=i' .free:=hy
  have:(y,WN)∈scope.names:=by
   rcases hy with q|q
   .obtain⟨k,hk,hm⟩:=By (.inl O) q
    rcases hk with rfl|rfl
    .exact hm
    .exact U' (show(XU != XU)=D' from bJ _ hm) (by decide)
   .obtain⟨k,hk,hm⟩:=By (.inr O) q
    rcases hk with rfl|rfl
    .exact hm
    .exact U' (show(XU != XU)=D' from bJ _ hm) (by decide)
  exact Yt.mp (uk (.inl this))
 ·-- exf
  obtain⟨o,e⟩:=fo b hb
  exact⟨(below b o e).1,fun x c q=>(f b hb).2.2.2.2.1 x c (aO x c q)⟩
 ·-- XH
  show X.base.objs.size≤(s.heap.push {cls:=.type "list",data:=.seq #[]}).objs.size
  rw[Su]
  exact Qgz (SN I.ok.XH I.sz)
 ·-- Y6
  rcases(f b hb).2.2.2.1 with q|q
  .exact I.ok.Y6 b o e q
  .exact U' (Sj (Se (I.ok.bs b o e).1) q) (So _)
 ·-- Zz
  rcases SS.mp (I.Xw b Ji) with q|q
  .exact(f b hb).2.1 q
  .exact(f b hb).2.2.1 q
 ·-- W7
  exact I.stack.of_keeps fun b o e _=>⟨o,D8 b o e,O⟩
 ·-- Yg
  obtain⟨o,e⟩:=xQ b hb
  exact ir b o e (I.QaN b hb)
 ·-- loc
  have hi:∃ j,cap[i]?=i' (i' j)∧σ[j]?=i' (i' v):=by
   unfold iA at h2
   rw[Td] at h2
   cases e:cap[i]? with
   | none=>rw[e] at h2;cases h2
   | some o=>
    rw[e] at h2
    cases o with
    | none=>cases h2
    | some j=>
     refine⟨j,O,?_⟩
     have fk:(σ[j]?).join=i' v:=VQ h2
     cases e2:σ[j]? with
     | none=>rw[e2] at fk;cases fk
     | some o2=>rw[e2] at fk;rw[show o2=i' v from fk]
  obtain⟨j,hj,hv⟩:=hi
  obtain⟨hX,nW⟩:=wR fQ hj h1
  have jA:(x,WN)∈scope.names:=YO nW
  have tT:=mB
  simp only[eu,Sv,S7] at tT
  have h':Qbw (X.env.scope.names.lookup x)=D':=by simpa using tT.1.2 _ jA
  have hk:X.env.scope.names.lookup x=i' .cell∨X.env.scope.names.lookup x=i' .free:=by
   cases e:X.env.scope.names.lookup x with
   | none=>rw[e] at h';cases h'
   | some k=>
    rw[e] at h'
    cases k<;>first|exact .inl rfl|exact .inr rfl|cases h'
  obtain⟨m,_,hl⟩:=I.loc
  obtain⟨u,ru,lk⟩:=hl j x v hX hv (hk.elim (fun q=>.inr (.inl q)) fun q=>.inr (.inr q))
  refine⟨u,ru,.inr ⟨GT nW,?_⟩⟩
  rcases lk with⟨q,_⟩|⟨_,c,hc,oE⟩
  .have q':X.env.scope.names.lookup x=i' .local:=q
   rcases hk with z|z
   .rw[z] at q';cases q'
   .rw[z] at q';cases q'
  .obtain⟨c',iF⟩:=Yt.mp (uk (cells:=X.env.cells) (acc:=[]) (.inl jA))
   have:c'=c:=by
    have:=aO x c' iF
    rw[hc] at this
    exact(VQ this).symm
   subst this
   obtain⟨o,ho,hd⟩:=oE
   exact⟨c',iF,o,old c' o ho,hd⟩
 ·-- cell
  obtain⟨v,o,⟨o',ho,hd⟩,_⟩:=mI x c e
  exact⟨v,o',old c o' ho,hd⟩
 ·-- Wx
  obtain⟨v,o,_,ho⟩:=mI x c e
  exact ir c o ho (I.Wx x c (aO x c e))
 ·-- aa
  have JN:p∈X.pn++aa:=by simpa [iY] using hp
  obtain⟨e,n,ne,nf,d⟩:=I.pin p JN
  refine⟨old _ _ e,ir _ _ e n,(below _ _ e).1,fun z=>?_,d⟩
  rcases SS.mp (I.Xw p.1 z) with q|q
  .exact ne q
  .exact nf q
 ·-- len
  show(iA cap σ).length=N.length
  unfold iA
  rw[Ss]
  exact wB fQ
theorem MC {cK:Vh}{it acc:K'} (J:Nat→UW→Prop)
  (gP:∀ n s,J n s→L' (UV prog w) A (VB it) (fun r s₁=>match r with
   | none=>R (.ok .next) s₁
   | some v=>L' (UV prog w) A (Qch cK it v) (fun _ s₂=>L' (UV prog w) A (Yf cK env v) (fun _ s₃=>
     L' (UV prog w) A (forIn g6 D' fun c r=>if r=D' then do let ok ← QaL c env (Vg c env);pure (Qb3 ok) else pure (Qb3 r)) (fun ok s₄=>
      if ok=D' then L' (UV prog w) A (Vg gG env) (fun x s₅=>
       L' (UV prog w) A (call (.builtin "list.append") [acc,x]) (fun _ s₆=>∃ m,m<n∧J m s₆) (fun _ _=>False) s₅) (fun _ _=>False) s₄
      else ∃ m,m<n∧J m s₄) (fun _ _=>False) s₃) (fun _ _=>False) s₂) (fun _ _=>False) s₁) (fun _ _=>False) s)
  (n:Nat) (h:J n s):Wp (UV prog w) A (.compLoop (.ListComp gG [⟨cK,iter,g6,0⟩] scope pos) 0 it acc env) R s:=by
 have no:∀ {E:K'→UW→Prop} (e:K') (s':UW),(fun(_:K') (_:UW)=>False) e s'→E e s':=fun _ _ z=>z.elim
 refine codeAny_loop O J (fun n s hI=>?_) n h
 show L' _ A ((compTurn (.ListComp gG [⟨cK,iter,g6,0⟩] scope pos) 0 it acc env).onRaise (fun x=>do Qcv x env;theTreesLotGoes x)) _ _ s
 refine wpAny_noted ?_
 rw[compTurn_list]
 refine oG (TD (oG (SE (gP n s hI) (fun r s₁ h₁=>?_) no)))
 cases r with
 | none=>exact Sd h₁
 | some v=>
  refine oG (SE h₁ (fun _ s₂ h₂=>oG (SE h₂ (fun _ s₃ h₃=>oG (SE h₃ (fun ok s₄ h₄=>?_) no)) no)) no)
  cases ok with
  | false=>exact Sd ⟨O,h₄⟩
  | true=>
   exact oG (oG (SE h₄ (fun x s₅ h₅=>oG (SE h₅ (fun _ s₆ h₆=>Sd (Sd ⟨O,h₆⟩)) no)) no))
def PIf (X:Cx) (cs:List Vh) (t:TT):Prop:=
 ∀ (aa:List (F'×Vd)) (s:UW) (σ:St) (H:Hp) (Q:Bool→Hp→Prop),Inv X aa σ H s→t σ H Q →
  L' (UV X.prog X.w) X.A (forIn cs D' fun c r=>if r=D' then do let ok ← QaL c X.env (Vg c X.env);pure (Qb3 ok) else pure (Qb3 r)) (TP X aa σ Q) X.xe s
def cX:TT:=fun _ H Q=>Q D' H
theorem cH:PIf X [] cX:=fun _ _ _ H _ I h=>wpAny_tests_nil ⟨H,I,h⟩
theorem uM {c:Vh}{t:TT} (h:PT X c t):PIf X [c] t:=fun aa s σ H Q I hq=>wpAny_tests_one (h aa s σ H Q I hq)
def kL (J:It) (D:F') (τ:St) (H:Hp) (g:TG) (tt:TT) (te:TE) (Q:VK):Prop:=
 ∃ W:Nat→Nat→St→Hp→Prop,(∃ m,W 0 m τ H)∧∀ i m τ H,W i m τ H →
  (J.stop i H∧Q (.ref D) H)∨(J.go i H∧∃ M:St→Hp→Prop,(∀ τ' H',M τ' H'→∃ m',m'<m∧W (i+1) m' τ' H')∧∀ x H',J.yld i H x H'→g x τ H' fun τ2 H2=>tt τ2 H2 fun b H3=>
   if b=D' then te τ2 H3 fun y H4=>∃ ys,H4 D=i' (.lst ys)∧ys.length<U2∧M τ2 (upd H4 D (.lst (ys++[y]))) else M τ2 H3)
def QeD (wi:TI) (cap:List (Option Nat)) (g:TG) (tt:TT) (te:TE):TE:=fun σ H Q=>wi σ H fun J H1=>∀ D,H1 D=B'→kL J D (iA cap σ) (upd H1 D (.lst [])) g tt te Q
theorem Fm {J:It}{tn:Nat→Vo→Prop}{Q:VK}{RR:K'→F'→Result→UW→Prop}
  (hc:X.calm=D') (ok:eu X.env.scope scope X.N N cap=D')
  (hg:∀ cl C s H fp aa,PG (iY X scope cl C N s H fp aa) tg g) (hf:∀ cl C s H fp aa,PIf (iY X scope cl C N s H fp aa) g6 tt) (he:∀ cl C s H fp aa,PE (iY X scope cl C N s H fp aa) gG te)
  (I:Inv X aa σ H s) (T:nF X.prog X.w X.K tg J fp it tn) (st:tn 0 s.heap) (f:∀ b∈fp,bI X aa H b)
  (q:∀ D,H D=B'→kL J D (iA cap σ) (upd H D (.lst [])) g tt te Q)
  (aG:∀ D C H' s' m,Inv X aa σ H' s'→bI X aa H' C→s'.heap.Ns C m→Q (.ref D) H'→RR (.ref D) C (.ok .next) s') :
  L' (UV X.prog X.w) X.A (newList []) (fun acc s₃=>L' (UV X.prog X.w) X.A (newFunctionEnv scope X.env.globals (d7 X.env.cells scope.names []) [] X.env.qual B' .none (i' X.env)) (fun tP s₄=>
   Wp (UV X.prog X.w) X.A (.compStart (.ListComp gG [⟨tg,iter,g6,0⟩] scope pos) 0 (.ref it) acc {tP with scope:=relabel scope X.env}) (RR acc tP.locals) s₄) E s₃) E s:=by
 have mi:=ok
 simp only[eu,Sv,S7,WQ] at mi
 obtain⟨⟨⟨⟨bv,bJ⟩,_⟩,_⟩,fQ⟩:=mi
 refine To (UE (fun y hy=>by simpa using bJ y hy) (by intro y hy;simp at hy) (fun h₁ sk oZ=>?_) bv)
 dsimp only at sk oZ ⊢
 have fo:∀ b∈fp,∃ o,s.heap.get? b=i' o:=fun b hb=>let ⟨o,e,_⟩:=T.obj _ _ st b hb;⟨o,e⟩
 have J0:=I.comp (h₁:=h₁) (tk:=s.toks+([]:List (C'×K')).length) ok f fo sk oZ
 have jF:H s.heap.objs.size=B':=I.UZ.fresh (Sg _)
 obtain⟨W,⟨m0,w0⟩,gP⟩:=q _ jF
 generalize hY:iY X scope (d7 X.env.cells scope.names []) (s.heap.push {cls:=.type "list",data:=.seq #[]}).objs.size N {s with heap:=s.heap.push {cls:=.type "list",data:=.seq #[]} } (upd H s.heap.objs.size (.lst [])) fp aa=Y at J0
 have below:∀ b∈fp,b<s.heap.objs.size:=fun b hb=>let ⟨o,e⟩:=fo b hb;Se e
 have cl:=I.Qai ok
 have gM:∀ {H':Hp},(∀ b∈fp,H' b=B')→∀ b∈fp,bI Y [] H' b:=fun {H'} hn b hb=>by
  subst hY
  refine⟨hn b hb,?_,fun z=>?_,.inl hb,fun x c e=>?_,fun p hp=>?_⟩
  .show b≠(s.heap.push {cls:=.type "list",data:=.seq #[]}).objs.size
   rw[Su]
   exact Sh (SM (below b hb))
  .rcases SS.mp (I.Xw b z) with q|q
   .exact(f b hb).2.1 q
   .exact(f b hb).2.2.1 q
  .refine(f b hb).2.2.2.2.1 x c ?_
   rcases uZ cl e with z|z
   .simp at z
   .exact z
  .exact(f b hb).2.2.2.2.2 p (by simpa [iY] using hp)
 have Jm:PG Y tg g:=hY ▸ hg _ _ _ _ _ _
 have Jo:PIf Y g6 tt:=hY ▸ hf _ _ _ _ _ _
 have Jc:PE Y gG te:=hY ▸ he _ _ _ _ _ _
 have e1:Y.prog=X.prog:=by subst hY;rfl
 have e2:Y.w=X.w:=by subst hY;rfl
 have e3:Y.K=X.K:=by subst hY;rfl
 have e4:Y.calm=D':=by subst hY;exact hc
 have e5:Y.A=X.A:=by subst hY;rfl
 have e6:Y.env=compEnvC scope (d7 X.env.cells scope.names []) (s.heap.push {cls:=.type "list",data:=.seq #[]}).objs.size X.env:=by subst hY;rfl
 have e7:Y.xe=fun _ _=>False:=by subst hY;rfl
 have zt:∀ b∈fp,upd H s.heap.objs.size (.lst []) b=B':=fun b hb=>by rw[aj (Sh (below b hb))];exact(f b hb).1
 have jd:tn 0 h₁:=T.keep _ _ _ st fun b hb o e=>oZ.extBut b o (by
  have:=below b hb
  rw[Su]
  exact Sh (SM this)) (Sc _ (Sc _ e))
 have loop:∀ s₃:UW,s₃={s with heap:=h₁,toks:=s.toks+([]:List (C'×K')).length} →
   Wp (UV X.prog X.w) X.A (.compLoop (.ListComp gG [⟨tg,iter,g6,0⟩] scope pos) 0 (.ref it) (.ref s.heap.objs.size)
    (compEnvC scope (d7 X.env.cells scope.names []) (s.heap.push {cls:=.type "list",data:=.seq #[]}).objs.size X.env)) (RR (.ref s.heap.objs.size) (s.heap.push {cls:=.type "list",data:=.seq #[]}).objs.size) s₃:=by
  rintro s₃ rfl
  refine MC (fun n s'=>∃ i τ H',Inv Y [] τ H' s'∧tn i s'.heap∧(∀ b∈fp,H' b=B')∧W i n τ H') ?_ m0 ⟨0,_,_,J0,jd,zt,w0⟩
  rintro n s' ⟨i,τ,H',I',ic,sO,w'⟩
  rcases gP i n τ H' w' with⟨stop,qn⟩|⟨go,M,hM,step⟩
  .have z:=T.done Y e1 e2 e3 e4 i [] s' τ H' (fun _ _=>False) I' (gM sO) ic stop
   rw[e5] at z
   refine U6 z fun r s4 ⟨hr,I4⟩=>?_
   subst hr
   subst hY
   obtain⟨m,qi,_⟩:=I4.loc
   have ho:s4.os=s.os:=I4.os
   have un:Un (VR X.stack) fp H H' s.heap s4.heap:=by
    have u1:Un (VR X.stack) fp H (upd H s.heap.objs.size (.lst [])) s.heap (s.heap.push {cls:=.type "list",data:=.seq #[]}):=Un.laid (fun b u e=>Sc _ e) (Sg _) jF
    exact u1.trans I4.base
   have IX:Inv X aa σ H' s4:=I.Qen ho un I4.UZ I4.bare fun b hb=>⟨(f b hb).2.2.2.1,(f b hb).2.1,(f b hb).2.2.2.2.1,(f b hb).2.2.2.2.2⟩
   exact aG _ _ H' s4 m IX (I.Xk (by rw[Su];exact SH _) I4.free) qi qn
  .have z:=T.item Y e1 e2 e3 e4 i [] s' τ H' (fun _ _=>False) I' (gM sO) ic go
   rw[e5] at z
   refine U6 z fun r s4 ⟨u,hr,h4⟩=>?_
   subst hr
   refine U6 h4 fun _ s5=>L2.Ve fun x H5 I5 r5 aQ=>?_
   obtain⟨y5,fP,zP⟩:=aQ
   have xR:=I5.pinned (gM zP) (T.obj _ _ fP)
   have zg:=Jm _ s5 τ H5 x u _ xR r5 (step x H5 y5)
   rw[e1,e2,e5,e6,e7] at zg
   refine U6 zg fun _ s6 ⟨τ6,H6,I6,q6⟩=>?_
   have zf:=Jo _ s6 τ6 H6 _ I6 q6
   rw[e1,e2,e5,e6,e7] at zf
   refine U6 zf fun b s7=>L2.Xu fun H7 I7 q7=>?_
   have again:∀ {H8:Hp}{s8:UW},Inv Y ([]++ut fp s5.heap) τ6 H8 s8→M τ6 H8→∃ m,m<n∧∃ i τ H',Inv Y [] τ H' s8∧tn i s8.heap∧(∀ b∈fp,H' b=B')∧W i m τ H':=fun {H8 s8} I8 w8=>by
    obtain⟨m',hm,w8⟩:=hM _ _ w8
    refine⟨m',hm,i+1,τ6,H8,I8.Qbs,T.keep _ _ _ fP fun b hb o e=>(I8.pin (b,o) (Sl _ (Sl _ (ww hb e)))).1,fun b hb=>?_,w8⟩
    obtain⟨o,e,d⟩:=T.obj _ _ fP b hb
    exact(I8.pin (b,o) (Sl _ (Sl _ (ww hb e)))).2.1
   cases b with
   | false=>exact again I7 q7
   | true=>
    have ze:=Jc _ s7 τ6 H7 _ I7 q7
    rw[e1,e2,e5,e6,e7] at ze
    refine U6 ze fun v s8=>L2.Ve fun y H8 I8 r8 aQ=>?_
    obtain⟨ys,hD,hz,q8⟩:=aQ
    have za:=jo (X:=Y) _ s8 τ6 H8 (.ref s.heap.objs.size) [y] (.ref s.heap.objs.size) [v] (fun _ H9=>H9=upd H8 s.heap.objs.size (.lst (ys++[y]))) I8 O (.cons r8 .nil) ⟨_,ys,y,O,O,hD,hz,O⟩
    rw[e1,e2,e5,e7] at za
    refine U6 za fun _ s9 ⟨_,H9,I9,_,e9⟩=>?_
    subst e9
    exact again I9 q8
 exact codeAny_compStart_list (loop _ O) (T.self X.A 0 _ _ _ jd (loop _ O))
theorem bN {osc:WY} (h1:X.env.scope=osc) (h2:X.N=XN) (ok:eu osc scope XN N cap=D'):eu X.env.scope scope X.N N cap=D':=by
 rw[h1,h2]
 exact ok
theorem cN (hc:X.calm=D') (ok:eu X.env.scope scope X.N N cap=D') (hi:PI X tg iter wi)
  (hg:∀ cl C s H fp aa,PG (iY X scope cl C N s H fp aa) tg g) (hf:∀ cl C s H fp aa,PIf (iY X scope cl C N s H fp aa) g6 tt) (he:∀ cl C s H fp aa,PE (iY X scope cl C N s H fp aa) gG te)
  (hs:∀ x,QdO iter X.env x=pure x:=by intro _;rfl):PE X (.ListComp gG [⟨tg,iter,g6,0⟩] scope pos) (QeD wi cap g tt te):=by
 intro aa s σ H Q I h
 have mi:=ok
 simp only[eu,Sv,S7,WQ] at mi
 obtain⟨⟨⟨⟨bv,_⟩,gW⟩,_⟩,_⟩:=mi
 rw[eval_ListComp]
 refine Uk (use:=B') O hs (A6 (I.Qai ok)) bv (fun y hy hl=>by simpa [hl] using gW y hy) (U6 (hi aa s σ H _ I h) fun xv s1 h1=>U6 h1 fun vD s2 h2=>?_)
 obtain⟨it,fp,tn,J,H2,e,I2,T,i8,f2,q⟩:=h2
 subst e
 refine Fm (RR:=fun acc C=>compPost (UV X.prog X.w) X.A X.xe B' (EP X aa σ Q) acc C) hc ok hg hf he I2 T i8 f2 q ?_
 intro D C H' s' m I' fC hn qn
 obtain⟨f0,f1,Ko,f3,f4,f5⟩:=fC
 exact⟨m,hn,fun h' sb=>⟨.ref D,H',I'.turned (t':=s'.toks) (fun b o hb e=>sb.extBut b o hb e) f0 f1 f3 f4 f5,O,qn⟩⟩
theorem rD {tZ:VZ} (hN:X.N.Nodup) (IR:X.N[i]?=i' x) (hx:X.env.scope.names.lookup x=i' .local) (hc:X.calm=D') (ok:eu X.env.scope scope X.N N cap=D') (hi:PI X tg iter wi)
  (hg:∀ cl C s H fp aa,PG (iY X scope cl C N s H fp aa) tg g) (hf:∀ cl C s H fp aa,PIf (iY X scope cl C N s H fp aa) g6 tt) (he:∀ cl C s H fp aa,PE (iY X scope cl C N s H fp aa) gG te)
  (hsw:Z8 (.ListComp gG [⟨tg,iter,g6,0⟩] scope pos) (i' (.Name x a9)) tZ.line X.env=pure D')
  (hs:∀ x,QdO iter X.env x=pure x:=by intro _;rfl) :
  PS X (.Assign [.Name x a9] (.ListComp gG [⟨tg,iter,g6,0⟩] scope pos) tZ) (QaQ (QeD wi cap g tt te) (bE i)):=by
 intro aa s σ H D I h
 have mi:=ok
 simp only[eu,Sv,S7,WQ] at mi
 obtain⟨⟨⟨⟨bv,_⟩,gW⟩,_⟩,_⟩:=mi
 rw[exec_Assign_Name_used _ _ _ _ hsw]
 refine oG (TD (oG ?_))
 show L' _ X.A (do let _ ← comprehension (.ListComp gG [⟨tg,iter,g6,0⟩] scope pos) scope X.env _ (newList []) M' (Vg iter X.env) (i' (Yf (.Name x a9) X.env))) _ _ s
 refine oG (SE (Uk (use:=i' (Yf (.Name x a9) X.env)) (Q:=fun _ s'=>SP X aa D .next s') O hs (A6 (I.Qai ok)) bv (fun y hy hl=>by simpa [hl] using gW y hy)
  (U6 (hi aa s σ H _ I h) fun xv s1 h1=>U6 h1 fun vD s2 h2=>?_)) (fun _ s' hq=>Sd (Sd hq)) fun _ _ e=>e)
 obtain⟨it,fp,tn,J,H2,e,I2,T,i8,f2,q⟩:=h2
 subst e
 refine Fm (RR:=fun acc C=>compPost (UV X.prog X.w) X.A X.xe (i' (Yf (.Name x a9) X.env)) (fun _ s'=>SP X aa D .next s') acc C) hc ok hg hf he I2 T i8 f2 q ?_
 intro Dd C H' s' m I' fC hn qn
 obtain⟨f0,f1,Ko,f3,f4,f5⟩:=fC
 show L' _ X.A (Yf (.Name x a9) X.env (.ref Dd)) _ _ _
 refine UN (GZ I' hN IR (.inl hx) (v:=.ref Dd) O (fun s3 I3 ⟨a,sb,ha⟩=>?_) (.inr hx))
 have Jw:C≠a:=by
  rcases ha with z|z
  .rw[z];exact f1
  .exact fun w=>f4 x a z w.symm
 refine⟨m,hn.sameBut sb Jw,fun h' Kh=>?_⟩
 exact⟨_,H',I3.turned (t':=s3.toks) (fun b o hb e=>Kh.extBut b o hb e) f0 f1 f3 f4 f5,qn⟩
theorem dv {K:R'}{Q:VK} (Pv:Nat→St→Hp→Prop) (h0:Pv 0 τ H) (hl:∀ i τ H,i≤xs.length→Pv i τ H→P' K H a xs)
  (hs:∀ i x τ H,xs[i]?=i' x→Pv i τ H→g x τ H fun τ2 H2=>tt τ2 H2 fun b H3=>
   if b=D' then te τ2 H3 fun y H4=>∃ ys,H4 D=i' (.lst ys)∧ys.length<U2∧Pv (i+1) τ2 (upd H4 D (.lst (ys++[y]))) else Pv (i+1) τ2 H3)
  (hd:∀ τ H,Pv xs.length τ H→Q (.ref D) H):kL (Itl K a) D τ H g tt te Q:=
 Yh (n:=xs.length) Pv h0 (fun i σ H hi p=>⟨fun h=>⟨xs,xs[i],hl i σ H hi p,by simp[h]⟩,fun h=>⟨xs,hl i σ H hi p,h⟩⟩) (fun i x σ H H' hi p y=>by
 obtain⟨rfl,y⟩:=y
 exact hs i x σ _ (y xs (hl i σ _ (S1 hi) p)) p) hd
theorem LP {lo:Int}{Q:VK} (Pv:Nat→St→Hp→Prop) (h0:Pv 0 τ H)
  (hs:∀ i τ H,i<n→Pv i τ H→g (.int (lo+i)) τ H fun τ2 H2=>tt τ2 H2 fun b H3=>
   if b=D' then te τ2 H3 fun y H4=>∃ ys,H4 D=i' (.lst ys)∧ys.length<U2∧Pv (i+1) τ2 (upd H4 D (.lst (ys++[y]))) else Pv (i+1) τ2 H3)
  (hd:∀ τ H,Pv n τ H→Q (.ref D) H):kL (Itr lo n) D τ H g tt te Q:=
 Yh (n:=n) Pv h0 (fun _ _ _ _ _=>⟨id,id⟩) (fun i x σ H H' hi p y=>by
 obtain⟨rfl,rfl⟩:=y
 exact hs i σ _ hi p) hd
section
open PySem.SeqAt
inductive Dt where
 | U8 | bl (b:Bool) | int (i:Int) | str (x:C') | lst (xs:List Dt) | tup (xs:List Dt)
mutual
def VW (K:R') (H:Hp):Dt→V→Prop
 | .U8,x=>x=.U8
 | .bl b,x=>x=.bl b
 | .int i,x=>x=.int i
 | .str z,x=>x=.str z
 | .lst ds,x=>∃ a xs,x=.ref a∧P' K H a xs∧a8 K H ds xs
 | .tup ds,x=>∃ a xs,x=.ref a∧Vi K H a xs∧a8 K H ds xs
def a8 (K:R') (H:Hp):List Dt→List V→Prop
 | [],xs=>xs=[]
 | d::ds,xs=>∃ y ys,xs=y::ys∧VW K H d y∧a8 K H ds ys
end
mutual
def ma:Nat→Dt→Prop
 | n+1,.lst ds=>ft n ds
 | n+1,.tup ds=>ft n ds
 | 0,.lst _=>False
 | 0,.tup _=>False
 | _,.U8=>True
 | _,.bl _=>True
 | _,.int _=>True
 | _,.str _=>True
def ft:Nat→List Dt→Prop
 | _,[]=>True
 | n,d::ds=>ma n d∧ft n ds
end
mutual
def Wj:Dt→Dt→Bool
 | .U8,.U8=>D'
 | .bl a,.bl b=>a == b
 | .bl a,.int b=>(if a then 1 else 0) == b
 | .int a,.bl b=>a == (if b then 1 else 0)
 | .int a,.int b=>a == b
 | .str a,.str b=>a == b
 | .lst xs,.lst ys=>fz xs ys
 | .tup xs,.tup ys=>fz xs ys
 | _,_=>M'
def fz:List Dt→List Dt→Bool
 | [],[]=>D'
 | x::xs,y::ys=>Wj x y && fz xs ys
 | _,_=>M'
end
mutual
theorem Ay:∀ d:Dt,Wj d d=D'
 | .U8=>rfl
 | .bl b=>by simp[Wj]
 | .int i=>by simp[Wj]
 | .str x=>by simp[Wj]
 | .lst xs=>by
  rw[Wj]
  exact uy xs
 | .tup xs=>by
  rw[Wj]
  exact uy xs
theorem uy:∀ ds:List Dt,fz ds ds=D'
 | []=>rfl
 | d::ds=>by rw[fz,Ay d,uy ds];rfl
end
theorem a8.length {K:R'}{H:Hp}:∀ {ds:List Dt}{xs:List V},a8 K H ds xs→ds.length=xs.length
 | [],xs,h=>by
  have e:xs=[]:=h
  subst e
  rfl
 | d::ds,xs,h=>by
  obtain⟨y,ys,e,_,h2⟩:=h
  subst e
  simp[a8.length h2]
theorem a8.get {K:R'}{H:Hp}:∀ {ds:List Dt}{xs:List V}{j:Nat}{d:Dt},a8 K H ds xs→ds[j]?=i' d→∃ x,xs[j]?=i' x∧VW K H d x
 | [],_,_,_,_,e=>by simp at e
 | d::ds,xs,j,d',h,e=>by
  obtain⟨y,ys,e2,h1,h2⟩:=h
  subst e2
  cases j with
  | zero=>
   simp at e
   subst e
   exact⟨y,O,h1⟩
  | succ j=>
   obtain⟨x,hx,hd⟩:=a8.get (j:=j) h2 (by simpa using e)
   exact⟨x,by simpa using hx,hd⟩
theorem a8.snoc {K:R'}{H:Hp}{d:Dt}{x:V} (hd:VW K H d x):∀ {ds:List Dt}{xs:List V},a8 K H ds xs→a8 K H (ds++[d]) (xs++[x])
 | [],xs,h=>by
  have e:xs=[]:=h
  subst e
  exact⟨x,[],O,hd,O⟩
 | e::ds,xs,h=>by
  obtain⟨y,ys,e2,h1,h2⟩:=h
  subst e2
  exact⟨y,ys++[x],O,h1,h2.snoc hd⟩
theorem ft.get {n:Nat}:∀ {ds:List Dt}{j:Nat}{d:Dt},ft n ds→ds[j]?=i' d→ma n d
 | [],_,_,_,e=>by simp at e
 | d::ds,j,d',h,e=>by
  cases j with
  | zero=>
   simp at e
   subst e
   exact h.1
  | succ j=>exact ft.get (j:=j) h.2 (by simpa using e)
theorem ft.of {n:Nat}:∀ {ds:List Dt},(∀ d∈ds,ma n d)→ft n ds
 | [],_=>trivial
 | d::ds,h=>⟨h d SJ,ft.of fun e he=>h e (Sw _ he)⟩
theorem ae.V3 {K:R'} (e:ae H H') (h:P' K H a xs):P' K H' a xs:=e.seq h
theorem ae.V7 {K:R'} (e:ae H H') (h:Vi K H a xs):Vi K H' a xs:=by
 rcases h with(h|⟨o,h⟩)|h
 .exact .inl (.inl (e _ _ h))
 .exact .inl (.inr ⟨o,e _ _ h⟩)
 .exact .inr h
mutual
theorem ae.dt {K:R'}{H H':Hp} (e:ae H H'):∀ {d:Dt}{x:V},VW K H d x→VW K H' d x
 | .U8,_,h=>h
 | .bl _,_,h=>h
 | .int _,_,h=>h
 | .str _,_,h=>h
 | .lst ds,_,h=>by
  obtain⟨a,xs,e1,h1,h2⟩:=h
  exact⟨a,xs,e1,e.V3 h1,e.Vs h2⟩
 | .tup ds,_,h=>by
  obtain⟨a,xs,e1,h1,h2⟩:=h
  exact⟨a,xs,e1,e.V7 h1,e.Vs h2⟩
theorem ae.Vs {K:R'}{H H':Hp} (e:ae H H'):∀ {ds:List Dt}{xs:List V},a8 K H ds xs→a8 K H' ds xs
 | [],_,h=>h
 | d::ds,_,h=>by
  obtain⟨y,ys,e1,h1,h2⟩:=h
  exact⟨y,ys,e1,e.dt h1,e.Vs h2⟩
end
theorem ae.new {p:F'}{o:HO} (h:H p=B'):ae H (upd H p o):=fun b u e=>by
 rw[aj (ao e h)]
 exact e
theorem Inv.QeE (I:Inv X aa σ H s){ys:List V} (h:P' X.K H a xs) (h':Vi X.K H a ys):False:=by
 obtain⟨ag,_,pl,_⟩:=I.list h
 obtain⟨its',_,pt,_⟩:=I.tuple h'
 obtain⟨o,n,e,c,_⟩:=pl
 obtain⟨o',e',c',_⟩:=pt
 rw[e] at e'
 cases e'
 rw[c] at c'
 exact U' c' (by simp)
mutual
theorem Inv.Qbx (I:Inv X aa σ H s):∀ {d e:Dt}{x:V},VW X.K H d x→VW X.K H e x→d=e
 | .U8,e,_,h,h'=>by
  have h:_=V.U8:=h
  subst h
  cases e with
  | U8=>rfl
  | bl _=>exact nomatch (show V.U8=_ from h')
  | int _=>exact nomatch (show V.U8=_ from h')
  | str _=>exact nomatch (show V.U8=_ from h')
  | lst _=>obtain⟨_,_,q,_⟩:=h';cases q
  | tup _=>obtain⟨_,_,q,_⟩:=h';cases q
 | .bl b,e,_,h,h'=>by
  have h:_=V.bl b:=h
  subst h
  cases e with
  | U8=>exact nomatch (show V.bl b=_ from h')
  | bl c=>
   have q:V.bl b=V.bl c:=h'
   cases q
   rfl
  | int _=>exact nomatch (show V.bl b=_ from h')
  | str _=>exact nomatch (show V.bl b=_ from h')
  | lst _=>obtain⟨_,_,q,_⟩:=h';cases q
  | tup _=>obtain⟨_,_,q,_⟩:=h';cases q
 | .int b,e,_,h,h'=>by
  have h:_=V.int b:=h
  subst h
  cases e with
  | U8=>exact nomatch (show V.int b=_ from h')
  | bl c=>exact nomatch (show V.int b=_ from h')
  | int c=>
   have q:V.int b=V.int c:=h'
   cases q
   rfl
  | str _=>exact nomatch (show V.int b=_ from h')
  | lst _=>obtain⟨_,_,q,_⟩:=h';cases q
  | tup _=>obtain⟨_,_,q,_⟩:=h';cases q
 | .str b,e,_,h,h'=>by
  have h:_=V.str b:=h
  subst h
  cases e with
  | U8=>exact nomatch (show V.str b=_ from h')
  | bl c=>exact nomatch (show V.str b=_ from h')
  | int _=>exact nomatch (show V.str b=_ from h')
  | str c=>
   have q:V.str b=V.str c:=h'
   cases q
   rfl
  | lst _=>obtain⟨_,_,q,_⟩:=h';cases q
  | tup _=>obtain⟨_,_,q,_⟩:=h';cases q
 | .lst ds,e,_,h,h'=>by
  obtain⟨a,xs,e1,h1,h2⟩:=h
  subst e1
  cases e with
  | U8=>exact nomatch (show V.ref a=_ from h')
  | bl c=>exact nomatch (show V.ref a=_ from h')
  | int _=>exact nomatch (show V.ref a=_ from h')
  | str _=>exact nomatch (show V.ref a=_ from h')
  | lst es=>
   obtain⟨b,ys,e2,h3,h4⟩:=h'
   cases e2
   have q:=I.QaO h1 h3
   subst q
   rw[I.QcO h2 h4]
  | tup es=>
   obtain⟨b,ys,e2,h3,h4⟩:=h'
   cases e2
   exact(I.QeE h1 h3).elim
 | .tup ds,e,_,h,h'=>by
  obtain⟨a,xs,e1,h1,h2⟩:=h
  subst e1
  cases e with
  | U8=>exact nomatch (show V.ref a=_ from h')
  | bl c=>exact nomatch (show V.ref a=_ from h')
  | int _=>exact nomatch (show V.ref a=_ from h')
  | str _=>exact nomatch (show V.ref a=_ from h')
  | lst es=>
   obtain⟨b,ys,e2,h3,h4⟩:=h'
   cases e2
   exact(I.QeE h3 h1).elim
  | tup es=>
   obtain⟨b,ys,e2,h3,h4⟩:=h'
   cases e2
   have q:=I.QhY h1 h3
   subst q
   rw[I.QcO h2 h4]
theorem Inv.QcO (I:Inv X aa σ H s):∀ {ds es:List Dt}{xs:List V},a8 X.K H ds xs→a8 X.K H es xs→ds=es
 | [],es,_,h,h'=>by
  have h:_=[]:=h
  subst h
  cases es with
  | nil=>rfl
  | cons e es=>obtain⟨_,_,q,_⟩:=h';cases q
 | d::ds,es,_,h,h'=>by
  obtain⟨y,ys,e1,h1,h2⟩:=h
  subst e1
  cases es with
  | nil=>exact nomatch (show y::ys=[] from h')
  | cons e es=>
   obtain⟨z,zs,q,h3,h4⟩:=h'
   cases q
   rw[I.Qbx h1 h3,I.QcO h2 h4]
end
def lR (ds es:List Dt) (j:Nat):Bool:=Wj (ds.getD j .U8) (es.getD j .U8)
theorem uA:∀ ds es:List Dt,((VX (min ds.length es.length)).all (lR ds es) && ds.length == es.length)=fz ds es
 | [],[]=>rfl
 | [],_::_=>by simp[fz]
 | _::_,[]=>by simp[fz]
 | d::ds,e::es=>by
  have ih:=uA ds es
  have e1:min (d::ds).length (e::es).length=min ds.length es.length+1:=by simp only[Sz];lia
  have e2:((d::ds).length == (e::es).length)=(ds.length == es.length):=by simp
  have e3:(VX (min ds.length es.length+1)).all (lR (d::ds) (e::es))=(Wj d e && (VX (min ds.length es.length)).all (lR ds es)):=by
   rw[TM,TR,Qbh]
   rfl
  rw[e1,e2,e3,fz,← ih,Bool.and_assoc]
theorem GI {ds es:List Dt} (h:ds.length=es.length):(VX ds.length).all (lR ds es)=fz ds es:=by
 have:=uA ds es
 rw[← h,Nat.min_self] at this
 simpa using this
theorem Fa {ds es:List Dt} (h:ds.length≠es.length):fz ds es=M':=by
 rw[← uA ds es]
 simp[h]
theorem Inv.Yk (I:Inv X aa σ H s) (h:P' X.K H a xs):∃ ag:List K',aB xs ag∧s.heap.IsList a ag.toArray:=
 let ⟨ag,r,pl,_⟩:=I.list h
 ⟨ag,r,pl.isList⟩
theorem Inv.Yl (I:Inv X aa σ H s) (h:Vi X.K H a xs):∃ ag:List K',aB xs ag∧s.heap.IsTuple a ag.toArray:=
 let ⟨ag,r,pt,_⟩:=I.tuple h
 ⟨ag,r,pt⟩
theorem AE {ds es:List Dt}{d e:Dt} (h1:ds[j]?=i' d) (h2:es[j]?=i' e):lR ds es j=Wj d e:=by
 unfold lR
 rw[SR,SR,h1,h2]
 rfl
theorem hV {α:Type}{l:List α} (h:j<l.length):∃ x,l[j]?=i' x:=⟨l[j],by simp[h]⟩
mutual
theorem Inv.QcP (I:Inv X aa σ H s):∀ {d e:Dt}{x y:V}{u v:K'}{n:Nat}{A:V2},VW X.K H d x→VW X.K H e y→aA x u→aA y v→ma n d→A.units+n<VN→YC A s u v (Wj d e)
 | .U8,e,x,y,u,v,n,A,h,h',rx,ry,_,hu=>by
  have hu:A.units<VN:=S6 (Sy _ _) hu
  have h:x=V.U8:=h
  subst h
  cases e with
  | U8=>
   have h':y=V.U8:=h'
   subst h'
   exact gh rx ry O rfl
  | bl c=>
   have h':y=V.bl c:=h'
   subst h'
   exact gh rx ry O rfl
  | int c=>
   have h':y=V.int c:=h'
   subst h'
   exact gh rx ry O rfl
  | str c=>
   have h':y=V.str c:=h'
   subst h'
   exact gh rx ry O rfl
  | lst es=>
   obtain⟨a,ys,rfl,h1,_⟩:=h'
   obtain rfl:v=U9 a:=ry
   obtain⟨ag,_,hl⟩:=I.Yk h1
   obtain rfl:u=VD:=rx
   exact YC.none_list hl hu
  | tup es=>
   obtain⟨a,ys,rfl,h1,_⟩:=h'
   obtain rfl:v=U9 a:=ry
   obtain⟨ag,_,hl⟩:=I.Yl h1
   obtain rfl:u=VD:=rx
   exact YC.none_tuple hl hu
 | .bl b,e,x,y,u,v,n,A,h,h',rx,ry,_,hu=>by
  have hu:A.units<VN:=S6 (Sy _ _) hu
  have h:x=V.bl b:=h
  subst h
  cases e with
  | U8=>
   have h':y=V.U8:=h'
   subst h'
   exact gh rx ry O rfl
  | bl c=>
   have h':y=V.bl c:=h'
   subst h'
   exact gh rx ry O rfl
  | int c=>
   have h':y=V.int c:=h'
   subst h'
   exact gh rx ry O rfl
  | str c=>
   have h':y=V.str c:=h'
   subst h'
   exact gh rx ry O rfl
  | lst es=>
   obtain⟨a,ys,rfl,h1,_⟩:=h'
   obtain rfl:v=U9 a:=ry
   obtain⟨ag,_,hl⟩:=I.Yk h1
   obtain rfl:u=XY b:=rx
   exact YC.bool_list b hl hu
  | tup es=>
   obtain⟨a,ys,rfl,h1,_⟩:=h'
   obtain rfl:v=U9 a:=ry
   obtain⟨ag,_,hl⟩:=I.Yl h1
   obtain rfl:u=XY b:=rx
   exact YC.bool_tuple b hl hu
 | .int b,e,x,y,u,v,n,A,h,h',rx,ry,_,hu=>by
  have hu:A.units<VN:=S6 (Sy _ _) hu
  have h:x=V.int b:=h
  subst h
  cases e with
  | U8=>
   have h':y=V.U8:=h'
   subst h'
   exact gh rx ry O rfl
  | bl c=>
   have h':y=V.bl c:=h'
   subst h'
   exact gh rx ry O rfl
  | int c=>
   have h':y=V.int c:=h'
   subst h'
   exact gh rx ry O rfl
  | str c=>
   have h':y=V.str c:=h'
   subst h'
   exact gh rx ry O rfl
  | lst es=>
   obtain⟨a,ys,rfl,h1,_⟩:=h'
   obtain rfl:v=U9 a:=ry
   obtain⟨ag,_,hl⟩:=I.Yk h1
   obtain⟨t,rfl⟩:=rx
   exact YC.int_list b t hl hu
  | tup es=>
   obtain⟨a,ys,rfl,h1,_⟩:=h'
   obtain rfl:v=U9 a:=ry
   obtain⟨ag,_,hl⟩:=I.Yl h1
   obtain⟨t,rfl⟩:=rx
   exact YC.int_tuple b t hl hu
 | .str b,e,x,y,u,v,n,A,h,h',rx,ry,_,hu=>by
  have hu:A.units<VN:=S6 (Sy _ _) hu
  have h:x=V.str b:=h
  subst h
  cases e with
  | U8=>
   have h':y=V.U8:=h'
   subst h'
   exact gh rx ry O rfl
  | bl c=>
   have h':y=V.bl c:=h'
   subst h'
   exact gh rx ry O rfl
  | int c=>
   have h':y=V.int c:=h'
   subst h'
   exact gh rx ry O rfl
  | str c=>
   have h':y=V.str c:=h'
   subst h'
   exact gh rx ry O rfl
  | lst es=>
   obtain⟨a,ys,rfl,h1,_⟩:=h'
   obtain rfl:v=U9 a:=ry
   obtain⟨ag,_,hl⟩:=I.Yk h1
   obtain⟨t,rfl⟩:=rx
   exact YC.str_list b t hl hu
  | tup es=>
   obtain⟨a,ys,rfl,h1,_⟩:=h'
   obtain rfl:v=U9 a:=ry
   obtain⟨ag,_,hl⟩:=I.Yl h1
   obtain⟨t,rfl⟩:=rx
   exact YC.str_tuple b t hl hu
 | .lst ds,e,x,y,u,v,n,A,h,h',rx,ry,hd,hu=>by
  obtain⟨a,xs,rfl,g1,g2⟩:=h
  obtain rfl:u=U9 a:=rx
  obtain⟨ag,rv,hl⟩:=I.Yk g1
  cases n with
  | zero=>exact WB hd
  | succ n=>
  have cT:A.units<VN:=S6 (Sy _ _) hu
  cases e with
  | U8=>
   have h':y=V.U8:=h'
   subst h'
   obtain rfl:v=VD:=ry
   exact YC.list_none hl cT
  | bl c=>
   have h':y=V.bl c:=h'
   subst h'
   obtain rfl:v=XY c:=ry
   exact YC.list_bool c hl cT
  | int c=>
   have h':y=V.int c:=h'
   subst h'
   obtain⟨t,rfl⟩:=ry
   exact YC.list_int c t hl cT
  | str c=>
   have h':y=V.str c:=h'
   subst h'
   obtain⟨t,rfl⟩:=ry
   exact YC.list_str c t hl cT
  | tup es=>
   obtain⟨b,ys,rfl,h1,_⟩:=h'
   obtain rfl:v=U9 b:=ry
   obtain⟨its',_,dB⟩:=I.Yl h1
   exact YC.list_tuple hl dB cT
  | lst es=>
   obtain⟨b,ys,rfl,h1,h2⟩:=h'
   obtain rfl:v=U9 b:=ry
   obtain⟨its',cU,dB⟩:=I.Yk h1
   show YC A s (.ref a) (.ref b) (fz ds es)
   by_cases qu:a=b
   .subst qu
    have e:Dt.lst ds=Dt.lst es:=I.Qbx ⟨a,xs,O,g1,g2⟩ ⟨a,ys,O,h1,h2⟩
    injection e with e
    subst e
    rw[uy]
    exact Qea _
   .have n1:ds.length=ag.length:=g2.length.trans rv.length
    have n2:es.length=its'.length:=h2.length.trans cU.length
    have items:∀ j (h1:j<ag.toArray.size) (h2:j<its'.toArray.size),YC A.in1 s ag.toArray[j] its'.toArray[j] (lR ds es j):=fun j j1 j2=>by
     have j1:j<ag.length:=by simpa using j1
     have j2:j<its'.length:=by simpa using j2
     obtain⟨d',cS⟩:=hV (l:=ds) (j:=j) (by lia)
     obtain⟨e',dz⟩:=hV (l:=es) (j:=j) (by lia)
     obtain⟨x',o9,kx⟩:=g2.get cS
     obtain⟨y',c9,ky⟩:=h2.get dz
     obtain⟨u',iJ,ru⟩:=rv.get o9
     obtain⟨v',eM,tu⟩:=cU.get c9
     have q1:ag.toArray[j]=u':=by
      have:=VI.mp iJ
      simpa using this.2
     have q2:its'.toArray[j]=v':=by
      have:=VI.mp eM
      simpa using this.2
     rw[q1,q2,AE cS dz]
     exact Inv.QcQ I ds j cS kx ky ru tu (ft.get hd cS) (show A.units+1+n<VN by lia)
    by_cases hsz:ag.toArray.size=its'.toArray.size
    .have oj:ds.length=es.length:=by simpa [n1,n2] using hsz
     rw[← GI oj,n1,← Si]
     exact QdY qu (Qhs hl dB hsz cT items)
    .rw[Fa (by simpa [n1,n2] using hsz)]
     exact QdY qu (Qgo hl dB (by simpa using hsz) cT)
 | .tup ds,e,x,y,u,v,n,A,h,h',rx,ry,hd,hu=>by
  obtain⟨a,xs,rfl,g1,g2⟩:=h
  obtain rfl:u=U9 a:=rx
  obtain⟨ag,rv,hl⟩:=I.Yl g1
  cases n with
  | zero=>exact WB hd
  | succ n=>
  have cT:A.units<VN:=S6 (Sy _ _) hu
  cases e with
  | U8=>
   have h':y=V.U8:=h'
   subst h'
   obtain rfl:v=VD:=ry
   exact YC.tuple_none hl cT
  | bl c=>
   have h':y=V.bl c:=h'
   subst h'
   obtain rfl:v=XY c:=ry
   exact YC.tuple_bool c hl cT
  | int c=>
   have h':y=V.int c:=h'
   subst h'
   obtain⟨t,rfl⟩:=ry
   exact YC.tuple_int c t hl cT
  | str c=>
   have h':y=V.str c:=h'
   subst h'
   obtain⟨t,rfl⟩:=ry
   exact YC.tuple_str c t hl cT
  | lst es=>
   obtain⟨b,ys,rfl,h1,_⟩:=h'
   obtain rfl:v=U9 b:=ry
   obtain⟨its',_,dB⟩:=I.Yk h1
   exact YC.tuple_list hl dB cT
  | tup es=>
   obtain⟨b,ys,rfl,h1,h2⟩:=h'
   obtain rfl:v=U9 b:=ry
   obtain⟨its',cU,dB⟩:=I.Yl h1
   show YC A s (.ref a) (.ref b) (fz ds es)
   by_cases qu:a=b
   .subst qu
    have e:Dt.tup ds=Dt.tup es:=I.Qbx ⟨a,xs,O,g1,g2⟩ ⟨a,ys,O,h1,h2⟩
    injection e with e
    subst e
    rw[uy]
    exact Qea _
   .have n1:ds.length=ag.length:=g2.length.trans rv.length
    have n2:es.length=its'.length:=h2.length.trans cU.length
    have items:∀ j (h1:j<ag.toArray.size) (h2:j<its'.toArray.size),YC A.in1 s ag.toArray[j] its'.toArray[j] (lR ds es j):=fun j j1 j2=>by
     have j1:j<ag.length:=by simpa using j1
     have j2:j<its'.length:=by simpa using j2
     obtain⟨d',cS⟩:=hV (l:=ds) (j:=j) (by lia)
     obtain⟨e',dz⟩:=hV (l:=es) (j:=j) (by lia)
     obtain⟨x',o9,kx⟩:=g2.get cS
     obtain⟨y',c9,ky⟩:=h2.get dz
     obtain⟨u',iJ,ru⟩:=rv.get o9
     obtain⟨v',eM,tu⟩:=cU.get c9
     have q1:ag.toArray[j]=u':=by
      have:=VI.mp iJ
      simpa using this.2
     have q2:its'.toArray[j]=v':=by
      have:=VI.mp eM
      simpa using this.2
     rw[q1,q2,AE cS dz]
     exact Inv.QcQ I ds j cS kx ky ru tu (ft.get hd cS) (show A.units+1+n<VN by lia)
    have q:=QdY qu (Qhj hl dB cT items)
    rw[← uA ds es,n1,n2]
    simpa using q
theorem Inv.QcQ (I:Inv X aa σ H s):∀ (ds:List Dt) (j:Nat){d e:Dt}{x y:V}{u v:K'}{n:Nat}{A:V2},ds[j]?=i' d→VW X.K H d x→VW X.K H e y→aA x u→aA y v→ma n d→A.units+n<VN→YC A s u v (Wj d e)
 | [],j,_,_,_,_,_,_,_,_,h,_,_,_,_,_,_=>by simp at h
 | c::_,0,d,e,x,y,u,v,n,A,h,hx,hy,ru,rv,hd,hu=>by
  simp at h
  subst h
  exact Inv.QcP I hx hy ru rv hd hu
 | _::cs,j+1,d,e,x,y,u,v,n,A,h,hx,hy,ru,rv,hd,hu=>Inv.QcQ I cs j (by simpa using h) hx hy ru rv hd hu
end
theorem Inv.items (I:Inv X aa σ H s){ds es:List Dt}{ys:List V}{ag its':List K'} (g2:a8 X.K H ds xs) (h2:a8 X.K H es ys) (rv:aB xs ag) (cU:aB ys its') (hd:ft n ds)
  (hu:A.units+1+n<VN):∀ j (h1:j<ag.toArray.size) (h2:j<its'.toArray.size),YC A.in1 s ag.toArray[j] its'.toArray[j] (lR ds es j):=fun j j1 j2=>by
 have n1:ds.length=ag.length:=g2.length.trans rv.length
 have n2:es.length=its'.length:=h2.length.trans cU.length
 have j1:j<ag.length:=by simpa using j1
 have j2:j<its'.length:=by simpa using j2
 obtain⟨d',cS⟩:=hV (l:=ds) (j:=j) (by lia)
 obtain⟨e',dz⟩:=hV (l:=es) (j:=j) (by lia)
 obtain⟨x',o9,kx⟩:=g2.get cS
 obtain⟨y',c9,ky⟩:=h2.get dz
 obtain⟨u',iJ,ru⟩:=rv.get o9
 obtain⟨v',eM,tu⟩:=cU.get c9
 have q1:ag.toArray[j]=u':=by
  have:=VI.mp iJ
  simpa using this.2
 have q2:its'.toArray[j]=v':=by
  have:=VI.mp eM
  simpa using this.2
 rw[q1,q2,AE cS dz]
 exact I.QcP kx ky ru tu (ft.get hd cS) hu
def wH:Dt→Bool
 | .lst _=>D'
 | .tup _=>D'
 | _=>M'
theorem Inv.QeF (I:Inv X aa σ H s){d e:Dt}{x y:V} (bd:wH d=D') (be:wH e=D') (h:VW X.K H d x) (h':VW X.K H e y) (rx:aA x u) (ry:aA y v) (hd:ma n d) (hu:A.units+n<VN) :
  RcAt A s u v (Wj d e)∧RcNeAt A s u v (!Wj d e):=by
 cases n with
 | zero=>cases d<;>first | exact WB hd | cases bd
 | succ n=>
 have cT:A.units<VN:=S6 (Sy _ _) hu
 have kj:A.units+1+n<VN:=by lia
 cases d with
 | lst ds=>
  obtain⟨a,xs,rfl,g1,g2⟩:=h
  obtain rfl:u=U9 a:=rx
  obtain⟨ag,rv,hl⟩:=I.Yk g1
  cases e with
  | lst es=>
   obtain⟨b,ys,rfl,h1,h2⟩:=h'
   obtain rfl:v=U9 b:=ry
   obtain⟨its',cU,dB⟩:=I.Yk h1
   have n1:ds.length=ag.length:=g2.length.trans rv.length
   have n2:es.length=its'.length:=h2.length.trans cU.length
   show RcAt A s (.ref a) (.ref b) (fz ds es)∧RcNeAt A s (.ref a) (.ref b) (!fz ds es)
   by_cases hsz:ag.toArray.size=its'.toArray.size
   .have oj:ds.length=es.length:=by simpa [n1,n2] using hsz
    rw[← GI oj,n1,← Si]
    exact⟨Qhs hl dB hsz cT (I.items g2 h2 rv cU hd kj),RcNeAt.lists hl dB hsz cT (I.items g2 h2 rv cU hd kj)⟩
   .rw[Fa (by simpa [n1,n2] using hsz)]
    exact⟨Qgo hl dB (by simpa using hsz) cT,RcNeAt.lists_lengths hl dB (by simpa using hsz) cT⟩
  | tup es=>
   obtain⟨b,ys,rfl,h1,_⟩:=h'
   obtain rfl:v=U9 b:=ry
   obtain⟨its',_,dB⟩:=I.Yl h1
   exact⟨RcAt.list_tuple hl dB cT,RcNeAt.list_tuple hl dB cT⟩
  | _=>cases be
 | tup ds=>
  obtain⟨a,xs,rfl,g1,g2⟩:=h
  obtain rfl:u=U9 a:=rx
  obtain⟨ag,rv,hl⟩:=I.Yl g1
  cases e with
  | tup es=>
   obtain⟨b,ys,rfl,h1,h2⟩:=h'
   obtain rfl:v=U9 b:=ry
   obtain⟨its',cU,dB⟩:=I.Yl h1
   have n1:ds.length=ag.length:=g2.length.trans rv.length
   have n2:es.length=its'.length:=h2.length.trans cU.length
   have q:=Qhj hl dB cT (I.items g2 h2 rv cU hd kj)
   have q':=RcNeAt.tuples hl dB cT (I.items g2 h2 rv cU hd kj)
   show RcAt A s (.ref a) (.ref b) (fz ds es)∧RcNeAt A s (.ref a) (.ref b) (!fz ds es)
   rw[← uA ds es,n1,n2]
   exact⟨by simpa using q,by simpa using q'⟩
  | lst es=>
   obtain⟨b,ys,rfl,h1,_⟩:=h'
   obtain rfl:v=U9 b:=ry
   obtain⟨its',_,dB⟩:=I.Yk h1
   exact⟨RcAt.tuple_list hl dB cT,RcNeAt.tuple_list hl dB cT⟩
  | _=>cases be
 | _=>cases bd
inductive QeG (K:R') (sI:Bool) (x:V) (y:V) (H:Hp) (Q:VK):Prop
 | mk (d e:_) (_:wH d=D') (_:wH e=D') (_:VW K H d x) (_:VW K H e y) (_:ma 60 d) (_:Q (.bl (if sI then !Wj d e else Wj d e)) H)
theorem QiR (hu:X.A.units+64<VN):VU X (WR .Eq) (QeG X.K M'):=by
 intro aa s σ H x y v u Q I rx ry h
 obtain⟨d,e,bd,be,h1,h2,hd,q⟩:=h
 exact(I.QeF bd be h1 h2 rx ry hd (by lia)).1 X.prog X.w _ _ ⟨.bl _,H,I,O,q⟩
theorem QiS (hu:X.A.units+64<VN):VU X (WR .NotEq) (QeG X.K D'):=by
 intro aa s σ H x y v u Q I rx ry h
 obtain⟨d,e,bd,be,h1,h2,hd,q⟩:=h
 exact(I.QeF bd be h1 h2 rx ry hd (by lia)).2 X.prog X.w _ _ ⟨.bl _,H,I,O,q⟩
end
theorem pQ (hg:Gl X x) (hm:X.mg x=i' (.ref a)) (hd:(x == ("__debug__":C'))=M':=by decide):PE X (.Name x pos) (tC (.ref a)):=BE hg hm O hd
def QeH:V→Option K'
 | .ref a=>i' (.ref a)
 | .ty n=>i' (.type n)
 | _=>B'
theorem NF {c:V}{k:K'} (r:aA c u) (e:QeH c=i' k):u=k:=by
 cases c with
 | ref a=>
  cases e
  exact r
 | ty n=>
  cases e
  exact r
 | _=>cases e
theorem Bk:fi X (.builtin "isinstance") (fun xs H Q=>∃ x c k t b,xs=[x,c]∧QeH c=i' k∧iZ X.K H x t∧XT X.K t k=i' b∧Q (.bl b) H):=by
 intro aa s σ H xs us Q I r h
 obtain⟨x,c,k,t,b,rfl,ec,ty,eb,q⟩:=h
 obtain⟨u,v,rfl,rx,rc⟩:=pG r
 have e:=NF rc ec
 subst e
 exact QB I rx ty eb fun tk=>⟨.bl b,H,I.tok tk,O,q⟩
theorem NR {ys:List C'}:∀ {us:List K'},aB (ys.map V.str) us→StrsAre us ys:=by
 induction ys with
 | nil=>
  intro us r
  cases r
  exact .nil
 | cons y ys ih=>
  intro us r
  cases r with
  | cons r1 r2=>
   obtain⟨t,rfl⟩:=r1
   exact .cons _ _ (ih r2)
inductive rJoin (K:R') (x:V) (vs:List V) (H:Hp) (Q:VK):Prop
 | mk (z a ys:_) (_:x=.str z) (_:vs=[.ref a]) (_:P' K H a (ys.map V.str)) (_:(ys.map (·.length)).sum+ys.length*z.length≤16777216) (_:Q (.str (YZ z ys)) H)
theorem wP:MtR X "str.join" (rJoin X.K):=by
 intro aa s σ H x xs v us Q I rx r h
 obtain⟨z,a,ys,rfl,rfl,hl,hz,q⟩:=h
 obtain⟨t,rfl⟩:=rx
 obtain⟨u,rfl,ru⟩:=eZ r
 obtain rfl:u=U9 a:=ru
 obtain⟨ag,rv,pl,_⟩:=I.list hl
 exact join_list pl.isList (by simpa using NR rv) hz fun t' k=>⟨.str _,H,I.tok _,⟨_,O⟩,q⟩
structure ExcAt (H:Hp) (h:Vo) (a:F') (c:K') (dd:Option F') (tb:Option (F'×K')):Prop where
 ob:∃ o vs,h.get? a=i' o∧o.cls=c∧o.dict=dd∧o.data=.fields vs∧vs.size=6∧(∃ cs,jK H cs∧vs[2]?=i' (YD cs 0))∧vs[1]?=i' (match tb with|none=>.none|some p=>.ref p.1)
 tr:∀ p,tb=i' p→p.1≠a∧∃ oT ts,h.get? p.1=i' oT∧oT.data=.fields ts∧ts[3]?=i' p.2
structure Zb (X:Cx) (aa:List (F'×Vd)) (H:Hp) (h:Vo) (a:F') (c:K') (dd:Option F') (tb:Option (F'×K')):Prop where
 fp:bI X aa H a
 YG:∀ p,tb=i' p→bI X aa H p.1
 at_:ExcAt H h a c dd tb
theorem Pe (o:Vd) (f:Array K'→Array K'):(o.mapFields f).dict=o.dict:=by
 obtain⟨c,d,dt,sl⟩:=o
 cases dt<;>rfl
section
variable {c:K'}
theorem Inv.slot0 {tk:Nat} (I:Inv X aa σ H s) (gj:∀ b∈ch,bI X aa H b) (keep:∀ b o,b∉VR X.stack→b∉ch→s.heap.get? b=i' o→h'.get? b=i' o)
  (slot:∀ b o,b∈VR X.stack→s.heap.get? b=i' o→∃ sl,h'.get? b=i' {o with slots:=sl}):Inv X aa σ H {s with heap:=h',toks:=tk}:=by
 have any:∀ b o,b∉ch→s.heap.get? b=i' o→∃ sl,h'.get? b=i' {o with slots:=sl}:=fun b o hc e=>by
  by_cases hb:b∈VR X.stack
  .exact slot b o hb e
  .exact⟨o.slots,keep b o hb hc e⟩
 have sub:∀ b,b∈VR X.stack→b=X.env.locals∨b∈X.fs:=fun b hb=>SS.mp (I.Xw b hb)
 refine I.step (g':=s.gens) (d':=s.drawn) (ch:=ch) (fun b hb=>?_) (fun b o hL hf hc e _=>keep b o (fun z=>(sub b z).elim hL hf) hc e) (fun b o _ _ hc e _=>any b o hc e) (fun _ _ _ _ n=>n) (fun b o hc e=>?_)
  (fun _ _ e=>e) (fun _ _ _ e=>e) (fun _ _ _ e=>e) (fun m hm=>?_) (fun b u e=>?_) I.bare
 .obtain⟨_,f1,_,f3,f4,f5⟩:=gj b hb
  exact⟨f3,f1,f4,f5⟩
 .obtain⟨sl,q⟩:=any b o hc e
  exact⟨_,q⟩
 .obtain⟨o,es,ep,ho,r⟩:=hm
  obtain⟨sl,q⟩:=any _ o (fun z=>(gj _ z).2.1 O) ho
  exact⟨_,es,ep,q,r⟩
 .have nf:∀ d v,H d=i' v→d∉VR X.stack∧d∉ch:=fun d v q=>⟨fun z=>(by rw[I.QaN d z] at q;cases q),fun z=>(by rw[(gj d z).1] at q;cases q)⟩
  refine(I.UZ b u e).WZ (fun d v hd q=>?_) (fun _ q=>q) fun _ _ q=>q
  rcases hd with z|z
  .subst z
   exact keep d v (nf d _ e).1 (nf d _ e).2 q
  .exact keep d v (nf d _ z).1 (nf d _ z).2 q
theorem Inv.slots {tk:Nat} (I:Inv X aa σ H s) (gj:∀ b∈ch,bI X aa H b) (keep:∀ b o,b∉VR X.stack→b∉ch→s.heap.get? b=i' o→h'.get? b=i' o)
  (slot:∀ b o,b∈VR X.stack→s.heap.get? b=i' o→∃ sl,h'.get? b=i' {o with slots:=sl}) (_:∀ b∈ch,∀ o,s.heap.get? b=i' o→∃ o',h'.get? b=i' o'):Inv X aa σ H {s with heap:=h',toks:=tk}:=I.slot0 gj keep slot
def Body (X:Cx):Prop:=X.stack=X.env::X.outer∧X.env.frame=i' X.env.locals
theorem F9 {Q:Unit→UW→Prop} (B:Body X) (I:Inv X aa σ H s) (fp:bI X aa H a) (he:s.heap.get? a=i' o) (hd:o.data=.fields vs) (hz:vs.size=6)
  (hQ:∀ s' T,Inv X aa σ H s'→s.heap.objs.size≤T→bI X aa H T→T≠a→s'.heap.get? a=i' (o.mapFields (·.setIfInBounds 1 (.ref T)))→(∃ oT ts,s'.heap.get? T=i' oT∧oT.data=.fields ts∧ts[3]?=i' (Vw X.env.locals))→Q () s') :
  L' M X.A (do let f ← frameOf X.env;let pl ← entryPlaceOf X.env.locals kM;let b ← QfN head f .none (Vw X.env.locals) .none pl;Qcx (.ref a) 1 b) Q E s:=by
 have hl:=I.stack
 rw[B.1] at hl
 have nW:X.A.frames=i' (X.env::X.outer):=by rw[I.ok.frames,B.1]
 have lu:∀ b,bI X aa H b→b∉VR X.stack:=fun b f z=>(SS.mp (I.Xw b z)).elim f.2.1 f.2.2.1
 refine oG (wpAny_frameOf_fun nW hl B.2 fun h₁ bC=>?_)
 rw[← B.1] at bC
 refine oG (wpAny_entryPlaceOf fun pl ck=>?_)
 simp only[QfN,newFields]
 refine oG (To ?_ (ck.sizeOk5 _ _ _ _ _))
 generalize Ce:({cls:=.type "traceback",dict:=B',data:=.fields ([head,.ref X.env.locals,.none,Vw X.env.locals,.none]++(if pl.isEmpty then VA 6 VD else pl)).toArray}:Vd)=oT
 have e1:h₁.get? a=i' o:=(bC.2.1 a (lu a fp)).trans he
 have e2:(h₁.push oT).get? a=i' o:=Sc _ e1
 have hsz:s.heap.objs.size=h₁.objs.size:=bC.1.symm
 have Ca:h₁.objs.size≠a:=SX (Se e1)
 have j4:=Qau hd (·.setIfInBounds 1 (U9 h₁.objs.size))
 have e3:=Sq (YU (·.setIfInBounds 1 (U9 h₁.objs.size))) e2 (QbZ j4)
 have eT:((h₁.push oT).update a (YU (·.setIfInBounds 1 (U9 h₁.objs.size)))).get? h₁.objs.size=i' oT:=
  (Sm _ _ (U5 Ca)).trans (Sf h₁ (by rw[← Ce];rfl))
 have kp:∀ b q,b≠a→h₁.get? b=i' q→((h₁.push oT).update a (YU (·.setIfInBounds 1 (U9 h₁.objs.size)))).get? b=i' q:=fun b q hb e=>
  (Sm _ _ (U5 hb)).trans (Sc _ e)
 refine SZ e2 hd (by rw[hz];decide) ?_
 refine hQ _ h₁.objs.size (I.slots (ch:=[a]) (tk:=s.toks) (fun b hb=>?_) (fun b q hb hc e=>?_) (fun b q hb e=>?_) (fun b hb q e=>?_)) (TH hsz) (I.Xk (TH hsz) (I.UZ.fresh (TH hsz))) Ca e3 ⟨oT,_,eT,by rw[← Ce],?_⟩
 .rw[Vn.mp hb];exact fp
 .exact kp b q (fun z=>hc (by simp[z])) ((bC.2.1 b hb).trans e)
 .obtain⟨sl,q'⟩:=bC.2.2 b q e
  refine⟨sl,kp b _ (fun z=>?_) q'⟩
  subst z
  exact lu b fp hb
 .rw[Vn.mp hb];exact⟨_,e3⟩
 .first|(simp;done)|(rcases ck with rfl|⟨_,_,_,_,_,_,_,rfl⟩<;>simp)
theorem QiT (hz:vs.size=6) (h2:∃ cs,jK H cs∧vs[2]?=i' (YD cs 0)):(vs.setIfInBounds 1 v).size=6∧(∃ cs,jK H cs∧(vs.setIfInBounds 1 v)[2]?=i' (YD cs 0))∧(vs.setIfInBounds 1 v)[1]?=i' v:=by
 refine⟨by simpa using hz,?_,?_⟩
 .obtain⟨cs,hc,h2⟩:=h2
  exact⟨cs,hc,by rw[TV (by decide)];exact h2⟩
 .simp[hz]
theorem Inv.note {Q:Unit→UW→Prop} (B:Body X) (I:Inv X aa σ H s) (x:Zb X aa H s.heap a c dd tb) (yn:∀ p,tb=i' p→p.2=.none∨p.2=Vw X.env.locals)
  (hQ:∀ s' T,Inv X aa σ H s'→Zb X aa H s'.heap a c dd (i' (T,Vw X.env.locals))→Q () s'):L' M X.A (Qcv (.ref a) X.env) Q E s:=by
 obtain⟨o,vs,h1,hc,iH,hd,hz,h2,qx⟩:=x.at_.ob
 have aG:∀ s' T,Inv X aa σ H s'→bI X aa H T→T≠a→s'.heap.get? a=i' (o.mapFields (·.setIfInBounds 1 (.ref T)))→(∃ oT ts,s'.heap.get? T=i' oT∧oT.data=.fields ts∧ts[3]?=i' (Vw X.env.locals))→Q () s':=fun s' T I' fT ne e' tr=>by
  obtain⟨z1,z2,z3⟩:=QiT (v:=.ref T) hz h2
  refine hQ s' T I' ⟨x.fp,fun p q=>?_,⟨_,_,e',(Qgy _ _).trans hc,(Pe _ _).trans iH,Qau hd _,z1,z2,z3⟩,fun p q=>?_⟩
  .cases q;exact fT
  .cases q;exact⟨ne,tr⟩
 unfold Qcv
 simp only[B.2]
 cases tb with
 | none=>
  refine oG (Sr h1 hd qx ?_)
  rw[U4 (by decide)]
  exact F9 B I x.fp h1 hd hz fun s' T I' _ fT ne e' tr=>aG s' T I' fT ne e' tr
 | some p=>
  obtain⟨T,fl⟩:=p
  obtain⟨ne,oT,ts,hT,oq,h3⟩:=x.at_.tr _ rfl
  refine oG (Sr h1 hd qx ?_)
  rw[U3 (show(U9 T != VD)=D' from by simp)]
  refine oG (Sr hT oq h3 ?_)
  rcases yn _ rfl with z|z
  .have z:fl=.none:=z
   subst z
   rw[U4 (show ¬ ((VD == Vw X.env.locals)=D') from by simp[Vw])]
   refine oG (SZ hT oq (Qdh.mp h3).1 ?_)
   have other:∀ b,b≠T→(s.heap.update T (YU (·.setIfInBounds 3 VD))).get? b=s.heap.get? b:=fun b hb=>Sm _ _ (U5 hb)
   have lu:T∉VR X.stack:=fun z=>(SS.mp (I.Xw T z)).elim (x.YG _ O).2.1 (x.YG _ O).2.2.1
   have I1:Inv X aa σ H {s with heap:=s.heap.update T (YU (·.setIfInBounds 3 VD))}:=I.slots (ch:=[T]) (tk:=s.toks) (fun b hb=>by rw[Vn.mp hb];exact x.YG _ O)
    (fun b q _ hc e=>(other b fun z=>hc (by simp[z])).trans e) (fun b q hb e=>⟨q.slots,(other b fun z=>lu (z ▸ hb)).trans e⟩)
    (fun b hb q e=>(by obtain rfl:=Vn.mp hb;exact⟨_,Sq _ hT (QbZ (Qau oq _))⟩))
   exact F9 B I1 x.fp ((other a (U5 ne)).trans h1) hd hz fun s' T' I' _ IK IG e' tr=>aG s' T' I' IK IG e' tr
  .have z:fl=Vw X.env.locals:=z
   subst z
   rw[U3 (show(Vw X.env.locals == Vw X.env.locals)=D' from ZY _)]
   exact Sd (hQ s T I x)
theorem Inv.land {Q:Unit→UW→Prop} (I:Inv X aa σ H s) (x:Zb X aa H s.heap a c dd (i' (T,fl)))
  (hQ:∀ s',Inv X aa σ H s'→Zb X aa H s'.heap a c dd (i' (T,.none))→Q () s'):L' M A (Qeh (.ref a) B') Q E s:=by
 obtain⟨o,vs,h1,hc,iH,hd,hz,h2,qx⟩:=x.at_.ob
 obtain⟨ne,oT,ts,hT,oq,h3⟩:=x.at_.tr _ rfl
 have DO:3<ts.size:=(Qdh.mp h3).1
 unfold Qeh
 refine oG (Sr h1 hd qx ?_)
 rw[U3 (show(U9 T != VD)=D' from by simp)]
 refine SZ hT oq DO ?_
 have other:∀ b,b≠T→(s.heap.update T (YU (·.setIfInBounds 3 ((B':Option F').elim VD fun f=>Vw f)))).get? b=s.heap.get? b:=fun b hb=>Sm _ _ (U5 hb)
 have self:=Sq (YU (·.setIfInBounds 3 ((B':Option F').elim VD fun f=>Vw f))) hT (QbZ (Qau oq _))
 have lu:T∉VR X.stack:=fun z=>(SS.mp (I.Xw T z)).elim (x.YG _ O).2.1 (x.YG _ O).2.2.1
 refine hQ _ (I.slots (ch:=[T]) (tk:=s.toks) (fun b hb=>by rw[Vn.mp hb];exact x.YG _ O) (fun b q _ hc e=>(other b fun z=>hc (by simp[z])).trans e)
  (fun b q hb e=>⟨q.slots,(other b fun z=>lu (z ▸ hb)).trans e⟩) (fun b hb q e=>(by obtain rfl:=Vn.mp hb;exact⟨_,self⟩))) ⟨x.fp,fun p q=>?_,⟨o,vs,(other a (U5 ne)).trans h1,hc,iH,hd,hz,h2,qx⟩,fun p q=>?_⟩
 .cases q;exact x.YG (T,fl) rfl
 .cases q;exact⟨ne,_,_,self,Qau oq _,by simp[DO]⟩
end
def Wa (P:Vy) (w:VL):XI:=fun outer H s E e s'=>∃ a c dd T H',e=.ref a∧s'.os=s.os∧Yz s'.gens∧Un (VR outer) [] H H' s.heap s'.heap∧VH P w H' s'.heap ∧
 (s.heap.objs.size≤a∧H' a=B')∧(s.heap.objs.size≤T∧H' T=B')∧ExcAt H' s'.heap a c dd (i' (T,.none))∧E c dd H'
abbrev RK:=St→XK
def PX (X:Cx) (R:RK):Prop:=∀ (aa:List (F'×Vd)) (σ:St) (H:Hp) (s:UW) (a:F') (c:K') (dd:Option F') (tb:Option F'),Inv X aa σ H s→Zb X aa H s.heap a c dd (tb.map fun T=>(T,VD))→R σ c dd H→X.xe (.ref a) s
theorem HW {tb:Option F'}:∀ p,(tb.map fun T=>(T,VD))=i' p→p.2=VD∨p.2=v:=fun p e=>by
 cases tb with
 | none=>cases e
 | some T=>cases e;exact .inl rfl
theorem cx {P:Vy}{K:R'}{outer:List Wh}{E:XK} :
  PX (jh (Wa P w) P w K mg base N qual scope f cd A outer s H E) (fun _=>E):=by
 intro aa σ H' s1 a c dd tb I x hE
 have B:Body (jh (Wa P w) P w K mg base N qual scope f cd A outer s H E):=⟨O,O⟩
 show L' _ _ (leaving _ (.ref a)) _ _ s1
 unfold leaving
 refine oG (I.note B x HW fun s2 T I2 x2=>?_)
 refine I2.land x2 fun s3 I3 x3=>?_
 have sz:∀ b,bI (jh (Wa P w) P w K mg base N qual scope f cd A outer s H E) aa H' b→s.heap.objs.size≤b∧H' b=B':=fun b fb=>by
  refine⟨?_,fb.1⟩
  rcases fb.2.2.2.1 with z|z
  .exact U' (show b∈([]:List F') from z) (by simp)
  .exact z
 exact⟨a,c,dd,T,H',O,I3.os,I3.bare,I3.base,I3.UZ,sz a x3.fp,sz T (x3.YG _ O),x3.at_,hE⟩
theorem MD {R:RK} (hp:PX X R):∀ (aa:List (F'×Vd)) (σ:St) (H:Hp) (s:UW) (e:K') (s':UW),Inv X aa σ H s→Wa X.prog X.w X.stack H s (R σ) e s'→X.xe e s':=by
 intro aa σ H s e s' I h
 obtain⟨a,c,dd,T,H',rfl,os,bare,un,UZ,ha,hT,x,hE⟩:=h
 have I':Inv X aa σ H' s':=I.Qen os un UZ bare fun b z=>U' z (by simp)
 refine hp aa σ H' s' a c dd (i' T) I' ⟨I.Xk ha.1 ha.2,fun p q=>?_,x⟩ hE
 cases q
 exact I.Xk hT.1 hT.2
section
variable {g:Array QcA}{d:Drawn}{t:Nat}{os:OsState}
variable {nm q:C'}{N:F'}{bs:List K'}{ab:Bool}{col:Option Bool}{k0 k1 k2 k3 k5:Option K'}{B gR:String}
abbrev lU (C t:F'):Vd:={cls:=.ref C,data:=.fields #[.ref t,.none,.none,.none,.bool M',.none]}
abbrev mU (aW:List K'):Vd:={cls:=.type "tuple",data:=.seq aW.toArray}
theorem NK (F:ExcBaseFacts B newId gR jH) (T:OwnTail h jH bm){aW:List K'}{Q:K'→UW→Prop}
  (oC:h.get? C=i' (Qcu nm q C N bs bm hdct sn sub ab col dd k0 k1 k2 k3 k5 newId)) (lk:Ya (UV prog w) h (Yc (.ref C) "__init__") (i' (.builtin gR))) (WE:aW.length≤U2)
  (aG:∀ h',(∀ b o,h.get? b=i' o→h'.get? b=i' o)→h'.get? (h.objs.size+1)=i' (lU C (h.objs.size+2))→Q (.ref (h.objs.size+1)) ⟨h',g,d,t,os⟩) :
  L' (UV prog w) A (call (.ref C) aW) Q E ⟨h,g,d,t,os⟩:=by
 have l1:=tc_lookup
 have l2:=tc_bind (.ref C)
 have IM:(⟨h,g,d,t,os⟩:UW).TypeIs (.ref C) "type":=⟨_,oC,O⟩
 refine Tl (Qhq ?_)
 show L' _ _ (callAny (.ref C) _) _ _ _
 repeat (any_goals (first|assumption|(with_reducible refine Te oC ?_)|wp_step))
 refine⟨O,Qgl (Qat _ (by decide +kernel)) QhA (Ug oC ?_)⟩
 show L' _ (A.under (.builtin "type.__call__" ⟨.ref C::aW,[]⟩)) (XF.«type.__call__» ⟨.ref C::aW,[]⟩) _ _ _
 repeat (first|(with_reducible refine Te oC ?_)|(with_reducible refine Qha oC ?_)|wp_step)
 refine Qga (Qat _ F.quiet) (UF F T oC (QgC F T oC ?_ WE))
 show L' _ _ _ _ _ _
 have kk:∀ b o,h.get? b=i' o→((h.push (mU aW)).push (lU C h.objs.size)).get? b=i' o:=fun b o e=>Sc _ (Sc _ e)
 have vZ:=kk _ _ oC
 have oX:((h.push (mU aW)).push (lU C h.objs.size)).get? (h.objs.size+1)=i' {cls:=.ref C,data:=.fields #[.ref h.objs.size,.none,.none,.none,.bool M',.none]}:=by heap_get
 have yq:(U9 C::bm).contains (.ref C)=D':=by simp
 have T1:=T.keeps kk
 unfold Zt
 repeat (first|(with_reducible refine Te oX ?_)|(with_reducible refine T4 vZ ?_;rw[yq])|wp_step)
 show L' _ _ (Yc (.ref C) _) _ _ _
 refine lk _ _ _ _ kk ?_
 refine Sn (oG (Ub (F.init.bind _) (oG (Tl (Qar F.init.plain F.initEntry (wpAny_check_init_subT F T1 vZ oX O ?_))))))
 wp_walk
 refine aG _ (fun b o hb=>?_) ?_
 .rw[Sm _ _ (SX (SM (Se hb)))]
  exact Sc _ (kk b o hb)
 .rw[Sq _ (Sc _ oX) rfl]
  simp only[Su];rfl
theorem Mq (F:ExcBaseFacts B newId gR jH) (T:OwnTail h jH bm){aW:List K'}{Q:K'→UW→Prop}
  (oC:h.get? C=i' (Qcu nm q C N bs bm hdct sn sub ab col dd k0 k1 k2 k3 k5 newId)) (lk:Ya (UV prog w) h (Yc (.ref C) "__init__") (i' (.ref fI))) (oF:h.get? fI=i' oI) (fF:oI.cls=.type "function") (WE:aW.length≤U2)
  (aG:L' (UV prog w) (A.under (.builtin "type.__call__" ⟨.ref C::aW,[]⟩)) (call (.ref fI) (.ref (h.objs.size+1)::aW)) (fun r s'=>r=.none∧Q (.ref (h.objs.size+1)) s') E ⟨(h.push (mU aW)).push (lU C h.objs.size),g,d,t,os⟩) :
  L' (UV prog w) A (call (.ref C) aW) Q E ⟨h,g,d,t,os⟩:=by
 have l1:=tc_lookup
 have l2:=tc_bind (.ref C)
 have IM:(⟨h,g,d,t,os⟩:UW).TypeIs (.ref C) "type":=⟨_,oC,O⟩
 refine Tl (Qhq ?_)
 show L' _ _ (callAny (.ref C) _) _ _ _
 repeat (any_goals (first|assumption|(with_reducible refine Te oC ?_)|wp_step))
 refine⟨O,Qgl (Qat _ (by decide +kernel)) QhA (Ug oC ?_)⟩
 show L' _ (A.under (.builtin "type.__call__" ⟨.ref C::aW,[]⟩)) (XF.«type.__call__» ⟨.ref C::aW,[]⟩) _ _ _
 repeat (first|(with_reducible refine Te oC ?_)|(with_reducible refine Qha oC ?_)|wp_step)
 refine Qga (Qat _ F.quiet) (UF F T oC (QgC F T oC ?_ WE))
 show L' _ _ _ _ _ _
 have kk:∀ b o,h.get? b=i' o→((h.push (mU aW)).push (lU C h.objs.size)).get? b=i' o:=fun b o e=>Sc _ (Sc _ e)
 have vZ:=kk _ _ oC
 have K1:=kk _ _ oF
 have oX:((h.push (mU aW)).push (lU C h.objs.size)).get? (h.objs.size+1)=i' {cls:=.ref C,data:=.fields #[.ref h.objs.size,.none,.none,.none,.bool M',.none]}:=by heap_get
 have yq:(U9 C::bm).contains (.ref C)=D':=by simp
 unfold Zt
 repeat (first|(with_reducible refine Te oX ?_)|(with_reducible refine T4 vZ ?_;rw[yq])|wp_step)
 show L' _ _ (Yc (.ref C) _) _ _ _
 refine lk _ _ _ _ kk ?_
 refine Sn (oG ?_)
 unfold bindSpecial
 refine oG (Tp (T:="function") ⟨_,K1,fF⟩ ?_)
 rw[U3 (by decide)]
 refine Sd (oG (SE aG (fun r s' z=>?_) fun _ _ x=>x))
 obtain⟨rfl,z⟩:=z
 wp_walk
 exact z
theorem Qi {x:W6 K'}{Q:X3→UW→Prop} (hb:bm.contains (.type "BaseException")=D')
  (hx:L' M A x (fun v s₁=>∃ e t dx,v=.ref e∧s₁.heap.get? C=i' (Qcu nm q C N bs bm hdct sn sub ab col dd k0 k1 k2 k3 k5 newId)∧s₁.heap.get? e=i' {cls:=.ref C,dict:=dx,data:=.fields #[.ref t,.none,.none,.none,.bool M',.none]}∧L' M A (raiseNew (.ref e):W6 X3) Q E s₁) E s) :
  L' M A (raiseStmt env (i' x) B') Q E s:=by
 have sW:(U9 C::bm).contains (.type "BaseException")=D':=by rw[UK,hb,UL]
 unfold raiseStmt
 refine oG (SE hx (fun v s₁ z=>?_) fun _ _ y=>y)
 obtain⟨e,t,dx,rfl,oC,oe,z⟩:=z
 obtain⟨hp,g,d,tk,os⟩:=s₁
 repeat (first|exact z|(with_reducible refine Te oe ?_)|(with_reducible refine Te oC ?_)|(with_reducible refine T4 oC ?_;rw[sW])|wp_step)
end
def uS (K:R') (C:F') (jH:List K') (newId:String):Bool:=match K.lookup C with
 | some ⟨.type "type",_,.cls cd,sl⟩=>(match cd.mro,sl.toList with
  | .ref C1::bm,[_,_,_,_,i' (.builtin n),_]=>C1 == C && n == newId && !cd.hasDel && PySem.W.tailIn K jH bm
  | _,_=>M')
 | _=>M'
structure QeI (h:Vo) (C:F') (jH bm:List K') (newId:String):Prop where
 obj:∃ nm q N bs hdct sn sub ab col dd k0 k1 k2 k3 k5,h.get? C=i' (Qcu nm q C N bs bm hdct sn sub ab col dd k0 k1 k2 k3 k5 newId)
 tail:OwnTail h jH bm
theorem uv {K:R'} (X:K.In h) (e:uS K C jH newId=D'):∃ bm,QeI h C jH bm newId:=by
 unfold uS at e
 split at e
 .rename_i d1 c1 s1 Vt
  split at e
  .rename_i C1 bm j0 j1 j2 j3 n1 j5 m1 z1
   simp only[Sv,WQ,QaB] at e
   obtain⟨⟨⟨rfl,rfl⟩,nd⟩,tl⟩:=e
   obtain⟨f1,f2,f3,f4,f5,f6,f7,f8,f9,Ln,Rx⟩:=c1
   dsimp only at m1 nd
   subst m1 nd
   obtain rfl:s1=#[j0,j1,j2,j3,i' (.builtin n1),j5]:=by
    obtain⟨l1⟩:=s1
    simp only at z1
    rw[z1]
   exact⟨bm,⟨f1,f5,f4,f2,f6,f7,f8,f9,Ln,d1,j0,j1,j2,j3,j5,X _ _ Vt⟩,PySem.W.tail_of_in X tl⟩
  .cases e
 .cases e
section
open PySem.Builtin.ObjectAttr
abbrev Zc:List K':=[.type "ValueError",.type "Exception",.type "BaseException",.type "object"]
theorem QiU (self:K'):refuseLoop self "__setattr__" Zc=pure ():=by kernel_rfl
def rl:List K'→Bool
 | .ref _::r=>rl r
 | l=>l == Zc
theorem Ib (self:K'):∀ {l:List K'},rl l=D'→refuseLoop self "__setattr__" l=pure ()
 | .ref c::r,e=>by rw[refuseLoop_ref];exact Ib self (l:=r) (by simpa [rl] using e)
 | [],e=>by cases e
 | .type n::r,e=>by rw[WQ.mp (show((Zs n::r) == Zc)=D' from e)];exact QiU self
 | .none::r,e=>by cases e
 | .bool _::r,e=>by cases e
 | .int _ _::r,e=>by cases e
 | .str _ _::r,e=>by cases e
 | .bytes _ _::r,e=>by cases e
 | .float _ _::r,e=>by cases e
 | .builtin _::r,e=>by cases e
 | .notImplemented::r,e=>by cases e
 | .ellipsis::r,e=>by cases e
theorem Hf:∀ {l:List K'},rl l=D'→l.contains (.type "object")=D'
 | .ref c::r,e=>by rw[UK,Hf (l:=r) (by simpa [rl] using e),UL]
 | [],e=>by cases e
 | .type n::r,e=>by rw[WQ.mp (show((Zs n::r) == Zc)=D' from e)];rfl
 | .none::r,e=>by cases e
 | .bool _::r,e=>by cases e
 | .int _ _::r,e=>by cases e
 | .str _ _::r,e=>by cases e
 | .bytes _ _::r,e=>by cases e
 | .float _ _::r,e=>by cases e
 | .builtin _::r,e=>by cases e
 | .notImplemented::r,e=>by cases e
 | .ellipsis::r,e=>by cases e
def QiV (K:R') (C:F'):Bool:=(Qce K C).any fun cd=>rl cd.mro
structure QaT (K:R') (C:F') (f:C'):Prop where
 sa:Wg K (.ref C) "__setattr__"=i' (i' (.builtin "object.__setattr__"))
 ov:QiV K C=D'
 tk:Qb6 K C f=i' B'
 hd:Qaw K C=D'
section
variable {K:R'}{x:F'}
theorem MQ {Q:Unit→UW→Prop} (X:K.In s.heap) (hx:s.heap.get? x=i' {cls:=.ref C,data:=.fields vs}) (Z:QaT K C name)
  (aG:∀ h',(∀ b o,b≠x→s.heap.get? b=i' o→h'.get? b=i' o)→h'.get? x=i' {cls:=.ref C,dict:=i' s.heap.objs.size,data:=.fields vs} →
   h'.Ns1 s.heap.objs.size (fun y=>if y=name then i' v else B')→Q () {s with heap:=h',toks:=s.toks+2}):L' (UV prog w) A (setAttr (.ref x) name v) Q E s:=by
 have J:Zo s.heap x {cls:=.ref C,data:=.fields vs} C B':=⟨hx,O,O,WW⟩
 refine Qgb X J Z.sa ?_
 have SF:=PySem.F.store_object
 obtain⟨cd,hc,ho⟩:=QaC Z.ov
 have ne:cd.mro.isEmpty=M':=by cases q:cd.mro with|nil=>rw[q] at ho;cases ho|cons _ _=>rfl
 have JB:Ya (UV prog w) s.heap (Zt (.ref x) (.type "object")) D':=J.type.andThen (Qbd X (by unfold Wl;rw[hc,TC,U4 (by rw[ne];decide),Hf ho]))
 refine Qar SF.slot.plain SF.entry (@Qdq (UV prog w) _ _ {s with toks:=s.toks+1} "object.__setattr__" "object" "__setattr__" (.ref x) [.str name s.toks,v] [] _ SF.kind SF.split JB (SF.args (.ref x) (.str name s.toks) v) ?_)
 obtain⟨rN,ha,hr⟩:=QfO.mp Z.tk
 have mr:Ya (UV prog w) s.heap (mroOf (.ref C)) cd.mro:=(Qdo X hc).andThen .now
 have tk:Ya (UV prog w) s.heap (storeTaker? rN) B':=by
  cases rN with
  | none=>cases hr;exact .now
  | some a=>
   obtain⟨b,hb,z⟩:=Qan.mp hr
   refine(PySem.W.looks_takesIn X hb).andThen ?_
   cases b with
   | true=>cases z
   | false=>exact .now
 rw[PySem.W.osa_eq,refuse_eq]
 refine oG (oG (ZR (s:={s with toks:=s.toks+1}) J.type (oG (ZR (s:={s with toks:=s.toks+1}) mr ?_))))
 rw[Ib _ ho]
 refine Sd (oG (ZR (s:={s with toks:=s.toks+1}) J.type (oG (ZR (s:={s with toks:=s.toks+1}) (Zi X ha) (oG (ZR (s:={s with toks:=s.toks+1}) tk ?_))))))
 obtain⟨RN,iF,cS⟩:=QaC Z.hd
 refine oG (Sd (oG (oG (T6 hx (oG (ZR (s:={s with toks:=s.toks+1}) (Qdo X iF) ?_))))))
 rw[cS]
 have lt:=Se hx
 have xs:x≠s.heap.objs.size:=Sh lt
 have DF:(s.heap.push {cls:=.type "dict",data:=.dict #[]}).get? x=i' {cls:=.ref C,data:=.fields vs}:=Sc _ hx
 refine oG (wpAny_alloc' (oG (wpAny_update' DF (Sd (oG (Sd (oG ?_)))))))
 generalize hG:(s.heap.push {cls:=.type "dict",data:=.dict #[]}).update x (fun o=>{cls:=o.cls,dict:=i' s.heap.objs.size,data:=o.data,slots:=o.slots})=G
 have eN:∀ b,b≠x→G.get? b=(s.heap.push {cls:=.type "dict",data:=.dict #[]}).get? b:=fun b hb=>by rw[← hG];exact Sm _ _ (U5 hb)
 have gd:G.get? s.heap.objs.size=i' {cls:=.type "dict",data:=.dict #[]}:=(eN _ (U5 xs)).trans (Sf _ O)
 have gx:G.get? x=i' {cls:=.ref C,dict:=i' s.heap.objs.size,data:=.fields vs}:=by rw[← hG,Sq _ DF rfl]
 have n0:G.Ns s.heap.objs.size (fun _=>B'):=⟨_,#[],_,gd,O,fun e he=>U' he (by simp),fun _=>O⟩
 refine wpAny_nsSet1 (s:=⟨G,s.gens,s.drawn,s.toks+1,s.os⟩) (UO n0) fun h' nX fE=>?_
 obtain⟨oD,Ku,Ka,yL,zR,jD⟩:=nX.count (ns:=[name]) (fun y hy=>by
  split at hy
  .rename_i z;simp[z]
  .exact U' O hy)
 refine oG (Qhb yL (by rw[zR];exact Qhf (SN jD (by simp[S8]))) ?_)
 refine Sd (aG h' (fun b o hb q=>?_) ((fE.2 _ xs).trans gx) nX)
 exact(fE.2 b (Sh (Se q))).trans ((eN b hb).trans (Sc _ q))
end
structure QaU (K:R') (C:F') (f:C'):Prop where
 ga:Wg K (.ref C) "__getattribute__"=i' (i' (.builtin "BaseException.__getattribute__"))
 gt:Wg K (.ref C) "__getattr__"=i' B'
 ba:Wl K C (.type "BaseException")=i' D'
 na:Wg K (.ref C) f=i' B'
 hd:Qaw K C=D'
section
variable {K:R'}{x dx:F'}{mA:C'→Option K'}
theorem PK {Q:K'→UW→Prop} (X:K.In s.heap) (hx:s.heap.get? x=i' o) (hc:o.cls=.ref C) (hf:∃ vs,o.data=.fields vs) (zV:o.dict=i' dx) (hn:s.heap.Ns1 dx mA) (Z:QaU K C name) (hv:mA name=i' v) (hh:Qdy v=D')
  (aG:Q v {s with toks:=s.toks+1}):L' (UV prog w) A (Qbo (.ref x) name expr) Q E s:=by
 obtain⟨od,iO,hl⟩:=A0 hn
 have J:Zo s.heap x o C (i' od):=⟨hx,hc,by obtain⟨vs,hf⟩:=hf;unfold QdG;rw[hf],by rw[zV];exact iO⟩
 have L1:=Zi (M:=UV prog w) X Z.ga
 have L2:=Zi (M:=UV prog w) X Z.gt
 have L3:=Qf6 (M:=UV prog w) X J (Qf0 Z.hd Z.na O (by rw[hl,hv]))
 have L0:=J.type (M:=UV prog w)
 have sW:Ya (UV prog w) s.heap (Zt (.ref x) (.type "BaseException")) D':=J.type.andThen (Qbd X Z.ba)
 obtain⟨hp,g,d,t,os⟩:=s
 unfold Qbo Qcw
 refine oG (wpAny_mkText (Sn (oG (L0.at (oG (L1.at ?_))))))
 show L' _ _ (if _ then _ else _) _ _ _
 rw[U4 (by rw[show(Qcj "BaseException.__getattribute__" == Qcj "object.__getattribute__")=M' by decide +kernel,Uz];decide)]
 unfold Qhp
 refine oG (L2.at (oG (SQ (Sn ?_))))
 unfold Qhi
 rw[U4 (by cases expr<;>decide)]
 unfold QhC
 have G:=Qfx.ga
 refine oG ?_
 rw[G.bind]
 refine Sd (Tl (Qar G.plain QfV (@Qdq (UV prog w) _ _ ⟨hp,g,d,t+1,os⟩ "BaseException.__getattribute__" "BaseException" "__getattribute__" (.ref x) [.str name t] [] _ (by decide +kernel) (by decide +kernel) sW (QfZ (.ref x) (.str name t)) ?_)))
 refine oG (Sd (oG (Sd (oG (L0.at (oG (L3.at (Sd ?_))))))))
 show L' _ _ (handedOut v) _ _ _
 rw[PySem.W.handedOut_of hh]
 exact Sd aG
end
end
def del (H:Hp) (a:F'):Hp:=fun b=>if b=a then B' else H b
theorem EB:del H a a=B':=by unfold del;rw[U3 rfl]
theorem p5 {b:F'} (h:b≠a):del H a b=H b:=by unfold del;rw[U4 h]
def gB (C t a:F') (dx:Option F'):HO:=.ext fun h=>h.get? a=i' {cls:=.ref C,dict:=dx,data:=.fields #[.ref t,.none,.none,.none,.bool M',.none]}
theorem Inv.del {a:F'}{φ:Vo→Prop} (I:Inv X aa σ H s) (e:H a=i' (.ext φ)):Inv X aa σ (del H a) s:=by
 have ne:∀ b u,H b=i' u→(∀ ψ,u≠.ext ψ)→b≠a:=fun b u q n z=>by rw[z,e] at q;cases q;exact n _ rfl
 have un:Un X.fs X.ex X.H₀ (L2.del H a) X.s₀.heap s.heap:=by
  obtain⟨b1,b2,b3,b4,b5,b6,b7⟩:=I.base
  refine⟨b1,b2,fun b o q n x=>?_,b4,fun b xs q=>?_,fun b o u q=>?_,fun b pp pq q=>?_⟩
  .unfold L2.del;split
   .rfl
   .exact b3 b o q n x
  .have:=b5 b xs q
   rw[p5 (ne b _ this (by intro ψ z;cases z))];exact this
  .have:=b6 b o u q
   rw[p5 (ne b _ this (by intro ψ z;cases z))];exact this
  .have:=b7 b pp pq q
   rw[p5 (ne b _ this (by intro ψ z;cases z))];exact this
 have none_of:∀ b,H b=B'→L2.del H a b=B':=fun b q=>by unfold L2.del;split<;>first|rfl|exact q
 refine {I with base:=un,free:=none_of _ I.free,Wx:=fun x c q=>none_of _ (I.Wx x c q),pin:=fun p hp=>?_,UZ:=fun b o q=>?_}
 .obtain⟨p1,p2,p3⟩:=I.pin p hp
  exact⟨p1,none_of _ p2,p3⟩
 .by_cases hb:b=a
  .subst hb;rw[EB] at q;cases q
  .rw[p5 hb] at q
   refine(I.UZ b o q).WZ (fun c u _ r=>r) (fun c r=>?_) (fun c xs r=>?_) fun c ob r=>?_
   .rw[p5 (ne c _ r (by intro ψ z;cases z))];exact r
   .rw[p5 (ne c _ r (by intro ψ z;cases z))];exact r
   .rw[p5 (ne c _ r (by intro ψ z;cases z))];exact r
theorem FO {R:RK}{t:F'}{Q:X3→UW→Prop} (hp:PX X R) (I:Inv X aa σ H s) (fp:bI X aa H a)
  (he:s.heap.get? a=i' {cls:=.ref C,dict:=dx,data:=.fields #[.ref t,.none,.none,.none,.bool M',.none]}) (hR:R σ (.ref C) dx H):L' (UV X.prog X.w) X.A (raiseNew (.ref a):W6 X3) Q X.xe s:=by
 obtain⟨f0,f1,f2,f3,f4,f5⟩:=id fp
 refine BC (s:=s) ?_ he O (by simp) fun h' o' ke k1 k2 k3 k4 k5 k6 k7 k8=>?_
 .rcases I.Y7 with z|⟨b,cs,z,c⟩
  .exact .inl z
  .exact .inr ⟨b,cs,z,c.chn I.UZ,c.Qbr f0⟩
 .have I':Inv X aa σ H {s with heap:=h'}:=I.turned (t':=s.toks) k1 f0 f1 f3 f4 f5
  refine hp aa σ H _ a (.ref C) dx B' I' ⟨fp,fun p q=>(by cases q),⟨⟨o',ke,k2,k3,k4,k5,k6,?_,?_⟩,fun p q=>(by cases q)⟩⟩ hR
  .rcases I.Y7 with z|⟨b,cs,z,c⟩
   .rw[z] at k8
    exact⟨[],⟨T8,fun j a q=>by simp at q⟩,k8⟩
   .rw[z] at k8
    exact⟨b::cs,c,k8⟩
  .exact k7
structure ZG (K:R') (C:F'):Prop where
 at_:uS K C Zc "ValueError.__new__"=D'
 kp:XC K (.ref C)=D'
 init:Wg K (.ref C) "__init__"=i' (i' (.builtin "ValueError.__init__"))
structure XCI (K:R') (C f:F'):Prop where
 at_:uS K C Zc "ValueError.__new__"=D'
 kp:XC K (.ref C)=D'
 init:Wg K (.ref C) "__init__"=i' (i' (.ref f))
 fn:Zr K (.ref f)=D'
def LV (C:F') (R:RK) (t:TA):TS:=fun _ σ H=>t σ H fun vs H1=>vs.length≤U2∧R σ (.ref C) B' H1
def GW (C:F') (sp:Sp) (aH:List V) (R:RK) (t:TA):TS:=fun _ σ H=>t σ H fun vs H1=>vs.length≤U2∧∀ a t',H1 a=B' →
 sp (.ref a::(vs++aH)) (upd H1 a (gB C t' a B')) (fun v H2=>v=.U8∧∃ dx,H2 a=i' (gB C t' a dx)∧R σ (.ref C) dx (del H2 a)) (R σ)
section
variable {R:RK}{t:TA}
theorem EL {a:List Vh}{Q:X3→UW→Prop} (hx:QeI s.heap C Zc bm "ValueError.__new__")
  (h:L' (UV X.prog X.w) X.A (Vg (.Call (.Name x np) a [] aE) X.env) (fun v s₁=>∃ b t dx,v=.ref b∧(∀ o,s.heap.get? C=i' o→s₁.heap.get? C=i' o)∧s₁.heap.get? b=i' {cls:=.ref C,dict:=dx,data:=.fields #[.ref t,.none,.none,.none,.bool M',.none]}∧L' (UV X.prog X.w) X.A (raiseNew (.ref b):W6 X3) Q X.xe s₁) X.xe s) :
  L' (UV X.prog X.w) X.A (exec (.Raise (i' (.Call (.Name x np) a [] aE)) B' pos) X.env) Q X.xe s:=by
 obtain⟨⟨nm,q,N,bs,hdct,sn,sub,ab,col,dd,k0,k1,k2,k3,k5,oC⟩,T⟩:=hx
 rw[arm_exec_Raise]
 refine oG (TD (Qi (C:=C) (nm:=nm) (q:=q) (N:=N) (bs:=bs) (bm:=bm) (hdct:=hdct) (sn:=sn) (sub:=sub) (ab:=ab) (col:=col) (dd:=dd) (k0:=k0) (k1:=k1) (k2:=k2) (k3:=k3) (k5:=k5) (newId:="ValueError.__new__") (T.hasType O) (oG (SE h (fun v s1 z=>oG (TD (Sd ?_))) fun _ _ y=>y))))
 obtain⟨b,t,dx,z1,z2,z3,z4⟩:=z
 exact⟨b,t,dx,z1,z2 _ oC,z3,z4⟩
theorem Lu {s0:UW}{Q:X3→UW→Prop} (hp:PX X R) (c:ZG X.K C) (I:Inv X aa σ H s) (hz:us.length≤U2) (hs:∀ o,s0.heap.get? C=i' o→s.heap.get? C=i' o) (hR:R σ (.ref C) B' H) :
  L' (UV X.prog X.w) X.A (call (.ref C) us) (fun v s₁=>∃ b t dx,v=.ref b∧(∀ o,s0.heap.get? C=i' o→s₁.heap.get? C=i' o)∧s₁.heap.get? b=i' {cls:=.ref C,dict:=dx,data:=.fields #[.ref t,.none,.none,.none,.bool M',.none]}∧L' (UV X.prog X.w) X.A (raiseNew (.ref b):W6 X3) Q X.xe s₁) X.xe s:=by
 obtain⟨bm,⟨nm,q,N,bs,hdct,sn,sub,ab,col,dd,k0,k1,k2,k3,k5,oC⟩,T⟩:=uv I.Vv c.at_
 have I0:=I
 obtain⟨h,g,d,tk,os⟩:=s
 refine NK Qfw T oC (Zi I.Vv c.init) hz fun h' k' e'=>?_
 have I':Inv X aa σ H ⟨h',g,d,tk,os⟩:=I0.kept (t':=tk) k'
 refine⟨_,_,B',O,fun o q=>k' _ _ (hs o q),e',FO hp I' ?_ e' hR⟩
 exact I0.Xk (s:=⟨h,g,d,tk,os⟩) (SH _) (I0.UZ.fresh (SH _))
theorem p7 (hp:PX X R) (c:ZG X.K C) (hg:Gl X x) (hm:X.mg x=i' (.ref C)) (V0:(x == ("__debug__":C'))=M':=by decide):PS X (.Raise (i' (.Call (.Name x np) [] [] aE)) B' pos) (LV C R mT):=by
 intro aa s σ H D I h
 obtain⟨bm,xc⟩:=uv I.Vv c.at_
 refine EL xc (SK (pW I hg hm ?_ V0))
 exact Qdp I.Vv c.kp (Lu hp c I h.1 (fun _ q=>q) h.2)
variable {k:Nat}
theorem Mg (hp:PX X R) (c:XCI X.K C f) (F:cg X.prog X.w X.K X.mg X.base CX k f fd ps sp) (hr:bj (k+1) X.A) (hb:eB X.K fd ps ds) (hd:aB aH ds) (IN:∀ σ,lW CX X (R σ)) (hg:Gl X x) (hm:X.mg x=i' (.ref C)) (ha:PA X (e::es) t)
  (V0:(x == ("__debug__":C'))=M':=by decide) (he:Vk (e::es) X.env=(M',Vg e X.env)::Vk es X.env:=by rfl) (ck:(VP aE (Vk es X.env)).any (·.1)=M':=by rfl) :
  PS X (.Raise (i' (.Call (.Name x np) (e::es) [] aE)) B' pos) (GW C sp aH R t):=by
 intro aa s σ H D I h
 obtain⟨RY,xc⟩:=uv I.Vv c.at_
 refine EL xc (SK (pW I hg hm ?_ V0))
 refine Qas (h₀:=X.base) I.ok.mod.YE c.kp (U6 (ha aE aa s σ H _ I h) fun us s1 ⟨vs,H1,I1,r,z,q⟩=>⟨I1.Vv,?_⟩) he ck
 obtain⟨RZ,⟨RE,q2,N2,RO,Ea,RF,KE,Rm,IB,R0,l0,l1,l2,l3,l5,Cz⟩,_⟩:=uv I.ok.mod.YE c.at_
 have C0:∀ o,s.heap.get? C=i' o→X.base.get? C=i' o:=fun o q=>by rw[I.bk _ _ Cz] at q;rw[← q];exact Cz
 obtain⟨bm,⟨nm,qn,N,bs,hdct,sn,sub,ab,col,dd,k0,k1,k2,k3,k5,oC⟩,T⟩:=uv I1.Vv c.at_
 have vF:(X.K.lookup f).map (·.cls)=i' (.type "function"):=WQ.mp c.fn
 obtain⟨oF,hF,hFc⟩:∃ oF,X.K.lookup f=i' oF∧oF.cls=.type "function":=by
  cases hk:X.K.lookup f with
  | none=>rw[hk] at vF;cases vF
  | some oF=>rw[hk] at vF;exact⟨oF,O,VQ vF⟩
 have hz:us.length≤U2:=by rw[← r.length];exact z
 have J:=I1
 obtain⟨bX,g,d,tk,os⟩:=s1
 refine Mq Qfw T oC (Zi I1.Vv c.init) (I1.Vv _ _ hF) hFc hz ?_
 have kk:∀ b o,bX.get? b=i' o→((bX.push (mU us)).push (lU C bX.objs.size)).get? b=i' o:=fun b o e=>Sc _ (Sc _ e)
 have oX:((bX.push (mU us)).push (lU C bX.objs.size)).get? (bX.objs.size+1)=i' {cls:=.ref C,data:=.fields #[.ref bX.objs.size,.none,.none,.none,.bool M',.none]}:=by heap_get
 have fr:H1 (bX.objs.size+1)=B':=J.UZ.fresh (SH _)
 have I2:Inv X aa σ (upd H1 (bX.objs.size+1) (gB C bX.objs.size (bX.objs.size+1) B')) ⟨(bX.push (mU us)).push (lU C bX.objs.size),g,d,tk,os⟩:=
  J.laid (t':=tk) kk (SH _) ⟨oX,⟨_,oX⟩,fun h1 h2 p1 p2=>p2 _ p1⟩
 have q':=q (bX.objs.size+1) bX.objs.size fr
 have r2:aB (V.ref (bX.objs.size+1)::(vs++aH)) (U9 (bX.objs.size+1)::(us++ds)):=.cons O (r.append hd)
 have hl:(U9 (bX.objs.size+1)::us++ds).length=ps.length:=by
  have e:=r2.length
  rw[F.len _ _ _ _ q'] at e
  exact e.symm
 refine Tl (Z2 (F.run _ X.stack _ _ ⟨U9 (bX.objs.size+1)::us,[]⟩ (U9 (bX.objs.size+1)::(us++ds)) _ _ (R σ) (hr.make C us []) (I2.Qbu.make C us []) (hb _ (U9 (bX.objs.size+1)::us) I2.Vv hl) r2 q') fun rr s' fq=>?_)
 cases rr with
 | error e=>exact IN σ aa σ _ _ e s' I2 fq
 | ok fl=>
  cases fl with
  | ret u=>
   obtain⟨v,H',I3,rv,ev,dx,e3,q3⟩:=I2.after fq
   subst ev
   refine⟨rv,_,bX.objs.size,dx,O,fun o q=>I3.bk _ _ (C0 o q),(I3.UZ _ _ e3).1,?_⟩
   refine FO hp (I3.del e3) ?_ (I3.UZ _ _ e3).1 q3
   exact J.Xk (s:=⟨bX,g,d,tk,os⟩) (SH _) EB
  | next=>exact WB fq
  | brk=>exact WB fq
  | cont=>exact WB fq
inductive QiW (K:R') (f:C') (D:d8) (σ:St) (y:V) (x:V) (H2:Hp):Prop
 | mk (a C t:_) (_:x=.ref a) (_:H2 a=i' (gB C t a B')) (_:QaT K C f) (_:∀ dx,H2 dx=B'→D.nx σ (upd (upd H2 dx (.xd [(f,y)])) a (gB C t a (i' dx))))
def QiX (K:R') (ta tv:TE) (f:C'):TS:=fun D σ H=>tv σ H fun y H1=>ta σ H1 fun x H2=>QiW K f D σ y x H2
theorem AV {o:Vh}{ta tv:TE}{f:C'} (ha:PE X o ta) (hv:PE X value tv) (hs:Z8 value (i' (.Attribute o f a9)) pos.line X.env=pure M'):PS X (.Assign [.Attribute o f a9] value pos) (QiX X.K ta tv f):=by
 intro aa s σ H D I h
 refine QfF (U6 (hv aa s σ H _ I h) fun v s1=>L2.Ve fun y H1 I1 ry q1=>U6 (ha aa s1 σ H1 _ I1 q1) fun u s2=>L2.Ve fun x H2 I2 rx q2=>?_) hs
 obtain⟨a,C,t,rfl,e2,Z,q2⟩:=q2
 obtain rfl:u=U9 a:=rx
 have oa:=(I2.UZ _ _ e2).1
 refine MQ I2.Vv oa Z fun h' k1 k2 k3=>?_
 have dn:H2 s2.heap.objs.size=B':=I2.UZ.fresh (Sg _)
 have da:s2.heap.objs.size≠a:=(ao e2 dn).symm
 have old:∀ b o,s2.heap.get? b=i' o→b≠s2.heap.objs.size:=fun b o q=>Sh (Se q)
 have na:∀ b u,H2 b=i' u→(∀ ψ,u≠.ext ψ)→b≠a:=fun b u q n z=>by rw[z,e2] at q;cases q;exact n _ rfl
 have nd:∀ b u,H2 b=i' u→b≠s2.heap.objs.size:=fun b u q=>ao q dn
 have bn:∀ b u,H2 b=i' u→(∀ ψ,u≠.ext ψ)→upd (upd H2 s2.heap.objs.size (.xd [(f,y)])) a (gB C t a (i' s2.heap.objs.size)) b=i' u:=fun b u q n=>by rw[aj (na b u q n),aj (nd b u q)];exact q
 refine⟨σ,_,I2.un (t':=s2.toks+2) ⟨fun b o q n _ _=>k1 b o (fun z=>?_) q,fun b o q n _ _=>⟨o.slots,k1 b o (fun z=>?_) q⟩,fun b o q n _=>?_,fun b o q _=>?_,fun b xs q=>?_,fun b o u q=>?_,fun b pp pq q=>?_⟩ (fun b o q=>?_),q2 _ dn⟩
 .rw[z,e2] at n;cases n
 .rw[z,e2] at n;cases n
 .rw[aj (fun z=>by rw[z,e2] at n;cases n),aj (old b o q)];exact n
 .by_cases z:b=a
  .subst z;exact⟨_,k2⟩
  .exact⟨o,k1 b o z q⟩
 .exact bn b _ q (by intro ψ z;cases z)
 .exact bn b _ q (by intro ψ z;cases z)
 .exact bn b _ q (by intro ψ z;cases z)
 .by_cases z:b=a
  .subst z
   rw[ah] at q;cases q
   exact⟨k2,⟨_,k2⟩,fun h1 h2 p1 p2=>p2 _ p1⟩
  .rw[aj z] at q
   by_cases z2:b=s2.heap.objs.size
   .subst z2
    rw[ah] at q;cases q
    refine⟨_,k3,fun g=>?_⟩
    by_cases hg:g=f
    .subst hg;simpa [dW] using ry
    .have e0:([(f,y)]:List (C'×V)).lookup g=B':=by rw[Tf,show(g == f)=M' from by simpa using hg];rfl
     rw[e0,U4 hg];exact WW
   .rw[aj z2] at q
    refine(I2.UZ b o q).WZ (fun c u hc r=>k1 c u ?_ r) (fun c r=>bn c _ r (by intro ψ z;cases z)) (fun c xs r=>bn c _ r (by intro ψ z;cases z)) fun c ob r=>bn c _ r (by intro ψ z;cases z)
    rcases hc with hc|hc
    .rw[hc];exact z
    .exact na c _ hc (by intro ψ z;cases z)
end
section
open PySem.Builtin.ObjectAttr
structure XIs (K:R') (C:F'):Prop where
 ga:Wg K (.ref C) "__getattribute__"=i' (i' (.builtin "BaseException.__getattribute__"))
 gt:Wg K (.ref C) "__getattr__"=i' B'
 ba:Wl K C (.type "BaseException")=i' D'
 ob:Wl K C (.type "object")=i' D'
 cl:Wg K (.ref C) "__class__"=i' (i' (.builtin "object.__class__"))
 gs:Qdv K (.builtin "object.__class__") "__get__"=i' (i' (.builtin "getset_descriptor.__get__"))
 tk:Qgm K (.builtin "object.__class__")=i' D'
 hd:Qaw K C=D'
theorem OU {K:R'} (Z:XIs K C):Qgn K C od "__class__"=i' (.bind (.builtin "getset_descriptor.__get__") (.builtin "object.__class__")):=by
 obtain⟨cd,hc,_⟩:=QaC Z.hd
 unfold Qgn
 rw[hc,TC,Z.cl,TC]
 dsimp only
 rw[Z.gs,TC]
 dsimp only
 rw[Z.tk,TC]
section
variable {K:R'}{x:F'}
theorem OV (Z:XIs K C) (X:K.In s.heap) (J:Zo s.heap x ox C od) (aG:Q (i' (.ref C)) {s with toks:=s.toks+1}):L' (UV prog w) A (QaK (.ref x) "__class__") Q E s:=by
 have L1:=Zi (M:=UV prog w) X Z.ga
 have L2:=Zi (M:=UV prog w) X Z.gt
 have L3:=Qf6 (M:=UV prog w) X J (OU Z)
 have L0:=J.type (M:=UV prog w)
 have sW:Ya (UV prog w) s.heap (Zt (.ref x) (.type "BaseException")) D':=J.type.andThen (Qbd X Z.ba)
 obtain⟨hp,g,d,t,os⟩:=s
 unfold QaK Qef Qcw
 refine oG (wpAny_mkText (oG (SQ (Sn (oG (L0.at (oG (L1.at ?_))))))))
 show L' _ _ (if _ then _ else _) _ _ _
 rw[U4 (by rw[show(Qcj "BaseException.__getattribute__" == Qcj "object.__getattribute__")=M' by decide +kernel,Uz];decide)]
 unfold Qhp
 refine oG (L2.at (oG (SQ (Sn ?_))))
 unfold Qhi
 rw[U4 (by decide)]
 unfold QhC
 have G:=Qfx.ga
 refine oG ?_
 rw[G.bind]
 refine Sd (Tl (Qar G.plain QfV (@Qdq (UV prog w) _ _ ⟨hp,g,d,t+1,os⟩ "BaseException.__getattribute__" "BaseException" "__getattribute__" (.ref x) [.str "__class__" t] [] _ (by decide +kernel) (by decide +kernel) sW (QfZ (.ref x) (.str "__class__" t)) ?_)))
 refine oG (Sd (oG (Sd (oG (L0.at (oG (L3.at ?_)))))))
 refine oG (Sn (Tl (PySem.W.class_get (s:=⟨hp,g,d,t+1,os⟩) (ox:=ox) (od:=od) X J Z.ob (Sd ?_))))
 show L' _ _ (handedOut (.ref C)) _ _ _
 exact Sd (Sd aG)
theorem O2 (Z:XIs K C):PySem.W.KitX K (.ref x) (.ref C) (fun h=>Zo h x ox C od) where
 ty:=fun _ _ _ I=>I.type
 it:=fun _ _ X _=>by
  obtain⟨cD,jD,_⟩:=QaC Z.hd
  unfold Qce at jD
  split at jD
  .rename_i c1 d1 e1 s1 Vt
   intro A' Q' E' s' k q
   unfold isType loadHead
   exact oG (T6 (k _ _ (X _ _ Vt)) (Sd q))
  .cases jD
 ne:=fun h tp dd ag n sl X JK=>by
  obtain⟨cD,jD,_⟩:=QaC Z.hd
  refine Bool.eq_false_iff.mpr fun q=>?_
  obtain rfl:C=tp:=U9.inj (WQ.mp q)
  unfold Qce at jD
  split at jD
  .rename_i c1 d1 e1 s1 Vt
   have z:=(X _ _ Vt).symm.trans JK
   cases z
  .cases jD
 ca:=fun X I k=>OV Z X I k
end
structure Ym (H:Hp) (a C:F') (dd:Option F'):Prop where
 at_:∃ o u,H a=i' (.Vf o u)∧o.cls=.ref C∧o.dict=dd∧∃ vs,o.data=.fields vs
theorem Ym.inst (I:Inv X aa σ H s) (x:Ym H a C B'):∃ o,Zo s.heap a o C B':=by
 obtain⟨o,u,h1,h2,h3,vs,h4⟩:=x.at_
 exact⟨o,(I.UZ _ _ h1).1,h2,by unfold QdG;rw[h4],by rw[h3];exact WW⟩
theorem Ym.QiY {dx:F'}{fs:List (C'×V)} (I:Inv X aa σ H s) (x:Ym H a C (i' dx)) (hd:H dx=i' (.xd fs)):∃ o od,Zo s.heap a o C (i' od):=by
 obtain⟨o,u,h1,h2,h3,vs,h4⟩:=x.at_
 obtain⟨mA,n,_⟩:=I.UZ _ _ hd
 obtain⟨od,iO,_⟩:=A0 n
 exact⟨o,od,(I.UZ _ _ h1).1,h2,by unfold QdG;rw[h4],by rw[h3];exact iO⟩
def XDs (H:Hp):Option F'→Prop
 | none=>True
 | some dx=>∃ fs,H dx=i' (.xd fs)
theorem Ym.any (I:Inv X aa σ H s) (x:Ym H a C dd) (hd:XDs H dd):∃ o od,Zo s.heap a o C od:=by
 cases dd with
 | none=>obtain⟨o,h⟩:=x.inst I;exact⟨o,B',h⟩
 | some dx=>obtain⟨fs,hd⟩:=hd;obtain⟨o,od,h⟩:=x.QiY I hd;exact⟨o,i' od,h⟩
theorem Ps:fi X (.builtin "isinstance") (fun xs H Q=>∃ a C dd vc c b,xs=[.ref a,vc]∧Ym H a C dd∧XDs H dd∧XIs X.K C∧(∀ u,aA vc u→u=c)∧XT X.K (.ref C) c=i' b∧Q (.bl b) H):=by
 intro aa s σ H xs us Q I r h
 obtain⟨a,C,dd,vc,c,b,rfl,x,hd,Z,hc,e,q⟩:=h
 obtain⟨u,u',rfl,rx,ry⟩:=pG r
 obtain rfl:u=U9 a:=rx
 obtain rfl:=hc u' ry
 obtain⟨o,od,J⟩:=x.any I hd
 exact XR (O2 Z) I.Vv J e (fun z=>nomatch z) fun tk=>⟨.bl b,H,I.tok _,O,q⟩
inductive QiZ (K:R') (f:C') (Q:VK) (x:V) (H1:Hp):Prop
 | mk (a C dx fs v:_) (_:x=.ref a) (_:Ym H1 a C (i' dx)) (_:H1 dx=i' (.xd fs)) (_:QaU K C f) (_:fs.lookup f=i' v) (_:Q v H1)
def QeJ (K:R') (ta:TE) (f:C'):TE:=fun σ H Q=>ta σ H fun x H1=>QiZ K f Q x H1
theorem QJ {ta:TE}{f:C'} (he:PE X e ta) (hb:YV e f X.env (Vg e X.env)=Vg e X.env):PE X (.Attribute e f pos) (QeJ X.K ta f):=by
 intro aa s σ H Q I h
 refine HF hb (U6 (he aa s σ H _ I h) fun u s1=>L2.Ve fun x H1 I1 rx aQ=>?_)
 obtain⟨a,C,dx,fs,v,ex,ix,hd,Z,l,q⟩:=aQ
 subst ex
 obtain rfl:u=U9 a:=rx
 obtain⟨o,u',h1,h2,h3,hf⟩:=ix.at_
 obtain⟨mA,n,hm⟩:=I1.UZ _ _ hd
 have r:=hm f
 rw[l] at r
 obtain⟨w',e',r'⟩:=r.some_of
 exact PK I1.Vv (I1.UZ _ _ h1).1 h2 hf h3 n Z e' (HN r') ⟨v,H1,I1.tok _,r',q⟩
end
abbrev Cx.tr (X:Cx) (pn:List (F'×Vd)) (E:K'→UW→Prop):Cx:={X with pn:=pn,xe:=E}
abbrev Cx.hnd (X:Cx) (a:F') (H₀:Hp):Cx:={X with A:=X.A.mark (i' (.ref a)),H₀:=H₀,xe:=fun _ _=>False}
def ff (H H₀:Hp):Hp:=fun b=>match H b with|some (.Vf o u)=>i' (.Vf o u)|_=>H₀ b
theorem Az {b:F'}{u:HO} (e:H b=i' (.Vf o u)):ff H H₀ b=i' (.Vf o u):=by unfold ff;rw[e]
theorem xx {b:F'} (n:∀ o u,H b≠i' (.Vf o u)):ff H H₀ b=H₀ b:=by
 unfold ff
 split
 .rename_i o u e;exact U' e (n o u)
 .rfl
section
variable {c:K'}
theorem Inv.enter (hex:X.ex=[]) (I:Inv X aa σ H s) (x:Zb X aa H s.heap a c dd tb):∃ o,o.cls=c∧o.dict=dd∧(∃ vs,o.data=.fields vs)∧Inv (X.hnd a (ff (upd H a (.Vf o (.own a))) X.H₀)) aa σ (upd H a (.Vf o (.own a))) s:=by
 obtain⟨o,vs,h1,hc,iH,hd,hz,⟨cs,ch,h2⟩,qx⟩:=x.at_.ob
 obtain⟨f0,f1,f2,f3,f4,f5⟩:=x.fp
 have yh:X.s₀.heap.objs.size≤a:=by
  rcases f3 with z|z
  .rw[hex] at z;cases z
  .exact z
 refine⟨o,hc,iH,⟨vs,hd⟩,?_⟩
 have na:∀ b u,H b=i' u→b≠a:=fun b u q=>ao q f0
 have old:∀ b ob,X.s₀.heap.get? b=i' ob→b≠a:=fun b ob q=>Sh (Sj (Se q) yh)
 have bn:∀ b u,H b=i' u→upd H a (.Vf o (.own a)) b=i' u:=fun b u q=>by rw[aj (na b u q)];exact q
 have fN:∀ b,b≠a→H b=B'→upd H a (.Vf o (.own a)) b=B':=fun b z q=>by rw[aj z];exact q
 have my:∀ b,b≠a→H b=B'→ff (upd H a (.Vf o (.own a))) X.H₀ b=X.H₀ b:=fun b z q=>xx fun o' u' q'=>by rw[fN b z q] at q';cases q'
 have K:=I.ok
 refine {I with ok:=?_,base:=?_,free:=fN _ (U5 f1) I.free,Wx:=fun y cl q=>fN _ (f4 y cl q) (I.Wx y cl q),pin:=fun p hp=>?_,UZ:=fun b u q=>?_}
 .refine {mod:=K.mod,kind:=K.kind,glob:=K.glob,blt:=K.blt,above:=K.above,inj:=K.inj,has:=K.has,Zx:=K.Zx,hd:=?_,frames:=K.frames,Zy:=K.Zy,exf:=K.exf,bs:=fun b ob q=>?_,XH:=K.XH,Y6:=K.Y6,Zz:=K.Zz,W7:=K.W7,Yg:=fun b hb=>?_}
  .refine .inr ⟨a,cs,O,YT.mpr ⟨ch.Qbr f0,ch.1⟩,fun j b hj=>?_⟩
   cases j with
   | zero=>
    obtain rfl:a=b:=by simpa using hj
    exact⟨o,.own a,vs,Az ah,hd,h2⟩
   | succ j=>
    have JF:cs[j]?=i' b:=by simpa using hj
    obtain⟨o',u',ke,q1,q2,q3⟩:=ch.2 j b JF
    exact⟨o',u',ke,Az (bn _ _ q1),q2,q3⟩
  .obtain⟨q1,q2⟩:=K.bs b ob q
   obtain⟨_,q3⟩:=I.bs b ob q
   exact⟨q1,(my b (old b ob q1) q3).trans q2⟩
  .have nV:b∈X.fs:=hb
   have:=K.Yg b nV
   have K6:b≠a:=fun z=>f2 (z ▸ nV)
   have h3:H b=B':=I.QaN b (by
    rcases K.Zy with z|⟨z,y⟩
    .rw[z];exact nV
    .rw[z];unfold VR;rw[TF,y];exact Sw _ nV)
   exact(my b K6 h3).trans this
 .obtain⟨b1,b2,b3,b4,b5,b6,b7⟩:=I.base
  have back:∀ b ob,X.s₀.heap.get? b=i' ob→ff (upd H a (.Vf o (.own a))) X.H₀ b=B'→X.H₀ b=B':=fun b ob q n=>by
   unfold ff at n
   split at n
   .cases n
   .exact n
  refine⟨fun b ob q n=>b1 b ob q (back b ob q n),fun b ob q n=>b2 b ob q (back b ob q n),fun b ob q n z=>fN b (old b ob q) (b3 b ob q (back b ob q n) z),b4,fun b xs q=>?_,fun b ob u q=>?_,fun b pp pq q=>?_⟩
  .replace q:ff (upd H a (.Vf o (.own a))) X.H₀ b=_:=q
   unfold ff at q
   split at q
   .cases q
   .exact bn _ _ (b5 b xs q)
  .replace q:ff (upd H a (.Vf o (.own a))) X.H₀ b=_:=q
   unfold ff at q
   split at q
   .rename_i e;rw[← q];exact e
   .exact bn _ _ (b6 b ob u q)
  .replace q:ff (upd H a (.Vf o (.own a))) X.H₀ b=_:=q
   unfold ff at q
   split at q
   .cases q
   .exact bn _ _ (b7 b pp pq q)
 .obtain⟨p1,p2,p3⟩:=I.pin p hp
  exact⟨p1,fN _ (f5 p hp) p2,p3⟩
 .by_cases z:b=a
  .subst z
   rw[ah] at q;cases q
   exact⟨h1,⟨_,h1⟩⟩
  .rw[aj z] at q
   exact(I.UZ b u q).WZ (fun c' u' _ r=>r) (fun c' r=>bn _ _ r) (fun c' xs r=>bn _ _ r) fun c' ob r=>bn _ _ r
theorem Inv.leave (hex:X.ex=[]) (I:Inv X aa σ H s) (fp:bI X aa H a) (J:Inv (X.hnd a (ff (upd H a (.Vf o (.own a))) X.H₀)) aa σ' H' s'):Inv X aa σ' H' s':=by
 obtain⟨f0,f1,f2,f3,f4,f5⟩:=fp
 have yh:X.s₀.heap.objs.size≤a:=by
  rcases f3 with z|z
  .rw[hex] at z;cases z
  .exact z
 have na:∀ b u,H b=i' u→b≠a:=fun b u q=>ao q f0
 have old:∀ b ob,X.s₀.heap.get? b=i' ob→b≠a:=fun b ob q=>Sh (Sj (Se q) yh)
 have e1:∀ b ob,X.s₀.heap.get? b=i' ob→X.H₀ b=B'→ff (upd H a (.Vf o (.own a))) X.H₀ b=B':=fun b ob q n=>by
  have hb:H b=B':=I.base.free b ob q n (by rw[hex];simp)
  rw[xx fun o' u' q'=>by rw[aj (old b ob q),hb] at q';cases q'];exact n
 obtain⟨b1,b2,b3,b4,b5,b6,b7⟩:=J.base
 refine {J with ok:=I.ok,base:=⟨fun b ob q n=>b1 b ob q (e1 b ob q n),fun b ob q n=>b2 b ob q (e1 b ob q n),fun b ob q n=>b3 b ob q (e1 b ob q n),b4,fun b xs q=>b5 b xs ?_,fun b ob u q=>b6 b ob u ?_,fun b pp pq q=>b7 b pp pq ?_⟩}
 .have h:=I.base.Xv b xs q
  show ff _ _ _=_
  rw[xx fun o' u' q'=>by rw[aj (na _ _ h),h] at q';cases q'];exact q
 .have h:=I.base.W0 b ob u q
  exact Az (by rw[aj (na _ _ h)];exact h)
 .have h:=I.base.Xj b pp pq q
  show ff _ _ _=_
  rw[xx fun o' u' q'=>by rw[aj (na _ _ h),h] at q';cases q'];exact q
theorem EF {Q:Bool→UW→Prop}{K:R'}{e:F'} (X:K.In s.heap) (he:s.heap.get? e=i' oe) (hc:oe.cls=.ref C) (hb:Wl K C (.ref D)=i' b)
  (hB:Wl K D (.type "BaseException")=i' D') (hT:W3 K (.ref D)=i' (.type "type")) (aG:Q b s):L' M A (excMatches (.ref e) (.ref D)) Q E s:=by
 have L1:=PySem.W.looks_typeIn (M:=M) X hT
 have L2:=Qbd (M:=M) X hB
 have L3:=Qbd (M:=M) X hb
 have L4:Ya M s.heap (isType (.ref D)) D':=by
  obtain⟨cd,h1,_⟩:=QfO.mp hB
  unfold Qce at h1
  split at h1
  .rename_i c1 d1 e1 s1 Vt
   intro A' Q' E' s' k q
   unfold isType loadHead
   exact oG (T6 (k _ _ (X _ _ Vt)) (Sd q))
  .cases h1
 have L5:Ya M s.heap (Zt (.ref D) (.type "tuple")) M':=L1.andThen (Qmj tc_notTuple)
 have L6:Ya M s.heap (typeOf (.ref e)) (.ref C):=(Qmk he).andThen (by rw[hc];exact .now)
 have L7:Ya M s.heap (isExcClass (.ref D)) D':=L4.andThen L2
 unfold excMatches
 refine oG (L5.here ?_)
 simp only[SC,Wc]
 refine oG (Sd (oG ?_))
 simp only[Tv,T9]
 refine oG (oG (L7.here ?_))
 simp only[QgY,SC,Wc]
 refine Sd (Sd (oG (L6.here (oG (oG (oG (L3.here ?_)))))))
 cases b with
 | true=>
  simp only[Xi]
  exact Sd (Sd (Sd aG))
 | false=>
  simp only[SC,Wc]
  exact Sd (Sd (Sd aG))
theorem w6 {n:C'}{Q:Unit→UW→Prop} (I:Inv X aa σ H s) (hN:X.N.Nodup) (hi:X.N[i]?=i' n) (hk:X.env.kindOf n=i' .local)
  (aG:∀ s',Inv X aa (σ.set i B') H s'→Q () s'):L' M A (do bindName X.env n .none;QgB X.env n pos) Q E s:=by
 obtain⟨m,hn,hl⟩:=id I.loc
 have oP:(X.env.scope.kind == .class || (X.env.scope.kind == .module && X.env.locals != X.env.globals))=M':=by rw[I.ok.kind];rfl
 obtain⟨oL,_,_,B5,_⟩:=id hn
 refine wpAny_nameGoes_keeps hk hn oP fun h' v lj hs=>aG _ ?_
 have lo:∀ b o,X.s₀.heap.get? b=i' o→b≠X.env.locals:=fun b o e=>Sh (Sj (Se e) I.ok.above)
 refine {ok:=I.ok,os:=I.os,bare:=I.bare,base:=⟨fun b o e n hb hx=>(hs.2 b (lo b o e)).trans (I.base.keep b o e n hb hx),fun b o e n hb hx=>?_,I.base.free,fun b o e hx=>?_,I.base.Xv,I.base.W0,I.base.Xj⟩,loc:=⟨_,lj,fun j y v' e1 e2 e3=>?_⟩,cell:=fun y c e=>?_,free:=I.free,Wx:=I.Wx,pin:=fun p hp=>?_,UZ:=fun b ob e=>?_,len:=by simpa using I.len}
 .obtain⟨sl,e1⟩:=I.base.slot b o e n hb hx
  exact⟨sl,(hs.2 b (lo b o e)).trans e1⟩
 .obtain⟨o',e1⟩:=I.base.there b o e hx
  exact⟨o',(hs.2 b (lo b o e)).trans e1⟩
 .have hj:j≠i:=fun z=>by
   subst z
   have wa:j<σ.length:=by rw[I.len];exact(VI.mp hi).1
   rw[Tw wa] at e2
   cases e2
  rw[TB (U5 hj)] at e2
  obtain⟨u',r',q⟩:=hl j y v' e1 e2 e3
  refine⟨u',r',?_⟩
  rcases q with⟨k,e⟩|⟨k,c,e,z⟩
  .refine .inl ⟨k,?_⟩
   have:y≠n:=fun e=>hj (Aj hN e1 (e ▸ hi))
   simp[this,e]
  .exact .inr ⟨k,c,e,z.sameBut hs (I.YF y c e)⟩
 .obtain⟨w',z⟩:=I.cell y c e
  exact⟨w',z.sameBut hs (I.YF y c e)⟩
 .obtain⟨e,n,ne,nf,d⟩:=I.pin p hp
  exact⟨(hs.2 p.1 ne).trans e,n,ne,nf,d⟩
 .refine(I.UZ b ob e).WZ (fun c w' hc q=>(hs.2 c ?_).trans q) (fun _ q=>q) fun _ _ q=>q
  rintro rfl
  rcases hc with hc|hc
  .rw[← hc,I.free] at e;cases e
  .rw[I.free] at hc;cases hc
end
abbrev ZH:=F'×Option Nat×TS
def d8.as (D:d8) (i:Nat):d8:=⟨fun σ H=>D.nx (σ.set i B') H,D.rt,fun σ H=>D.bk (σ.set i B') H,fun σ H=>D.ct (σ.set i B') H⟩
def wL (K:R'):List ZH→d8→RK
 | [],_,_,_,_,_=>False
 | (D,i,t)::r,En,σ,c,dd,H=>∃ C b,c=.ref C∧Wl K C (.ref D)=i' b∧if b=D' then ∀ a o,H a=B'→o.cls=c→o.dict=dd→(∃ vs,o.data=.fields vs) →
   (match i with|none=>t En σ (upd H a (.Vf o (.own a)))|some i=>t (En.as i) (σ.set i (i' (.ref a))) (upd H a (.Vf o (.own a)))) else wL K r En σ c dd H
inductive YH (X:Cx):List Qcp→List ZH→Prop where
 | nil:YH X [] []
 | one {x:C'}{np pos:VZ}{b₀:Vc}{su:List Vc}{D:F'}{t:TS}{hs:List Qcp}{ts:List ZH} (hg:Gl X x) (hm:X.mg x=i' (.ref D)) (hB:Wl X.K D (.type "BaseException")=i' D') (hT:W3 X.K (.ref D)=i' (.type "type"))
   (V0:(x == ("__debug__":C'))=M') (hb:∀ a H₀,Wy (X.hnd a H₀) (b₀::su) t) (r:YH X hs ts):YH X (.ExceptHandler (i' (.Name x np)) B' (b₀::su) pos::hs) ((D,B',t)::ts)
 | YI {x n:C'}{i:Nat}{np pos:VZ}{b₀:Vc}{su:List Vc}{D:F'}{t:TS}{hs:List Qcp}{ts:List ZH} (hg:Gl X x) (hm:X.mg x=i' (.ref D)) (hB:Wl X.K D (.type "BaseException")=i' D') (hT:W3 X.K (.ref D)=i' (.type "type"))
   (V0:(x == ("__debug__":C'))=M') (hN:X.N.Nodup) (hi:X.N[i]?=i' n) (hk:X.env.kindOf n=i' .local) (hb:∀ a H₀,Wy (X.hnd a H₀) (b₀::su) t) (r:YH X hs ts):YH X (.ExceptHandler (i' (.Name x np)) (i' n) (b₀::su) pos::hs) ((D,i' i,t)::ts)
theorem Ep {Q:K'→UW→Prop} (I:Inv X aa σ H s) (hg:Gl X x) (hm:X.mg x=i' u) (h:Q u s)
  (hd:(x == ("__debug__":C'))=M'):L' (UV X.prog X.w) A (Vg (.Name x pos) X.env) Q E s:=
 Qdg I.ok.kind hg (QfW (by rw[I.ok.glob];exact I.mod.glob.keeps I.bk) hm h) hd
theorem SP.leave {aa:List (F'×Vd)}{σ:St}{H:Hp}{s s':UW}{a:F'}{o:Vd}{D:d8}{f:X3} (hex:X.ex=[]) (I:Inv X aa σ H s) (fp:bI X aa H a) (h:SP (X.hnd a (ff (upd H a (.Vf o (.own a))) X.H₀)) aa D f s'):SP X aa D f s':=by
 cases f with
 | next=>obtain⟨σ',H',J,q⟩:=h;exact⟨σ',H',I.leave hex fp J,q⟩
 | brk=>obtain⟨σ',H',J,q⟩:=h;exact⟨σ',H',I.leave hex fp J,q⟩
 | cont=>obtain⟨σ',H',J,q⟩:=h;exact⟨σ',H',I.leave hex fp J,q⟩
 | ret u=>obtain⟨v,σ',H',J,q⟩:=h;exact⟨v,σ',H',I.leave hex fp J,q⟩
theorem SP.YI {A:V2}{E:K'→UW→Prop}{aa:List (F'×Vd)}{s:UW}{i:Nat}{n:C'}{pos:VZ}{D:d8}{f:X3} (hN:X.N.Nodup) (hi:X.N[i]?=i' n) (hk:X.env.kindOf n=i' .local) (h:SP X aa (D.as i) f s) :
  L' (UV X.prog X.w) A (do bindName X.env n .none;QgB X.env n pos) (fun _ s'=>SP X aa D f s') E s:=by
 cases f with
 | next=>obtain⟨σ',H',J,q⟩:=h;exact w6 J hN hi hk fun s' J'=>⟨_,H',J',q⟩
 | brk=>obtain⟨σ',H',J,q⟩:=h;exact w6 J hN hi hk fun s' J'=>⟨_,H',J',q⟩
 | cont=>obtain⟨σ',H',J,q⟩:=h;exact w6 J hN hi hk fun s' J'=>⟨_,H',J',q⟩
 | ret u=>obtain⟨v,σ',H',J,q⟩:=h;exact w6 J hN hi hk fun s' J'=>⟨v,_,H',J',q⟩
theorem Mm {ts:List ZH} (hex:X.ex=[]) (P:YH X hs ts):∀ {aa:List (F'×Vd)}{σ:St}{H:Hp}{s:UW}{a:F'}{c:K'}{dd:Option F'}{T:F'}{D:d8},Inv X aa σ H s→Zb X aa H s.heap a c dd (i' (T,.none))→wL X.K ts D σ c dd H →
  L' (UV X.prog X.w) X.A (handleBy (.ref a) X.env hs) (SP X aa D) X.xe s:=by
 induction P with
 | nil=>intro aa σ H s a c dd T D I x h;exact h.elim
 | @one x np pos b₀ su Dc t hs ts hg hm hB hT V0 hb r ih=>
  intro aa σ H s a c dd T D I x h
  obtain⟨C,b,rfl,oY,h⟩:=h
  obtain⟨o,vs,h1,hc,_⟩:=x.at_.ob
  refine UG (Qgx (Ep I hg hm (EF I.Vv h1 hc oY hB hT ?_) V0)) (by intro q;cases q)
  cases b with
  | false=>exact ih I x (by simpa using h)
  | true=>
   refine codeAny_handlers_suite (I.land x fun s1 I1 x1=>?_)
   obtain⟨o1,g1,g2,g3,J⟩:=I1.enter hex x1
   rw[U3 rfl] at h
   refine SE (hb a _ aa s1 σ _ D J (h a o1 x1.fp.1 g1 g2 g3)) (fun f s2 z=>z.leave hex I1 x1.fp) fun _ _ z=>z.elim
 | @YI x n i np pos b₀ su Dc t hs ts hg hm hB hT V0 hN hi hk hb r ih=>
  intro aa σ H s a c dd T D I x h
  obtain⟨C,b,rfl,oY,h⟩:=h
  obtain⟨o,vs,h1,hc,_⟩:=x.at_.ob
  refine UG (Qgx (Ep I hg hm (EF I.Vv h1 hc oY hB hT ?_) V0)) (by intro q;cases q)
  cases b with
  | false=>exact ih I x (by simpa using h)
  | true=>
   refine codeAny_handlers_suite_as (I.land x fun s1 I1 x1=>?_)
   obtain⟨o1,g1,g2,g3,J⟩:=I1.enter hex x1
   rw[U3 rfl] at h
   refine Aq (X:=X.hnd a _) J hN hi (.inl hk) (v:=.ref a) O (fun s2 J2=>?_) (.inr hk)
   exact SE (hb a _ aa s2 _ _ (D.as i) J2 (h a o1 x1.fp.1 g1 g2 g3)) (fun f s3 z=>(z.leave hex I1 x1.fp).YI hN hi hk) fun _ _ z=>z.elim
def Qi0 (K:R') (ts:List ZH) (tb:RK→TS) (te:TS):TS:=fun D σ H=>tb (wL K ts D) {D with nx:=fun σ H=>te D σ H} σ H
theorem Qi1 {body jx:List Vc}{h₀:Qcp}{ts:List ZH}{tb:RK→TS}{te:TS} (B:Body X) (hex:X.ex=[]) (P:YH X (h₀::hs) ts)
  (hb:∀ (pn:List (F'×Vd)) (E:K'→UW→Prop) (R:RK),PX (X.tr pn E) R→Qek (UV X.prog X.w) X.A X.env E→Wy (X.tr pn E) body (tb R)) (he:Wy X jx te):PS X (.Try body (h₀::hs) jx [] pos) (Qi0 X.K ts tb te):=by
 intro aa s σ H D I h
 refine wpAny_Try_except ?_
 have to:∀ {bR σ' H' s'},Inv X aa σ' H' s'→Inv (X.tr (X.pn++aa) bR) [] σ' H' s':=fun {bR σ' H' s'} J=>{J with pin:=fun p hp=>J.pin p (by simpa using hp),ok:={J.ok with} }
 have rO:∀ {E' bR σ' H' s'},Inv (X.tr (X.pn++aa) E') bR σ' H' s'→Inv X aa σ' H' s':=fun {E' bR σ' H' s'} J=>{J with pin:=fun p hp=>J.pin p (SD _ hp),ok:={J.ok with} }
 refine SE (hb (X.pn++aa) (fun e s₁=>L' (UV X.prog X.w) X.A (Qcv e X.env) (fun _ s₂=>L' (UV X.prog X.w) X.A (Qeh e B') (fun _ s₃=>L' (UV X.prog X.w) X.A (handleBy e X.env (h₀::hs)) (SP X aa D) X.xe s₃) X.xe s₂) X.xe s₁)
  (wL X.K ts D) ?_ Qek.looking [] s σ H _ (to I) h) (fun f s1 z=>?_) fun _ _ z=>z
 .intro bR σ' H' s' a c dd tb J x hR
  have J':=rO J
  have x':Zb X aa H' s'.heap a c dd (tb.map fun T=>(T,VD)):=⟨⟨x.fp.1,x.fp.2.1,x.fp.2.2.1,x.fp.2.2.2.1,x.fp.2.2.2.2.1,fun p hp=>x.fp.2.2.2.2.2 p (SD _ hp)⟩,fun p q=>by
   have y:=x.YG p q
   exact⟨y.1,y.2.1,y.2.2.1,y.2.2.2.1,y.2.2.2.2.1,fun p hp=>y.2.2.2.2.2 p (SD _ hp)⟩,x.at_⟩
  refine J'.note B x' HW fun s2 T I2 x2=>?_
  exact I2.land x2 fun s3 I3 x3=>Mm hex P I3 x3 hR
 .cases f with
  | next=>obtain⟨σ',H',J,q⟩:=z;exact he aa s1 σ' H' D (rO J) q
  | brk=>obtain⟨σ',H',J,q⟩:=z;exact⟨σ',H',rO J,q⟩
  | cont=>obtain⟨σ',H',J,q⟩:=z;exact⟨σ',H',rO J,q⟩
  | ret u=>obtain⟨v,σ',H',J,q⟩:=z;exact⟨v,σ',H',rO J,q⟩
structure dX (K:R') (x qual:C') (st:Vc) (f:F') (fd:XE):Prop where
 ex:∃ (oc:K') (od:Option F') (dV kV bP pm:K') (an:Option F') (aw ct:K') (dH:Array (Option K')),
  fd=YW x qual (pU st) (jN st) (ay st) dV kV bP pm an aw ct∧K.lookup f=i' ⟨oc,od,.func fd,dH⟩∧Yu K aw qual=D'
theorem qL {K:R'}{od an:Option F'}{dV kV bP aw:K'} (l:K.lookup f=i' ⟨oc,od,.func (YW x qual (pU st) (jN st) (ay st) dV kV bP pm an aw ct),dH⟩)
  (c:Yu K aw qual=D'):dX K x qual st f (YW x qual (pU st) (jN st) (ay st) dV kV bP pm an aw ct):=⟨⟨oc,od,dV,kV,bP,pm,an,aw,ct,dH,O,l,c⟩⟩
section
variable {P:Vy}{K:R'}
theorem dX.ok {k:Nat} (F:dX K x qual st f fd) (S:aI N ps (ay st)) (len:∀ vs H Q E,sp vs H Q E→vs.length=ps.length)
  (cq:∀ (aw:K') (A:V2) (outer:List Wh) (s:UW) (H:Hp) (vs:List V) (Q:VK) (E:XK),bj k (A.deeper (X2 qual (ay st) s.heap.objs.size f aw))→sp vs H Q E →
   ∃ t,Wy (jh Vp P w K mg base N qual (ay st) f aw A outer s H E).ZA (jN st) t∧t {nx:=fun _ H'=>Q .U8 H',rt:=Q} (jU N vs) H):cg P w K mg base Vp (k+1) f fd ps sp:=by
 obtain⟨oc,od,dV,kV,bP,pm,an,aw,ct,dH,rfl,lk,gq⟩:=F.ex
 refine A1 lk gq S len fun A outer s H vs Q E hr jb=>?_
 obtain⟨t,h,q⟩:=cq aw A outer s H vs Q E hr jb
 exact⟨t,h.ZA,q⟩
theorem dX.Xm {k:Nat} (F:dX K x qual st f fd) (S:aI N ps (ay st)) (len:∀ vs H Q E,sp vs H Q E→vs.length=ps.length)
  (cq:∀ (aw:K') (A:V2) (outer:List Wh) (s:UW) (H:Hp) (vs:List V) (Q:VK) (E:XK),bj k (A.deeper (X2 qual (ay st) s.heap.objs.size f aw))→sp vs H Q E →
   ∃ t,Wy (jh (Wa P w) P w K mg base N qual (ay st) f aw A outer s H E) (jN st) t∧t {nx:=fun _ H'=>Q .U8 H',rt:=Q} (jU N vs) H):cg P w K mg base (Wa P w) (k+1) f fd ps sp:=by
 obtain⟨oc,od,dV,kV,bP,pm,an,aw,ct,dH,rfl,lk,gq⟩:=F.ex
 exact A1 lk gq S len fun A outer s H vs Q E hr jb=>cq aw A outer s H vs Q E hr jb
end
structure Def (K:R') (mg:C'→Option K') (x:C') (st:Vc) (ps:List C') (aH:List V):Prop where
 ex:∃ f fd ds,dX K x x st f fd∧mg x=i' (.ref f)∧XC K (.ref f)=D'∧eB K fd ps ds∧aB aH ds
structure Met (K:R') (C:F') (m qual:C') (st:Vc) (ps:List C') (aH:List V):Prop where
 ex:∃ f fd ds,dX K m qual st f fd∧QaS K C m f∧eB K fd ps ds∧aB aH ds
structure Ini (K:R') (mg:C'→Option K') (C:F') (x qual:C') (st:Vc) (ps:List C'):Prop where
 ex:∃ f fd,dX K "__init__" qual st f fd∧Mk K C f∧mg x=i' (.ref C)∧eB K fd ps []
structure rb (K:R') (mg:C'→Option K') (C:F') (x qual:C') (st:Vc) (ps:List C'):Prop where
 ex:∃ f fd,dX K "__init__" qual st f fd∧XCI K C f∧mg x=i' (.ref C)∧eB K fd ps []
structure Vz (P:Vy) (w:VL) (K:R') (mg:C'→Option K') (base:Vo) (CX:XI) (k:Nat) (x:C') (ps:List C') (aH:List V) (sp:Sp):Prop where
 ex:∃ f fd ds,cg P w K mg base CX k f fd ps sp∧mg x=i' (.ref f)∧XC K (.ref f)=D'∧eB K fd ps ds∧aB aH ds
structure eW (P:Vy) (w:VL) (K:R') (mg:C'→Option K') (base:Vo) (CX:XI) (k:Nat) (C:F') (m:C') (ps:List C') (aH:List V) (sp:Sp):Prop where
 ex:∃ f fd ds,cg P w K mg base CX k f fd ps sp∧QaS K C m f∧eB K fd ps ds∧aB aH ds
structure re (P:Vy) (w:VL) (K:R') (mg:C'→Option K') (base:Vo) (CX:XI) (k:Nat) (C:F') (x:C') (ps:List C') (sp:Sp):Prop where
 ex:∃ f fd,cg P w K mg base CX k f fd ps sp∧Mk K C f∧mg x=i' (.ref C)∧eB K fd ps []
structure vf (P:Vy) (w:VL) (K:R') (mg:C'→Option K') (base:Vo) (CX:XI) (k:Nat) (C:F') (x:C') (ps:List C') (sp:Sp):Prop where
 ex:∃ f fd,cg P w K mg base CX k f fd ps sp∧XCI K C f∧mg x=i' (.ref C)∧eB K fd ps []
section
variable {P:Vy}{K:R'}{k:Nat}{m:C'}
theorem Def.Vq (D:Def K mg x st ps aH) (h:∀ f fd,dX K x x st f fd→cg P w K mg base CX k f fd ps sp):Vz P w K mg base CX k x ps aH sp:=
 let ⟨f,fd,ds,F,r⟩:=D.ex;⟨f,fd,ds,h f fd F,r⟩
theorem Met.Vq (D:Met K C m qual st ps aH) (h:∀ f fd,dX K m qual st f fd→cg P w K mg base CX k f fd ps sp):eW P w K mg base CX k C m ps aH sp:=
 let ⟨f,fd,ds,F,r⟩:=D.ex;⟨f,fd,ds,h f fd F,r⟩
theorem Ini.Vq (D:Ini K mg C x qual st ps) (h:∀ f fd,dX K "__init__" qual st f fd→cg P w K mg base CX k f fd ps sp):re P w K mg base CX k C x ps sp:=
 let ⟨f,fd,F,r⟩:=D.ex;⟨f,fd,h f fd F,r⟩
theorem rb.Vq (D:rb K mg C x qual st ps) (h:∀ f fd,dX K "__init__" qual st f fd→cg P w K mg base CX k f fd ps sp):vf P w K mg base CX k C x ps sp:=
 let ⟨f,fd,F,r⟩:=D.ex;⟨f,fd,h f fd F,r⟩
end
def Qi2 (sp:Sp) (aH:List V) (R:RK) (t:TA):TE:=fun σ H Q=>t σ H fun vs H1=>sp (vs++aH) H1 Q (R σ)
inductive Lv (C:F') (m:C') (sp:Sp) (aH:List V) (R:RK) (t:TA) (σ:St) (Q:VK) (x:V) (H1:Hp):Prop
 | mk (a dx fs:_) (_:x=.ref a) (_:H1 a=i' (.ins C dx fs)) (_:fs.lookup m=B') (_:t σ H1 fun vs H2=>sp (x::(vs++aH)) H2 Q (R σ))
def Qi3 (C:F') (m:C') (sp:Sp) (aH:List V) (R:RK) (ta:TE) (t:TA):TE:=fun σ H Q=>ta σ H fun x H1=>Lv C m sp aH R t σ Q x H1
section
variable {k:Nat}{R:RK}{m:C'}{aL:VZ}{o:Vh}{ta:TE}{t:TA}
theorem rC:PX X (fun _ _ _ _=>False):=fun _ _ _ _ _ _ _ _ _ _ h=>h.elim
theorem Fk {Q:VK}{vs:List V} (F:cg X.prog X.w X.K X.mg X.base (Wa X.prog X.w) k f fd ps sp) (hp:PX X R) (hr:bj k X.A)
  (hb:eB X.K fd ps ds) (hd:aB aH ds) (I:Inv X aa σ H s) (r:aB vs us) (h:sp (vs++aH) H Q (R σ)):L' (UV X.prog X.w) X.A (call (.ref f) us) (EP X aa σ Q) X.xe s:=by
 have r2:aB (vs++aH) (us++ds):=r.append hd
 have hl:(us++ds).length=ps.length:=by rw[← r2.length];exact F.len _ _ _ _ h
 refine Tl (Z2 (F.run X.A X.stack s H ⟨us,[]⟩ (us++ds) (vs++aH) Q (R σ) hr I.Qbu (hb s us I.Vv hl) r2 h) fun r s' hq=>?_)
 cases r with
 | error e=>exact MD hp aa σ H s e s' I hq
 | ok fl=>cases fl<;>first | exact I.after hq | exact WB hq
theorem br (c:Vz X.prog X.w X.K X.mg X.base Vp k x ps aH sp) (hr:bj k X.A) (hg:Gl X x) (ha:PA X (e::es) t) (V0:(x == ("__debug__":C'))=M':=by decide)
  (he:Vk (e::es) X.env=(M',Vg e X.env)::Vk es X.env:=by rfl) (ck:(VP pos (Vk es X.env)).any (·.1)=M':=by rfl):PE X (.Call (.Name x p) (e::es) [] pos) (Qez sp aH E0 t):=by
 obtain⟨f,fd,ds,F,hm,hk,hb,hd⟩:=c.ex
 exact QW F hr hg hm hk hb hd uD ha V0 he ck
theorem rq (c:Vz X.prog X.w X.K X.mg X.base (Wa X.prog X.w) k x ps aH sp) (hp:PX X R) (hr:bj k X.A) (hg:Gl X x) (ha:PA X (e::es) t) (V0:(x == ("__debug__":C'))=M':=by decide)
  (he:Vk (e::es) X.env=(M',Vg e X.env)::Vk es X.env:=by rfl) (ck:(VP pos (Vk es X.env)).any (·.1)=M':=by rfl):PE X (.Call (.Name x p) (e::es) [] pos) (Qi2 sp aH R t):=by
 obtain⟨f,fd,ds,F,hm,hk,hb,hd⟩:=c.ex
 intro aa s σ H Q I h
 refine SK (pW I hg hm ?_ V0)
 refine Qas (h₀:=X.base) I.ok.mod.YE hk (U6 (ha pos aa s σ H _ I h) fun us s1=>L2.Ve fun vs H1 I1 r q=>⟨I1.Vv,?_⟩) he ck
 exact Fk F hp hr hb hd I1 r q
theorem pM (he:PE X o ta) (cl:WD X.K C) (c:eW X.prog X.w X.K X.mg X.base Vp k C m ps aH sp) (hr:bj k X.A) (ha:PA X (e::es) t)
  (cO:Vk (e::es) X.env=(M',Vg e X.env)::Vk es X.env:=by rfl) (ck:(VP pos (Vk es X.env)).any (·.1)=M':=by rfl)
  (ht:Vg (.Call (.Attribute o m aL) (e::es) [] pos) X.env=(do
   let ov ← Vg o X.env
   Zu aL.atName
   let (f,first) ← WX [ov] (Z9 ov m pl)
   Qbn pos f first (VP pos (Vk (e::es) X.env)) (Xs pos (Xr [] X.env))):=by rfl) :
  PE X (.Call (.Attribute o m aL) (e::es) [] pos) (wK C m sp aH E0 ta t):=by
 obtain⟨f,fd,ds,F,hm,hb,hd⟩:=c.ex
 exact MX (pl:=pl) he cl hm F hr hb hd uD ha cO ck ht
theorem iB (he:PE X o ta) (cl:WD X.K C) (c:eW X.prog X.w X.K X.mg X.base Vp k C m ps aH sp) (hr:bj k X.A)
  (ht:Vg (.Call (.Attribute o m aL) [] [] pos) X.env=(do
   let ov ← Vg o X.env
   Zu aL.atName
   let (f,first) ← WX [ov] (Z9 ov m pl)
   Qbn pos f first (VP pos (Vk [] X.env)) (Xs pos (Xr [] X.env))):=by rfl) :
  PE X (.Call (.Attribute o m aL) [] [] pos) (wK C m sp aH E0 ta mT):=by
 obtain⟨f,fd,ds,F,hm,hb,hd⟩:=c.ex
 exact Qy (pl:=pl) he cl hm F hr hb hd uD ht
theorem g8 (he:PE X o ta) (cl:WD X.K C) (c:eW X.prog X.w X.K X.mg X.base (Wa X.prog X.w) k C m ps aH sp) (hp:PX X R) (hr:bj k X.A) (ha:PA X (e::es) t)
  (cO:Vk (e::es) X.env=(M',Vg e X.env)::Vk es X.env:=by rfl) (ck:(VP pos (Vk es X.env)).any (·.1)=M':=by rfl)
  (ht:Vg (.Call (.Attribute o m aL) (e::es) [] pos) X.env=(do
   let ov ← Vg o X.env
   Zu aL.atName
   let (f,first) ← WX [ov] (Z9 ov m pl)
   Qbn pos f first (VP pos (Vk (e::es) X.env)) (Xs pos (Xr [] X.env))):=by rfl) :
  PE X (.Call (.Attribute o m aL) (e::es) [] pos) (Qi3 C m sp aH R ta t):=by
 obtain⟨f,fd,ds,F,hm,hb,hd⟩:=c.ex
 intro aa s σ H Q I h
 refine Qdm (pl:=pl) (U6 (he aa s σ H _ I h) fun u s1=>L2.Ve fun x H1 I1 rx aQ=>?_) ht
 obtain⟨a,dx,fs,ex,ea,l,q⟩:=aQ
 subst ex
 obtain rfl:u=U9 a:=rx
 refine An I1 ea cl hm l ?_
 refine Qas (first:=[.ref a]) (h₀:=X.base) I.ok.mod.YE hm.kp (U6 (ha pos aa s1 σ H1 _ I1 q) fun us s2=>L2.Ve fun vs H2 I2 r q2=>⟨I2.Vv,?_⟩) cO ck
 exact Fk (us:=.ref a::us) (vs:=.ref a::vs) F hp hr hb hd I2 (.cons O r) q2
theorem PN (c:re X.prog X.w X.K X.mg X.base Vp k C x ps sp) (hr:bj (k+1) X.A) (hg:Gl X x) (ha:PA X (e::es) t) (V0:(x == ("__debug__":C'))=M':=by decide)
  (he:Vk (e::es) X.env=(M',Vg e X.env)::Vk es X.env:=by rfl) (ck:(VP pos (Vk es X.env)).any (·.1)=M':=by rfl):PE X (.Call (.Name x p) (e::es) [] pos) (wq C sp [] E0 t):=by
 obtain⟨f,fd,F,M,hm,hb⟩:=c.ex
 exact MB M F hr hg hm hb .nil uD ha V0 he ck
theorem Ht (c:re X.prog X.w X.K X.mg X.base Vp k C x ps sp) (hr:bj (k+1) X.A) (hg:Gl X x) (V0:(x == ("__debug__":C'))=M':=by decide):PE X (.Call (.Name x p) [] [] pos) (wq C sp [] E0 mT):=by
 obtain⟨f,fd,F,M,hm,hb⟩:=c.ex
 exact Mi M F hr hg hm hb .nil uD V0
theorem mS (hp:PX X R) (c:vf X.prog X.w X.K X.mg X.base Vp k C x ps sp) (hr:bj (k+1) X.A) (hg:Gl X x) (ha:PA X (e::es) t)
  (V0:(x == ("__debug__":C'))=M':=by decide) (he:Vk (e::es) X.env=(M',Vg e X.env)::Vk es X.env:=by rfl) (ck:(VP aE (Vk es X.env)).any (·.1)=M':=by rfl) :
  PS X (.Raise (i' (.Call (.Name x np) (e::es) [] aE)) B' pos) (GW C sp [] R t):=by
 obtain⟨f,fd,F,c',hm,hb⟩:=c.ex
 exact Mg hp c' F hr hb .nil (fun _ _ _ _ _ _ _ _ z=>z.elim) hg hm ha V0 he ck
theorem i7 {i:Int} (hg:Gl X x) (hm:∃ t,X.mg x=i' (.int i t)) (hd:(x == ("__debug__":C'))=M':=by decide):PE X (.Name x pos) (tC (.int i)):=let ⟨t,h⟩:=hm;BE hg h ⟨t,O⟩ hd
theorem Ge {i:C'} (hg:Gl X x) (hm:∃ t,X.mg x=i' (.str i t)) (hd:(x == ("__debug__":C'))=M':=by decide):PE X (.Name x pos) (tC (.str i)):=let ⟨t,h⟩:=hm;BE hg h ⟨t,O⟩ hd
theorem AC {n:String} (hg:Gl X x) (hm:X.mg x=B') (hv:WK x=i' (.type n)) (hn:x≠"__name__":=by decide) (hd:(x == ("__debug__":C'))=M':=by decide):PE X (.Name x pos) (tC (.ty n)):=Mb hg hm hv O hn hd
end
def V4 (A:V2) (cs:List F'):Prop:=(A.handled=B'∧cs=[])∨∃ a r,cs=a::r∧A.handled=i' (.ref a)
theorem Hd.chain (x:Hd A h):∃ cs,V4 A cs∧Vx h cs:=by
 rcases x with e|⟨a,cs,e,c⟩
 .exact⟨[],.inl ⟨e,O⟩,T8,fun j a z=>by simp at z⟩
 .exact⟨a::cs,.inr ⟨a,cs,O,e⟩,c⟩
theorem V4.hd (x:V4 A cs) (c:Vx h cs):Hd A h:=by
 rcases x with⟨e,rfl⟩|⟨a,r,rfl,e⟩
 .exact .inl e
 .exact .inr ⟨a,r,e,c⟩
theorem Vx.but (c:Vx h cs) (hI:it∉cs) (k:∀ b o,b≠it→h.get? b=i' o→h'.get? b=i' o):Vx h' cs:=
 c.mono fun b o hb e=>k b o (fun z=>hI (z ▸ hb)) e
section
theorem qI (hc:V4 A cs) (I ax:F') (gu:ax≠I) (hI:I∉cs) (items:Array K') :
  Qae prog w A I (I::ax::cs) [I] items.size (fun i v=>items[i]?=i' v) (fun i h=>h.IsListIter I ax i∧h.IsList ax items∧Vx h cs) where
 sub:=fun b hb=>by simp at hb;simp[hb]
 frame:=fun _ _ _ st hk=>⟨st.1.at fun o e=>hk I (by simp) o e,st.2.1.at fun o e=>hk ax (by simp) o e,st.2.2.mono fun b o hb e=>hk b (by simp[hb]) o e⟩
 item:=fun i s Q E hi st hQ=>by
  refine Uu st.1 st.2.1 (x:=items[i]) (by simp[hi]) fun h' bO bL=>?_
  exact hQ _ h' s.toks (by simp[hi]) ⟨bO,st.2.1.extBut bL.extBut gu,st.2.2.but hI bL.extBut⟩ fun b o hb e=>bL.extBut b o (fun h=>hb (by simp[h])) e
 done:=fun s Q E st hQ=>E8 (hc.hd st.2.2) st.1 st.2.1 (by simp) fun h' dz=>hQ h' s.toks fun b o hb e=>dz b o (fun h=>hb (by simp[h])) e
 self:=fun _ _ _ _ st hQ=>Uy st.1 hQ
theorem OC (hd:Hd A s.heap) (aJ:s.heap.IsStrIter it "str_ascii_iterator" x t i) (hx:x.cps[i]?=B')
  (hQ:∀ h',XX it s.heap h'→Q B' {s with heap:=h'}):L' (UV prog w) A (VB (.ref it)) Q E s:=by
 obtain⟨o,ho,hc,az⟩:=id aJ
 unfold VB
 refine oG (SQ (Sx (name:=Vb "__next__") aJ.typeIs QfD (SL QfD aJ.typeIs F.entry_str_ascii_iterator_next ?_ (F.args_str_ascii_iterator_next_1 _))))
 refine(show L' _ _ (WC (.ref it) 0 >>= _) _ _ s from oG (Sr ho az (x:=.str x t) O ?_))
 refine(show L' _ _ (WC (.ref it) 1 >>= _) _ _ s from oG (Sr ho az (x:=.int i 0) O ?_))
 simp only[Tc,hx]
 refine oG (Ti (oG (SZ ho az (by simp) (oG (Ta ?_)))))
 refine nJ (A:=A.in1) (hd.but ho (fun vs q=>.inl (by rw[az] at q;cases q;simp)) (Xe ..).extBut) fun h' e k' ⟨o',e',c'⟩=>?_
 exact oG (SW (T:="StopIteration") (b:=D') ⟨o',e',c'⟩ Yv (Sd (hQ h' fun b q hb hq=>k' b q ((Xe ..).extBut b q hb hq))))
theorem Qa (hd:Hd A s.heap) (aJ:s.heap.IsStrIter it "str_iterator" x t i) (hx:x.cps[i]?=B')
  (hQ:∀ h',XX it s.heap h'→Q B' {s with heap:=h'}):L' (UV prog w) A (VB (.ref it)) Q E s:=by
 obtain⟨o,ho,hc,az⟩:=id aJ
 unfold VB
 refine oG (SQ (Sx (name:=Vb "__next__") aJ.typeIs Qf7 (SL Qf7 aJ.typeIs F.entry_str_iterator_next ?_ (F.args_str_iterator_next_1 _))))
 refine(show L' _ _ (WC (.ref it) 0 >>= _) _ _ s from oG (Sr ho az (x:=.str x t) O ?_))
 refine(show L' _ _ (WC (.ref it) 1 >>= _) _ _ s from oG (Sr ho az (x:=.int i 0) O ?_))
 simp only[Tc,hx]
 refine oG (Ti (oG (SZ ho az (by simp) (oG (Ta ?_)))))
 refine nJ (A:=A.in1) (hd.but ho (fun vs q=>.inl (by rw[az] at q;cases q;simp)) (Xe ..).extBut) fun h' e k' ⟨o',e',c'⟩=>?_
 exact oG (SW (T:="StopIteration") (b:=D') ⟨o',e',c'⟩ Yv (Sd (hQ h' fun b q hb hq=>k' b q ((Xe ..).extBut b q hb hq))))
def nC (h:Vo) (I:F') (x:C') (t:Wq) (i:Nat):Prop:=h.IsStrIter I "str_ascii_iterator" x t i∨h.IsStrIter I "str_iterator" x t i
theorem nC.keep (y:nC h I x t i) (k:∀ o,h.get? I=i' o→h'.get? I=i' o):nC h' I x t i:=by
 rcases y with⟨o,e,r⟩|⟨o,e,r⟩
 .exact .inl ⟨o,k o e,r⟩
 .exact .inr ⟨o,k o e,r⟩
theorem Md (aJ:nC s.heap it x t i) (hx:x.cps[i]?=i' c)
  (hQ:∀ h' u tk,nC h' it x t (i+1)→Yb it s.heap h'→Q (i' (.str ⟨#[c]⟩ u)) {s with heap:=h',toks:=tk}):L' (UV prog w) A (VB (.ref it)) Q E s:=by
 rcases aJ with y|y
 .exact wpAny_pyNext_ascii_item y hx fun h' y' hs=>hQ h' _ _ (.inl y') hs
 .exact wpAny_pyNext_wide_item y hx fun h' y' hs=>hQ h' _ _ (.inr y') hs
theorem QA (hd:Hd A s.heap) (aJ:nC s.heap it x t i) (hx:x.cps[i]?=B')
  (hQ:∀ h',XX it s.heap h'→Q B' {s with heap:=h'}):L' (UV prog w) A (VB (.ref it)) Q E s:=by
 rcases aJ with y|y
 .exact OC hd y hx hQ
 .exact Qa hd y hx hQ
theorem uH {items}{Q:K'→UW→Prop} (hd:Hd A s.heap) (aJ:s.heap.IsListIter it l i) (hl:s.heap.IsList l items) (hx:items[i]?=B')
  (hE:∀ h' e,XX it s.heap h'→(∃ o,h'.get? e=i' o∧o.cls=.type "StopIteration")→E (.ref e) {s with heap:=h'}):L' (UV prog w) A (Ys (.ref it)) Q E s:=by
 obtain⟨o,ho,hc,az⟩:=id aJ
 obtain⟨ol,rR,_,nl,tN⟩:=hl
 unfold Ys
 refine oG (Sx (name:=Vb "__next__") aJ.typeIs Qb4 (SL Qb4 aJ.typeIs QgK ?_ (QgS _)))
 refine(show L' _ _ (WC (.ref it) 0 >>= _) _ _ s from oG (Sr ho az (x:=.ref l) O ?_))
 refine(show L' _ _ (if (U9 l == VD)=D' then _ else _) _ _ s from ?_)
 rw[U4 (show ¬ ((U9 l == VD)=D') from Sk)]
 refine(show L' _ _ (WC (.ref it) 1 >>= _) _ _ s from oG (Sr ho az (x:=.int i 0) O ?_))
 refine(show L' _ _ (Yx (.ref l) >>= _) _ _ s from oG (SA rR tN ?_))
 simp only[Tc,hx]
 refine oG (Ti (oG (SZ ho az (by simp) ?_)))
 refine nJ (A:=A.in1) (hd.but ho (fun vs q=>.inl (by rw[az] at q;cases q;simp)) (Xe ..).extBut) fun h' e k' x=>hE h' e (fun b q hb hq=>k' b q ((Xe ..).extBut b q hb hq)) x
theorem ED {TI TO:F'}{xs:Array K'}{a b:K'} (hc:V4 A cs) (c:Vx s.heap cs) (nz:z∉cs) (nT:TO∉cs) (n1:i1∉cs) (n2:i2∉cs) (D:Yy z TI TO i1 i2 l1 l2)
  (hz:YB s.heap z TI TO .none) (cB:Xt s.heap TI (.ref i1) (.ref i2)) (ee:Xt s.heap TO a b) (h1:s.heap.IsListIter i1 l1 k1) (h2:s.heap.IsListIter i2 l2 k2) (cj:s.heap.IsList l1 xs) (bD:s.heap.IsList l2 ys) (iK:xs[k1]?=B'∨ys[k2]?=B')
  (hQ:∀ h',(∀ c o,c≠z→c≠TO→c≠i1→c≠i2→s.heap.get? c=i' o→h'.get? c=i' o)→Q B' {s with heap:=h'}):L' (UV prog w) A (VB (.ref z)) Q E s:=by
 have hT:s.TypeIs (.ref z) "zip":=⟨_,hz,O⟩
 have aG:∀ h' e,(∀ c o,c≠z→c≠TO→c≠i1→c≠i2→s.heap.get? c=i' o→h'.get? c=i' o)→(∃ o,h'.get? e=i' o∧o.cls=.type "StopIteration") →
   L' (UV prog w) A (do if ← Zt (.ref e) (.type "StopIteration") then pure B' else throw (.ref e)) Q E {s with heap:=h'}:=fun h' e k ⟨o,ho,lq⟩=>
  oG (SW (T:="StopIteration") (b:=D') ⟨o,ho,lq⟩ Yv (Sd (hQ _ k)))
 unfold VB
 refine oG (SQ (Sx (name:=Vb "__next__") hT QaG (SL QaG hT QdP ?_ (QdI _))))
 refine(show L' _ _ (WC (.ref z) 2 >>= _) _ _ _ from oG (Sr hz O (x:=.bool M') O ?_))
 refine(show L' _ _ (WC (.ref z) 3 >>= _) _ _ _ from oG (Sr hz O (x:=.ref TI) O (oG (SA cB O ?_))))
 refine(show L' _ _ (Qam (.ref z) >>= _) _ _ _ from oG ?_)
 unfold Qam
 refine oG (Sr hz O (x:=.none) O (Sd ?_))
 simp only[Xi]
 refine oG (Ti (oG (Sr hz O (x:=.ref TO) O (oG (TK hz (by simp) fun h₁ nZ bC=>?_)))))
 replace nZ:YB h₁ z TI TO .ellipsis:=nZ
 have c₁:Vx h₁ cs:=c.but nz bC.extBut
 refine oG ?_
 simp only[List.zipIdx_cons,List.zipIdx_nil,Tv,T9]
 refine oG (oG (wpAny_onRaise ?_))
 cases hx:xs[k1]? with
 | none=>
  refine(show L' _ _ (Ys (.ref i1) >>= _) _ _ _ from oG (uH (A:=A.in1) (V4.hd (A:=A.in1) hc c₁) (h1.extBut bC.extBut D.i1z) (cj.extBut bC.extBut D.l1z) hx fun h₂ e dA he=>?_))
  obtain⟨oe,pi,sj⟩:=he
  have DE:YB h₂ z TI TO .ellipsis:=dA _ _ D.i1z.symm nZ
  have xZ:e≠z:=fun x=>by subst x;rw[DE] at pi;cases pi;simp at sj
  exact TK DE (by simp) fun h₃ _ fD=>aG h₃ e (fun c o c1 _ c3 _ x=>fD.extBut _ _ c1 (dA _ _ c3 (bC.extBut _ _ c1 x))) ⟨oe,fD.extBut _ _ xZ pi,sj⟩
 | some x=>
  have hy:ys[k2]?=B':=by rcases iK with h|h;rw[hx] at h;cases h;exact h
  refine(show L' _ _ (Ys (.ref i1) >>= _) _ _ _ from oG (Tz (h1.extBut bC.extBut D.i1z) (cj.extBut bC.extBut D.l1z) hx fun h₂ zY dA=>Sd ?_))
  have rZ:Xt h₂ TO a b:=dA.extBut _ _ D.TOi1 (bC.extBut _ _ D.TOz ee)
  refine oG (SA rZ O (oG (wpAny_updateSeq_pair rZ fun h₃ Iu fD=>oG (Ta (Sd ?_)))))
  refine oG (oG (wpAny_onRaise ?_))
  have c₃:Vx h₃ cs:=(c₁.but n1 dA.extBut).but nT fD.extBut
  refine(show L' _ _ (Ys (.ref i2) >>= _) _ _ _ from oG (uH (A:=A.in1) (V4.hd (A:=A.in1) hc c₃) (((h2.extBut bC.extBut D.i2z).extBut dA.extBut D.i12.symm).extBut fD.extBut D.TOi2.symm)
   (((bD.extBut bC.extBut D.l2z).extBut dA.extBut D.l2i1).extBut fD.extBut D.l2TO) hy fun h₄ e Di he=>?_))
  obtain⟨oe,pi,sj⟩:=he
  have DQ:YB h₄ z TI TO .ellipsis:=Di _ _ D.i2z.symm (fD.extBut _ _ D.TOz.symm (dA.extBut _ _ D.i1z.symm nZ))
  have xZ:e≠z:=fun x=>by subst x;rw[DQ] at pi;cases pi;simp at sj
  exact TK DQ (by simp) fun h₅ _ CN=>aG h₅ e (fun c o c1 c2 c3 c4 x=>CN.extBut _ _ c1 (Di _ _ c4 (fD.extBut _ _ c2 (dA.extBut _ _ c3 (bC.extBut _ _ c1 x))))) ⟨oe,CN.extBut _ _ xZ pi,sj⟩
section
variable {κ:Type} [DecidableEq κ] {knd:KeyKind prog w κ}
theorem Ff {kvs:List (κ×K')} (hd:Hd A s.heap) (aJ:s.heap.IsKeyIter it d i kvs.length ep) (hm:s.heap.DictAt knd d kvs ep) (hx:kvs[i]?=B')
  (hQ:∀ h',XX it s.heap h'→Q B' {s with heap:=h'}):L' (UV prog w) A (VB (.ref it)) Q E s:=by
 obtain⟨o,ho,hc,az⟩:=id aJ
 obtain⟨od,es,iO,gq,iH,hk,hp,hn⟩:=id hm
 have hsz:es.size=kvs.length:=by rw[← hp.length];simp
 have lC:es.size≤i:=by rw[hsz];simpa using hx
 have oz:Qfm "dict_keyiterator"=M':=by decide
 unfold VB
 refine oG (SQ (Sx (name:=Vb "__next__") aJ.typeIs QfM (SL QfM aJ.typeIs F.entry_dict_keyiterator_next ?_ (F.args_dict_keyiterator_next_1 _))))
 refine oG (Sd (oG (oG ?_)))
 first|refine oG (T2 aJ.typeIs (Sd (oG (Ua ho az ?_))))|refine oG (Ul aJ.typeIs (Sd (oG (Ua ho az ?_))))
 simp only[oz,SC,Wc]
 show L' _ _ (if (U9 d == VD)=D' then _ else _) _ _ s
 rw[U4 (show ¬ ((U9 d == VD)=D') from Sk)]
 refine oG (Sd (oG (UP iO iH ?_)))
 rw[U4 (by rw[hsz];simp)]
 refine oG (Sd (oG (Qho iO iH ?_)))
 rw[U4 (by simp)]
 refine Sd ?_
 simp only[show ¬ ((i:Int)<0) from by lia,Wc,Tc,TN lC]
 refine oG ?_
 first|refine oG (T2 aJ.typeIs (Sd ?_))|refine oG (Ul aJ.typeIs (Sd ?_))
 refine(show L' _ _ (Qcx (.ref it) 0 .none >>= _) _ _ s from oG (SZ ho az (by simp) ?_))
 refine nJ (A:=A.in1) (hd.but ho (fun vs q=>.inr (by rw[az] at q;cases q;simp)) (Xe ..).extBut) fun h' e k' ⟨o',e',c'⟩=>?_
 exact oG (SW (T:="StopIteration") (b:=D') ⟨o',e',c'⟩ Yv (Sd (hQ h' fun b q hb hq=>k' b q ((Xe ..).extBut b q hb hq))))
theorem Qf (hc:V4 A cs) (I d:F') (gu:d≠I) (hI:I∉cs) (kvs:List (κ×K')) (ep:Nat) :
  Qae prog w A I (I::d::cs) [I] kvs.length (fun i v=>∃ k x,kvs[i]?=i' (k,x)∧knd.is k v=D') (fun i h=>h.IsKeyIter I d i kvs.length ep∧h.DictAt knd d kvs ep∧Vx h cs) where
 sub:=fun b hb=>by simp at hb;simp[hb]
 frame:=fun _ _ _ st hk=>⟨st.1.at fun o e=>hk I (by simp) o e,st.2.1.at' fun o e=>hk d (by simp) o e,st.2.2.mono fun b o hb e=>hk b (by simp[hb]) o e⟩
 item:=fun i s Q E hi st hQ=>by
  obtain⟨⟨k,x⟩,hx⟩:∃ p,kvs[i]?=i' p:=⟨kvs[i],by simp[hi]⟩
  refine Uw st.1 st.2.1 hx fun key h' cr bO bL=>?_
  exact hQ key h' s.toks ⟨k,x,hx,cr⟩ ⟨bO,st.2.1.extBut bL.extBut gu,st.2.2.but hI bL.extBut⟩ fun b o hb e=>bL.extBut b o (fun h=>hb (by simp[h])) e
 done:=fun s Q E st hQ=>Ff (hc.hd st.2.2) st.1 st.2.1 (by simp) fun h' dz=>hQ h' s.toks fun b o hb e=>dz b o (fun h=>hb (by simp[h])) e
 self:=fun _ _ _ _ st hQ=>wpAny_pyIter_keyiter st.1 hQ
theorem Rj {kvs:List (κ×K')}{ok ov:K'} (hc:V4 A cs) (c:Vx s.heap cs) (hI:it∉cs) (aJ:IsItemIter s.heap it d i kvs.length ep ok ov) (hm:s.heap.DictAt knd d kvs ep) (hx:kvs[i]?=B')
  (hQ:∀ h',XX it s.heap h'→Q B' {s with heap:=h'}):L' (UV prog w) A (VB (.ref it)) Q E s:=by
 obtain⟨od,es,iO,gq,iH,hk,hp,hn⟩:=id hm
 have hT:s.TypeIs (.ref it) "dict_itemiterator":=⟨_,aJ,O⟩
 have hsz:es.size=kvs.length:=by rw[← hp.length];simp
 have lC:es.size≤i:=by rw[hsz];simpa using hx
 have oz:Qfm "dict_itemiterator"=D':=by decide
 unfold VB
 refine oG (SQ (Sx (name:=Vb "__next__") hT Qdf (SL Qdf hT F.entry_dict_itemiterator_next ?_ (F.args_dict_itemiterator_next_1 _))))
 refine oG (Sd (oG (oG ?_)))
 first|refine oG (TZ hT (Sd (oG (Ua aJ O ?_))))|refine oG (Uh hT (Sd (oG (Ua aJ O ?_))))
 simp only[oz,Xi]
 show L' _ _ (if (U9 d == VD)=D' then _ else _) _ _ s
 rw[U4 (show ¬ ((U9 d == VD)=D') from Sk)]
 refine oG (Sd (oG (UP iO iH ?_)))
 rw[U4 (by rw[hsz];simp)]
 refine oG (Sd (oG (Qho iO iH ?_)))
 rw[U4 (by simp)]
 refine Sd ?_
 simp only[show ¬ ((i:Int)<0) from by lia,Wc,Tc,TN lC]
 refine oG ?_
 first|refine oG (TZ hT (Sd ?_))|refine oG (Uh hT (Sd ?_))
 refine(show L' _ _ (Qcx (.ref it) 2 .none >>= _) _ _ s from oG (SZ aJ O (by simp) ?_))
 refine nJ (A:=A.in1) (V4.hd (A:=A.in1) hc (c.but hI (Xe ..).extBut)) fun h' e k' ⟨o',e',c'⟩=>?_
 exact oG (SW (T:="StopIteration") (b:=D') ⟨o',e',c'⟩ Yv (Sd (hQ h' fun b q hb hq=>k' b q ((Xe ..).extBut b q hb hq))))
theorem Rg:Yc (.type "dict") "__len__"=pure (i' (.builtin "dict.__len__")):=by rw[typeLookup_type,builtinLookup_eq_fast];kernel_rfl
theorem Nx (hc:V4 A cs){kvs:List (κ×K')}{c₀:Nat} (hd:(d == WO)=M') (hm:s.heap.DictAt knd d kvs ep) (c:Vx s.heap cs) (hS:s.heap.get? S=i' {cls:=.type "list",data:=.seq #[] c₀}) (zS:S≠d) (r6:S∉cs) (hn:kvs.length≤U2)
  (hR:∀ s' acc c',Moved (S::[s.heap.objs.size]) (fun a b=>b=a) s s'→s'.heap.get? S=i' {cls:=.type "list",dict:=B',data:=.seq acc c',slots:=#[]}→Qbp (fun i v=>∃ k x,kvs[i]?=i' (k,x)∧knd.is k v=D') acc kvs.length→R (.ok (.ret res)) s') :
  L' (UV prog w) A.in1 (Zg (.ref S) (.ref d) res) (fun aG s'=>match aG with|.done f=>R (.ok f) s'|.again c'=>c'.quiet=D'∧Wp (UV prog w) A c' R s') (fun e s'=>R (.error e) s') s:=by
 have hT:s.TypeIs (.ref d) "dict":=hm.dictOf.typeIs
 have h1:QbP (.ref S) (.ref d)=M':=by simp[QbP,zS]
 unfold Zg
 refine oG (Tp hT ?_)
 rw[U4 (by rw[h1];decide)]
 refine oG (UQ hd hm ?_)
 have m1:=hm.push {cls:=.type "dict_keyiterator",data:=.fields #[.ref d,.int 0 0,.int kvs.length 0,.int ep 0]}
 have zN:Qcf {s with heap:=s.heap.push {cls:=.type "dict_keyiterator",data:=.fields #[.ref d,.int 0 0,.int kvs.length 0,.int ep 0]} } (.ref d) "dict":=m1.dictOf.typeIs
 refine oG (Sn ?_)
 unfold QmM
 refine oG (Ur zN Rg ?_)
 generalize DX:("dict.__len__":String)=id0
 wp_delta
 rw[show splitId id0=i' ("dict","__len__") from by subst DX;decide +kernel]
 subst DX
 refine oG (SW (b:=D') zN (by rw[isSubtype_type];kernel_rfl) ?_)
 simp only[QgY,SC,Wc]
 rw[U3 (by decide +kernel)]
 refine oG (Tp zN (Sd ?_))
 rw[U3 (by decide +kernel)]
 refine oG (Ti (oG ?_))
 have bq:S<s.heap.objs.size:=Se hS
 have tH:S≠s.heap.objs.size:=Sh bq
 have xI:d≠s.heap.objs.size:=Sh hm.lt_size
 have oK:s.heap.objs.size∉cs:=fun z=>So _ (c.lt _ z)
 have qj:=Sc {cls:=.type "dict_keyiterator",data:=.fields #[.ref d,.int 0 0,.int kvs.length 0,.int ep 0]} hS
 refine(show L' _ A.in1 (Yw S (·.push .none) >>= fun _=>Yw S (·.pop)) _ _ _ from oG (SV qj rfl ?_))
 have lf:=Sq (Wv (·.push VD)) qj rfl
 refine SV (hz:=by seq_fits) lf rfl ?_
 have vU:=Sq (Wv (·.pop)) lf rfl
 generalize hG:((s.heap.push {cls:=.type "dict_keyiterator",data:=.fields #[.ref d,.int 0 0,.int kvs.length 0,.int ep 0]}).update S (Wv (·.push VD))).update S (Wv (·.pop))=G at vU
 have eN:∀ b o,b≠S→(s.heap.push {cls:=.type "dict_keyiterator",data:=.fields #[.ref d,.int 0 0,.int kvs.length 0,.int ep 0]}).get? b=i' o→G.get? b=i' o:=fun b o hb e=>by
  rw[← hG];exact(Sm _ _ (U5 hb)).trans ((Sm _ _ (U5 hb)).trans e)
 have W:=(Qf (prog:=prog) (w:=w) (knd:=knd) (A:=A.in1) hc s.heap.objs.size d xI oK kvs ep).toS
 have Im:G.IsKeyIter s.heap.objs.size d 0 kvs.length ep:=⟨_,eN _ _ (U5 tH) (Sf _ O),O,O⟩
 have d0:G.DictAt knd d kvs ep:=m1.at' fun o e=>eN d o (U5 zS) e
 have c0:Vx G cs:=c.mono fun b o hb e=>eN b o (fun z=>r6 (z ▸ hb)) (Sc _ e)
 have io:S∉s.heap.objs.size::d::cs:=by simp[tH,zS,r6]
 refine Sd ⟨Xg Qdz _,codeAny_extend_loopS W hn S io res kvs.length 0 _ _ _ O (Th _) ⟨Im,d0,c0⟩ vU (QgL _) fun s' eP c' JO iu eR=>?_⟩
 have Ik:Moved (S::[s.heap.objs.size]) (fun a b=>b=a) s {s with heap:=G}:=⟨fun b o hb e=>eN b o (fun z=>hb (SS.mpr (.inl z))) (Sc _ e),O,O,O,Sg _⟩
 exact hR s' eP c' (Qd2 (fun _ _ _ h1 h2=>h2.trans h1) Ik JO) iu eR
theorem Po {Q:K'→UW→Prop} (hc:V4 A cs){kvs:List (κ×K')} (hd:(d == WO)=M') (hm:s.heap.DictAt knd d kvs ep) (c:Vx s.heap cs) (hn:kvs.length≤U2)
  (hQ:∀ s' acc c',(∀ b o,s.heap.get? b=i' o→s'.heap.get? b=i' o)→s'.gens=s.gens→s'.drawn=s.drawn→s'.os=s.os→s'.heap.get? s.heap.objs.size=i' {cls:=.type "list",dict:=B',data:=.seq acc c',slots:=#[]} →
   Qbp (fun i v=>∃ k x,kvs[i]?=i' (k,x)∧knd.is k v=D') acc kvs.length→Q (.ref s.heap.objs.size) s'):L' (UV prog w) A (call (.type "list") [.ref d]) Q E s:=by
 refine Qcl (Q₁:=fun obj s₁=>obj=.ref s.heap.objs.size∧s₁={s with heap:=s.heap.push {cls:=.type "list",data:=.seq #[]} }) Qht (QgM _) QgN (code_list_new _ ⟨O,O⟩) fun obj s₁ h₁=>?_
 obtain⟨rfl,rfl⟩:=h₁
 have hS:(s.heap.push {cls:=.type "list",data:=.seq #[]}).get? s.heap.objs.size=i' {cls:=.type "list",data:=.seq #[]}:=Sf _ rfl
 have xI:s.heap.objs.size≠d:=U5 (Sh hm.lt_size)
 have oK:s.heap.objs.size∉cs:=fun z=>So _ (c.lt _ z)
 refine⟨⟨_,hS,O⟩,QgE _ _,?_⟩
 refine(show L' _ A.in1.in1 (do let old ← QbT (.ref s.heap.objs.size);Qfu (.ref s.heap.objs.size) (fun _=>#[]);letGo old.toList.reverse;Zg (.ref s.heap.objs.size) (.ref d) .none) _ _ _ from oG ?_)
 unfold QbT
 refine oG (SA hS O (Sd ?_))
 refine(show L' _ A.in1.in1 (Yw s.heap.objs.size (fun _=>#[]) >>= fun _=>letGo (#[]:Array K').toList.reverse >>= fun _=>Zg (.ref s.heap.objs.size) (.ref d) .none) _ _ _ from oG (SV hS O (oG (Ta ?_))))
 have lf:=Sq (Wv (fun _=>(#[]:Array K'))) hS rfl
 have eN:∀ b o,s.heap.get? b=i' o→((s.heap.push {cls:=.type "list",data:=.seq #[]}).update s.heap.objs.size (Wv (fun _=>(#[]:Array K')))).get? b=i' o:=fun b o e=>
  (Sm _ _ (U5 (Sh (Se e)))).trans (Sc _ e)
 have sz:((s.heap.push {cls:=.type "list",data:=.seq #[]}).update s.heap.objs.size (Wv (fun _=>(#[]:Array K')))).objs.size=s.heap.objs.size+1:=by rw[Vo.size_update,Su]
 refine Nx (A:=A.in1) hc hd (hm.at' fun o e=>eN d o e) (c.mono fun b o _ e=>eN b o e) lf xI oK hn fun s' acc c' mv iu eR=>⟨O,?_⟩
 refine hQ s' acc c' (fun b o e=>mv.heap b o (fun z=>?_) (eN b o e)) mv.gens mv.drawn mv.os iu eR
 have lt:=Se e
 simp only[SS,SG,Wo] at z
 rcases z with z|z
 .exact U' lt (by rw[z];exact So _)
 .exact U' lt (by rw[z,sz];exact Qcs.mpr (SH _))
end
end
def Its (x:C'):It:=⟨fun i _=>i<x.cps.size,fun i H v H'=>H'=H∧∃ c,x.cps[i]?=i' c∧v=.str ⟨#[c]⟩,fun i _=>x.cps.size≤i⟩
theorem Qh {P:Vy}{K:R'} (x:C') (t:Wq) (it:F'):nF P w K tg (Its x) [it] it (fun i h=>nC h it x t i) where
 mem:=by simp
 obj:=fun i h st b hb=>by
  have e:b=it:=by simpa using hb
  subst e
  rcases st with⟨o,e,c,d⟩|⟨o,e,c,d⟩<;>exact⟨o,e,fun v z=>by rw[d] at z;cases z⟩
 keep:=fun i h h' st k=>st.keep fun o e=>k it (by simp) o e
 item:=by
  intro X hP hw hK hc i aa s σ H E I hf st hg
  subst hP hw hK
  obtain⟨f0,f1,f2,f3,f4,f5⟩:=hf it (by simp)
  have IH:i<x.cps.size:=hg
  have hx:x.cps[i]?=i' x.cps[i]:=by simp[IH]
  refine Md st hx fun h' u tk ic sb=>?_
  have I1:Inv X aa σ H {s with heap:=h',toks:=tk}:=I.turned (fun b o hb e=>(sb.2 b hb).trans e) f0 f1 f3 f4 f5
  rcases id ic with⟨o,e,c,d⟩|⟨o,e,c,d⟩
  .exact⟨_,O,wN (s:={s with heap:=h',toks:=tk}) e c d (by decide) ⟨.str ⟨#[x.cps[i]]⟩,H,I1,⟨u,O⟩,⟨O,_,hx,O⟩,ic,fun b hb=>(hf b hb).1⟩⟩
  .exact⟨_,O,wN (s:={s with heap:=h',toks:=tk}) e c d (by decide) ⟨.str ⟨#[x.cps[i]]⟩,H,I1,⟨u,O⟩,⟨O,_,hx,O⟩,ic,fun b hb=>(hf b hb).1⟩⟩
 done:=by
  intro X hP hw hK hc i aa s σ H E I hf st hg
  subst hP hw hK
  obtain⟨f0,f1,f2,f3,f4,f5⟩:=hf it (by simp)
  exact QA I.hd st (TN hg) fun h' eb=>⟨O,I.turned (t':=s.toks) (fun b o hb e=>eb b o hb e) f0 f1 f3 f4 f5⟩
 self:=fun _ _ _ _ _ st h=>by
  rcases st with y|y
  .exact wpAny_pyIter_striter_ascii y h
  .exact wpAny_pyIter_striter_wide y h
inductive Qi4 (R:(It→Hp→Prop)) (x:V) (H1:Hp):Prop
 | mk (z:_) (_:x=.str z) (_:R (Its z) H1)
def Qi5 (tl:TE):TI:=fun σ H R=>tl σ H fun x H1=>Qi4 R x H1
theorem FK {l:Vh} (hl:PE X l tl):PI X tg l (Qi5 tl):=by
 intro aa s σ H R I h
 refine U6 (hl aa s σ H _ I h) fun v s1=>L2.Ve fun x H1 I1 r1 aQ=>?_
 obtain⟨z,e,q⟩:=aQ
 subst e
 obtain⟨t,rfl⟩:=r1
 have aG:∀ ob:Vd,nC (s1.heap.push ob) s1.heap.objs.size z t 0→PIE X aa σ tg R (.ref s1.heap.objs.size) {s1 with heap:=s1.heap.push ob}:=fun ob st=>
  ⟨s1.heap.objs.size,[s1.heap.objs.size],_,Its z,H1,rfl,I1.kept (t':=s1.toks) fun b o e=>Sc _ e,Qh z t _,st,fun b hb=>by
   have e:b=s1.heap.objs.size:=by simpa using hb
   subst e
   exact I1.Xk (Sg _) (I1.UZ.fresh (Sg _)),q⟩
 cases ha:z.cps.all (·<128)
 .exact wpAny_pyIter_wide ha (aG _ (.inr ⟨_,Sf _ O,O,O⟩))
 .exact wpAny_pyIter_ascii ha (aG _ (.inl ⟨_,Sf _ O,O,O⟩))
theorem GV {Q:VK} (Pv:Nat→St→Hp→Prop) (h0:Pv 0 τ H)
  (hs:∀ i c τ H,x.cps[i]?=i' c→Pv i τ H→g (.str ⟨#[c]⟩) τ H fun τ2 H2=>tt τ2 H2 fun b H3=>
   if b=D' then te τ2 H3 fun y H4=>∃ ys,H4 D=i' (.lst ys)∧ys.length<U2∧Pv (i+1) τ2 (upd H4 D (.lst (ys++[y]))) else Pv (i+1) τ2 H3)
  (hd:∀ τ H,Pv x.cps.size τ H→Q (.ref D) H):kL (Its x) D τ H g tt te Q:=by
 refine⟨fun i m τ H=>m=x.cps.size-i∧i≤x.cps.size∧Pv i τ H,⟨x.cps.size,by simp,Th _,h0⟩,?_⟩
 rintro i m τ H ⟨rfl,hi,p⟩
 by_cases bq:i<x.cps.size
 .refine .inr ⟨bq,Pv (i+1),fun τ' H' p'=>⟨x.cps.size-(i+1),by lia,O,bq,p'⟩,fun v H' y=>?_⟩
  obtain⟨e,c,hc,ev⟩:=y
  subst e ev
  exact hs i c τ _ hc p
 .have e:i=x.cps.size:=by lia
  subst e
  exact .inl ⟨Sg _,hd τ H p⟩
def Itz (K:R') (l1 l2:F'):It:=
  ⟨fun i H=>∃ xs ys x y,P' K H l1 xs∧P' K H l2 ys∧xs[i]?=i' x∧ys[i]?=i' y,
   fun i H v H'=>∃ T x y,v=.ref T∧H T=B'∧H'=upd H T (.tup [x,y])∧(∀ xs,P' K H l1 xs→xs[i]?=i' x)∧∀ ys,P' K H l2 ys→ys[i]?=i' y,
   fun i H=>∃ xs ys,P' K H l1 xs∧P' K H l2 ys∧(xs.length≤i∨ys.length≤i)⟩
def Qi6 (h:Vo) (z TI TO i1 i2 l1 l2:F') (i:Nat):Prop:=YB h z TI TO .none∧Xt h TI (.ref i1) (.ref i2)∧(∃ a b,Xt h TO a b)∧h.IsListIter i1 l1 i∧h.IsListIter i2 l2 i
theorem LF {P:Vy}{K:R'}{k:Nat}{TI TO:F'} (D:Yy z TI TO i1 i2 l1 l2) :
  nF P w K (.Tuple es k pos) (Itz K l1 l2) [z,TI,TO,i1,i2] z (fun i h=>Qi6 h z TI TO i1 i2 l1 l2 i) where
 mem:=by simp
 obj:=fun i h st b hb=>by
  obtain⟨hz,cB,⟨a,c,ee⟩,⟨o1,e1,c1,d1⟩,⟨o2,e2,c2,d2⟩⟩:=st
  simp only[SS,SG,Wo] at hb
  rcases hb with rfl|rfl|rfl|rfl|rfl
  .exact⟨_,hz,fun v q=>by simp at q⟩
  .exact⟨_,cB,fun v q=>by simp at q⟩
  .exact⟨_,ee,fun v q=>by simp at q⟩
  .exact⟨_,e1,fun v q=>by rw[d1] at q;cases q⟩
  .exact⟨_,e2,fun v q=>by rw[d2] at q;cases q⟩
 keep:=fun i h h' st k=>by
  obtain⟨hz,cB,⟨a,c,ee⟩,h1,h2⟩:=st
  exact⟨k z (by simp) _ hz,k TI (by simp) _ cB,⟨a,c,k TO (by simp) _ ee⟩,h1.at fun o e=>k i1 (by simp) o e,h2.at fun o e=>k i2 (by simp) o e⟩
 item:=by
  intro X hP hw hK hc i aa s σ H E I hf st hg
  subst hP hw hK
  obtain⟨xs,ys,x,y,q1,q2,hx,hy⟩:=hg
  obtain⟨hz,cB,⟨a,c,ee⟩,h1,h2⟩:=st
  obtain⟨ag,rv,pl,_⟩:=I.list q1
  obtain⟨its',cU,ka,_⟩:=I.list q2
  obtain⟨u,hu,ru⟩:=rv.get hx
  obtain⟨u',iJ,tJ⟩:=cU.get hy
  have nf:∀ b∈[z,TI,TO,i1,i2],b∉VR X.stack:=fun b hb q=>(SS.mp (I.Xw b q)).elim (hf b hb).2.1 (hf b hb).2.2.1
  refine UB D hz cB ee h1 h2 pl.isList ka.isList (x:=u) (y:=u') (by simpa using hu) (by simpa using iJ) fun h' a1 a2 a3 a4 a5 a6 hk=>⟨_,O,?_⟩
  refine wpAny_letOwnedTupleGo_zip (s:={s with heap:=h'}) a1 fun eh mM bL=>?_
  have rY:H s.heap.objs.size=B':=I.UZ.fresh (Sg _)
  have RJ:=Se hz
  have old:∀ b o,b≠z→b≠TO→b≠i1→b≠i2→s.heap.get? b=i' o→eh.get? b=i' o:=fun b o n1 n2 n3 n4 e=>bL.extBut b o n1 (hk b o n1 n2 n3 n4 e)
  have I1:Inv X aa σ (upd H s.heap.objs.size (.tup [x,y])) {s with heap:=s.heap.push {cls:=.type "tuple",data:=.seq #[u,u']} }:=
   I.laid (t':=s.toks) (fun b o e=>Sc _ e) (Sg _) ⟨by show 2≤U2;decide,[u,u'],.cons ru (.cons tJ .nil),⟨_,Sf _ rfl,O,_,O⟩⟩
  have sX:∀ b∈[z,TI,TO,i1,i2],bI X aa (upd H s.heap.objs.size (.tup [x,y])) b:=fun b hb=>by
   obtain⟨f0,r⟩:=hf b hb
   refine⟨?_,r⟩
   have lt:b<s.heap.objs.size:=by
    simp only[SS,SG,Wo] at hb
    rcases hb with rfl|rfl|rfl|rfl|rfl
    .exact Se hz
    .exact Se cB
    .exact Se ee
    .obtain⟨o,e,_⟩:=h1;exact Se e
    .obtain⟨o,e,_⟩:=h2;exact Se e
   rw[aj (Sh lt)];exact f0
  have I2:Inv X aa σ (upd H s.heap.objs.size (.tup [x,y])) {s with heap:=eh}:=by
   have back:∀ b o,(s.heap.push {cls:=.type "tuple",data:=.seq #[u,u']}).get? b=i' o→b≠z→b≠TO→b≠i1→b≠i2→eh.get? b=i' o:=fun b o e n1 n2 n3 n4=>by
    rcases T0 e with⟨rfl,rfl⟩|e
    .exact bL.extBut _ _ n1 a5
    .exact old b o n1 n2 n3 n4 e
   refine I1.slots (ch:=[z,TO,i1,i2]) (tk:=s.toks) (fun b hb=>sX b (by simp only[SS,SG,Wo] at hb ⊢;rcases hb with e|e|e|e<;>simp[e])) (fun b o _ hc e=>?_) (fun b o hb e=>⟨o.slots,?_⟩) (fun b hb o e=>?_)
   .simp only[SS,SG,Wo,not_or] at hc
    exact back b o e hc.1 hc.2.1 hc.2.2.1 hc.2.2.2
   .exact back b o e (fun q=>nf z (by simp) (q ▸ hb)) (fun q=>nf TO (by simp) (q ▸ hb)) (fun q=>nf i1 (by simp) (q ▸ hb)) (fun q=>nf i2 (by simp) (q ▸ hb))
   .simp only[SS,SG,Wo] at hb
    rcases hb with rfl|rfl|rfl|rfl
    .exact⟨_,mM⟩
    .exact⟨_,bL.extBut _ _ D.TOz a2⟩
    .obtain⟨o,e,_⟩:=a3;exact⟨_,bL.extBut _ _ D.i1z e⟩
    .obtain⟨o,e,_⟩:=a4;exact⟨_,bL.extBut _ _ D.i2z e⟩
  refine⟨.ref s.heap.objs.size,_,I2,O,⟨_,x,y,O,rY,O,fun Co q=>by rw[I.QaO q q1];exact hx,fun lD q=>by rw[I.QaO q q2];exact hy⟩,?_,fun b hb=>(sX b hb).1⟩
  exact⟨mM,old TI _ D.TIz D.TITO D.TIi1 D.TIi2 cB,⟨_,_,bL.extBut _ _ D.TOz a2⟩,a3.extBut bL.extBut D.i1z,a4.extBut bL.extBut D.i2z⟩
 done:=by
  intro X hP hw hK hc i aa s σ H E I hf st hg
  subst hP hw hK
  obtain⟨xs,ys,q1,q2,aq⟩:=hg
  obtain⟨hz,cB,⟨a,c,ee⟩,h1,h2⟩:=st
  obtain⟨ag,rv,pl,_⟩:=I.list q1
  obtain⟨its',cU,ka,_⟩:=I.list q2
  have e1:=rv.length
  have e2:=cU.length
  have nf:∀ b∈[z,TI,TO,i1,i2],b∉VR X.stack:=fun b hb q=>(SS.mp (I.Xw b q)).elim (hf b hb).2.1 (hf b hb).2.2.1
  have nc:∃ cs,V4 X.A cs∧Vx s.heap cs∧∀ b∈[z,TI,TO,i1,i2],b∉cs:=by
   rcases I.Y7 with e|⟨b,cs,e,c⟩
   .exact⟨[],.inl ⟨e,O⟩,⟨T8,fun j a q=>by simp at q⟩,fun b _ q=>by simp at q⟩
   .exact⟨b::cs,.inr ⟨b,cs,O,e⟩,c.chn I.UZ,fun d hd=>c.Qbr (hf d hd).1⟩
  obtain⟨cs,cE,ch,qm⟩:=nc
  refine ED cE ch (qm z (by simp)) (qm TO (by simp)) (qm i1 (by simp)) (qm i2 (by simp)) D hz cB ee h1 h2 pl.isList ka.isList (by rcases aq with q|q;(left;simp;lia);(right;simp;lia)) fun h' hk=>⟨O,?_⟩
  refine I.slot0 (ch:=[z,TI,TO,i1,i2]) (tk:=s.toks) hf (fun b o _ hc e=>?_) (fun b o hb e=>⟨o.slots,?_⟩)
  .simp only[SS,SG,Wo,not_or] at hc
   exact hk b o hc.1 hc.2.2.1 hc.2.2.2.1 hc.2.2.2.2 e
  .exact hk b o (fun q=>nf z (by simp) (q ▸ hb)) (fun q=>nf TO (by simp) (q ▸ hb)) (fun q=>nf i1 (by simp) (q ▸ hb)) (fun q=>nf i2 (by simp) (q ▸ hb)) e
 self:=fun _ _ _ _ _ st h=>Um st.1 h
inductive Qi7 (K:R') (R:(It→Hp→Prop)) (vs:List V) (H1:Hp):Prop
 | mk (l1 l2:_) (_:vs=[.ref l1,.ref l2]) (_:(∃ xs,P' K H1 l1 xs)) (_:(∃ ys,P' K H1 l2 ys)) (_:R (Itz K l1 l2) H1)
def Qi8 (K:R') (ta:TA):TI:=fun σ H R=>ta σ H fun vs H1=>Qi7 K R vs H1
theorem Bj {k:Nat}{a b:Vh} (hg:Gl X "zip") (hm:X.mg "zip"=B') (ha:PA X [a,b] ta) (hs:Vk [a,b] X.env=[(M',Vg a X.env),(M',Vg b X.env)]:=by rfl) (fE:Vk [b] X.env=[(M',Vg b X.env)]:=by rfl) :
  PI X (.Tuple es k Qag) (.Call (.Name "zip" p) [a,b] [] pos) (Qi8 X.K ta):=by
 intro aa s σ H R I h
 refine Call_ (jr I hg hm boot_zip (Zh (U6 (ha pos aa s σ H _ I h) fun us s1=>L2.Ve fun vs H1 I1 r1 aQ=>?_) (by rw[hs,fE]) (by rw[fE];rfl)))
 obtain⟨l1,l2,e,⟨xs,q1⟩,⟨ys,q2⟩,q⟩:=aQ
 subst e
 obtain⟨u,u',rfl,ru,tJ⟩:=pG r1
 obtain rfl:u=U9 l1:=ru
 obtain rfl:u'=U9 l2:=tJ
 obtain⟨ag,rv,pl,_⟩:=I1.list q1
 obtain⟨its',cU,ka,_⟩:=I1.list q2
 refine call_zip_2 pl.isList ka.isList fun h' b1 b2 b3 b4 b5 b6 hk=>?_
 refine Um (s:={s1 with heap:=h'}) b1 ?_
 have iS:l1<s1.heap.objs.size:=by obtain⟨o,e,_⟩:=pl.isList;exact Se e
 have lI:l2<s1.heap.objs.size:=by obtain⟨o,e,_⟩:=ka.isList;exact Se e
 have nn:∀ (x y:Nat),x<y→∀ j:Nat,x≠y+j:=fun x y h j e=>by lia
 have n0:∀ (y i j:Nat),i≠j→y+i≠y+j:=fun y i j h e=>by lia
 have D:Yy (s1.heap.objs.size+4) (s1.heap.objs.size+2) (s1.heap.objs.size+3) s1.heap.objs.size (s1.heap.objs.size+1) l1 l2:=
  ⟨n0 _ 2 4 (by decide),n0 _ 3 4 (by decide),n0 _ 0 4 (by decide),n0 _ 1 4 (by decide),n0 _ 2 3 (by decide),n0 _ 2 0 (by decide),n0 _ 2 1 (by decide),n0 _ 3 0 (by decide),n0 _ 3 1 (by decide),n0 _ 0 1 (by decide),
   nn _ _ iS 4,nn _ _ iS 3,nn _ _ iS 0,nn _ _ iS 1,nn _ _ lI 4,nn _ _ lI 3,nn _ _ lI 0,nn _ _ lI 1⟩
 refine⟨s1.heap.objs.size+4,[s1.heap.objs.size+4,s1.heap.objs.size+2,s1.heap.objs.size+3,s1.heap.objs.size,s1.heap.objs.size+1],_,_,H1,O,I1.kept (t':=s1.toks) hk,LF D,⟨b1,b2,⟨_,_,b3⟩,b4,b5⟩,fun b hb=>?_,q⟩
 have ge:s1.heap.objs.size≤b:=by
  simp only[SS,SG,Wo] at hb
  rcases hb with rfl|rfl|rfl|rfl|rfl
  .exact Sy _ _
  .exact Sy _ _
  .exact Sy _ _
  .exact Sg _
  .exact Sy _ _
 exact I1.Xk ge (I1.UZ.fresh ge)
theorem Inv.freeze (I:Inv X aa σ H s) (e:H d=i' (.dK kvs)) (ho:s.heap.get? d=i' o):Inv X aa σ (upd H d (.Vf o (.dK kvs))) s:=by
 have ne:∀ b u,H b=i' u→u≠.dK kvs→b≠d:=fun b u q n z=>by rw[z,e] at q;cases q;exact n rfl
 have kp:∀ b u,H b=i' u→u≠.dK kvs→upd H d (.Vf o (.dK kvs)) b=i' u:=fun b u q n=>by rw[aj (ne b u q n)];exact q
 refine I.un (h':=s.heap) (t':=s.toks) ⟨fun b _ q _ _ _=>q,fun b ob q _ _ _=>⟨ob.slots,q⟩,fun b ob q n _=>?_,fun b ob q _=>⟨ob,q⟩,fun b xs q=>kp b _ q (by intro z;cases z),fun b ob u q=>kp b _ q (by intro z;cases z),fun b pp pq q=>kp b _ q (by intro z;cases z)⟩ fun b u q=>?_
 .rw[aj (fun z=>by rw[z,e] at n;cases n)];exact n
 .by_cases hb:b=d
  .subst hb
   rw[ah] at q;cases q
   exact⟨ho,(I.UZ _ _ e)⟩
  .rw[aj hb] at q
   exact(I.UZ b u q).WZ (fun c v _ r=>r) (fun c r=>kp c _ r (by intro z;cases z)) (fun c xs r=>kp c _ r (by intro z;cases z)) fun c ob r=>kp c _ r (by intro z;cases z)
theorem Inv.QeK (I:Inv X aa σ H s) (hX:∀ o u,X.H₀ d≠i' (.Vf o u)) (e:H d=i' (.Vf o (.dK kvs))):Inv X aa σ (upd H d (.dK kvs)) s:=by
 have ne:∀ b u,H b=i' u→(∀ o v,u≠.Vf o v)→b≠d:=fun b u q n z=>by rw[z,e] at q;cases q;exact n _ _ rfl
 have kp:∀ b u,H b=i' u→(∀ o v,u≠.Vf o v)→upd H d (.dK kvs) b=i' u:=fun b u q n=>by rw[aj (ne b u q n)];exact q
 have nn:∀ b,H b=B'→upd H d (.dK kvs) b=B':=fun b q=>by rw[aj (fun z=>by rw[z,e] at q;cases q)];exact q
 have un:Un X.fs X.ex X.H₀ (upd H d (.dK kvs)) X.s₀.heap s.heap:=by
  obtain⟨b1,b2,b3,b4,b5,b6,b7⟩:=I.base
  refine⟨b1,b2,fun b ob q n x=>nn b (b3 b ob q n x),b4,fun b xs q=>kp b _ (b5 b xs q) (by intro _ _ z;cases z),fun b ob u q=>?_,fun b pp pq q=>?_⟩
  .rw[aj (fun z=>hX ob u (by rw[← z];exact q))];exact b6 b ob u q
  .exact kp b _ (b7 b pp pq q) (by intro _ _ z;cases z)
 refine {I with base:=un,free:=nn _ I.free,Wx:=fun x c q=>nn _ (I.Wx x c q),pin:=fun p hp=>?_,UZ:=fun b u q=>?_}
 .obtain⟨p1,p2,p3⟩:=I.pin p hp
  exact⟨p1,nn _ p2,p3⟩
 .by_cases hb:b=d
  .subst hb
   rw[ah] at q;cases q
   exact(I.UZ _ _ e).2
  .rw[aj hb] at q
   exact(I.UZ b u q).WZ (fun c v _ r=>r) (fun c r=>kp c _ r (by intro _ _ z;cases z)) (fun c xs r=>kp c _ r (by intro _ _ z;cases z)) fun c ob r=>by rw[aj (fun z=>by rw[z,e] at r;cases r)];exact r
theorem Inv.QeL (I:Inv X aa σ H s) (e:H d=i' (.dK kvs)):∀ o u,X.H₀ d≠i' (.Vf o u):=fun o u q=>by
 have:=I.base.W0 d o u q
 rw[e] at this;cases this
inductive Qi9 (t:TE) (σ:St) (H:Hp) (Q:VK):Prop
 | mk (d kvs:_) (_:H d=i' (.dK kvs)) (_:t σ H fun v H1=>∃ o,H1 d=i' (.Vf o (.dK kvs))∧Q v (upd H1 d (.dK kvs)))
theorem OJ {t:TE} (h:PE X e t):PE X e (Qi9 t):=by
 intro aa s σ H Q I q
 obtain⟨d,kvs,hd,q⟩:=q
 exact U6 (h aa s σ H _ I q) fun u s1 ⟨x,H1,I1,r,o,e1,q1⟩=>⟨x,_,I1.QeK (I.QeL hd) e1,r,q1⟩
def kE (v d:F'):HO:=.ext fun h=>h.IsItemsView v d
inductive Qja (x:V) (vs:List V) (H:Hp) (Q:VK):Prop
 | mk (d kvs:_) (_:x=.ref d) (_:vs=[]) (_:H d=i' (.dK kvs)) (_:∀ v,H v=B'→Q (.ref v) (upd H v (kE v d)))
theorem Fq:MtR X "dict.items" Qja:=by
 intro aa s σ H x xs v us Q I rx r h
 obtain⟨d,kvs,rfl,rfl,e,q⟩:=h
 obtain rfl:v=U9 d:=rx
 cases r
 obtain⟨z,hd,vs,rel,dd⟩:=pJ I.UZ e
 refine QaH Qdi dd.typeIs PySem.F.entry_dict_items (PySem.F.args_dict_items_1 _) (meets_dict_items (bM X.prog X.w) d hd) ⟨⟨vs,dd⟩,?_⟩
 refine⟨.ref s.heap.objs.size,_,I.laid (t':=s.toks) (o:=kE s.heap.objs.size d) (fun b ob q=>Sc _ q) (Sg _) ?_,O,q _ (I.UZ.fresh (Sg _))⟩
 exact⟨⟨_,Sf _ O,O,O⟩,⟨_,Sf _ O⟩,fun h1 h2 ⟨o,a,r⟩ k=>⟨o,k o a,r⟩⟩
def Iti (d:F') (o:Vd) (kvs:List (Key×V)):It:=
 ⟨fun i H=>H d=i' (.Vf o (.dK kvs))∧i<kvs.length,fun i H v H'=>∃ T k x,v=.ref T∧H T=B'∧kvs[i]?=i' (k,x)∧H'=upd H T (.tup [kV k,x]),fun i H=>H d=i' (.Vf o (.dK kvs))∧kvs.length≤i⟩
def Qjb (h:Vo) (it d:F') (o:Vd) (n i:Nat):Prop:=∃ es ep ok ov,o.data=.dict es ep∧IsItemIter h it d i n ep ok ov
theorem Aw {P:Vy}{k:Key} (h:(bM P w).is k u=D'):aA (kV k) u:=by
 rcases kt (show lO k u=D' from h) with⟨i,t,rfl,rfl⟩|⟨x,t,rfl,rfl⟩
 .exact⟨t,O⟩
 .exact⟨t,O⟩
theorem KV.get {kvs:List (Key×V)}{vs:List (Key×K')} (r:KV kvs vs):∀ {i:Nat}{k:Key}{x:V},kvs[i]?=i' (k,x)→∃ u,vs[i]?=i' (k,u)∧aA x u:=by
 induction r with
 | nil=>intro i k x e;simp at e
 | @cons p q l1 l2 h t ih=>
  intro i k x e
  cases i with
  | zero=>
   simp at e
   subst e
   exact⟨q.2,by simp only[List.getElem?_cons_zero,QmV];exact Prod.ext h.1.symm O,h.2⟩
  | succ i=>exact ih (by simpa using e)
theorem Nm:Qcy table "dict_itemiterator.__iter__"=i' XF.«dict_keyiterator.__iter__»:=QhB (id':="dict_keyiterator.__iter__") (by kernel_rfl) rfl (by decide +kernel) (by kernel_rfl)
theorem MT {P:Vy}{K:R'}{k:Nat}:nF P w K (.Tuple es k pos) (Iti d o kvs) [it] it (fun i h=>Qjb h it d o kvs.length i) where
 mem:=by simp
 obj:=fun i h st b hb=>by
  have e:b=it:=by simpa using hb
  subst e
  obtain⟨_,_,_,_,_,e⟩:=st
  exact⟨_,e,fun v q=>by simp at q⟩
 keep:=fun i h h' st kk=>by
  obtain⟨a,b,c,e,q,y⟩:=st
  exact⟨a,b,c,e,q,kk it (by simp) _ y⟩
 item:=by
  intro X hP hw hK hc i aa s σ H E I hf st hg
  subst hP hw hK
  obtain⟨hd,bq⟩:=hg
  obtain⟨ij,ep,ok,ov,az,aJ⟩:=st
  obtain⟨f0,f1,f2,f3,f4,f5⟩:=hf it (by simp)
  obtain⟨ho,ug⟩:=I.UZ _ _ hd
  obtain⟨z,oO,vs,rel,⟨o',DR,DP,j8,sw,cC,r2⟩⟩:=ug
  rw[ho] at j8;cases j8
  rw[az] at cC;cases cC
  have iR:s.heap.DictAt (bM X.prog X.w) d vs ep:=⟨o,ij,ho,sw,az,r2⟩
  obtain⟨⟨kk,x⟩,hx⟩:∃ p,kvs[i]?=i' p:=⟨kvs[i],by simp[bq]⟩
  obtain⟨u,hu,ru⟩:=rel.get hx
  have aq:kvs.length=vs.length:=rel.length
  rw[aq] at aJ
  refine wpAny_pyNext_items_item aJ iR hu fun key h' cr a1 a2 a3 JJ=>⟨_,O,?_⟩
  refine wpAny_letOwnedTupleGo_items (s:={s with heap:=h'}) a1 fun eh bO bL=>?_
  have rY:H s.heap.objs.size=B':=I.UZ.fresh (Sg _)
  have nT:s.heap.objs.size≠it:=U5 (Sh (Se aJ))
  have I1:Inv X aa σ (upd H s.heap.objs.size (.tup [kV kk,x])) {s with heap:=s.heap.push {cls:=.type "tuple",data:=.seq #[key,u]} }:=
   I.laid (t':=s.toks) (fun b o e=>Sc _ e) (Sg _) ⟨by show 2≤U2;decide,[key,u],.cons (Aw cr) (.cons ru .nil),⟨_,Sf _ rfl,O,_,O⟩⟩
  have DT:upd H s.heap.objs.size (.tup [kV kk,x]) it=B':=by rw[aj (U5 nT)];exact f0
  have I2:Inv X aa σ (upd H s.heap.objs.size (.tup [kV kk,x])) {s with heap:=eh}:=I1.turned (t':=s.toks) (fun b ob hb e=>by
   rcases T0 e with⟨rfl,rfl⟩|e
   .exact bL.extBut _ _ hb a2
   .exact bL.extBut _ _ hb (JJ b ob hb e)) DT f1 f3 f4 f5
  refine⟨.ref s.heap.objs.size,_,I2,O,⟨_,kk,x,O,rY,hx,O⟩,⟨ij,ep,key,u,az,by rw[aq];exact bO⟩,fun b hb=>?_⟩
  have e:b=it:=by simpa using hb
  subst e
  exact DT
 done:=by
  intro X hP hw hK hc i aa s σ H E I hf st hg
  subst hP hw hK
  obtain⟨hd,lC⟩:=hg
  obtain⟨ij,ep,ok,ov,az,aJ⟩:=st
  obtain⟨f0,f1,f2,f3,f4,f5⟩:=hf it (by simp)
  obtain⟨ho,ug⟩:=I.UZ _ _ hd
  obtain⟨z,oO,vs,rel,⟨o',DR,DP,j8,sw,cC,r2⟩⟩:=ug
  rw[ho] at j8;cases j8
  rw[az] at cC;cases cC
  have iR:s.heap.DictAt (bM X.prog X.w) d vs ep:=⟨o,ij,ho,sw,az,r2⟩
  have aq:kvs.length=vs.length:=rel.length
  rw[aq] at aJ
  have nc:∃ cs,V4 X.A cs∧Vx s.heap cs∧it∉cs:=by
   rcases I.Y7 with e|⟨b,cs,e,c⟩
   .exact⟨[],.inl ⟨e,O⟩,⟨T8,fun j a q=>by simp at q⟩,by simp⟩
   .exact⟨b::cs,.inr ⟨b,cs,O,e⟩,c.chn I.UZ,c.Qbr f0⟩
  obtain⟨cs,cE,ch,qm⟩:=nc
  exact Rj cE ch qm aJ iR (TU (by rw[← aq];exact lC)) fun h' eb=>⟨O,I.turned (t':=s.toks) (fun b o hb e=>eb b o hb e) f0 f1 f3 f4 f5⟩
 self:=fun A i s Q E st h=>by
  obtain⟨ij,ep,ok,ov,az,aJ⟩:=st
  have hT:s.TypeIs (.ref it) "dict_itemiterator":=⟨_,aJ,O⟩
  refine wpAny_pyIter_slot hT Qfn (SL Qfn hT Nm ?_ (PySem.F.args_dict_itemiterator_iter_1 _))
  show L' _ _ (ret (.ref it)) _ _ s
  exact Sd ⟨_,O,"dict_itemiterator",_,hT,Qdf.lookup,h⟩
inductive Qjc (R:(It→Hp→Prop)) (x:V) (H1:Hp):Prop
 | mk (v d kvs:_) (_:x=.ref v) (_:H1 v=i' (kE v d)) (_:H1 d=i' (.dK kvs)) (_:∀ o,R (Iti d o kvs) (upd H1 d (.Vf o (.dK kvs))))
def Qjd (tl:TE):TI:=fun σ H R=>tl σ H fun x H1=>Qjc R x H1
theorem EN {k:Nat}{l:Vh} (hl:PE X l tl):PI X (.Tuple es k Qag) l (Qjd tl):=by
 intro aa s σ H R I h
 refine U6 (hl aa s σ H _ I h) fun w s1=>L2.Ve fun x H1 I1 r1 aQ=>?_
 obtain⟨v,d,kvs,e,hv,hd,q⟩:=aQ
 subst e
 obtain rfl:w=U9 v:=r1
 obtain⟨z,oO,vs,rel,dd⟩:=pJ I1.UZ hd
 obtain⟨o,ij,ep,ho,hx,az,r⟩:=id dd
 have iR:s1.heap.DictAt (bM X.prog X.w) d vs ep:=⟨o,ij,ho,hx,az,r⟩
 refine wpAny_pyIter_items (I1.UZ _ _ hv).1 iR ?_
 have I2:=(I1.freeze hd ho).kept (t':=s1.toks) (h':=s1.heap.push {cls:=.type "dict_itemiterator",data:=.fields #[.none,.bool M',.ref d,.int 0 0,.int vs.length 0,.int ep 0,.none,.none]}) fun b o e=>Sc _ e
 refine⟨s1.heap.objs.size,[s1.heap.objs.size],_,_,_,O,I2,MT,⟨ij,ep,.none,.none,az,?_⟩,fun b hb=>?_,q o⟩
 .rw[rel.length];exact Sf _ rfl
 .have e:b=s1.heap.objs.size:=by simpa using hb
  subst e
  refine I1.Xk (Sg _) ?_
  rw[aj (U5 (Sh (Se ho)))]
  exact I1.UZ.fresh (Sg _)
theorem P5 {Q:VK} (Pv:Nat→St→Hp→Prop) (h0:Pv 0 τ H) (hf:∀ i τ H,i≤kvs.length→Pv i τ H→H d=i' (.Vf o (.dK kvs)))
  (hs:∀ i k x T τ H,kvs[i]?=i' (k,x)→H T=B'→Pv i τ H→g (.ref T) τ (upd H T (.tup [kV k,x])) fun τ2 H2=>tt τ2 H2 fun b H3=>
   if b=D' then te τ2 H3 fun y H4=>∃ ys,H4 D=i' (.lst ys)∧ys.length<U2∧Pv (i+1) τ2 (upd H4 D (.lst (ys++[y]))) else Pv (i+1) τ2 H3)
  (hd:∀ τ H,Pv kvs.length τ H→Q (.ref D) H):kL (Iti d o kvs) D τ H g tt te Q:=
 Yh (n:=kvs.length) Pv h0 (fun i σ H hi p=>⟨fun h=>⟨hf i σ H hi p,h⟩,fun h=>⟨hf i σ H hi p,h⟩⟩) (fun i v σ H H' hi p y=>by
 obtain⟨T,k,x,rfl,hT,hx,rfl⟩:=y
 exact hs i k x T σ H hx hT p) hd
theorem Ox {K:R'}{ys:List V}{Q:VK} (aq:xs.length=ys.length) (Pv:Nat→St→Hp→Prop) (h0:Pv 0 τ H) (hl:∀ i τ H,i≤xs.length→Pv i τ H→P' K H l1 xs∧P' K H l2 ys)
  (hs:∀ i x y T τ H,xs[i]?=i' x→ys[i]?=i' y→H T=B'→Pv i τ H→g (.ref T) τ (upd H T (.tup [x,y])) fun τ2 H2=>tt τ2 H2 fun b H3=>
   if b=D' then te τ2 H3 fun y H4=>∃ ys,H4 D=i' (.lst ys)∧ys.length<U2∧Pv (i+1) τ2 (upd H4 D (.lst (ys++[y]))) else Pv (i+1) τ2 H3)
  (hd:∀ τ H,Pv xs.length τ H→Q (.ref D) H):kL (Itz K l1 l2) D τ H g tt te Q:=
 Yh (n:=xs.length) Pv h0 (fun i σ H hi p=>⟨fun h=>⟨xs,ys,xs[i],ys[i],(hl i σ H hi p).1,(hl i σ H hi p).2,by simp[h],by simp[show i<ys.length by lia]⟩,fun h=>⟨xs,ys,(hl i σ H hi p).1,(hl i σ H hi p).2,.inl h⟩⟩) (fun i v σ H H' hi p y=>by
 obtain⟨T,x,y,rfl,hT,rfl,hx,hy⟩:=y
 exact hs i x y T σ H (hx xs (hl i σ H (S1 hi) p).1) (hy ys (hl i σ H (S1 hi) p).2) hT p) hd
theorem xf:WK "int"=i' (.type "int"):=by decide +kernel
theorem vd:WK "str"=i' (.type "str"):=by decide +kernel
theorem OS:WK "bool"=i' (.type "bool"):=by decide +kernel
theorem wZ:WK "list"=i' (.type "list"):=by decide +kernel
theorem Fb:WK "dict"=i' (.type "dict"):=by decide +kernel
theorem nK:WK "isinstance"=i' (.builtin "isinstance"):=by decide +kernel
theorem A4:WK "all"=i' (.builtin "all"):=by decide +kernel
theorem Qje:WK "any"=i' (.builtin "any"):=by decide +kernel
theorem dk:WK "len"=i' (.builtin "len"):=by decide +kernel
theorem AL:WK "min"=i' (.builtin "min"):=by decide +kernel
theorem Qjf:WK "max"=i' (.builtin "max"):=by decide +kernel
theorem Qjg:WK "sum"=i' (.builtin "sum"):=by decide +kernel
theorem Ph (bs:List Bool) (d:Bool):(VX bs.length).all (fun i=>bs.getD i d)=bs.all id:=by
 induction bs with
 | nil=>rfl
 | cons b bs ih=>
  rw[Sz,TM,TR,Qbh,TR,← ih]
  rfl
theorem O0 (bs:List Bool) (d:Bool):(VX bs.length).any (fun i=>bs.getD i d)=bs.any id:=by
 induction bs with
 | nil=>rfl
 | cons b bs ih=>
  rw[Sz,TM,Tr,List.any_map,Tr,← ih]
  rfl
theorem Hk {bs:List Bool} (r:aB (bs.map V.bl) us) (h:us[i]?=i' v):v=.bool (bs.getD i D'):=by
 have hl:(bs.map V.bl).length=us.length:=r.length
 have hi:i<bs.length:=by
  have:=(VI.mp h).1
  rw[Ss] at hl
  lia
 obtain⟨u,hu,ru⟩:=r.get (i:=i) (x:=.bl bs[i]) (by simp[hi])
 rw[h] at hu;cases hu
 rw[SR,SI hi]
 exact ru
theorem AR:fi X (.builtin "all") (fun xs H Q=>∃ p,∃ bs:List Bool,xs=[.ref p]∧P' X.K H p (bs.map V.bl)∧Q (.bl (bs.all id)) H):=by
 intro aa s σ H xs us Q I r h
 obtain⟨p,bs,rfl,hq,q⟩:=h
 obtain⟨u,rfl,ru⟩:=eZ r
 obtain rfl:u=U9 p:=ru
 obtain⟨ag,rv,pl,_⟩:=I.list hq
 obtain⟨cs,cE,ch⟩:=I.hd.chain
 have bq:p<s.heap.objs.size:=by obtain⟨o,e,_⟩:=pl.isList;exact Se e
 have iP:s.heap.objs.size∉cs:=fun z=>So _ (ch.lt _ z)
 have aq:ag.length=bs.length:=by rw[← rv.length,Ss]
 refine call_all_walk (Tj pl.isList ⟨s.heap.objs.size,_,_,_,_,_,fun i=>bs.getD i D',O,qI (A:=X.A.in1) cE s.heap.objs.size p (Sh bq) iP ag.toArray,⟨⟨_,Sf _ O,O,O⟩,pl.isList.push _,ch.mono fun b o _ e=>Sc _ e⟩,?_,fun h' tk hk=>?_⟩)
 .intro i v s' Q' E' hv zj
  have eM:ag[i]?=i' v:=by simpa using hv
  rw[Hk rv eM]
  exact SO zj
 .have e:(VX ag.toArray.size).all (fun i=>bs.getD i D')=bs.all id:=by rw[Si,aq];exact Ph bs D'
  rw[e]
  exact⟨.bl _,H,I.kept fun b o e=>hk b o (fun z=>by
   have:b=s.heap.objs.size:=by simpa using z
   exact U' (Se e) (by rw[this];exact So _)) (Sc _ e),O,q⟩
theorem P1:fi X (.builtin "any") (fun xs H Q=>∃ p,∃ bs:List Bool,xs=[.ref p]∧P' X.K H p (bs.map V.bl)∧Q (.bl (bs.any id)) H):=by
 intro aa s σ H xs us Q I r h
 obtain⟨p,bs,rfl,hq,q⟩:=h
 obtain⟨u,rfl,ru⟩:=eZ r
 obtain rfl:u=U9 p:=ru
 obtain⟨ag,rv,pl,_⟩:=I.list hq
 obtain⟨cs,cE,ch⟩:=I.hd.chain
 have bq:p<s.heap.objs.size:=by obtain⟨o,e,_⟩:=pl.isList;exact Se e
 have iP:s.heap.objs.size∉cs:=fun z=>So _ (ch.lt _ z)
 have aq:ag.length=bs.length:=by rw[← rv.length,Ss]
 refine call_any_walk (Tj pl.isList ⟨s.heap.objs.size,_,_,_,_,_,fun i=>bs.getD i D',O,qI (A:=X.A.in1) cE s.heap.objs.size p (Sh bq) iP ag.toArray,⟨⟨_,Sf _ O,O,O⟩,pl.isList.push _,ch.mono fun b o _ e=>Sc _ e⟩,?_,fun h' tk hk=>?_⟩)
 .intro i v s' Q' E' hv zj
  have eM:ag[i]?=i' v:=by simpa using hv
  rw[Hk rv eM]
  exact SO zj
 .have e:(VX ag.toArray.size).any (fun i=>bs.getD i D')=bs.any id:=by rw[Si,aq];exact O0 bs D'
  rw[e]
  exact⟨.bl _,H,I.kept fun b o e=>hk b o (fun z=>by
   have:b=s.heap.objs.size:=by simpa using z
   exact U' (Se e) (by rw[this];exact So _)) (Sc _ e),O,q⟩
theorem QV {P:Vy}:∀ {kvs:List (Key×V)}{vs:List (Key×K')}{acc:List K'},KV kvs vs→acc.length=vs.length→(∀ (i:Nat) (v:K'),acc[i]?=i' v→∃ k x,vs[i]?=i' (k,x)∧(bM P w).is k v=D')→aB (kvs.map fun kv=>kV kv.1) acc:=by
 intro kvs vs acc r
 induction r generalizing acc with
 | nil=>
  intro hl _
  cases acc with
  | nil=>exact .nil
  | cons _ _=>simp at hl
 | @cons p q ps qs h t ih=>
  intro hl hk
  cases acc with
  | nil=>simp at hl
  | cons v acc=>
   obtain⟨k,x,e,hv⟩:=hk 0 v rfl
   simp at e
   subst e
   refine .cons ?_ (ih (by simpa using hl) fun i v' eM=>by simpa using hk (i+1) v' (by simpa using eM))
   show aA (kV p.1) v
   rw[h.1]
   exact Aw hv
theorem Pb:fi X (.type "list") (fun xs H Q=>∃ d kvs,xs=[.ref d]∧H d=i' (.dK kvs)∧∀ l,H l=B'→Q (.ref l) (upd H l (.lst (kvs.map fun kv=>kV kv.1)))):=by
 intro aa s σ H xs us Q I r h
 obtain⟨d,kvs,rfl,hd,q⟩:=h
 obtain⟨u,rfl,ru⟩:=eZ r
 obtain rfl:u=U9 d:=ru
 obtain⟨z,oO,vs,rel,dd⟩:=pJ I.UZ hd
 obtain⟨ep,iR⟩:=dd.dictAt
 obtain⟨cs,cE,ch⟩:=I.hd.chain
 refine Po cE oO iR ch (by rw[← rel.length];exact z) fun s' acc c' kp g1 g2 g3 hS ha=>?_
 have rv:aB (kvs.map fun kv=>kV kv.1) acc.toList:=QV rel (by simpa using ha.1) fun i v hv=>ha.2 i v (by simpa using hv)
 have I':Inv X aa σ (upd H s.heap.objs.size (.lst (kvs.map fun kv=>kV kv.1))) {s with heap:=s'.heap,toks:=s'.toks}:=
  I.laid kp (Sg _) ⟨by rw[Ss];exact z,acc.toList,c',rv,by simpa using hS⟩
 obtain⟨h',g',d',t',vL⟩:=s'
 dsimp only at g1 g2 g3 I'
 subst g1 g2 g3
 exact⟨.ref s.heap.objs.size,_,I',O,q _ (I.UZ.fresh (Sg _))⟩
section
variable {K:R'} (hK:X.K=K)
include hK
theorem uV:ZF X (QeA K):=hK ▸ bb
theorem nN:ZF X (QcK K):=hK ▸ eA
theorem Bq {f:C'}{ta:TE} (he:PE X e ta) (hb:YV e f X.env (Vg e X.env)=Vg e X.env):PE X (.Attribute e f pos) (Qex K ta f):=hK ▸ bf he hb
theorem Nu {f:C'}{ta:TE} (he:PE X e ta) (hb:YV e f X.env (Vg e X.env)=Vg e X.env):PE X (.Attribute e f pos) (QeJ K ta f):=hK ▸ QJ he hb
theorem jf {k:Nat}{t:ZC} (hc:X.calm=D') (h:PGs X es t) (hn:(XZ es X.env).length=n:=by rfl) (cO:(XZ es X.env).findIdx? (·.1)=B':=by rfl):PG X (.Tuple es k pos) (Qer K n t):=hK ▸ iW hc h hn cO
end
section
theorem Lz (hc:V4 A cs) (I ax:F') (gu:ax≠I) (hI:I∉cs) (items:Array K') :
  Qae prog w A I (I::ax::cs) [I] items.size (fun i v=>items[i]?=i' v) (fun i h=>h.IsTupleIter I ax i∧h.IsTuple ax items∧Vx h cs) where
 sub:=fun b hb=>by simp at hb;simp[hb]
 frame:=fun _ _ _ st hk=>⟨st.1.at fun o e=>hk I (by simp) o e,st.2.1.at fun o e=>hk ax (by simp) o e,st.2.2.mono fun b o hb e=>hk b (by simp[hb]) o e⟩
 item:=fun i s Q E hi st hQ=>by
  refine wpAny_pyNext_tuple_item st.1 st.2.1 (x:=items[i]) (by simp[hi]) fun h' bO bL=>?_
  exact hQ _ h' s.toks (by simp[hi]) ⟨bO,st.2.1.extBut bL.extBut gu,st.2.2.but hI bL.extBut⟩ fun b o hb e=>bL.extBut b o (fun h=>hb (by simp[h])) e
 done:=fun s Q E st hQ=>HZ (hc.hd st.2.2) st.1 st.2.1 (by simp) fun h' dz=>hQ h' s.toks fun b o hb e=>dz b o (fun h=>hb (by simp[h])) e
 self:=fun _ _ _ _ st hQ=>wpAny_pyIter_tupleiter st.1 hQ
theorem Qjh {a b:Int}{u:Wq}{Q:K'→UW→Prop} (hc:V4 A cs) (ch:Vx s.heap cs)
  (h:∀ h' tk,(∀ c o,s.heap.get? c=i' o→h'.get? c=i' o)→Q (if b<a then .int b u else .int a t) {s with heap:=h',toks:=tk}) :
  L' (UV prog w) A (call (.builtin "min") [.int a t,.int b u]) Q E s:=by
 have hT:(s.heap.push {cls:=.type "tuple",data:=.seq #[.int a t,.int b u]}).IsTuple s.heap.objs.size (Y0 #[(a,t),(b,u)]):=⟨_,Sf _ O,O,0,by simp[Y0]⟩
 refine call_min_two (wpAny_pyIter_tuple hT ?_)
 have hsz:(s.heap.push {cls:=.type "tuple",data:=.seq #[.int a t,.int b u]}).objs.size=s.heap.objs.size+1:=Su ..
 have ns:∀ k,s.heap.objs.size≤k→k∉cs:=fun k hk z=>U' (ch.lt _ z) (Qcs.mpr hk)
 refine⟨_,_,[_],_,_,_,_,O,Lz (A:=A.in1) hc _ s.heap.objs.size (by rw[hsz];exact Sh (SY _)) (ns _ (by rw[hsz];exact SH _)) (Y0 #[(a,t),(b,u)]),
  ⟨⟨_,Sf _ rfl,rfl,rfl⟩,hT.push _,ch.mono fun b o _ e=>Sc _ (Sc _ e)⟩,fun c hc=>?_,by simp[Y0],QdR (Y2 #[(a,t),(b,u)]) (fun _ _=>intItems_at),fun v h' tk hP hk=>?_⟩
 .show c<((s.heap.push _).push _).objs.size
  rw[Su,hsz]
  rcases SS.mp hc with rfl|hc
  .rw[hsz];exact SY _
  .rcases SS.mp hc with rfl|hc
   .exact SM (SY _)
   .exact Sj (ch.lt _ hc) (by lia)
 .have ye:∀ c o,s.heap.get? c=i' o→h'.get? c=i' o:=fun c o e=>by
   refine hk c o (fun hm=>?_) (Sc _ (Sc _ e))
   have e1:=Vn.mp hm
   have:=Se e
   rw[e1,hsz] at this
   exact So _ (UR this)
  have:=h h' tk ye
  have hv:v=if b<a then X0 b u else X0 a t:=by
   have jY:(Y0 #[(a,t),(b,u)])[VY (fun i j=>decide (Y2 #[(a,t),(b,u)] i<Y2 #[(a,t),(b,u)] j)) 1]?=i' v:=by
    have y8:(Y0 #[(a,t),(b,u)]).size-1=1:=by simp[Y0]
    rw[← y8];exact hP
   by_cases vt:b<a
   .have e:VY (fun i j=>decide (Y2 #[(a,t),(b,u)] i<Y2 #[(a,t),(b,u)] j)) 1=1:=by simp[VY,Y2,vt]
    rw[e] at jY
    simpa [Y0,vt] using jY.symm
   .have e:VY (fun i j=>decide (Y2 #[(a,t),(b,u)] i<Y2 #[(a,t),(b,u)] j)) 1=0:=by simp[VY,Y2,vt]
    rw[e] at jY
    simpa [Y0,vt] using jY.symm
  rw[hv];exact this
section
variable {κ:Type} [DecidableEq κ] {knd:KeyKind prog w κ}
end
end
theorem PP:fi X (.builtin "min") (fun xs H Q=>∃ i j,xs=[.int i,.int j]∧Q (.int (if j<i then j else i)) H):=by
 intro aa s σ H xs us Q I r h
 obtain⟨i,j,rfl,q⟩:=h
 obtain⟨u,w',rfl,⟨t,rfl⟩,⟨t',rfl⟩⟩:=pG r
 obtain⟨cs,cE,ch⟩:=I.hd.chain
 refine Qjh cE ch fun h' tk k=>⟨_,H,I.kept k,?_,q⟩
 by_cases hj:j<i
 .rw[U3 hj,U3 hj];exact⟨_,O⟩
 .rw[U4 hj,U4 hj];exact⟨_,O⟩
theorem uG (r:aB (ns.map V.int) us) (h:us[i]?=i' v):∃ t,v=.int (ns.getD i 0) t:=by
 induction ns generalizing us i with
 | nil=>
  cases r
  simp at h
 | cons n ns ih=>
  cases r with
  | cons rv rr=>
   cases i with
   | zero=>
    obtain⟨t,rfl⟩:=rv
    simp at h
    exact⟨t,h.symm⟩
   | succ i=>exact ih rr (by simpa using h)
theorem Mp (f:Nat→Int) (ns:List Int) (h:∀ i,f i=ns.getD i 0):preSum f ns.length=ns.sum:=by
 have e:f=fun i=>ns.getD i 0:=funext h
 rw[e,preSum_getD,Uo]
theorem P3:fi X (.builtin "sum") (fun xs H Q=>∃ p,∃ ns:List Int,xs=[.ref p]∧P' X.K H p (ns.map V.int)∧Q (.int ns.sum) H):=by
 intro aa s σ H xs us Q I r h
 obtain⟨p,ns,rfl,hq,q⟩:=h
 obtain⟨u,rfl,ru⟩:=eZ r
 obtain rfl:u=U9 p:=ru
 obtain⟨ag,rv,pl,_⟩:=I.list hq
 obtain⟨cs,cE,ch⟩:=I.hd.chain
 have bq:p<s.heap.objs.size:=by obtain⟨o,e,_⟩:=pl.isList;exact Se e
 have iP:s.heap.objs.size∉cs:=fun z=>So _ (ch.lt _ z)
 have aq:ag.length=ns.length:=by rw[← rv.length,Ss]
 refine call_sum_walkG (Tj pl.isList ⟨s.heap.objs.size,_,_,_,_,_,fun i=>ns.getD i 0,O,qI (A:=X.A.in1) cE s.heap.objs.size p (Sh bq) iP ag.toArray,⟨⟨_,Sf _ O,O,O⟩,pl.isList.push _,ch.mono fun b o _ e=>Sc _ e⟩,?_,?_,fun h' tk t' hk=>?_⟩)
 .intro b hb
  show b<(s.heap.push _).objs.size
  rw[Su]
  rcases SS.mp hb with rfl|hb
  .exact SY _
  .rcases SS.mp hb with rfl|hb
   .exact SM bq
   .exact SM (ch.lt _ hb)
 .intro i v hv
  exact uG rv (by simpa using hv)
 .have e:preSum (fun i=>ns.getD i 0) ag.toArray.size=ns.sum:=by rw[Si,aq];exact Mp _ _ fun _=>rfl
  rw[e]
  exact⟨.int _,H,I.kept fun b o e=>hk b o (fun z=>by
   have:b=s.heap.objs.size:=by simpa using z
   exact U' (Se e) (by rw[this];exact So _)) (Sc _ e),⟨_,O⟩,q⟩
theorem len0 (h:P []) (us:List K') (e:us.length=0):P us:=by
 rw[Qdl.mp e]
 exact h
theorem qC (h:∀ a us,us.length=n→P (a::us)) (us:List K') (e:us.length=n+1):P us:=by
 cases us with
 | nil=>cases e
 | cons a us=>exact h a us (Nat.succ.inj e)
theorem len1 (h:∀ a0,P [a0]):∀ us:List K',us.length=1→P us:=qC fun a=>len0 (P:=fun r=>P (a::r)) (h a)
theorem len2 (h:∀ a0 a1,P [a0,a1]):∀ us:List K',us.length=2→P us:=qC fun a=>len1 (P:=fun r=>P (a::r)) (h a)
theorem len3 (h:∀ a0 a1 a2,P [a0,a1,a2]):∀ us:List K',us.length=3→P us:=qC fun a=>len2 (P:=fun r=>P (a::r)) (h a)
theorem len4 (h:∀ a0 a1 a2 a3,P [a0,a1,a2,a3]):∀ us:List K',us.length=4→P us:=qC fun a=>len3 (P:=fun r=>P (a::r)) (h a)
theorem len5 (h:∀ a0 a1 a2 a3 a4,P [a0,a1,a2,a3,a4]):∀ us:List K',us.length=5→P us:=qC fun a=>len4 (P:=fun r=>P (a::r)) (h a)
theorem len6 (h:∀ a0 a1 a2 a3 a4 a5,P [a0,a1,a2,a3,a4,a5]):∀ us:List K',us.length=6→P us:=qC fun a=>len5 (P:=fun r=>P (a::r)) (h a)
theorem cI {A B:Prop} (hb:b=M') (h:B):if b=D' then A else B:=by
 subst hb
 exact gC h
theorem fW {A B:Prop} (hb:b=D') (h:A):if b=D' then A else B:=by
 subst hb
 exact cY h
theorem bc {A B:Prop} (h1:b=D'→A) (h2:b=M'→B):if b=D' then A else B:=by
 cases b with
 | true=>exact cY (h1 O)
 | false=>exact gC (h2 O)
def isTup:HO→Bool
 | .tup _=>D'
 | .Vf _ (.tup _)=>D'
 | _=>M'
def Tk (H H':Hp):Prop:=∀ b o,H b=i' o→isTup o=D'→H' b=i' o
theorem Tk.of (e:ae H H'):Tk H H':=fun b o h _=>e b o h
theorem Tk.trans (a:Tk H H1) (b:Tk H1 H2):Tk H H2:=fun c o h z=>b c o (a c o h z) z
theorem Tk.upd {H:Hp}{c:F'}{u o:HO} (h:H c=i' u) (n:isTup u=M'):Tk H (L2.upd H c o):=fun b w e z=>by
 have:b≠c:=fun q=>by subst q;rw[h] at e;cases e;rw[n] at z;cases z
 rw[aj this]
 exact e
theorem Tk.V7 {K:R'} (e:Tk H H') (h:Vi K H a xs):Vi K H' a xs:=by
 rcases h with(h|⟨o,h⟩)|h
 .exact .inl (.inl (e _ _ h O))
 .exact .inl (.inr ⟨o,e _ _ h O⟩)
 .exact .inr h
mutual
def xg:Dt→Bool
 | .lst _=>M'
 | .tup ds=>uF ds
 | _=>D'
def uF:List Dt→Bool
 | []=>D'
 | d::ds=>xg d && uF ds
end
mutual
theorem Tk.dt {K:R'}{H H':Hp} (e:Tk H H'):∀ {d:Dt}{x:V},xg d=D'→VW K H d x→VW K H' d x
 | .U8,_,_,h=>h
 | .bl _,_,_,h=>h
 | .int _,_,_,h=>h
 | .str _,_,_,h=>h
 | .lst ds,_,z,h=>by cases z
 | .tup ds,_,z,h=>by
  obtain⟨a,xs,e1,h1,h2⟩:=h
  exact⟨a,xs,e1,e.V7 h1,e.Vs z h2⟩
theorem Tk.Vs {K:R'}{H H':Hp} (e:Tk H H'):∀ {ds:List Dt}{xs:List V},uF ds=D'→a8 K H ds xs→a8 K H' ds xs
 | [],_,_,h=>h
 | d::ds,_,z,h=>by
  obtain⟨y,ys,e1,h1,h2⟩:=h
  have z':=(Sv _ _).mp z
  exact⟨y,ys,e1,e.dt z'.1 h1,e.Vs z'.2 h2⟩
end
theorem cy {α:Type}{f:α→Dt} (h:∀ x,xg (f x)=D'):∀ l:List α,uF (l.map f)=D'
 | []=>rfl
 | x::l=>by
  show(xg (f x) && uF (l.map f))=D'
  rw[h x,cy h l]
  rfl
theorem Bx {α:Type}{f:α→Dt} (h:∀ x,ma n (f x)) (l:List α):ft n (l.map f):=ft.of fun d hd=>by
 obtain⟨x,_,rfl⟩:=W4.mp hd
 exact h x
theorem eX {K:R'}{α:Type}{f:α→Dt}{l:List α}{x:V} (h:a8 K H (l.map f) xs) (e:xs[i]?=i' x):∃ q,l[i]?=i' q∧VW K H (f q) x:=by
 have hi:i<l.length:=by
  have h1:=h.length
  rw[Ss] at h1
  have:=(VI.mp e).1
  lia
 obtain⟨q,hq⟩:=hV hi
 obtain⟨y,hy,hd⟩:=h.get (j:=i) (d:=f q) (by rw[Td,hq];rfl)
 rw[e] at hy
 cases hy
 exact⟨q,hq,hd⟩
theorem bB {α:Type}{l:List α}{q:α} (h:l[i]?=i' q):l.take (i+1)=l.take i++[q]:=by
 rw[US,h]
 rfl
def Wz (H:Hp) (xs:List V):Prop:=∀ x∈xs,∃ q zs,x=V.ref q∧H q=i' (.tup zs)
theorem Wz.tk (h:Wz H xs) (e:Tk H H'):Wz H' xs:=fun x hx=>by
 obtain⟨q,zs,rfl,hq⟩:=h x hx
 exact⟨q,zs,O,e _ _ hq O⟩
theorem Wz.snoc (h:Wz H xs) (hz:H z=i' (.tup zs)):Wz H (xs++[.ref z]):=fun x hx=>by
 rcases Wb.mp hx with q|q
 .exact h x q
 .exact⟨z,zs,Vn.mp q,hz⟩
theorem Wz.nil:Wz H []:=fun x hx=>by simp at hx
theorem Qji {α:Type}{f:St→Hp→Prop} (σ:α→St) (I:α→Hp→Prop){G:Prop} (h:∀ x H,I x H→f (σ x) H) (g:(∀ x H,I x H→f (σ x) H)→G):G:=g h
def pz (ps:List Int) (k:Int):Int:=ps.getD k.toNat 0
theorem BW {ps:List Int}{k:Int} (h0:0≤k) (h1:k<ps.length):V1 (ps.map V.int) k=i' (.int (pz ps k)):=by
 unfold V1 Yi pz
 rw[U3 h0,U3 (by rw[Ss];exact h1)]
 show(ps.map V.int)[k.toNat]?=_
 rw[Td,SR,SI (show k.toNat<ps.length by lia)]
 rfl
theorem kJ {k:Int} (h0:0≤k) (h1:k<n):Yi n k=i' k.toNat:=by
 unfold Yi
 rw[U3 h0,U3 h1]
theorem iw {α:Type}{xs:List α}{k:Int} (h0:0≤k):V1 xs k=xs[k.toNat]?:=by
 unfold V1 Yi
 rw[U3 h0]
 by_cases h:k<xs.length
 .rw[U3 h];rfl
 .rw[U4 h]
  show B'=_
  rw[TU (by lia)]
theorem Fs {K:R'}{H:Hp}:∀ ns:List Int,a8 K H (ns.map Dt.int) (ns.map V.int)
 | []=>rfl
 | _::r=>⟨_,_,O,O,Fs r⟩
theorem Mt (ns:List Int):ft n (ns.map Dt.int):=Bx (fun _=>by cases n<;>trivial) _
def Ite (K:R') (l:F'):It:=
  ⟨fun i H=>∃ xs x,P' K H l xs∧xs[i]?=i' x,
   fun i H v H'=>∃ T x,v=.ref T∧H T=B'∧H'=upd H T (.tup [.int i,x])∧∀ xs,P' K H l xs→xs[i]?=i' x,
   fun i H=>∃ xs,P' K H l xs∧xs.length≤i⟩
theorem Ra {e:F'}{items:Array K'} (hd:Hd A s.heap)
  (he:IsEnum s.heap e it i old) (aJ:s.heap.IsListIter it l i) (hl:s.heap.IsList l items) (hx:items[i]?=B')
  (hQ:∀ h',XX it s.heap h'→Q B' {s with heap:=h'}):L' (UV prog w) A (VB (.ref e)) Q E s:=by
 have ht:s.TypeIs (.ref e) "enumerate":=⟨_,he,O⟩
 unfold VB
 refine oG (SQ (Sx (name:=Vb "__next__") ht Qgp (SL Qgp ht F.entry_enumerate_next ?_ (F.args_enumerate_next_1 _))))
 refine(show L' _ _ (WC (.ref e) 2 >>= _) _ _ _ from oG (Sr he O (x:=.ref it) O ?_))
 refine oG (uH (A:=A.in1) hd aJ hl hx fun h' x dz o9=>?_)
 obtain⟨o,ho,hc⟩:=o9
 exact oG (SW (T:="StopIteration") (b:=D') ⟨o,ho,hc⟩ Yv (Sd (hQ _ dz)))
def Qjj (h:Vo) (e it l:F') (i:Nat):Prop:=∃ old,IsEnum h e it (i:Int) old∧h.IsListIter it l i
theorem OL {P:Vy}{K:R'}{k:Nat}{e:F'} (gu:e≠it) :
  nF P w K (.Tuple es k pos) (Ite K l) [e,it] e (fun i h=>Qjj h e it l i) where
 mem:=by simp
 obj:=fun i h st b hb=>by
  obtain⟨old,he,⟨o1,e1,c1,d1⟩⟩:=st
  simp only[SS,SG,Wo] at hb
  rcases hb with rfl|rfl
  .exact⟨_,he,fun v q=>by simp at q⟩
  .exact⟨_,e1,fun v q=>by rw[d1] at q;cases q⟩
 keep:=fun i h h' st k=>by
  obtain⟨old,he,h1⟩:=st
  exact⟨old,k e (by simp) _ he,h1.at fun o q=>k it (by simp) o q⟩
 item:=by
  intro X hP hw hK hc i aa s σ H E I hf st hg
  subst hP hw hK
  obtain⟨xs,x,q1,hx⟩:=hg
  obtain⟨old,he,h1⟩:=st
  obtain⟨ag,rv,pl,_⟩:=I.list q1
  obtain⟨u,hu,ru⟩:=rv.get hx
  have nf:∀ b∈[e,it],b∉VR X.stack:=fun b hb q=>(SS.mp (I.Xw b q)).elim (hf b hb).2.1 (hf b hb).2.2.1
  refine wpAny_pyNext_enum_item he h1 pl.isList (x:=u) (by simpa using hu) gu fun h' a1 a2 a3 a4 hk=>⟨_,O,?_⟩
  refine wpAny_letOwnedTupleGo_enum (s:={s with heap:=h',toks:=s.toks+1}) a1 fun eh mM bL=>?_
  replace bL:Yb e h' eh:=bL
  have rY:H s.heap.objs.size=B':=I.UZ.fresh (Sg _)
  have K4:=Se he
  have xN:∀ b o,b≠e→b≠it→s.heap.get? b=i' o→eh.get? b=i' o:=fun b o n1 n2 q=>bL.extBut b o n1 (hk b o n1 n2 q)
  have I1:Inv X aa σ (upd H s.heap.objs.size (.tup [.int i,x])) {s with heap:=s.heap.push {cls:=.type "tuple",data:=.seq #[.int i s.toks,u]},toks:=s.toks+1}:=
   I.laid (t':=s.toks+1) (fun b o q=>Sc _ q) (Sg _) ⟨by show 2≤U2;decide,[.int i s.toks,u],.cons ⟨_,O⟩ (.cons ru .nil),⟨_,Sf _ rfl,O,_,O⟩⟩
  have sX:∀ b∈[e,it],bI X aa (upd H s.heap.objs.size (.tup [.int i,x])) b:=fun b hb=>by
   obtain⟨f0,r⟩:=hf b hb
   refine⟨?_,r⟩
   have lt:b<s.heap.objs.size:=by
    simp only[SS,SG,Wo] at hb
    rcases hb with rfl|rfl
    .exact K4
    .obtain⟨o,q,_⟩:=h1;exact Se q
   rw[aj (Sh lt)];exact f0
  have I2:Inv X aa σ (upd H s.heap.objs.size (.tup [.int i,x])) {s with heap:=eh,toks:=s.toks+1}:=by
   have back:∀ b o,(s.heap.push {cls:=.type "tuple",data:=.seq #[.int i s.toks,u]}).get? b=i' o→b≠e→b≠it→eh.get? b=i' o:=fun b o q n1 n2=>by
    rcases T0 q with⟨rfl,rfl⟩|q
    .exact bL.extBut _ _ n1 a3
    .exact xN b o n1 n2 q
   refine I1.slots (ch:=[e,it]) (tk:=s.toks+1) sX (fun b o _ hc q=>?_) (fun b o hb q=>⟨o.slots,?_⟩) (fun b hb o q=>?_)
   .simp only[SS,SG,Wo,not_or] at hc
    exact back b o q hc.1 hc.2
   .exact back b o q (fun z=>nf e (by simp) (z ▸ hb)) (fun z=>nf it (by simp) (z ▸ hb))
   .simp only[SS,SG,Wo] at hb
    rcases hb with rfl|rfl
    .exact⟨_,mM⟩
    .obtain⟨o,q,_⟩:=a2;exact⟨_,bL.extBut _ _ gu.symm q⟩
  refine⟨.ref s.heap.objs.size,_,I2,O,⟨_,x,O,rY,O,fun Co q=>by rw[I.QaO q q1];exact hx⟩,?_,fun b hb=>(sX b hb).1⟩
  exact⟨u,mM,a2.extBut bL.extBut gu.symm⟩
 done:=by
  intro X hP hw hK hc i aa s σ H E I hf st hg
  subst hP hw hK
  obtain⟨xs,q1,aq⟩:=hg
  obtain⟨old,he,h1⟩:=st
  obtain⟨ag,rv,pl,_⟩:=I.list q1
  have e1:=rv.length
  have nf:∀ b∈[e,it],b∉VR X.stack:=fun b hb q=>(SS.mp (I.Xw b q)).elim (hf b hb).2.1 (hf b hb).2.2.1
  refine Ra I.hd he h1 pl.isList (by simp;lia) fun h' hk=>⟨O,?_⟩
  refine I.slot0 (ch:=[e,it]) (tk:=s.toks) hf (fun b o _ hc q=>?_) (fun b o hb q=>⟨o.slots,?_⟩)
  .simp only[SS,SG,Wo,not_or] at hc
   exact hk b o hc.2 q
  .exact hk b o (fun z=>nf it (by simp) (z ▸ hb)) q
 self:=fun _ _ s _ _ st h=>by
  obtain⟨old,he,_⟩:=st
  exact UT he h
inductive Qjk (K:R') (R:(It→Hp→Prop)) (vs:List V) (H1:Hp):Prop
 | mk (l:_) (_:vs=[.ref l]) (_:(∃ xs,P' K H1 l xs)) (_:R (Ite K l) H1)
def Qjl (K:R') (ta:TA):TI:=fun σ H R=>ta σ H fun vs H1=>Qjk K R vs H1
theorem ve {k:Nat}{a:Vh} (hg:Gl X "enumerate") (hm:X.mg "enumerate"=B') (ha:PA X [a] ta) (hs:Vk [a] X.env=[(M',Vg a X.env)]:=by rfl) :
  PI X (.Tuple es k Qag) (.Call (.Name "enumerate" p) [a] [] pos) (Qjl X.K ta):=by
 intro aa s σ H R I h
 refine Call_ (jr I hg hm boot_enumerate (Zh (U6 (ha pos aa s σ H _ I h) fun us s1=>L2.Ve fun vs H1 I1 r1 aQ=>?_) hs O))
 obtain⟨l,e,⟨xs,q1⟩,q⟩:=aQ
 subst e
 obtain⟨u,rfl,ru⟩:=eZ r1
 obtain rfl:u=U9 l:=ru
 obtain⟨ag,rv,pl,_⟩:=I1.list q1
 refine call_enumerate_list pl.isList fun h' b1 b2 b3 hk=>?_
 refine UT (s:={s1 with heap:=h'}) b1 ?_
 refine⟨s1.heap.objs.size+1,[s1.heap.objs.size+1,s1.heap.objs.size],_,_,H1,O,I1.kept (t':=s1.toks) hk,OL (SX (SY _)),⟨_,b1,b2⟩,fun b hb=>?_,q⟩
 have ge:s1.heap.objs.size≤b:=by
  simp only[SS,SG,Wo] at hb
  rcases hb with rfl|rfl
  .exact Sy _ _
  .exact Sg _
 exact I1.Xk ge (I1.UZ.fresh ge)
theorem Ev {K:R'}{Q:VK} (Pv:Nat→St→Hp→Prop) (h0:Pv 0 τ H) (hl:∀ i τ H,i≤xs.length→Pv i τ H→P' K H l xs)
  (hs:∀ i x T τ H,xs[i]?=i' x→H T=B'→Pv i τ H→g (.ref T) τ (upd H T (.tup [.int i,x])) fun τ2 H2=>tt τ2 H2 fun b H3=>
   if b=D' then te τ2 H3 fun y H4=>∃ ys,H4 D=i' (.lst ys)∧ys.length<U2∧Pv (i+1) τ2 (upd H4 D (.lst (ys++[y]))) else Pv (i+1) τ2 H3)
  (hd:∀ τ H,Pv xs.length τ H→Q (.ref D) H):kL (Ite K l) D τ H g tt te Q:=
 Yh (n:=xs.length) Pv h0 (fun i σ H hi p=>⟨fun h=>⟨xs,xs[i],hl i σ H hi p,by simp[h]⟩,fun h=>⟨xs,hl i σ H hi p,h⟩⟩) (fun i v σ H H' hi p y=>by
 obtain⟨T,x,rfl,hT,rfl,hx⟩:=y
 exact hs i x T σ H (hx xs (hl i σ H (S1 hi) p)) hT p) hd
theorem AH {K:R'}{tb:TS}{D:d8} (Pv:Nat→St→Hp→Prop) (h0:Pv 0 σ H) (hl:∀ i σ H,i≤xs.length→Pv i σ H→P' K H l xs)
  (hs:∀ i x T σ H,xs[i]?=i' x→H T=B'→Pv i σ H→g (.ref T) σ (upd H T (.tup [.int i,x])) fun σ2 H2=>tb {D with nx:=Pv (i+1),ct:=Pv (i+1),bk:=D.nx} σ2 H2) (hd:∀ σ H,Pv xs.length σ H→D.nx σ H):QaR (Ite K l) D g tb σ H:=
 Yh (n:=xs.length) Pv h0 (fun i σ H hi p=>⟨fun h=>⟨xs,xs[i],hl i σ H hi p,by simp[h]⟩,fun h=>⟨xs,hl i σ H hi p,h⟩⟩) (fun i v σ H H' hi p y=>by
 obtain⟨T,x,rfl,hT,rfl,hx⟩:=y
 exact hs i x T σ H (hx xs (hl i σ H (S1 hi) p)) hT p) hd
theorem G9 {K:R'}{ys:List V}{tb:TS}{D:d8} (aq:xs.length=ys.length) (Pv:Nat→St→Hp→Prop) (h0:Pv 0 σ H) (hl:∀ i σ H,i≤xs.length→Pv i σ H→P' K H l1 xs∧P' K H l2 ys)
  (hs:∀ i x y T σ H,xs[i]?=i' x→ys[i]?=i' y→H T=B'→Pv i σ H→g (.ref T) σ (upd H T (.tup [x,y])) fun σ2 H2=>tb {D with nx:=Pv (i+1),ct:=Pv (i+1),bk:=D.nx} σ2 H2) (hd:∀ σ H,Pv xs.length σ H→D.nx σ H):QaR (Itz K l1 l2) D g tb σ H:=
 Yh (n:=xs.length) Pv h0 (fun i σ H hi p=>⟨fun h=>⟨xs,ys,xs[i],ys[i],(hl i σ H hi p).1,(hl i σ H hi p).2,by simp[h],by simp[show i<ys.length by lia]⟩,fun h=>⟨xs,ys,(hl i σ H hi p).1,(hl i σ H hi p).2,.inl h⟩⟩) (fun i v σ H H' hi p y=>by
 obtain⟨T,x,y,rfl,hT,rfl,hx,hy⟩:=y
 exact hs i x y T σ H (hx xs (hl i σ H (S1 hi) p).1) (hy ys (hl i σ H (S1 hi) p).2) hT p) hd
theorem qb (h:i<ns.length):ns.getD i 0∈ns:=by
 rw[SR,SI h]
 exact QdD h
theorem El {x:Int} (h:x∈ns):∃ j,j<ns.length∧ns.getD j 0=x:=by
 obtain⟨j,hj,e⟩:=T5 h
 exact⟨j,hj,by rw[SR,SI hj];exact e⟩
theorem Hg (f:Nat→Int):∀ k,VY (fun i j=>decide (f i<f j)) k≤k∧∀ j,j≤k→f (VY (fun i j=>decide (f i<f j)) k)≤f j
 | 0=>⟨Sg _,fun j hj=>by rw[Qhx.mp hj];exact TQ _⟩
 | k+1=>by
  obtain⟨h1,h2⟩:=Hg f k
  by_cases hb:f (k+1)<f (VY (fun i j=>decide (f i<f j)) k)
  .have e:VY (fun i j=>decide (f i<f j)) (k+1)=k+1:=by simp[VY,hb]
   rw[e]
   refine⟨Sg _,fun j hj=>?_⟩
   rcases Up j (k+1) with z|z
   .have:=h2 j (by lia);lia
   .rw[show j=k+1 by lia];exact TQ _
  .have e:VY (fun i j=>decide (f i<f j)) (k+1)=VY (fun i j=>decide (f i<f j)) k:=by simp[VY,hb]
   rw[e]
   refine⟨by lia,fun j hj=>?_⟩
   rcases Up j (k+1) with z|z
   .exact h2 j (by lia)
   .rw[show j=k+1 by lia];lia
theorem Gn (f:Nat→Int):∀ k,VY (fun i j=>decide (f i > f j)) k≤k∧∀ j,j≤k→f (VY (fun i j=>decide (f i > f j)) k) ≥ f j
 | 0=>⟨Sg _,fun j hj=>by rw[Qhx.mp hj];exact TQ _⟩
 | k+1=>by
  obtain⟨h1,h2⟩:=Gn f k
  by_cases hb:f (k+1) > f (VY (fun i j=>decide (f i > f j)) k)
  .have e:VY (fun i j=>decide (f i > f j)) (k+1)=k+1:=by simp[VY,hb]
   rw[e]
   refine⟨Sg _,fun j hj=>?_⟩
   rcases Up j (k+1) with z|z
   .have:=h2 j (by lia);lia
   .rw[show j=k+1 by lia];exact TQ _
  .have e:VY (fun i j=>decide (f i > f j)) (k+1)=VY (fun i j=>decide (f i > f j)) k:=by simp[VY,hb]
   rw[e]
   refine⟨by lia,fun j hj=>?_⟩
   rcases Up j (k+1) with z|z
   .exact h2 j (by lia)
   .rw[show j=k+1 by lia];lia
section
variable {P:Nat→K'→Prop}{St:Nat→Vo→Prop}
end
theorem LK:fi X (.builtin "min") (fun xs H Q=>∃ p,∃ ns:List Int,xs=[.ref p]∧P' X.K H p (ns.map V.int)∧ns≠[]∧∀ m∈ns,(∀ x∈ns,m≤x)→Q (.int m) H):=by
 intro aa s σ H xs us Q I r h
 obtain⟨p,ns,rfl,hq,gu,q⟩:=h
 obtain⟨u,rfl,ru⟩:=eZ r
 obtain rfl:u=U9 p:=ru
 obtain⟨ag,rv,pl,_⟩:=I.list hq
 obtain⟨cs,cE,ch⟩:=I.hd.chain
 have bq:p<s.heap.objs.size:=by obtain⟨o,e,_⟩:=pl.isList;exact Se e
 have iP:s.heap.objs.size∉cs:=fun z=>So _ (ch.lt _ z)
 have aq:ag.length=ns.length:=by rw[← rv.length,Ss]
 have zy:0<ns.length:=Qgj.mpr gu
 refine call_min_walk (Tj pl.isList ⟨s.heap.objs.size,_,_,_,_,_,fun i j=>decide (ns.getD i 0<ns.getD j 0),O,qI (A:=X.A.in1) cE s.heap.objs.size p (Sh bq) iP ag.toArray,⟨⟨_,Sf _ O,O,O⟩,pl.isList.push _,ch.mono fun b o _ e=>Sc _ e⟩,?_,by simp;lia,QdR (fun i=>ns.getD i 0) fun i v hv=>uG rv (by simpa using hv),fun v h' tk hv hk=>?_⟩)
 .intro b hb
  show b<(s.heap.push _).objs.size
  rw[Su]
  rcases SS.mp hb with rfl|hb
  .exact SY _
  .rcases SS.mp hb with rfl|hb
   .exact SM bq
   .exact SM (ch.lt _ hb)
 .have eM:ag.toArray[VY (fun i j=>decide (ns.getD i 0<ns.getD j 0)) (ag.toArray.size-1)]?=i' v:=hv
  rw[UC] at eM
  obtain⟨t,rfl⟩:=uG rv eM
  obtain⟨b1,b2⟩:=Hg (fun i=>ns.getD i 0) (ag.toArray.size-1)
  have e1:ag.toArray.size=ns.length:=by simp[aq]
  rw[e1] at b1 b2
  have Ki:∀ b o,s.heap.get? b=i' o→h'.get? b=i' o:=fun b o e=>hk b o (fun z=>by
   have:b=s.heap.objs.size:=by simpa using z
   exact U' (Se e) (by rw[this];exact So _)) (Sc _ e)
  refine⟨.int _,H,I.kept Ki,⟨_,O⟩,?_⟩
  rw[e1]
  exact q _ (qb (by lia)) fun x hx=>by
   obtain⟨j,hj,rfl⟩:=El hx
   exact b2 j (by lia)
section
variable {P:Nat→K'→Prop}{St:Nat→Vo→Prop}
theorem PY (kw:List (C'×K')) (W:Qae prog w A.in1 I fp wr n P St) (bt:Nat→Nat→Bool) (oQ:CmpOf prog w A.in1 .Gt P bt) (S:F') (io:S∉fp) :
  ∀ (k j:Nat) (s:UW) (vb:K') (c:Nat),n-(j+1)=k→j+1≤n→St (j+1) s.heap→P (VY bt j) vb→s.heap.get? S=i' {cls:=.type "list",dict:=B',data:=.seq #[vb,vb] c,slots:=#[]} →
  (∀ v h' tk,P (VY bt (n-1)) v→(∀ b o,b∉wr→b≠S→s.heap.get? b=i' o→h'.get? b=i' o)→R (.ok (.ret v)) {s with heap:=h',toks:=tk}) →
  Wp (UV prog w) A (.builtin "max.loop" ⟨[.ref I,.none,.ref S],kw⟩) R s:=by
 have vA:S∉wr:=fun h=>io (W.sub _ h)
 have qf:(toString "max"++toString ".loop":String)="max.loop":=by decide
 intro k
 induction k with
 | zero=>
  intro j s vb c hk hj cO vp hS hR
  have eO:j+1=n:=by lia
  refine XS Qcd ?_
  rw[X' Zl _]
  refine(show L' _ A.in1 (Yx (.ref S) >>= _) _ _ s from oG (SA hS O ?_))
  refine(show L' _ A.in1 (tryCatch (VB (.ref I)) _ >>= _) _ _ s from oG (SU (W.done s _ _ (eO ▸ cO) fun h' tk dP=>?_)))
  refine(show L' _ A.in1 (Yw S (fun _=>#[]) >>= _) _ _ _ from oG (SV (dP S _ vA hS) O (oG (Ta (Sd ?_)))))
  exact hR vb _ tk (by rw[← eO];exact vp) fun b o j6 kW e=>(Sm _ _ (U5 kW)).trans (dP b o j6 e)
 | succ k ih=>
  intro j s vb c hk hj cO vp hS hR
  have bq:j+1<n:=by lia
  refine XS Qcd ?_
  rw[X' Zl _]
  refine(show L' _ A.in1 (Yx (.ref S) >>= _) _ _ s from oG (SA hS O ?_))
  refine(show L' _ A.in1 (tryCatch (VB (.ref I)) _ >>= _) _ _ s from oG (SU (W.item (j+1) s _ _ bq cO fun v h' tk hP iE dP=>?_)))
  have iu:=dP S _ vA hS
  refine(show L' _ A.in1 (tryCatch (WX [v,v] (richCompare .Gt v vb >>= _)) _ >>= _) _ _ _ from oG (SU (Sn (oG (oQ (j+1) (VY bt j) v vb _ _ _ hP vp ?_)))))
  refine oG (Sn (SO (oG (Ta (Sd ?_)))))
  cases hb:bt (j+1) (VY bt j) with
  | true=>
   simp only[Xi]
   refine oG (SV iu O (oG (Ta ?_)))
   rw[qf]
   refine Sd ⟨Xg Zl _,ih (j+1) _ v _ (by lia) bq (W.frame _ _ _ iE fun b yV o e=>(Sm _ _ (fun h:S=b=>io (by rw[h];exact yV))).trans e) (by simp only[VY,hb,Xi];exact hP) (Sq _ iu O) fun v' eh jy jY jE=>?_⟩
   exact hR v' eh jy jY fun b o j6 kW e=>jE b o j6 kW ((Sm _ _ (U5 kW)).trans (dP b o j6 e))
  | false=>
   simp only[SC,Wc]
   refine oG (Ta ?_)
   rw[qf]
   exact Sd ⟨Xg Zl _,ih (j+1) _ vb c (by lia) bq iE (by simp only[VY,hb,SC,Wc];exact vp) iu fun v' eh jy jY jE=>hR v' eh jy jY fun b o j6 kW e=>jE b o j6 kW (dP b o j6 e)⟩
theorem LI (kw:List (C'×K')) (W:Qae prog w A.in1 I fp wr n P St) (bt:Nat→Nat→Bool) (oQ:CmpOf prog w A.in1 .Gt P bt) (S:F') (io:S∉fp) (hn:0<n) (cO:St 0 s.heap)
  (hS:s.heap.get? S=i' {cls:=.type "list",dict:=B',data:=.seq #[] c,slots:=#[]})
  (hR:∀ v h' tk,P (VY bt (n-1)) v→(∀ b o,b∉wr→b≠S→s.heap.get? b=i' o→h'.get? b=i' o)→R (.ok (.ret v)) {s with heap:=h',toks:=tk}) :
  Wp (UV prog w) A (.builtin "max.loop" ⟨[.ref I,.none,.ref S],kw⟩) R s:=by
 have vA:S∉wr:=fun h=>io (W.sub _ h)
 have qf:(toString "max"++toString ".loop":String)="max.loop":=by decide
 refine XS Qcd ?_
 rw[X' Zl _]
 refine(show L' _ A.in1 (Yx (.ref S) >>= _) _ _ s from oG (SA hS O ?_))
 refine(show L' _ A.in1 (tryCatch (VB (.ref I)) _ >>= _) _ _ s from oG (SU (W.item 0 s _ _ hn cO fun v h' tk hP iE dP=>?_)))
 have iu:=dP S _ vA hS
 refine(show L' _ A.in1 (Yw S (fun _=>#[v,v]) >>= _) _ _ _ from oG (SV iu O ?_))
 rw[qf]
 exact Sd ⟨Xg Zl _,PY kw W bt oQ S io _ 0 _ v _ O hn (W.frame _ _ _ iE fun b yV o e=>(Sm _ _ (fun h:S=b=>io (by rw[h];exact yV))).trans e) hP (Sq _ iu O) fun v' eh jy jY jE=>hR v' eh jy jY fun b o j6 kW e=>jE b o j6 kW ((Sm _ _ (U5 kW)).trans (dP b o j6 e))⟩
theorem OO (W:Qae prog w A.in1 I fp wr 0 P St) (S:F') (io:S∉fp){nm:C'}{d:K'} (cO:St 0 s.heap) (hS:s.heap.get? S=i' {cls:=.type "list",dict:=B',data:=.seq #[] c,slots:=#[]})
  (hR:∀ h' tk,(∀ b o,b∉wr→s.heap.get? b=i' o→h'.get? b=i' o)→R (.ok (.ret d)) {s with heap:=h',toks:=tk}) :
  Wp (UV prog w) A (.builtin "max.loop" ⟨[.ref I,.none,.ref S],[(nm,d)]⟩) R s:=by
 refine XS Qcd ?_
 rw[X' Zl _]
 refine(show L' _ A.in1 (Yx (.ref S) >>= _) _ _ s from oG (SA hS O ?_))
 refine(show L' _ A.in1 (tryCatch (VB (.ref I)) _ >>= _) _ _ s from oG (SU (W.done s _ _ cO fun h' tk dP=>?_)))
 exact oG (Ti (Sd (hR h' tk dP)))
end
theorem Qg (a v:K'):argsOk "max" ⟨[a],[(Vb "default",v)]⟩:=by unfold argsOk;kernel_rfl
theorem N6 {a:Vh}{i:Int} (hg:Gl X "max") (hm:X.mg "max"=B') (ha:PA X [a] ta)
  (hs:VP pos (Vk [a] X.env)=(M',Vg a X.env)::VP pos (Vk [] X.env):=by rfl) (hp:(VP pos (Vk [a] X.env)).any (·.1)=M':=by rfl) (zo:(Xs pos (Xr [⟨i' "default",.Constant (.int i) j aE,dR⟩] X.env)).all (·.1.isSome)=D':=by rfl)
  (yE:(Xs pos (Xr [⟨i' "default",.Constant (.int i) j aE,dR⟩] X.env)).any (·.1.isNone)=M':=by rfl) (xL:∀ u:K',((Xs pos (Xr [⟨i' "default",.Constant (.int i) j aE,dR⟩] X.env)).filterMap (·.1)).zip [u]=[(Vb "default",u)]:=by intro u;rfl) :
  PE X (.Call (.Name "max" p) [a] [⟨i' "default",.Constant (.int i) j aE,dR⟩] pos) (fun σ H Q=>ta σ H fun vs H1=>∃ q,∃ ns:List Int,vs=[.ref q]∧P' X.K H1 q (ns.map V.int)∧(ns=[]→Q (.int i) H1)∧∀ m∈ns,(∀ x∈ns,x≤m)→Q (.int m) H1):=by
 intro aa s σ H Q I h
 refine SK (jr I hg hm Qjf ?_)
 refine Qft (U6 (ha pos aa s σ H _ I h) fun us s1=>L2.Ve fun vs H1 I1 r1 aQ=>?_) hs hp zo yE
 obtain⟨l,ns,e,q1,k0,k1⟩:=aQ
 subst e
 obtain⟨u,rfl,ru⟩:=eZ r1
 obtain rfl:u=U9 l:=ru
 refine Qfz (UI (QfC ?_))
 rw[xL]
 obtain⟨ag,rv,pl,_⟩:=I1.list q1
 obtain⟨cs,cE,ch⟩:=I1.hd.chain
 have bq:l<s1.heap.objs.size:=by obtain⟨o,e,_⟩:=pl.isList;exact Se e
 have iP:s1.heap.objs.size∉cs:=fun z=>So _ (ch.lt _ z)
 have aq:ag.length=ns.length:=by rw[← rv.length,Ss]
 have qf:(toString "max"++toString ".loop":String)="max.loop":=by decide
 refine kmk_tree PySem.F.kind_max PySem.F.plain_max PySem.F.entry_max (Qg _ _) ?_
 refine(show L' _ _ (QbL "max" ["key","default"] 0 ⟨[],[(Vb "default",_)]⟩ >>= _) _ _ _ from oG (Ub (show QbL "max" ["key","default"] 0 ⟨[],[(Vb "default",_)]⟩=pure [B',i' _] from rfl) ?_))
 refine oG (Sd ?_)
 refine oG (Tj (s:={s1 with toks:=s1.toks+1}) pl.isList ?_)
 refine oG (wpAny_newList ?_ (Th _))
 rw[qf]
 have hz:(s1.heap.push {cls:=.type "list_iterator",data:=.fields #[.ref l,.int 0 0]}).objs.size=s1.heap.objs.size+1:=Su ..
 have W:=qI (prog:=X.prog) (w:=X.w) (A:=X.A.in1) cE s1.heap.objs.size l (Sh bq) iP ag.toArray
 have io:(s1.heap.push {cls:=.type "list_iterator",data:=.fields #[.ref l,.int 0 0]}).objs.size∉s1.heap.objs.size::l::cs:=by
  rw[hz]
  intro z
  rcases SS.mp z with z|z
  .exact U' z (SX (SY _))
  .rcases SS.mp z with z|z
   .exact U' z (SX (SM bq))
   .exact U' (ch.lt _ z) (Qcs.mpr (SH _))
 have jd:((s1.heap.push {cls:=.type "list_iterator",data:=.fields #[.ref l,.int 0 0]}).push (W5 "list" #[] 0)).IsListIter s1.heap.objs.size l 0∧((s1.heap.push {cls:=.type "list_iterator",data:=.fields #[.ref l,.int 0 0]}).push (W5 "list" #[] 0)).IsList l ag.toArray∧Vx ((s1.heap.push {cls:=.type "list_iterator",data:=.fields #[.ref l,.int 0 0]}).push (W5 "list" #[] 0)) cs:=
  ⟨⟨_,Sc _ (Sf _ rfl),rfl,rfl⟩,(pl.isList.push _).push _,ch.mono fun b o _ e=>Sc _ (Sc _ e)⟩
 refine Sd ⟨Xg Zl _,?_⟩
 have back:∀ (h':Vo),(∀ b o,b∉[s1.heap.objs.size]→b≠(s1.heap.push {cls:=.type "list_iterator",data:=.fields #[.ref l,.int 0 0]}).objs.size→((s1.heap.push {cls:=.type "list_iterator",data:=.fields #[.ref l,.int 0 0]}).push (W5 "list" #[] 0)).get? b=i' o→h'.get? b=i' o)→∀ b o,s1.heap.get? b=i' o→h'.get? b=i' o:=fun h' hk b o e=>by
  have lt:=Se e
  refine hk b o (fun z=>?_) (fun z=>?_) (Sc _ (Sc _ e))
  .rw[Vn.mp z] at lt;exact So _ lt
  .rw[z,hz] at lt;exact So _ (UR lt)
 by_cases hn:ns=[]
 .subst hn
  have e0:ag=[]:=Qdl.mp (by rw[aq];rfl)
  subst e0
  exact OO W _ io jd (Sf _ O) fun h' tk hk=>⟨.int i,H1,I1.kept (back h' fun b o h1 _ e=>hk b o h1 e),⟨_,O⟩,k0 O⟩
 .have zy:0<ns.length:=Qgj.mpr hn
  refine LI _ W (fun i j=>decide (ns.getD i 0 > ns.getD j 0)) (CmpOf.ints_gt (fun i=>ns.getD i 0) fun i v hv=>uG rv (by simpa using hv)) _ io (by simp;lia) jd (Sf _ rfl) fun v h' tk hv hk=>?_
  have eM:ag.toArray[VY (fun i j=>decide (ns.getD i 0 > ns.getD j 0)) (ag.toArray.size-1)]?=i' v:=hv
  rw[UC] at eM
  obtain⟨t,rfl⟩:=uG rv eM
  obtain⟨b1,b2⟩:=Gn (fun i=>ns.getD i 0) (ag.toArray.size-1)
  have e1:ag.toArray.size=ns.length:=by simp[aq]
  rw[e1] at b1 b2
  refine⟨.int _,H1,I1.kept (back h' hk),⟨_,O⟩,?_⟩
  rw[e1]
  exact k1 _ (qb (by lia)) fun x hx=>by
   obtain⟨j,hj,rfl⟩:=El hx
   exact b2 j (by lia)
inductive Qjm (K:R') (o:V) (i:V) (H:Hp) (Q:VK):Prop
 | mk (p xs k v:_) (_:o=.ref p) (_:i=.int k) (_:P' K H p xs) (_:0≤k) (_:xs[k.toNat]?=i' v) (_:Q v H)
theorem pZ:Qes X (Qjm X.K):=by
 intro aa s σ H o i ov iv Q I ro ri h
 obtain⟨p,xs,k,v,rfl,rfl,hq,h0,hv,q⟩:=h
 cases ro
 obtain⟨t,rfl⟩:=ri
 obtain⟨ag,r,pl,hz⟩:=I.list hq
 obtain⟨u,hu,ru⟩:=r.get hv
 have h1:=(VI.mp hv).1
 have hl:=r.length
 have hn:=mR
 exact wpAny_getItem_list pl.isList h0 (by lia) (by simpa using hu) ⟨v,H,I,ru,q⟩
inductive QeM (K:R') (sI:Bool) (x:V) (y:V) (H:Hp) (Q:VK):Prop
 | mk (p ds xs d:_) (_:y=.ref p) (_:P' K H p xs) (_:a8 K H ds xs) (_:VW K H d x) (_:ft 50 ds) (_:Q (.bl (if sI then !(ds.any fun e=>Wj e d) else ds.any fun e=>Wj e d)) H)
open Classical in
theorem Inv.Qjn (I:Inv X aa σ H s){ds:List Dt}{ag:List K'}{d:Dt}{x:V} (h:a8 X.K H ds xs) (rv:aB xs ag) (hx:VW X.K H d x) (rx:aA x v) (hd:ft 50 ds) (hu:A.units+50<VN) :
  ∃ f:K'→Bool,(∀ u∈ag,YC A s u v (f u))∧ag.any f=ds.any fun e=>Wj e d:=by
 let f:K'→Bool:=fun u=>decide (∃ (j:Nat) (e:Dt),ag[j]?=i' u∧ds[j]?=i' e∧Wj e d=D')
 have hl:ds.length=ag.length:=h.length.trans rv.length
 have one:∀ (j:Nat) (u:K') (e:Dt),ag[j]?=i' u→ds[j]?=i' e→f u=Wj e d:=fun j u e h1 h2=>by
  show decide _=_
  rw[Ts,decide_eq_true_iff]
  constructor
  .rintro⟨j',e',ph,fk,h3⟩
   obtain⟨y,hy,dy⟩:=h.get h2
   obtain⟨y',c9,IP⟩:=h.get fk
   obtain⟨u1,kj,r1⟩:=rv.get hy
   obtain⟨u2,B1,r2⟩:=rv.get c9
   rw[h1] at kj
   rw[ph] at B1
   cases kj
   cases B1
   rw[r1.inj r2] at dy
   rw[I.Qbx dy IP]
   exact h3
  .intro h3
   exact⟨j,e,h1,h2,h3⟩
 refine⟨f,fun u iJ=>?_,?_⟩
 .obtain⟨j,hj,e⟩:=T5 iJ
  have h1:ag[j]?=i' u:=by rw[SI hj,e]
  obtain⟨e',dz⟩:=hV (l:=ds) (j:=j) (by lia)
  obtain⟨y,hy,dy⟩:=h.get dz
  obtain⟨u1,kj,r1⟩:=rv.get hy
  rw[h1] at kj
  cases kj
  rw[one j u e' h1 dz]
  exact I.QcP dy hx r1 rx (hd.get dz) hu
 .rw[Ts,Qb8,Qb8]
  constructor
  .rintro⟨u,iJ,hf⟩
   obtain⟨j,e,h1,h2,h3⟩:=of_decide_eq_true hf
   exact⟨e,Tb h2,h3⟩
  .rintro⟨e,he,h3⟩
   obtain⟨j,hj,e2⟩:=T5 he
   have h2:ds[j]?=i' e:=by rw[SI hj,e2]
   obtain⟨u,iJ⟩:=hV (l:=ag) (j:=j) (by lia)
   exact⟨u,Tb iJ,by rw[one j u e iJ h2];exact h3⟩
theorem Ow (hu:X.A.units+64<VN):VU X (WR .NotIn) (QeM X.K D'):=by
 intro aa s σ H x y v u Q I rx ry h
 obtain⟨p,ds,xs,d,rfl,hq,hd,hx,dl,q⟩:=h
 cases ry
 obtain⟨ag,r,pl,hz⟩:=I.list hq
 obtain⟨f,h1,h2⟩:=I.Qjn (A:=X.A.in1) hd r hx rx dl (by show X.A.units+1+50<VN;lia)
 refine Qgg f pl.isList (fun w hw=>h1 w (by simpa using hw)) ⟨.bl _,H,I,O,?_⟩
 rw[show ag.toArray.any f=ag.any f by simp,h2]
 exact q
theorem Ma {K:R'} (hK:X.K=K) (hu:X.A.units+64<VN):VU X (WR .NotIn) (QeM K D'):=hK ▸ Ow hu
inductive O8 (x:V) (vs:List V) (H:Hp) (Q:VK):Prop
 | mk (l xs i y:_) (_:x=.ref l) (_:vs=[.int i,y]) (_:H l=i' (.lst xs)) (_:0≤i) (_:i≤xs.length) (_:xs.length<U2) (_:Q .U8 (upd H l (.lst (xs.take i.toNat++y::xs.drop i.toNat))))
theorem PH:MtM X "list.insert" O8:=by
 intro aa s σ H x vs v us Q I rx rv h
 obtain⟨l,xs,i,y,rfl,rfl,hH,h0,h1,hz,q⟩:=h
 cases rx
 obtain⟨u,w',rfl,⟨t,rfl⟩,ru⟩:=pG rv
 obtain⟨z,ag,n,r,hl,e⟩:=I.Za hH
 have hf:Qdd i=D':=by
  unfold Qdd
  rw[S8] at hz
  simp only[Sv,decide_eq_true_eq]
  constructor<;>lia
 refine YY QgD ⟨_,e,O⟩ F.entry_list_insert (F.args_list_insert_3 _ _ _) (AutoSeq1.list_insert_list_int_val_1 l ag.toArray n i t w' (by simp[hf]) (by rw[Si];lia)) ⟨e,?_⟩
 refine⟨.U8,_,I.Qbv (its':=ag.take i.toNat++w'::ag.drop i.toNat) hH e ?_ ((r.take _).append (.cons ru (r.drop _))) ?_,O,q⟩
 .show(ag.toArray.extract 0 (if i<0 then(i+(ag.toArray.size:Int)).toNat else min i.toNat ag.toArray.size)).push w'++ag.toArray.extract (if i<0 then(i+(ag.toArray.size:Int)).toNat else min i.toNat ag.toArray.size)=_
  rw[U4 (by lia),Si,Qbf (by lia)]
  apply Array.toList_inj.mp
  simp
  exact Ut (by simp)
 .rw[Tg,Sz,Uj,ZW]
  lia
theorem cz {o:HO} (nd:H d=B') (s:ae H H'):ae H (upd H' d o):=fun b u e=>by
 rw[aj (ao e nd)]
 exact s b u e
theorem Bo {K:R'}{H:Hp}:∀ ns:List C',a8 K H (ns.map Dt.str) (ns.map V.str)
 | []=>rfl
 | _::r=>⟨_,_,O,O,Bo r⟩
def qG:List Vh→Option (List C')
 | []=>i' []
 | .Constant (.str x) _ _::es=>(qG es).map (x::·)
 | _=>B'
theorem Hx:∀ {es:List Vh}{xs:List C'},qG es=i' xs→PA X es (fun _ H Q=>Q (xs.map V.str) H)
 | [],_,h=>by
  cases h
  exact ai
 | e::es,xs,h=>by
  cases e with
  | Constant c j p=>
   cases c with
   | str x=>
    cases q:qG es with
    | none=>
     unfold qG at h
     rw[q] at h
     cases h
    | some ys=>
     unfold qG at h
     rw[q] at h
     cases h
     exact af aN (Hx q) rfl
   | _=>cases h
  | _=>cases h
section
variable {K:R'} (hK:X.K=K)
include hK
def Qjo (K:R'):List V→Hp→VK→Prop:=fun xs H Q=>∃ a C dd vc c b,xs=[.ref a,vc]∧Ym H a C dd∧XDs H dd∧XIs K C∧(∀ u,aA vc u→u=c)∧XT K (.ref C) c=i' b∧Q (.bl b) H
theorem va:fi X (.builtin "isinstance") (Qjo K):=by subst hK;exact Ps
end
theorem NJ:Yc (.type "list") "keys"=pure B':=Qci (by kernel_rfl)
theorem FS {α:Type}{o:K'}{Ei:C'}{Q:α→UW→Prop} (hd:Hd A s.heap)
  (h:∀ h' tk e,(∀ b ob,s.heap.get? b=i' ob→h'.get? b=i' ob)→(∃ o',h'.get? e=i' o'∧o'.cls=.type "AttributeError")→E (.ref e) {s with heap:=h',toks:=tk}) (hm:Ei.length≤U2:=by size_fits) :
  L' (UV prog w) A (raiseAttrError o name Ei:W6 α) Q E s:=by
 unfold raiseAttrError
 refine oG (wpAny_mkStr (oG ?_) hm)
 unfold newExc newTuple
 refine oG (To ?_ (by size_fits))
 refine oG (m:=Qck _ _) (Ub (a:=VD) (by simp only[Qck,attrError_no_first];rfl) ?_)
 rw[ownMembersOf_AttributeError]
 refine To ?_ (by size_fits)
 obtain⟨hp,g,d,tk,os⟩:=s
 have f1:=QdF
 repeat (any_goals (first|assumption|wp_step))
 dsimp only
 have iS:∀ b ob,hp.get? b=i' ob→b<hp.objs.size+1:=fun b ob q=>SM (Se q)
 refine BC ?_ (Sq _ (Sf _ O) O) O (by simp) fun h' o' ke k' e' c' _ _ _ _ _=>
  h h' _ _ (fun b ob q=>k' b ob ?_ ((Sm _ _ ?_).trans (Sc _ (Sc _ q)))) ⟨o',e',c'⟩
 .rcases hd with hn|⟨a,cs,ha,c⟩
  .exact .inl hn
  .have lt:∀ b∈a::cs,b<hp.objs.size:=c.lt
   refine .inr ⟨a,cs,ha,c.mono fun b ob hb q=>(Sm _ _ ?_).trans (Sc _ (Sc _ q)),fun z=>?_⟩
   .simp only[Su]
    exact SX (iS b ob q)
   .have:=lt _ z
    simp only[Su] at this
    exact U' (Sj this (SH _)) (So _)
 .simp only[Su]
  exact Sh (iS b ob q)
 .simp only[Su]
  exact SX (iS b ob q)
theorem Nr {tk:Wq}{Q:Fin→UW→Prop} (hd:Hd A s.heap) (ho:s.heap.get? l=i' ol) (hc:ol.cls=.type "list") (qe:ol.dict=B') (o7:ol.data=.seq ag nn)
  (h:∀ h' tk e,(∀ b ob,s.heap.get? b=i' ob→h'.get? b=i' ob)→(∃ o',h'.get? e=i' o'∧o'.cls=.type "AttributeError")→E (.ref e) {s with heap:=h',toks:=tk}) :
  L' (UV prog w) A (XF.«object.__getattribute__» ⟨[.ref l,.str "keys" tk],[]⟩) Q E s:=by
 have hT:s.TypeIs (.ref l) "list":=⟨_,ho,hc⟩
 have f4:=NJ
 unfold XF.«object.__getattribute__»
 obtain⟨hp,g,d,iC,os⟩:=s
 obtain⟨oc,od,R7,dH⟩:=ol
 dsimp only at hc qe o7
 subst hc qe o7
 repeat (any_goals (first|assumption|wp_step))
 exact FS hd h (attrMsg_fits (by decide +kernel) (by size_fits))
theorem Pw (hd:Hd A s.heap) (ho:s.heap.get? l=i' ol) (hc:ol.cls=.type "list") (qe:ol.dict=B') (o7:ol.data=.seq ag nn)
  (h:∀ h' tk,(∀ b ob,s.heap.get? b=i' ob→h'.get? b=i' ob)→Q B' {s with heap:=h',toks:=tk}) :
  L' (UV prog w) A (QaK (.ref l) "keys") Q E s:=by
 unfold QaK Qef
 obtain⟨hp,g,d,iC,os⟩:=s
 have hT:(⟨hp,g,d,iC+1,os⟩:UW).TypeIs (.ref l) "list":=⟨_,ho,hc⟩
 have f1:=QdF
 have f2:=QbU.lookup
 have f3:=QbU.bind (.ref l)
 have f5:Yc (.type "list") "__getattr__"=pure B':=Qci (by kernel_rfl)
 unfold Qcw
 repeat (any_goals (first|assumption|wp_step))
 refine Qar QbU.plain F.entry_list_ga (QbU.check _ _ _ _ _ _ _ _ hT (F.args_list_getattribute_2 _ _) (Nr (s:=⟨hp,g,d,iC+1,os⟩) hd ho hc qe o7 fun h' lB e k' ⟨o',e1,e2⟩=>?_))
 dsimp only
 show L' _ _ (Qb5 _ _ _ _ _ _ _) _ _ _
 unfold Qb5
 have hE:(⟨h',g,d,lB,os⟩:UW).TypeIs (.ref e) "AttributeError":=⟨_,e1,e2⟩
 repeat (any_goals (first|assumption|wp_step))
 exact h h' lB k'
theorem xh:Qcy table "dict.update.loop"=i' XF.«dict.update.loop»:=Qhh (by kernel_rfl)
theorem mQ:plainId "dict.update.loop"=D':=by decide +kernel
section
variable {κ:Type} [DecidableEq κ] {knd:KeyKind prog w κ}{G:Array QcA→Array QcA→Prop}{P:Nat→K'→Prop}{St:Nat→UW→Prop}
theorem OQ (W:WalksS prog w A.in1 I fp wr G n P St) (mh:d∉fp) (hn:n≤1000) (s0:UW) (ks:Nat→κ) (vs:Nat→K') (kvs:Nat→List (κ×K')) (res:K')
  (gF:∀ i v,P i v→∃ t key,v=.ref t∧s0.heap.IsTuple t #[key,vs i]∧t∉d::wr∧knd.is (ks i) key=D')
  (hs:∀ i,kvs (i+1)=Ye (kvs i) (ks i) (vs i)) (hl:∀ i,(kvs i).length≤i+1000) :
  ∀ (k i:Nat) (s:UW),n-i=k→i≤n→St i s→Moved (d::wr) G s0 s→s.heap.DictOf knd d (kvs i) →
   (∀ s',Moved (d::wr) G s0 s'→s'.heap.DictOf knd d (kvs n)→R (.ok (.ret res)) s') →
   Wp (UV prog w) A (.builtin "dict.update.loop" ⟨[.ref d,.ref I,.int i 0,res],[]⟩) R s:=by
 have DN:d∉wr:=fun h=>mh (W.sub _ h)
 have tR:∀ b∈wr,b∈d::wr:=fun b hb=>Sw _ hb
 intro k
 induction k with
 | zero=>
  intro i s hk hi cO m0 hD hR
  have eO:i=n:=by lia
  subst eO
  refine XS xh ?_
  rw[X' mQ _]
  show L' _ A.in1 (VB (.ref I) >>= _) _ _ s
  refine oG (W.done s _ _ cO fun s' hm=>?_)
  show L' _ A.in1 (pure () >>= fun _=>ret res) _ _ s'
  exact oG (Sd (Sd (hR s' (Qd2 W.gtrans m0 (hm.mono tR)) (by
   obtain⟨o,es,ep,ho,aW⟩:=hD
   exact⟨o,es,ep,hm.heap d _ DN ho,aW⟩))))
 | succ k ih=>
  intro i s hk hi cO m0 hD hR
  have bq:i<n:=by lia
  refine XS xh ?_
  rw[X' mQ _]
  show L' _ A.in1 (VB (.ref I) >>= _) _ _ s
  refine oG (W.item i s _ _ bq cO fun v s' hP iE hm=>?_)
  obtain⟨t,key,rfl,⟨ot,vY,KO,nt,Lh⟩,Kc,cr⟩:=gF i v hP
  have m1:Moved (d::wr) G s0 s':=Qd2 W.gtrans m0 (hm.mono tR)
  have yP:s'.heap.DictOf knd d (kvs i):=by
   obtain⟨o,es,ep,ho,aW⟩:=hD
   exact⟨o,es,ep,hm.heap d _ DN ho,aW⟩
  have sH:=m1.heap t _ Kc vY
  have hT:s'.TypeIs (.ref t) "tuple":=⟨_,sH,KO⟩
  dsimp only
  refine oG (Sn (oG (SU ?_)))
  unfold Qfv
  refine oG (Tp hT ?_)
  rw[U3 (by decide)]
  refine oG (SA sH Lh (Sd ?_))
  show L' _ _ (WX [key,vs i] (dictSet d key (vs i))) _ _ s'
  refine Sn (UH (knd:=knd) cr yP (fun h' cS n9=>?_) (by rw[S8];have:=hl i;lia))
  have e1:kvs (i+1)=Ye (kvs i) (ks i) (vs i):=hs i
  rw[← e1] at cS
  refine Sd ⟨Xg mQ _,ih (i+1) _ (by lia) bq (W.frame _ s' _ _ iE (SH _) fun b hb o e=>?_) ?_ cS hR⟩
  .rw[n9.2 b (fun h:b=d=>mh (by rw[← h];exact hb))];exact e
  .refine m1.then_heap (SH _) fun b o hb e=>?_
   rw[n9.2 b (fun h:b=d=>hb (by rw[h];exact SJ))];exact e
end
section
variable {κ:Type} [DecidableEq κ] {knd:KeyKind prog w κ}
theorem OK {Q:K'→UW→Prop} (hc:V4 A cs) (ch:Vx s.heap cs) (ho:s.heap.get? l=i' ol) (lq:ol.cls=.type "list") (qe:ol.dict=B') (o7:ol.data=.seq ag nn) (hz:ag.size≤1000)
  (ks:Nat→κ) (vs:Nat→K') (kvs:Nat→List (κ×K')) (h0:kvs 0=[]) (hs:∀ i,kvs (i+1)=Ye (kvs i) (ks i) (vs i)) (hl:∀ i,(kvs i).length≤i)
  (gF:∀ i v,ag[i]?=i' v→∃ t key,v=.ref t∧s.heap.IsTuple t #[key,vs i]∧knd.is (ks i) key=D')
  (h:∀ h' tk,h'.DictOf knd s.heap.objs.size (kvs ag.size)→(∀ b o,s.heap.get? b=i' o→h'.get? b=i' o)→Q (.ref s.heap.objs.size) {s with heap:=h',toks:=tk}) :
  L' (UV prog w) A (call (.type "dict") [.ref l]) Q E s:=by
 refine Qcl (Q₁:=fun obj s₁=>obj=.ref s.heap.objs.size∧s₁={s with heap:=s.heap.push {cls:=.type "dict",data:=.dict #[]} }) QgU (Qgt _) QgO (Qhg _ ⟨O,O⟩) ?_
 rintro obj s₁ ⟨rfl,rfl⟩
 have cQ:(s.heap.push {cls:=.type "dict",data:=.dict #[]}).DictOf knd s.heap.objs.size []:=Qdx s.heap
 have ja:(s.heap.push {cls:=.type "dict",data:=.dict #[]}).get? l=i' ol:=Sc _ ho
 have mE:Vx (s.heap.push {cls:=.type "dict",data:=.dict #[]}) cs:=ch.mono fun b o _ e=>Sc _ e
 have lt:∀ b∈cs,b<s.heap.objs.size:=ch.lt
 have hsz:(s.heap.push {cls:=.type "dict",data:=.dict #[]}).objs.size=s.heap.objs.size+1:=Su ..
 have keep:∀ b o,s.heap.get? b=i' o→(s.heap.push {cls:=.type "dict",data:=.dict #[]}).get? b=i' o:=fun b o e=>Sc _ e
 generalize s.heap.push {cls:=.type "dict",data:=.dict #[]}=hp at cQ ja mE hsz keep ⊢
 refine⟨cQ.typeIs,QgF _ _,?_⟩
 unfold XF.«dict.__init__»
 refine oG ?_
 unfold Qfs
 refine oG (UD cQ.typeIs ?_)
 show L' _ _ (pure (s.heap.objs.size,[U9 l])) _ _ _
 refine Sd ?_
 show L' _ _ (QbQ "dict.__init__" s.heap.objs.size (.ref l) [] .none) _ _ _
 unfold QbQ
 have hT:Qcf {s with heap:=hp} (.ref l) "list":=⟨_,ja,lq⟩
 refine oG (Tp hT ?_)
 rw[U3 (by decide)]
 refine oG ?_
 refine Pw (s:={s with heap:=hp}) (V4.hd (A:=A.in1.in1) hc mE) ja lq qe o7 fun h2 lB k2=>?_
 have j8:=k2 _ _ ja
 have bD:h2.IsList l ag:=⟨_,j8,lq,nn,o7⟩
 have xE:Vx h2 cs:=mE.mono fun b o _ e=>k2 b o e
 rw[U3 (show(B':Option K').isNone=D' from rfl)]
 refine oG (Ti ?_)
 refine oG (Tj bD ?_)
 have rW:s.heap.objs.size<h2.objs.size:=by
  obtain⟨o,es,ep,hg,_⟩:=cQ
  exact Se (k2 _ _ hg)
 have ll:l<s.heap.objs.size:=Se ho
 have W:=(qI (prog:=prog) (w:=w) (A:=A.in1.in1) hc h2.objs.size l (Sh (TY ll rW)) (fun z=>U' (TY (lt _ z) rW) (So _)) ag).toS
 refine Sd ⟨Xg mQ _,OQ (knd:=knd) (A:=A.in1) W (fun z=>?_) hz _ ks vs kvs .none (fun i v hv=>?_) hs (fun i=>SN (hl i) (Sy _ _)) (ag.size-0) 0 _ O (Th _) ⟨⟨_,Sf _ O,O,O⟩,bD.push _,xE.mono fun b o _ e=>Sc _ e⟩ ⟨fun _ _ _ e=>e,W.grefl _,O,O,Sg _⟩ ?_ fun s' hm hD=>?_⟩
 .rcases SS.mp z with z|z
  .exact U' z (Sh rW)
  .rcases SS.mp z with z|z
   .exact U' z (SX ll)
   .exact So _ (lt _ z)
 .obtain⟨t,key,e1,⟨ot,vY,r⟩,hk⟩:=gF i v hv
  have tl:=Se vY
  refine⟨t,key,e1,⟨ot,Sc _ (k2 _ _ (keep _ _ vY)),r⟩,fun z=>?_,hk⟩
  rcases SS.mp z with z|z
  .exact U' z (Sh tl)
  .exact U' (Vn.mp z) (Sh (TY tl rW))
 .rw[h0]
  obtain⟨o,es,ep,hg,aW⟩:=cQ
  exact⟨o,es,ep,Sc _ (k2 _ _ hg),aW⟩
 .obtain⟨h',g',d',iC,vL⟩:=s'
  have eg:g'=s.gens:=hm.gens
  have ed:d'=s.drawn:=hm.drawn
  have eo:vL=s.os:=hm.os
  subst eg;subst ed;subst eo
  refine⟨O,h h' iC hD fun b o e=>hm.heap b o (fun z=>?_) (Sc _ (k2 _ _ (keep _ _ e)))⟩
  have bl:=Se e
  rcases SS.mp z with z|z
  .exact U' z (Sh bl)
  .exact U' (Vn.mp z) (Sh (TY bl rW))
end
def fw (K:R') (H:Hp):List (Key×V)→List V→Prop
 | [],ys=>ys=[]
 | kv::r,ys=>∃ t lD,ys=.ref t::lD∧Vi K H t [kV kv.1,kv.2]∧fw K H r lD
def fh (m:List (Key×V)) (kv:Key×V):List (Key×V):=bi m kv.1 kv.2
def W' (kvs:List (Key×V)):List (Key×V):=kvs.foldl fh []
def stN (us:List (Key×K')):Nat→List (Key×K')
 | 0=>[]
 | i+1=>Ye (stN us i) (us.getD i (Va 0,.none)).1 (us.getD i (Va 0,.none)).2
theorem BH (us:List (Key×K')):∀ i,(stN us i).length≤i
 | 0=>Sg _
 | i+1=>SN (stored_length_le _ _ _) (QdJ (BH us i))
theorem QcR:∀ (kvs m:List (Key×V)),(kvs.foldl fh m).length≤m.length+kvs.length
 | [],_=>Sg _
 | kv::r,m=>by
  have h1:=QcR r (fh m kv)
  have h2:=wx m kv.1 kv.2
  show(r.foldl fh (fh m kv)).length≤_
  unfold fh at h1 ⊢
  rw[Sz]
  lia
theorem Hz (I:Inv X aa σ H s):∀ {kvs:List (Key×V)}{ys:List V}{ag:List K'},fw X.K H kvs ys→aB ys ag→∃ us:List (Key×K'),us.length=ag.length∧kvs.length=us.length ∧
  (∀ i v,ag[i]?=i' v→∃ t key,v=.ref t∧s.heap.IsTuple t #[key,(us.getD i (Va 0,.none)).2]∧(bM X.prog X.w).is (us.getD i (Va 0,.none)).1 key=D') ∧
  ∀ i kv,kvs[i]?=i' kv→kv.1=(us.getD i (Va 0,.none)).1∧aA kv.2 (us.getD i (Va 0,.none)).2
 | [],_,_,h,r=>by
  obtain rfl:_=[]:=h
  cases r
  exact⟨[],O,O,(fun i v hv=>by simp at hv),fun i kv hk=>by simp at hk⟩
 | kv::kvs,_,_,h,r=>by
  obtain⟨t,lD,rfl,ht,h'⟩:=h
  cases r with
  | cons r1 r2=>
   obtain rfl:=(show _=U9 t from r1)
   obtain⟨us,e1,e2,e3,e4⟩:=Hz I h' r2
   obtain⟨ti,rv,hT,_⟩:=I.tuple ht
   obtain⟨key,u,rfl,q1,q2⟩:=pG rv
   refine⟨(kv.1,u)::us,by rw[Sz,Sz,e1],by rw[Sz,Sz,e2],fun i v hv=>?_,fun i DS hk=>?_⟩
   .cases i with
    | zero=>
     obtain rfl:U9 t=v:=VQ hv
     exact⟨t,key,O,hT,i6 q1⟩
    | succ i=>exact e3 i v hv
   .cases i with
    | zero=>
     obtain rfl:kv=DS:=VQ hk
     exact⟨O,q2⟩
    | succ i=>exact e4 i DS hk
theorem Bu {kvs:List (Key×V)}{us:List (Key×K')} (h:∀ i kv,kvs[i]?=i' kv→kv.1=(us.getD i (Va 0,.none)).1∧aA kv.2 (us.getD i (Va 0,.none)).2):∀ i,i≤kvs.length→KV ((kvs.take i).foldl fh []) (stN us i)
 | 0,_=>by rw[ZZ];exact .nil
 | i+1,hi=>by
  obtain⟨kv,hk⟩:∃ kv,kvs[i]?=i' kv:=⟨_,SI (by lia)⟩
  obtain⟨e1,e2⟩:=h i kv hk
  have ih:=Bu h i (by lia)
  rw[US,hk,YR]
  show KV (fh ((kvs.take i).foldl fh []) kv) (Ye (stN us i) _ _)
  rw[← e1]
  exact ih.put _ e2
theorem Ov:fi X (.type "dict") (fun xs H Q=>∃ p ys kvs,xs=[.ref p]∧P' X.K H p ys∧fw X.K H kvs ys∧kvs.length≤1000∧∀ d,H d=B'→Q (.ref d) (upd H d (.dK (W' kvs)))):=by
 intro aa s σ H xs us Q I r h
 obtain⟨p,ys,kvs,rfl,hq,hP,aq,q⟩:=h
 obtain⟨u,rfl,ru⟩:=eZ r
 obtain rfl:u=U9 p:=ru
 obtain⟨ag,rv,⟨ol,nn,e1,e2,e3,e4⟩,_⟩:=I.list hq
 obtain⟨us,l1,l2,p1,p2⟩:=Hz I hP rv
 obtain⟨cs,cE,ch⟩:=I.hd.chain
 have hz:ag.toArray.size=kvs.length:=by simp[l2,l1]
 refine OK (knd:=bM X.prog X.w) cE ch e1 e2 e3 e4 (by rw[hz];exact aq) (fun i=>(us.getD i (Va 0,.none)).1) (fun i=>(us.getD i (Va 0,.none)).2) (stN us) O (fun _=>O) (BH us) (fun i v hv=>p1 i v (by simpa using hv)) fun h' tk hD hk=>?_
 have ne:(s.heap.objs.size == WO)=M':=(wT (P:=X.prog) (w:=X.w) (H:=H) s.heap I.big).2.1
 have rel:=Bu p2 kvs.length (Sg _)
 rw[Uo] at rel
 rw[hz] at hD
 have z:(W' kvs).length≤U2:=by
  have:=QcR kvs []
  have z0:([]:List (Key×V)).length=0:=rfl
  rw[S8]
  unfold W'
  lia
 refine⟨.ref s.heap.objs.size,_,I.laid (a:=s.heap.objs.size) (o:=.dK (W' kvs)) (t':=tk) (fun b o e=>hk b o e) (Sg _) ⟨z,ne,_,rel,hD⟩,O,q _ (I.UZ.fresh (Sg _))⟩
section
open PySem.SeqAt
open AutoSeq1 (wpAny_loadPart')
end
section
variable {st:Vh}{ts:TE}
end
theorem MP:VU X (X1 .FloorDiv) (rI (fun _ j=>0<j∧j<2 ^ 62) fun i j=>.int (i / j)):=opI fun i j _ _ _ _ _ hc q=>by
 have h1:(0:Int)<j:=hc.1
 have h2:j<2 ^ 62:=hc.2
 refine floordiv_int (by lia) (by rw[Uc i (by lia)];exact q) (.inl (PyProof.noPylong_of_log2 ?_))
 exact(Qhw (by lia)).mpr (Sj (by lia:j.natAbs<2 ^ 62) (Qds (by decide) (by decide)))
section
open Sem (wp)
end
def alike (c:Int) (l:List Y4):List Y4:=l.filter fun p=>numOf p.1 == c
structure Dn (U0:List Y4) (x Cs:Nat) (l U B C O1:List Y4) (b:Int):Prop where
 arr:l=U++B++C
 org:U0=O1++B++C
 len:U.length+B.length=x
 lb:B.length=Cs+1
 fil:∀ c,alike c U=(alike c O1).reverse
 eqb:∀ p∈B,numOf p.1=b
 gt:∀ p∈U,b<numOf p.1
 dec:U.Pairwise fun p q=>numOf q.1≤numOf p.1
section
variable {U0 U B C O1:List Y4}{x Cs:Nat}{b:Int}{xs:Array Y4}{p:Y4}
end
section
variable {Ar:V2}{a₀:Array Y4}{U0:List Y4}
end
section
variable {c P:F'}
abbrev lV (X:Cx):C':=X.env.qual++"<lambda>"
def xr (X:Cx) (scope:WY) (params:Qel) (body:Vh) (pm:K') (c':F') (gy:K'):Vd:=
 PySem.W.kla_obj "<lambda>" (lV X) params body scope (d7 X.env.cells scope.names []) pm c' gy
def ur (H:Hp) (c' P:F') (qual:C'):Prop:=∃ oc vs t,H c'=i' (.Vf oc (.own P))∧oc.data=.fields vs∧vs[1]?=i' (.str qual t)
theorem ur.rec {P:F'} (x:ur H c' P qual) (k:VH prog w H h):h.CodeRec (.ref c') qual:=by
 obtain⟨oc,vs,t,e1,e2,e3⟩:=x
 obtain⟨z,_⟩:=k c' _ e1
 exact⟨c',oc,vs,t,O,z,e2,e3⟩
theorem Pg {Q:K'→UW→Prop} (I:Inv X aa σ H s) (ie:X.env.code=.ref c) (hc:YS X.K c P=D') (hP:H P=i' (.V' pos (lV X)))
  (ok:eu X.env.scope scope X.N N cap=D') (og:defaultsOf params X.env=([],[]))
  (h:∀ f c' pm gy H' s',Inv X aa σ H' s'→ae H H'→s.heap.objs.size≤f→H' f=B'→s'.heap.get? f=i' (xr X scope params body pm c' gy)→ur H' c' P (lV X)→Q (.ref f) s') :
  L' M A (Vg (.Lambda params body scope pos) X.env) Q E s:=by
 have tb:=I.UZ P _ hP
 obtain⟨bm,ob,b1,b2,b3,b4,b5,b6⟩:=I.ok.mod.bmain
 have hg:s.heap.Ns V6 X.mg:=I.ok.mod.glob.keeps I.bk
 have cl:=A6 (I.Qai ok)
 have Kl:V6≠P:=fun z=>by
  obtain⟨o,_,_,e,_⟩:=I.ok.mod.glob
  have:=(I.bs _ _ e).2
  rw[z,hP] at this;cases this
 have Ja:bm≠P:=fun z=>by
  have:=(I.bs _ _ b3).2
  rw[z,hP] at this;cases this
 have KS:bm≠V6:=fun z=>by
  obtain⟨o,es,ep,e,hd,_⟩:=I.ok.mod.glob
  rw[z,e] at b3;cases b3;rw[hd] at b6;cases b6
 have C:=Qf1 I.Vv hc
 have hb:s.heap.BuiltinsAt X.mg P:=⟨bm,ob,b1,b2,KS,Ja,I.bk _ _ b3,b4,b5,b6⟩
 refine PySem.W.kla_eval og ?_
 rcases tb with tb|⟨c',oc,vs,t,e1,e2,e3,tb⟩
 .refine PySem.W.kla_makeFunction cl I.ok.glob hg ie C tb trivial O Kl hb fun c' gy h' tk hx lC bq zb iM=>?_
  obtain⟨c₂,oc,vs,t,q,sv,hd,hv⟩:=zb
  cases q
  have hn:H c'=B':=I.UZ.fresh lC
  have RB:c'≠P:=fun z=>by rw[z,hP] at hn;cases hn
  have nP:∀ b,H b=B'→b≠P:=fun b n z=>by rw[z,hP] at n;cases n
  have k:∀ (o:Vd) b u,b≠P→s.heap.get? b=i' u→(h'.push o).get? b=i' u:=fun o b u n q=>Sc _ (hx b u n q)
  have ud:∀ o:Vd,(h'.push o).get? P=i' (Qcb (#[]++#[Vw pos.line,Vw pos.col,.ref c'])):=fun o=>Sc _ iM
  have oN:∀ b u,H b=i' u→upd H c' (.Vf oc (.own P)) b=i' u:=fun b u q=>by rw[aj (ao q hn)];exact q
  have un:∀ o:Vd,Un X.fs [] H (upd H c' (.Vf oc (.own P))) s.heap (h'.push o):=fun o=>by
   refine⟨fun b u q n _ _=>k o b u (nP b n) q,fun b u q n _ _=>⟨u.slots,k o b u (nP b n) q⟩,fun b u q n _=>?_,fun b u q _=>?_,fun b xs q=>oN _ _ q,fun b u v q=>oN _ _ q,fun b p r q=>oN _ _ q⟩
   .rw[aj (Sh (Sj (Se q) lC))];exact n
   .by_cases z:b=P
    .exact⟨_,z ▸ ud o⟩
    .exact⟨u,k o b u z q⟩
  have UZ:∀ o:Vd,VH X.prog X.w (upd H c' (.Vf oc (.own P))) (h'.push o):=fun o b u q=>by
   by_cases z:b=c'
   .subst z
    rw[ah] at q;cases q
    exact⟨Sc _ sv,_,Sc _ sv⟩
   .rw[aj z] at q
    by_cases z2:b=P
    .subst z2
     rw[hP] at q;cases q
     exact .inr ⟨c',oc,vs,t,ah,hd,hv,ud o⟩
    .refine(I.UZ b u q).WZ (fun d v hd q'=>k o d v ?_ q') (fun d r=>oN _ _ r) (fun d xs r=>oN _ _ r) fun d ob r=>oN _ _ r
     rcases hd with hd|hd
     .rw[hd];exact z2
     .intro z3
      rw[z3,hP] at hd;cases hd
  have hsz:s.heap.objs.size≤h'.objs.size:=SN lC (S1 bq)
  refine h _ c' _ gy (upd H c' (.Vf oc (.own P))) _ (I.un (t':=tk) (un _) (UZ _)) (fun b u q=>oN b u q) hsz ?_ (Sf _ O) ⟨oc,vs,t,ah,hd,hv⟩
  rw[aj (SX bq)]
  exact I.UZ.fresh hsz
 .have ht:TriplesOk (#[Vw pos.line,Vw pos.col,U9 c']:Array K').toList:=by simp[TriplesOk,Vw]
  have hf:codeAmong pos (#[Vw pos.line,Vw pos.col,U9 c']:Array K').toList=i' (.ref c'):=by simp[codeAmong,Vw]
  refine PySem.W.kla_makeFunctionHit cl I.ok.glob hg ie C tb ht hf hb fun gy h' tk hk hsz=>?_
  exact h _ c' _ gy H _ (I.kept (t':=tk) fun b u q=>Sc _ (hk b u q)) (ae.refl H) hsz (I.UZ.fresh hsz) (Sf _ O) ⟨oc,vs,t,e1,e2,e3⟩
abbrev uU (X:Cx) (scope:WY) (f:F') (cd:K') (L:F'):Wh:=PySem.W.envX (lV X) scope L f cd (d7 X.env.cells scope.names [])
def uN (X:Cx) (scope:WY) (N:List C') (f:F') (cd:K') (A:V2) (s:UW) (H:Hp):Cx:=
 {X with A:=A.deeper (uU X scope f cd s.heap.objs.size),N:=N,s₀:=s,H₀:=H,env:=uU X scope f cd s.heap.objs.size,outer:=X.stack,stack:=uU X scope f cd s.heap.objs.size::X.stack,ex:=[],fn:=fun _=>M',calm:=D',pn:=[],xe:=fun _ _=>False}
abbrev Qby (cap:List (Option Nat)) (σ:St) (v:V):St:=(iA cap σ).set 0 (i' v)
theorem QK {v:V}{tk:Nat} (I:Inv X aa σ H s) (hA:A.frames=X.A.frames) (hh:A.handled=X.A.handled) (ok:eu X.env.scope scope X.N N cap=D')
  (hx:N[0]?=i' x) (hl:scope.names.lookup x=i' .local) (sS:cap[0]?=i' B') (rv:aA v u)
  (hn:h₁.Ns s.heap.objs.size (fun y=>[(x,u)].reverse.lookup y)) (hs:Yb s.heap.objs.size (s.heap.push fo) h₁) :
  Inv (uN X scope N f cd A s H) [] (Qby cap σ v) H {s with heap:=h₁,toks:=tk}:=by
 have mB:=ok
 simp only[eu,Sv,S7,WQ] at ok
 obtain⟨⟨⟨⟨bv,bJ⟩,_⟩,_⟩,fQ⟩:=ok
 have cl:=I.Qai mB
 have old:∀ b o,s.heap.get? b=i' o→h₁.get? b=i' o:=fun b o e=>hs.extBut b o (Sh (Se e)) (Sc _ e)
 have aO:∀ x c,(d7 X.env.cells scope.names []).lookup x=i' c→X.env.cells.lookup x=i' c:=fun x c e=>by
  rcases uZ cl e with q|q
  .simp at q
  .exact q
 have nR:∀ b:F',b∉(uN X scope N f cd A s H).ex:=fun b z=>U' (show b∈([]:List F') from z) (by simp)
 have hd:jn (A.deeper (uU X scope f cd s.heap.objs.size)) H:=by
  rcases I.Y7 with z|⟨a,cs,z,r⟩
  .exact .inl (hh.trans z)
  .exact .inr ⟨a,cs,hh.trans z,r⟩
 refine⟨⟨I.ok.mod,bv,O,O,Sg _,fun y z c h1 h2=>I.ok.inj y z c (aO y c h1) (aO z c h2),fun y hy=>?_,fun y c hf _=>QgA hf,hd,Qf2 (hA.trans I.ok.frames),.inr ⟨O,O⟩,fun b z=>U' z (nR b),
   I.bs,SN I.ok.XH I.sz,fun b _ _=>nR b,fun b z=>U' z (nR b),I.stack,I.QaN⟩,
  rfl,I.bare,Un.kept old,⟨_,hn,fun i y v' h1 h2 h3=>?_⟩,fun y c e=>?_,I.UZ.fresh (Sg _),fun y c e=>I.Wx y c (aO y c e),fun p hp=>U' (show p∈([]:List (F'×Vd)) from hp) (by simp),I.UZ.kept old,?_⟩
 .have hy:scope.names.lookup y=i' .cell∨scope.names.lookup y=i' .free:=hy
  rcases hy with hy|hy
  .exact U' (show(XU != XU)=D' from bJ _ (YO hy)) (by decide)
  .exact Yt.mp (uk (.inl (YO hy)))
 .have h1:N[i]?=i' y:=h1
  by_cases hi:i=0
  .subst hi
   rw[hx] at h1;cases h1
   have aq:0<(iA cap σ).length:=by
    unfold iA
    rw[Ss]
    exact(VI.mp sS).1
   have h2:((iA cap σ).set 0 (i' v))[0]?=i' (i' v'):=h2
   rw[Tw aq] at h2
   cases h2
   refine⟨u,rv,.inl ⟨hl,?_⟩⟩
   show(([(x,u)]:List (C'×K')).lookup x)=i' u
   rw[Tf,ZY]
  .have h2:((iA cap σ).set 0 (i' v))[i]?=i' (i' v'):=h2
   rw[TB (U5 hi)] at h2
   have hj:∃ j,cap[i]?=i' (i' j)∧σ[j]?=i' (i' v'):=by
    unfold iA at h2
    rw[Td] at h2
    cases e:cap[i]? with
    | none=>rw[e] at h2;cases h2
    | some o=>
     rw[e] at h2
     cases o with
     | none=>cases h2
     | some j=>
      refine⟨j,O,?_⟩
      have fk:(σ[j]?).join=i' v':=VQ h2
      cases e2:σ[j]? with
      | none=>rw[e2] at fk;cases fk
      | some o2=>rw[e2] at fk;rw[show o2=i' v' from fk]
   obtain⟨j,hj,hv⟩:=hj
   obtain⟨hX,nW⟩:=wR fQ hj h1
   have jA:(y,WN)∈scope.names:=YO nW
   have tT:=mB
   simp only[eu,Sv,S7] at tT
   have h':Qbw (X.env.scope.names.lookup y)=D':=by simpa using tT.1.2 _ jA
   have hk:X.env.scope.names.lookup y=i' .cell∨X.env.scope.names.lookup y=i' .free:=by
    cases e:X.env.scope.names.lookup y with
    | none=>rw[e] at h';cases h'
    | some k=>
     rw[e] at h'
     cases k<;>first|exact .inl rfl|exact .inr rfl|cases h'
   obtain⟨m,_,Kb⟩:=I.loc
   obtain⟨u',ru,lk⟩:=Kb j y v' hX hv (hk.elim (fun q=>.inr (.inl q)) fun q=>.inr (.inr q))
   refine⟨u',ru,.inr ⟨.inr nW,?_⟩⟩
   rcases lk with⟨q,_⟩|⟨_,c,hc,o,ho,iO⟩
   .have q:X.env.scope.names.lookup y=i' .local:=q
    rcases hk with z|z<;>rw[q] at z<;>cases z
   .obtain⟨c2,tI⟩:=Yt.mp (uk (cells:=X.env.cells) (acc:=[]) (.inl jA))
    have:=aO y c2 tI
    rw[hc] at this;cases this
    exact⟨c,tI,o,old c o ho,iO⟩
 .obtain⟨w',o,ho,iO⟩:=I.cell y c (aO y c e)
  exact⟨w',o,old c o ho,iO⟩
 .show((iA cap σ).set 0 (i' v)).length=N.length
  rw[Zn]
  unfold iA
  rw[Ss]
  exact wB fQ
theorem ML {gy:K'}{v:V}{Q:VK} (I:Inv X aa σ H s) (hA:A.frames=X.A.frames) (hh:A.handled=X.A.handled) (sQ:A.depth<Qd0)
  (ho:s.heap.get? f=i' (xr X scope params body pm c' gy)) (iF:ur H c' P (lV X)) (ok:eu X.env.scope scope X.N N cap=D') (hx:N[0]?=i' x) (hl:scope.names.lookup x=i' .local) (sS:cap[0]?=i' B')
  (fM:Z' (Qgs "<lambda>" (lV X) params body scope (d7 X.env.cells scope.names []) pm (.ref c') gy) ⟨[u],[]⟩=pure [(x,u)]) (yC:scope.isCoroutine=M') (o5:scope.isGenerator=M') (rv:aA v u)
  (he:PE (uN X scope N f (.ref c') A s H) body te) (ht:te (Qby cap σ v) H Q) :
  Wp (UV X.prog X.w) A (.call (.ref f) ⟨[u],[]⟩) (fun r s'=>∃ u',r=.ok (.ret u')∧CE X.stack X.prog X.w H s Q u' s') s:=by
 have mB:=ok
 simp only[eu,Sv,S7,WQ] at mB
 obtain⟨⟨⟨⟨bv,bJ⟩,_⟩,_⟩,_⟩:=mB
 have lim:s.heap.NoLimit:=I.ok.mod.nolimit.keeps I.bk
 refine PySem.W.kla_callFunE sQ ho O yC o5 O (iF.rec I.UZ) ?_
 rw[fM]
 refine Sd (UE (fun y hy=>by simpa using bJ y hy) (fun y hy=>by rw[Vn.mp hy];exact hl) (fun h₁ vC n9=>⟨lim.fresh _ n9,?_⟩) bv)
 show Wp _ _ (.expr body (uU X scope f (.ref c') s.heap.objs.size)) _ _
 have J:Inv (uN X scope N f (.ref c') A s H) [] (Qby cap σ v) H {s with heap:=h₁,toks:=s.toks + [(x,u)].length}:=QK I hA hh ok hx hl sS rv vC n9
 refine PySem.W.kla_codeExpr (SE (he [] _ _ H Q J ht) (fun w' s' hq=>?_) fun _ _ z=>z.elim)
 obtain⟨v',H',J',r',q'⟩:=hq
 exact⟨w',O,v',H',J'.os,J'.bare,J'.base,J'.UZ,r',q'⟩
end
section
theorem Inv.QcS {o':Vd} (I:Inv X (aa++[(kS,o)]) σ H s) (fp:bI X aa H1 kS) (k:∀ b u,b≠kS→s.heap.get? b=i' u→h'.get? b=i' u) (e:h'.get? kS=i' o') (hd:∀ v,o'.data≠.cell v) :
  Inv X (aa++[(kS,o')]) σ H {s with heap:=h',toks:=t'}:=by
 obtain⟨_,f1,f2,f3,f4,f5⟩:=fp
 have pk:=I.pin (kS,o) (Sl _ (Sl _ (Vn.mpr O)))
 have I0:Inv X aa σ H s:=I.Y8 fun p hp=>I.pin p (Sl _ (SD _ hp))
 have I1:=I0.turned (t':=t') k pk.2.1 f1 f3 f4 f5
 refine I1.Y8 fun p hp=>?_
 rcases Wb.mp hp with z|z
 .exact I1.pin p (Sl _ z)
 .rw[Vn.mp z]
  exact⟨e,pk.2.1,f1,f2,hd⟩
def wJ (X:Cx) (A:V2) (f:F') (fo:Vd) (σ:St) (H1:Hp) (key:V→Int) (xs:List V):Prop:=
 ∀ (x:V) (u:K') (aa:List (F'×Vd)) (Hi:Hp) (si:UW),x∈xs→aA x u→Inv X aa σ Hi si→ae H1 Hi→si.heap.get? f=i' fo →
  L' (UV X.prog X.w) A (call (.ref f) [u]) (EP X aa σ fun k H3=>k=.int (key x)∧ae Hi H3) (fun _ _=>False) si
variable {P:PySem.Fin→UW→Prop}{vs:List K'}
end
def xy (K:R') (f:F'):Option K':=match K.lookup f with
 | some ⟨_,_,.func fd,_⟩=>i' fd.code
 | _=>B'
theorem Ri {K:R'}{c:F'}{od:Option F'} (l:K.lookup f=i' ⟨oc,od,.func fd,sl⟩) (h:fd.code=.ref c):xy K f=i' (.ref c):=by
 unfold xy
 rw[l]
 exact WS i' h
structure Bc (K:R') (f P:F'):Prop where
 ex:∃ c,xy K f=i' (.ref c)∧YS K c P=D'
 no:K.lookup P=B'
structure Bn (K:R') (mg:C'→Option K') (x:C') (P:F'):Prop where
 ex:∃ f,mg x=i' (.ref f)∧Bc K f P
section
variable {P:Vy}{K:R'}
theorem dX.okL {TP:F'}{k:Nat} (F:dX K x qual st f fd) (L:Bc K f TP) (S:aI N ps (ay st)) (len:∀ vs H Q E,sp vs H Q E→vs.length=ps.length)
  (cq:∀ (c:F') (A:V2) (outer:List Wh) (s:UW) (H:Hp) (vs:List V) (Q:VK) (E:XK),YS K c TP=D'→bj k (A.deeper (X2 qual (ay st) s.heap.objs.size f (.ref c)))→sp vs H Q E →
   ∃ t,Wy (jh Vp P w K mg base N qual (ay st) f (.ref c) A outer s H E).ZA (jN st) t∧t {nx:=fun _ H'=>Q .U8 H',rt:=Q} (jU N vs) H):cg P w K mg base Vp (k+1) f fd ps sp:=by
 obtain⟨oc,od,dV,kV,bP,pm,an,aw,ct,dH,rfl,lk,gq⟩:=F.ex
 obtain⟨c,e1,e2⟩:=L.ex
 have e:aw=.ref c:=by
  unfold xy at e1
  rw[lk] at e1
  exact VQ e1
 subst e
 refine A1 lk gq S len fun A outer s H vs Q E hr jb=>?_
 obtain⟨t,h,q⟩:=cq c A outer s H vs Q E e2 hr jb
 exact⟨t,h.ZA,q⟩
theorem Def.Qjp {k:Nat}{TP:F'} (D:Def K mg x st ps aH) (L:Bn K mg x TP) (h:∀ f fd,dX K x x st f fd→Bc K f TP→cg P w K mg base CX k f fd ps sp):Vz P w K mg base CX k x ps aH sp:=by
 obtain⟨f,fd,ds,F,e,r⟩:=D.ex
 obtain⟨f',e',l⟩:=L.ex
 rw[e] at e'
 cases e'
 exact⟨f,fd,ds,h f fd F l,e,r⟩
end
abbrev Tab:=F'×VZ×C'
def uR (ts:List Tab) (H:Hp):Prop:=(∀ t∈ts,H t.1=i' (.V' t.2.1 t.2.2))∧∀ b u,H b=i' u→(∃ o xs,u=.Vf o (.lst xs))∨∃ t∈ts,b=t.1∧u=.V' t.2.1 t.2.2
def pX:List Tab→Hp→Hp
 | [],H=>H
 | t::ts,H=>upd (pX ts H) t.1 (.V' t.2.1 t.2.2)
theorem AO:∀ {ts:List Tab}{H:Hp},(ts.map (·.1)).Nodup→∀ t∈ts,pX ts H t.1=i' (.V' t.2.1 t.2.2)
 | [],_,_,t,h=>by simp at h
 | q::ts,H,nd,t,h=>by
  rcases SS.mp h with z|z
  .rw[z];exact ah
  .have n:t.1≠q.1:=fun y=>(YT.mp (show(q.1::ts.map (·.1)).Nodup from nd)).1 (W4.mpr ⟨t,z,y⟩)
   show upd _ _ _ _=_
   rw[aj n]
   exact AO (YT.mp nd).2 t z
theorem AB:∀ {ts:List Tab}{H:Hp}{b:F'}{u:HO},pX ts H b=i' u→H b=i' u∨∃ t∈ts,b=t.1∧u=.V' t.2.1 t.2.2
 | [],_,_,_,h=>.inl h
 | q::ts,H,b,u,h=>by
  have h:upd (pX ts H) q.1 (.V' q.2.1 q.2.2) b=i' u:=h
  by_cases z:b=q.1
  .rw[z,ah] at h
   exact .inr ⟨q,SJ,z,(VQ h).symm⟩
  .rw[aj z] at h
   rcases AB h with y|⟨t,h1,h2⟩
   .exact .inl y
   .exact .inr ⟨t,Sw _ h1,h2⟩
theorem Eu:∀ {ts:List Tab}{H:Hp}{b:F'},(∀ t∈ts,b≠t.1)→pX ts H b=H b
 | [],_,_,_=>rfl
 | q::ts,H,b,h=>by
  show upd _ _ _ _=_
  rw[aj (h q SJ)]
  exact Eu fun t ht=>h t (Sw _ ht)
theorem Qw {P:Vy}{K:R'}{mb:C'→Option K'}{k:Nat}{fa:F'}{vs:List K'}{ts:List Tab}
  (KX:K.In s₁.heap) (vC:s₁.heap.Ns V6 mg) (hb:s₁.heap.Ns Z6 mb) (Jr:∀ x:C',x≠"__name__"→mb x=WK x) (xT:s₁.heap.NoLimit)
  (yS:∃ bm ob,mg "__builtins__"=i' (.ref bm)∧bm≠Z6∧s₁.heap.get? bm=i' ob∧ob.cls=.type "module"∧ob.dict=i' Z6∧ob.data=.plain) (hg:s₁.gens=#[])
  (ha:s₁.heap.get? a=i' {cls:=.type "list",data:=.seq vs.toArray}) (hi:Qbq vs ns) (hl:ns.length≤U2) (hr:bj k Qaa)
  (nd:(ts.map (·.1)).Nodup) (sM:∀ t∈ts,s₁.heap.get? t.1=i' (Qcb #[])∧(∃ c,YS K c t.1=D')∧K.lookup t.1=B')
  (F:∀ base:Vo,K.In base→base.Ns V6 mg→cg P w K mg base CX k fa fd [x] sp) (fM:∀ (s:UW) (u:K'),Qac s fd ⟨[u],[]⟩ [(x,u)])
  (jb:∀ H:Hp,uR ts H→P' K H a (ns.map V.int)→sp [.ref a] H (fun v _=>v=.bl D') fun _ _ _=>False)
  (IC:∀ H e s',CX [] H s₁ (fun _ _ _=>False) e s'→False) :
  Wp (UV P w) Qaa (.call (.ref fa) ⟨[.ref a],[]⟩) (fun r s'=>r=.ok (.ret (.bool D'))∧OldK s₁.heap s'.heap∧s'.os=s₁.os∧Yz s'.gens) s₁:=by
 have rv:=GB hi
 have yT:=hi.length
 have sR:∀ H:Hp,(∀ t∈ts,H t.1=i' (.V' t.2.1 t.2.2))→(∀ b u,H b=i' u→(b=a∧K.lookup a=B'∧u=.Vf {cls:=.type "list",data:=.seq vs.toArray} (.lst (ns.map V.int)))∨∃ t∈ts,b=t.1∧u=.V' t.2.1 t.2.2)→P' K H a (ns.map V.int) →
   Wp (UV P w) Qaa (.call (.ref fa) ⟨[.ref a],[]⟩) (fun r s'=>r=.ok (.ret (.bool D'))∧OldK s₁.heap s'.heap∧s'.os=s₁.os∧Yz s'.gens) s₁:=by
  intro H h1 h2 hS
  have hO:uR ts H:=⟨h1,fun b u q=>(h2 b u q).elim (fun z=>.inl ⟨_,_,z.2.2⟩) .inr⟩
  have UZ:VH P w H s₁.heap:=fun b u q=>by
   rcases h2 b u q with⟨rfl,_,rfl⟩|⟨t,ht,rfl,rfl⟩
   .exact⟨ha,by rw[Ss];exact hl,vs,_,rv,ha⟩
   .exact .inl (sM t ht).1
  have free:∀ {b:F'}{o:Vd},s₁.heap.get? b=i' o→(∀ xs n,o.data≠.seq xs n)→(∀ xs,o.data≠.fields xs)→H b=B':=fun {b o} e n1 n2=>by
   cases q:H b with
   | none=>rfl
   | some u=>
    rcases h2 b u q with⟨rfl,_,_⟩|⟨t,ht,rfl,_⟩
    .rw[ha] at e;cases e
     exact(n1 _ _ O).elim
    .rw[(sM t ht).1] at e;cases e
     exact(n2 _ O).elim
  have vJ:∀ {b:F'}{m:C'→Option K'},s₁.heap.Ns b m→(nj s₁.heap H).Ns b m:=fun {b m} ⟨o,es,ep,e,d,r⟩=>⟨o,es,ep,Br e (free e (by rw[d];intro _ _ z;cases z) (by rw[d];intro _ z;cases z)),d,r⟩
  have C6:K.In (nj s₁.heap H):=fun b o e=>Br (KX b o e) (by
   cases q:H b with
   | none=>rfl
   | some u=>
    rcases h2 b u q with⟨rfl,z,_⟩|⟨t,ht,rfl,_⟩
    .rw[z] at e;cases e
    .rw[(sM t ht).2.2] at e;cases e)
  have hM:Mod K mg (nj s₁.heap H):=⟨C6,vJ vC,⟨mb,vJ hb,Jr⟩,let ⟨mc,y1,y2⟩:=xT;⟨mc,vJ y1,y2⟩,by
   obtain⟨bm,ob,a1,a2,a3,a4,a5,a6⟩:=yS
   exact⟨bm,ob,a1,a2,Br a3 (free a3 (by rw[a6];intro _ _ z;cases z) (by rw[a6];intro _ z;cases z)),a4,a5,a6⟩⟩
  have e0:pV P w K mg (nj s₁.heap H) Qaa [] s₁ H:=⟨O,hM,fun b o e=>Nj e,TH (Ot _ _),trivial,fun b hb=>U' (show b∈([]:List F') from hb) (by simp),UZ,.of_eq hg,.inl rfl⟩
  refine Z2 ((F _ C6 (vJ vC)).run Qaa [] s₁ H ⟨[.ref a],[]⟩ [.ref a] [.ref a] _ _ hr e0 (fM s₁ (.ref a)) (.cons O .nil) (jb H hO hS)) fun r s' h=>?_
  cases r with
  | error e=>exact(IC H e s' h).elim
  | ok fl=>
   cases fl with
   | next=>exact WB h
   | brk=>exact WB h
   | cont=>exact WB h
   | ret u=>
    obtain⟨v,H',os,bare,un,sU,r',q⟩:=h
    have q':v=.bl D':=q
    subst q'
    obtain rfl:u=XY D':=r'
    have no:∀ b:F',b∉VR []:=fun b z=>U' (show b∈([]:List F') from z) (by simp)
    refine⟨O,⟨fun b o e=>?_,fun b o e=>un.there b o e (by simp)⟩,os,bare⟩
    cases q:H b with
    | none=>exact .inl (un.keep b o e q (no b) (by simp))
    | some u=>
     rcases h2 b u q with⟨rfl,_,rfl⟩|⟨t,ht,rfl,rfl⟩
     .obtain⟨y1,_⟩:=UZ _ _ q
      obtain⟨y2,_⟩:=sU _ _ (un.W0 _ _ _ q)
      rw[e] at y1;cases y1
      exact .inl y2
     .obtain⟨g1,⟨c,g2⟩,_⟩:=sM t ht
      rw[e] at g1;cases g1
      rcases sU _ _ (un.Xj _ _ _ q) with y|⟨c',oc,xs,tt,_,_,_,y⟩
      .exact .inl y
      .exact .inr (.inl ⟨((Qf1 KX g2).tab e).isCodeTable,O,#[],#[Vw t.2.1.line,Vw t.2.1.col,.ref c'],O,y⟩)
 have apart:∀ t∈ts,a≠t.1:=fun t ht z=>by
  have y:=(sM t ht).1
  rw[← z,ha] at y;cases y
 cases hk:K.lookup a with
 | some o=>
  have e:=KX a o hk
  rw[ha] at e
  cases e
  refine sR (pX ts fun _=>B') (AO nd) (fun b u q=>.inr ((AB q).elim (fun z=>by cases z) id)) (.inr ⟨_,vs.toArray,_,hk,rfl,rfl,rfl,by rw[Si,yT];exact hl,by simpa using rv⟩)
 | none=>
  refine sR (pX ts (upd (fun _=>B') a (.Vf {cls:=.type "list",data:=.seq vs.toArray} (.lst (ns.map V.int))))) (AO nd) (fun b u q=>?_) (.inl (.inr ⟨_,by rw[Eu apart];exact ah⟩))
  rcases AB q with z|z
  .by_cases y:b=a
   .rw[y,ah] at z
    exact .inl ⟨y,hk,(VQ z).symm⟩
   .rw[aj y] at z;cases z
  .exact .inr z
theorem znt {l:QcC}{k:Nat}{XP:(C'→Option K')→Vo→Prop}{YP:VL→Vo→Prop}{d:DefRec}{K:Params→R'}{TS:List F'}
  (hn:l.most=i' n) (nX:n≤U2) (mh:d.params.defaults=[]) (hr:bj k Qaa)
  (hY:∀ (w:VL) (h:Vo),YP w h→(K w.params).In h∧∀ P∈TS,h.get? P=i' (Qcb #[]))
  (F:∀ (w:VL) (mg:C'→Option K') (fa:F') (h:Vo),(K w.params).In h→h.Ns V6 mg→mg d.name=i' (.ref fa) →
   ∃ (fd:XE) (ts:List Tab) (sp:Sp),(∀ (s:UW) (u:K'),Qac s fd ⟨[u],[]⟩ [(x,u)])∧(ts.map (·.1)).Nodup∧(∀ t∈ts,t.1∈TS∧(∃ c,YS (K w.params) c t.1=D')∧(K w.params).lookup t.1=B') ∧
    (∀ (H:Hp) (a:F') (ns:List Int),ns.length≤n→uR ts H→P' (K w.params) H a (ns.map V.int)→sp [.ref a] H (fun v _=>v=.bl D') fun _ _ _=>False) ∧
    ∀ base:Vo,(K w.params).In base→base.Ns V6 mg→cg l.prog w (K w.params) mg base Vp k fa fd [x] sp) :
  PySem.W.WalkO q ej XP YP l.row.toRowW d [] (fun f vs=>Qd5 f vs):=by
 refine Att.ziE hn mh fun w s₀ s₁ mg mb fa o pm cd bP a vs ns G Y ho hd gq tF ou jI aq hg=>?_
 obtain⟨KX,tb⟩:=hY w _ Y
 obtain⟨fd,ts,sp,hb,nd,ht,jb,hF⟩:=F w mg fa _ KX G.T.g tF
 exact Qw KX G.T.g G.T.b G.T.builtins G.T.nolimit G.T.bmain hg ou jI (SN aq nX) hr nd (fun t m=>⟨tb _ (ht t m).1,(ht t m).2⟩) hF hb (fun H hO hS=>jb H a ns aq hO hS) fun H e s' z=>z
section
variable {a b:Vh}{aW:List Vh}{ta tb:TE}
inductive Qjq (K:R') (tb:TE) (σ:St) (Q:VK) (x:V) (H1:Hp):Prop
 | mk (k:_) (_:QcI K x H1 k) (_:if k=D' then Q x H1 else tb σ H1 Q)
def Qjr (K:R') (ta tb:TE):TE:=fun σ H Q=>ta σ H fun x H1=>Qjq K tb σ Q x H1
theorem Gk (ha:PE X a ta) (hb:PE X (.BoolOp .Or (b::aW) pos) tb):PE X (.BoolOp .Or (a::b::aW) pos) (Qjr X.K ta tb):=by
 intro aa s σ H Q I h
 refine BoolOp_or (U6 (ha aa s σ H _ I h) fun v s1=>L2.Ve fun x H1 I1 r1 aQ=>?_)
 obtain⟨k,e,q1⟩:=aQ
 refine U6 (FM aa s1 σ H1 x v (fun k' H'=>k'=k∧H'=H1) I1 r1 ⟨k,e,O,O⟩) fun c s2 ⟨H2,I2,e1,e2⟩=>?_
 subst e1;subst e2
 cases c with
 | false=>exact hb aa s2 σ H2 Q I2 q1
 | true=>exact⟨x,H2,I2,r1,q1⟩
end
theorem uW {i:Int} (h1:-(2 ^ 62)≤i) (h2:i≤2 ^ 62):Qfo i=D':=by
 unfold Qfo
 rw[T7 (by lia),T7 (by lia)]
 rfl
def Et (key:V→Int) (xs:List V) (m:V):Prop:=∃ i:Nat,xs[i]?=i' m∧(∀ (j:Nat) x,xs[j]?=i' x→key m≤key x)∧∀ (j:Nat) x,j<i→xs[j]?=i' x→key m<key x
section
theorem bI.more {b:F'} (fp:bI X aa H a) (ne:b≠a):bI X (aa++[(b,o)]) H a:=by
 obtain⟨g0,g1,g2,g3,g4,g5⟩:=fp
 refine⟨g0,g1,g2,g3,g4,fun p hp=>?_⟩
 rcases Wb.mp hp with z|z
 .exact g5 p (SD _ z)
 .rcases Wb.mp z with y|y
  .exact g5 p (Sl _ y)
  .rw[Vn.mp y]
   exact ne
theorem Inv.swap {p q:F'×Vd} (I:Inv X ((aa++[p])++[q]) σ H s):Inv X ((aa++[q])++[p]) σ H s:=I.Y8 fun r hr=>I.pin r (Sl _ (by
  simp only[Wb,Vn] at hr ⊢
  rcases hr with(h|h)|h
  .exact .inl (.inl h)
  .exact .inr h
  .exact .inl (.inr h)))
theorem Inv.less {p:F'×Vd} (I:Inv X (aa++[p]) σ H s):Inv X aa σ H s:=I.Y8 fun r hr=>I.pin r (Sl _ (SD _ hr))
variable {es:Array DictEntry}
theorem ET (I:Inv X aa σ H s) (hd:H d=i' (.Vf o (.dK kvs))) (az:o.data=.dict es ep):∃ vs,KV kvs vs∧s.heap.DictAt (bM X.prog X.w) d vs ep:=by
 obtain⟨ho,ug⟩:=I.UZ _ _ hd
 obtain⟨z,oO,vs,rel,⟨o',DR,DP,j8,sw,cC,r2⟩⟩:=ug
 rw[ho] at j8;cases j8
 rw[az] at cC;cases cC
 exact⟨vs,rel,⟨o,es,ho,sw,az,r2⟩⟩
theorem Gp {k:Key}{x:V} (iq:bI X aa H1 it) (I:Inv X (aa++[(it,oI)]) σ H s) (hd:H d=i' (.Vf o (.dK kvs))) (az:o.data=.dict es ep) (aJ:s.heap.IsKeyIter it d j kvs.length ep) (hx:kvs[j]?=i' (k,x))
  (h:∀ u h' kO,aA (kV k) u→Inv X (aa++[(it,kO)]) σ H {s with heap:=h'}→h'.IsKeyIter it d (j+1) kvs.length ep→h'.get? it=i' kO→Q (i' u) {s with heap:=h'}):L' (UV X.prog X.w) A (VB (.ref it)) Q E s:=by
 obtain⟨vs,rel,iR⟩:=ET I hd az
 obtain⟨u,hu,ru⟩:=rel.get hx
 have aq:kvs.length=vs.length:=rel.length
 rw[aq] at aJ
 refine Uw aJ iR hu fun v h' cr bO bL=>?_
 obtain⟨oi,ei,ci,di⟩:=id bO
 have I1:=I.QcS (t':=s.toks) (h':=h') iq (fun b o hb e=>bL.extBut b o hb e) ei (by intro v z;rw[di] at z;cases z)
 exact h v h' oi (Aw cr) I1 (by rw[aq];exact bO) ei
theorem Nv (hh:A.handled=X.A.handled) (iq:bI X aa H1 it) (I:Inv X (aa++[(it,oI)]) σ H s) (hd:H d=i' (.Vf o (.dK kvs))) (az:o.data=.dict es ep) (aJ:s.heap.IsKeyIter it d kvs.length kvs.length ep)
  (h:∀ h',Inv X aa σ H {s with heap:=h'}→Q B' {s with heap:=h'}):L' (UV X.prog X.w) A (VB (.ref it)) Q E s:=by
 obtain⟨vs,rel,iR⟩:=ET I hd az
 have aq:kvs.length=vs.length:=rel.length
 obtain⟨f0,f1,f2,f3,f4,f5⟩:=iq
 have hn:=(I.pin (it,oI) (Sl _ (Sl _ (Vn.mpr O)))).2.1
 rw[aq] at aJ
 have I0:=I.less
 refine Ff (by have:=I.hd;unfold Hd at this ⊢;rw[hh];exact this) aJ iR (TU (Sg _)) fun h' eb=>h h' (I0.turned (t':=s.toks) (fun b o hb e=>eb b o hb e) hn f1 f3 f4 f5)
def VM (kvs:List (Key×V)):List V:=kvs.map fun p=>kV p.1
def BD (key:V→Int) (xs:List V) (i n:Nat):Prop:=∀ (j:Nat) x m,j<n→xs[j]?=i' x→xs[i]?=i' m→key m≤key x∧(j<i→key m<key x)
theorem Ob (hh:A.handled=X.A.handled) (kr:wJ X A.in1 f fo σ H1 key (VM kvs)) (hf:(f,fo)∈aa) (hd:H1 d=i' (.Vf o (.dK kvs))) (az:o.data=.dict es ep) (iq:bI X aa H1 it) (jZ:bI X aa H1 S) (ne:S≠it)
  (hR:∀ i m v H' s',(VM kvs)[i]?=i' m→aA m v→BD key (VM kvs) i kvs.length→Inv X aa σ H' s'→ae H1 H'→R (.ok (.ret v)) s') :
  ∀ (r j i:Nat) (s:UW) (H:Hp) (m:V) (vb:K') (tb:Wq) (c:Nat) (oI:Vd),kvs.length-(j+1)=r→j+1≤kvs.length→Inv X ((aa++[(S,W5 "list" #[vb,.int (key m) tb] c)])++[(it,oI)]) σ H s→ae H1 H→s.heap.IsKeyIter it d (j+1) kvs.length ep →
   (VM kvs)[i]?=i' m→aA m vb→i≤j→BD key (VM kvs) i (j+1)→Wp (UV X.prog X.w) A (.builtin "min.loop" ⟨[.ref it,.ref f,.ref S],[]⟩) R s:=by
 have d9:(toString "min"++toString ".loop":String)="min.loop":=by decide
 have R5:(VM kvs).length=kvs.length:=Ss _
 have Ky:A.in1.handled=X.A.handled:=hh
 intro r
 induction r with
 | zero=>
  intro j i s H m vb tb c oI hr hj I sm aJ hm rm Ds fH
  have eO:j+1=kvs.length:=by lia
  rw[eO] at aJ fH
  have nS:=I.pin (S,W5 "list" #[vb,.int (key m) tb] c) (by simp)
  refine XS Qdk ?_
  rw[X' ZP _]
  show L' _ A.in1 (Yx (.ref S) >>= _) _ _ _
  refine oG (SA nS.1 O ?_)
  show L' _ A.in1 (tryCatch (VB (.ref it)) _ >>= _) _ _ _
  refine oG (SU (Nv Ky (iq.more ne) I (sm _ _ hd) az aJ fun h' I1=>?_))
  have Cb:=I1.pin (S,W5 "list" #[vb,.int (key m) tb] c) (by simp)
  have s1:=Xe h' S (Wv fun _=>(#[]:Array K'))
  show L' _ A.in1 (Yw S (fun _=>#[]) >>= _) _ _ _
  refine oG ?_
  refine SV Cb.1 O (oG (Ta (Sd ?_)))
  obtain⟨f0,f1,f2,f3,f4,f5⟩:=jZ
  exact hR i m vb H _ hm rm fH (I1.less.turned (t':=s.toks) (fun b o z q=>(s1.2 b z).trans q) Cb.2.1 f1 f3 f4 f5) sm
 | succ r ih=>
  intro j i s H m vb tb c oI hr hj I sm aJ hm rm Ds fH
  have bq:j+1<kvs.length:=by lia
  have nS:=I.pin (S,W5 "list" #[vb,.int (key m) tb] c) (by simp)
  refine XS Qdk ?_
  rw[X' ZP _]
  show L' _ A.in1 (Yx (.ref S) >>= _) _ _ _
  refine oG (SA nS.1 O ?_)
  show L' _ A.in1 (tryCatch (VB (.ref it)) _ >>= _) _ _ _
  obtain⟨⟨k,y⟩,hx⟩:∃ p,kvs[j+1]?=i' p:=⟨kvs[j+1],by simp[bq]⟩
  have mw:(VM kvs)[j+1]?=i' (kV k):=by unfold VM;rw[Td,hx];rfl
  refine oG (SU (Gp (iq.more ne) I (sm _ _ hd) az aJ hx fun v h' kO rv I1 bO oM=>?_))
  show L' _ A.in1 (tryCatch (WX [v] (call (.ref f) [v])) _ >>= _) _ _ _
  have pf:=I1.pin (f,fo) (Sl _ (SD _ (SD _ hf)))
  refine oG (SU (Sn (SE (kr (kV k) v _ H _ (Tb mw) rv I1 sm pf.1) (fun kv s2 hq=>?_) fun _ _ z=>z.elim)))
  obtain⟨kk,H3,I3,rk,rfl,vn⟩:=hq
  obtain⟨t2,rfl⟩:∃ t,kv=X0 (key (kV k)) t:=rk
  have sE:=I3.pin (S,W5 "list" #[vb,.int (key m) tb] c) (by simp)
  have yZ:=I3.pin (it,kO) (by simp)
  have rT:s2.heap.IsKeyIter it d (j+1+1) kvs.length ep:=by
   obtain⟨o2,e2,c2,d2⟩:=bO
   rw[oM] at e2
   cases e2
   exact⟨_,yZ.1,c2,d2⟩
  show L' _ A.in1 (tryCatch (WX [v,.int (key (kV k)) t2] (richCompare .Lt (.int (key (kV k)) t2) (.int (key m) tb) >>= _)) _ >>= _) _ _ _
  refine oG (SU (Sn (oG (QdR (prog:=X.prog) (w:=X.w) (A:=A.in1) (P:=fun i v=>∃ t,v=.int (if i=0 then key m else key (kV k)) t) (fun i=>if i=0 then key m else key (kV k)) (fun i v h=>h) 1 0 _ _ _ _ _ ⟨t2,O⟩ ⟨tb,O⟩ ?_))))
  refine oG (Sn (SO ?_))
  refine oG (Ta (Sd ?_))
  show L' _ A.in1 (if decide (key (kV k)<key m)=D' then _ else _) _ _ _
  by_cases hb:key (kV k)<key m
  .have s1:=Xe s2.heap S (Wv fun _=>#[v,.int (key (kV k)) t2])
   rw[U3 (T7 hb)]
   refine oG ?_
   refine SV sE.1 O (oG (Ta ?_))
   rw[d9]
   have I4:=I3.swap.QcS (t':=s2.toks) (jZ.more ne.symm) (fun b o z q=>(s1.2 b z).trans q) (Qhu sE.1 fun _=>#[v,.int (key (kV k)) t2]) (by intro v z;cases z)
   refine Sd ⟨Xg ZP _,ih (j+1) (j+1) _ H3 (kV k) v t2 _ kO (by lia) bq I4.swap (sm.trans vn) ?_ mw rv (Sg _) ?_⟩
   .obtain⟨o2,e2,c2,d2⟩:=rT
    exact⟨o2,(s1.2 it (U5 ne)).trans e2,c2,d2⟩
   .intro j' x m' h1 h2 h3
    rw[mw] at h3
    cases h3
    by_cases e:j'=j+1
    .subst e
     rw[mw] at h2
     cases h2
     exact⟨TQ _,fun z=>U' z (So _)⟩
    .have q:=(fH j' x m (by lia) h2 hm).1
     exact⟨by lia,fun _=>by lia⟩
  .rw[U4 (by rw[S0 hb];decide)]
   refine oG (Ta ?_)
   rw[d9]
   refine Sd ⟨Xg ZP _,ih (j+1) i _ H3 m vb tb c kO (by lia) bq I3 (sm.trans vn) rT hm rm (by lia) ?_⟩
   intro j' x m' h1 h2 h3
   by_cases e:j'=j+1
   .subst e
    rw[mw] at h2
    rw[hm] at h3
    cases h2
    cases h3
    exact⟨by lia,fun z=>by lia⟩
   .exact fH j' x m' (by lia) h2 h3
theorem NT (hh:A.handled=X.A.handled) (kr:wJ X A.in1 f fo σ H1 key (VM kvs)) (hf:(f,fo)∈aa) (hd:H1 d=i' (.Vf o (.dK kvs))) (az:o.data=.dict es ep) (iq:bI X aa H1 it) (jZ:bI X aa H1 S) (ne:S≠it) (hn:0<kvs.length)
  (I:Inv X ((aa++[(S,W5 "list" #[] c)])++[(it,oI)]) σ H s) (sm:ae H1 H) (aJ:s.heap.IsKeyIter it d 0 kvs.length ep)
  (hR:∀ i m v H' s',(VM kvs)[i]?=i' m→aA m v→BD key (VM kvs) i kvs.length→Inv X aa σ H' s'→ae H1 H'→R (.ok (.ret v)) s'):Wp (UV X.prog X.w) A (.builtin "min.loop" ⟨[.ref it,.ref f,.ref S],[]⟩) R s:=by
 have d9:(toString "min"++toString ".loop":String)="min.loop":=by decide
 have nS:=I.pin (S,W5 "list" #[] c) (by simp)
 refine XS Qdk ?_
 rw[X' ZP _]
 show L' _ A.in1 (Yx (.ref S) >>= _) _ _ _
 refine oG (SA nS.1 O ?_)
 show L' _ A.in1 (tryCatch (VB (.ref it)) _ >>= _) _ _ _
 obtain⟨⟨k,y⟩,hx⟩:∃ p,kvs[0]?=i' p:=⟨kvs[0],by simp[hn]⟩
 have mw:(VM kvs)[0]?=i' (kV k):=by unfold VM;rw[Td,hx];rfl
 refine oG (SU (Gp (iq.more ne) I (sm _ _ hd) az aJ hx fun v h' kO rv I1 bO oM=>?_))
 show L' _ A.in1 (tryCatch (WX [v] (call (.ref f) [v])) _ >>= _) _ _ _
 have pf:=I1.pin (f,fo) (Sl _ (SD _ (SD _ hf)))
 refine oG (SU (Sn (SE (kr (kV k) v _ H _ (Tb mw) rv I1 sm pf.1) (fun kv s2 hq=>?_) fun _ _ z=>z.elim)))
 obtain⟨kk,H3,I3,rk,rfl,vn⟩:=hq
 obtain⟨t2,rfl⟩:∃ t,kv=X0 (key (kV k)) t:=rk
 have sE:=I3.pin (S,W5 "list" #[] c) (by simp)
 have yZ:=I3.pin (it,kO) (by simp)
 have s1:=Xe s2.heap S (Wv fun _=>#[v,.int (key (kV k)) t2])
 show L' _ A.in1 (Yw S (fun _=>#[v,.int (key (kV k)) t2]) >>= _) _ _ _
 refine oG (SV sE.1 O ?_)
 rw[d9]
 have I4:=I3.swap.QcS (t':=s2.toks) (jZ.more ne.symm) (fun b o z q=>(s1.2 b z).trans q) (Qhu sE.1 fun _=>#[v,.int (key (kV k)) t2]) (by intro v z;cases z)
 refine Sd ⟨Xg ZP _,Ob hh kr hf hd az iq jZ ne hR _ 0 0 _ H3 (kV k) v t2 _ kO O hn I4.swap (sm.trans vn) ?_ mw rv (Sg _) ?_⟩
 .obtain⟨o2,e2,c2,d2⟩:=bO
  rw[oM] at e2
  cases e2
  exact⟨_,(s1.2 it (U5 ne)).trans yZ.1,c2,d2⟩
 .intro j' x m' h1 h2 h3
  obtain rfl:j'=0:=by lia
  rw[h2] at h3
  cases h3
  exact⟨TQ _,fun z=>U' z (So _)⟩
theorem Lw {Q:K'→UW→Prop} (hd:H d=i' (.dK kvs)) (hn:0<kvs.length) (hf:(f,fo)∈aa) (I:Inv X aa σ H s)
  (kr:∀ o,wJ X X.A.in1 f fo σ (upd H d (.Vf o (.dK kvs))) key (VM kvs))
  (h:∀ m v H' s',Et key (VM kvs) m→aA m v→Inv X aa σ H' s'→ae H H'→Q v s') :
  L' (UV X.prog X.w) X.A (call (.builtin "min") [.ref d] [(Vb "key",.ref f)]) Q E s:=by
 obtain⟨z,oO,vs,rel,dd⟩:=pJ I.UZ hd
 obtain⟨o,ij,ep,ho,hx,az,r⟩:=id dd
 have iR:s.heap.DictAt (bM X.prog X.w) d vs ep:=⟨o,ij,ho,hx,az,r⟩
 have nf:=I.QeL hd
 have d9:(toString "min"++toString ".loop":String)="min.loop":=by decide
 refine kmk_tree PySem.F.kind_min PySem.F.plain_min PySem.F.entry_min (kmk_min_key _ _) ?_
 refine(show L' _ _ (QbL "min" ["key","default"] 0 ⟨[],[(Vb "key",U9 f)]⟩ >>= _) _ _ _ from oG (Ub (show QbL "min" ["key","default"] 0 ⟨[],[(Vb "key",U9 f)]⟩=pure [i' (U9 f),B'] from rfl) ?_))
 refine oG (Sd ?_)
 refine oG (UQ oO iR ?_)
 refine oG (wpAny_newList ?_ (Th _))
 rw[d9]
 refine Sd ⟨Xg ZP _,?_⟩
 have hz:(s.heap.push {cls:=.type "dict_keyiterator",data:=.fields #[.ref d,.int 0 0,.int vs.length 0,.int ep 0]}).objs.size=s.heap.objs.size+1:=Su ..
 have nd:∀ b,s.heap.objs.size≤b→upd H d (.Vf o (.dK kvs)) b=B':=fun b hb=>by
  rw[aj (U5 (Sh (Sj (Se ho) hb)))]
  exact I.UZ.fresh hb
 have If:=I.freeze hd ho
 have iq:bI X aa (upd H d (.Vf o (.dK kvs))) s.heap.objs.size:=If.Xk (Sg _) (nd _ (Sg _))
 have jZ:bI X aa (upd H d (.Vf o (.dK kvs))) (s.heap.objs.size+1):=If.Xk (SH _) (nd _ (SH _))
 rw[hz]
 have ne:s.heap.objs.size+1≠s.heap.objs.size:=Nat.succ_ne_self _
 have I2:=If.kept (t':=s.toks) (h':=(s.heap.push {cls:=.type "dict_keyiterator",data:=.fields #[.ref d,.int 0 0,.int vs.length 0,.int ep 0]}).push (W5 "list" #[] 0)) fun b o e=>Sc _ (Sc _ e)
 have oS:((s.heap.push {cls:=.type "dict_keyiterator",data:=.fields #[.ref d,.int 0 0,.int vs.length 0,.int ep 0]}).push (W5 "list" #[] 0)).get? (s.heap.objs.size+1)=i' (W5 "list" #[] 0):=by
  rw[← hz]
  exact Sf _ rfl
 have oI:((s.heap.push {cls:=.type "dict_keyiterator",data:=.fields #[.ref d,.int 0 0,.int vs.length 0,.int ep 0]}).push (W5 "list" #[] 0)).get? s.heap.objs.size=i' {cls:=.type "dict_keyiterator",data:=.fields #[.ref d,.int 0 0,.int vs.length 0,.int ep 0]}:=Sc _ (Sf _ O)
 refine NT (S:=s.heap.objs.size+1) (it:=s.heap.objs.size) (c:=0) (oI:={cls:=.type "dict_keyiterator",data:=.fields #[.ref d,.int 0 0,.int vs.length 0,.int ep 0]}) O (kr o) hf ah az iq jZ ne hn (I2.Y8 fun p hp=>?_) (ae.refl _) ?_ fun i m v H' s' hm rm fH I' sm=>?_
 .rcases Wb.mp hp with z|z
  .rcases Wb.mp z with y|y
   .exact I2.pin p (Sl _ y)
   .rw[Vn.mp y]
    exact⟨oS,jZ.1,jZ.2.1,jZ.2.2.1,by intro v z;cases z⟩
  .rw[Vn.mp z]
   exact⟨oI,iq.1,iq.2.1,iq.2.2.1,by intro v z;cases z⟩
 .rw[rel.length]
  exact⟨_,oI,O,O⟩
 .have e':=sm d _ ah
  refine h m v _ s' ⟨i,hm,fun j x hx=>(fH j x m (by have:=(VI.mp hx).1;unfold VM at this;rw[Ss] at this;exact this) hx hm).1,fun j x hj hx=>(fH j x m (by have:=(VI.mp hx).1;unfold VM at this;rw[Ss] at this;exact this) hx hm).2 hj⟩ rm (I'.QeK nf e') fun b u q=>?_
  by_cases c:b=d
  .subst c
   rw[hd] at q
   cases q
   exact ah
  .rw[aj c]
   exact sm b u (by rw[aj c];exact q)
end
def Qjs (P:F') (gJ:VZ) (qual:C') (cap:List (Option Nat)) (ta:TA) (te:TE):TE:=fun σ H Q=>ta σ H fun us H1=>∃ (d:F') (kvs:List (Key×V)) (key:V→Int),us=[.ref d]∧H1 d=i' (.dK kvs)∧0<kvs.length∧H1 P=i' (.V' gJ qual) ∧
 (∀ x∈VM kvs,∀ o H2,ae (upd H1 d (.Vf o (.dK kvs))) H2→te (Qby cap σ x) H2 fun k H3=>k=.int (key x)∧ae H2 H3)∧∀ m H',ae H1 H'→Et key (VM kvs) m→Q m H'
theorem PQ {a:Vh}{gJ:VZ}{c P:F'}{k:Nat} (hg:Gl X "min") (hm:X.mg "min"=B') (hr:bj k X.A) (ha:PA X [a] ta)
  (ie:X.env.code=.ref c) (hc:YS X.K c P=D') (ok:eu X.env.scope scope X.N N cap=D')
  (he:∀ f c' s H,PE (uN X scope N f (.ref c') X.A.in1 s H) body te)
  (hx:N[0]?=i' x:=by rfl) (hl:scope.names.lookup x=i' .local:=by rfl) (sS:cap[0]?=i' B':=by rfl)
  (yC:scope.isCoroutine=M':=by rfl) (o5:scope.isGenerator=M':=by rfl)
  (og:defaultsOf params X.env=([],[]):=by rfl)
  (fM:∀ pm c' gy u,Z' (Qgs "<lambda>" (lV X) params body scope (d7 X.env.cells scope.names []) pm (.ref c') gy) ⟨[u],[]⟩=pure [(x,u)]:=by intro _ _ _ _;rfl)
  (hs:VP pos (Vk [a] X.env)=(M',Vg a X.env)::VP pos (Vk [] X.env):=by rfl) (hp:(VP pos (Vk [a] X.env)).any (·.1)=M':=by rfl) (zo:(Xs pos (Xr [⟨i' "key",.Lambda params body scope gJ,dR⟩] X.env)).all (·.1.isSome)=D':=by rfl)
  (yE:(Xs pos (Xr [⟨i' "key",.Lambda params body scope gJ,dR⟩] X.env)).any (·.1.isNone)=M':=by rfl)
  (xL:∀ u:K',((Xs pos (Xr [⟨i' "key",.Lambda params body scope gJ,dR⟩] X.env)).filterMap (·.1)).zip [u]=[(Vb "key",u)]:=by intro u;rfl) :
  PE X (.Call (.Name "min" p) [a] [⟨i' "key",.Lambda params body scope gJ,dR⟩] pos) (Qjs P gJ (lV X) cap ta te):=by
 intro aa s σ H Q I h
 refine SK (jr I hg hm AL ?_)
 refine Qft (U6 (ha pos aa s σ H _ I h) fun us s1=>L2.Ve fun vs H1 I1 r1 aQ=>?_) hs hp zo yE
 obtain⟨d,kvs,key,e,q1,hn,hP,cr,aG⟩:=aQ
 subst e
 obtain⟨u,rfl,ru⟩:=eZ r1
 obtain rfl:u=U9 d:=ru
 refine Qfz (Pg I1 ie hc hP ok og fun f c' pm gy H2 s2 I2 qA hsz KH Jz lc=>QfC ?_)
 rw[xL]
 have I3:Inv X (aa++[(f,xr X scope params body pm c' gy)]) σ H2 s2:=I2.Y8 fun q hq=>by
  rcases Wb.mp hq with z|z
  .exact I2.pin q (Sl _ z)
  .rw[Vn.mp z]
   exact⟨Jz,KH,SX (Sj I1.lt hsz),I1.Qem hsz,by intro v y;cases y⟩
 have Ld:∀ o,ae (upd H1 d (.Vf o (.dK kvs))) (upd H2 d (.Vf o (.dK kvs))):=fun o b u q=>by
  by_cases z:b=d
  .subst z
   rw[ah] at q ⊢
   exact q
  .rw[aj z] at q ⊢
   exact qA b u q
 have kr:∀ o,wJ X X.A.in1 f (xr X scope params body pm c' gy) σ (upd H2 d (.Vf o (.dK kvs))) key (VM kvs):=by
  intro o v u bR Hi si hv rv Ii B7 Ij
  have Lj:ur Hi c' P (lV X):=by
   obtain⟨oc,ws,t,e1,e2,e3⟩:=lc
   exact⟨oc,ws,t,B7 _ _ (by rw[aj (fun z=>by rw[z,qA _ _ q1] at e1;cases e1)];exact e1),e2,e3⟩
  have yK:=ML (A:=X.A.in1) (x:=x) (Q:=fun k H3=>k=.int (key v)∧ae Hi H3) Ii O O hr.depth Ij Lj ok hx hl sS (fM pm c' gy u) yC o5 rv (he f c' si Hi) (cr v hv o Hi ((Ld o).trans B7))
  refine Tl (Z2 yK fun r s' hq=>?_)
  obtain⟨u',rfl,ce⟩:=hq
  exact Ii.after ce
 refine Lw (qA _ _ q1) hn (Sl _ (Vn.mpr O)) I3 kr fun m v H' s' fm rm I' sm=>?_
 exact⟨m,H',I'.less,rm,aG m H' (qA.trans sm) fm⟩
theorem Rb (hc:V4 A cs) (I:F') (hI:I∉cs) (n:Nat):Qae prog w A I (I::cs) [I] n (fun i v=>∃ t,v=.int i t) (fun i h=>Z5 h I (i:Nat) ((n:Int)-(i:Nat)) 1∧Vx h cs) where
 sub:=fun b hb=>by simp at hb;simp[hb]
 frame:=fun _ _ _ x hk=>⟨hk I (by simp) _ x.1,x.2.mono fun b o hb e=>hk b (by simp[hb]) o e⟩
 item:=fun i s Q E hi x hQ=>by
  refine Uq x.1 (by lia) fun h' bO bL=>?_
  refine hQ _ h' _ ⟨_,O⟩ ⟨?_,x.2.but hI bL.extBut⟩ fun b o hb e=>bL.extBut b o (fun h=>hb (by simp[h])) e
  rw[show(((i+1:Nat):Int))=(i:Int)+1 by lia,show(n:Int)-((i:Int)+1)=(n:Int)-(i:Int)-1 by lia]
  exact bO
 done:=fun s Q E x hQ=>Fe (hc.hd x.2) x.1 (by lia) fun h' dz=>hQ h' s.toks fun b o hb e=>dz b o (fun h=>hb (by simp[h])) e
 self:=fun _ _ _ _ x hQ=>Uv x.1 hQ
theorem LN (hc:V4 A cs){r:F'}{u v:Wq} (hr:IsRange s.heap r 0 n 1 t u v) (c:Vx s.heap cs) (aq:n≤2 ^ 24) (S:F') (res:K') (c₀:Nat) (hS:s.heap.get? S=i' {cls:=.type "list",data:=.seq #[] c₀}) (r6:S∉cs)
  (hR:∀ h' tk eP c',(∀ b o,b≠S→s.heap.get? b=i' o→h'.get? b=i' o)→h'.get? S=i' {cls:=.type "list",dict:=B',data:=.seq eP c',slots:=#[]}→Qbp (fun i v=>∃ t,v=.int i t) eP n→R (.ok (.ret res)) {s with heap:=h',toks:=tk}) :
  L' (UV prog w) A.in1 (Zg (.ref S) (.ref r) res) (fun aG s'=>match aG with|.done f=>R (.ok f) s'|.again c'=>c'.quiet=D'∧Wp (UV prog w) A c' R s') (fun e s'=>R (.error e) s') s:=by
 have hn:Qfr 0 n 1=n:=by rw[rangeSize_one];split<;>lia
 have oh:QfB 0 n 1=D':=by
  unfold QfB
  rw[uW (i:=0) (by decide) (by decide),uW (i:=(n:Int)) (by lia) (by lia),uW (i:=1) (by decide) (by decide),hn,uW (i:=(n:Int)) (by lia) (by lia),U3 (by decide),uW (i:=(n:Int)+(1-1)) (by lia) (by lia),UL]
  rfl
 have IZ:S≠r:=fun e=>by rw[e,hr] at hS;simp at hS
 have tH:S≠s.heap.objs.size:=Sh (Se hS)
 have oK:s.heap.objs.size∉cs:=fun z=>So _ (c.lt _ z)
 have io:S∉s.heap.objs.size::cs:=by simp[tH,r6]
 have W:=(Rb (prog:=prog) (w:=w) (A:=A.in1) hc s.heap.objs.size oK n).toS
 have key:∀ (h:Vo) (c₁ tk:Nat),Z5 h s.heap.objs.size ((0:Nat):Int) ((n:Int)-((0:Nat):Int)) 1→Vx h cs→(∀ b o,b≠S→s.heap.get? b=i' o→h.get? b=i' o) →
   h.get? S=i' {cls:=.type "list",data:=.seq #[] c₁}→Wp (UV prog w) A (.builtin "list.extend.loop" ⟨[.ref S,.ref s.heap.objs.size,res],[]⟩) R {s with heap:=h,toks:=tk}:=by
  intro h c₁ tk aJ ch hk K0
  refine codeAny_extend_loopS W (by rw[S8];lia) S io res n 0 _ #[] c₁ rfl (Th _) ⟨aJ,ch⟩ K0 (QgL _) fun s' eP c' mv iu eR=>?_
  rw[Moved.eq_with mv]
  refine hR s'.heap s'.toks eP c' (fun b o hb e=>mv.heap b o (fun z=>?_) (hk b o hb e)) iu eR
  rcases SS.mp z with e'|z
  .exact hb e'
  .exact U' (Se e) (by rw[Vn.mp z];exact So _)
 unfold Zg
 refine oG (Tp (T:="range") ⟨_,hr,O⟩ ?_)
 have h1:QbP (.ref S) (.ref r)=M':=by simp[QbP,IZ]
 have h2:(Zs "range" == Zs "list")=M':=by decide
 have h3:(Zs "range" == Zs "tuple")=M':=by decide
 simp only[h1,h2,h3,QgX,SC,Wc]
 refine oG (UJ hr oh ?_)
 refine oG (Sn (wpAny_hint_range (n:=n) (Sc _ hr) hn aq ?_))
 rw[hn]
 have uc:Z5 (s.heap.push {cls:=.type "range_iterator",data:=.fields #[Vw 0,Vw n,Vw 1]}) s.heap.objs.size ((0:Nat):Int) ((n:Int)-((0:Nat):Int)) 1:=by
  rw[show(n:Int)-((0:Nat):Int)=n by lia]
  exact Sf _ rfl
 have qj:=Sc {cls:=.type "range_iterator",data:=.fields #[Vw 0,Vw n,Vw 1]} hS
 have Dj:Vx (s.heap.push {cls:=.type "range_iterator",data:=.fields #[Vw 0,Vw n,Vw 1]}) cs:=c.mono fun b o _ e=>Sc _ e
 refine wpAny_ite_split (fun _=>?_) (fun _=>Sd ⟨Xg Qdz _,key _ c₀ _ uc Dj (fun b o _ e=>Sc _ e) qj⟩)
 refine oG (Ti ?_)
 refine oG ?_
 show L' _ _ (Yw S (·.push .none) >>= fun _=>Yw S (·.pop)) _ _ _
 refine oG (SV qj O ?_)
 have lf:=Sq (Wv (·.push VD)) qj rfl
 refine SV (hz:=by seq_fits) lf rfl ?_
 have vU:=Sq (Wv (·.pop)) lf rfl
 have eN:∀ b o,b≠S→(s.heap.push {cls:=.type "range_iterator",data:=.fields #[Vw 0,Vw n,Vw 1]}).get? b=i' o→(((s.heap.push {cls:=.type "range_iterator",data:=.fields #[Vw 0,Vw n,Vw 1]}).update S (Wv (·.push VD))).update S (Wv (·.pop))).get? b=i' o:=fun b o hb e=>
  (Sm _ _ (U5 hb)).trans ((Sm _ _ (U5 hb)).trans e)
 exact Sd ⟨Xg Qdz _,key _ _ _ (eN _ _ (U5 tH) uc) (Dj.mono fun b o hb e=>eN b o (fun z=>r6 (by rw[← z];exact hb)) e) (fun b o hb e=>eN b o hb (Sc _ e)) vU⟩
theorem Mn {Q:K'→UW→Prop} (hc:V4 A cs){r:F'}{u v:Wq} (hr:IsRange s.heap r 0 n 1 t u v) (c:Vx s.heap cs) (aq:n≤2 ^ 24)
  (hQ:∀ h' tk eP c',(∀ b o,s.heap.get? b=i' o→h'.get? b=i' o)→h'.get? s.heap.objs.size=i' {cls:=.type "list",dict:=B',data:=.seq eP c',slots:=#[]}→Qbp (fun i v=>∃ t,v=.int i t) eP n→Q (.ref s.heap.objs.size) {s with heap:=h',toks:=tk}) :
  L' (UV prog w) A (call (.type "list") [.ref r]) Q E s:=by
 refine Qcl (Q₁:=fun obj s₁=>obj=.ref s.heap.objs.size∧s₁={s with heap:=s.heap.push {cls:=.type "list",data:=.seq #[]} }) Qht (QgM _) QgN (code_list_new _ ⟨O,O⟩) fun obj s₁ h₁=>?_
 obtain⟨rfl,rfl⟩:=h₁
 have hS:(s.heap.push {cls:=.type "list",data:=.seq #[]}).get? s.heap.objs.size=i' {cls:=.type "list",data:=.seq #[]}:=Sf _ rfl
 have oK:s.heap.objs.size∉cs:=fun z=>So _ (c.lt _ z)
 refine⟨⟨_,hS,O⟩,QgE _ _,?_⟩
 refine(show L' _ A.in1.in1 (do let old ← QbT (.ref s.heap.objs.size);Qfu (.ref s.heap.objs.size) (fun _=>#[]);letGo old.toList.reverse;Zg (.ref s.heap.objs.size) (.ref r) .none) _ _ _ from oG ?_)
 unfold QbT
 refine oG (SA hS O (Sd ?_))
 refine(show L' _ A.in1.in1 (Yw s.heap.objs.size (fun _=>#[]) >>= fun _=>letGo (#[]:Array K').toList.reverse >>= fun _=>Zg (.ref s.heap.objs.size) (.ref r) .none) _ _ _ from oG (SV hS O (oG (Ta ?_))))
 have lf:=Sq (Wv (fun _=>(#[]:Array K'))) hS rfl
 have eN:∀ b o,s.heap.get? b=i' o→((s.heap.push {cls:=.type "list",data:=.seq #[]}).update s.heap.objs.size (Wv (fun _=>(#[]:Array K')))).get? b=i' o:=fun b o e=>
  (Sm _ _ (U5 (Sh (Se e)))).trans (Sc _ e)
 exact LN (A:=A.in1) hc (eN r _ hr) (c.mono fun b o _ e=>eN b o e) aq _ .none _ lf oK fun h' tk acc c' k iu eR=>⟨O,hQ h' tk acc c' (fun b o e=>k b o (Sh (Se e)) (eN b o e)) iu eR⟩
def XG (n:Nat):List V:=(VX n).map fun i=>V.int (i:Nat)
theorem LH {acc:Array K'} (h:Qbp (fun i v=>∃ t,v=X0 i t) acc n):aB (XG n) acc.toList:=by
 have gen:∀ (k m:Nat) (us:List K'),us.length=k→(∀ i u,us[i]?=i' u→∃ t,u=X0 ((m+i:Nat):Int) t)→aB ((List.range' m k).map fun i=>V.int (i:Nat)) us:=fun k=>by
  induction k with
  | zero=>
   intro m us hl _
   obtain rfl:=Qdl.mp hl
   exact .nil
  | succ k ih=>
   intro m us hl hu
   cases us with
   | nil=>cases hl
   | cons u us=>
    refine .cons ?_ (ih (m+1) us (by simpa using hl) fun i x e=>?_)
    .obtain⟨t,e⟩:=hu 0 u rfl
     exact⟨t,e⟩
    .obtain⟨t,e⟩:=hu (i+1) x (by simpa using e)
     refine⟨t,?_⟩
     rw[e,show m+(i+1)=m+1+i by lia]
 unfold XG
 rw[List.range_eq_range']
 refine gen n 0 acc.toList (by rw[T3];exact h.1) fun i u e=>?_
 rw[Qd3]
 exact h.2 i u (by rw[UA] at e;exact e)
theorem QO {a:Vh} (La:Gl X "list") (KU:X.mg "list"=B') (hg:Gl X "range") (hm:X.mg "range"=B') (ha:PA X [a] ta) (hs:Vk [a] X.env=[(M',Vg a X.env)]:=by rfl)
  (fE:Vk [.Call (.Name "range" p2) [a] [] eI] X.env=[(M',Vg (.Call (.Name "range" p2) [a] [] eI) X.env)]:=by rfl) :
  PE X (.Call (.Name "list" p) [.Call (.Name "range" p2) [a] [] eI] [] pos) (fun σ H Q=>ta σ H fun vs H1=>∃ j:Nat,vs=[.int j]∧j≤10000∧∀ r,H1 r=B'→Q (.ref r) (upd H1 r (.lst (XG j)))):=by
 intro aa s σ H Q I h
 refine SK (jr I La KU wZ ?_)
 refine Zh ?_ fE rfl
 rw[fE]
 refine ZT ?_
 refine Call_ (jr I hg hm boot_range (Zh (U6 (ha eI aa s σ H _ I h) fun us s1=>L2.Ve fun vs H1 I1 r1 q1=>?_) hs O))
 obtain⟨j,e,j1,q⟩:=q1
 subst e
 cases r1 with
 | cons r rr=>
  cases rr
  obtain⟨t,rfl⟩:=r
  refine call_range_1 (Qax ?_)
  obtain⟨cs,cE,ch⟩:=I1.hd.chain
  have hz:(s1.heap.push {cls:=.type "range",data:=.fields #[.int 0 s1.toks,.int j t,.int 1 (s1.toks+1)]}).objs.size=s1.heap.objs.size+1:=Su ..
  refine Mn (s:={s1 with heap:=s1.heap.push {cls:=.type "range",data:=.fields #[.int 0 s1.toks,.int j t,.int 1 (s1.toks+1)]},toks:=s1.toks+1+1}) cE (r:=s1.heap.objs.size) (n:=j) (Sf _ O) (ch.mono fun b o _ e=>Sc _ e) (by lia) fun h' tk acc c' k hS eR=>?_
  dsimp only at k hS
  rw[hz] at hS
  have fr:H1 (s1.heap.objs.size+1)=B':=I1.UZ.fresh (SH _)
  refine⟨.ref (s1.heap.objs.size+1),upd H1 (s1.heap.objs.size+1) (.lst (XG j)),I1.laid (t':=tk) (fun b o e=>k b o (Sc _ e)) (SH _) ⟨by unfold XG;rw[Ss,ZV,S8];lia,acc.toList,c',LH eR,by simpa using hS⟩,?_,q _ fr⟩
  show U9 _=U9 _
  rw[hz]
theorem LX {tb:TS}{D:d8} (Pv:Nat→St→Hp→Prop) (h0:Pv 0 σ H) (hf:∀ i σ H,i≤kvs.length→Pv i σ H→H d=i' (.Vf o (.dK kvs)))
  (hs:∀ i k x T σ H,kvs[i]?=i' (k,x)→H T=B'→Pv i σ H→g (.ref T) σ (upd H T (.tup [kV k,x])) fun σ2 H2=>tb {D with nx:=Pv (i+1),ct:=Pv (i+1),bk:=D.nx} σ2 H2) (hd:∀ σ H,Pv kvs.length σ H→D.nx σ H):QaR (Iti d o kvs) D g tb σ H:=
 Yh (n:=kvs.length) Pv h0 (fun i σ H hi p=>⟨fun h=>⟨hf i σ H hi p,h⟩,fun h=>⟨hf i σ H hi p,h⟩⟩) (fun i v σ H H' hi p y=>by
 obtain⟨T,k,x,rfl,hT,hx,rfl⟩:=y
 exact hs i k x T σ H hx hT p) hd
abbrev pR (h:Vo) (z TI TO T:F') (f:Bool):Prop:=h.get? z=i' {cls:=.type "zip",dict:=B',data:=.fields #[Vw T,.bool f,.bool M',.ref TI,.ref TO],slots:=#[]}
theorem Gc {TI TO:F'}{f:Bool}{oa:Vd}{Q:Bool→UW→Prop} (hz:pR s.heap z TI TO T f) (ha:s.heap.get? T=i' oa) (h:∀ h',pR h' z TI TO T D'→Yb z s.heap h'→Q M' {s with heap:=h'}) :
  L' (UV prog w) A (Qam (.ref z)) Q E s:=by
 unfold Qam
 refine oG (Sr hz O (x:=Vw T) O ?_)
 show L' _ _ (loadIfAlive ((T:Int).toNat) >>= _) _ _ _
 rw[Tc]
 refine oG (PySem.W.kdx_alive ha ?_)
 simp only[Option.isNone_some,SC,Wc]
 refine oG (Sr hz O (x:=.bool f) O ?_)
 cases f with
 | true=>
  rw[U4 (show ¬ ((XY D' != XY D')=D') from Sk)]
  exact Sd (h s.heap hz (Qmx _ _))
 | false=>
  rw[U3 (show(XY M' != XY D')=D' from rfl)]
  refine oG (TK hz (by simp) fun h₃ Js fD=>?_)
  exact Sd (h h₃ Js fD)
theorem Pq {TI TO:F'}{f:Bool}{oa:Vd}{xs:Array K'}{x:K'} (D:Yy z TI TO i1 i2 l1 l2)
  (hz:pR s.heap z TI TO T f) (ha:s.heap.get? T=i' oa) (cB:Xt s.heap TI (.ref i1) (.ref i2))
  (h1:s.heap.IsListIter i1 l1 k1) (h2:s.heap.IsListIter i2 l2 k2) (cj:s.heap.IsList l1 xs) (bD:s.heap.IsList l2 ys) (hx:xs[k1]?=i' x) (hy:ys[k2]?=i' y)
  (hQ:∀ h',pR h' z TI TO T D'→h'.IsListIter i1 l1 (k1+1)→h'.IsListIter i2 l2 (k2+1)→Xt h' s.heap.objs.size x y →
   (∀ c o,c≠z→c≠i1→c≠i2→s.heap.get? c=i' o→h'.get? c=i' o)→Q (i' (.ref s.heap.objs.size)) {s with heap:=h'}) :
  L' (UV prog w) A (VB (.ref z)) Q E s:=by
 have hT:s.TypeIs (.ref z) "zip":=⟨_,hz,O⟩
 unfold VB
 refine oG (SQ (Sx (name:=Vb "__next__") hT QaG (SL QaG hT QdP ?_ (QdI _))))
 refine(show L' _ _ (WC (.ref z) 2 >>= _) _ _ _ from oG (Sr hz O (x:=.bool M') O ?_))
 refine(show L' _ _ (WC (.ref z) 3 >>= _) _ _ _ from oG (Sr hz O (x:=.ref TI) O (oG (SA cB O ?_))))
 refine(show L' _ _ (Qam (.ref z) >>= _) _ _ _ from oG (Gc hz ha fun h₁ nZ bC=>?_))
 simp only[SC,Wc,UM,Tv,T9]
 refine oG (oG (oG (Sn ?_)))
 refine(show L' _ _ (Ys (.ref i1) >>= _) _ _ _ from oG (Tz (h1.extBut bC.extBut D.i1z) (cj.extBut bC.extBut D.l1z) hx fun h₂ zY dA=>Sd (Sd ?_)))
 refine oG (oG (Sn ?_))
 refine(show L' _ _ (Ys (.ref i2) >>= _) _ _ _ from oG (Tz ((h2.extBut bC.extBut D.i2z).extBut dA.extBut D.i12.symm) ((bD.extBut bC.extBut D.l2z).extBut dA.extBut D.l2i1) hy fun h₃ Ih fD=>Sd (Sd (Sd ?_))))
 refine(show L' _ _ (newTuple [x,y] >>= _) _ _ _ from oG (wpAny_newTuple ?_))
 have hsz:h₃.objs.size=s.heap.objs.size:=by rw[fD.1,dA.1,bC.1]
 have up:∀ c o,c≠z→c≠i1→c≠i2→s.heap.get? c=i' o→(h₃.push {cls:=.type "tuple",data:=.seq #[x,y]}).get? c=i' o:=fun c o c1 c2 c3 e=>
  Sc _ (fD.extBut _ _ c3 (dA.extBut _ _ c2 (bC.extBut _ _ c1 e)))
 have Ks:pR (h₃.push {cls:=.type "tuple",data:=.seq #[x,y]}) z TI TO T D':=Sc _ (fD.extBut _ _ D.i2z.symm (dA.extBut _ _ D.i1z.symm nZ))
 have Ck:Xt (h₃.push {cls:=.type "tuple",data:=.seq #[x,y]}) h₃.objs.size x y:=Sf _ rfl
 have K3:(h₃.push {cls:=.type "tuple",data:=.seq #[x,y]}).IsListIter i1 l1 (k1+1):=zY.at fun o e=>Sc _ (fD.extBut _ _ D.i12 e)
 have Ix:(h₃.push {cls:=.type "tuple",data:=.seq #[x,y]}).IsListIter i2 l2 (k2+1):=Ih.at fun o e=>Sc _ e
 rw[hsz] at Ck
 refine Sd ⟨_,O,Sd ?_⟩
 have aG:=hQ _ Ks K3 Ix Ck up
 rw[← hsz] at aG
 exact aG
theorem MJ {TI TO:F'}{f:Bool}{oa:Vd}{xs:Array K'} (hc:V4 A cs) (c:Vx s.heap cs) (nz:z∉cs) (n1:i1∉cs) (D:Yy z TI TO i1 i2 l1 l2)
  (hz:pR s.heap z TI TO T f) (ha:s.heap.get? T=i' oa) (cB:Xt s.heap TI (.ref i1) (.ref i2))
  (h1:s.heap.IsListIter i1 l1 k1) (h2:s.heap.IsListIter i2 l2 k2) (cj:s.heap.IsList l1 xs) (bD:s.heap.IsList l2 ys) (iK:xs[k1]?=B'∨ys[k2]?=B')
  (hQ:∀ h',(∀ c o,c≠z→c≠i1→c≠i2→s.heap.get? c=i' o→h'.get? c=i' o)→Q B' {s with heap:=h'}):L' (UV prog w) A (VB (.ref z)) Q E s:=by
 have hT:s.TypeIs (.ref z) "zip":=⟨_,hz,O⟩
 have aG:∀ h' e,(∀ c o,c≠z→c≠i1→c≠i2→s.heap.get? c=i' o→h'.get? c=i' o)→(∃ o,h'.get? e=i' o∧o.cls=.type "StopIteration") →
   L' (UV prog w) A (do if ← Zt (.ref e) (.type "StopIteration") then pure B' else throw (.ref e)) Q E {s with heap:=h'}:=fun h' e k ⟨o,ho,lq⟩=>
  oG (SW (T:="StopIteration") (b:=D') ⟨o,ho,lq⟩ Yv (Sd (hQ _ k)))
 unfold VB
 refine oG (SQ (Sx (name:=Vb "__next__") hT QaG (SL QaG hT QdP ?_ (QdI _))))
 refine(show L' _ _ (WC (.ref z) 2 >>= _) _ _ _ from oG (Sr hz O (x:=.bool M') O ?_))
 refine(show L' _ _ (WC (.ref z) 3 >>= _) _ _ _ from oG (Sr hz O (x:=.ref TI) O (oG (SA cB O ?_))))
 refine(show L' _ _ (Qam (.ref z) >>= _) _ _ _ from oG (Gc hz ha fun h₁ nZ bC=>?_))
 have c₁:Vx h₁ cs:=c.but nz bC.extBut
 simp only[SC,Wc,UM,Tv,T9]
 refine oG (oG (oG (Sn ?_)))
 cases hx:xs[k1]? with
 | none=>
  exact(show L' _ _ (Ys (.ref i1) >>= _) _ _ _ from oG (uH (A:=A.in1) (V4.hd (A:=A.in1) hc c₁) (h1.extBut bC.extBut D.i1z) (cj.extBut bC.extBut D.l1z) hx fun h₂ e dA he=>
   aG h₂ e (fun c o c1 c3 _ x=>dA _ _ c3 (bC.extBut _ _ c1 x)) he))
 | some x=>
  have hy:ys[k2]?=B':=by rcases iK with h|h;rw[hx] at h;cases h;exact h
  refine(show L' _ _ (Ys (.ref i1) >>= _) _ _ _ from oG (Tz (h1.extBut bC.extBut D.i1z) (cj.extBut bC.extBut D.l1z) hx fun h₂ zY dA=>Sd (Sd ?_)))
  refine oG (oG (Sn ?_))
  have c₂:Vx h₂ cs:=c₁.but n1 dA.extBut
  exact(show L' _ _ (Ys (.ref i2) >>= _) _ _ _ from oG (uH (A:=A.in1) (V4.hd (A:=A.in1) hc c₂) ((h2.extBut bC.extBut D.i2z).extBut dA.extBut D.i12.symm) ((bD.extBut bC.extBut D.l2z).extBut dA.extBut D.l2i1) hy fun h₃ e fD he=>
   aG h₃ e (fun c o c1 c2 c3 x=>fD _ _ c3 (dA.extBut _ _ c2 (bC.extBut _ _ c1 x))) he))
def ZS (h:Vo) (z TI TO i1 i2 l1 l2 d:F') (xs ys:Array K') (i:Nat):Prop:=
 (YB h z TI TO .none∨∃ T f oa,pR h z TI TO T f∧h.get? T=i' oa∧T≠z∧T≠i1∧T≠i2∧T≠d)∧Xt h TI (.ref i1) (.ref i2)∧(∃ a b,Xt h TO a b)∧h.IsListIter i1 l1 i∧h.IsListIter i2 l2 i∧h.IsList l1 xs∧h.IsList l2 ys
theorem NC {TI TO:F'}{xs:Array K'}{x:K'} (D:Yy z TI TO i1 i2 l1 l2) (dl:d<s.heap.objs.size) (st:ZS s.heap z TI TO i1 i2 l1 l2 d xs ys i) (hx:xs[i]?=i' x) (hy:ys[i]?=i' y)
  (hQ:∀ h',ZS h' z TI TO i1 i2 l1 l2 d xs ys (i+1)→Xt h' s.heap.objs.size x y→(∀ c o,c≠z→c≠TO→c≠i1→c≠i2→s.heap.get? c=i' o→h'.get? c=i' o)→Q (i' (.ref s.heap.objs.size)) {s with heap:=h'}) :
  L' (UV prog w) A (VB (.ref z)) Q E s:=by
 obtain⟨zs,cB,⟨a,b,ee⟩,h1,h2,cj,bD⟩:=st
 have lt:∀ {c o},s.heap.get? c=i' o→s.heap.objs.size≠c:=fun e=>SX (Se e)
 have n1:s.heap.objs.size≠i1:=by obtain⟨_,e,_⟩:=h1;exact lt e
 have n2:s.heap.objs.size≠i2:=by obtain⟨_,e,_⟩:=h2;exact lt e
 rcases zs with hz|⟨T,f,oa,hz,ha,t1,t2,t3,t4⟩
 .refine UB D hz cB ee h1 h2 cj bD hx hy fun h' a1 a2 a3 a4 a5 a6 hk=>?_
  exact hQ h' ⟨.inr ⟨s.heap.objs.size,M',_,a1,a5,lt hz,n1,n2,SX dl⟩,hk _ _ D.TIz D.TITO D.TIi1 D.TIi2 cB,⟨_,_,a2⟩,a3,a4,cj.at fun o e=>hk _ o D.l1z D.l1TO D.l1i1 D.l1i2 e,bD.at fun o e=>hk _ o D.l2z D.l2TO D.l2i1 D.l2i2 e⟩ a5 hk
 .refine Pq D hz ha cB h1 h2 cj bD hx hy fun h' a1 a3 a4 a5 hk=>?_
  exact hQ h' ⟨.inr ⟨T,D',oa,a1,hk _ _ t1 t2 t3 ha,t1,t2,t3,t4⟩,hk _ _ D.TIz D.TIi1 D.TIi2 cB,⟨_,_,hk _ _ D.TOz D.TOi1 D.TOi2 ee⟩,a3,a4,cj.at fun o e=>hk _ o D.l1z D.l1i1 D.l1i2 e,bD.at fun o e=>hk _ o D.l2z D.l2i1 D.l2i2 e⟩ a5
   fun c o c1 _ c3 c4 e=>hk c o c1 c3 c4 e
theorem Qjt {TI TO:F'}{xs:Array K'} (hc:V4 A cs) (c:Vx s.heap cs) (nz:z∉cs) (nT:TO∉cs) (n1:i1∉cs) (n2:i2∉cs) (D:Yy z TI TO i1 i2 l1 l2) (st:ZS s.heap z TI TO i1 i2 l1 l2 d xs ys i) (iK:xs[i]?=B'∨ys[i]?=B')
  (hQ:∀ h',(∀ c o,c≠z→c≠TO→c≠i1→c≠i2→s.heap.get? c=i' o→h'.get? c=i' o)→Q B' {s with heap:=h'}):L' (UV prog w) A (VB (.ref z)) Q E s:=by
 obtain⟨zs,cB,⟨a,b,ee⟩,h1,h2,cj,bD⟩:=st
 rcases zs with hz|⟨T,f,oa,hz,ha,t1,t2,t3,t4⟩
 .exact ED hc c nz nT n1 n2 D hz cB ee h1 h2 cj bD iK hQ
 .exact MJ hc c nz n1 D hz ha cB h1 h2 cj bD iK fun h' hk=>hQ h' fun c o c1 _ c3 c4 e=>hk c o c1 c3 c4 e
structure Av (z TI TO i1 i2 l1 l2 d:F'):Prop where
 z:z≠d
 TI:TI≠d
 TO:TO≠d
 i1:i1≠d
 i2:i2≠d
 l1:l1≠d
 l2:l2≠d
theorem ZS.but {TI TO:F'}{xs:Array K'} (N:Av z TI TO i1 i2 l1 l2 d) (st:ZS h z TI TO i1 i2 l1 l2 d xs ys i) (hk:∀ c o,c≠d→h.get? c=i' o→h'.get? c=i' o):ZS h' z TI TO i1 i2 l1 l2 d xs ys i:=by
 obtain⟨zs,cB,⟨a,b,ee⟩,h1,h2,cj,bD⟩:=st
 refine⟨?_,hk _ _ N.TI cB,⟨a,b,hk _ _ N.TO ee⟩,h1.at fun o e=>hk _ o N.i1 e,h2.at fun o e=>hk _ o N.i2 e,cj.at fun o e=>hk _ o N.l1 e,bD.at fun o e=>hk _ o N.l2 e⟩
 rcases zs with hz|⟨T,f,oa,hz,ha,t1,t2,t3,t4⟩
 .exact .inl (hk _ _ N.z hz)
 .exact .inr ⟨T,f,oa,hk _ _ N.z hz,hk _ _ t4 ha,t1,t2,t3,t4⟩
section
variable {κ:Type} [DecidableEq κ] {knd:KeyKind prog w κ}
theorem Re {TI TO:F'}{xs:Array K'} (D:Yy z TI TO i1 i2 l1 l2) (N:Av z TI TO i1 i2 l1 l2 d) (hc:V4 A cs) (nz:z∉cs) (nT:TO∉cs) (n1:i1∉cs) (n2:i2∉cs) (nd:d∉cs) (aq:xs.size≤ys.size) (hn:xs.size≤1000)
  (ks:Nat→κ) (vs:Nat→K') (kvs:Nat→List (κ×K')) (res:K') (gF:∀ i x y,xs[i]?=i' x→ys[i]?=i' y→knd.is (ks i) x=D'∧y=vs i)
  (hs:∀ i,kvs (i+1)=Ye (kvs i) (ks i) (vs i)) (hl:∀ i,(kvs i).length≤i) (s0:UW) :
  ∀ (k i:Nat) (h:Vo) (tk:Nat),xs.size-i=k→i≤xs.size→ZS h z TI TO i1 i2 l1 l2 d xs ys i→Vx h cs→h.DictOf knd d (kvs i)→(∀ b o,b≠d→b≠z→b≠TO→b≠i1→b≠i2→s0.heap.get? b=i' o→h.get? b=i' o) →
   (∀ h' iC,(∀ b o,b≠d→b≠z→b≠TO→b≠i1→b≠i2→s0.heap.get? b=i' o→h'.get? b=i' o)→h'.DictOf knd d (kvs xs.size)→R (.ok (.ret res)) {s0 with heap:=h',toks:=iC}) →
   Wp (UV prog w) A (.builtin "dict.update.loop" ⟨[.ref d,.ref z,.int i 0,res],[]⟩) R {s0 with heap:=h,toks:=tk}:=by
 intro k
 induction k with
 | zero=>
  intro i h tk hk hi st ch hD keep hR
  have eO:i=xs.size:=by lia
  subst eO
  refine XS xh ?_
  rw[X' mQ _]
  show L' _ A.in1 (VB (.ref z) >>= _) _ _ _
  refine oG (Qjt (A:=A.in1) (s:={s0 with heap:=h,toks:=tk}) hc ch nz nT n1 n2 D st (.inl (by simp)) fun h' dP=>?_)
  show L' _ A.in1 (pure () >>= fun _=>ret res) _ _ _
  refine oG (Sd (Sd (hR h' tk (fun b o b0 b1 b2 b3 b4 e=>dP b o b1 b2 b3 b4 (keep b o b0 b1 b2 b3 b4 e)) ?_)))
  obtain⟨o,es,ep,ho,aW⟩:=hD
  exact⟨o,es,ep,dP _ _ (U5 N.z) (U5 N.TO) (U5 N.i1) (U5 N.i2) ho,aW⟩
 | succ k ih=>
  intro i h tk hk hi st ch hD keep hR
  have bq:i<xs.size:=by lia
  refine XS xh ?_
  rw[X' mQ _]
  show L' _ A.in1 (VB (.ref z) >>= _) _ _ _
  have dl:d<h.objs.size:=by
   obtain⟨o,es,ep,ho,aW⟩:=hD
   exact Se ho
  have hx:xs[i]?=i' xs[i]:=Ui bq
  have hy:ys[i]?=i' (ys[i]'(by lia)):=Ui (by lia)
  obtain⟨cr,hv⟩:=gF i _ _ hx hy
  refine oG (NC (A:=A.in1) (s:={s0 with heap:=h,toks:=tk}) D dl st hx hy fun h' ic hP dP=>?_)
  rw[hv] at hP
  generalize xs[i]=key at cr hP hx
  have tn:∀ b o,h.get? b=i' o→b≠h.objs.size:=fun b o e=>Sh (Se e)
  have yP:h'.DictOf knd d (kvs i):=by
   obtain⟨o,es,ep,ho,aW⟩:=hD
   exact⟨o,es,ep,dP _ _ (U5 N.z) (U5 N.TO) (U5 N.i1) (U5 N.i2) ho,aW⟩
  have hT:Qcf {s0 with heap:=h',toks:=tk} (.ref h.objs.size) "tuple":=⟨_,hP,O⟩
  have mE:Vx h' cs:=ch.mono fun b o hb e=>dP b o (fun q=>nz (q ▸ hb)) (fun q=>nT (q ▸ hb)) (fun q=>n1 (q ▸ hb)) (fun q=>n2 (q ▸ hb)) e
  dsimp only
  refine oG (Sn (oG (SU ?_)))
  unfold Qfv
  refine oG (Tp hT ?_)
  rw[U3 (by decide)]
  refine oG (SA hP O (Sd ?_))
  show L' _ _ (WX [key,vs i] (dictSet d key (vs i))) _ _ _
  refine Sn (UH (knd:=knd) (s:={s0 with heap:=h',toks:=tk}) cr yP (fun eh tO n9=>?_) (by rw[S8];have:=hl i;lia))
  have e1:kvs (i+1)=Ye (kvs i) (ks i) (vs i):=hs i
  rw[← e1] at tO
  have kb:∀ c o,c≠d→h'.get? c=i' o→eh.get? c=i' o:=fun c o gu e=>by rw[n9.2 c gu];exact e
  exact Sd ⟨Xg mQ _,ih (i+1) eh _ (by lia) bq (ic.but N kb) (mE.mono fun b o hb e=>kb b o (fun q=>nd (q ▸ hb)) e) tO (fun b o b0 b1 b2 b3 b4 e=>kb b o b0 (dP b o b1 b2 b3 b4 (keep b o b0 b1 b2 b3 b4 e))) hR⟩
end
theorem Pu:Yc (.type "zip") "keys"=pure B':=Qci (by kernel_rfl)
theorem QX:Qcy table "zip.__getattribute__"=i' XF.«object.__getattribute__»:=QhB (id':="object.__getattribute__") (by kernel_rfl) (by first|rfl|decide +kernel) (by decide +kernel) (by kernel_rfl)
theorem Oa {TI TO:F'}{tk:Wq}{Q:Fin→UW→Prop} (hd:Hd A s.heap) (ho:YB s.heap z TI TO .none)
  (h:∀ h' tk e,(∀ b ob,s.heap.get? b=i' ob→h'.get? b=i' ob)→(∃ o',h'.get? e=i' o'∧o'.cls=.type "AttributeError")→E (.ref e) {s with heap:=h',toks:=tk}) :
  L' (UV prog w) A (XF.«object.__getattribute__» ⟨[.ref z,.str "keys" tk],[]⟩) Q E s:=by
 have hT:s.TypeIs (.ref z) "zip":=⟨_,ho,O⟩
 have f4:=Pu
 unfold XF.«object.__getattribute__»
 obtain⟨hp,g,d,iC,os⟩:=s
 repeat (any_goals (first|assumption|wp_step))
 exact FS hd h (attrMsg_fits (by decide +kernel) (by size_fits))
theorem LD {TI TO:F'} (hd:Hd A s.heap) (ho:YB s.heap z TI TO .none)
  (h:∀ h' tk,(∀ b ob,s.heap.get? b=i' ob→h'.get? b=i' ob)→Q B' {s with heap:=h',toks:=tk}) :
  L' (UV prog w) A (QaK (.ref z) "keys") Q E s:=by
 unfold QaK Qef
 obtain⟨hp,g,d,iC,os⟩:=s
 have hT:(⟨hp,g,d,iC+1,os⟩:UW).TypeIs (.ref z) "zip":=⟨_,ho,O⟩
 have f1:=QdF
 have f2:=QbX.lookup
 have f3:=QbX.bind (.ref z)
 have f5:Yc (.type "zip") "__getattr__"=pure B':=Qci (by kernel_rfl)
 unfold Qcw
 repeat (any_goals (first|assumption|wp_step))
 refine Qar QbX.plain QX (QbX.check _ _ _ _ _ _ _ _ hT (F.args_zip_getattribute_2 _ _) (Oa (s:=⟨hp,g,d,iC+1,os⟩) hd ho fun h' lB e k' ⟨o',e1,e2⟩=>?_))
 dsimp only
 show L' _ _ (Qb5 _ _ _ _ _ _ _) _ _ _
 unfold Qb5
 have hE:(⟨h',g,d,lB,os⟩:UW).TypeIs (.ref e) "AttributeError":=⟨_,e1,e2⟩
 repeat (any_goals (first|assumption|wp_step))
 exact h h' lB k'
section
variable {κ:Type} [DecidableEq κ] {knd:KeyKind prog w κ}
theorem Lx {TI TO:F'}{xs:Array K'}{a b:K'}{Q:K'→UW→Prop} (hc:V4 A cs) (ch:Vx s.heap cs) (nz:z∉cs) (nT:TO∉cs) (n1:i1∉cs) (n2:i2∉cs) (D:Yy z TI TO i1 i2 l1 l2)
  (hz:YB s.heap z TI TO .none) (cB:Xt s.heap TI (.ref i1) (.ref i2)) (ee:Xt s.heap TO a b) (h1:s.heap.IsListIter i1 l1 0) (h2:s.heap.IsListIter i2 l2 0) (cj:s.heap.IsList l1 xs) (bD:s.heap.IsList l2 ys) (aq:xs.size≤ys.size) (hn:xs.size≤1000)
  (ks:Nat→κ) (vs:Nat→K') (kvs:Nat→List (κ×K')) (h0:kvs 0=[]) (hs:∀ i,kvs (i+1)=Ye (kvs i) (ks i) (vs i)) (hl:∀ i,(kvs i).length≤i)
  (gF:∀ i x y,xs[i]?=i' x→ys[i]?=i' y→knd.is (ks i) x=D'∧y=vs i)
  (h:∀ h' tk,h'.DictOf knd s.heap.objs.size (kvs xs.size)→(∀ b o,b≠z→b≠TO→b≠i1→b≠i2→s.heap.get? b=i' o→h'.get? b=i' o)→Q (.ref s.heap.objs.size) {s with heap:=h',toks:=tk}) :
  L' (UV prog w) A (call (.type "dict") [.ref z]) Q E s:=by
 refine Qcl (Q₁:=fun obj s₁=>obj=.ref s.heap.objs.size∧s₁={s with heap:=s.heap.push {cls:=.type "dict",data:=.dict #[]} }) QgU (Qgt _) QgO (Qhg _ ⟨O,O⟩) ?_
 rintro obj s₁ ⟨rfl,rfl⟩
 have cQ:(s.heap.push {cls:=.type "dict",data:=.dict #[]}).DictOf knd s.heap.objs.size []:=Qdx s.heap
 have keep:∀ b o,s.heap.get? b=i' o→(s.heap.push {cls:=.type "dict",data:=.dict #[]}).get? b=i' o:=fun b o e=>Sc _ e
 have lt:∀ b∈cs,b<s.heap.objs.size:=ch.lt
 have gl:∀ {b o},s.heap.get? b=i' o→b≠s.heap.objs.size:=fun e=>Sh (Se e)
 have N:Av z TI TO i1 i2 l1 l2 s.heap.objs.size:=⟨gl hz,gl cB,gl ee,by obtain⟨_,e,_⟩:=h1;exact gl e,by obtain⟨_,e,_⟩:=h2;exact gl e,by obtain⟨_,e,_⟩:=cj;exact gl e,by obtain⟨_,e,_⟩:=bD;exact gl e⟩
 generalize s.heap.push {cls:=.type "dict",data:=.dict #[]}=hp at cQ keep ⊢
 have mE:Vx hp cs:=ch.mono fun b o _ e=>keep b o e
 have mM:YB hp z TI TO .none:=keep _ _ hz
 refine⟨cQ.typeIs,QgF _ _,?_⟩
 unfold XF.«dict.__init__»
 refine oG ?_
 unfold Qfs
 refine oG (UD cQ.typeIs ?_)
 show L' _ _ (pure (s.heap.objs.size,[U9 z])) _ _ _
 refine Sd ?_
 show L' _ _ (QbQ "dict.__init__" s.heap.objs.size (.ref z) [] .none) _ _ _
 unfold QbQ
 have hT:Qcf {s with heap:=hp} (.ref z) "zip":=⟨_,mM,O⟩
 refine oG (Tp hT ?_)
 rw[U3 (by decide)]
 refine oG ?_
 refine LD (s:={s with heap:=hp}) (V4.hd (A:=A.in1.in1) hc mE) mM fun fk lB k2=>?_
 have all2:∀ b o,s.heap.get? b=i' o→fk.get? b=i' o:=fun b o e=>k2 b o (keep b o e)
 have xE:Vx fk cs:=mE.mono fun b o _ e=>k2 b o e
 rw[U3 (show(B':Option K').isNone=D' from rfl)]
 refine oG (Ti ?_)
 refine oG (Um (s:={s with heap:=fk,toks:=lB}) (all2 _ _ hz) ?_)
 have dI:fk.DictOf knd s.heap.objs.size (kvs 0):=by
  rw[h0]
  obtain⟨o,es,ep,hg,aW⟩:=cQ
  exact⟨o,es,ep,k2 _ _ hg,aW⟩
 have st:ZS fk z TI TO i1 i2 l1 l2 s.heap.objs.size xs ys 0:=⟨.inl (all2 _ _ hz),all2 _ _ cB,⟨_,_,all2 _ _ ee⟩,h1.at fun o e=>all2 _ o e,h2.at fun o e=>all2 _ o e,cj.at fun o e=>all2 _ o e,bD.at fun o e=>all2 _ o e⟩
 refine Sd ⟨Xg mQ _,Re (knd:=knd) (A:=A.in1) D N hc nz nT n1 n2 (fun q=>So _ (lt _ q)) aq hn ks vs kvs .none gF hs hl s xs.size 0 fk lB O (Th _) st xE dI (fun b o b0 _ _ _ _ e=>all2 b o e) fun h' iC hk hD=>?_⟩
 exact⟨O,h h' iC hD fun b o c1 c2 c3 c4 e=>hk b o (gl e) c1 c2 c3 c4 e⟩
end
theorem NV {a b:Vh} (hg:Gl X "dict") (hm:X.mg "dict"=B') (zJ:Gl X "zip") (JM:X.mg "zip"=B') (ha:PA X [a,b] ta) (hs:Vk [a,b] X.env=[(M',Vg a X.env),(M',Vg b X.env)]:=by rfl) (fE:Vk [b] X.env=[(M',Vg b X.env)]:=by rfl)
  (he:Vk [.Call (.Name "zip" p2) [a,b] [] eI] X.env=(M',Vg (.Call (.Name "zip" p2) [a,b] [] eI) X.env)::Vk [] X.env:=by rfl) (ck:(VP pos (Vk [] X.env)).any (·.1)=M':=by rfl) :
  PE X (.Call (.Name "dict" p) [.Call (.Name "zip" p2) [a,b] [] eI] [] pos) (fun σ H Q=>ta σ H fun vs H1=>∃ l1 l2,∃ ns:List Key,∃ ms:List V,vs=[.ref l1,.ref l2]∧P' X.K H1 l1 (ns.map kV)∧P' X.K H1 l2 ms∧ns.length≤ms.length∧ns.length≤1000∧∀ d,H1 d=B'→Q (.ref d) (upd H1 d (.dK (W' (ns.zip ms))))):=by
 intro aa s σ H Q I h
 refine SK (jr I hg hm Fb ?_)
 refine Zh ?_ he ck
 rw[he]
 show L' _ _ (spliced ((M',Vg _ X.env)::VP pos (Vk [] X.env))) _ _ s
 refine ZT ?_
 refine Call_ (jr I zJ JM boot_zip (Zh (U6 (ha eI aa s σ H _ I h) fun us s1=>L2.Ve fun vs H1 I1 r1 aQ=>?_) (by rw[hs,fE]) (by rw[fE];rfl)))
 obtain⟨l1,l2,ns,ms,e,q1,q2,aq,rS,q⟩:=aQ
 subst e
 obtain⟨u,u',rfl,ru,tJ⟩:=pG r1
 obtain rfl:u=U9 l1:=ru
 obtain rfl:u'=U9 l2:=tJ
 obtain⟨ag,rv,pl,_⟩:=I1.list q1
 obtain⟨its',cU,ka,_⟩:=I1.list q2
 refine call_zip_2 pl.isList ka.isList fun h' b1 b2 b3 b4 b5 b6 hk=>?_
 refine Qax ?_
 have I2:Inv X aa σ H1 {s1 with heap:=h'}:=I1.kept (t':=s1.toks) hk
 obtain⟨cs,cE,ch⟩:=I1.hd.chain
 have lt:∀ b∈cs,b<s1.heap.objs.size:=ch.lt
 have iS:l1<s1.heap.objs.size:=by obtain⟨o,e,_⟩:=pl.isList;exact Se e
 have lI:l2<s1.heap.objs.size:=by obtain⟨o,e,_⟩:=ka.isList;exact Se e
 have nn:∀ (x y:Nat),x<y→∀ j:Nat,x≠y+j:=fun x y h j e=>by lia
 have n0:∀ (y i j:Nat),i≠j→y+i≠y+j:=fun y i j h e=>by lia
 have D:Yy (s1.heap.objs.size+4) (s1.heap.objs.size+2) (s1.heap.objs.size+3) s1.heap.objs.size (s1.heap.objs.size+1) l1 l2:=
  ⟨n0 _ 2 4 (by decide),n0 _ 3 4 (by decide),n0 _ 0 4 (by decide),n0 _ 1 4 (by decide),n0 _ 2 3 (by decide),n0 _ 2 0 (by decide),n0 _ 2 1 (by decide),n0 _ 3 0 (by decide),n0 _ 3 1 (by decide),n0 _ 0 1 (by decide),
   nn _ _ iS 4,nn _ _ iS 3,nn _ _ iS 0,nn _ _ iS 1,nn _ _ lI 4,nn _ _ lI 3,nn _ _ lI 0,nn _ _ lI 1⟩
 have nc:∀ j:Nat,s1.heap.objs.size+j∉cs:=fun j q=>U' (lt _ q) (Qcs.mpr (Sy _ _))
 have e1:=rv.length
 have e2:=cU.length
 rw[Ss] at e1
 have rP:∀ i k y,ns[i]?=i' k→its'[i]?=i' y→(ns.zip its').getD i (Va 0,.none)=(k,y):=fun i k y q1 q2=>by
  have q:(ns.zip its')[i]?=i' (k,y):=by
   rw[QbS]
   exact⟨q1,q2⟩
  rw[SR,q]
  rfl
 have hz:ag.toArray.size=ns.length:=by simp[e1]
 have zl:(ns.zip ms).length=ns.length:=by rw[QdN];lia
 refine Lx (s:={s1 with heap:=h'}) (knd:=bM X.prog X.w) cE (ch.mono fun b o _ e=>hk b o e) (nc 4) (nc 3) (nc 0) (nc 1) D b1 b2 b3 b4 b5 (pl.isList.at fun o e=>hk _ o e) (ka.isList.at fun o e=>hk _ o e) (by simp;lia) (by rw[hz];exact rS)
  (fun i=>((ns.zip its').getD i (Va 0,.none)).1) (fun i=>((ns.zip its').getD i (Va 0,.none)).2) (stN (ns.zip its')) O (fun _=>O) (BH _) (fun i x y hx hy=>?_) fun eh tk hD keep=>?_
 .have hx:ag[i]?=i' x:=by simpa using hx
  have hy:its'[i]?=i' y:=by simpa using hy
  have hi:i<ns.length:=by
   have:=(VI.mp hx).1
   lia
  have dP:ns[i]?=i' ns[i]:=SI hi
  obtain⟨u,hu,ru⟩:=rv.get (i:=i) (x:=kV ns[i]) (by rw[Td,dP];rfl)
  rw[hx] at hu
  obtain rfl:=VQ hu
  rw[rP i _ y dP hy]
  exact⟨i6 ru,O⟩
 have rel:=Bu (kvs:=ns.zip ms) (us:=ns.zip its') (fun i kv K5=>by
  obtain⟨g1,g2⟩:=QbS.mp K5
  obtain⟨u,hu,ru⟩:=cU.get g2
  rw[rP i _ u g1 hu]
  exact⟨O,ru⟩) (ns.zip ms).length (Sg _)
 rw[Uo,zl] at rel
 rw[hz] at hD
 have ne:(h'.objs.size == WO)=M':=(wT (P:=X.prog) (w:=X.w) (H:=H1) h' I2.big).2.1
 have z:(W' (ns.zip ms)).length≤U2:=by
  have:=QcR (ns.zip ms) []
  have z0:([]:List (Key×V)).length=0:=rfl
  rw[S8]
  unfold W'
  lia
 have le:s1.heap.objs.size≤h'.objs.size:=by lia
 refine⟨.ref h'.objs.size,_,I1.laid (a:=h'.objs.size) (o:=.dK (W' (ns.zip ms))) (t':=tk) (fun b o e=>?_) le ⟨z,ne,_,rel,hD⟩,O,q _ (I1.UZ.fresh le)⟩
 have bl:=Se e
 exact keep b o (Sh (Sj bl (Sy _ 4))) (Sh (Sj bl (Sy _ 3))) (Sh bl) (Sh (Sj bl (Sy _ 1))) (hk b o e)
section
variable {κ:Type} [DecidableEq κ] {knd:KeyKind prog w κ}
end
theorem aI.of {P:List C'}{sc:WY} (h:sc.kind=.function∧sc.isCoroutine=M'∧sc.isGenerator=M'∧N.Nodup∧N.take P.length=P∧(∀ x∈P,sc.names.lookup x=i' .local∨sc.names.lookup x=i' .cell)∧∀ y∈sc.names,y.2≠.free):aI N P sc:=⟨h.1,h.2.1,h.2.2.1,h.2.2.2.1,h.2.2.2.2.1,h.2.2.2.2.2.1,h.2.2.2.2.2.2⟩
section
variable {K:R'}{m:C'}{cL TP:F'}{J4:K'}{od an JT:Option F'}{KM:Array (Option K')}{kV bP aw:K'}
abbrev YJ (x qual:C') (st:Vc) (kV bP pm:K') (an:Option F') (aw ct:K'):XE:=YW x qual (pU st) (jN st) (ay st) .none kV bP pm an aw ct
theorem def_mk (X:K.In h) (G:h.Ns V6 mg) (a:Zq K V6 x=i' (i' (.ref f))) (l:K.lookup f=i' ⟨oc,od,.func (YJ x x st kV bP pm an aw ct),dH⟩) (c:Yu K aw x=D') (k:XC K (.ref f)=D')
  (b:∀ us:List K',us.length=ps.length→Z' (YJ x x st kV bP pm an aw ct) ⟨us,[]⟩=pure (ps.zip us)):Def K mg x st ps []:=⟨⟨_,_,[],qL l c,Z0 X G a,k,.all b,.nil⟩⟩
theorem met_mk (a:Wg K (.ref C) m=i' (i' (.ref f))) (i:Zr K (.ref f)=D') (l:K.lookup f=i' ⟨oc,od,.func (YJ m qual st kV bP pm an aw ct),dH⟩) (c:Yu K aw qual=D') (k:XC K (.ref f)=D')
  (b:∀ us:List K',us.length=ps.length→Z' (YJ m qual st kV bP pm an aw ct) ⟨us,[]⟩=pure (ps.zip us)):Met K C m qual st ps []:=⟨⟨f,_,[],qL l c,⟨a,i,k⟩,.all b,.nil⟩⟩
theorem ziO {CL:K'}{CM:Option F'}{D9:Array (Option K')}{D:Array K'} (a:Wg K (.ref C) m=i' (i' (.ref f))) (i:Zr K (.ref f)=D') (l:K.lookup f=i' ⟨oc,od,.func (YW m qual (pU st) (jN st) (ay st) (.ref Tt) kV bP pm an aw ct),dH⟩) (c:Yu K aw qual=D') (k:XC K (.ref f)=D') (td:K.lookup Tt=i' ⟨CL,CM,.seq D nT,D9⟩) (v:aB aH ds)
  (b:K.lookup Tt=i' ⟨CL,CM,.seq D nT,D9⟩→eB K (YW m qual (pU st) (jN st) (ay st) (.ref Tt) kV bP pm an aw ct) ps ds):Met K C m qual st ps aH:=⟨⟨f,_,ds,qL l c,⟨a,i,k⟩,b td,v⟩⟩
theorem vals1i {i:Int}:aB [.int i] [.int i t]:=.cons ⟨t,O⟩ .nil
theorem vals2i {i j:Int}{u:Wq}:aB [.int i,.int j] [.int i t,.int j u]:=.cons ⟨t,O⟩ (.cons ⟨u,O⟩ .nil)
theorem ini_mk (X:K.In h) (G:h.Ns V6 mg) (g:Zq K V6 x=i' (i' (.ref C))) (mk:QdA K C=D') (kc:XC K (.ref C)=D') (a:Wg K (.ref C) "__init__"=i' (i' (.ref f))) (i:Zr K (.ref f)=D') (l:K.lookup f=i' ⟨oc,od,.func (YJ "__init__" qual st kV bP pm an aw ct),dH⟩) (c:Yu K aw qual=D')
  (b:∀ us:List K',us.length=ps.length→Z' (YJ "__init__" qual st kV bP pm an aw ct) ⟨us,[]⟩=pure (ps.zip us)):Ini K mg C x qual st ps:=⟨⟨f,_,qL l c,⟨mk,a,i,kc⟩,Z0 X G g,.all b⟩⟩
theorem zpl (X:K.In h) (G:h.Ns V6 mg) (g:Zq K V6 x=i' (i' (.ref C))) (xa:uS K C Zc "ValueError.__new__"=D') (kc:XC K (.ref C)=D') (a:Wg K (.ref C) "__init__"=i' (i' (.ref f))) (i:Zr K (.ref f)=D') (l:K.lookup f=i' ⟨oc,od,.func (YJ "__init__" qual st kV bP pm an aw ct),dH⟩) (c:Yu K aw qual=D')
  (b:∀ us:List K',us.length=ps.length→Z' (YJ "__init__" qual st kV bP pm an aw ct) ⟨us,[]⟩=pure (ps.zip us)):rb K mg C x qual st ps:=⟨⟨f,_,qL l c,⟨xa,kc,a,i⟩,Z0 X G g,.all b⟩⟩
theorem int_mk {n:Int} (X:K.In h) (G:h.Ns V6 mg) (a:Zq K V6 x=i' (i' (.int n t))):∃ t,mg x=i' (.int n t):=⟨t,Z0 X G a⟩
theorem str_mk {n:C'} (X:K.In h) (G:h.Ns V6 mg) (a:Zq K V6 x=i' (i' (.str n t))):∃ t,mg x=i' (.str n t):=⟨t,Z0 X G a⟩
theorem lam_mk (X:K.In h) (G:h.Ns V6 mg) (a:Zq K V6 x=i' (i' (.ref f))) (l:K.lookup f=i' ⟨oc,od,.func fd,dH⟩) (lc:fd.code=.ref cL) (lk:K.lookup cL=i' ⟨J4,JT,.fields vs,KM⟩) (lt:vs[11]?=i' (.ref TP)) (lh:YS K cL TP=D') (ln:K.lookup TP=B'):Bn K mg x TP:=⟨⟨f,Z0 X G a,⟨cL,Ri l lc,lh⟩,ln⟩⟩
end
section
open PySem.SeqAt
open AutoSeq1 (wpAny_loadPart')
end
section
variable {κ:Type} [DecidableEq κ] {knd:KeyKind prog w κ}
end
theorem GJ:fi X (.type "int") (fun xs H Q=>∃ n:Int,xs=[.str (toString n)]∧0≤n∧n<10 ^ 10∧Q (.int n) H):=by
 intro aa s σ H xs us Q I r h
 obtain⟨n,rfl,h0,h1,q⟩:=h
 obtain⟨u,rfl,t,rfl⟩:=eZ r
 exact QmU h0 h1 ⟨.int n,H,I.tok _,⟨_,O⟩,q⟩
section
open PySem.Builtin
open PySem.Builtin.Str
theorem E5:∀ l:List (C'×Wq),aB ((l.map (·.1)).map V.str) (strValues l)
 | []=>.nil
 | p::l=>.cons ⟨p.2,O⟩ (E5 l)
inductive Qju (x:V) (vs:List V) (H:Hp) (Q:VK):Prop
 | mk (a b:C') (_:x=.str a) (_:vs=[.str b]) (_:(b.length == 0)=M') (_:a.length+2≤U2) (_:∀ p,H p=B'→Q (.ref p) (upd H p (.lst ((VG a b).map V.str))))
theorem BS:MtR X "str.split" Qju:=by
 intro aa s σ H x xs v us Q I rx r h
 obtain⟨a,b,rfl,rfl,hb,ha,q⟩:=h
 obtain⟨t,rfl⟩:=rx
 obtain⟨u,rfl,t',rfl⟩:=eZ r
 have aG:∀ (l:List (C'×Wq)) (k:Nat),l.map (·.1)=VG a b→EP X aa σ Q (.ref s.heap.objs.size) {s with heap:=s.heap.push {cls:=.type "list",data:=.seq (strValues l).toArray},toks:=k}:=fun l k e=>by
  refine⟨.ref _,_,I.QcL (t':=k) (E5 l) ?_,O,?_⟩
  .rw[Ss,e]
   exact SN (split_le a b) ha
  .rw[e]
   exact q _ I.fresh
 have hn:(partsBetween a (QaI a b 0 a.length (a.length+1)) b.length).length≤U2:=by
  have e1:=StrLaws.occ_length_le a b 0 a.length (a.length+1)
  rw[length_partsBetween]
  lia
 cases h1:(decide (a.length<b.length) || decide (strKind a<strKind b))
 .cases hf:(QaI a b 0 a.length (a.length+1)).isEmpty
  .refine YY QaD (Qbl _ _ _) QdH (QdB _ _) (meets_str_split_sep a b t t' h1 hb hf (by lia) hn) ?_
   show EP X aa σ Q (.ref s.heap.objs.size) {s with toks:=_,heap:=s.heap.push {cls:=.type "list",data:=.seq (strsFrom s.toks (partsBetween a (QaI a b 0 a.length (a.length+1)) b.length)).toArray} }
   rw[strsFrom_eq]
   exact aG (numbered s.toks _) _ ((numbered_texts _ _).trans ((U4 (ne_true_of_eq_false h1)).trans (U4 (ne_true_of_eq_false hf))).symm)
  .exact YY QaD (Qbl _ _ _) QdH (QdB _ _) (meets_str_split_not_found a b t t' h1 hb hf) (aG [(a,t)] s.toks ((U4 (ne_true_of_eq_false h1)).trans (U3 hf)).symm)
 .exact YY QaD (Qbl _ _ _) QdH (QdB _ _) (meets_str_split_cannot_occur a b t t' h1) (aG [(a,t)] s.toks (U3 h1).symm)
inductive Qjv (x:V) (y:V) (H:Hp) (Q:VK):Prop
 | mk (a:C') (n:Int) (_:x=.str a) (_:y=.int n) (_:MulOk a n) (_:Q (.str (Qej a n)) H)
theorem Ez:VU X (X1 .Mult) Qjv:=by
 intro aa s σ H x y v u Q I rx ry h
 obtain⟨a,n,rfl,rfl,ok,q⟩:=h
 obtain⟨t,rfl⟩:=rx
 obtain⟨t',rfl⟩:=ry
 exact SB.mul ok fun t' k=>⟨.str _,H,I.tok _,⟨_,O⟩,q⟩
def jl (c:Nat):List (List Nat)→List Nat
 | []=>[]
 | [x]=>x
 | x::y::r=>x++c::jl c (y::r)
end
inductive Qjw (Q:VK) (v:V) (H1:Hp):Prop
 | mk (x:C') (_:v=.str x) (_:x.length≤U2) (_:Q (.str x) H1)
def Qjx (t:TE):TE:=fun σ H Q=>t σ H fun v H1=>Qjw Q v H1
inductive Qjy (Q:VK) (v:V) (H1:Hp):Prop
 | mk (n:Int) (_:v=.int n) (_:n.natAbs.log2<1920) (_:Q (.str (Vb (toString n))) H1)
def Qjz (t:TE):TE:=fun σ H Q=>t σ H fun v H1=>Qjy Q v H1
theorem jk {t:TE} (h:PE X value t):PE X (.FormattedValue value (-1) B' pos) (Qjx t):=by
 intro aa s σ H Q I hh
 refine Ud (U6 (h aa s σ H _ I hh) fun v s1=>L2.Ve fun x H1 I1 r1 aQ=>?_)
 obtain⟨y,e,hy,q⟩:=aQ
 subst e
 obtain⟨tk,rfl⟩:=r1
 exact wpAny_formatField_str ⟨.str y,H1,I1,⟨_,O⟩,q⟩ ⟨.str y,H1,I1.tok _,⟨_,O⟩,q⟩ hy
theorem qR {t:TE} (h:PE X value t):PE X (.FormattedValue value (-1) B' pos) (Qjz t):=by
 intro aa s σ H Q I hh
 refine Ud (U6 (h aa s σ H _ I hh) fun v s1=>L2.Ve fun x H1 I1 r1 aQ=>?_)
 obtain⟨n,e,hn,q⟩:=aQ
 subst e
 obtain⟨tk,rfl⟩:=r1
 exact wpAny_formatField_int hn ⟨.str _,H1,I1.tok _,⟨_,O⟩,q⟩
abbrev TJ:=St→Hp→C'→(C'→Hp→Prop)→Prop
def PJ (X:Cx) (es:List Vh) (tj:TJ):Prop:=∀ aa s σ H acc Q,Inv X aa σ H s→tj σ H acc Q→Joins (UV X.prog X.w) X.A X.xe (evalEach es X.env) acc (fun qp s1=>∃ H1,Inv X aa σ H1 s1∧Q qp H1) s
def QjA:TJ:=fun _ H acc Q=>Q acc H
def QjB (t:TE) (u:TJ):TJ:=fun σ H acc Q=>t σ H fun v H1=>∃ y,v=.str y∧(acc++y).length≤U2∧u σ H1 (acc++y) Q
theorem nO:PJ X [] QjA:=fun _ _ _ H _ _ I h=>⟨H,I,h⟩
theorem bG {t:TE}{u:TJ} (h:PE X e t) (k:PJ X es u):PJ X (e::es) (QjB t u):=by
 intro aa s σ H acc Q I hh
 show L' _ _ (Vg e X.env) (fun v s₁=>∃ y t,v=.str y t∧(acc++y).length≤U2∧Joins _ _ _ (evalEach es X.env) (acc++y) _ s₁) _ s
 refine U6 (h aa s σ H _ I hh) fun v s1=>L2.Ve fun x H1 I1 r1 aQ=>?_
 obtain⟨y,e,hy,q⟩:=aQ
 subst e
 obtain⟨tk,rfl⟩:=r1
 exact⟨y,tk,O,hy,k aa s1 σ H1 _ Q I1 q⟩
theorem m4 {e1 e2:Vh}{u:TJ} (h:PJ X (e1::e2::es) u):PE X (.JoinedStr (e1::e2::es) pos) (fun σ H Q=>u σ H VT fun qp H1=>qp.length≤U2∧Q (.str qp) H1):=by
 intro aa s σ H Q I hh
 refine wpAny_JoinedStr ?_
 have j:=h aa s σ H _ _ I hh
 have mono:∀ (ps:List (W6 K')) (acc:C') (s:UW) (Q Q':C'→UW→Prop),(∀ o s,Q o s→Q' o s)→Joins (UV X.prog X.w) X.A X.xe ps acc Q s→Joins (UV X.prog X.w) X.A X.xe ps acc Q' s:=fun ps=>by
  induction ps with
  | nil=>exact fun acc s Q Q' k h=>k _ _ h
  | cons p ps ih=>exact fun acc s Q Q' k h=>SE h (fun v s1 ⟨y,t,e,hz,r⟩=>⟨y,t,e,hz,ih _ _ _ _ k r⟩) fun _ _ e=>e
 exact mono _ _ _ _ _ (fun qp s1 ⟨H1,I1,hz,q⟩=>⟨hz,.str qp,H1,I1.tok _,⟨_,O⟩,q⟩) j
def KD (prog:Vy) (w:VL) (K:R') (a:F') (kvs:List (Key×V)):Prop:=(a == WO)=M'∧∃ vs,KV kvs vs∧∃ o,K.lookup a=i' o∧o.IsDictOf (bM prog w) vs
theorem Inv.kd (I:Inv X aa σ H s) (h:KD X.prog X.w X.K a kvs):(a == WO)=M'∧∃ vs,KV kvs vs∧s.heap.DictOf (bM X.prog X.w) a vs:=by
 obtain⟨hs,vs,r,o,hk,hd⟩:=h
 exact⟨hs,vs,r,Vo.dictOf_iff.mpr ⟨o,I.Vv a o hk,hd⟩⟩
inductive QjC (prog:Vy) (w:VL) (K:R') (Q:VK) (x:V) (y:V) (H2:Hp):Prop
 | mk (a kvs k v:_) (_:x=.ref a) (_:KD prog w K a kvs) (_:y=kV k) (_:aS kvs k=i' v) (_:Q v H2)
def QjD (prog:Vy) (w:VL) (K:R') (td ty:TE):TE:=fun σ H Q=>td σ H fun x H1=>ty σ H1 fun y H2=>QjC prog w K Q x y H2
theorem Qn {o i:Vh}{td:TE} (ho:PE X o td) (hi:PE X i ty) (hs:QcN i):PE X (.Subscript o i pos) (QjD X.prog X.w X.K td ty):=by
 intro aa s σ H Q I h
 refine HP QfA.lookup hs (U6 (ho aa s σ H _ I h) fun u s1=>L2.Ve fun x H1 I1 rx q1=>U6 (hi aa s1 σ H1 _ I1 q1) fun iv s2=>L2.Ve fun y H2 I2 ry aQ=>?_)
 obtain⟨a,kvs,k,v,ex,g,ey,l,q2⟩:=aQ
 subst ex
 subst ey
 obtain rfl:u=U9 a:=rx
 obtain⟨_,vs,rel,dd⟩:=I2.kd g
 obtain⟨w',hw,dE⟩:=dW.some_of (v:=v) (o:=Y1 vs k) (by rw[← l];exact rel.val k)
 exact⟨dd.typeIs,Qhc (i6 ry) dd.mapOf hw ⟨v,H2,I2.tok _,dE,q2⟩⟩
inductive QjE (prog:Vy) (w:VL) (K:R') (Q:VK) (y:V) (x:V) (H2:Hp):Prop
 | mk (a kvs k:_) (_:x=.ref a) (_:KD prog w K a kvs) (_:y=kV k) (_:Q (.bl (!(aS kvs k).isSome)) H2)
def QjF (prog:Vy) (w:VL) (K:R') (ty td:TE):TE:=fun σ H Q=>ty σ H fun y H1=>td σ H1 fun x H2=>QjE prog w K Q y x H2
theorem LS {o i:Vh}{td:TE} (hi:PE X i ty) (ho:PE X o td):PC X .NotIn i o (QjF X.prog X.w X.K ty td):=by
 intro aa s σ H Q I h
 refine U6 (hi aa s σ H _ I h) fun iv s1=>L2.Ve fun y H1 I1 ry q1=>U6 (ho aa s1 σ H1 _ I1 q1) fun u s2=>L2.Ve fun x H2 I2 rx aQ=>?_
 obtain⟨a,kvs,k,ex,g,ey,q2⟩:=aQ
 subst ex
 subst ey
 obtain rfl:u=U9 a:=rx
 obtain⟨hd,vs,rel,dd⟩:=I2.kd g
 refine Qhy (i6 ry) hd dd.mapOf ?_
 rw[← (rel.val k).Qah]
 exact⟨.bl _,H2,I2.tok _,O,q2⟩
end L2
namespace HT
open PySem PySem.Spec PyProof.Rows
section
variable {prog:Vy}{w:VL}{A:V2}{E:K'→UW→Prop}{s:UW}
theorem zeP {t sl:F'}{items:Array K'}{vl vu:K'}{lo hi:Option Int}{Q:K'→UW→Prop} (ht:Qaf s.heap t items) (hs:s.heap.IsSliceOf sl vl vu .none) (pl:YA vl lo) (pu:YA vu hi)
  (hw:Vj items.size 0 lo=0∧Vj items.size items.size hi=items.size) (h:Q (.ref t) s):L' (UV prog w) A (Yd (.ref t) (.ref sl)) Q E s:=by
 obtain⟨os,kU,cE,eQ⟩:=id hs
 have zL:s.TypeIs (.ref sl) "slice":=⟨os,kU,cE⟩
 unfold Yd
 try with_reducible refine wpAny_holding ?_
 first|refine VO (Ww ?_)|skip
 refine VO (Qg0 ht.typeIs (by decide) ?_)
 refine VO (Qgk (name:=Vb "__getitem__") ht.typeIs ZU
  (Qhe ZU ht.typeIs QgP ?_ (QgV _ _)))
 show L' _ _ (Qfp (.ref t) >>= _) _ _ s
 refine VO (tupleItemsOf_ ht ?_)
 refine VO (Qcq zL ?_)
 rw[U3 (by decide)]
 refine VO (Ho hs pl pu ?_)
 have yQ:(((Vj items.size 0 lo:Nat):Int) == 0 && (1:Int) == 1 && (Vj items.size items.size hi-Vj items.size 0 lo) == items.size)=D':=by
  rw[hw.1,hw.2]
  simp
 show L' _ _ (if (((Vj items.size 0 lo:Nat):Int) == 0 && (1:Int) == 1 && (Vj items.size items.size hi-Vj items.size 0 lo) == items.size)=D' then _ else _) _ _ s
 rw[U3 yQ]
 first
  | exact VO (VO (Qcq ht.typeIs (Ww (VO (wpAny_rule (VO (Ww ⟨_,O,Ww h⟩)))))))
  | exact VO (VO (Qcq ht.typeIs (Ww (VO (wpAny_rule (Ww ⟨_,O,Ww h⟩))))))
end
end HT
namespace L2
variable {A:Around}{C f:Addr}{E:Value→Shared→Prop}{H:Hp}{R:RK}{X:Cx}{aH:List V}{aa:List (Addr×Obj)}{ds sub:List Value}{e:Expr}{es:List Expr}{fd:FuncData}{j:Nat}{pos:Pos}{ps sn xs:List Str}{s:Shared}{sp:Sp}{st:Stmt}{t:TA}{tc:TT}{te:TE}{w:World}{x:Str}{σ:St}
open PySem PySem.Spec PyProof.Rows
inductive QjG (K:R') (x:V) (lo:Option Int) (hi:Option Int) (H:Hp) (Q:VK):Prop
 | mk (a xs:_) (_:x=.ref a) (_:Vi K H a xs) (_:((HT.Vj xs.length 0 lo=0∧HT.Vj xs.length xs.length hi=xs.length)→Q (.ref a) H)) (_:(¬ (HT.Vj xs.length 0 lo=0∧HT.Vj xs.length xs.length hi=xs.length)→∀ p,H p=B'→Q (.ref p) (upd H p (.tup (du xs lo hi)))))
theorem PB:SlR X (QjG X.K):=by
 intro aa s σ H x v vl vu lo hi sl Q I rx hs pl pu h
 obtain⟨a,xs,rfl,hx,q1,q2⟩:=h
 by_cases hw:HT.Vj xs.length 0 lo=0∧HT.Vj xs.length xs.length hi=xs.length
 .cases rx
  obtain⟨ag,r,ht,hz⟩:=I.tuple hx
  have aq:ag.toArray.size=xs.length:=by rw[Si];exact r.length.symm
  exact⟨"tuple",_,ZU.lookup,ht.typeIs,HT.zeP ht hs pl pu (by rw[aq];exact hw) ⟨.ref a,H,I,O,q1 hw⟩⟩
 .exact Qis aa s σ H _ v vl vu lo hi sl Q I rx hs pl pu ⟨a,xs,O,hx,hw,q2 hw⟩
section
variable {st:Vh}{ts:TE}{p2:VZ}
end
theorem ki {pr:Vy}{k:C'}{t:Wq}:(bM pr w).is (U7 k) (.str k t)=D':=by
 show lO (U7 k) (.str k t)=D'
 simp[lO,QdQ]
section
variable {nm q:C'}{N:F'}{bs bm:List K'}{hdct:Bool}{ab:Bool}{col:Option Bool}{dd:Option F'}{k0 k1 k2 k3 k5:Option K'}{newId:String}
end
section
variable {np aE p1:VZ}
variable {k:Nat}
end
section
variable {prog:Vy}
end
theorem mV:PE X e (fun _ _ _=>False):=by
 intro aa s σ H Q I h
 exact h.elim
def QeN:Option V→Option C'
 | some (.str x)=>i' x
 | _=>B'
abbrev Txs:=List (Option C')
structure PStr (X:Cx) (e:Vh) (f:Txs→Option C'):Prop where
 pe:PE X e (fun σ H Q=>∃ x,f (σ.map QeN)=i' x∧Q (.str x) H)
structure PStrs (X:Cx) (es:List Vh) (f:Txs→Option (List C')):Prop where
 pa:PA X es (fun σ H Q=>∃ l,f (σ.map QeN)=i' l∧Q (l.map V.str) H)
section
variable {np aE:VZ}{k:Nat}
end
structure Wd (X:Cx) (e:Vh) (t:TE):Prop where
 h:PE X e t
structure PAb (X:Cx) (es:List Vh) (t:TA):Prop where
 h:PA X es t
structure Xx (X:Cx) (st:Vc) (t:TS):Prop where
 h:PS X st t
structure pN (X:Cx) (ss:List Vc) (t:TS):Prop where
 h:Wy X ss t
section
variable {a b:Vh}{ta tb:TE}{r:R2}
theorem pY:PAb X [] mT:=⟨ai⟩
theorem cu (h:Wd X e te) (hs:PAb X es t) (he:Vk (e::es) X.env=(M',Vg e X.env)::Vk es X.env:=by rfl):PAb X (e::es) (Qey te t):=⟨af h.h hs.h he⟩
theorem kB (h:PAb X es t):Wd X (.List es pos) (QcJ t):=⟨dC h.h⟩
theorem cP:Wd X (.Constant (.str x) j pos) (tC (.str x)):=⟨aN⟩
theorem rh {op:Qcz} (h:VU X (X1 op) r) (ha:Wd X a ta) (hb:Wd X b tb):Wd X (.BinOp a op b pos) (ZD r ta tb):=⟨aX h ha.h hb.h⟩
theorem QeO (h:ZF X r) (ha:Wd X a ta) (hb:Wd X b tb) (p:GY b):Wd X (.Subscript a b pos) (ZD r ta tb):=⟨aF h ha.h hb.h p⟩
variable {aW ss body:List Vc}{u v:TS}{c:Vh}
theorem gE (h:Xx X st u):pN X [st] u:=⟨av h.h⟩
theorem lK (h:Xx X st u) (hr:pN X aW v):pN X (st::aW) (Qep u v):=⟨ak h.h hr.h⟩
end
section
section
variable {tg c:Vh}{p2:VZ}{ss aW:List Vc}{u v:TS}
theorem A8 (h:qG es=i' xs):PAb X es (fun _ H Q=>Q (xs.map V.str) H):=⟨Hx h⟩
theorem QeP {r:V→Option Int→Option Int→Hp→VK→Prop}{lo hi:Option Vh}{tl th:TO} (hr:SlR X r) (he:Wd X e te) (hl:PO X lo tl) (hu:PO X hi th):Wd X (.Subscript e (.Slice lo hi B' p2) pos) (tSl r te tl th):=⟨m5 hr he.h hl hu⟩
theorem lT {i:Nat}{a9:VZ} (hN:X.N.Nodup) (hi:X.N[i]?=i' x) (hx:Loc X.env.scope x) (he:Wd X e te) (hs:Z8 e (i' (.Name x a9)) pos.line X.env=pure M':=by rfl) (hf:X.fn x=D'∨X.env.scope.names.lookup x=i' .local:=by first|exact .inl rfl|exact .inr rfl|assumption):Xx X (.Assign [.Name x a9] e pos) (QaQ te (bE i)):=⟨aR hN hi hx he.h hs hf⟩
theorem QjH {g:TG} (he:Wd X e te) (hg:PG X tg g) (hs:swapsWithSole [tg] e pos.line X.env=pure M':=by rfl) (hw:swappedStores [tg] e X.env=pure B':=by rfl) (h1:(XZ [tg] X.env).map (·.2)=[Yf tg X.env]:=by rfl):Xx X (.Assign [tg] e pos) (QaQ te g):=⟨F0 he.h hg hs hw h1⟩
theorem p9 (hc:PT X c tc) (ha:pN X ss u) (hb:pN X aW v):Xx X (.If c ss aW pos) (Qeq tc u v):=⟨bo hc ha.h hb.h⟩
end
variable {P:Vy}{K:R'}{mg:C'→Option K'}{base:Vo}
theorem dX.okB {qual:C'}{N:List C'}{k:Nat} (F:dX K x qual st f fd) (S:aI N ps (ay st)) (len:∀ vs H Q E,sp vs H Q E→vs.length=ps.length)
  (cq:∀ (aw:K') (A:V2) (outer:List Wh) (s:UW) (H:Hp) (vs:List V) (Q:VK) (E:XK),bj k (A.deeper (X2 qual (ay st) s.heap.objs.size f aw))→sp vs H Q E →
   ∃ t,pN (jh Vp P w K mg base N qual (ay st) f aw A outer s H E).ZA (jN st) t∧t {nx:=fun _ H'=>Q .U8 H',rt:=Q} (jU N vs) H):cg P w K mg base Vp (k+1) f fd ps sp:=
 F.ok S len fun aw A outer s H vs Q E hr h=>(cq aw A outer s H vs Q E hr h).elim fun t ⟨h,q⟩=>⟨t,h.h,q⟩
end
end L2
namespace aD
open PySem L2
def top (i:Nat):Vc:=Qmh.main.body.getD i (.Pass ⟨0,0,0,0⟩)
abbrev Eo:Vc:=dZ (top 9) 0
theorem NH:aI ["self","name"] ["self","name"] (ay Eo):=.of (by decide +kernel)
abbrev Fc:Vc:=dZ (top 11) 0
theorem M6:aI ["self","number"] ["self","number"] (ay Fc):=.of (by decide +kernel)
abbrev HL:Vc:=dZ (top 12) 0
theorem Mf:aI ["self","ring"] ["self","ring"] (ay HL):=.of (by decide +kernel)
abbrev AS:Vc:=top 15
theorem OY:aI ["wishes","places"] ["wishes","places"] (ay AS):=.of (by decide +kernel)
abbrev AU:Vc:=top 16
theorem NU:aI ["wishes"] ["wishes"] (ay AU):=.of (by decide +kernel)
abbrev HQ:Vc:=top 17
theorem wE:aI ["count","wishes","amounts","left","wish","amount"] ["count","wishes","amounts"] (ay HQ):=.of (by decide +kernel)
abbrev pE:Vc:=dZ (top 20) 0
theorem BB:aI ["self","count","wishes","number","wish"] ["self","count","wishes"] (ay pE):=.of (by decide +kernel)
abbrev Gf:Vc:=dZ (top 20) 1
theorem Qv:aI ["self","number"] ["self","number"] (ay Gf):=.of (by decide +kernel)
abbrev Fl:Vc:=dZ (top 20) 2
theorem Me:aI ["self","number","point"] ["self","number","point"] (ay Fl):=.of (by decide +kernel)
abbrev QeQ:Vc:=top 21
theorem qQ:aI ["layout","count","pushers","pushed","time"] ["layout"] (ay QeQ):=.of (by decide +kernel)
abbrev FJ:Vc:=top 22
theorem qZ:aI ["layout","pushers","pushed","number","other","lacking"] ["layout","pushers"] (ay FJ):=.of (by decide +kernel)
abbrev Fd:Vc:=top 24
theorem rg:aI ["layout","far","came_by","end","point","distance"] ["layout"] (ay Fd):=.of (by decide +kernel)
abbrev Bz:Vc:=top 25
theorem vh:aI ["layout","far","came_by","waiting","point","need"] ["layout","far","came_by"] (ay Bz):=.of (by decide +kernel)
abbrev wO:Vc:=top 26
theorem qE:aI ["layout","point","far","waiting","came_by","steps","number","slack","neighbour","distance"] ["layout","point","far","waiting","came_by"] (ay wO):=.of (by decide +kernel)
abbrev EG:Vc:=top 27
theorem wU:aI ["layout","came_by","end","steps","point"] ["layout","came_by","end"] (ay EG):=.of (by decide +kernel)
abbrev wX:Vc:=top 28
theorem pH:aI ["layout","steps","end","last","start","back","amount","number","point"] ["layout","steps","end"] (ay wX):=.of (by decide +kernel)
abbrev At:Vc:=top 29
theorem qD:aI ["count","wishes","parts","wish","old","new"] ["count","wishes"] (ay At):=.of (by decide +kernel)
abbrev Bb:Vc:=top 30
theorem xC:aI ["places","parts","least","place","part"] ["places","parts"] (ay Bb):=.of (by decide +kernel)
abbrev EE:Vc:=top 31
theorem Gg:aI ["weights","worths"] ["weights"] (ay EE):=.of (by decide +kernel)
abbrev uI:Vc:=top 32
theorem xw:aI ["count","wishes","layout","weights","worth"] ["count","wishes"] (ay uI):=.of (by decide +kernel)
abbrev Bm:Vc:=top 48
theorem Pp:aI ["name"] ["name"] (ay Bm):=.of (by decide +kernel)
abbrev EI:Vc:=top 49
theorem MW:aI ["number"] ["number"] (ay EI):=.of (by decide +kernel)
abbrev Fz:Vc:=top 50
theorem Mx:aI ["number","least","greatest"] ["number","least","greatest"] (ay Fz):=.of (by decide +kernel)
abbrev Hy:Vc:=dZ (top 51) 0
theorem QG:aI ["self"] ["self"] (ay Hy):=.of (by decide +kernel)
abbrev xA:Vc:=dZ (top 51) 1
theorem PD:aI ["self","name","half"] ["self","name","half"] (ay xA):=.of (by decide +kernel)
abbrev uQ:Vc:=dZ (top 51) 2
theorem Gb:aI ["self","one","other","span","weight","number"] ["self","one","other","span","weight"] (ay uQ):=.of (by decide +kernel)
abbrev Hv:Vc:=dZ (top 51) 6
theorem Mz:aI ["self"] ["self"] (ay Hv):=.of (by decide +kernel)
abbrev EQ:Vc:=dZ (top 51) 7
theorem Pz:aI ["self","name"] ["self","name"] (ay EQ):=.of (by decide +kernel)
abbrev Bi:Vc:=dZ (top 51) 8
theorem MY:aI ["self"] ["self"] (ay Bi):=.of (by decide +kernel)
abbrev BN:Vc:=dZ (top 51) 9
theorem PV:aI ["self"] ["self"] (ay BN):=.of (by decide +kernel)
abbrev Bh:Vc:=dZ (top 51) 10
theorem OA:aI ["self"] ["self"] (ay Bh):=.of (by decide +kernel)
abbrev Go:Vc:=dZ (top 51) 11
theorem Oi:aI ["self","name"] ["self","name"] (ay Go):=.of (by decide +kernel)
abbrev Gr:Vc:=dZ (top 51) 12
theorem OD:aI ["self","one","other"] ["self","one","other"] (ay Gr):=.of (by decide +kernel)
abbrev QeR:Vc:=top 53
theorem lN:aI ["arrows","start","end","ways","waiting","point","number","one","other","span","weight"] ["arrows","start","end"] (ay QeR):=.of (by decide +kernel)
abbrev HH:Vc:=top 54
theorem Bw:aI ["net","kept","arrow"] ["net"] (ay HH):=.of (by decide +kernel)
abbrev Bg:Vc:=top 55
theorem FN:aI ["net","kept"] ["net"] (ay Bg):=.of (by decide +kernel)
abbrev Bt:Vc:=top 70
theorem iz:aI ["net","numbers","turned_about","wishes","number","one","other","span","weight"] ["net"] (ay Bt):=.of (by decide +kernel)
abbrev AW:Vc:=top 71
theorem Nb:aI ["net","levels"] ["net","levels"] (ay AW):=.of (by decide +kernel)
abbrev Hj:Vc:=top 73
theorem M4:aI ["net","levels"] ["net","levels"] (ay Hj):=.of (by decide +kernel)
abbrev FY:Vc:=top 74
theorem BI:aI ["net","points","answer"] ["net"] (ay FY):=.of (by decide +kernel)
abbrev A3:Vc:=top 110
theorem Nz:aI ["word"] ["word"] (ay A3):=.of (by decide +kernel)
abbrev xm:Vc:=top 111
theorem Fh:aI ["words","needed","left_out","missing"] ["words","needed","left_out"] (ay xm):=.of (by decide +kernel)
abbrev GO:Vc:=top 112
theorem rE:aI ["net","line","words","kind","form","names","numbers"] ["net","line"] (ay GO):=.of (by decide +kernel)
abbrev GA:Vc:=top 113
theorem MS:aI ["name","half"] ["name","half"] (ay GA):=.of (by decide +kernel)
abbrev FH:Vc:=top 114
theorem MZ:aI ["one","other","span","weight"] ["one","other","span","weight"] (ay FH):=.of (by decide +kernel)
abbrev qY:Vc:=top 115
theorem Gu:aI ["net","lines"] ["net"] (ay qY):=.of (by decide +kernel)
abbrev BK:Vc:=top 120
theorem MK:aI ["numbers"] ["numbers"] (ay BK):=.of (by decide +kernel)
variable {i:Nat}
abbrev Fw:Vc:=top 121
theorem Fx:aI ["net","line","number"] ["net","line"] (ay Fw):=.of (by decide +kernel)
abbrev AZ:Vc:=top 122
theorem FE:aI ["net","levels","parts"] ["net","levels"] (ay AZ):=.of (by decide +kernel)
abbrev Hr:Vc:=dZ (top 127) 0
theorem NW:aI ["self"] ["self"] (ay Hr):=.of (by decide +kernel)
abbrev Gj:Vc:=dZ (top 127) 1
theorem FF:aI ["self","line","words"] ["self","line"] (ay Gj):=.of (by decide +kernel)
abbrev FB:Vc:=dZ (top 127) 2
theorem Ex:aI ["self","word","answer"] ["self","word"] (ay FB):=.of (by decide +kernel)
abbrev FD:Vc:=dZ (top 127) 3
theorem HR:aI ["self","word","written","number"] ["self","word","written"] (ay FD):=.of (by decide +kernel)
abbrev E7:Vc:=dZ (top 127) 4
theorem Mr:aI ["self","answer"] ["self","answer"] (ay E7):=.of (by decide +kernel)
abbrev HC:Vc:=top 129
theorem ON:aI ["_law_script","_law_k"] ["_law_script","_law_k"] (ay HC):=.of (by decide +kernel)
abbrev GU:Vc:=top 130
theorem qO:aI ["_law_cell","_law_many","_law_found","_law_number","_law_k"] ["_law_cell","_law_many"] (ay GU):=.of (by decide +kernel)
abbrev ER:Vc:=top 131
theorem AN:aI ["_law_desk","_law_text","e","_law_other"] ["_law_desk","_law_text"] (ay ER):=.of (by decide +kernel)
abbrev EA:Vc:=top 132
theorem wz:aI ["_law_number","_law_some"] ["_law_number"] (ay EA):=.of (by decide +kernel)
abbrev Es:Vc:=top 133
theorem AI:aI ["_law_number","_law_gap","_law_some"] ["_law_number","_law_gap"] (ay Es):=.of (by decide +kernel)
abbrev AF:Vc:=top 134
theorem lY:aI ["_law_xs","_law_words","_law_places","_law_way"] ["_law_xs"] (ay AF):=.of (by decide +kernel)
abbrev Hs:Vc:=top 135
theorem LA:aI ["_law_desk"] ["_law_desk"] (ay Hs):=.of (by decide +kernel)
abbrev uT:Vc:=top 136
theorem rj:aI ["_law_script","_law_cell","_law_desk","_law_text","_law_state_here"] ["_law_script"] (ay uT):=.of (by decide +kernel)
def ko:VZ:=⟨110,33,110,69⟩
def kH:C':=(("search":C')++(".<locals>.":C'))++("<lambda>":C')
structure VS where
 DrawError:F'
 NoName:F'
 Taken:F'
 Alone:F'
 NoNumber:F'
 TooMany:F'
 TooLong:F'
 Stale:F'
 NoPoint:F'
 NoSuch:F'
 NoLine:F'
 Ring:F'
 Layout:F'
 Item:F'
 Own:F'
 Small:F'
 Net:F'
 Desk:F'
 LINES:F'
 QeS:F'
 QeT:F'
 QeU:F'
 QeV:F'
 QeW:F'
 QeX:F'
 QeY:F'
 QeZ:F'
 YK:F'
structure Tx (K:R') (mg:C'→Option K') (a:VS):Prop where
 QjI:mg "DrawError"=i' (.ref a.DrawError)
 xb_DrawError:Wl K a.DrawError (.type "BaseException")=i' D'
 xt_DrawError:W3 K (.ref a.DrawError)=i' (.type "type")
 Qe0:mg "NoName"=i' (.ref a.NoName)
 xb_NoName:Wl K a.NoName (.type "BaseException")=i' D'
 xt_NoName:W3 K (.ref a.NoName)=i' (.type "type")
 QjJ:ZG K a.NoName
 QjK:mg "Taken"=i' (.ref a.Taken)
 xb_Taken:Wl K a.Taken (.type "BaseException")=i' D'
 xt_Taken:W3 K (.ref a.Taken)=i' (.type "type")
 QjL:ZG K a.Taken
 QjM:mg "Alone"=i' (.ref a.Alone)
 xb_Alone:Wl K a.Alone (.type "BaseException")=i' D'
 xt_Alone:W3 K (.ref a.Alone)=i' (.type "type")
 QjN:ZG K a.Alone
 QcT:mg "NoNumber"=i' (.ref a.NoNumber)
 xb_NoNumber:Wl K a.NoNumber (.type "BaseException")=i' D'
 xt_NoNumber:W3 K (.ref a.NoNumber)=i' (.type "type")
 Qe1:ZG K a.NoNumber
 Qe2:mg "TooMany"=i' (.ref a.TooMany)
 xb_TooMany:Wl K a.TooMany (.type "BaseException")=i' D'
 xt_TooMany:W3 K (.ref a.TooMany)=i' (.type "type")
 Qe3:ZG K a.TooMany
 g_TooLong:mg "TooLong"=i' (.ref a.TooLong)
 xb_TooLong:Wl K a.TooLong (.type "BaseException")=i' D'
 xt_TooLong:W3 K (.ref a.TooLong)=i' (.type "type")
 g_Stale:mg "Stale"=i' (.ref a.Stale)
 xb_Stale:Wl K a.Stale (.type "BaseException")=i' D'
 xt_Stale:W3 K (.ref a.Stale)=i' (.type "type")
 QjO:mg "NoPoint"=i' (.ref a.NoPoint)
 xb_NoPoint:Wl K a.NoPoint (.type "BaseException")=i' D'
 xt_NoPoint:W3 K (.ref a.NoPoint)=i' (.type "type")
 QjP:mg "NoSuch"=i' (.ref a.NoSuch)
 xb_NoSuch:Wl K a.NoSuch (.type "BaseException")=i' D'
 xt_NoSuch:W3 K (.ref a.NoSuch)=i' (.type "type")
 QjQ:mg "NoLine"=i' (.ref a.NoLine)
 QjR:Wl K a.NoLine (.type "BaseException")=i' D'
 QjS:W3 K (.ref a.NoLine)=i' (.type "type")
 QaV:XIs K a.NoLine
 g_Ring:mg "Ring"=i' (.ref a.Ring)
 xb_Ring:Wl K a.Ring (.type "BaseException")=i' D'
 xt_Ring:W3 K (.ref a.Ring)=i' (.type "type")
 g_Layout:mg "Layout"=i' (.ref a.Layout)
 Vu:WD K a.Layout
 QcU:zbk K a.Layout "coming"
 ZI:zbk K a.Layout "flow"
 QcV:zbk K a.Layout "going"
 Qe4:zbk K a.Layout "leasts"
 Yn:zbk K a.Layout "needs"
 Qbz:zbk K a.Layout "ones"
 Qaj:zbk K a.Layout "others"
 ZJ:zbk K a.Layout "places"
 g_Item:mg "Item"=i' (.ref a.Item)
 c_Item:WD K a.Item
 g_Own:mg "Own"=i' (.ref a.Own)
 c_Own:WD K a.Own
 g_Small:mg "Small"=i' (.ref a.Small)
 c_Small:WD K a.Small
 g_Net:mg "Net"=i' (.ref a.Net)
 VE:WD K a.Net
 QbA:zbk K a.Net "arrows_by_number"
 Qak:zbk K a.Net "halves"
 Qe5:zbk K a.Net "most_bounds"
 QcW:zbk K a.Net "next_number"
 Qe6:zbk K a.Net "same_pairs"
 g_Desk:mg "Desk"=i' (.ref a.Desk)
 Wr:WD K a.Desk
 QbB:zbk K a.Desk "levels"
 ZK:zbk K a.Desk "net"
 QjT:rb K mg a.NoPoint "NoPoint" "NoPoint.__init__" Eo ["self","name"]
 QjU:QaT K a.NoPoint "name"
 xg_NoPoint_name:QaU K a.NoPoint "name"
 QjV:rb K mg a.NoLine "NoLine" "NoLine.__init__" Fc ["self","number"]
 QjW:QaT K a.NoLine "number"
 QjX:QaU K a.NoLine "number"
 QjY:rb K mg a.Ring "Ring" "Ring.__init__" HL ["self","ring"]
 QjZ:QaT K a.Ring "ring"
 xg_Ring_ring:QaU K a.Ring "ring"
 Qj0:Def K mg "worth" AS ["wishes","places"] []
 Qj1:Def K mg "weights_of" AU ["wishes"] []
 Qj2:Def K mg "left_at_points" HQ ["count","wishes","amounts"] []
 QcX:Ini K mg a.Layout "Layout" "Layout.__init__" pE ["self","count","wishes"]
 QaW:Met K a.Layout "slack" "Layout.slack" Gf ["self","number"] []
 ZL:Met K a.Layout "end_across" "Layout.end_across" Fl ["self","number","point"] []
 Qj3:Def K mg "fit" QeQ ["layout"] []
 Qj4:Def K mg "push_once" FJ ["layout","pushers"] []
 Qj5:Def K mg "send_once" Fd ["layout"] []
 Qj6:Def K mg "search" Bz ["layout","far","came_by"] []
 Qj7:Def K mg "look_around" wO ["layout","point","far","waiting","came_by"] []
 Qj8:Def K mg "way_back" EG ["layout","came_by","end"] []
 Qj9:Def K mg "send_along" wX ["layout","steps","end"] []
 Qka:Def K mg "parts_of" At ["count","wishes"] []
 Qkb:Def K mg "from_nought" Bb ["places","parts"] []
 Qkc:Def K mg "figure_worths" EE ["weights"] []
 Qkd:Def K mg "laid" uI ["count","wishes"] []
 Qke:Def K mg "is_name" Bm ["name"] []
 Qkf:Def K mg "is_whole" EI ["number"] []
 Qkg:Def K mg "in_range" Fz ["number","least","greatest"] []
 QcY:Ini K mg a.Net "Net" "Net.__init__" Hy ["self"]
 QcZ:Met K a.Net "put_point" "Net.put_point" xA ["self","name","half"] []
 m_Net_put_point1:Met K a.Net "put_point" "Net.put_point" xA ["self","name","half"] [.int 0]
 Qc0:Met K a.Net "put_arrow" "Net.put_arrow" uQ ["self","one","other","span","weight"] []
 m_Net_put_arrow3:Met K a.Net "put_arrow" "Net.put_arrow" uQ ["self","one","other","span","weight"] [.int 1]
 m_Net_put_arrow2:Met K a.Net "put_arrow" "Net.put_arrow" uQ ["self","one","other","span","weight"] [.int 1,.int 1]
 Xy:Met K a.Net "points" "Net.points" Hv ["self"] []
 Qc1:Met K a.Net "half_of" "Net.half_of" EQ ["self","name"] []
 YL:Met K a.Net "arrows" "Net.arrows" Bi ["self"] []
 QaX:Met K a.Net "sames" "Net.sames" BN ["self"] []
 QaY:Met K a.Net "mosts" "Net.mosts" Bh ["self"] []
 Qal:Met K a.Net "need_point" "Net.need_point" Go ["self","name"] []
 Qc2:Met K a.Net "need_two_points" "Net.need_two_points" Gr ["self","one","other"] []
 Qkh:Def K mg "way" QeR ["arrows","start","end"] []
 Qki:Def K mg "kept_arrows" HH ["net"] []
 Qkj:Def K mg "turned" Bg ["net"] []
 Qkk:Def K mg "wishes_of" Bt ["net"] []
 Qkl:Def K mg "places_by" AW ["net","levels"] []
 Qkm:Def K mg "length" Hj ["net","levels"] []
 Qkn:Def K mg "levelled" FY ["net"] []
 Qko:Def K mg "is_written_number" A3 ["word"] []
 Qkp:Def K mg "numbers_of" xm ["words","needed","left_out"] []
 Qkq:Def K mg "put_line" GO ["net","line"] []
 Qkr:Def K mg "point_line" GA ["name","half"] []
 Qks:Def K mg "arrow_line" FH ["one","other","span","weight"] []
 Qkt:Def K mg "net_text" qY ["net"] []
 Qku:Def K mg "numbers_text" BK ["numbers"] []
 Qkv:Def K mg "put_text" Fw ["net","line"] []
 Qkw:Def K mg "levels_text" AZ ["net","levels"] []
 Qc3:Ini K mg a.Desk "Desk" "Desk.__init__" Hr ["self"]
 Yo:Met K a.Desk "say" "Desk.say" Gj ["self","line"] []
 Qc4:Met K a.Desk "say_word" "Desk.say_word" FB ["self","word"] []
 Qc5:Met K a.Desk "say_number" "Desk.say_number" FD ["self","word","written"] []
 QbC:Met K a.Desk "level_by" "Desk.level_by" E7 ["self","answer"] []
 Qkx:Def K mg "_law_cell_at" HC ["_law_script","_law_k"] []
 Qky:Def K mg "_law_stream" GU ["_law_cell","_law_many"] []
 Qkz:Def K mg "_law_refused" ER ["_law_desk","_law_text"] []
 QkA:Def K mg "_law_line" EA ["_law_number"] []
 QkB:Def K mg "_law_odd" Es ["_law_number","_law_gap"] []
 QkC:Def K mg "_law_spoilt" AF ["_law_xs"] []
 QkD:Def K mg "_law_state" Hs ["_law_desk"] []
 d_law:Def K mg "law" uT ["_law_script"] []
 QbD:∃ t,mg "BASE"=i' (.int 16 t)
 QkE:∃ t,mg "FIGURES"=i' (.str "0123456789" t)
 QkF:∃ t,mg "GREATEST_GAP"=i' (.int 50 t)
 QkG:∃ t,mg "GREATEST_WEIGHT"=i' (.int 1000000 t)
 QkH:∃ t,mg "LEAST_GAP"=i' (.int 1 t)
 QkI:∃ t,mg "LONGEST_NAME"=i' (.int 8 t)
 QkJ:∃ t,mg "LONGEST_SPAN"=i' (.int 20 t)
 QkK:∃ t,mg "MOST_ARROWS"=i' (.int 40 t)
 QkL:∃ t,mg "MOST_FIGURES"=i' (.int 7 t)
 QkM:∃ t,mg "MOST_POINTS"=i' (.int 20 t)
 QkN:∃ t,mg "SMALL_LETTERS"=i' (.str "abcdefghijklmnopqrstuvwxyz" t)
 QkO:∃ t,mg "WIDEST_HALF"=i' (.int 50 t)
 Qe7:mg "LINES"=i' (.ref a.LINES)
 QkP:∀ H,Vi K H a.QeS [.int 0]
 QkQ:∀ H,Vi K H a.QeT [.int 1,.int 0,.ref a.QeS]
 QkR:∀ H,Vi K H a.QeU [.int 1,.int 1]
 QkS:∀ H,Vi K H a.QeV [.int 2,.int 0,.ref a.QeU]
 QkT:∀ H,Vi K H a.QeW []
 QkU:∀ H,Vi K H a.QeX [.int 2,.int 0,.ref a.QeW]
 QkV:∀ H,Vi K H a.QeY []
 QkW:∀ H,Vi K H a.QeZ [.int 2,.int 1,.ref a.QeY]
 Qe8:Bn K mg "search" a.YK
 QkX:XT K (.type "str") (.type "str")=i' D'
 QkY:XT K (.type "int") (.type "int")=i' D'
 QkZ:XT K (.type "int") (.type "bool")=i' M'
 Qk0:Wl K a.NoLine (.ref a.NoLine)=i' D'
 Qk1:XT K (.ref a.NoLine) (.ref a.NoName)=i' M'
 Qk2:XT K (.ref a.NoLine) (.ref a.NoNumber)=i' M'
 Qk3:XT K (.ref a.NoLine) (.ref a.NoPoint)=i' M'
 Qk4:XT K (.ref a.NoLine) (.ref a.NoSuch)=i' M'
 Qk5:XT K (.ref a.NoLine) (.ref a.DrawError)=i' D'
 Qc6:mg "all"=B'
 Qk6:mg "any"=B'
 Qk7:mg "bool"=B'
 Qe9:mg "dict"=B'
 QaZ:mg "enumerate"=B'
 QbE:mg "int"=B'
 Zd:mg "isinstance"=B'
 Wk:mg "len"=B'
 QbF:mg "list"=B'
 Qk8:mg "max"=B'
 Qc7:mg "min"=B'
 Qa0:mg "range"=B'
 Qa1:mg "str"=B'
 Qk9:mg "sum"=B'
 QbG:mg "zip"=B'
def ia (a:VS):List (Key×V):=[(U7 "point",.ref a.QeT),(U7 "arrow",.ref a.QeV),(U7 "same",.ref a.QeX),(U7 "most",.ref a.QeZ)]
structure Wn where
 c:Nat
 m:Nat
 on:Nat→Nat
 ot:Nat→Nat
 le:Nat→Int
structure Wn.Ok (N:Wn):Prop where
 on:∀ n,n<N.m→N.on n<N.c
 ot:∀ n,n<N.m→N.ot n<N.c
def WL (N:Wn) (P:Nat→Int) (n:Nat):Int:=P (N.ot n)-P (N.on n)-N.le n
def up {α:Type} (f:Nat→α) (k:Nat) (v:α):Nat→α:=fun i=>if i=k then v else f i
theorem qF {α:Type} (f:Nat→α) (k:Nat) (v:α):up f k v k=v:=U3 rfl
theorem rA {α:Type} (f:Nat→α){k:Nat} (v:α) (h:i≠k):up f k v i=f i:=U4 h
def ac (N:Wn) (n p:Nat):Nat:=if N.ot n=p then N.on n else N.ot n
abbrev Vl:=List (Key×V)
abbrev Wt:=Nat×Nat×Int×Int
def wn (ws:List Wt) (c:Nat):Wn:=⟨c,ws.length,fun n=>(ws.getD n (0,0,0,0)).1,fun n=>(ws.getD n (0,0,0,0)).2.1,fun n=>(ws.getD n (0,0,0,0)).2.2.1⟩
def fn (l:List Int) (i:Nat):Int:=l.getD i 0
structure LR where
 o:F'
 t:F'
 l:F'
 p:F'
 f:F'
 n:F'
 g:F'
 c:F'
def b8 (r:LR):List (C'×V):=[("ones",.ref r.o),("others",.ref r.t),("leasts",.ref r.l),("places",.ref r.p),("flow",.ref r.f),("needs",.ref r.n),("going",.ref r.g),("coming",.ref r.c)]
variable {C d q:F'}{H H' H1 H2:Hp}{P:Vy}{S:List F'}{a:VS}{base:Vo}{l:List Int}{mg:C'→Option K'}{n:Nat}{r:LR}{v x:V}{w:VL}{ws:List Wt}{xs:List V}
theorem WT {a:C'}{r:List (C'×V)}:(((a,v)::r):List (C'×V)).lookup a=i' v:=by
 rw[Qb7,ZY]
theorem VC {a b:C'}{r:List (C'×V)} (h:(a == b)=M'):(((b,v)::r):List (C'×V)).lookup a=r.lookup a:=by
 rw[Qb7,h]
theorem Ao:(b8 r).lookup ("ones":C')=i' (.ref r.o):=WT
theorem uO:(b8 r).lookup ("others":C')=i' (.ref r.t):=(VC (by decide +kernel)).trans WT
theorem Pr:(b8 r).lookup ("leasts":C')=i' (.ref r.l):=(VC (by decide +kernel)).trans ((VC (by decide +kernel)).trans WT)
theorem qJ:(b8 r).lookup ("places":C')=i' (.ref r.p):=(VC (by decide +kernel)).trans ((VC (by decide +kernel)).trans ((VC (by decide +kernel)).trans WT))
theorem um:(b8 r).lookup ("flow":C')=i' (.ref r.f):=(VC (by decide +kernel)).trans ((VC (by decide +kernel)).trans ((VC (by decide +kernel)).trans ((VC (by decide +kernel)).trans WT)))
theorem nE:(b8 r).lookup ("needs":C')=i' (.ref r.n):=(VC (by decide +kernel)).trans ((VC (by decide +kernel)).trans ((VC (by decide +kernel)).trans ((VC (by decide +kernel)).trans ((VC (by decide +kernel)).trans WT))))
theorem Fv:(b8 r).lookup ("going":C')=i' (.ref r.g):=(VC (by decide +kernel)).trans ((VC (by decide +kernel)).trans ((VC (by decide +kernel)).trans ((VC (by decide +kernel)).trans ((VC (by decide +kernel)).trans ((VC (by decide +kernel)).trans WT)))))
theorem GQ:(b8 r).lookup ("coming":C')=i' (.ref r.c):=(VC (by decide +kernel)).trans ((VC (by decide +kernel)).trans ((VC (by decide +kernel)).trans ((VC (by decide +kernel)).trans ((VC (by decide +kernel)).trans ((VC (by decide +kernel)).trans ((VC (by decide +kernel)).trans WT))))))
def Nq (r:LR) (a:F'):Prop:=a≠r.p∧a≠r.f∧a≠r.n
def goN (ws:List Wt) (i:Nat):List Nat:=(VX ws.length).filter fun n=>decide ((ws.getD n (0,0,0,0)).1=i)
def Ze (ws:List Wt) (i:Nat):List Nat:=(VX ws.length).filter fun n=>decide ((ws.getD n (0,0,0,0)).2.1=i)
def nums (l:List Nat):List V:=l.map fun n=>V.int (n:Nat)
structure bT (C:F') (H:Hp) (q:F') (r:LR) (ws:List Wt) (cnt:Nat):Prop where
 ex:∃ dx,H q=i' (.ins C dx (b8 r))
 ho:H r.o=i' (.lst (ws.map fun w=>V.int (w.1:Nat)))
 ht:H r.t=i' (.lst (ws.map fun w=>V.int (w.2.1:Nat)))
 hl:H r.l=i' (.lst (ws.map fun w=>V.int w.2.2.1))
 hg:∃ gs:List F',H r.g=i' (.lst (gs.map V.ref))∧gs.length=cnt∧∀ i a,gs[i]?=i' a→H a=i' (.lst (nums (goN ws i)))∧Nq r a
 hc:∃ gs:List F',H r.c=i' (.lst (gs.map V.ref))∧gs.length=cnt∧∀ i a,gs[i]?=i' a→H a=i' (.lst (nums (Ze ws i)))∧Nq r a
 no:Nq r r.o
 nt:Nq r r.t
 nl:Nq r r.l
 ng:Nq r r.g
 nc:Nq r r.c
 nq:Nq r q
 pf:r.p≠r.f
 pn:r.p≠r.n
 fn:r.f≠r.n
def Kx (S:List F') (H H':Hp):Prop:=∀ b o,H b=i' o→b∉S→H' b=i' o
theorem Kx.of (e:ae H H'):Kx S H H':=fun b o h _=>e b o h
theorem Kx.trans (a:Kx S H H1) (b:Kx S H1 H2):Kx S H H2:=fun c o h z=>b c o (a c o h z) z
theorem Kx.mono {S':List F'} (a:Kx S H H') (h:∀ x∈S,x∈S'):Kx S' H H':=fun c o q z=>a c o q fun y=>z (h c y)
theorem Kx.upd {S:List F'}{H:Hp}{a:F'}{o:HO} (h:a∈S):Kx S H (L2.upd H a o):=fun b u e z=>by
 rw[aj (fun y=>z (by rw[y];exact h))]
 exact e
def Dc (H:Hp) (a:F'):Prop:=∃ kvs,H a=i' (.dK kvs)
theorem bT.kx {cnt:Nat} (h:bT C H q r ws cnt) (k:Kx S H H') (hs:∀ a∈S,a=r.p∨a=r.f∨a=r.n∨Dc H a):bT C H' q r ws cnt:=by
 have lst:∀ a xs,H a=i' (.lst xs)→Nq r a→H' a=i' (.lst xs):=fun a xs e n=>k a _ e fun z=>by
  rcases hs a z with y|y|y|⟨kvs,y⟩
  .exact n.1 y
  .exact n.2.1 y
  .exact n.2.2 y
  .rw[e] at y
   cases y
 obtain⟨dx,ex⟩:=h.ex
 obtain⟨gs,g1,g2,g3⟩:=h.hg
 obtain⟨cs,c1,c2,c3⟩:=h.hc
 refine⟨⟨dx,k _ _ ex fun z=>?_⟩,lst _ _ h.ho h.no,lst _ _ h.ht h.nt,lst _ _ h.hl h.nl,⟨gs,lst _ _ g1 h.ng,g2,fun i a e=>⟨lst _ _ (g3 i a e).1 (g3 i a e).2,(g3 i a e).2⟩⟩,⟨cs,lst _ _ c1 h.nc,c2,fun i a e=>⟨lst _ _ (c3 i a e).1 (c3 i a e).2,(c3 i a e).2⟩⟩,h.no,h.nt,h.nl,h.ng,h.nc,h.nq,h.pf,h.pn,h.fn⟩
 rcases hs q z with y|y|y|⟨kvs,y⟩
 .exact h.nq.1 y
 .exact h.nq.2.1 y
 .exact h.nq.2.2 y
 .rw[ex] at y
  cases y
theorem bT.same {cnt:Nat} (h:bT C H q r ws cnt) (e:ae H H'):bT C H' q r ws cnt:=by
 obtain⟨dx,ex⟩:=h.ex
 obtain⟨gs,g1,g2,g3⟩:=h.hg
 obtain⟨cs,c1,c2,c3⟩:=h.hc
 exact⟨⟨dx,e _ _ ex⟩,e _ _ h.ho,e _ _ h.ht,e _ _ h.hl,⟨gs,e _ _ g1,g2,fun i a q=>⟨e _ _ (g3 i a q).1,(g3 i a q).2⟩⟩,⟨cs,e _ _ c1,c2,fun i a q=>⟨e _ _ (c3 i a q).1,(c3 i a q).2⟩⟩,h.no,h.nt,h.nl,h.ng,h.nc,h.nq,h.pf,h.pn,h.fn⟩
theorem ra (h:i<l.length):V1 (l.map V.int) (i:Int)=i' (.int (fn l i)):=by
 rw[iw (by lia),WA,WJ,Xd h]
 unfold fn
 rw[X8,Xd h]
 rfl
theorem mY (f:Wt→V) (h:n<ws.length):V1 (ws.map f) (n:Int)=i' (f (ws.getD n (0,0,0,0))):=by
 rw[iw (by lia),WA,WJ,Xd h,X8,Xd h]
 rfl
theorem vg (h:i<l.length):(l.map V.int)[((i:Nat):Int).toNat]?=i' (.int (fn l i)):=by
 rw[WA,WJ,Xd h]
 unfold fn
 rw[X8,Xd h]
 rfl
theorem xq (kvs:Vl) (k:Key) (v:V):(bi kvs k v).length≤kvs.length+1:=by
 unfold bi
 split
 .rw[U1]
  lia
 .rw[WM]
  exact Xh _
section
variable {K:R'}
inductive Op (C:F') (vs:List V) (H:Hp) (Q:VK) (bg:XK):Prop
 | mk (q r ws c p:_) (n:Nat) (_:vs=[.ref q,.int n]) (_:bT C H q r ws c) (_:H r.p=i' (.lst ((p:List Int).map V.int))) (_:p.length=c) (_:n<ws.length) (_:(wn ws c).Ok) (_:Q (.int (WL (wn ws c) (fn p) n)) H)
theorem Gw (T:Tx K mg a):eW P w K mg base Vp 1 a.Layout "slack" ["self","number"] [] (Op a.Layout):=T.QaW.Vq fun f fd F=>by
 refine F.ok Qv (fun vs H Q E h=>?_) (fun aw A outer s H vs Q E hr h=>?_)
 .obtain⟨q,r,ws,c,p,n,rfl,_⟩:=h
  rfl
 .obtain⟨q,r,ws,c,p,n,rfl,L,hp,hc,hn,ok,k⟩:=h
  obtain⟨dx,ex⟩:=L.ex
  have o1:(ws.getD n (0,0,0,0)).1<p.length:=by rw[hc];exact ok.on n hn
  have o2:(ws.getD n (0,0,0,0)).2.1<p.length:=by rw[hc];exact ok.ot n hn
  refine⟨_,(av (aK (aX iU (aX iU (aF bb (bf (pv 0) O) (aF bb (bf (pv 0) O) (pv 1) (fun _ _=>O)) (fun _ _=>O)) (aF bb (bf (pv 0) O) (aF bb (bf (pv 0) O) (pv 1) (fun _ _=>O)) (fun _ _=>O))) (aF bb (bf (pv 0) O) (pv 1) (fun _ _=>O))))),?_⟩
  exact⟨_,O,q,a.Layout,dx,_,_,O,ex,T.Vu,T.ZJ,qJ,_,O,q,a.Layout,dx,_,_,O,ex,T.Vu,T.Qaj,uO,_,O,r.t,_,_,_,O,O,P'.of L.ht,mY _ hn,r.p,_,_,_,O,O,P'.of hp,ra o2,
   _,rfl,q,a.Layout,dx,_,_,rfl,ex,T.Vu,T.ZJ,qJ,_,rfl,q,a.Layout,dx,_,_,rfl,ex,T.Vu,T.Qbz,Ao,_,rfl,r.o,_,_,_,rfl,rfl,P'.of L.ho,mY _ hn,r.p,_,_,_,rfl,rfl,P'.of hp,ra o1,_,_,rfl,rfl,
   _,rfl,q,a.Layout,dx,_,_,rfl,ex,T.Vu,T.Qe4,Pr,_,rfl,r.l,_,_,_,rfl,rfl,P'.of L.hl,mY _ hn,_,_,rfl,rfl,k⟩
inductive NL (C:F') (vs:List V) (H:Hp) (Q:VK) (bg:XK):Prop
 | mk (q r ws c:_) (n p:Nat) (_:vs=[.ref q,.int n,.int p]) (_:bT C H q r ws c) (_:n<ws.length) (_:Q (.int (ac (wn ws c) n p:Nat)) H)
theorem AQ (T:Tx K mg a):eW P w K mg base Vp 1 a.Layout "end_across" ["self","number","point"] [] (NL a.Layout):=T.ZL.Vq fun f fd F=>by
 refine F.ok Me (fun vs H Q E h=>?_) (fun aw A outer s H vs Q E hr h=>?_)
 .obtain⟨q,r,ws,c,n,p,rfl,_⟩:=h
  rfl
 .obtain⟨q,r,ws,c,n,p,rfl,L,hn,k⟩:=h
  obtain⟨dx,ex⟩:=L.ex
  refine⟨_,(av (aK (wv (a7 cw (aF bb (bf (pv 0) O) (pv 1) (fun _ _=>O)) (pv 2) (aV _)) (aF bb (bf (pv 0) O) (pv 1) (fun _ _=>O)) (aF bb (bf (pv 0) O) (pv 1) (fun _ _=>O))))),?_⟩
  refine⟨_,O,q,a.Layout,dx,_,_,O,ex,T.Vu,T.Qaj,uO,_,O,r.t,_,_,_,O,O,P'.of L.ht,mY _ hn,_,O,O,_,O,?_⟩
  refine bc (fun c1=>?_) (fun c1=>?_)
  .refine⟨_,O,q,a.Layout,dx,_,_,O,ex,T.Vu,T.Qbz,Ao,_,O,r.o,_,_,_,O,O,P'.of L.ho,mY _ hn,?_⟩
   have e:ac (wn ws c) n p=(ws.getD n (0,0,0,0)).1:=U3 (by have:=of_decide_eq_true c1;injection this with z;exact QdL z)
   rw[e] at k
   exact k
  .refine⟨_,O,q,a.Layout,dx,_,_,O,ex,T.Vu,T.Qaj,uO,_,O,r.t,_,_,_,O,O,P'.of L.ht,mY _ hn,?_⟩
   have e:ac (wn ws c) n p=(ws.getD n (0,0,0,0)).2.1:=U4 (fun z=>by have:=of_decide_eq_false c1;exact this (by rw[show(ws.getD n (0,0,0,0)).2.1=p from z]))
   rw[e] at k
   exact k
end
def Qfa:Option Nat→V
 | none=>.U8
 | some v=>.int (v:Nat)
def V8 (ws:List Wt) (c:Nat) (P:List Int) (kvs:Vl):Nat→List Int×Vl×Option Nat
 | 0=>(P,kvs,B')
 | k+1=>if WL (wn ws c) (fn (V8 ws c P kvs k).1) k<0 then
   ((V8 ws c P kvs k).1.set ((wn ws c).ot k) (fn (V8 ws c P kvs k).1 ((wn ws c).ot k)+(0-WL (wn ws c) (fn (V8 ws c P kvs k).1) k)),bi (V8 ws c P kvs k).2.1 (Va (((wn ws c).ot k:Nat):Int)) (.int (k:Nat)),i' ((wn ws c).ot k))
  else V8 ws c P kvs k
theorem Ft (ws:List Wt) (c:Nat) (P:List Int) (kvs:Vl):∀ k,(V8 ws c P kvs k).1.length=P.length∧(V8 ws c P kvs k).2.1.length≤kvs.length+k
 | 0=>⟨O,Xh _⟩
 | k+1=>by
  obtain⟨h1,h2⟩:=Ft ws c P kvs k
  unfold V8
  split
  .refine⟨by rw[Zn];exact h1,?_⟩
   have:=xq (V8 ws c P kvs k).2.1 (Va (((wn ws c).ot k:Nat):Int)) (.int (k:Nat))
   show(bi _ _ _).length≤_
   lia
  .exact⟨h1,by lia⟩
section
variable {K:R'}
inductive Qla (C:F') (vs:List V) (H:Hp) (Q:VK) (bg:XK):Prop
 | mk (q r ws c p d kvs:_) (_:vs=[.ref q,.ref d]) (_:bT C H q r ws c) (_:H r.p=i' (.lst ((p:List Int).map V.int))) (_:p.length=c) (_:(wn ws c).Ok) (_:ws.length≤1000) (_:H d=i' (.dK kvs)) (_:kvs.length≤100000) (_:∀ H',Kx [r.p,d] H H'→H' r.p=i' (.lst ((V8 ws c p kvs ws.length).1.map V.int))→H' d=i' (.dK (V8 ws c p kvs ws.length).2.1)→Q (Qfa (V8 ws c p kvs ws.length).2.2) H')
theorem Qo (T:Tx K mg a):Vz P w K mg base Vp 2 "push_once" ["layout","pushers"] [] (Qla a.Layout):=T.Qj4.Vq fun f fd F=>by
 have QaW:=Gw (P:=P) (w:=w) (base:=base) T
 refine F.ok qZ (fun vs H Q E h=>?_) (fun aw A outer s H vs Q E hr h=>?_)
 .obtain⟨q,r,ws,c,p,d,kvs,rfl,_⟩:=h
  rfl
 .obtain⟨q,r,ws,c,p,d,kvs,rfl,L,hp,hc,ok,hw,hd,hk,k⟩:=h
  have De:r.p≠d:=bQ hp hd (by intro z;cases z)
  have lay:∀ G,Kx [r.p,d] H G→bT a.Layout G q r ws c:=fun G kx=>L.kx kx fun x hx=>by
   rcases V5.mp hx with z|z
   .exact .inl z
   .rw[Vn.mp z]
    exact .inr (.inr (.inr ⟨kvs,hd⟩))
  obtain⟨dx,ex⟩:=L.ex
  refine⟨_,(ak (aR (i:=2) qZ.nd O (by first|exact UY rfl|exact UX O) GN)
   (ak (fg Wu rfl (ve rfl T.QaZ (af (bf (pv 0) rfl) ai)) (iW rfl (aP (aC (i:=3) qZ.nd O (by first|exact UY rfl|exact UX O)) (aP (aC (i:=4) qZ.nd O (by first|exact UY rfl|exact UX O)) cV))) (ak (aR (i:=5) qZ.nd O (by first|exact UY rfl|exact UX O) (aX iU au (pM (pv 0) T.Vu QaW (hr.mono (by decide)) (af (pv 3) ai))))
   (av (bo (a7 kK (pv 5) au (aV _)) (ak (pB (bf (pv 0) rfl) (pv 4) pZ (pv 5) uB lM)
   (ak (lP (bw hr) (pv 1) (pv 4) (pv 3) rfl)
   (av (aR (i:=2) qZ.nd O (by first|exact UY rfl|exact UX O) (pv 4))))) bp))))
   (av (aK (pv 2))))),?_⟩
  refine⟨_,O,q,a.Layout,dx,_,_,O,ex,T.Vu,T.Qaj,uO,r.t,O,⟨_,P'.of L.ht⟩,AH (K:=K) (l:=r.t) (xs:=ws.map fun w=>V.int (w.2.1:Nat)) (fun i σ G=>∃ v3 v4 v5,σ=[i' (.ref q),i' (.ref d),i' (Qfa (V8 ws c p kvs i).2.2),v3,v4,v5]∧Kx [r.p,d] H G∧G r.p=i' (.lst ((V8 ws c p kvs i).1.map V.int))∧G d=i' (.dK (V8 ws c p kvs i).2.1))
   ⟨B',B',B',rfl,Kx.of (ae.refl _),hp,hd⟩ ?_ ?_ ?_⟩
  .rintro i σ G _ ⟨_,_,_,rfl,kx,_⟩
   exact P'.of (lay G kx).ht
  .rintro i x tt σ G hx nt ⟨v3,v4,v5,rfl,kx,hG,oB⟩
   have hi:i<ws.length:=by
    have:=(VI.mp hx).1
    rw[U1] at this
    exact this
   have CP:x=.int ((wn ws c).ot i:Nat):=by
    rw[WJ,Xd hi] at hx
    have z:=VQ hx
    rw[← z]
    show V.int ((ws[i].2.1:Nat):Int)=V.int (((ws.getD i (0,0,0,0)).2.1:Nat):Int)
    rw[X8,Xd hi]
    rfl
   subst CP
   obtain⟨l1,l2⟩:=Ft ws c p kvs i
   have oi:(wn ws c).ot i<c:=ok.ot i hi
   have s3:ae G (upd G tt (.tup [.int i,.int ((wn ws c).ot i:Nat)])):=ae.new nt
   have h3:upd G tt (.tup [.int i,.int ((wn ws c).ot i:Nat)]) tt=i' (.tup [.int i,.int ((wn ws c).ot i:Nat)]):=ah
   generalize upd G tt (.tup [.int i,.int ((wn ws c).ot i:Nat)])=G3 at s3 h3 ⊢
   have gv:Kx [r.p,d] H G3:=kx.trans (Kx.of s3)
   have iG:=s3 _ _ hG
   have j4:=s3 _ _ oB
   have L3:=lay G3 gv
   obtain⟨qv,Xu⟩:=L3.ex
   have st:V8 ws c p kvs (i+1)=if WL (wn ws c) (fn (V8 ws c p kvs i).1) i<0 then
     ((V8 ws c p kvs i).1.set ((wn ws c).ot i) (fn (V8 ws c p kvs i).1 ((wn ws c).ot i)+(0-WL (wn ws c) (fn (V8 ws c p kvs i).1) i)),bi (V8 ws c p kvs i).2.1 (Va (((wn ws c).ot i:Nat):Int)) (.int (i:Nat)),i' ((wn ws c).ot i))
    else V8 ws c p kvs i:=rfl
   rw[st]
   generalize V8 ws c p kvs i=now at iG j4 l1 l2 st ⊢
   refine⟨tt,_,O,Vi.of h3,O,_,_,O,_,_,O,O,?_⟩
   refine⟨_,O,q,qv,_,O,Xu,by rfl,_,O,q,r,ws,c,now.1,i,O,L3,iG,by lia,hi,ok,_,_,O,O,?_⟩
   refine⟨_,O,_,_,O,O,_,O,?_⟩
   refine bc (fun c1=>?_) (fun c1=>?_)
   .have c2:WL (wn ws c) (fn now.1) i<0:=by have:=of_decide_eq_true c1;lia
    rw[U3 c2]
    have IL:(wn ws c).ot i<now.1.length:=by lia
    refine⟨_,O,q,a.Layout,qv,_,_,O,Xu,T.Vu,T.ZJ,qJ,_,O,r.p,_,_,_,O,O,P'.of iG,by lia,vg IL,_,O,_,_,O,O,r.p,_,_,_,O,O,iG,kJ (by lia) (by rw[U1];lia),?_⟩
    rw[WA,← YX]
    have fU:Kx [r.p,d] H (upd G3 r.p (.lst ((now.1.set ((wn ws c).ot i) (fn now.1 ((wn ws c).ot i)+(0-WL (wn ws c) (fn now.1) i))).map V.int))):=gv.trans (Kx.upd (by simp))
    have h4:upd G3 r.p (.lst ((now.1.set ((wn ws c).ot i) (fn now.1 ((wn ws c).ot i)+(0-WL (wn ws c) (fn now.1) i))).map V.int)) r.p=i' (.lst ((now.1.set ((wn ws c).ot i) (fn now.1 ((wn ws c).ot i)+(0-WL (wn ws c) (fn now.1) i))).map V.int)):=ah
    have h5:upd G3 r.p (.lst ((now.1.set ((wn ws c).ot i) (fn now.1 ((wn ws c).ot i)+(0-WL (wn ws c) (fn now.1) i))).map V.int)) d=i' (.dK now.2.1):=by rw[aj (U5 De)];exact j4
    refine⟨_,O,_,O,_,O,d,_,O,.inl ⟨now.2.1,Va (((wn ws c).ot i:Nat):Int),h5,O,by rw[Vm];lia,O⟩,?_⟩
    refine⟨_,O,_,_,_,O,fU.trans (Kx.upd (by simp)),?_,ah⟩
    rw[aj De]
    exact h4
   .have c2:¬ WL (wn ws c) (fn now.1) i<0:=by have:=of_decide_eq_false c1;lia
    rw[U4 c2]
    exact⟨_,_,_,O,gv,iG,j4⟩
  .rintro σ G ⟨v3,v4,v5,rfl,kx,hG,oB⟩
   rw[U1] at hG oB ⊢
   exact⟨_,O,k G kx hG oB⟩
end
def bH:List Wt:=[(0,1,2,7),(0,1,1,1)]
theorem ok4:(wn bH 2).Ok:=by
 refine⟨fun n hn=>?_,fun n hn=>?_⟩<;>(have hn:n<2:=hn;match n,hn with|0,_=>decide|1,_=>decide)
theorem at0:V1 (x::xs) 0=i' x:=by
 rw[show(0:Int)=((0:Nat):Int) from rfl,iw (by lia)]
 rfl
abbrev iL (l:List Int):HO:=.lst (l.map V.int)
abbrev pu4:Vl:=[(Va 1,.int 0)]
theorem Qlb:V8 bH 2 [0,0] [] bH.length=([0,2],pu4,i' 1):=by decide +kernel
theorem Qlc:V8 bH 2 [0,2] pu4 bH.length=([0,2],pu4,B'):=by decide +kernel
section
variable {K:R'}
inductive QT (C:F') (vs:List V) (H:Hp) (Q:VK) (bg:XK):Prop
 | mk (x t g ys:_) (_:vs=[.ref x,.ref g]) (_:H x=i' (gB C t x B')) (_:H g=i' (.lst ys)) (_:∀ l,H l=B'→∀ dx,upd H l (.lst ys) dx=B'→Q .U8 (upd (upd (upd H l (.lst ys)) dx (.xd [("ring",.ref l)])) x (gB C t x (i' dx))))
theorem QU (T:Tx K mg a):vf P w K mg base Vp 1 a.Ring "Ring" ["self","ring"] (QT a.Ring):=T.QjY.Vq fun f fd F=>by
 refine F.ok Mf (fun vs H Q E h=>?_) (fun aw A outer s H vs Q E hr h=>?_)
 .obtain⟨x,t,g,ys,rfl,_⟩:=h
  rfl
 .obtain⟨x,t,g,ys,rfl,hx,hg,k⟩:=h
  refine⟨_,(av (AV (pv 0) (jO Gh O T.QbF wZ (af (pv 1) ai)) O)),?_⟩
  exact⟨_,O,g,_,O,.inl (P'.of hg),fun l nl=>⟨_,O,x,a.Ring,t,O,by rw[aj (ao hx nl)];exact hx,T.QjZ,fun dx nd=>k l nl dx nd⟩⟩
inductive Qld (a:VS) (vs:List V) (H:Hp) (Q:VK) (bg:XK):Prop
 | mk (q r:_) (_:vs=[.ref q]) (_:bT a.Layout H q r bH 2) (_:H r.p=i' (iL [0,0])) (_:∀ H',Kx [r.p] H H'→H' r.p=i' (iL [0,2])→Q .U8 H')
theorem Qle (T:Tx K mg a):Vz P w K mg base (Wa P w) 3 "fit" ["layout"] [] (Qld a):=T.Qj3.Vq fun f fd F=>by
 have fR:=Qo (P:=P) (w:=w) (base:=base) T
 have pj:=QU (P:=P) (w:=w) (base:=base) T
 refine F.Xm qQ (fun vs H Q E h=>?_) (fun aw A outer s H vs Q E hr h=>?_)
 .obtain⟨q,r,rfl,_⟩:=h
  rfl
 .obtain⟨q,r,rfl,L,hp,k1⟩:=h
  obtain⟨dx,ex⟩:=L.ex
  refine⟨_,(ak (aR (i:=1) qQ.nd O (by first|exact UY rfl|exact UX O) (bx fV O T.Wk dk (af (bf (pv 0) O) ai)))
   (ak (aR (i:=2) qQ.nd O (by first|exact UY rfl|exact UX O) mW)
   (ak (aR (i:=3) qQ.nd O (by first|exact UY rfl|exact UX O) GN)
   (ak (fg Qdr rfl (xt rfl T.Qa0 (af (pv 1) ai)) (aC (i:=4) qQ.nd O (by first|exact UY rfl|exact UX O)) (ak (aR (i:=3) qQ.nd O (by first|exact UY rfl|exact UX O) (br fR (hr.mono (by decide)) rfl (af (pv 0) (af (pv 2) ai))))
   (av (bo (jQ (Bv (pv 3))) (av NQ) bp))))
   (av (bo (jQ (Qd (pv 3))) (av (mS cx pj (hr.mono (by decide)) rfl (af mV ai))) bp)))))),?_⟩
  refine⟨_,O,q,a.Layout,dx,_,_,O,ex,T.Vu,T.ZJ,qJ,r.p,_,O,.inl (P'.of hp),fun d nd=>?_⟩
  have s1:ae H (upd H d (.dK [])):=ae.new nd
  have h1:upd H d (.dK []) d=i' (.dK []):=ah
  generalize upd H d (.dK [])=H1 at s1 h1 ⊢
  have L1:=L.same s1
  have lay:∀ G,Kx [r.p,d] H1 G→bT a.Layout G q r bH 2:=fun G kx=>L1.kx kx fun x hx=>by
   rcases V5.mp hx with z|z
   .exact .inl z
   .rw[Vn.mp z]
    exact .inr (.inr (.inr ⟨[],h1⟩))
  have zn:∀ G,Kx [r.p,d] H1 G→Kx [r.p] H G:=fun G kx b o e z=>kx b o (s1 b o e) fun y=>by
   rcases V5.mp y with y|y
   .exact z (by rw[y];simp)
   .rw[Vn.mp y,nd] at e
    cases e
  refine⟨_,O,_,O,by decide,by decide,EU (lo:=0) (n:=2) (fun i σ G=>∃ v3 v4 kvs l,σ=[i' (.ref q),i' (.int 2),i' (.ref d),v3,v4]∧Kx [r.p,d] H1 G∧G r.p=i' (iL l)∧G d=i' (.dK kvs)∧((i=0∧l=[0,0]∧kvs=[])∨(i=1∧l=[0,2]∧kvs=pu4)))
   ⟨_,B',[],[0,0],rfl,Kx.of (ae.refl _),s1 _ _ hp,h1,.inl ⟨rfl,rfl,rfl⟩⟩ ?_ ?_⟩
  .rintro i σ G hi ⟨v3,v4,kvs,l,rfl,kx,hG,oB,h⟩
   dsimp only[bE]
   rcases h with⟨rfl,rfl,rfl⟩|⟨rfl,rfl,rfl⟩
   .refine⟨_,O,_,O,q,r,bH,2,_,d,_,O,lay G kx,hG,O,ok4,by decide,oB,by decide,fun H2 gO h2 cC=>?_⟩
    rw[Qlb] at h2 cC ⊢
    exact⟨_,O,_,O,gC ⟨_,_,_,_,O,kx.trans gO,h2,cC,.inr ⟨O,O,O⟩⟩⟩
   .refine⟨_,O,_,O,q,r,bH,2,_,d,_,O,lay G kx,hG,O,ok4,by decide,oB,by decide,fun H2 gO h2 cC=>?_⟩
    rw[Qlc] at h2 cC ⊢
    exact⟨_,O,_,O,cY (k1 H2 (zn _ (kx.trans gO)) h2)⟩
  .rintro σ G ⟨v3,v4,kvs,l,_,_,_,_,⟨z,_⟩|⟨z,_⟩⟩<;>exact U' z (by decide)
end
def intOf:Option V→Option Int
 | some (.int i)=>i' i
 | _=>B'
def gI (kvs:Vl) (v:Nat):Option Int:=intOf (aS kvs (Va (v:Int)))
def Wf (kvs:Vl):Prop:=∀ p∈kvs,∃ (v:Nat) (i:Int),p=(Va (v:Int),V.int i)
theorem Wf.val {kvs:Vl} (h:Wf kvs) (v:Nat):aS kvs (Va (v:Int))=(gI kvs v).map V.int:=by
 unfold gI
 cases e:aS kvs (Va (v:Int)) with
 | none=>rfl
 | some x=>
  unfold aS at e
  obtain⟨p,e1,e2⟩:=Qan.mp e
  obtain⟨u,i,e3⟩:=h p (List.mem_of_find?_eq_some e1)
  rw[e3] at e2
  rw[← e2]
  rfl
theorem Wf.put {kvs:Vl} (h:Wf kvs) (v:Nat) (i:Int):Wf (bi kvs (Va (v:Int)) (.int i)):=fun p hp=>by
 unfold bi at hp
 split at hp
 .obtain⟨p',h1,h2⟩:=W4.mp hp
  obtain⟨u,j,rfl⟩:=h p' h1
  split at h2
  .exact⟨u,i,h2.symm⟩
  .exact⟨u,j,h2.symm⟩
 .rcases Wb.mp hp with z|z
  .exact h p z
  .exact⟨v,i,Vn.mp z⟩
theorem Qlf (kvs:Vl) (v:Nat) (i:Int):gI (bi kvs (Va (v:Int)) (.int i))=up (gI kvs) v (i' i):=by
 funext u
 unfold gI
 rw[BF]
 by_cases c:u=v
 .subst c
  rw[U3 rfl,qF]
  rfl
 .rw[U4 (fun z=>c (by injection z with z;exact QdL z)),rA _ _ c]
theorem Wf.Qa2 {kvs:Vl}{v:Nat} (h:Wf kvs) (hd:H d=i' (.dK kvs)):bS H d (.int (v:Nat)) ((gI kvs v).map V.int):=.inl ⟨kvs,Va (v:Int),.inl hd,O,(h.val v).symm⟩
def ZM (s:Nat×Int):Dt:=.tup [.int s.1,.int s.2]
variable {am:List Int}{c j:Nat}{s st:Nat×Int}
def sts (ws:List Wt) (c:Nat) (P fl:List Int) (x:Nat):List (Nat×Int):=(goN ws x).map (fun n=>(n,WL (wn ws c) (fn P) n))++((Ze ws x).filter fun n=>decide (0<fn fl n)).map fun n=>(n,0)
def near:Option Int→Int→Bool
 | none,_=>D'
 | some b,e=>decide (e<b)
def Ws (ws:List Wt) (c:Nat) (far:Vl) (x:Nat) (a:Int) (s:Vl×Vl) (st:Nat×Int):Vl×Vl:=
 if (!(gI far (ac (wn ws c) st.1 x)).isSome && near (gI s.1 (ac (wn ws c) st.1 x)) (a+st.2))=D' then
  (bi s.1 (Va ((ac (wn ws c) st.1 x:Nat):Int)) (.int (a+st.2)),bi s.2 (Va ((ac (wn ws c) st.1 x:Nat):Int)) (.int (st.1:Nat))) else s
def uq (ws:List Wt) (c:Nat) (P fl:List Int) (far:Vl) (x:Nat) (a:Int) (s:Vl×Vl):Vl×Vl:=(sts ws c P fl x).foldl (Ws ws c far x a) s
theorem Qlg {far:Vl}{x:Nat}{a:Int}{s:Vl×Vl} (h:Wf s.1∧Wf s.2):(Wf (Ws ws c far x a s st).1∧Wf (Ws ws c far x a s st).2)∧(Ws ws c far x a s st).1.length≤s.1.length+1∧(Ws ws c far x a s st).2.length≤s.2.length+1:=by
 unfold Ws
 split
 .exact⟨⟨h.1.put _ _,h.2.put _ _⟩,xq _ _ _,xq _ _ _⟩
 .exact⟨h,by lia,by lia⟩
theorem Qfb {x:Nat} (h:n∈goN ws x):n<ws.length:=Qbg.mp (ZX.mp h).1
theorem Qfc {x:Nat} (h:n∈Ze ws x):n<ws.length:=Qbg.mp (ZX.mp h).1
theorem Qlh {P fl:List Int}{x:Nat} (h:s∈sts ws c P fl x):s.1<ws.length:=by
 rcases Wb.mp h with z|z
 .obtain⟨n,hn,rfl⟩:=W4.mp z
  exact Qfb hn
 .obtain⟨n,hn,rfl⟩:=W4.mp z
  exact Qfc (ZX.mp hn).1
theorem Qli (ws:List Wt) (x:Nat):(goN ws x).length≤ws.length:=by
 have:=XO (fun n=>decide ((ws.getD n (0,0,0,0)).1=x)) (VX ws.length)
 rw[ZV] at this
 exact this
theorem Qlj (ws:List Wt) (x:Nat):(Ze ws x).length≤ws.length:=by
 have:=XO (fun n=>decide ((ws.getD n (0,0,0,0)).2.1=x)) (VX ws.length)
 rw[ZV] at this
 exact this
theorem HG {K:R'}{H:Hp}:∀ {ds:List Dt}{xs:List V}{es:List Dt}{ys:List V},a8 K H ds xs→a8 K H es ys→a8 K H (ds++es) (xs++ys)
 | [],xs,es,ys,h,h'=>by
  have e:xs=[]:=h
  subst e
  exact h'
 | d::ds,xs,es,ys,h,h'=>by
  obtain⟨y,r,e,h1,h2⟩:=h
  subst e
  exact⟨y,r++ys,O,h1,HG h2 h'⟩
theorem wW {K:R'} (h:VW K H (ZM s) x):∃ t,x=.ref t∧Vi K H t [.int s.1,.int s.2]:=by
 obtain⟨t,xs,rfl,h,y1,r1,rfl,e1,y2,r2,rfl,e2,e3⟩:=h
 have z1:y1=.int s.1:=e1
 have z2:y2=.int s.2:=e2
 have z3:r2=[]:=e3
 subst z1 z2 z3
 exact⟨t,O,h⟩
theorem vi {l:List Nat} (h:(nums l)[j]?=i' x):∃ n,l[j]?=i' n∧x=.int (n:Nat):=by
 unfold nums at h
 rw[WJ] at h
 cases e:l[j]? with
 | none=>rw[e] at h;cases h
 | some n=>rw[e] at h;exact⟨n,O,(VQ h).symm⟩
section
variable {K:R'}
inductive Qlk (C:F') (vs:List V) (H:Hp) (Q:VK) (bg:XK):Prop
 | mk (q r ws c p fl fA wA cA far wt cm:_) (x:Nat) (e:Int) (_:vs=[.ref q,.int x,.ref fA,.ref wA,.ref cA]) (_:bT C H q r ws c) (_:H r.p=i' (.lst ((p:List Int).map V.int))) (_:p.length=c) (_:H r.f=i' (.lst ((fl:List Int).map V.int))) (_:fl.length=ws.length) (_:(wn ws c).Ok) (_:ws.length≤200) (_:x<c) (_:H fA=i' (.dK far)) (_:Wf far) (_:gI far x=i' e) (_:H wA=i' (.dK wt)) (_:Wf wt) (_:wt.length≤1000000) (_:H cA=i' (.dK cm)) (_:Wf cm) (_:cm.length≤1000000) (_:fA≠wA) (_:fA≠cA) (_:wA≠cA) (_:∀ H',Kx [wA,cA] H H'→H' wA=i' (.dK (uq ws c p fl far x e (wt,cm)).1)→H' cA=i' (.dK (uq ws c p fl far x e (wt,cm)).2)→Q .U8 H')
theorem OW (T:Tx K mg a):Vz P w K mg base Vp 2 "look_around" ["layout","point","far","waiting","came_by"] [] (Qlk a.Layout):=T.Qj7.Vq fun f fd F=>by
 have QaW:=Gw (P:=P) (w:=w) (base:=base) T
 have ZL:=AQ (P:=P) (w:=w) (base:=base) T
 refine F.ok qE (fun vs H Q E h=>?_) (fun aw A outer s H vs Q E hr h=>?_)
 .obtain⟨q,r,ws,c,p,fl,fA,wA,cA,far,wt,cm,x,e,rfl,_⟩:=h
  rfl
 .obtain⟨q,r,ws,c,p,fl,fA,wA,cA,far,wt,cm,x,e,rfl,L,hp,hc,hf,yn,ok,hw,hx,tX,Cj,ge,J1,Jk,cZ,mL,Lr,lq,n1,n2,n3,k⟩:=h
  obtain⟨dx,ex⟩:=L.ex
  obtain⟨gs,g1,g2,g3⟩:=L.hg
  obtain⟨cs,c1,c2,c3⟩:=L.hc
  obtain⟨ga,lr⟩:=hV (l:=gs) (j:=x) (by lia)
  obtain⟨ca,mo⟩:=hV (l:=cs) (j:=x) (by lia)
  have li:=(g3 x ga lr).1
  have DY:=(c3 x ca mo).1
  have yu:V1 (gs.map V.ref) (x:Int)=i' (.ref ga):=by rw[iw (by lia),WA,WJ,lr];rfl
  have yA:V1 (cs.map V.ref) (x:Int)=i' (.ref ca):=by rw[iw (by lia),WA,WJ,mo];rfl
  have gl:=Qli ws x
  have cl:=Qlj ws x
  refine⟨_,(ak (rD (i:=5) qE.nd O O (N:=["number","layout"]) (cap:=[B',i' 0]) O (bN (osc:=ay wO) (XN:=["layout","point","far","waiting","came_by","steps","number","slack","neighbour","distance"]) O O (by decide +kernel)) (bF (aF bb (bf (pv 0) rfl) (pv 1) (fun _ _=>O))) (fun cl C s H fp aa=>(aC (i:=0) (show(["number","layout"]:List C').Nodup by decide +kernel) rfl (by first|exact UY rfl|exact UX O))) (fun cl C s H fp aa=>cH) (fun cl C s H fp aa=>(fZ (af (pv 0) (af (pM (pv 1) T.Vu QaW (hr.mono (by decide)) (af (pv 0) ai)) ai)))) (hsw:=O))
   (ak (cF (cW WU Qbe QbR xB (pv 5) (af (cN (N:=["number","layout"]) (cap:=[B',i' 0]) O (bN (osc:=ay wO) (XN:=["layout","point","far","waiting","came_by","steps","number","slack","neighbour","distance"]) O O (by decide +kernel)) (bF (aF bb (bf (pv 0) rfl) (pv 1) (fun _ _=>O))) (fun cl C s H fp aa=>(aC (i:=0) (show(["number","layout"]:List C').Nodup by decide +kernel) rfl (by first|exact UY rfl|exact UX O))) (fun cl C s H fp aa=>uM (a7 kK (aF (uV (K:=K) O) (Bq (K:=K) O (pv 1) O) (pv 0) (fun _ _=>O)) au (aV _))) (fun cl C s H fp aa=>(fZ (af (pv 0) (af au ai))))) ai)))
   (av (fg Wu rfl (bF (pv 5)) (iW rfl (aP (aC (i:=6) qE.nd O (by first|exact UY rfl|exact UX O)) (aP (aC (i:=7) qE.nd O (by first|exact UY rfl|exact UX O)) cV))) (ak (aR (i:=8) qE.nd O (by first|exact UY rfl|exact UX O) (pM (pv 0) T.Vu ZL (hr.mono (by decide)) (af (pv 6) (af (pv 1) ai))))
   (ak (aR (i:=9) qE.nd O (by first|exact UY rfl|exact UX O) (aX md (dU (bw hr) (pv 2) (pv 1) (fun _ _=>O)) (pv 7)))
   (av (bo (PW.pt (pI (jQ (BG (bw hr) (pv 8) (pv 2))) (qM (PW.pt (lS (jQ (BG (bw hr) (pv 8) (pv 3))) (qT (a7 mX (pv 9) (dU (bw hr) (pv 3) (pv 8) (fun _ _=>O)) (aV _)))))))) (ak (lP (bw hr) (pv 3) (pv 8) (pv 9) O)
   (av (lP (bw hr) (pv 4) (pv 8) (pv 6) rfl))) bp)))))))),?_⟩
  refine⟨_,O,q,a.Layout,dx,_,_,O,ex,T.Vu,T.QcV,Fv,_,O,r.g,_,_,_,O,O,P'.of g1,yu,ga,O,⟨_,P'.of li⟩,fun D hD=>?_⟩
  refine dv (K:=K) (a:=ga) (xs:=nums (goN ws x)) (fun j τ G=>∃ v1 ys,τ=[v1,i' (.ref q)]∧ae H G∧G D=i' (.lst ys)∧a8 K G ((((goN ws x).take j).map fun n=>(n,WL (wn ws c) (fn p) n)).map ZM) ys) ⟨B',[],O,ae.new hD,ah,O⟩ ?_ ?_ ?_
  .rintro j τ G _ ⟨_,_,rfl,sg,_⟩
   exact P'.of (sg _ _ li)
  .rintro j y τ G hy ⟨v1,ys,rfl,sg,Ed,eQ⟩
   obtain⟨n,hn,rfl⟩:=vi hy
   have nl:=Qfb (V9 hn)
   have kn:ys.length≤200:=by
    have:=eQ.length
    rw[U1,U1,VJ] at this
    lia
   dsimp only[bE,cX]
   rw[U3 rfl]
   refine⟨_,O,_,O,q,dx,_,O,sg _ _ ex,by rfl,_,O,q,r,ws,c,p,n,O,L.same sg,sg _ _ hp,hc,nl,ok,(by show 2≤U2;decide),fun z nz=>?_⟩
   have s5:ae G (upd G z (.tup [.int (n:Nat),.int (WL (wn ws c) (fn p) n)])):=ae.new nz
   have h5:upd G z (.tup [.int (n:Nat),.int (WL (wn ws c) (fn p) n)]) z=i' (.tup [.int (n:Nat),.int (WL (wn ws c) (fn p) n)]):=ah
   generalize upd G z (.tup [.int (n:Nat),.int (WL (wn ws c) (fn p) n)])=H5 at s5 h5 ⊢
   refine⟨_,s5 _ _ Ed,by rw[Vm];lia,_,_,O,cz hD (sg.trans s5),ah,?_⟩
   rw[bB hn,Vr,Vr]
   have kp:Tk H5 (upd H5 D (.lst (ys++[.ref z]))):=Tk.upd (s5 _ _ Ed) rfl
   exact a8.snoc (d:=ZM (n,WL (wn ws c) (fn p) n)) (kp.dt O ⟨z,_,O,Vi.of h5,_,_,O,O,_,_,O,O,O⟩) (kp.Vs (cy (fun _=>O) _) (s5.Vs eQ))
  rintro τ H1 ⟨v1,ys,rfl,s1,ju,kN⟩
  rw[XM (by unfold nums;rw[U1];exact Xh _)] at kN
  have ky:ys.length≤200:=by
   have:=kN.length
   rw[U1,U1] at this
   lia
  have Rs:H D=B':=hD
  refine⟨_,O,.inl ⟨O,_,P'.of ju⟩,_,O,q,a.Layout,dx,_,_,O,s1 _ _ ex,T.Vu,T.QcU,GQ,_,O,r.c,_,_,_,O,O,P'.of (s1 _ _ c1),yA,ca,O,⟨_,P'.of (s1 _ _ DY)⟩,fun Z hZ=>?_⟩
  refine dv (K:=K) (a:=ca) (xs:=nums (Ze ws x)) (fun j τ G=>∃ v1 zs,τ=[v1,i' (.ref q)]∧ae H1 G∧G Z=i' (.lst zs)∧a8 K G (((((Ze ws x).take j).filter fun n=>decide (0<fn fl n)).map fun n=>(n,(0:Int))).map ZM) zs) ⟨B',[],O,ae.new hZ,ah,O⟩ ?_ ?_ ?_
  .rintro j τ G _ ⟨_,_,rfl,sg,_⟩
   exact P'.of (sg _ _ (s1 _ _ DY))
  .rintro j y τ G hy ⟨v1,zs,rfl,sg,zT,eQ⟩
   obtain⟨n,hn,rfl⟩:=vi hy
   have nl:=Qfc (V9 hn)
   have tg:=s1.trans sg
   have kn:zs.length≤200:=by
    have e1:=eQ.length
    have e2:=XO (fun n=>decide (0<fn fl n)) ((Ze ws x).take j)
    rw[U1,U1] at e1
    rw[VJ] at e2
    lia
   dsimp only[bE]
   refine⟨_,O,q,a.Layout,dx,_,_,O,tg _ _ ex,T.Vu,T.ZI,um,_,O,r.f,_,_,_,O,O,P'.of (tg _ _ hf),ra (by lia),_,_,O,O,_,O,?_⟩
   refine bc (fun b1=>?_) (fun b1=>?_)
   .have b2:decide (0<fn fl n)=D':=decide_eq_true (of_decide_eq_true b1)
    refine⟨_,O,(by show 2≤U2;decide),fun z nz=>?_⟩
    have s5:ae G (upd G z (.tup [.int (n:Nat),.int 0])):=ae.new nz
    have h5:upd G z (.tup [.int (n:Nat),.int 0]) z=i' (.tup [.int (n:Nat),.int 0]):=ah
    generalize upd G z (.tup [.int (n:Nat),.int 0])=H5 at s5 h5 ⊢
    refine⟨_,s5 _ _ zT,by rw[Vm];lia,_,_,O,cz hZ (sg.trans s5),ah,?_⟩
    rw[bB hn,Zj,W2,U3 b2,QaE,Vr,Vr]
    have kp:Tk H5 (upd H5 Z (.lst (zs++[.ref z]))):=Tk.upd (s5 _ _ zT) rfl
    exact a8.snoc (d:=ZM (n,0)) (kp.dt O ⟨z,_,O,Vi.of h5,_,_,O,O,_,_,O,O,O⟩) (kp.Vs (cy (fun _=>O) _) (s5.Vs eQ))
   .have b2:decide (0<fn fl n)=M':=decide_eq_false (of_decide_eq_false b1)
    refine⟨_,zs,O,sg,zT,?_⟩
    rw[bB hn,Zj,W2,U4 (by rw[b2];decide),QaE,Xq]
    exact eQ
  rintro τ H2 ⟨v2,zs,rfl,s2,DW,kY⟩
  rw[XM (by unfold nums;rw[U1];exact Xh _)] at kY
  have kz:zs.length≤200:=by
   have e1:=kY.length
   have e2:=XO (fun n=>decide (0<fn fl n)) (Ze ws x)
   rw[U1,U1] at e1
   lia
  have dI:=s2 _ _ ju
  refine⟨D,Z,ys,zs,O,O,dI,DW,by rw[Vm];lia,?_⟩
  have x6:Tk H2 (upd H2 D (.lst (ys++zs))):=Tk.upd dI rfl
  have jv:a8 K (upd H2 D (.lst (ys++zs))) ((sts ws c p fl x).map ZM) (ys++zs):=by
   unfold sts
   rw[Vr]
   exact HG (x6.Vs (cy (fun _=>O) _) (s2.Vs kN)) (x6.Vs (cy (fun _=>O) _) kY)
  have s3:ae H (upd H2 D (.lst (ys++zs))):=cz hD (s1.trans s2)
  have h3:upd H2 D (.lst (ys++zs)) D=i' (.lst (ys++zs)):=ah
  generalize upd H2 D (.lst (ys++zs))=H3 at jv s3 h3 ⊢
  clear kN kY ju dI DW x6 s1 s2
  have x8:=s3 _ _ tX
  have kZ:=s3 _ _ J1
  have kP:=s3 _ _ mL
  have L3:=L.same s3
  generalize cO:sts ws c p fl x=st at jv
  have qz:∀ s∈st,s.1<ws.length:=fun s hs=>Qlh (by rw[cO];exact hs)
  have R4:st.length≤400:=by
   have:=jv.length
   rw[U1,WM] at this
   lia
  have lay:∀ G,Kx [wA,cA] H3 G→bT a.Layout G q r ws c:=fun G kx=>L3.kx kx fun y hy=>by
   rcases V5.mp hy with z|z
   .rw[z]
    exact .inr (.inr (.inr ⟨wt,kZ⟩))
   .rw[Vn.mp z]
    exact .inr (.inr (.inr ⟨cm,kP⟩))
  have rV:∀ G,Kx [wA,cA] H3 G→Tk H3 G:=fun G kx b o e z=>kx b o e fun y=>by
   rcases V5.mp y with y|y
   .rw[y,kZ] at e
    cases e
    cases z
   .rw[Vn.mp y,kP] at e
    cases e
    cases z
  have kD:∀ G,Kx [wA,cA] H3 G→G D=i' (.lst (ys++zs)):=fun G kx=>kx _ _ h3 fun y=>by
   rcases V5.mp y with y|y
   .rw[y,kZ] at h3
    cases h3
   .rw[Vn.mp y,kP] at h3
    cases h3
  have kF:∀ G,Kx [wA,cA] H3 G→G fA=i' (.dK far):=fun G kx=>kx _ _ x8 fun y=>by
   rcases V5.mp y with y|y
   .exact n1 y
   .exact n2 (Vn.mp y)
  refine⟨_,O,D,O,⟨_,P'.of h3⟩,jW (K:=K) (a:=D) (xs:=ys++zs) (fun i σ G=>∃ v6 v7 v8 v9,σ=[i' (.ref q),i' (.int (x:Nat)),i' (.ref fA),i' (.ref wA),i' (.ref cA),i' (.ref D),v6,v7,v8,v9]∧Kx [wA,cA] H3 G∧G wA=i' (.dK ((st.take i).foldl (Ws ws c far x e) (wt,cm)).1)∧G cA=i' (.dK ((st.take i).foldl (Ws ws c far x e) (wt,cm)).2)∧(Wf ((st.take i).foldl (Ws ws c far x e) (wt,cm)).1∧Wf ((st.take i).foldl (Ws ws c far x e) (wt,cm)).2)∧((st.take i).foldl (Ws ws c far x e) (wt,cm)).1.length≤1000000+i∧((st.take i).foldl (Ws ws c far x e) (wt,cm)).2.length≤1000000+i)
   ⟨B',B',B',B',rfl,Kx.of (ae.refl _),kZ,kP,⟨Jk,Lr⟩,cZ,lq⟩ ?_ ?_ ?_⟩
  .rintro i σ G _ ⟨_,_,_,_,rfl,kx,_⟩
   exact P'.of (kD G kx)
  .rintro i y σ G hy ⟨v6,v7,v8,v9,rfl,kx,lH,mC,wf,lw,lc⟩
   obtain⟨⟨n,d⟩,hs,ds⟩:=eX jv hy
   have hi:i<st.length:=(VI.mp hs).1
   have nl:=qz _ (V9 hs)
   obtain⟨t,rfl,ht⟩:=wW ((rV G kx).dt O ds)
   have LG:=lay G kx
   obtain⟨qv,Xu⟩:=LG.ex
   have fo:(st.take (i+1)).foldl (Ws ws c far x e) (wt,cm)=Ws ws c far x e ((st.take i).foldl (Ws ws c far x e) (wt,cm)) (n,d):=by rw[bB hs,YR];rfl
   rw[fo]
   obtain⟨r1,r2,r3⟩:=Qlg (ws:=ws) (c:=c) (far:=far) (x:=x) (a:=e) (st:=(n,d)) wf
   generalize (st.take i).foldl (Ws ws c far x e) (wt,cm)=now at lH mC wf lw lc r1 r2 r3 ⊢
   refine⟨t,_,O,ht,O,_,_,O,_,_,O,O,?_⟩
   refine⟨_,O,q,qv,_,O,Xu,by rfl,_,O,_,O,q,r,ws,c,n,x,O,LG,nl,?_⟩
   have gf:=Cj.Qa2 (v:=x) (kF G kx)
   rw[ge] at gf
   refine⟨_,O,_,O,fA,_,O,gf,_,O,_,_,O,O,?_⟩
   generalize vK:ac (wn ws c) n x=nb
   have gn:=Cj.Qa2 (v:=nb) (kF G kx)
   have gw:=wf.1.Qa2 (v:=nb) lH
   have rx:Ws ws c far x e now (n,d)=if (!(gI far nb).isSome && near (gI now.1 nb) (e+d))=D' then(bi now.1 (Va ((nb:Nat):Int)) (.int (e+d)),bi now.2 (Va ((nb:Nat):Int)) (.int (n:Nat))) else now:=by rw[← vK];rfl
   dsimp only[bE]
   refine⟨_,O,_,O,fA,_,O,gn,_,O,?_⟩
   cases ef:gI far nb with
   | some b=>
    rw[ef] at rx
    have rx:Ws ws c far x e now (n,d)=now:=rx
    refine gC (gC ⟨_,_,_,_,O,kx,?_,?_,r1,by lia,by lia⟩)
    .rw[rx];exact lH
    .rw[rx];exact mC
   | none=>
    rw[ef] at rx
    refine cY ?_
    refine⟨_,O,_,O,wA,_,O,gw,_,O,?_⟩
    cases ew:gI now.1 nb with
    | none=>
     rw[ew] at rx
     have rx:Ws ws c far x e now (n,d)=(bi now.1 (Va ((nb:Nat):Int)) (.int (e+d)),bi now.2 (Va ((nb:Nat):Int)) (.int (n:Nat))):=rx
     refine cY (cY ?_)
     refine⟨_,O,_,O,_,O,wA,_,O,.inl ⟨now.1,Va ((nb:Nat):Int),lH,O,by rw[Vm];lia,O⟩,?_⟩
     refine⟨_,O,_,O,_,O,cA,_,O,.inl ⟨now.2,Va ((nb:Nat):Int),by rw[aj (U5 n3)];exact mC,O,by rw[Vm];lia,O⟩,?_⟩
     refine⟨_,_,_,_,O,(kx.trans (Kx.upd (by simp))).trans (Kx.upd (by simp)),?_,?_,r1,by lia,by lia⟩
     .rw[aj n3,ah,rx]
     .rw[ah,rx]
    | some b=>
     rw[ew] at rx gw
     refine gC ?_
     refine⟨_,O,_,O,_,O,wA,_,O,gw,_,_,O,O,_,O,?_⟩
     refine bc (fun b1=>?_) (fun b1=>?_)
     .have b2:decide (e+d<b)=D':=b1
      have rx:Ws ws c far x e now (n,d)=(bi now.1 (Va ((nb:Nat):Int)) (.int (e+d)),bi now.2 (Va ((nb:Nat):Int)) (.int (n:Nat))):=by
       rw[rx]
       exact U3 b2
      refine⟨_,O,_,O,_,O,wA,_,O,.inl ⟨now.1,Va ((nb:Nat):Int),lH,O,by rw[Vm];lia,O⟩,?_⟩
      refine⟨_,O,_,O,_,O,cA,_,O,.inl ⟨now.2,Va ((nb:Nat):Int),by rw[aj (U5 n3)];exact mC,O,by rw[Vm];lia,O⟩,?_⟩
      refine⟨_,_,_,_,O,(kx.trans (Kx.upd (by simp))).trans (Kx.upd (by simp)),?_,?_,r1,by lia,by lia⟩
      .rw[aj n3,ah,rx]
      .rw[ah,rx]
     .have b2:decide (e+d<b)=M':=b1
      have rx:Ws ws c far x e now (n,d)=now:=by
       rw[rx]
       exact U4 (by show ¬ decide (e+d<b)=D';rw[b2];decide)
      refine⟨_,_,_,_,O,kx,?_,?_,r1,by lia,by lia⟩
      .rw[rx];exact lH
      .rw[rx];exact mC
  .rintro σ G ⟨v6,v7,v8,v9,rfl,kx,lH,mC,_⟩
   have hl:(ys++zs).length=st.length:=by rw[← jv.length,U1]
   rw[hl,We] at lH mC
   refine k G (fun b o q z=>kx b o (s3 b o q) z) ?_ ?_
   .rw[lH]
    unfold uq
    rw[cO]
   .rw[mC]
    unfold uq
    rw[cO]
end
abbrev Vt (x:Nat):Vl:=[(Va (x:Int),.int 0)]
abbrev hJ:Vl:=[(Va 0,.int 0),(Va 1,.int 0)]
theorem wf1 (x:Nat):Wf (Vt x):=fun p hp=>by rw[Vn.mp hp];exact⟨x,0,O⟩
theorem wf0:Wf []:=fun p hp=>by cases hp
theorem Qll:uq bH 2 [0,2] [0,0] (Vt 0) 0 0 ([],[])=(Vt 1,Vt 1):=by decide +kernel
theorem qK:bi ([]:Vl) (Va 0) (.int 0)=Vt 0∧bi (Vt 0) (Va 1) (.int 0)=hJ∧iV (Vt 0) (Va 0)=[]∧iV (Vt 1) (Va 1)=[]:=by decide +kernel
theorem Qc8 (x:Nat):aS (Vt x) (Va (x:Int))=i' (.int 0):=dr rfl
section
variable {K:R'}
inductive Nk (t:VS) (vs:List V) (H:Hp) (Q:VK) (bg:XK):Prop
 | mk (q r fA cA:_) (_:vs=[.ref q,.ref fA,.ref cA]) (_:bT t.Layout H q r bH 2) (_:H r.p=i' (iL [0,2])) (_:H r.f=i' (iL [0,0])) (_:H r.n=i' (iL [-8,8])) (_:H fA=i' (.dK [])) (_:H cA=i' (.dK [])) (_:fA≠cA) (_:H t.YK=i' (.V' ko kH)) (_:∀ H',Kx [fA,cA] H H'→H' fA=i' (.dK hJ)→H' cA=i' (.dK (Vt 1))→Q (.int 1) H')
theorem NO (T:Tx K mg a):Vz P w K mg base Vp 4 "search" ["layout","far","came_by"] [] (Nk a):=T.Qj6.Qjp T.Qe8 fun f fd F LM=>by
 have dJ:=OW (P:=P) (w:=w) (base:=base) T
 refine F.okL LM vh (fun vs H Q E h=>?_) (fun cc A outer s H vs Q E hc hr h=>?_)
 .obtain⟨q,r,fA,cA,rfl,_⟩:=h
  rfl
 .obtain⟨q,r,fA,cA,rfl,L,hp,hf,hn,tX,mL,nY,iM,k⟩:=h
  obtain⟨dx,ex⟩:=L.ex
  refine⟨_,(ak (aR (i:=3) vh.nd O (by first|exact UY rfl|exact UX O) mW)
   (ak (fg Wu rfl (ve rfl T.QaZ (af (bf (pv 0) rfl) ai)) (iW rfl (aP (aC (i:=4) vh.nd O (by first|exact UY rfl|exact UX O)) (aP (aC (i:=5) vh.nd O (by first|exact UY rfl|exact UX O)) cV))) (av (bo (a7 mX (pv 5) au (aV _)) (av (lP (bw hr) (pv 3) (pv 4) au O)) bp)))
   (av (vm Wu (iT uz) (ak (aR (i:=4) vh.nd O (by first|exact UY rfl|exact UX O) (PQ (N:=["candidate","waiting"]) (cap:=[B',i' 3]) O T.Qc7 hr (af (pv 3) ai) O hc (bN (osc:=ay Bz) (XN:=["layout","far","came_by","waiting","point","need"]) O O (by decide +kernel)) (fun f c' s H=>(dU (bw (bj.deeper (k:=0) (bj.in1 (hr.mono (by decide))) _)) (pv 1) (pv 0) (fun _ _=>O)))))
   (ak (lP (bw hr) (pv 1) (pv 4) (O7 (pv 3) (pv 4) ⟨rfl,rfl,rfl,rfl⟩) rfl)
   (ak (bo (a7 kK (aF bb (bf (pv 0) rfl) (pv 4) (fun _ _=>O)) au (aV _)) (av (aK (pv 4))) bp)
   (av (cF (br dJ (hr.mono (by decide)) rfl (af (pv 0) (af (pv 4) (af (pv 1) (af (pv 3) (af (pv 2) ai))))))))))))))),?_⟩
  refine fun wA vN=>?_
  have uj:fA≠wA:=ao tX vN
  have zh:cA≠wA:=ao mL vN
  have s1:ae H (upd H wA (.dK [])):=ae.new vN
  have h1:upd H wA (.dK []) wA=i' (.dK []):=ah
  generalize upd H wA (.dK [])=H1 at s1 h1 ⊢
  have Cp:∀ y∈[fA,cA,wA],Dc H1 y:=fun y hy=>by
   simp only[V5,Zk,Wo] at hy
   rcases hy with z|z|z<;>rw[z]
   .exact⟨_,s1 _ _ tX⟩
   .exact⟨_,s1 _ _ mL⟩
   .exact⟨_,h1⟩
  have lay:∀ G,Kx [fA,cA,wA] H1 G→bT a.Layout G q r bH 2:=fun G kx=>(L.same s1).kx kx fun y hy=>.inr (.inr (.inr (Cp y hy)))
  have keep:∀ G,Kx [fA,cA,wA] H1 G→∀ b o,H1 b=i' o→(∀ kvs,o≠.dK kvs)→G b=i' o:=fun G kx b o e z=>kx b o e fun y=>by
   obtain⟨kvs,q⟩:=Cp b y
   rw[e] at q
   cases q
   exact z _ rfl
  refine⟨_,O,q,a.Layout,dx,_,_,O,s1 _ _ ex,T.Vu,T.Yn,nE,r.n,O,⟨_,P'.of (s1 _ _ hn)⟩,AH (K:=K) (l:=r.n) (xs:=([-8,8]:List Int).map V.int) (fun i σ G=>∃ v4 v5,σ=[i' (.ref q),i' (.ref fA),i' (.ref cA),i' (.ref wA),v4,v5]∧Kx [wA] H1 G∧G wA=i' (.dK (if i=0 then[] else Vt 0)))
   ⟨B',B',rfl,Kx.of (ae.refl _),h1⟩ ?_ ?_ ?_⟩
  .rintro i σ G _ ⟨_,_,rfl,kx,_⟩
   exact P'.of (keep G (kx.mono (by simp)) _ _ (s1 _ _ hn) (fun _ z=>by cases z))
  .rintro i y tt σ G hy nt ⟨v4,v5,rfl,kx,hG⟩
   have s3:=ae.new (o:=.tup [.int i,y]) nt
   match i,hy with
   | 0,hy=>
    cases hy
    refine⟨tt,_,O,Vi.of ah,O,_,_,O,_,_,O,O,?_⟩
    refine⟨_,O,_,_,O,O,_,O,fW (by decide) ?_⟩
    refine⟨_,O,_,O,wA,_,O,.inl ⟨[],Va 0,s3 _ _ hG,O,by decide,O⟩,_,_,O,(kx.trans (Kx.of s3)).trans (Kx.upd (by simp)),?_⟩
    rw[ah,qK.1]
    rfl
   | 1,hy=>
    cases hy
    refine⟨tt,_,O,Vi.of ah,O,_,_,O,_,_,O,O,?_⟩
    exact⟨_,O,_,_,O,O,_,O,cI (by decide) ⟨_,_,O,kx.trans (Kx.of s3),s3 _ _ hG⟩⟩
   | i+2,hy=>simp at hy
  .rintro σ G0 ⟨v4,v5,rfl,sx,yp⟩
   have yp:G0 wA=i' (.dK (Vt 0)):=yp
   have zm:Kx [fA,cA,wA] H1 G0:=sx.mono (by simp)
   have yB:G0 fA=i' (.dK []):=sx _ _ (s1 _ _ tX) (by simp[uj])
   have xW:G0 cA=i' (.dK []):=sx _ _ (s1 _ _ mL) (by simp[zh])
   have zn:∀ G,Kx [fA,cA,wA] H1 G→Kx [fA,cA] H G:=fun G kx b o e z=>kx b o (s1 b o e) fun y=>by
    simp only[V5,Zk,Wo] at y z
    rcases y with y|y|y
    .exact z (.inl y)
    .exact z (.inr y)
    .rw[y,vN] at e
     cases e
   refine⟨fun m σ G=>∃ v4 v5 far cm,∃ x:Nat,σ=[i' (.ref q),i' (.ref fA),i' (.ref cA),i' (.ref wA),v4,v5]∧Kx [fA,cA,wA] H1 G∧G fA=i' (.dK far)∧G wA=i' (.dK (Vt x))∧G cA=i' (.dK cm)∧((m=1∧x=0∧far=[]∧cm=[])∨(m=0∧x=1∧far=Vt 0∧cm=Vt 1)),
    ⟨1,v4,v5,[],[],0,rfl,zm,yB,yp,xW,.inl ⟨rfl,rfl,rfl,rfl⟩⟩,?_⟩
   rintro m σ G ⟨v4,v5,far,cm,x,rfl,kx,gf,gw,gc,h⟩
   have CB:far.length≤1:=by rcases h with⟨_,_,e,_⟩|⟨_,_,e,_⟩<;>rw[e]<;>decide
   refine⟨_,O,cY ⟨_,fun σ' H' h=>h,?_⟩⟩
   refine⟨_,O,wA,Vt x,(fun _=>0),O,gw,Nat.succ_pos _,keep G kx _ _ (s1 _ _ iM) (fun _ z=>by cases z),fun y hy o H2 qA=>?_,fun mm H2 sm fm=>?_⟩
   .have ey:y=.int (x:Int):=Vn.mp hy
    rw[ey]
    exact⟨_,O,_,O,wA,.int 0,O,.inl ⟨Vt x,Va (x:Int),.inr ⟨o,qA _ _ ah⟩,O,(Qc8 x).symm⟩,O,ae.refl _⟩
   obtain rfl:mm=.int (x:Int):=by
    obtain⟨i,hi,_⟩:=fm
    match i,hi with
    | 0,hi=>exact(VQ hi).symm
    | i+1,hi=>simp[L2.VM] at hi
   have gO:Kx [fA,cA,wA] H1 H2:=kx.trans (Kx.of sm)
   refine⟨_,O,wA,O,.inl ⟨Vt x,.inl (sm _ _ gw)⟩,_,O,Vt x,Va (x:Int),.int 0,sm _ _ gw,O,Qc8 x,_,O,_,O,fA,_,O,.inl ⟨far,Va (x:Int),by rw[aj uj];exact sm _ _ gf,O,by rw[Vm];lia,O⟩,?_⟩
   have fU:Kx [fA,cA,wA] H1 (upd (upd H2 wA (.dK (iV (Vt x) (Va (x:Int))))) fA (.dK (bi far (Va (x:Int)) (.int 0)))):=(gO.trans (Kx.upd (by simp))).trans (Kx.upd (by simp))
   have f4:upd (upd H2 wA (.dK (iV (Vt x) (Va (x:Int))))) fA (.dK (bi far (Va (x:Int)) (.int 0))) fA=i' (.dK (bi far (Va (x:Int)) (.int 0))):=ah
   have w4:upd (upd H2 wA (.dK (iV (Vt x) (Va (x:Int))))) fA (.dK (bi far (Va (x:Int)) (.int 0))) wA=i' (.dK (iV (Vt x) (Va (x:Int)))):=by rw[aj (U5 uj),ah]
   have c4:upd (upd H2 wA (.dK (iV (Vt x) (Va (x:Int))))) fA (.dK (bi far (Va (x:Int)) (.int 0))) cA=i' (.dK cm):=by rw[aj (U5 nY),aj zh];exact sm _ _ gc
   generalize upd (upd H2 wA (.dK (iV (Vt x) (Va (x:Int))))) fA (.dK (bi far (Va (x:Int)) (.int 0)))=H4 at fU f4 w4 c4 ⊢
   have L4:=lay H4 fU
   obtain⟨Cu,ex4⟩:=L4.ex
   have qi:=keep H4 fU _ _ (s1 _ _ hn) (fun _ z=>by cases z)
   have vS:=keep H4 fU _ _ (s1 _ _ hp) (fun _ z=>by cases z)
   have KL:=keep H4 fU _ _ (s1 _ _ hf) (fun _ z=>by cases z)
   rcases h with⟨rfl,rfl,rfl,rfl⟩|⟨rfl,rfl,rfl,rfl⟩
   .have f4:H4 fA=i' (.dK (Vt 0)):=f4.trans (WS (fun z=>i' (HO.dK z)) qK.1)
    have w4:H4 wA=i' (.dK []):=w4.trans (WS (fun z=>i' (HO.dK z)) qK.2.2.1)
    refine⟨_,O,q,a.Layout,Cu,_,_,O,ex4,T.Vu,T.Yn,nE,_,O,r.n,_,_,.int (-8),O,O,P'.of qi,O,_,_,O,O,_,O,cI (by decide) ?_⟩
    refine⟨_,O,_,O,_,O,_,O,_,O,q,r,bH,2,[0,2],[0,0],fA,wA,cA,Vt 0,[],[],0,0,O,L4,vS,O,KL,O,ok4,by decide,by decide,f4,wf1 0,by decide +kernel,w4,wf0,by decide,c4,wf0,by decide,uj,nY,U5 zh,fun H5 jc BX Df=>?_⟩
    rw[Qll] at BX Df
    exact⟨0,by decide,_,v5,Vt 0,Vt 1,1,O,fU.trans (jc.mono (by simp)),jc _ _ f4 (by simp[uj,nY]),BX,Df,.inr ⟨O,O,O,O⟩⟩
   .have f4:H4 fA=i' (.dK hJ):=f4.trans (WS (fun z=>i' (HO.dK z)) qK.2.1)
    refine⟨_,O,q,a.Layout,Cu,_,_,O,ex4,T.Vu,T.Yn,nE,_,O,r.n,_,_,.int 8,O,O,P'.of qi,O,_,_,O,O,_,O,fW (by decide) ?_⟩
    exact⟨_,O,k H4 (zn _ fU) f4 c4⟩
end
section
variable {K:R'}
theorem Qlm:aS (Vt 1) (Va 0)=B':=by decide +kernel
inductive As (C:F') (vs:List V) (H:Hp) (Q:VK) (bg:XK):Prop
 | mk (q r cA:_) (_:vs=[.ref q,.ref cA,.int 1]) (_:bT C H q r bH 2) (_:H cA=i' (.dK (Vt 1))) (_:∀ g t H',ae H H'→H g=B'→H' g=i' (.lst [.ref t])→H' t=i' (.tup [.int 0,.int 1])→Q (.ref g) H')
theorem Ax (T:Tx K mg a):Vz P w K mg base Vp 2 "way_back" ["layout","came_by","end"] [] (As a.Layout):=T.Qj8.Vq fun f fd F=>by
 have ZL:=AQ (P:=P) (w:=w) (base:=base) T
 refine F.ok wU (fun vs H Q E h=>?_) (fun aw A outer s H vs Q E hr h=>?_)
 .obtain⟨q,r,cA,rfl,_⟩:=h
  rfl
 .obtain⟨q,r,cA,rfl,L,mL,k⟩:=h
  obtain⟨dx,ex⟩:=L.ex
  refine⟨_,(ak (aR (i:=3) wU.nd O (by first|exact UY rfl|exact UX O) (dC ai))
   (ak (aR (i:=4) wU.nd O (by first|exact UY rfl|exact UX O) (pv 2))
   (ak (vm Wu (jQ (BV (bw hr) (pv 4) (pv 1))) (ak (cF (cW WU XQ X9 jo (pv 3) (af (fZ (af (dU (bw hr) (pv 1) (pv 4) (fun _ _=>O)) (af (pv 4) ai))) ai)))
   (av (aR (i:=4) wU.nd O (by first|exact UY rfl|exact UX O) (pM (pv 0) T.Vu ZL (hr.mono (by decide)) (af (dU (bw hr) (pv 1) (pv 4) (fun _ _=>O)) (af (pv 4) ai)))))))
   (av (aK (pv 3)))))),?_⟩
  refine⟨(by show 0≤U2;decide),fun g ng=>?_⟩
  have s1:ae H (upd H g (.lst [])):=ae.new ng
  have h1:upd H g (.lst []) g=i' (.lst []):=ah
  generalize upd H g (.lst [])=H1 at s1 h1 ⊢
  refine⟨_,O,?_⟩
  refine⟨fun m σ G=>∃ xs x,σ=[i' (.ref q),i' (.ref cA),i' (.int 1),i' (.ref g),i' (.int x)]∧ae H G∧G g=i' (.lst xs)∧((m=1∧x=1∧xs=[])∨(m=0∧x=0∧∃ t,xs=[.ref t]∧G t=i' (.tup [.int 0,.int 1]))),
   ⟨1,[],1,rfl,s1,h1,.inl ⟨rfl,rfl,rfl⟩⟩,?_⟩
  rintro m σ G ⟨xs,x,rfl,sg,hg,⟨rfl,rfl,rfl⟩|⟨rfl,rfl,t,rfl,ht⟩⟩
  .have gd:∀ {G':Hp},ae H G'→bS G' cA (.int 1) (i' (.int 0)):=fun s'=>.inl ⟨Vt 1,Va 1,.inl (s' _ _ mL),O,(Qc8 1).symm⟩
   refine⟨_,O,_,O,cA,_,O,gd sg,_,O,cY ⟨_,fun σ' H' h=>h,?_⟩⟩
   refine⟨_,O,.inl ⟨O,_,P'.of hg⟩,_,O,_,O,cA,_,O,gd sg,_,O,(by show 2≤U2;decide),fun t nt=>⟨g,_,_,O,O,ae.new nt _ _ hg,by decide,?_⟩⟩
   have s5:ae G (upd G t (.tup [.int 0,.int 1])):=ae.new nt
   have h5:upd G t (.tup [.int 0,.int 1]) t=i' (.tup [.int 0,.int 1]):=ah
   have gt:t≠g:=U5 (ao hg nt)
   generalize upd G t (.tup [.int 0,.int 1])=H5 at s5 h5 ⊢
   have s6:ae H (upd H5 g (.lst ([]++[.ref t]))):=cz ng (sg.trans s5)
   have h6:upd H5 g (.lst ([]++[.ref t])) g=i' (.lst [.ref t]):=ah
   have t6:upd H5 g (.lst ([]++[.ref t])) t=i' (.tup [.int 0,.int 1]):=by rw[aj gt];exact h5
   generalize upd H5 g (.lst ([]++[.ref t]))=H6 at s6 h6 t6 ⊢
   refine⟨_,O,q,dx,_,O,s6 _ _ ex,by rfl,_,O,_,O,cA,_,O,gd s6,_,O,q,r,bH,2,0,1,O,L.same s6,by decide,?_⟩
   exact⟨0,by decide,[.ref t],0,O,s6,h6,.inr ⟨O,O,t,O,t6⟩⟩
  .have gd:bS G cA (.int 0) B':=.inl ⟨Vt 1,Va 0,.inl (sg _ _ mL),O,Qlm.symm⟩
   exact⟨_,O,_,O,cA,_,O,gd,_,O,gC ⟨_,O,k g t G sg ng hg ht⟩⟩
end
def Yp (N:Wn) (fl nd:Nat→Int) (st:List (Nat×Int)) (e s:Nat):List Int:=nd e::(0-nd s)::((st.filter fun x=>decide (((N.on x.1:Nat):Int)=x.2)).map fun x=>fl x.1)
def Wm (N:Wn) (am:Int) (f:List Int) (x:Nat×Int):List Int:=f.set x.1 (fn f x.1+(if ((N.ot x.1:Nat):Int)=x.2 then am else 0-am))
def ndS (nd:List Int) (s e:Nat) (am:Int):List Int:=(nd.set s (fn nd s+am)).set e (fn (nd.set s (fn nd s+am)) e-am)
theorem EC (N:Wn) (am:Int):∀ (st:List (Nat×Int)) (f:List Int),(st.foldl (Wm N am) f).length=f.length
 | [],_=>rfl
 | x::st,f=>by
  show(st.foldl (Wm N am) (Wm N am f x)).length=_
  rw[EC N am st]
  unfold Wm
  rw[Zn]
theorem Qln (h:xs[xs.length-1]?=i' x):V1 xs (-1)=i' x:=by
 have hp:0<xs.length:=by
  have:=(VI.mp h).1
  lia
 unfold V1 Yi
 rw[U4 (by decide),U3 (by lia)]
 have e2:((-1:Int)+(xs.length:Int)).toNat=xs.length-1:=by lia
 rw[e2]
 exact h
section
variable {K:R'}
inductive LL (K:R') (C:F') (vs:List V) (H:Hp) (Q:VK) (bg:XK):Prop
 | mk (q r ws c fl nd sA st xs:_) (e ln lp:Nat) (_:vs=[.ref q,.ref sA,.int e]) (_:bT C H q r ws c) (_:H r.f=i' (.lst ((fl:List Int).map V.int))) (_:fl.length=ws.length) (_:H r.n=i' (.lst ((nd:List Int).map V.int))) (_:nd.length=c) (_:H sA=i' (.lst xs)) (_:sA≠r.f) (_:sA≠r.n) (_:a8 K H ((st:List (Nat×Int)).map ZM) xs) (_:st.length≤10000) (_:(∀ x∈st,x.1<ws.length)) (_:st[st.length-1]?=i' (ln,((lp:Nat):Int))) (_:e<c) (_:ac (wn ws c) ln lp<c) (_:∀ am H',am∈Yp (wn ws c) (fn fl) (fn nd) st e (ac (wn ws c) ln lp)→(∀ x∈Yp (wn ws c) (fn fl) (fn nd) st e (ac (wn ws c) ln lp),am≤x)→Kx [r.f,r.n] H H' →
  H' r.f=i' (.lst ((st.foldl (Wm (wn ws c) am) fl).map V.int))→H' r.n=i' (.lst ((ndS nd (ac (wn ws c) ln lp) e am).map V.int))→Q .U8 H')
theorem LW (T:Tx K mg a):Vz P w K mg base Vp 2 "send_along" ["layout","steps","end"] [] (LL K a.Layout):=T.Qj9.Vq fun f fd F=>by
 have ZL:=AQ (P:=P) (w:=w) (base:=base) T
 refine F.ok pH (fun vs H Q E h=>?_) (fun aw A outer s H vs Q E hr h=>?_)
 .obtain⟨q,r,ws,c,fl,nd,sA,st,xs,e,ln,lp,rfl,_⟩:=h
  rfl
 .obtain⟨q,r,ws,c,fl,nd,sA,st,xs,e,ln,lp,rfl,L,hf,yn,hn,iP,hs,sf,sn,eQ,cO,qz,yU,Ru,RA,k⟩:=h
  obtain⟨dx,ex⟩:=L.ex
  have lx:st.length=xs.length:=by rw[← eQ.length,U1]
  have pos:0<st.length:=by
   have:=(VI.mp yU).1
   lia
  have Jp:ln<ws.length:=qz _ (V9 yU)
  obtain⟨xl,gr⟩:=hV (l:=xs) (j:=xs.length-1) (by lia)
  obtain⟨s0,Dp,Kr⟩:=eX eQ gr
  rw[← lx,yU] at Dp
  obtain rfl:=VQ Dp
  obtain⟨tl,rfl,Dr⟩:=wW Kr
  refine⟨_,(ak (aR (i:=3) pH.nd O (by first|exact UY rfl|exact UX O) (aF bb (pv 1) (Qet EO au) (fun _ _=>O)))
   (ak (aR (i:=4) pH.nd O (by first|exact UY rfl|exact UX O) (pM (pv 0) T.Vu ZL (hr.mono (by decide)) (af (aF eA (pv 3) au (fun _ _=>O)) (af (aF eA (pv 3) au (fun _ _=>O)) ai))))
   (ak (rD (i:=5) pH.nd O O (N:=["number","point","layout"]) (cap:=[B',B',i' 0]) O (bN (osc:=ay wX) (XN:=["layout","steps","end","last","start","back","amount","number","point"]) O O (by decide +kernel)) (bF (pv 1)) (fun cl C s H fp aa=>(jf (K:=K) (n:=2) O O (aP (aC (i:=0) (show(["number","point","layout"]:List C').Nodup by decide +kernel) rfl (by first|exact UY rfl|exact UX O)) (aP (aC (i:=1) (show(["number","point","layout"]:List C').Nodup by decide +kernel) rfl (by first|exact UY rfl|exact UX O)) cV)))) (fun cl C s H fp aa=>uM (a7 cw (aF (uV (K:=K) O) (Bq (K:=K) O (pv 2) O) (pv 0) (fun _ _=>O)) (pv 1) (aV _))) (fun cl C s H fp aa=>(pv 0)) (hsw:=O))
   (ak (aR (i:=6) pH.nd O (by first|exact UY rfl|exact UX O) (bx LK O T.Qc7 AL (af (aX me (dC (af (aF bb (bf (pv 0) O) (pv 2) (fun _ _=>O)) (af (aX iU au (aF bb (bf (pv 0) O) (pv 4) (fun _ _=>O))) ai))) (cN (N:=["number","layout"]) (cap:=[B',i' 0]) O (bN (osc:=ay wX) (XN:=["layout","steps","end","last","start","back","amount","number","point"]) O O (by decide +kernel)) (bF (pv 5)) (fun cl C s H fp aa=>(aC (i:=0) (show(["number","layout"]:List C').Nodup by decide +kernel) rfl (by first|exact UY rfl|exact UX O))) (fun cl C s H fp aa=>cH) (fun cl C s H fp aa=>(aF (uV (K:=K) O) (Bq (K:=K) O (pv 1) O) (pv 0) (fun _ _=>O))))) ai)))
   (ak (fg Wu rfl (bF (pv 1)) (iW rfl (aP (aC (i:=7) pH.nd O (by first|exact UY rfl|exact UX O)) (aP (aC (i:=8) pH.nd O (by first|exact UY rfl|exact UX O)) cV))) (av (pB (bf (pv 0) O) (pv 7) pZ (wv (a7 cw (aF bb (bf (pv 0) O) (pv 7) (fun _ _=>O)) (pv 8) (aV _)) (pv 6) (aX iU au (pv 6))) uB lM)))
   (ak (pB (bf (pv 0) rfl) (pv 4) pZ (pv 6) uB lM)
   (av (pB (bf (pv 0) rfl) (pv 2) pZ (pv 6) E3 lM)))))))),?_⟩
  refine⟨_,O,_,O,sA,_,_,_,O,O,P'.of hs,Qln gr,?_⟩
  refine⟨_,O,q,dx,_,O,ex,by rfl,_,O,tl,_,_,_,O,O,Dr,O,_,O,tl,_,_,_,O,O,Dr,O,q,r,ws,c,ln,lp,O,L,Jp,?_⟩
  generalize ac (wn ws c) ln lp=ss at *
  refine⟨_,O,sA,O,⟨_,P'.of hs⟩,fun D hD=>?_⟩
  refine dv (K:=K) (a:=sA) (xs:=xs) (fun j τ G=>∃ v1 v2,τ=[v1,v2,i' (.ref q)]∧ae H G∧G D=i' (.lst (nums (((st.take j).filter fun x=>decide ((((wn ws c).on x.1:Nat):Int)=x.2)).map fun x=>x.1)))) ⟨B',B',O,ae.new hD,ah⟩ ?_ ?_ ?_
  .rintro j τ G _ ⟨_,_,rfl,sg,_⟩
   exact P'.of (sg _ _ hs)
  .rintro j y τ G hy ⟨v1,v2,rfl,sg,hG⟩
   obtain⟨⟨n,d⟩,qq,dj⟩:=eX eQ hy
   have nl:=qz _ (V9 qq)
   obtain⟨t,rfl,ht⟩:=wW (sg.dt dj)
   refine⟨t,_,O,ht,O,_,_,O,_,_,O,O,?_⟩
   refine⟨_,O,q,a.Layout,dx,_,_,O,sg _ _ ex,T.Vu,T.Qbz,Ao,_,O,r.o,_,_,_,O,O,P'.of (sg _ _ L.ho),mY _ nl,_,O,O,_,O,?_⟩
   have RM:(((st.take j).filter fun x=>decide ((((wn ws c).on x.1:Nat):Int)=x.2)).map fun x=>x.1).length≤10000:=by
    rw[U1]
    have e1:=XO (fun x:Nat×Int=>decide ((((wn ws c).on x.1:Nat):Int)=x.2)) (st.take j)
    have e2:=Qgi j st
    rw[VJ] at e1
    lia
   refine bc (fun b1=>?_) (fun b1=>?_)
   .have b2:decide ((((wn ws c).on n:Nat):Int)=d)=D':=by
     have:=of_decide_eq_true b1
     injection this with z
     exact decide_eq_true z
    refine⟨_,O,_,hG,?_,_,_,O,cz hD sg,?_⟩
    .show(nums _).length<U2
     unfold nums
     rw[U1,Vm]
     lia
    .rw[ah,bB qq,Zj,W2,U3 b2,QaE,Vr]
     unfold nums
     rw[Vr]
     rfl
   .have b2:decide ((((wn ws c).on n:Nat):Int)=d)=M':=by
     refine decide_eq_false fun z=>?_
     have:=of_decide_eq_false b1
     exact this (by rw[← z];rfl)
    refine⟨_,_,O,sg,?_⟩
    rw[bB qq,Zj,W2,U4 (by rw[b2];decide),QaE,Xq]
    exact hG
  rintro τ H1 ⟨v1,v2,rfl,s1,ju⟩
  rw[XM (by lia)] at ju
  have Dy:=s1 _ _ ex
  have B9:=s1 _ _ hn
  refine⟨_,O,q,a.Layout,dx,_,_,O,Dy,T.Vu,T.Yn,nE,_,O,r.n,_,_,_,O,O,P'.of B9,ra (by lia),_,O,q,a.Layout,dx,_,_,O,Dy,T.Vu,T.Yn,nE,_,O,r.n,_,_,_,O,O,P'.of B9,ra (by lia),_,_,O,O,(by show 2≤U2;decide),fun g1 Cv=>?_⟩
  have s2:ae H (upd H1 g1 (.lst [.int (fn nd e),.int (0-fn nd ss)])):=s1.trans (ae.new Cv)
  have h2:upd H1 g1 (.lst [.int (fn nd e),.int (0-fn nd ss)]) g1=i' (.lst [.int (fn nd e),.int (0-fn nd ss)]):=ah
  have dI:=ae.new Cv (o:=.lst [.int (fn nd e),.int (0-fn nd ss)]) _ _ ju
  generalize upd H1 g1 (.lst [.int (fn nd e),.int (0-fn nd ss)])=H2 at s2 h2 dI ⊢
  generalize yR:(st.filter fun x=>decide ((((wn ws c).on x.1:Nat):Int)=x.2))=bk at dI
  have Rn:bk.length≤10000:=by
   rw[← yR]
   have:=XO (fun x:Nat×Int=>decide ((((wn ws c).on x.1:Nat):Int)=x.2)) st
   lia
  have yS:∀ x∈bk,x.1<ws.length:=fun x hx=>by
   rw[← yR] at hx
   exact qz x (ZX.mp hx).1
  refine⟨_,O,D,O,⟨_,P'.of dI⟩,fun Z hZ=>?_⟩
  refine dv (K:=K) (a:=D) (xs:=nums (bk.map fun x=>x.1)) (fun j τ G=>∃ v1,τ=[v1,i' (.ref q)]∧ae H2 G∧G Z=i' (.lst (((bk.take j).map fun x=>fn fl x.1).map V.int))) ⟨B',O,ae.new hZ,ah⟩ ?_ ?_ ?_
  .rintro j τ G _ ⟨_,rfl,sg,_⟩
   exact P'.of (sg _ _ dI)
  .rintro j y τ G hy ⟨v1,rfl,sg,hG⟩
   obtain⟨n,lj,rfl⟩:=vi hy
   rw[WJ] at lj
   cases eb:bk[j]? with
   | none=>rw[eb] at lj;cases lj
   | some b=>
    rw[eb] at lj
    obtain rfl:b.1=n:=VQ lj
    have bl:=yS b (V9 eb)
    have tg:=s2.trans sg
    dsimp only[bE,cX]
    rw[U3 rfl]
    refine⟨_,O,q,a.Layout,dx,_,_,O,tg _ _ ex,T.Vu,T.ZI,um,_,O,r.f,_,_,_,O,O,P'.of (tg _ _ hf),ra (by lia),_,hG,?_,_,O,cz hZ sg,?_⟩
    .rw[U1,U1,VJ,Vm]
     lia
    .rw[ah,bB eb,Vr,Vr]
     rfl
  rintro τ H3 ⟨v3,rfl,s3,oJ⟩
  rw[XM (by unfold nums;rw[U1,U1];exact Xh _)] at oJ
  refine⟨g1,Z,_,_,O,O,s3 _ _ h2,oJ,?_,fun g2 Ll=>?_⟩
  .rw[U1,U1,Vm]
   show 2+bk.length≤_
   lia
  have CT:Yp (wn ws c) (fn fl) (fn nd) st e ss=fn nd e::(0-fn nd ss)::(bk.map fun x=>fn fl x.1):=by
   unfold Yp
   rw[yR]
  have e4:([V.int (fn nd e),V.int (0-fn nd ss)]++(bk.map fun x=>fn fl x.1).map V.int)=(Yp (wn ws c) (fn fl) (fn nd) st e ss).map V.int:=by
   rw[CT]
   rfl
  rw[e4]
  have s4:ae H (upd H3 g2 (.lst ((Yp (wn ws c) (fn fl) (fn nd) st e ss).map V.int))):=(s2.trans s3).trans (ae.new Ll)
  have h4:upd H3 g2 (.lst ((Yp (wn ws c) (fn fl) (fn nd) st e ss).map V.int)) g2=i' (.lst ((Yp (wn ws c) (fn fl) (fn nd) st e ss).map V.int)):=ah
  generalize upd H3 g2 (.lst ((Yp (wn ws c) (fn fl) (fn nd) st e ss).map V.int))=H4 at s4 h4 ⊢
  refine⟨g2,_,O,P'.of h4,(by rw[CT];exact List.cons_ne_nil _ _),fun am hm vE=>?_⟩
  have L4:=L.same s4
  have lay:∀ G,Kx [r.f] H4 G→bT a.Layout G q r ws c:=fun G kx=>L4.kx kx fun y hy=>.inr (.inl (Vn.mp hy))
  have DK:=s4 _ _ hs
  have xG:=s4.Vs eQ
  have rV:∀ G,Kx [r.f] H4 G→Tk H4 G:=fun G kx b o z1 z2=>kx b o z1 fun y=>by
   rw[Vn.mp y,s4 _ _ hf] at z1
   cases z1
   cases z2
  refine⟨_,O,sA,O,⟨_,P'.of DK⟩,jW (K:=K) (a:=sA) (xs:=xs) (fun i σ G=>∃ v7 v8,σ=[i' (.ref q),i' (.ref sA),i' (.int (e:Nat)),i' (.ref tl),i' (.int (ss:Nat)),i' (.ref D),i' (.int am),v7,v8]∧Kx [r.f] H4 G∧G r.f=i' (.lst (((st.take i).foldl (Wm (wn ws c) am) fl).map V.int)))
   ⟨B',B',rfl,Kx.of (ae.refl _),s4 _ _ hf⟩ ?_ ?_ ?_⟩
  .rintro i σ G _ ⟨_,_,rfl,kx,_⟩
   exact P'.of (kx _ _ DK (by simp[sf]))
  .rintro i y σ G hy ⟨v7,v8,rfl,kx,hG⟩
   obtain⟨⟨n,d⟩,qq,dj⟩:=eX xG hy
   have nl:=qz _ (V9 qq)
   obtain⟨t,rfl,ht⟩:=wW ((rV G kx).dt O dj)
   have LG:=lay G kx
   obtain⟨bW,ib⟩:=LG.ex
   have CB:=EC (wn ws c) am (st.take i) fl
   have fo:(st.take (i+1)).foldl (Wm (wn ws c) am) fl=Wm (wn ws c) am ((st.take i).foldl (Wm (wn ws c) am) fl) (n,d):=by rw[bB qq,YR];rfl
   rw[fo]
   generalize (st.take i).foldl (Wm (wn ws c) am) fl=now at hG CB ⊢
   have Jx:n<now.length:=by
    have:n<ws.length:=nl
    lia
   refine⟨t,_,O,ht,O,_,_,O,_,_,O,O,?_⟩
   refine⟨_,O,q,a.Layout,bW,_,_,O,ib,T.Vu,T.ZI,um,_,O,r.f,_,_,_,O,O,P'.of hG,by lia,vg Jx,?_⟩
   refine⟨_,O,q,a.Layout,bW,_,_,O,ib,T.Vu,T.Qaj,uO,_,O,r.t,_,_,_,O,O,P'.of LG.ht,mY _ nl,_,O,O,_,O,?_⟩
   refine bc (fun b1=>?_) (fun b1=>?_)
   .have b2:(((wn ws c).ot n:Nat):Int)=d:=by
     have:=of_decide_eq_true b1
     injection this with z
    have sq:Wm (wn ws c) am now (n,d)=now.set n (fn now n+am):=by
     unfold Wm
     rw[U3 b2]
    rw[sq]
    refine⟨_,O,_,_,O,O,r.f,_,_,_,O,O,hG,kJ (by lia) (by rw[U1];lia),?_⟩
    rw[WA,← YX]
    exact⟨_,_,O,kx.trans (Kx.upd (by simp)),ah⟩
   .have b2:¬ (((wn ws c).ot n:Nat):Int)=d:=fun z=>by
     have:=of_decide_eq_false b1
     exact this (by rw[← z];rfl)
    have sq:Wm (wn ws c) am now (n,d)=now.set n (fn now n+(0-am)):=by
     unfold Wm
     rw[U4 b2]
    rw[sq]
    refine⟨_,O,_,_,O,O,_,_,O,O,r.f,_,_,_,O,O,hG,kJ (by lia) (by rw[U1];lia),?_⟩
    rw[WA,← YX]
    exact⟨_,_,O,kx.trans (Kx.upd (by simp)),ah⟩
  .rintro σ G ⟨v7,v8,rfl,kx,hG⟩
   rw[← lx,We] at hG
   have LG:=lay G kx
   obtain⟨bW,ib⟩:=LG.ex
   have DU:G r.n=i' (.lst (nd.map V.int)):=kx _ _ (s4 _ _ hn) (by simp[U5 L.fn])
   refine⟨_,O,q,a.Layout,bW,_,_,O,ib,T.Vu,T.Yn,nE,_,O,r.n,_,_,_,O,O,P'.of DU,by lia,vg (by lia),_,O,_,_,O,O,r.n,_,_,_,O,O,DU,kJ (by lia) (by rw[U1];lia),?_⟩
   rw[WA,← YX]
   have jc:Kx [r.f,r.n] H (upd G r.n (.lst ((nd.set ss (fn nd ss+am)).map V.int))):=((Kx.of s4).trans (kx.mono (by simp))).trans (Kx.upd (by simp))
   have h5:upd G r.n (.lst ((nd.set ss (fn nd ss+am)).map V.int)) r.n=i' (.lst ((nd.set ss (fn nd ss+am)).map V.int)):=ah
   have f5:upd G r.n (.lst ((nd.set ss (fn nd ss+am)).map V.int)) r.f=i' (.lst ((st.foldl (Wm (wn ws c) am) fl).map V.int)):=by rw[aj L.fn];exact hG
   generalize upd G r.n (.lst ((nd.set ss (fn nd ss+am)).map V.int))=H5 at jc h5 f5 ⊢
   have L5:bT a.Layout H5 q r ws c:=L.kx jc fun y hy=>by
    rcases V5.mp hy with z|z
    .exact .inr (.inl z)
    .exact .inr (.inr (.inl (Vn.mp z)))
   obtain⟨sK,Ve⟩:=L5.ex
   have l5:e<(nd.set ss (fn nd ss+am)).length:=by rw[Zn];lia
   refine⟨_,O,q,a.Layout,sK,_,_,O,Ve,T.Vu,T.Yn,nE,_,O,r.n,_,_,_,O,O,P'.of h5,by lia,vg l5,_,O,_,_,O,O,r.n,_,_,_,O,O,h5,kJ (by lia) (by rw[U1];lia),?_⟩
   rw[WA,← YX]
   exact k am _ hm vE (jc.trans (Kx.upd (by simp))) (by rw[aj L.fn];exact f5) ah
end
theorem none_of {r:F'} (s:ae H H') (h:H' r=B'):H r=B':=by
 cases e:H r with
 | none=>rfl
 | some o=>rw[s _ _ e] at h;cases h
section
variable {K:R'}
inductive Qlo (t:VS) (vs:List V) (H:Hp) (Q:VK) (bg:XK):Prop
 | mk (q r:_) (_:vs=[.ref q]) (_:bT t.Layout H q r bH 2) (_:H r.p=i' (iL [0,2])) (_:H r.f=i' (iL [0,0])) (_:H r.n=i' (iL [-8,8])) (_:H t.YK=i' (.V' ko kH)) (_:∀ H',Kx [r.p,r.f,r.n] H H'→H' r.p=i' (iL [0,2])→H' r.f=i' (iL [8,0])→H' r.n=i' (iL [0,0])→Q .U8 H')
theorem am4:Yp (wn bH 2) (fn [0,0]) (fn [-8,8]) [(0,1)] 1 (ac (wn bH 2) 0 1)=[8,8]:=by decide +kernel
theorem sn4:[((0:Nat),(1:Int))].foldl (Wm (wn bH 2) 8) [0,0]=[8,0]∧ndS [-8,8] (ac (wn bH 2) 0 1) 1 8=[0,0]:=by decide +kernel
theorem Os (T:Tx K mg a):Vz P w K mg base Vp 5 "send_once" ["layout"] [] (Qlo a):=T.Qj5.Vq fun f fd F=>by
 have jC:=NO (P:=P) (w:=w) (base:=base) T
 have gX:=Ax (P:=P) (w:=w) (base:=base) T
 have eJ:=LW (P:=P) (w:=w) (base:=base) T
 refine F.ok rg (fun vs H Q E h=>?_) (fun aw A outer s H vs Q E hr h=>?_)
 .obtain⟨q,r,rfl,_⟩:=h
  rfl
 .obtain⟨q,r,rfl,L,hp,hf,hn,iM,k⟩:=h
  refine⟨_,(ak (aR (i:=1) rg.nd O (by first|exact UY rfl|exact UX O) mW)
   (ak (aR (i:=2) rg.nd O (by first|exact UY rfl|exact UX O) mW)
   (ak (aR (i:=3) rg.nd O (by first|exact UY rfl|exact UX O) (br jC (hr.mono (by decide)) rfl (af (pv 0) (af (pv 1) (af (pv 2) ai)))))
   (ak (fg Wu rfl (EN (HA Qba Qdi QfG Fq (pv 1))) (iW rfl (aP (aC (i:=4) rg.nd O (by first|exact UY rfl|exact UX O)) (aP (aC (i:=5) rg.nd O (by first|exact UY rfl|exact UX O)) cV))) (av (pB (bf (pv 0) O) (pv 4) pZ (aX iU (dU (bw hr) (pv 1) (pv 3) (fun _ _=>O)) (pv 5)) uB lM)))
   (av (cF (br eJ (hr.mono (by decide)) rfl (af (pv 0) (af (br gX (hr.mono (by decide)) rfl (af (pv 0) (af (pv 2) (af (pv 3) ai)))) (af (pv 3) ai)))))))))),?_⟩
  refine fun fA z8=>?_
  have s1:ae H (upd H fA (.dK [])):=ae.new z8
  have f1:upd H fA (.dK []) fA=i' (.dK []):=ah
  generalize upd H fA (.dK [])=H1 at s1 f1 ⊢
  refine fun cA zq=>?_
  have nY:fA≠cA:=ao f1 zq
  have s2:ae H (upd H1 cA (.dK [])):=s1.trans (ae.new zq)
  have f2:upd H1 cA (.dK []) fA=i' (.dK []):=by rw[aj nY];exact f1
  have c2:upd H1 cA (.dK []) cA=i' (.dK []):=ah
  have KB:H cA=B':=none_of s1 zq
  generalize upd H1 cA (.dK [])=H2 at s2 f2 c2 ⊢
  refine⟨_,O,_,O,_,O,q,r,fA,cA,O,L.same s2,s2 _ _ hp,s2 _ _ hf,s2 _ _ hn,f2,c2,nY,s2 _ _ iM,fun H3 gv mF Cg=>?_⟩
  have CG:ae H H3:=fun b o e=>gv b o (s2 b o e) fun y=>by
   rcases V5.mp y with y|y
   .rw[y,z8] at e
    cases e
   .rw[Vn.mp y,KB] at e
    cases e
  have p3:=CG _ _ hp
  refine⟨_,O,.inr (.inr (.inl ⟨O,.inl ⟨_,mF⟩⟩)),fA,hJ,O,O,mF,fun vw vO=>⟨vw,fA,hJ,O,ah,by rw[aj (ao mF vO)];exact mF,fun o=>?_⟩⟩
  have Jt:r.p≠vw:=ao p3 vO
  have xU:r.p≠fA:=bQ p3 mF (by intro z;cases z)
  have Kd:cA≠vw:=ao Cg vO
  have f4:upd (upd H3 vw (kE vw fA)) fA (.Vf o (.dK hJ)) fA=i' (.Vf o (.dK hJ)):=ah
  have p4:upd (upd H3 vw (kE vw fA)) fA (.Vf o (.dK hJ)) r.p=i' (iL [0,2]):=by rw[aj xU,aj Jt];exact p3
  have c4:upd (upd H3 vw (kE vw fA)) fA (.Vf o (.dK hJ)) cA=i' (.dK (Vt 1)):=by rw[aj (U5 nY),aj Kd];exact Cg
  have zU:Kx [r.p] H (upd (upd H3 vw (kE vw fA)) fA (.Vf o (.dK hJ))):=fun b u e z=>by
   have e3:=CG b u e
   rw[aj (fun y=>by rw[y,z8] at e;cases e),aj (ao e3 vO)]
   exact e3
  generalize upd (upd H3 vw (kE vw fA)) fA (.Vf o (.dK hJ))=H4 at f4 p4 c4 zU ⊢
  have lay:∀ G,Kx [r.p] H4 G→bT a.Layout G q r bH 2:=fun G kx=>L.kx (zU.trans kx) fun y hy=>.inl (Vn.mp hy)
  refine LX (d:=fA) (o:=o) (kvs:=hJ) (fun i σ G=>∃ v4 v5,σ=[i' (.ref q),i' (.ref fA),i' (.ref cA),i' (.int 1),v4,v5]∧Kx [r.p] H4 G∧G r.p=i' (iL [0,2]))
   ⟨B',B',rfl,Kx.of (ae.refl _),p4⟩ ?_ ?_ ?_
  .rintro i σ G _ ⟨_,_,rfl,kx,_⟩
   exact kx _ _ f4 (by simp[U5 xU])
  .rintro i key y tt σ G hy nt ⟨v4,v5,rfl,kx,hG⟩
   obtain⟨v,rfl,rfl,vc⟩:∃ v:Nat,key=Va (v:Int)∧y=.int 0∧v<2:=by
    match i,hy with
    | 0,hy=>cases hy;exact⟨0,O,O,by decide⟩
    | 1,hy=>cases hy;exact⟨1,O,O,by decide⟩
    | i+2,hy=>simp at hy
   have s3:ae G (upd G tt (.tup [kV (Va (v:Int)),.int 0])):=ae.new nt
   have h3:upd G tt (.tup [kV (Va (v:Int)),.int 0]) tt=i' (.tup [.int (v:Nat),.int 0]):=ah
   generalize upd G tt (.tup [kV (Va (v:Int)),.int 0])=G3 at s3 h3 ⊢
   have gv:Kx [r.p] H4 G3:=kx.trans (Kx.of s3)
   obtain⟨bW,ib⟩:=(lay G3 gv).ex
   have iG:=s3 _ _ hG
   have fG:G3 fA=i' (.Vf o (.dK hJ)):=gv _ _ f4 (by simp[U5 xU])
   have e1:aS hJ (Va 1)=i' (.int 0):=by decide +kernel
   refine⟨tt,_,O,Vi.of h3,O,_,_,O,_,_,O,O,?_⟩
   refine⟨_,O,q,a.Layout,bW,_,_,O,ib,T.Vu,T.ZJ,qJ,_,O,r.p,_,_,_,O,O,P'.of iG,by lia,vg (l:=[0,2]) vc,?_⟩
   refine⟨_,O,_,O,fA,.int 0,O,.inl ⟨hJ,Va 1,.inr ⟨o,fG⟩,O,e1.symm⟩,_,O,_,_,O,O,_,_,O,O,r.p,_,_,_,O,O,iG,kJ (by lia) (by rw[U1];show(v:Int)<2;lia),?_⟩
   refine⟨_,_,O,gv.trans (Kx.upd (by simp)),?_⟩
   rw[WA,← YX,ah]
   match v,vc with
   | 0,_=>rfl
   | 1,_=>rfl
  .rintro σ G ⟨v4,v5,rfl,kx,hG⟩
   have xS:Kx [r.p] H G:=zU.trans kx
   have Ig:cA≠r.p:=bQ c4 p4 (by intro z;cases z)
   have cG:G cA=i' (.dK (Vt 1)):=kx _ _ c4 (by simp[Ig])
   have LG:=lay G kx
   refine⟨_,O,_,O,_,O,_,O,q,r,cA,O,LG,cG,fun g t H5 s5 ng hg ht=>?_⟩
   have fG:G r.f=i' (iL [0,0]):=xS _ _ hf (by simp[U5 L.pf])
   have nG:G r.n=i' (iL [-8,8]):=xS _ _ hn (by simp[U5 L.pn])
   refine⟨_,O,q,r,bH,2,[0,0],[-8,8],g,[(0,1)],[.ref t],1,0,1,O,LG.same s5,s5 _ _ fG,O,s5 _ _ nG,O,hg,U5 (ao fG ng),U5 (ao nG ng),⟨_,_,O,⟨t,_,O,Vi.of ht,_,_,O,O,_,_,O,O,O⟩,O⟩,by decide,by decide,O,by decide,by decide,fun am H6 hm vE rQ f6 n6=>?_⟩
   rw[am4] at hm
   obtain rfl:am=8:=by simpa using hm
   rw[sn4.1] at f6
   rw[sn4.2] at n6
   exact k H6 (((xS.mono (by simp)).trans (Kx.of s5)).trans (rQ.mono (by simp))) (rQ _ _ (s5 _ _ hG) (by simp[L.pf,L.pn])) f6 n6
end
abbrev Wi:=Int×Int×Int×Int
def wV (q:Wi):List V:=[.int q.1,.int q.2.1,.int q.2.2.1,.int q.2.2.2]
def wD (q:Wi):Dt:=.tup [.int q.1,.int q.2.1,.int q.2.2.1,.int q.2.2.2]
section
variable {K:R'}
theorem Qlp {t:F'}{q:Wi} (h:Vi K H t (wV q)):VW K H (wD q) (.ref t):=⟨t,_,O,h,_,_,O,O,_,_,O,O,_,_,O,O,_,_,O,O,O⟩
theorem qW {q:Wi} (h:VW K H (wD q) x):∃ t,x=.ref t∧Vi K H t (wV q):=by
 obtain⟨t,xs,rfl,h1,y1,vM,rfl,rfl,y2,ue,rfl,rfl,y3,v0,rfl,rfl,y4,yM,rfl,rfl,h2⟩:=h
 rw[show yM=[] from h2] at h1
 exact⟨t,O,h1⟩
def lZ (K:R') (H:Hp) (l:F') (ws:List Wi):Prop:=∃ xs,P' K H l xs∧a8 K H (ws.map wD) xs
theorem lZ.same {l:F'}{ws:List Wi} (h:lZ K H l ws) (s:ae H H'):lZ K H' l ws:=by
 obtain⟨xs,h1,h2⟩:=h
 exact⟨xs,s.V3 h1,s.Vs h2⟩
end
def diff (ps:List Int) (q:Wi):Int:=pz ps q.2.1-pz ps q.1
def keep (ps:List Int) (q:Wi):Bool:=decide (q.2.2.1≤diff ps q)
def BR (ws:List Wi) (ps:List Int):Int:=(ws.map fun q=>q.2.2.2*diff ps q).sum
def InR (n:Nat) (q:Wi):Prop:=(0≤q.1∧q.1<n)∧0≤q.2.1∧q.2.1<n
def Small (z:Int):Prop:=-(2 ^ 64)<z∧z<2 ^ 64
def kC (ls:List Int) (p:Wi×Int):List Int:=(ls.set p.1.2.1.toNat (pz ls p.1.2.1+p.2)).set p.1.1.toNat (pz (ls.set p.1.2.1.toNat (pz ls p.1.2.1+p.2)) p.1.1-p.2)
def Qfd (n:Nat) (ws:List Wi) (am:List Int):List Int:=(ws.zip am).foldl kC (VA n 0)
theorem MG (ls:List Int) (p:Wi×Int):(kC ls p).length=ls.length:=by
 unfold kC
 rw[Zn,Zn]
theorem Gx:∀ (ps:List (Wi×Int)) (ls:List Int),(ps.foldl kC ls).length=ls.length
 | [],_=>rfl
 | p::ps,ls=>by
  show(ps.foldl kC (kC ls p)).length=_
  rw[Gx ps,MG]
theorem Qlq {ws:List Wi}{q:Wi}{x:Int} (h1:ws[i]?=i' q) (h2:am[i]?=i' x):(ws.zip am)[i]?=i' (q,x):=by
 rw[QbS]
 exact⟨h1,h2⟩
theorem pF (h:(am.map V.int)[i]?=i' x):∃ z,am[i]?=i' z∧x=.int z:=by
 obtain⟨z,hz,rfl⟩:=Qan.mp ((WJ (f:=V.int) (l:=am) (i:=i)).symm.trans h)
 exact⟨z,hz,O⟩
theorem Qfe {ls:List Int}{k:Int} (h0:0≤k) (h1:k<ls.length):(ls.map V.int)[k.toNat]?=i' (.int (pz ls k)):=by
 rw[← iw h0]
 exact BW h0 h1
theorem wM (n:Nat):(VA n [V.int 0]).flatten=(VA n (0:Int)).map V.int:=by
 induction n with
 | zero=>rfl
 | succ n ih=>
  rw[Qgh,List.flatten_cons,ih,Qgh,Zp]
  rfl
variable {D dx:F'}{G G' G1:Hp}{Q:VK}{f:Nat→List Nat}{gs:List F'}{o o1 o2:HO}
section
variable {K:R'}
inductive Qlr (K:R') (vs:List V) (H:Hp) (Q:VK) (bg:XK):Prop
 | mk (n l ws p am:_) (_:vs=[.int n,.ref l,.ref p]) (_:lZ K H l ws) (_:P' K H p ((am:List Int).map V.int)) (_:am.length=ws.length) (_:0≤n) (_:n≤1000) (_:(∀ q∈ws,InR n.toNat q)) (_:∀ r H',ae H H'→H r=B'→H' r=i' (.lst ((Qfd n.toNat ws am).map V.int))→Q (.ref r) H')
theorem Qt (T:Tx K mg a):Vz P w K mg base Vp 1 "left_at_points" ["count","wishes","amounts"] [] (Qlr K):=T.Qj2.Vq fun f fd F=>by
 refine F.ok wE (fun vs H Q E h=>?_) (fun aw A outer s H vs Q E hr h=>?_)
 .obtain⟨n,l,ws,p,am,rfl,_⟩:=h
  rfl
 .obtain⟨n,l,ws,p,am,rfl,⟨xs,hl,hd⟩,hp,aq,n0,n1,eO,k⟩:=h
  have cZ:ws.length=xs.length:=by rw[← hd.length,U1]
  refine⟨_,(ak (aR (i:=3) wE.nd O (by first|exact UY rfl|exact UX O) (aX xp (dC (af au ai)) (pv 0)))
   (ak (fg Wu rfl (Bj rfl T.QbG (af (pv 1) (af (pv 2) ai))) (iW rfl (aP (aC (i:=4) wE.nd O (by first|exact UY rfl|exact UX O)) (aP (aC (i:=5) wE.nd O (by first|exact UY rfl|exact UX O)) cV))) (ak (pB (pv 3) (aF eA (pv 4) au (fun _ _=>O)) pZ (pv 5) uB lM)
   (av (pB (pv 3) (aF eA (pv 4) au (fun _ _=>O)) pZ (pv 5) E3 lM))))
   (av (aK (pv 3))))),?_⟩
  refine⟨(by show 1≤U2;decide),fun z nz=>⟨_,O,z,n,_,O,O,ah,by lia,by lia,(by rw[Vm];show 1*n.toNat≤_;lia),fun D nD=>?_⟩⟩
  rw[wM]
  have s1:ae H (upd (upd H z (.lst [V.int 0])) D (.lst ((VA n.toNat (0:Int)).map V.int))):=(ae.new nz).trans (ae.new nD)
  have h1:upd (upd H z (.lst [V.int 0])) D (.lst ((VA n.toNat (0:Int)).map V.int)) D=i' (.lst ((VA n.toNat (0:Int)).map V.int)):=ah
  have Ae:H D=B':=by
   have:=nD
   rw[aj (fun e=>by rw[e,ah] at this;cases this)] at this
   exact this
  generalize upd (upd H z (.lst [V.int 0])) D (.lst ((VA n.toNat (0:Int)).map V.int))=H1 at s1 h1 ⊢
  have ex:xs.length=(am.map V.int).length:=by rw[U1,aq,cZ]
  refine⟨_,O,_,O,l,p,O,⟨_,s1.V3 hl⟩,⟨_,s1.V3 hp⟩,G9 (K:=K) (l1:=l) (l2:=p) (xs:=xs) (ys:=am.map V.int) ex (fun i σ H'=>∃ v4 v5,σ=[i' (.int n),i' (.ref l),i' (.ref p),i' (.ref D),v4,v5]∧ae H H'∧H' D=i' (.lst ((((ws.zip am).take i).foldl kC (VA n.toNat 0)).map V.int)))
   ⟨B',B',rfl,s1,h1⟩ ?_ ?_ ?_⟩
  .rintro i σ H' _ ⟨v4,v5,rfl,sm,_⟩
   exact⟨sm.V3 hl,sm.V3 hp⟩
  .rintro i x y t σ H' hx hy nt ⟨v4,v5,rfl,sm,hD⟩
   obtain⟨q,hq,dq⟩:=eX hd hx
   obtain⟨c,rfl,hc⟩:=qW (sm.dt dq)
   obtain⟨y,c9,rfl⟩:=pF hy
   obtain⟨⟨i1,i2⟩,i3,i4⟩:=eO q (V9 hq)
   have s2:ae H' (upd H' t (.tup [.ref c,.int y])):=ae.new nt
   have DH:upd H' t (.tup [.ref c,.int y]) t=i' (.tup [.ref c,.int y]):=ah
   generalize upd H' t (.tup [.ref c,.int y])=H2 at s2 DH ⊢
   have dI:=s2 _ _ hD
   have tI:=s2.V7 hc
   rw[bB (Qlq hq c9),YR]
   have qy:(((ws.zip am).take i).foldl kC (VA n.toNat 0)).length=n.toNat:=by rw[Gx,Qf9]
   generalize ((ws.zip am).take i).foldl kC (VA n.toNat 0)=ls at dI qy ⊢
   have j3:q.2.1<(ls.length:Int):=by rw[qy];exact i4
   have j1:q.1<((ls.set q.2.1.toNat (pz ls q.2.1+y)).length:Int):=by rw[Zn,qy];exact i2
   refine⟨t,_,O,Vi.of DH,O,_,_,O,_,_,O,O,?_⟩
   refine⟨_,O,_,O,c,_,_,_,O,O,tI,O,D,_,_,_,O,O,P'.of dI,i3,Qfe i3 j3,_,O,_,_,O,O,D,_,_,_,O,O,dI,kJ i3 (by rw[U1];exact j3),?_⟩
   rw[← YX]
   have tk:Tk H2 (upd H2 D (.lst ((ls.set q.2.1.toNat (pz ls q.2.1+y)).map V.int))):=Tk.upd dI rfl
   have h3:upd H2 D (.lst ((ls.set q.2.1.toNat (pz ls q.2.1+y)).map V.int)) D=i' (.lst ((ls.set q.2.1.toNat (pz ls q.2.1+y)).map V.int)):=ah
   have o3:∀ b u,H b=i' u→upd H2 D (.lst ((ls.set q.2.1.toNat (pz ls q.2.1+y)).map V.int)) b=i' u:=fun b u e=>by
    rw[aj (ao e Ae)]
    exact s2 _ _ (sm b u e)
   generalize upd H2 D (.lst ((ls.set q.2.1.toNat (pz ls q.2.1+y)).map V.int))=H3 at tk h3 o3 ⊢
   refine⟨_,O,_,O,c,_,_,_,O,O,tk.V7 tI,O,D,_,_,_,O,O,P'.of h3,i1,Qfe i1 j1,_,O,_,_,O,O,D,_,_,_,O,O,h3,kJ i1 (by rw[U1];exact j1),?_⟩
   rw[← YX]
   refine⟨_,_,O,fun b u e=>?_,ah⟩
   rw[aj (ao e Ae)]
   exact o3 b u e
  .rintro σ H' ⟨v4,v5,rfl,sm,hD⟩
   rw[XM (by rw[QdN];lia)] at hD
   exact⟨_,O,k D H' sm Ae hD⟩
inductive M5 (K:R') (vs:List V) (H:Hp) (Q:VK) (bg:XK):Prop
 | mk (l ws:_) (_:vs=[.ref l]) (_:lZ K H l ws) (_:ws.length≤1000) (_:∀ r H',ae H H'→H r=B'→H' r=i' (.lst ((ws.map fun q=>q.2.2.2).map V.int))→Q (.ref r) H')
theorem Q9 (T:Tx K mg a):Vz P w K mg base Vp 1 "weights_of" ["wishes"] [] (M5 K):=T.Qj1.Vq fun f fd F=>by
 refine F.ok NU (fun vs H Q E h=>?_) (fun aw A outer s H vs Q E hr h=>?_)
 .obtain⟨l,ws,rfl,_⟩:=h
  rfl
 .obtain⟨l,ws,rfl,⟨xs,hl,hd⟩,hk,k⟩:=h
  have cZ:ws.length=xs.length:=by rw[← hd.length,U1]
  refine⟨_,(av (aK (cN (N:=["one","other","least","weight"]) (cap:=[B',B',B',B']) O (bN (osc:=ay AU) (XN:=["wishes"]) O O (by decide +kernel)) (bF (pv 0)) (fun cl C s H fp aa=>(jf (K:=K) (n:=4) O O (aP (aC (i:=0) (show(["one","other","least","weight"]:List C').Nodup by decide +kernel) rfl (by first|exact UY rfl|exact UX O)) (aP (aC (i:=1) (show(["one","other","least","weight"]:List C').Nodup by decide +kernel) rfl (by first|exact UY rfl|exact UX O)) (aP (aC (i:=2) (show(["one","other","least","weight"]:List C').Nodup by decide +kernel) rfl (by first|exact UY rfl|exact UX O)) (aP (aC (i:=3) (show(["one","other","least","weight"]:List C').Nodup by decide +kernel) rfl (by first|exact UY rfl|exact UX O)) cV)))))) (fun cl C s H fp aa=>cH) (fun cl C s H fp aa=>(pv 3))))),?_⟩
  refine⟨_,O,l,O,⟨_,hl⟩,fun D hD=>?_⟩
  refine dv (K:=K) (a:=l) (xs:=xs) (fun i τ H'=>∃ v1 v2 v3 v4,τ=[v1,v2,v3,v4]∧ae H H'∧H' D=i' (.lst (((ws.take i).map fun q=>q.2.2.2).map V.int))) ⟨B',B',B',B',O,ae.new hD,ah⟩ ?_ ?_ ?_
  .rintro i τ H' _ ⟨v1,v2,v3,v4,rfl,sm,hy⟩
   exact sm.V3 hl
  .rintro i x τ H' hx ⟨v1,v2,v3,v4,rfl,sm,hy⟩
   obtain⟨q,hq,dq⟩:=eX hd hx
   obtain⟨t,rfl,h1⟩:=qW (sm.dt dq)
   refine⟨t,_,O,h1,O,_,_,O,_,_,O,_,_,O,_,_,O,O,?_⟩
   dsimp only[cX]
   rw[U3 rfl]
   refine⟨_,O,_,hy,?_,_,_,_,_,O,?_,?_⟩
   .rw[U1,U1,VJ,Vm]
    lia
   .intro b u e
    rw[aj (ao e hD)]
    exact sm b u e
   .rw[ah,bB hq,Vr,Vr]
    rfl
  .rintro τ H' ⟨v1,v2,v3,v4,rfl,sm,hy⟩
   rw[← cZ,We] at hy
   exact k D H' sm hD hy
end
theorem Ni {α:Type}{b:α}{p:Prop} (e:([]:List α)[i]?=i' b):p:=by
 rw[List.getElem?_nil] at e
 cases e
def wI (q:Wt):Wi:=((q.1:Nat),(q.2.1:Nat),q.2.2.1,q.2.2.2)
theorem Kx.lst {q b:F'}{G G':Hp}{C:F'}{dx:F'}{fs:List (C'×V)}{xs:List V} (k:Kx [q] G G') (hq:G q=i' (.ins C dx fs)) (h:G b=i' (.lst xs)):G' b=i' (.lst xs):=k _ _ h fun z=>by
 rw[Vn.mp z,hq] at h
 cases h
theorem Kx.sq {K:R'}{l:F'}{fs:List (C'×V)} (k:Kx [q] G G') (hq:G q=i' (.ins C dx fs)) (h:P' K G l xs):P' K G' l xs:=by
 have ne:∀ o,G l=i' o→(∀ C dx fs,o≠.ins C dx fs)→G' l=i' o:=fun o e n=>k _ _ e fun z=>by
  rw[Vn.mp z,hq] at e
  cases e
  exact n _ _ _ rfl
 rcases h with(h|⟨o,h⟩)|h
 .exact .inl (.inl (ne _ h fun _ _ _ z=>by cases z))
 .exact .inl (.inr ⟨o,ne _ h fun _ _ _ z=>by cases z⟩)
 .exact .inr h
theorem Kx.tk {fs:List (C'×V)} (k:Kx [q] G G') (hq:G q=i' (.ins C dx fs)):Tk G G':=fun b o e z=>k b o e fun y=>by
 rw[Vn.mp y,hq] at e
 cases e
 cases z
theorem Kx.none {q b:F'}{H G:Hp} (k:Kx [q] H G) (e:G b=B') (n:b≠q):H b=B':=by
 cases h:H b with
 | none=>rfl
 | some o=>
  rw[k b o h (by simp[n])] at e
  cases e
def Ls (gs:List F') (f:Nat→List Nat) (G:Hp):Prop:=∀ i a,gs[i]?=i' a→G a=i' (.lst (nums (f i)))
theorem Ls.put {a:F'}{l:List Nat} (h:Ls gs f G) (nd:gs.Nodup) (e:gs[j]?=i' a):Ls gs (up f j l) (upd G a (.lst (nums l))):=fun i b eb=>by
 by_cases c:i=j
 .subst c
  rw[e] at eb
  cases eb
  rw[ah,qF]
 .rw[rA _ _ c,aj (fun z=>c (by
   subst z
   exact(List.getElem?_inj (VI.mp eb).1 nd).mp (eb.trans e.symm)))]
  exact h i b eb
theorem Ls.keep {a:F'} (h:Ls gs f G) (n:a∉gs):Ls gs f (upd G a o):=fun i b eb=>by
 rw[aj (fun z=>n (by rw[← z];exact V9 eb))]
 exact h i b eb
def Xa (ws:List Wt) (k i:Nat):List Nat:=(VX k).filter fun n=>decide ((ws.getD n (0,0,0,0)).1=i)
def Yq (ws:List Wt) (k i:Nat):List Nat:=(VX k).filter fun n=>decide ((ws.getD n (0,0,0,0)).2.1=i)
theorem QR (ws:List Wt) (k:Nat):Xa ws (k+1)=up (Xa ws k) (ws.getD k (0,0,0,0)).1 (Xa ws k (ws.getD k (0,0,0,0)).1++[k]):=by
 funext i
 unfold Xa
 rw[QdM,Zj]
 by_cases c:i=(ws.getD k (0,0,0,0)).1
 .rw[c,qF,W2,U3 (decide_eq_true rfl)]
  rfl
 .rw[rA _ _ c,W2,U4 (fun z=>c (of_decide_eq_true z).symm),QaE,Xq]
theorem QY (ws:List Wt) (k:Nat):Yq ws (k+1)=up (Yq ws k) (ws.getD k (0,0,0,0)).2.1 (Yq ws k (ws.getD k (0,0,0,0)).2.1++[k]):=by
 funext i
 unfold Yq
 rw[QdM,Zj]
 by_cases c:i=(ws.getD k (0,0,0,0)).2.1
 .rw[c,qF,W2,U3 (decide_eq_true rfl)]
  rfl
 .rw[rA _ _ c,W2,U4 (fun z=>c (of_decide_eq_true z).symm),QaE,Xq]
theorem QN (ws:List Wt) (k i:Nat):(Xa ws k i).length≤k:=by
 have:=XO (fun n=>decide ((ws.getD n (0,0,0,0)).1=i)) (VX k)
 rw[ZV] at this
 exact this
theorem Nh (ws:List Wt) (k i:Nat):(Yq ws k i).length≤k:=by
 have:=XO (fun n=>decide ((ws.getD n (0,0,0,0)).2.1=i)) (VX k)
 rw[ZV] at this
 exact this
theorem NP:aZ "coming" (.ref r.c) (aZ "going" (.ref r.g) (aZ "needs" (.ref r.n) (aZ "flow" (.ref r.f) (aZ "places" (.ref r.p) (aZ "leasts" (.ref r.l) (aZ "others" (.ref r.t) (aZ "ones" (.ref r.o) [])))))))=b8 r:=by
 kernel_rfl
theorem Al {K:R'}{wA:F'} (k:Int) (f:Wt→V) (hl:P' K H wA xs) (hd:a8 K H ((ws.map wI).map wD) xs) (hw:ws.length≤1000) (hf:∀ w:Wt,V1 [.int (w.1:Nat),.int (w.2.1:Nat),.int w.2.2.1,.int w.2.2.2] k=i' (f w)) (n:H D=B')
  (h:∀ G,ae H G→G D=i' (.lst (ws.map f))→Q (.ref D) G):kL (Itl K wA) D [B'] (upd H D (.lst [])) (bE 0) cX (ZD (QcK K) (QcE 0) (tC (.int k))) Q:=by
 have cZ:ws.length=xs.length:=by rw[← hd.length,U1,U1]
 refine dv (K:=K) (a:=wA) (xs:=xs) (fun j τ G=>∃ v1,τ=[v1]∧ae H G∧G D=i' (.lst ((ws.take j).map f))) ⟨B',rfl,ae.new n,ah⟩ ?_ ?_ ?_
 .rintro j τ G _ ⟨v1,rfl,sg,_⟩
  exact sg.V3 hl
 .rintro j x τ G hx ⟨v1,rfl,sg,hG⟩
  rw[Qcn] at hd
  obtain⟨w0,mK,dw⟩:=eX hd hx
  obtain⟨t,rfl,ht⟩:=qW (sg.dt dw)
  dsimp only[bE,cX]
  rw[U3 rfl]
  refine⟨_,O,t,_,_,_,O,O,ht,hf w0,_,hG,?_,_,O,cz n sg,?_⟩
  .rw[U1,VJ,Vm]
   lia
  .rw[ah,bB mK,Vr]
   rfl
 rintro τ G ⟨v1,rfl,sg,y⟩
 rw[← cZ,We] at y
 exact h G sg y
theorem EH (hc:c≤1000) (n:H D=B') (h:∀ G gs,ae H G→G D=i' (.lst ((gs:List F').map V.ref))→gs.length=c→gs.Nodup→(∀ (i:Nat) (b:F'),gs[i]?=i' b→G b=i' (.lst [])∧H b=B'∧b≠D)→Q (.ref D) G):kL (Itr 0 ((c:Nat):Int).toNat) D [B'] (upd H D (.lst [])) (bE 0) cX (QcJ mT) Q:=by
 refine LP (lo:=0) (n:=((c:Nat):Int).toNat) (fun j τ G=>∃ v1,∃ gs:List F',τ=[v1]∧ae H G∧G D=i' (.lst (gs.map V.ref))∧gs.length=j∧gs.Nodup∧∀ i b,gs[i]?=i' b→G b=i' (.lst [])∧H b=B'∧b≠D) ⟨B',[],rfl,ae.new n,ah,rfl,List.nodup_nil,fun i b e=>Ni e⟩ ?_ ?_
 .rintro j τ G hj ⟨v1,gs,rfl,sg,hG,gl,nd,m⟩
  rw[WA] at hj
  dsimp only[bE,cX]
  rw[U3 rfl]
  refine⟨(by show 0≤U2;decide),fun z nz=>?_⟩
  have zD:z≠D:=fun e=>by rw[e,hG] at nz;cases nz
  refine⟨_,by rw[aj (U5 zD)];exact hG,?_,_,gs++[z],O,cz n (sg.trans (ae.new nz)),?_,by rw[WM,gl];rfl,?_,fun i b e=>?_⟩
  .rw[U1,gl,Vm]
   lia
  .rw[ah,Vr]
   rfl
  .refine Qgw.mpr ⟨nd,by simp,fun x hx y hy=>?_⟩
   rw[Vn.mp hy]
   rintro rfl
   obtain⟨i,e⟩:=YN.mp hx
   rw[(m i x e).1] at nz
   cases nz
  .rcases Qd4 i gs.length with l|l
   .rw[QfQ l] at e
    obtain⟨m1,m2,m3⟩:=m i b e
    have bz:b≠z:=ao m1 nz
    exact⟨by rw[aj m3,aj bz];exact m1,m2,m3⟩
   .rw[QfK l] at e
    have e0:i-gs.length=0:=by
     have:=(VI.mp e).1
     rw[Qf8] at this
     lia
    rw[e0] at e
    cases e
    exact⟨by rw[aj zD,ah],none_of sg nz,zD⟩
 rintro τ G ⟨v1,gs,rfl,sg,y,gl,nd,m⟩
 rw[WA] at gl
 exact h G gs sg y gl nd m
section
variable {K:R'}
inductive Qls (K:R') (C:F') (vs:List V) (H:Hp) (Q:VK) (bg:XK):Prop
 | mk (q dx wA ws:_) (c:Nat) (_:vs=[.ref q,.int c,.ref wA]) (_:H q=i' (.ins C dx [])) (_:lZ K H wA ((ws:List Wt).map wI)) (_:(∀ x∈ws,x.1<c∧x.2.1<c)) (_:ws.length≤1000) (_:c≤1000) (_:∀ r H',Kx [q] H H'→bT C H' q r ws c→H' r.p=i' (.lst ((VA c (0:Int)).map V.int))→H' r.f=i' (.lst ((VA ws.length (0:Int)).map V.int))→H' r.n=i' (.lst ((VA c (0:Int)).map V.int))→H r.p=B'→H r.f=B'→H r.n=B'→Q .U8 H')
theorem LZ (T:Tx K mg a):re P w K mg base Vp 1 a.Layout "Layout" ["self","count","wishes"] (Qls K a.Layout):=T.QcX.Vq fun f fd F=>by
 refine F.ok BB (fun vs H Q E h=>?_) (fun aw A outer s H vs Q E hr h=>?_)
 .obtain⟨q,dx,wA,ws,c,rfl,_⟩:=h
  rfl
 .obtain⟨q,dx,wA,ws,c,rfl,q0,⟨xs,vH,yt⟩,eO,hw,hc,k⟩:=h
  have cZ:ws.length=xs.length:=by rw[← yt.length,U1,U1]
  have sx:Kx [q] H H:=Kx.of (ae.refl _)
  refine⟨_,(ak (fj (pv 0) (cN (N:=["wish"]) (cap:=[B']) O (bN (osc:=ay pE) (XN:=["self","count","wishes","number","wish"]) O O (by decide +kernel)) (bF (pv 2)) (fun cl C s H fp aa=>(aC (i:=0) (show(["wish"]:List C').Nodup by decide +kernel) rfl (by first|exact UY rfl|exact UX O))) (fun cl C s H fp aa=>cH) (fun cl C s H fp aa=>(aF (nN (K:=K) O) (pv 0) au (fun _ _=>O)))) O)
   (ak (fj (pv 0) (cN (N:=["wish"]) (cap:=[B']) O (bN (osc:=ay pE) (XN:=["self","count","wishes","number","wish"]) O O (by decide +kernel)) (bF (pv 2)) (fun cl C s H fp aa=>(aC (i:=0) (show(["wish"]:List C').Nodup by decide +kernel) rfl (by first|exact UY rfl|exact UX O))) (fun cl C s H fp aa=>cH) (fun cl C s H fp aa=>(aF (nN (K:=K) O) (pv 0) au (fun _ _=>O)))) O)
   (ak (fj (pv 0) (cN (N:=["wish"]) (cap:=[B']) O (bN (osc:=ay pE) (XN:=["self","count","wishes","number","wish"]) O O (by decide +kernel)) (bF (pv 2)) (fun cl C s H fp aa=>(aC (i:=0) (show(["wish"]:List C').Nodup by decide +kernel) rfl (by first|exact UY rfl|exact UX O))) (fun cl C s H fp aa=>cH) (fun cl C s H fp aa=>(aF (nN (K:=K) O) (pv 0) au (fun _ _=>O)))) O)
   (ak (fj (pv 0) (aX xp (dC (af au ai)) (pv 1)) rfl)
   (ak (fj (pv 0) (aX xp (dC (af au ai)) (bx fV rfl T.Wk dk (af (pv 2) ai))) rfl)
   (ak (fj (pv 0) (aX xp (dC (af au ai)) (pv 1)) rfl)
   (ak (fj (pv 0) (cN (N:=["point"]) (cap:=[B']) O (bN (osc:=ay pE) (XN:=["self","count","wishes","number","wish"]) O O (by decide +kernel)) (xt rfl T.Qa0 (af (pv 1) ai)) (fun cl C s H fp aa=>(aC (i:=0) (show(["point"]:List C').Nodup by decide +kernel) rfl (by first|exact UY rfl|exact UX O))) (fun cl C s H fp aa=>cH) (fun cl C s H fp aa=>(dC ai))) O)
   (ak (fj (pv 0) (cN (N:=["point"]) (cap:=[B']) O (bN (osc:=ay pE) (XN:=["self","count","wishes","number","wish"]) O O (by decide +kernel)) (xt rfl T.Qa0 (af (pv 1) ai)) (fun cl C s H fp aa=>(aC (i:=0) (show(["point"]:List C').Nodup by decide +kernel) rfl (by first|exact UY rfl|exact UX O))) (fun cl C s H fp aa=>cH) (fun cl C s H fp aa=>(dC ai))) O)
   (av (fg Wu rfl (ve rfl T.QaZ (af (pv 2) ai)) (iW rfl (aP (aC (i:=3) BB.nd O (by first|exact UY rfl|exact UX O)) (aP (aC (i:=4) BB.nd O (by first|exact UY rfl|exact UX O)) cV))) (ak (cF (cW WU XQ X9 jo (aF bb (bf (pv 0) O) (aF eA (pv 4) au (fun _ _=>O)) (fun _ _=>O)) (af (pv 3) ai)))
   (av (cF (cW WU XQ X9 jo (aF bb (bf (pv 0) rfl) (aF eA (pv 4) au (fun _ _=>O)) (fun _ _=>O)) (af (pv 3) ai))))))))))))))),?_⟩
  refine⟨_,O,wA,O,⟨_,vH⟩,fun oA n0=>?_⟩
  refine Al 0 (fun w:Wt=>V.int (w.1:Nat)) vH yt hw (fun _=>O) n0 fun G0 Eb y0=>?_
  refine⟨_,O,q,a.Layout,dx,_,O,Eb _ _ q0,T.Vu,T.Qbz,(by show 0<1000;decide),?_⟩
  obtain⟨F1,e1⟩:∃ fs,fs=aZ "ones" (.ref oA) []:=⟨_,O⟩
  rw[← e1]
  have l1:F1.length=1:=by
   rw[e1]
   rfl
  have q1:=ah (H:=G0) (a:=q) (o:=HO.ins a.Layout dx F1)
  have jd:Kx [q] H (upd G0 q (HO.ins a.Layout dx F1)):=(Kx.of Eb).trans (Kx.upd (by simp))
  have df:upd G0 q (HO.ins a.Layout dx F1) oA=i' (.lst (ws.map (fun w:Wt=>V.int (w.1:Nat)))):=by rw[aj (U5 (ao q0 n0))];exact y0
  generalize upd G0 q (HO.ins a.Layout dx F1)=H1 at q1 jd df ⊢
  have KN:Kx [q] H H1:=sx.trans jd
  have cj:=jd.sq q0 vH
  have Eg:=(jd.tk q0).Vs (cy (fun _=>O) _) yt
  refine⟨_,O,wA,O,⟨_,cj⟩,fun tA n1=>?_⟩
  refine Al 1 (fun w:Wt=>V.int (w.2.1:Nat)) cj Eg hw (fun _=>O) n1 fun G1 tU y1=>?_
  refine⟨_,O,q,a.Layout,dx,_,O,tU _ _ q1,T.Vu,T.Qaj,(by lia),?_⟩
  obtain⟨F2,e2⟩:∃ fs,fs=aZ "others" (.ref tA) F1:=⟨_,O⟩
  rw[← e2]
  have l2:F2.length=2:=by
   rw[e2,e1]
   rfl
  have q2:=ah (H:=G1) (a:=q) (o:=HO.ins a.Layout dx F2)
  have Wm:Kx [q] H1 (upd G1 q (HO.ins a.Layout dx F2)):=(Kx.of tU).trans (Kx.upd (by simp))
  have dF:upd G1 q (HO.ins a.Layout dx F2) tA=i' (.lst (ws.map (fun w:Wt=>V.int (w.2.1:Nat)))):=by rw[aj (U5 (ao q1 n1))];exact y1
  generalize upd G1 q (HO.ins a.Layout dx F2)=H2 at q2 Wm dF ⊢
  have gO:Kx [q] H H2:=KN.trans Wm
  have df:=Wm.lst q1 df
  have bD:=Wm.sq q1 cj
  have cC:=(Wm.tk q1).Vs (cy (fun _=>O) _) Eg
  refine⟨_,O,wA,O,⟨_,bD⟩,fun lA n2=>?_⟩
  refine Al 2 (fun w:Wt=>V.int w.2.2.1) bD cC hw (fun _=>O) n2 fun G2 r9 y2=>?_
  refine⟨_,O,q,a.Layout,dx,_,O,r9 _ _ q2,T.Vu,T.Qe4,(by lia),?_⟩
  obtain⟨F3,e3⟩:∃ fs,fs=aZ "leasts" (.ref lA) F2:=⟨_,O⟩
  rw[← e3]
  have l3:F3.length=3:=by
   rw[e3,e2,e1]
   rfl
  have q3:=ah (H:=G2) (a:=q) (o:=HO.ins a.Layout dx F3)
  have i8:Kx [q] H2 (upd G2 q (HO.ins a.Layout dx F3)):=(Kx.of r9).trans (Kx.upd (by simp))
  have eV:upd G2 q (HO.ins a.Layout dx F3) lA=i' (.lst (ws.map (fun w:Wt=>V.int w.2.2.1))):=by rw[aj (U5 (ao q2 n2))];exact y2
  generalize upd G2 q (HO.ins a.Layout dx F3)=H3 at q3 i8 eV ⊢
  have gv:Kx [q] H H3:=gO.trans i8
  have df:=i8.lst q2 df
  have dF:=i8.lst q2 dF
  have nU:=i8.sq q2 bD
  have j4:=(i8.tk q2).Vs (cy (fun _=>O) _) cC
  refine⟨(by show 1≤U2;decide),fun z3 CH=>⟨_,O,z3,_,_,O,O,ah,by lia,by lia,(by rw[Vm];show 1*((c:Nat):Int).toNat≤_;lia),fun pA Dg=>?_⟩⟩
  rw[WA,wM]
  have sJ:ae H3 (upd (upd H3 z3 (.lst [V.int 0])) pA (.lst ((VA c (0:Int)).map V.int))):=(ae.new CH).trans (ae.new Dg)
  have y3:upd (upd H3 z3 (.lst [V.int 0])) pA (.lst ((VA c (0:Int)).map V.int)) pA=i' (.lst ((VA c (0:Int)).map V.int)):=ah
  have n3:H3 pA=B':=none_of (ae.new CH) Dg
  generalize upd (upd H3 z3 (.lst [V.int 0])) pA (.lst ((VA c (0:Int)).map V.int))=G3 at sJ y3 ⊢
  have tW:=ao q3 n3
  have yN:=ao df n3
  have zA:=ao dF n3
  have yc:=ao eV n3
  have Ju:H pA=B':=gv.none n3 (U5 tW)
  refine⟨_,O,q,a.Layout,dx,_,O,sJ _ _ q3,T.Vu,T.ZJ,(by lia),?_⟩
  obtain⟨F4,e4⟩:∃ fs,fs=aZ "places" (.ref pA) F3:=⟨_,O⟩
  rw[← e4]
  have l4:F4.length=4:=by
   rw[e4,e3,e2,e1]
   rfl
  have q4:=ah (H:=G3) (a:=q) (o:=HO.ins a.Layout dx F4)
  have Xl:Kx [q] H3 (upd G3 q (HO.ins a.Layout dx F4)):=(Kx.of sJ).trans (Kx.upd (by simp))
  have gm:upd G3 q (HO.ins a.Layout dx F4) pA=i' (.lst ((VA c (0:Int)).map V.int)):=by rw[aj (U5 (ao q3 n3))];exact y3
  generalize upd G3 q (HO.ins a.Layout dx F4)=H4 at q4 Xl gm ⊢
  have fU:Kx [q] H H4:=gv.trans Xl
  have df:=Xl.lst q3 df
  have dF:=Xl.lst q3 dF
  have eV:=Xl.lst q3 eV
  have Ej:=Xl.sq q3 nU
  have KW:=(Xl.tk q3).Vs (cy (fun _=>O) _) j4
  refine⟨(by show 1≤U2;decide),fun z4 Ah=>⟨_,O,wA,_,O,.inl ((ae.new Ah).V3 Ej),z4,_,_,O,O,ah,by lia,by lia,(by rw[Vm];show 1*((xs.length:Nat):Int).toNat≤_;lia),fun fA Do=>?_⟩⟩
  rw[← cZ]
  rw[WA,wM]
  have rJ:ae H4 (upd (upd H4 z4 (.lst [V.int 0])) fA (.lst ((VA ws.length (0:Int)).map V.int))):=(ae.new Ah).trans (ae.new Do)
  have y4:upd (upd H4 z4 (.lst [V.int 0])) fA (.lst ((VA ws.length (0:Int)).map V.int)) fA=i' (.lst ((VA ws.length (0:Int)).map V.int)):=ah
  have n4:H4 fA=B':=none_of (ae.new Ah) Do
  generalize upd (upd H4 z4 (.lst [V.int 0])) fA (.lst ((VA ws.length (0:Int)).map V.int))=G4 at rJ y4 ⊢
  have rG:=ao q4 n4
  have yv:=ao df n4
  have zW:=ao dF n4
  have yi:=ao eV n4
  have xM:=ao gm n4
  have qi:H fA=B':=fU.none n4 (U5 rG)
  refine⟨_,O,q,a.Layout,dx,_,O,rJ _ _ q4,T.Vu,T.ZI,(by lia),?_⟩
  obtain⟨F5,e5⟩:∃ fs,fs=aZ "flow" (.ref fA) F4:=⟨_,O⟩
  rw[← e5]
  have l5:F5.length=5:=by
   rw[e5,e4,e3,e2,e1]
   rfl
  have q5:=ah (H:=G4) (a:=q) (o:=HO.ins a.Layout dx F5)
  have mD:Kx [q] H4 (upd G4 q (HO.ins a.Layout dx F5)):=(Kx.of rJ).trans (Kx.upd (by simp))
  have iD:upd G4 q (HO.ins a.Layout dx F5) fA=i' (.lst ((VA ws.length (0:Int)).map V.int)):=by rw[aj (U5 (ao q4 n4))];exact y4
  generalize upd G4 q (HO.ins a.Layout dx F5)=H5 at q5 mD iD ⊢
  have jc:Kx [q] H H5:=fU.trans mD
  have df:=mD.lst q4 df
  have dF:=mD.lst q4 dF
  have eV:=mD.lst q4 eV
  have gm:=mD.lst q4 gm
  have Iq:=mD.sq q4 Ej
  have J9:=(mD.tk q4).Vs (cy (fun _=>O) _) KW
  refine⟨(by show 1≤U2;decide),fun z5 DC=>⟨_,O,z5,_,_,O,O,ah,by lia,by lia,(by rw[Vm];show 1*((c:Nat):Int).toNat≤_;lia),fun nA CC=>?_⟩⟩
  rw[WA,wM]
  have yJ:ae H5 (upd (upd H5 z5 (.lst [V.int 0])) nA (.lst ((VA c (0:Int)).map V.int))):=(ae.new DC).trans (ae.new CC)
  have y5:upd (upd H5 z5 (.lst [V.int 0])) nA (.lst ((VA c (0:Int)).map V.int)) nA=i' (.lst ((VA c (0:Int)).map V.int)):=ah
  have n5:H5 nA=B':=none_of (ae.new DC) CC
  generalize upd (upd H5 z5 (.lst [V.int 0])) nA (.lst ((VA c (0:Int)).map V.int))=G5 at yJ y5 ⊢
  have tf:=ao q5 n5
  have xP:=ao df n5
  have yr:=ao dF n5
  have zI:=ao eV n5
  have zi:=ao gm n5
  have zw:=ao iD n5
  have ql:H nA=B':=jc.none n5 (U5 tf)
  refine⟨_,O,q,a.Layout,dx,_,O,yJ _ _ q5,T.Vu,T.Yn,(by lia),?_⟩
  obtain⟨F6,e6⟩:∃ fs,fs=aZ "needs" (.ref nA) F5:=⟨_,O⟩
  rw[← e6]
  have l6:F6.length=6:=by
   rw[e6,e5,e4,e3,e2,e1]
   rfl
  have q6:=ah (H:=G5) (a:=q) (o:=HO.ins a.Layout dx F6)
  have fP:Kx [q] H5 (upd G5 q (HO.ins a.Layout dx F6)):=(Kx.of yJ).trans (Kx.upd (by simp))
  have j9:upd G5 q (HO.ins a.Layout dx F6) nA=i' (.lst ((VA c (0:Int)).map V.int)):=by rw[aj (U5 (ao q5 n5))];exact y5
  generalize upd G5 q (HO.ins a.Layout dx F6)=H6 at q6 fP j9 ⊢
  have rQ:Kx [q] H H6:=jc.trans fP
  have df:=fP.lst q5 df
  have dF:=fP.lst q5 dF
  have eV:=fP.lst q5 eV
  have gm:=fP.lst q5 gm
  have iD:=fP.lst q5 iD
  have J6:=fP.sq q5 Iq
  have KG:=(fP.tk q5).Vs (cy (fun _=>O) _) J9
  refine⟨_,O,_,O,by lia,by lia,fun gA n6=>?_⟩
  refine EH hc n6 fun G6 bU vT y6 gl6 Iv m6=>?_
  have KP:=ao q6 n6
  have IS:=ao df n6
  have JQ:=ao dF n6
  have ID:=ao eV n6
  have yw:=ao gm n6
  have zC:=ao iD n6
  have zE:=ao j9 n6
  have zZ:=fun i b (e:(bU:List F')[i]?=i' b)=>ao q6 (m6 i b e).2.1
  have zK:=fun i b (e:(bU:List F')[i]?=i' b)=>ao df (m6 i b e).2.1
  have xO:=fun i b (e:(bU:List F')[i]?=i' b)=>ao dF (m6 i b e).2.1
  have yo:=fun i b (e:(bU:List F')[i]?=i' b)=>ao eV (m6 i b e).2.1
  have rM:=fun i b (e:(bU:List F')[i]?=i' b)=>ao gm (m6 i b e).2.1
  have sh:=fun i b (e:(bU:List F')[i]?=i' b)=>ao iD (m6 i b e).2.1
  have sZ:=fun i b (e:(bU:List F')[i]?=i' b)=>ao j9 (m6 i b e).2.1
  have x9:=fun i b (e:(bU:List F')[i]?=i' b)=>U5 (m6 i b e).2.2
  refine⟨_,O,q,a.Layout,dx,_,O,vT _ _ q6,T.Vu,T.QcV,(by lia),?_⟩
  obtain⟨F7,e7⟩:∃ fs,fs=aZ "going" (.ref gA) F6:=⟨_,O⟩
  rw[← e7]
  have l7:F7.length=7:=by
   rw[e7,e6,e5,e4,e3,e2,e1]
   rfl
  have q7:=ah (H:=G6) (a:=q) (o:=HO.ins a.Layout dx F7)
  have kh:Kx [q] H6 (upd G6 q (HO.ins a.Layout dx F7)):=(Kx.of vT).trans (Kx.upd (by simp))
  have nQ:upd G6 q (HO.ins a.Layout dx F7) gA=i' (.lst (bU.map V.ref)):=by rw[aj (U5 (ao q6 n6))];exact y6
  have z6:∀ i b,(bU:List F')[i]?=i' b→upd G6 q (HO.ins a.Layout dx F7) b=i' (.lst []):=fun i b e=>by rw[aj (fun z=>by rw[z] at e;exact U' ((m6 i q e).2.1) (by rw[q6];exact fun y=>by cases y))];exact(m6 i b e).1
  generalize upd G6 q (HO.ins a.Layout dx F7)=H7 at q7 kh nQ z6 ⊢
  have Ee:Kx [q] H H7:=rQ.trans kh
  have df:=kh.lst q6 df
  have dF:=kh.lst q6 dF
  have eV:=kh.lst q6 eV
  have gm:=kh.lst q6 gm
  have iD:=kh.lst q6 iD
  have j9:=kh.lst q6 j9
  have Cy:=kh.sq q6 J6
  have Kn:=(kh.tk q6).Vs (cy (fun _=>O) _) KG
  refine⟨_,O,_,O,by lia,by lia,fun cA n7=>?_⟩
  refine EH hc n7 fun G7 cb Cm y7 IF Iy m7=>?_
  have JI:=ao q7 n7
  have Lo:=ao df n7
  have JH:=ao dF n7
  have IJ:=ao eV n7
  have ym:=ao gm n7
  have zH:=ao iD n7
  have yF:=ao j9 n7
  have J8:=ao nQ n7
  have yx:=fun i b (e:(cb:List F')[i]?=i' b)=>ao q7 (m7 i b e).2.1
  have zB:=fun i b (e:(cb:List F')[i]?=i' b)=>ao df (m7 i b e).2.1
  have zM:=fun i b (e:(cb:List F')[i]?=i' b)=>ao dF (m7 i b e).2.1
  have yy:=fun i b (e:(cb:List F')[i]?=i' b)=>ao eV (m7 i b e).2.1
  have tQ:=fun i b (e:(cb:List F')[i]?=i' b)=>ao gm (m7 i b e).2.1
  have tY:=fun i b (e:(cb:List F')[i]?=i' b)=>ao iD (m7 i b e).2.1
  have sF:=fun i b (e:(cb:List F')[i]?=i' b)=>ao j9 (m7 i b e).2.1
  have Ai:=fun i b (e:(cb:List F')[i]?=i' b)=>ao nQ (m7 i b e).2.1
  have yI:=fun i b (e:(cb:List F')[i]?=i' b)=>U5 (m7 i b e).2.2
  have Af:=fun i b (e:(bU:List F')[i]?=i' b)=>U5 (ao (z6 i b e) n7)
  have zv:∀ i b j b',(bU:List F')[i]?=i' b→(cb:List F')[j]?=i' b'→b≠b':=fun i b j b' e e'=>ao (z6 i b e) (m7 j b' e').2.1
  refine⟨_,O,q,a.Layout,dx,_,O,Cm _ _ q7,T.Vu,T.QcU,(by lia),?_⟩
  obtain⟨F8,e8⟩:∃ fs,fs=aZ "coming" (.ref cA) F7:=⟨_,O⟩
  rw[← e8]
  have q8:=ah (H:=G7) (a:=q) (o:=HO.ins a.Layout dx F8)
  have je:Kx [q] H7 (upd G7 q (HO.ins a.Layout dx F8)):=(Kx.of Cm).trans (Kx.upd (by simp))
  have zF:upd G7 q (HO.ins a.Layout dx F8) cA=i' (.lst (cb.map V.ref)):=by rw[aj (U5 (ao q7 n7))];exact y7
  have z7:∀ i b,(cb:List F')[i]?=i' b→upd G7 q (HO.ins a.Layout dx F8) b=i' (.lst []):=fun i b e=>by rw[aj (fun z=>by rw[z] at e;exact U' ((m7 i q e).2.1) (by rw[q7];exact fun y=>by cases y))];exact(m7 i b e).1
  generalize upd G7 q (HO.ins a.Layout dx F8)=H8 at q8 je zF z7 ⊢
  have qo:Kx [q] H H8:=Ee.trans je
  have df:=je.lst q7 df
  have dF:=je.lst q7 dF
  have eV:=je.lst q7 eV
  have gm:=je.lst q7 gm
  have iD:=je.lst q7 iD
  have j9:=je.lst q7 j9
  have nQ:=je.lst q7 nQ
  have KJ:=je.sq q7 Cy
  have Ef:=(je.tk q7).Vs (cy (fun _=>O) _) Kn
  have z6:∀ i b,(bU:List F')[i]?=i' b→H8 b=i' (.lst []):=fun i b e=>je.lst q7 (z6 i b e)
  have eF:F8=b8 ⟨oA,tA,lA,pA,fA,nA,gA,cA⟩:=by
   rw[e8,e7,e6,e5,e4,e3,e2,e1]
   exact NP (r:=⟨oA,tA,lA,pA,fA,nA,gA,cA⟩)
  rw[eF] at q8
  have ig:∀ b∈bU++cb,q≠b∧oA≠b∧tA≠b∧lA≠b∧pA≠b∧fA≠b∧nA≠b∧gA≠b∧cA≠b:=fun b hb=>by
   rcases Wb.mp hb with z|z
   .obtain⟨i,e⟩:=YN.mp z
    exact⟨zZ i b e,zK i b e,xO i b e,yo i b e,rM i b e,sh i b e,sZ i b e,x9 i b e,Af i b e⟩
   .obtain⟨i,e⟩:=YN.mp z
    exact⟨yx i b e,zB i b e,zM i b e,yy i b e,tQ i b e,tY i b e,sF i b e,Ai i b e,yI i b e⟩
  have fresh:∀ b∈bU++cb,H b=B'∧H8 b=i' (.lst []):=fun b hb=>by
   have nq:=(ig b hb).1
   rcases Wb.mp hb with z|z
   .obtain⟨i,e⟩:=YN.mp z
    exact⟨rQ.none (m6 i b e).2.1 (U5 nq),z6 i b e⟩
   .obtain⟨i,e⟩:=YN.mp z
    exact⟨Ee.none (m7 i b e).2.1 (U5 nq),z7 i b e⟩
  have rL:∀ b,(∀ c∈bU++cb,b≠c)→b∉bU++cb:=fun b h z=>h b z rfl
  have JC:∀ G,Kx (bU++cb) H8 G→P' K G wA xs:=fun G kx=>by
   rcases vH with(h|⟨o,h⟩)|h
   .have e8:=qo _ _ h (by simp;rintro rfl;rw[q0] at h;cases h)
    exact .inl (.inl (kx _ _ e8 fun z=>by rw[(fresh _ z).1] at h;cases h))
   .have e8:=qo _ _ h (by simp;rintro rfl;rw[q0] at h;cases h)
    exact .inl (.inr ⟨o,kx _ _ e8 fun z=>by rw[(fresh _ z).1] at h;cases h⟩)
   .exact .inr h
  have rV:∀ G,Kx (bU++cb) H8 G→Tk H8 G:=fun G kx b o z1 z2=>kx b o z1 fun y=>by
   rw[(fresh b y).2] at z1
   cases z1
   cases z2
  have DJ:∀ b,b∈bU→b∉cb:=fun b h1 h2=>by
   obtain⟨i,e⟩:=YN.mp h1
   obtain⟨j,e'⟩:=YN.mp h2
   exact zv i b j b e e' rfl
  rw[Qcn] at Ef
  refine⟨_,O,wA,O,⟨_,KJ⟩,AH (K:=K) (l:=wA) (xs:=xs) (fun i σ G=>∃ v3 v4,σ=[i' (.ref q),i' (.int (c:Nat)),i' (.ref wA),v3,v4]∧Kx (bU++cb) H8 G∧Ls bU (Xa ws i) G∧Ls cb (Yq ws i) G)
   ⟨B',B',rfl,Kx.of (ae.refl _),fun i b e=>z6 i b e,fun i b e=>z7 i b e⟩ ?_ ?_ ?_⟩
  .rintro i σ G _ ⟨_,_,rfl,kx,_⟩
   exact JC G kx
  .rintro i x tt σ G hx nt ⟨v3,v4,rfl,kx,lg,lc⟩
   obtain⟨w0,mK,dw⟩:=eX Ef hx
   obtain⟨t,rfl,ht⟩:=qW ((rV G kx).dt O dw)
   obtain⟨i1,i2⟩:=eO w0 (V9 mK)
   have hi:i<ws.length:=(VI.mp mK).1
   have ew:ws.getD i (0,0,0,0)=w0:=by rw[X8,mK];rfl
   obtain⟨ga,lr⟩:=hV (l:=bU) (j:=w0.1) (by lia)
   obtain⟨ca,mo⟩:=hV (l:=cb) (j:=w0.2.1) (by lia)
   have Ci:ga∈bU:=V9 lr
   have Cn:ca∈cb:=V9 mo
   have yu:V1 (bU.map V.ref) (w0.1:Int)=i' (.ref ga):=by rw[iw (by lia),WA,WJ,lr];rfl
   have yA:V1 (cb.map V.ref) (w0.2.1:Int)=i' (.ref ca):=by rw[iw (by lia),WA,WJ,mo];rfl
   have s3:ae G (upd G tt (.tup [.int i,.ref t])):=ae.new nt
   have h3:upd G tt (.tup [.int i,.ref t]) tt=i' (.tup [.int i,.ref t]):=ah
   have tV:Ls bU (Xa ws i) (upd G tt (.tup [.int i,.ref t])):=fun j b e=>s3 _ _ (lg j b e)
   have DZ:Ls cb (Yq ws i) (upd G tt (.tup [.int i,.ref t])):=fun j b e=>s3 _ _ (lc j b e)
   generalize upd G tt (.tup [.int i,.ref t])=G3 at s3 h3 tV DZ ⊢
   have gv:Kx (bU++cb) H8 G3:=kx.trans (Kx.of s3)
   have q3:G3 q=_:=gv _ _ q8 (rL _ fun b hb=>(ig b hb).1)
   have g3:G3 gA=_:=gv _ _ nQ (rL _ fun b hb=>(ig b hb).2.2.2.2.2.2.2.1)
   have gl:=QN ws i w0.1
   have cl:=Nh ws i w0.2.1
   refine⟨tt,_,O,Vi.of h3,O,_,_,O,_,_,O,O,?_⟩
   refine⟨_,O,q,a.Layout,dx,_,_,O,q3,T.Vu,T.QcV,Fv,_,O,t,_,_,_,O,O,s3.V7 ht,O,gA,_,_,_,O,O,P'.of g3,yu,.inl ⟨O,_,P'.of (tV _ _ lr)⟩,_,O,ga,_,_,O,O,tV _ _ lr,?_,?_⟩
   .unfold nums
    rw[U1,Vm]
    lia
   have en:nums (Xa ws i w0.1)++[V.int (i:Nat)]=nums (Xa ws i w0.1++[i]):=by
    unfold nums
    rw[Vr]
    rfl
   rw[en]
   have fU:Kx (bU++cb) H8 (upd G3 ga (.lst (nums (Xa ws i w0.1++[i])))):=gv.trans (Kx.upd (Qaq _ Ci))
   have B2:Ls bU (Xa ws (i+1)) (upd G3 ga (.lst (nums (Xa ws i w0.1++[i])))):=by
    rw[QR,ew]
    exact tV.put Iv lr
   have vV:Ls cb (Yq ws i) (upd G3 ga (.lst (nums (Xa ws i w0.1++[i])))):=DZ.keep (DJ ga Ci)
   have mj:Tk G3 (upd G3 ga (.lst (nums (Xa ws i w0.1++[i])))):=Tk.upd (tV _ _ lr) rfl
   generalize upd G3 ga (.lst (nums (Xa ws i w0.1++[i])))=G4 at fU B2 vV mj ⊢
   have q4:G4 q=_:=fU _ _ q8 (rL _ fun b hb=>(ig b hb).1)
   have c4:G4 cA=_:=fU _ _ zF (rL _ fun b hb=>(ig b hb).2.2.2.2.2.2.2.2)
   refine⟨_,O,q,a.Layout,dx,_,_,O,q4,T.Vu,T.QcU,GQ,_,O,t,_,_,_,O,O,mj.V7 (s3.V7 ht),O,cA,_,_,_,O,O,P'.of c4,yA,.inl ⟨O,_,P'.of (vV _ _ mo)⟩,_,O,ca,_,_,O,O,vV _ _ mo,?_,?_⟩
   .unfold nums
    rw[U1,Vm]
    lia
   have en:nums (Yq ws i w0.2.1)++[V.int (i:Nat)]=nums (Yq ws i w0.2.1++[i]):=by
    unfold nums
    rw[Vr]
    rfl
   rw[en]
   refine⟨_,_,O,fU.trans (Kx.upd (Qap _ Cn)),B2.keep (fun z=>DJ ca z Cn),?_⟩
   rw[QY,ew]
   exact vV.put Iy mo
  .rintro σ G ⟨v3,v4,rfl,kx,lg,lc⟩
   rw[← cZ] at lg lc
   have at_:∀ b o,H8 b=i' o→(∀ d∈bU++cb,b≠d)→G b=i' o:=fun b o e n=>kx b o e (rL b n)
   refine k ⟨oA,tA,lA,pA,fA,nA,gA,cA⟩ G (fun b o e z=>?_) ?_ (at_ _ _ gm fun d hd=>(ig d hd).2.2.2.2.1) (at_ _ _ iD fun d hd=>(ig d hd).2.2.2.2.2.1) (at_ _ _ j9 fun d hd=>(ig d hd).2.2.2.2.2.2.1) Ju qi ql
   .exact kx _ _ (qo b o e z) fun y=>by
     rw[(fresh b y).1] at e
     cases e
   .exact⟨⟨dx,at_ _ _ q8 fun d hd=>(ig d hd).1⟩,at_ _ _ df fun d hd=>(ig d hd).2.1,at_ _ _ dF fun d hd=>(ig d hd).2.2.1,at_ _ _ eV fun d hd=>(ig d hd).2.2.2.1,
     ⟨bU,at_ _ _ nQ fun d hd=>(ig d hd).2.2.2.2.2.2.2.1,gl6,fun i b e=>⟨lg i b e,U5 (rM i b e),U5 (sh i b e),U5 (sZ i b e)⟩⟩,
     ⟨cb,at_ _ _ zF fun d hd=>(ig d hd).2.2.2.2.2.2.2.2,IF,fun i b e=>⟨lc i b e,U5 (tQ i b e),U5 (tY i b e),U5 (sF i b e)⟩⟩,
     ⟨yN,yv,xP⟩,⟨zA,zW,yr⟩,⟨yc,yi,zI⟩,⟨U5 yw,U5 zC,U5 zE⟩,⟨U5 ym,U5 zH,U5 yF⟩,⟨tW,rG,tf⟩,xM,zi,zw⟩
end
def Xz:List Int→Int
 | []=>0
 | x::r=>max x (Xz r)
theorem HY:∀ (l:List Int),0≤Xz l∧∀ x∈l,x≤Xz l
 | []=>⟨Qbj _,fun x h=>by cases h⟩
 | y::r=>by
  obtain⟨h1,h2⟩:=HY r
  have e:Xz (y::r)=max y (Xz r):=rfl
  rw[e]
  refine⟨by lia,fun x hx=>?_⟩
  rcases V5.mp hx with z|z
  .rw[z]
   lia
  .have:=h2 x z
   lia
theorem BL {m:Int}:∀ (l:List Int),0≤m→(∀ x∈l,x≤m)→Xz l≤m
 | [],h,_=>h
 | y::r,h,hx=>by
  have h1:=BL r h fun x z=>hx x (Xp _ z)
  have h2:=hx y Xf
  have e:Xz (y::r)=max y (Xz r):=rfl
  rw[e]
  lia
def pw:Nat→List Int
 | 0=>[1]
 | m+1=>16 ^ (m+1)::pw m
theorem Fj:∀ m,(pw m).length=m+1
 | 0=>rfl
 | m+1=>by
  show(pw m).length+1=_
  rw[Fj m]
theorem NI:∀ m,∃ r,pw m=(16:Int) ^ m::r
 | 0=>⟨[],O⟩
 | m+1=>⟨pw m,O⟩
def Qlt (mx:Int) (m:Nat):Prop:=(∀ i,i<m→(16:Int) ^ i*16≤mx)∧¬ (16:Int) ^ m*16≤mx
theorem OI (m:Nat):(0:Int)<16 ^ m:=Int.pow_pos (by decide)
theorem AG (m:Nat):(16:Int) ^ (m+1)=16 ^ m*16:=Int.pow_succ _ _
section
variable {K:R'}
inductive Qlu (K:R') (vs:List V) (H:Hp) (Q:VK) (bg:XK):Prop
 | mk (l wt:_) (_:vs=[.ref l]) (_:P' K H l ((wt:List Int).map V.int)) (_:(∀ x∈wt,0≤x∧x<2 ^ 61)) (_:∀ m g H',ae H H'→H g=B'→H' g=i' (.lst ((pw m).map V.int))→Qlt (Xz wt) m→m≤100→Q (.ref g) H')
theorem Od (T:Tx K mg a):Vz P w K mg base Vp 1 "figure_worths" ["weights"] [] (Qlu K):=T.Qkc.Vq fun f fd F=>by
 refine F.ok Gg (fun vs H Q E h=>?_) (fun aw A outer s H vs Q E hr h=>?_)
 .obtain⟨l,wt,rfl,_⟩:=h
  rfl
 .obtain⟨l,wt,rfl,hl,hw,k⟩:=h
  obtain⟨RL,Kv⟩:=HY wt
  have RW:Xz wt<2 ^ 61:=by
   have:=BL (m:=2 ^ 61-1) wt (by decide) fun x hx=>by
    have:=(hw x hx).2
    lia
   lia
  refine⟨_,(ak (aR (i:=1) Gg.nd O (by first|exact UY rfl|exact UX O) (dC (af au ai)))
   (ak (vm Wu (a7 Qew (aX qU (aF bb (pv 1) au (fun _ _=>O)) (i7 O T.QbD)) (N6 O T.Qk8 (af (pv 0) ai)) (aV _)) (av (cF (cW WU QgD PySem.F.type_list_insert PH (pv 1) (af au (af (aX qU (aF bb (pv 1) au (fun _ _=>O)) (i7 O T.QbD)) ai))))))
   (av (aK (pv 1))))),?_⟩
  refine⟨(by show 1≤U2;decide),fun g ng=>?_⟩
  have s1:ae H (upd H g (.lst [V.int 1])):=ae.new ng
  have h1:upd H g (.lst [V.int 1]) g=i' (.lst ((pw 0).map V.int)):=ah
  generalize upd H g (.lst [V.int 1])=H1 at s1 h1 ⊢
  refine⟨fun m σ G=>∃ j:Nat,m=(2 ^ 62-(16:Int) ^ j).toNat∧σ=[i' (.ref l),i' (.ref g)]∧ae H G∧G g=i' (.lst ((pw j).map V.int))∧(∀ i,i<j→(16:Int) ^ i*16≤Xz wt)∧(16:Int) ^ j<2 ^ 62∧j≤100,
   ⟨_,0,rfl,rfl,s1,h1,fun i hi=>U' hi (Nat.not_lt_zero _),by decide,by decide⟩,?_⟩
  rintro m σ G ⟨j,rfl,rfl,sg,hg,all,Rr,j1⟩
  obtain⟨rr,er⟩:=NI j
  have jp:=OI j
  have Vt:V1 ((pw j).map V.int) 0=i' (.int ((16:Int) ^ j)):=by rw[er];exact at0
  refine⟨_,O,g,_,_,_,O,O,P'.of hg,Vt,_,_,O,O,.inr ⟨by decide,by decide⟩,_,O,l,wt,O,sg.V3 hl,fun e0=>?_,fun mx hm vE=>?_⟩
  ·-- no weight at all
   subst e0
   refine⟨_,_,O,O,_,O,bc (fun c=>?_) (fun c=>?_)⟩
   .have:=of_decide_eq_true c
    have RT:(0:Int)<16 ^ j*16:=by lia
    lia
   .exact⟨_,O,k j g G sg ng hg ⟨all,of_decide_eq_false c⟩ j1⟩
  .have em:mx=Xz wt:=by
    have a1:=Kv mx hm
    have a2:=BL wt (hw mx hm).1 vE
    lia
   subst em
   refine⟨_,_,O,O,_,O,bc (fun c=>?_) (fun c=>?_)⟩
   .have c1:(16:Int) ^ j*16≤Xz wt:=of_decide_eq_true c
    have jl:j+1≤100:=by
     rcases Qd4 j 100 with z|z
     .exact z
     .exfalso
      have e1:(16:Int) ^ 100≤16 ^ j:=by
       have h:=Qds (n:=16) (by decide) z
       exact_mod_cast h
      have e2:(2:Int) ^ 62≤16 ^ 100:=by decide +kernel
      lia
    have l1:=Fj j
    refine⟨_,fun σ' H' h=>h,?_⟩
    refine⟨_,O,.inl ⟨O,_,P'.of hg⟩,_,O,g,_,_,_,O,O,P'.of hg,Vt,_,_,O,O,.inr ⟨by decide,by decide⟩,g,_,0,_,O,O,hg,by lia,by lia,?_,?_⟩
    .rw[U1,l1,Vm]
     lia
    .have e3:(16:Int) ^ (j+1)<2 ^ 62:=by rw[AG];lia
     refine⟨(2 ^ 62-(16:Int) ^ (j+1)).toNat,by rw[AG] at e3 ⊢;lia,j+1,O,O,cz ng sg,?_,fun i hi=>?_,e3,jl⟩
     .rw[ah]
      show i' (HO.lst (V.int ((16:Int) ^ j*16)::(pw j).map V.int))=i' (HO.lst (V.int ((16:Int) ^ (j+1))::(pw j).map V.int))
      rw[AG]
     .rcases Qd4 i j with z|z
      .exact all i z
      .rw[show i=j by lia]
       exact c1
   .exact⟨_,O,k j g G sg ng hg ⟨all,of_decide_eq_false c⟩ j1⟩
end
def X4 (p:List Nat) (x:Wt):List Nat:=p.map fun y=>if y=p.getD x.2.1 0 then p.getD x.1 0 else y
def ptF (ws:List Wt) (c:Nat):List Nat:=ws.foldl X4 (VX c)
theorem Nf (p:List Nat) (x:Wt):(X4 p x).length=p.length:=by
 unfold X4
 rw[U1]
theorem Ey:∀ (ws:List Wt) (p:List Nat),(ws.foldl X4 p).length=p.length
 | [],_=>rfl
 | x::ws,p=>by
  show(ws.foldl X4 (X4 p x)).length=_
  rw[Ey ws,Nf]
def Xn (s:Vl) (x:Int×Nat):Vl:=bi s (Va ((x.2:Nat):Int)) (.int (min x.1 ((gI s x.2).getD x.1)))
def ZN (pl:List Int) (pt:List Nat):Vl:=(pl.zip pt).foldl Xn []
theorem Gv {s:Vl} (x:Int×Nat) (h:Wf s):Wf (Xn s x)∧(Xn s x).length≤s.length+1∧gI (Xn s x)=up (gI s) x.2 (i' (min x.1 ((gI s x.2).getD x.1))):=⟨h.put _ _,xq _ _ _,Qlf _ _ _⟩
theorem AA:∀ (l:List (Int×Nat)){s:Vl},Wf s→Wf (l.foldl Xn s)∧(l.foldl Xn s).length≤s.length+l.length
 | [],_,h=>⟨h,Xh _⟩
 | x::l,s,h=>by
  obtain⟨h1,h2,_⟩:=Gv x h
  obtain⟨h3,h4⟩:=AA l h1
  refine⟨h3,Qhm h4 ?_⟩
  rw[WV]
  lia
def Qc9 (l:List (Int×Nat)) (s:Vl):Prop:=(∀ x∈l,∃ m,gI s x.2=i' m∧m≤x.1)∧∀ v m,gI s v=i' m→∃ x∈l,x.2=v∧x.1=m
theorem GD:∀ (l l0:List (Int×Nat)){s:Vl},Wf s→Qc9 l0 s→Qc9 (l0++l) (l.foldl Xn s)
 | [],l0,_,_,h=>by rw[Xq];exact h
 | x::l,l0,s,wf,h=>by
  obtain⟨w1,_,w3⟩:=Gv x wf
  have e:l0++x::l=(l0++[x])++l:=by rw[QaA];rfl
  rw[e]
  refine GD l (l0++[x]) w1 ⟨fun y hy=>?_,fun v m hv=>?_⟩
  .rw[w3]
   by_cases c:y.2=x.2
   .rw[c,qF]
    refine⟨_,O,?_⟩
    rcases Wb.mp hy with z|z
    .obtain⟨m,e1,e2⟩:=h.1 y z
     rw[c] at e1
     rw[e1]
     show min x.1 m≤y.1
     lia
    .rw[Vn.mp z]
     lia
   .rw[rA _ _ c]
    rcases Wb.mp hy with z|z
    .exact h.1 y z
    .rw[Vn.mp z] at c
     exact U' O c
  .rw[w3] at hv
   by_cases c:v=x.2
   .rw[c,qF] at hv
    have hv:=VQ hv
    cases eg:gI s x.2 with
    | none=>
     rw[eg] at hv
     have hv:min x.1 x.1=m:=hv
     exact⟨x,Qap _ (Vn.mpr O),c.symm,by lia⟩
    | some b=>
     rw[eg] at hv
     have hv:min x.1 b=m:=hv
     by_cases c2:x.1≤b
     .exact⟨x,Qap _ (Vn.mpr O),c.symm,by lia⟩
     .obtain⟨y,y1,y2,y3⟩:=h.2 x.2 b eg
      exact⟨y,Qaq _ y1,by rw[y2,c],by lia⟩
   .rw[rA _ _ c] at hv
    obtain⟨y,y1,y2⟩:=h.2 v m hv
    exact⟨y,Qaq _ y1,y2⟩
def frN (pl:List Int) (pt:List Nat):List Int:=(pl.zip pt).map fun x=>x.1-(gI (ZN pl pt) x.2).getD 0
theorem Qlv (pl:List Int) (pt:List Nat):Qc9 (pl.zip pt) (ZN pl pt):=by
 have:=GD (pl.zip pt) [] (s:=[]) (fun p hp=>by cases hp) ⟨fun x hx=>(by cases hx),fun v m e=>by cases e⟩
 rw[QgG] at this
 exact this
theorem Ga {p:List Nat} (h:i<p.length):V1 (nums p) (i:Int)=i' (.int (p.getD i 0:Nat)):=by
 unfold nums
 rw[iw (by lia),WA,WJ,Xd h,X8,Xd h]
 rfl
section
variable {K:R'}
inductive MR (K:R') (vs:List V) (H:Hp) (Q:VK) (bg:XK):Prop
 | mk (l ws:_) (c:Nat) (_:vs=[.int c,.ref l]) (_:lZ K H l ((ws:List Wt).map wI)) (_:(∀ x∈ws,x.1<c∧x.2.1<c)) (_:c≤1000) (_:∀ g H',ae H H'→H g=B'→H' g=i' (.lst (nums (ptF ws c)))→Q (.ref g) H')
theorem NE (T:Tx K mg a):Vz P w K mg base Vp 1 "parts_of" ["count","wishes"] [] (MR K):=T.Qka.Vq fun f fd F=>by
 refine F.ok qD (fun vs H Q E h=>?_) (fun aw A outer s H vs Q E hr h=>?_)
 .obtain⟨l,ws,c,rfl,_⟩:=h
  rfl
 .obtain⟨l,ws,c,rfl,⟨xs,hl,hd⟩,eO,hc,k⟩:=h
  have cZ:ws.length=xs.length:=by rw[← hd.length,U1,U1]
  rw[Qcn] at hd
  refine⟨_,(ak (aR (i:=2) qD.nd O (by first|exact UY rfl|exact UX O) (QO O T.QbF O T.Qa0 (af (pv 0) ai)))
   (ak (fg Wu rfl (bF (pv 1)) (aC (i:=3) qD.nd O (by first|exact UY rfl|exact UX O)) (ak (aR (i:=4) qD.nd O (by first|exact UY rfl|exact UX O) (aF bb (pv 2) (aF eA (pv 3) au (fun _ _=>O)) (fun _ _=>O)))
   (ak (aR (i:=5) qD.nd O (by first|exact UY rfl|exact UX O) (aF bb (pv 2) (aF eA (pv 3) au (fun _ _=>O)) (fun _ _=>O)))
   (av (rD (i:=2) qD.nd O O (N:=["part","new","old"]) (cap:=[B',i' 5,i' 4]) O (bN (osc:=ay At) (XN:=["count","wishes","parts","wish","old","new"]) O O (by decide +kernel)) (bF (pv 2)) (fun cl C s H fp aa=>(aC (i:=0) (show(["part","new","old"]:List C').Nodup by decide +kernel) rfl (by first|exact UY rfl|exact UX O))) (fun cl C s H fp aa=>cH) (fun cl C s H fp aa=>(wv (a7 cw (pv 0) (pv 2) (aV _)) (pv 1) (pv 0))) (hsw:=O))))))
   (av (aK (pv 2))))),?_⟩
  refine⟨_,O,c,O,by lia,fun g ng=>?_⟩
  have s1:ae H (upd H g (.lst (XG c))):=ae.new ng
  have h1:upd H g (.lst (XG c)) g=i' (.lst (nums (VX c))):=ah
  generalize upd H g (.lst (XG c))=H1 at s1 h1 ⊢
  refine⟨_,O,l,O,⟨_,s1.V3 hl⟩,jW (K:=K) (a:=l) (xs:=xs) (fun i σ G=>∃ g v3 v4 v5,σ=[i' (.int (c:Nat)),i' (.ref l),i' (.ref g),v3,v4,v5]∧ae H G∧H g=B'∧G g=i' (.lst (nums ((ws.take i).foldl X4 (VX c)))))
   ⟨g,B',B',B',rfl,s1,ng,h1⟩ ?_ ?_ ?_⟩
  .rintro i σ G _ ⟨g,_,_,_,rfl,sg,_⟩
   exact sg.V3 hl
  .rintro i x σ G hx ⟨g,v3,v4,v5,rfl,sg,ng,hG⟩
   obtain⟨w0,mK,dw⟩:=eX hd hx
   obtain⟨t,rfl,ht⟩:=qW (sg.dt dw)
   obtain⟨i1,i2⟩:=eO w0 (V9 mK)
   have pl:=Ey (ws.take i) (VX c)
   rw[ZV] at pl
   have fo:(ws.take (i+1)).foldl X4 (VX c)=X4 ((ws.take i).foldl X4 (VX c)) w0:=by rw[bB mK,YR];rfl
   rw[fo]
   generalize (ws.take i).foldl X4 (VX c)=now at hG pl ⊢
   dsimp only[bE]
   refine⟨_,O,_,O,t,_,_,_,O,O,ht,O,g,_,_,_,O,O,P'.of hG,Ga (by lia),?_⟩
   refine⟨_,O,_,O,t,_,_,_,O,O,ht,O,g,_,_,_,O,O,P'.of hG,Ga (by lia),?_⟩
   refine⟨_,O,g,O,⟨_,P'.of hG⟩,fun D hD=>?_⟩
   refine dv (K:=K) (a:=g) (xs:=nums now) (fun j τ G'=>∃ v1,τ=[v1,i' (.int (now.getD w0.1 0:Nat)),i' (.int (now.getD w0.2.1 0:Nat))]∧ae G G'∧G' D=i' (.lst (nums ((now.take j).map fun y=>if y=now.getD w0.2.1 0 then now.getD w0.1 0 else y)))) ⟨B',O,ae.new hD,ah⟩ ?_ ?_ ?_
   .rintro j τ G' _ ⟨v1,rfl,bV,_⟩
    exact P'.of (bV _ _ hG)
   .rintro j y τ G' hy ⟨v1,rfl,bV,c9⟩
    obtain⟨n,hn,rfl⟩:=vi hy
    dsimp only[bE,cX]
    rw[U3 rfl]
    have ln:(nums ((now.take j).map fun y=>if y=now.getD w0.2.1 0 then now.getD w0.1 0 else y)).length<U2:=by
     unfold nums
     rw[U1,U1,VJ,Vm]
     lia
    have Da:∀ m:Nat,m=(if n=now.getD w0.2.1 0 then now.getD w0.1 0 else n)→nums ((now.take j).map fun y=>if y=now.getD w0.2.1 0 then now.getD w0.1 0 else y)++[V.int (m:Nat)]=nums ((now.take (j+1)).map fun y=>if y=now.getD w0.2.1 0 then now.getD w0.1 0 else y):=fun m em=>by
     rw[bB hn,Vr,em]
     unfold nums
     rw[Vr]
     rfl
    refine⟨_,O,_,O,O,_,O,?_⟩
    refine bc (fun c1=>?_) (fun c1=>?_)
    .have c2:n=now.getD w0.2.1 0:=by
      have:=of_decide_eq_true c1
      injection this with z
      exact QdL z
     refine⟨_,O,_,c9,ln,_,O,cz hD bV,?_⟩
     rw[ah,Da _ (U3 c2).symm]
    .have c2:¬ n=now.getD w0.2.1 0:=fun z=>by
      have:=of_decide_eq_false c1
      exact this (by rw[← z])
     refine⟨_,O,_,c9,ln,_,O,cz hD bV,?_⟩
     rw[ah,Da _ (U4 c2).symm]
   .rintro τ G' ⟨v1,rfl,bV,c9⟩
    rw[XM (by unfold nums;rw[U1];exact Xh _)] at c9
    exact⟨D,_,_,_,O,sg.trans bV,none_of sg hD,c9⟩
  .rintro σ G ⟨g,v3,v4,v5,rfl,sg,ng,hG⟩
   rw[← cZ,We] at hG
   exact⟨_,O,k g G sg ng hG⟩
inductive NX (K:R') (vs:List V) (H:Hp) (Q:VK) (bg:XK):Prop
 | mk (p t pl pt:_) (_:vs=[.ref p,.ref t]) (_:P' K H p ((pl:List Int).map V.int)) (_:P' K H t (nums pt)) (_:pl.length=pt.length) (_:pl.length≤1000) (_:∀ g H',ae H H'→H g=B'→H' g=i' (.lst ((frN pl pt).map V.int))→Q (.ref g) H')
theorem Q7 (T:Tx K mg a):Vz P w K mg base Vp 1 "from_nought" ["places","parts"] [] (NX K):=T.Qkb.Vq fun f fd F=>by
 refine F.ok xC (fun vs H Q E h=>?_) (fun aw A outer s H vs Q E hr h=>?_)
 .obtain⟨p,t,pl,pt,rfl,_⟩:=h
  rfl
 .obtain⟨p,t,pl,pt,rfl,hp,ht,hl,hk,k⟩:=h
  have ex:(pl.map V.int).length=(nums pt).length:=by unfold nums;rw[U1,U1,hl]
  have lz:(pl.zip pt).length=pl.length:=by rw[QdN];lia
  have mf:∀ i x y,(pl.map V.int)[i]?=i' x→(nums pt)[i]?=i' y→∃ (u:Int) (v:Nat),x=V.int u∧y=V.int (v:Nat)∧(pl.zip pt)[i]?=i' (u,v):=fun i x y h1 h2=>by
   obtain⟨u,hu,rfl⟩:=pF h1
   obtain⟨v,hv,rfl⟩:=vi h2
   exact⟨u,v,O,O,by rw[QbS];exact⟨hu,hv⟩⟩
  refine⟨_,(ak (aR (i:=2) xC.nd O (by first|exact UY rfl|exact UX O) mW)
   (ak (fg Wu rfl (Bj rfl T.QbG (af (pv 0) (af (pv 1) ai))) (iW rfl (aP (aC (i:=3) xC.nd O (by first|exact UY rfl|exact UX O)) (aP (aC (i:=4) xC.nd O (by first|exact UY rfl|exact UX O)) cV))) (av (lP (bw hr) (pv 2) (pv 4) (bx PP O T.Qc7 AL (af (pv 3) (af (O6 (bw hr) (pv 2) (pv 4) (pv 3) ⟨O,O,O,O⟩) ai))) O)))
   (av (aK (cN (N:=["place","part","least"]) (cap:=[B',B',i' 2]) O (bN (osc:=ay Bb) (XN:=["places","parts","least","place","part"]) O O (by decide +kernel)) (Bj rfl T.QbG (af (pv 0) (af (pv 1) ai))) (fun cl C s H fp aa=>(jf (K:=K) (n:=2) O O (aP (aC (i:=0) (show(["place","part","least"]:List C').Nodup by decide +kernel) rfl (by first|exact UY rfl|exact UX O)) (aP (aC (i:=1) (show(["place","part","least"]:List C').Nodup by decide +kernel) rfl (by first|exact UY rfl|exact UX O)) cV)))) (fun cl C s H fp aa=>cH) (fun cl C s H fp aa=>(aX iU (pv 0) (dU (bw hr) (pv 2) (pv 1) (fun _ _=>O))))))))),?_⟩
  refine fun d nd=>?_
  have s1:ae H (upd H d (.dK [])):=ae.new nd
  have h1:upd H d (.dK []) d=i' (.dK []):=ah
  generalize upd H d (.dK [])=H1 at s1 h1 ⊢
  have wf0:Wf ([]:Vl):=fun p hp=>by cases hp
  refine⟨_,O,_,O,p,t,O,⟨_,s1.V3 hp⟩,⟨_,s1.V3 ht⟩,G9 (K:=K) (l1:=p) (l2:=t) (xs:=pl.map V.int) (ys:=nums pt) ex (fun i σ G=>∃ v3 v4,σ=[i' (.ref p),i' (.ref t),i' (.ref d),v3,v4]∧ae H G∧G d=i' (.dK (((pl.zip pt).take i).foldl Xn [])))
   ⟨B',B',rfl,s1,h1⟩ ?_ ?_ ?_⟩
  .rintro i σ G _ ⟨_,_,rfl,sg,_⟩
   exact⟨sg.V3 hp,sg.V3 ht⟩
  .rintro i x y tt σ G hx hy nt ⟨v3,v4,rfl,sg,hG⟩
   obtain⟨u,v,rfl,rfl,hz⟩:=mf i x y hx hy
   have s3:ae G (upd G tt (.tup [.int u,.int (v:Nat)])):=ae.new nt
   have h3:upd G tt (.tup [.int u,.int (v:Nat)]) tt=i' (.tup [.int u,.int (v:Nat)]):=ah
   generalize upd G tt (.tup [.int u,.int (v:Nat)])=G3 at s3 h3 ⊢
   have iG:=s3 _ _ hG
   obtain⟨o1,o2⟩:=AA ((pl.zip pt).take i) wf0
   have lt:=Qgi i (pl.zip pt)
   have l2:(((pl.zip pt).take i).foldl Xn []).length≤1000:=by
    have:=VJ (i:=i) (l:=pl.zip pt)
    have z:([]:Vl).length=0:=rfl
    lia
   have fo:((pl.zip pt).take (i+1)).foldl Xn []=Xn (((pl.zip pt).take i).foldl Xn []) (u,v):=by rw[bB hz,YR];rfl
   rw[fo]
   generalize ((pl.zip pt).take i).foldl Xn []=now at iG o1 l2 ⊢
   refine⟨tt,_,O,Vi.of h3,O,_,_,O,_,_,O,O,?_⟩
   have gd:=o1.Qa2 (v:=v) iG
   refine⟨_,O,_,O,d,O,.inl ⟨now,.inl iG⟩,_,O,_,O,_,gd,u,(gI now v).getD u,?_,_,O,_,O,d,_,O,.inl ⟨now,Va ((v:Nat):Int),iG,O,by rw[Vm];lia,O⟩,_,_,O,cz nd (sg.trans s3),?_⟩
   .cases gI now v<;>rfl
   .rw[ah]
    unfold Xn
    have e:(if (gI now v).getD u<u then(gI now v).getD u else u)=min u ((gI now v).getD u):=by
     by_cases c1:(gI now v).getD u<u
     .rw[U3 c1]
      lia
     .rw[U4 c1]
      lia
    rw[e]
  .rintro σ G ⟨v3,v4,rfl,sg,hG⟩
   have ez:(pl.map V.int).length=(pl.zip pt).length:=by rw[lz,U1]
   rw[ez,We] at hG
   have hG:G d=i' (.dK (ZN pl pt)):=hG
   have wf:Wf (ZN pl pt):=(AA (pl.zip pt) wf0).1
   obtain⟨Vt,_⟩:=Qlv pl pt
   refine⟨_,O,_,O,p,t,O,⟨_,sg.V3 hp⟩,⟨_,sg.V3 ht⟩,fun D hD=>?_⟩
   refine Ox (K:=K) (l1:=p) (l2:=t) (xs:=pl.map V.int) (ys:=nums pt) ex (fun i τ G'=>∃ v1 v2,τ=[v1,v2,i' (.ref d)]∧ae G G'∧G' D=i' (.lst ((((pl.zip pt).take i).map fun x=>x.1-(gI (ZN pl pt) x.2).getD 0).map V.int))) ⟨B',B',O,ae.new hD,ah⟩ ?_ ?_ ?_
   .rintro i τ G' _ ⟨_,_,rfl,bV,_⟩
    exact⟨bV.V3 (sg.V3 hp),bV.V3 (sg.V3 ht)⟩
   .rintro i x y tt τ G' hx hy nt ⟨v1,v2,rfl,bV,c9⟩
    obtain⟨u,v,rfl,rfl,hz⟩:=mf i x y hx hy
    have s3:ae G' (upd G' tt (.tup [.int u,.int (v:Nat)])):=ae.new nt
    have h3:upd G' tt (.tup [.int u,.int (v:Nat)]) tt=i' (.tup [.int u,.int (v:Nat)]):=ah
    generalize upd G' tt (.tup [.int u,.int (v:Nat)])=G3 at s3 h3 ⊢
    obtain⟨m,em,_⟩:=Vt _ (V9 hz)
    have em:gI (ZN pl pt) v=i' m:=em
    have gd:=wf.Qa2 (v:=v) (s3 _ _ (bV _ _ hG))
    rw[em] at gd
    refine⟨tt,_,O,Vi.of h3,O,_,_,O,_,_,O,O,?_⟩
    dsimp only[cX]
    rw[U3 rfl]
    refine⟨_,O,_,O,_,O,d,_,O,gd,_,_,O,O,_,s3 _ _ c9,?_,_,_,O,cz hD (bV.trans s3),?_⟩
    .rw[U1,U1,VJ,Vm]
     lia
    .rw[ah,bB hz,Vr,Vr]
     show _=i' (HO.lst (_++[V.int (u-(gI (ZN pl pt) v).getD 0)]))
     rw[em]
     rfl
   .rintro τ G' ⟨v1,v2,rfl,bV,c9⟩
    rw[ez,We] at c9
    exact k D G' (sg.trans bV) (none_of sg hD) c9
end
theorem NN:aZ "flow" (.ref d) (b8 r)=b8 {r with f:=d}:=by
 have h1:¬ (("ones":C')="flow"):=by decide +kernel
 have h2:¬ (("others":C')="flow"):=by decide +kernel
 have h3:¬ (("leasts":C')="flow"):=by decide +kernel
 have h4:¬ (("places":C')="flow"):=by decide +kernel
 simp only[b8,aZ,h1,h2,h3,h4,Wc,Xi]
theorem PU:aZ "needs" (.ref d) (b8 r)=b8 {r with n:=d}:=by
 have h1:¬ (("ones":C')="needs"):=by decide +kernel
 have h2:¬ (("others":C')="needs"):=by decide +kernel
 have h3:¬ (("leasts":C')="needs"):=by decide +kernel
 have h4:¬ (("places":C')="needs"):=by decide +kernel
 have h5:¬ (("flow":C')="needs"):=by decide +kernel
 simp only[b8,aZ,h1,h2,h3,h4,h5,Wc,Xi]
theorem bT.reF {cnt:Nat} (h:bT C G q r ws cnt) (s:ae G G1) (nd:G d=B') (hp:G r.p=i' o1) (hn:G r.n=i' o2) (cj:∃ x,o1=.lst x) (bD:∃ x,o2=.lst x):bT C (upd G1 q (.ins C dx (b8 {r with f:=d}))) q {r with f:=d} ws cnt:=by
 have kp:∀ a xs,G a=i' (.lst xs)→upd G1 q (.ins C dx (b8 {r with f:=d})) a=i' (.lst xs):=fun a xs e=>by
  obtain⟨dy,ey⟩:=h.ex
  rw[aj (bQ e ey (by intro z;cases z))]
  exact s _ _ e
 have nq:∀ a xs,G a=i' (.lst xs)→Nq r a→Nq {r with f:=d} a:=fun a xs e n=>⟨n.1,ao e nd,n.2.2⟩
 obtain⟨dy,ey⟩:=h.ex
 obtain⟨gs,g1,g2,g3⟩:=h.hg
 obtain⟨cs,c1,c2,c3⟩:=h.hc
 exact⟨⟨dx,ah⟩,kp _ _ h.ho,kp _ _ h.ht,kp _ _ h.hl,⟨gs,kp _ _ g1,g2,fun i a e=>⟨kp _ _ (g3 i a e).1,nq _ _ (g3 i a e).1 (g3 i a e).2⟩⟩,⟨cs,kp _ _ c1,c2,fun i a e=>⟨kp _ _ (c3 i a e).1,nq _ _ (c3 i a e).1 (c3 i a e).2⟩⟩,
  nq _ _ h.ho h.no,nq _ _ h.ht h.nt,nq _ _ h.hl h.nl,nq _ _ g1 h.ng,nq _ _ c1 h.nc,⟨h.nq.1,ao ey nd,h.nq.2.2⟩,ao hp nd,h.pn,U5 (ao hn nd)⟩
theorem bT.reN {cnt:Nat} (h:bT C G q r ws cnt) (s:ae G G1) (nd:G d=B') (hp:G r.p=i' o1) (hf:G r.f=i' o2) (cj:∃ x,o1=.lst x) (bD:∃ x,o2=.lst x):bT C (upd G1 q (.ins C dx (b8 {r with n:=d}))) q {r with n:=d} ws cnt:=by
 have kp:∀ a xs,G a=i' (.lst xs)→upd G1 q (.ins C dx (b8 {r with n:=d})) a=i' (.lst xs):=fun a xs e=>by
  obtain⟨dy,ey⟩:=h.ex
  rw[aj (bQ e ey (by intro z;cases z))]
  exact s _ _ e
 have nq:∀ a xs,G a=i' (.lst xs)→Nq r a→Nq {r with n:=d} a:=fun a xs e n=>⟨n.1,n.2.1,ao e nd⟩
 obtain⟨dy,ey⟩:=h.ex
 obtain⟨gs,g1,g2,g3⟩:=h.hg
 obtain⟨cs,c1,c2,c3⟩:=h.hc
 exact⟨⟨dx,ah⟩,kp _ _ h.ho,kp _ _ h.ht,kp _ _ h.hl,⟨gs,kp _ _ g1,g2,fun i a e=>⟨kp _ _ (g3 i a e).1,nq _ _ (g3 i a e).1 (g3 i a e).2⟩⟩,⟨cs,kp _ _ c1,c2,fun i a e=>⟨kp _ _ (c3 i a e).1,nq _ _ (c3 i a e).1 (c3 i a e).2⟩⟩,
  nq _ _ h.ho h.no,nq _ _ h.ht h.nt,nq _ _ h.hl h.nl,nq _ _ g1 h.ng,nq _ _ c1 h.nc,⟨h.nq.1,h.nq.2.1,ao ey nd⟩,h.pf,ao hp nd,ao hf nd⟩
variable {E:XK}{H0:Hp}{da dh i2 lm lv p p0 p1 p2 p3 wt:F'}{i0 i1 n sp z:Int}{l s t y:C'}{VF ns zs:List Int}{od:Option F'}{r:List (C'×V)}{sl:Array (Option K')}{t0 t1 t2 t3:Wq}{wl ws:List C'}
structure Lp (C:F') (HB:Hp) (q:F') (r0 r:LR) (G:Hp) (fl:List Int):Prop where
 lay:bT C G q r bH 2
 kx:Kx [q,r0.p,r0.f,r0.n] HB G
 ep:r.p=r0.p
 ef:∀ b o,HB b=i' o→b∉[q,r0.p,r0.f,r0.n]→b≠r.f
 en:∀ b o,HB b=i' o→b∉[q,r0.p,r0.f,r0.n]→b≠r.n
 hp:G r.p=i' (iL [0,2])
 hf:G r.f=i' (iL fl)
 hn:∃ nd,G r.n=i' (.lst nd)
theorem Qlw:∀ q∈bH.map wI,InR 2 q:=by
 intro q hq
 rcases V5.mp hq with rfl|hq
 .exact⟨⟨by decide,by decide⟩,by decide,by decide⟩
 .rw[Vn.mp hq]
  exact⟨⟨by decide,by decide⟩,by decide,by decide⟩
theorem lf4:Qfd 2 (bH.map wI) [7,1]=[-8,8]:=by decide +kernel
theorem fr4:frN [0,2] (ptF bH 2)=[0,2]∧(ptF bH 2).length=2:=by decide +kernel
section
variable {K:R'}
inductive Qlx (K:R') (t:VS) (vs:List V) (H:Hp) (Q:VK) (bg:XK):Prop
 | mk (l:_) (_:vs=[.int 2,.ref l]) (_:lZ K H l (bH.map wI)) (_:H t.YK=i' (.V' ko kH)) (_:∀ g pA fA H',ae H H'→H' g=i' (.tup [.ref pA,.ref fA])→H' pA=i' (iL [0,2])→Q (.ref g) H')
theorem P7 (T:Tx K mg a):Vz P w K mg base (Wa P w) 6 "laid" ["count","wishes"] [] (Qlx K a):=T.Qkd.Vq fun f fd F=>by
 have QcX:=LZ (P:=P) (w:=w) (base:=base) T
 have ub:=Qle (P:=P) (w:=w) (base:=base) T
 have eK:=Q9 (P:=P) (w:=w) (base:=base) T
 have cR:=Od (P:=P) (w:=w) (base:=base) T
 have cJ:=Qt (P:=P) (w:=w) (base:=base) T
 have fS:=Os (P:=P) (w:=w) (base:=base) T
 have dO:=Q7 (P:=P) (w:=w) (base:=base) T
 have gY:=NE (P:=P) (w:=w) (base:=base) T
 refine F.Xm xw (fun vs H Q E h=>?_) (fun aw A outer s H vs Q E hr h=>?_)
 .obtain⟨l,rfl,_⟩:=h
  rfl
 .obtain⟨l,rfl,wj,iM,k1⟩:=h
  refine⟨_,(ak (aR (i:=2) xw.nd O (by first|exact UY rfl|exact UX O) (PN QcX (hr.mono (by decide)) rfl (af (pv 0) (af (pv 1) ai))))
   (ak (cF (rq ub cx (hr.mono (by decide)) rfl (af (pv 2) ai)))
   (ak (aR (i:=3) xw.nd O (by first|exact UY rfl|exact UX O) (br eK (hr.mono (by decide)) rfl (af (pv 1) ai)))
   (ak (fg Qdr rfl (bF (br cR (hr.mono (by decide)) rfl (af (pv 3) ai))) (aC (i:=4) xw.nd O (by first|exact UY rfl|exact UX O)) (ak (fj (pv 2) (cN (N:=["amount"]) (cap:=[B']) O (bN (osc:=ay uI) (XN:=["count","wishes","layout","weights","worth"]) O O (by decide +kernel)) (bF (bf (pv 2) rfl)) (fun cl C s H fp aa=>(aC (i:=0) (show(["amount"]:List C').Nodup by decide +kernel) rfl (by first|exact UY rfl|exact UX O))) (fun cl C s H fp aa=>cH) (fun cl C s H fp aa=>(aX qU (pv 0) (i7 O T.QbD)))) O)
   (ak (fj (pv 2) (br cJ (hr.mono (by decide)) rfl (af (pv 0) (af (pv 1) (af (cN (N:=["weight","worth"]) (cap:=[B',i' 4]) O (bN (osc:=ay uI) (XN:=["count","wishes","layout","weights","worth"]) O O (by decide +kernel)) (bF (pv 3)) (fun cl C s H fp aa=>(aC (i:=0) (show(["weight","worth"]:List C').Nodup by decide +kernel) rfl (by first|exact UY rfl|exact UX O))) (fun cl C s H fp aa=>cH) (fun cl C s H fp aa=>(aX jP (aX MP (pv 0) (pv 1)) (i7 O T.QbD)))) ai)))) O)
   (av (vm Qdr (iT (bx P1 rfl T.Qk6 Qje (af (cN (N:=["need"]) (cap:=[B']) O (bN (osc:=ay uI) (XN:=["count","wishes","layout","weights","worth"]) O O (by decide +kernel)) (bF (bf (pv 2) rfl)) (fun cl C s H fp aa=>(aC (i:=0) (show(["need"]:List C').Nodup by decide +kernel) rfl (by first|exact UY rfl|exact UX O))) (fun cl C s H fp aa=>cH) (fun cl C s H fp aa=>(jS kK (pv 0) au (aV _)))) ai))) (av (cF (br fS (hr.mono (by decide)) rfl (af (pv 2) ai)))))))))
   (av (aK (fZ (af (br dO (hr.mono (by decide)) rfl (af (bf (pv 2) rfl) (af (br gY (hr.mono (by decide)) rfl (af (pv 0) (af (pv 1) ai))) ai))) (af (bf (pv 2) rfl) ai))))))))),?_⟩
  refine⟨_,O,_,O,fun q dx nq nd ne=>?_⟩
  have sY:upd H dx (.own q) q=B':=by rw[aj (U5 ne)];exact nq
  have sa:ae H (upd (upd H dx (.own q)) q (.ins a.Layout dx [])):=(ae.new nd).trans (ae.new sY)
  have qa:upd (upd H dx (.own q)) q (.ins a.Layout dx []) q=i' (.ins a.Layout dx []):=ah
  generalize upd (upd H dx (.own q)) q (.ins a.Layout dx [])=Ha at sa qa ⊢
  refine⟨q,dx,l,bH,2,O,qa,wj.same sa,by decide,by decide,by decide,fun r0 Hb CF Lb CZ Cq vK np nf nn=>⟨O,?_⟩⟩
  have sb:ae H Hb:=fun b o e=>CF b o (sa b o e) fun y=>by
   rw[Vn.mp y,nq] at e
   cases e
  have Jn:=none_of sa np
  have RP:=none_of sa nf
  have RV:=none_of sa nn
  refine⟨_,O,q,r0,O,Lb,CZ,fun Hc tz C9=>?_⟩
  have sc:ae H Hc:=fun b o e=>tz b o (sb b o e) fun y=>by
   rw[Vn.mp y,Jn] at e
   cases e
  have Lc:bT a.Layout Hc q r0 bH 2:=Lb.kx tz fun y hy=>.inl (Vn.mp hy)
  have CQ:Hc r0.f=i' (iL [0,0]):=tz _ _ Cq (by simp[U5 Lb.pf])
  have iP:Hc r0.n=i' (iL [0,0]):=tz _ _ vK (by simp[U5 Lb.pn])
  clear CF tz CZ Cq vK
  refine⟨_,O,l,bH.map wI,O,wj.same sc,by decide,fun wl Hd sd KR cZ=>?_⟩
  have cZ:Hd wl=i' (iL [7,1]):=cZ
  refine⟨_,O,wl,[7,1],O,P'.of cZ,by decide,fun m g He se ng hg Xb Rq=>?_⟩
  have m0:m=0:=by
   rcases Qgv m with z|z
   .exact z
   .exact U' (Xb.1 0 z) (by decide)
  subst m0
  have hg:He g=i' (iL [1]):=hg
  have jB:=sd.trans se
  have Lk:ae H He:=sc.trans jB
  have xY:=se _ _ cZ
  have fr:∀ b∈[q,r0.p,r0.f,r0.n],H b=B':=fun b hb=>by
   simp only[V5,Zk,Wo] at hb
   rcases hb with z|z|z|z<;>rw[z]<;>assumption
  have WZ:∀ b o,H b=i' o→∀ G,Kx [q,r0.p,r0.f,r0.n] He G→G b=i' o:=fun b o e G kx=>kx b o (Lk b o e) fun y=>by
   rw[fr b y] at e
   cases e
  have sG:∀ G,Kx [q,r0.p,r0.f,r0.n] He G→ae H G:=fun G kx b o e=>WZ b o e G kx
  have al:∀ b∈[q,r0.p,r0.f,r0.n],∃ o,Hc b=i' o:=fun b hb=>by
   obtain⟨RX,Jj⟩:=Lc.ex
   simp only[V5,Zk,Wo] at hb
   rcases hb with z|z|z|z<;>rw[z]
   .exact⟨_,Jj⟩
   .exact⟨_,C9⟩
   .exact⟨_,CQ⟩
   .exact⟨_,iP⟩
  have Le:wl∉[q,r0.p,r0.f,r0.n]:=fun y=>by
   obtain⟨o,e⟩:=al wl y
   rw[KR] at e
   cases e
  have gS:g∉[q,r0.p,r0.f,r0.n]:=fun y=>by
   obtain⟨o,e⟩:=al g y
   rw[sd _ _ e] at ng
   cases ng
  have Cd:∀ G,Kx [q,r0.p,r0.f,r0.n] He G→G wl=i' (iL [7,1]):=fun G kx=>kx _ _ xY Le
  have kg:∀ G,Kx [q,r0.p,r0.f,r0.n] He G→G g=i' (iL [1]):=fun G kx=>kx _ _ hg gS
  refine⟨g,O,⟨_,P'.of hg⟩,jW (K:=K) (a:=g) (xs:=([1]:List Int).map V.int) (fun i σ G=>∃ r fl v4,σ=[i' (.int 2),i' (.ref l),i' (.ref q),i' (.ref wl),v4]∧Lp a.Layout He q r0 r G fl∧(i=0→fl=[0,0]))
   ⟨r0,[0,0],B',rfl,⟨Lc.same jB,Kx.of (ae.refl _),rfl,fun b o e z y=>z (by rw[y];simp),fun b o e z y=>z (by rw[y];simp),jB _ _ C9,jB _ _ CQ,⟨_,jB _ _ iP⟩⟩,fun _=>O⟩ ?_ ?_ ?_⟩
  .rintro i σ G _ ⟨r,fl,v4,rfl,lp,_⟩
   exact P'.of (kg G lp.kx)
  .rintro i x σ G hx ⟨r,fl,v4,rfl,lp,h0⟩
   obtain⟨rfl,rfl⟩:i=0∧x=.int 1:=by
    match i,hx with
    | 0,hx=>cases hx;exact⟨O,O⟩
    | i+1,hx=>simp at hx
   obtain rfl:=h0 rfl
   obtain⟨bW,ib⟩:=lp.lay.ex
   obtain⟨RD,tm⟩:=lp.hn
   dsimp only[bE]
   refine⟨_,O,q,a.Layout,bW,_,_,O,ib,T.Vu,T.ZI,um,r.f,O,⟨_,P'.of lp.hf⟩,fun D hD=>?_⟩
   refine dv (K:=K) (a:=r.f) (xs:=([0,0]:List Int).map V.int) (fun j τ G'=>∃ v1,τ=[v1]∧ae G G'∧G' D=i' (iL (([0,0]:List Int).take j))) ⟨B',rfl,ae.new hD,ah⟩ ?_ ?_ ?_
   .rintro j τ G' _ ⟨v1,rfl,sg,_⟩
    exact P'.of (sg _ _ lp.hf)
   .rintro j y τ G' hy ⟨v1,rfl,sg,fB⟩
    obtain⟨z,hz,rfl⟩:=pF hy
    have z0:z=0:=by
     match j,hz with
     | 0,hz=>exact(VQ hz).symm
     | 1,hz=>exact(VQ hz).symm
     | j+2,hz=>simp at hz
    subst z0
    dsimp only[bE,cX]
    rw[U3 rfl]
    refine⟨_,O,_,_,O,O,.inr ⟨by decide,by decide⟩,_,fB,?_,_,O,cz hD sg,?_⟩
    .rw[U1,VJ,Vm]
     show min j 2<_
     lia
    .rw[ah,bB hz]
     show _=i' (HO.lst (Qed V.int _))
     rw[Vr]
     rfl
   rintro τ G1 ⟨v1,rfl,s1,ju⟩
   have ju:G1 D=i' (iL [0,0]):=ju
   refine⟨_,O,q,a.Layout,bW,_,O,s1 _ _ ib,T.Vu,T.ZI,(by show 8<1000;decide),?_⟩
   rw[NN]
   have L2:=lp.lay.reF (dx:=bW) s1 hD lp.hp tm ⟨_,O⟩ ⟨_,O⟩
   have vR:=ah (H:=G1) (a:=q) (o:=HO.ins a.Layout bW (b8 {r with f:=D}))
   have gO:Kx [q,r0.p,r0.f,r0.n] He (upd G1 q (.ins a.Layout bW (b8 {r with f:=D}))):=(lp.kx.trans (Kx.of s1)).trans (Kx.upd (by simp))
   have zu:D≠q:=U5 (ao ib hD)
   have ii:upd G1 q (.ins a.Layout bW (b8 {r with f:=D})) r.p=i' (iL [0,2]):=by rw[aj (U5 lp.lay.nq.1)];exact s1 _ _ lp.hp
   have vz:upd G1 q (.ins a.Layout bW (b8 {r with f:=D})) D=i' (iL [0,0]):=by rw[aj zu];exact ju
   have B8:∀ b o,He b=i' o→b∉[q,r0.p,r0.f,r0.n]→b≠D:=fun b o e z=>ao (lp.kx b o e z) hD
   generalize upd G1 q (.ins a.Layout bW (b8 {r with f:=D}))=G2 at L2 vR gO ii vz ⊢
   refine⟨_,O,_,O,_,O,wl,O,⟨_,P'.of (Cd G2 gO)⟩,fun Z hZ=>?_⟩
   refine dv (K:=K) (a:=wl) (xs:=([7,1]:List Int).map V.int) (fun j τ G'=>∃ v1,τ=[v1,i' (.int 1)]∧ae G2 G'∧G' Z=i' (iL (([7,1]:List Int).take j))) ⟨B',rfl,ae.new hZ,ah⟩ ?_ ?_ ?_
   .rintro j τ G' _ ⟨v1,rfl,sg,_⟩
    exact P'.of (sg _ _ (Cd G2 gO))
   .rintro j y τ G' hy ⟨v1,rfl,sg,fB⟩
    obtain⟨z,hz,rfl⟩:=pF hy
    have z0:z / 1 % 16=z:=by
     match j,hz with
     | 0,hz=>rw[← VQ hz];decide
     | 1,hz=>rw[← VQ hz];decide
     | j+2,hz=>simp at hz
    dsimp only[bE,cX]
    rw[U3 rfl]
    refine⟨_,O,_,O,_,_,O,O,⟨by decide,by decide⟩,_,_,O,O,(by show(0:Int)<16;decide),_,fB,?_,_,O,cz hZ sg,?_⟩
    .rw[U1,VJ,Vm]
     show min j 2<_
     lia
    .rw[ah,bB hz,z0]
     show _=i' (HO.lst (Qed V.int _))
     rw[Vr]
     rfl
   rintro τ G3 ⟨v2,rfl,s3,oJ⟩
   have oJ:G3 Z=i' (iL [7,1]):=oJ
   refine⟨2,l,bH.map wI,Z,[7,1],O,wj.same ((sG G2 gO).trans s3),P'.of oJ,O,by decide,by decide,Qlw,fun nA G4 s4 BY h4=>?_⟩
   have h4:G4 nA=i' (iL [-8,8]):=by rw[← lf4];exact h4
   have qk:=s3.trans s4
   refine⟨_,O,q,a.Layout,bW,_,O,qk _ _ vR,T.Vu,T.Yn,(by show 8<1000;decide),?_⟩
   rw[PU]
   have lE:G2 nA=B':=none_of s3 BY
   have L5:=L2.reN (dx:=bW) qk lE ii vz ⟨_,O⟩ ⟨_,O⟩
   have jc:Kx [q,r0.p,r0.f,r0.n] He (upd G4 q (.ins a.Layout bW (b8 { {r with f:=D} with n:=nA}))):=(gO.trans (Kx.of qk)).trans (Kx.upd (by simp))
   have Dm:nA≠q:=U5 (ao vR lE)
   have o4:upd G4 q (.ins a.Layout bW (b8 { {r with f:=D} with n:=nA})) r.p=i' (iL [0,2]):=by rw[aj (U5 lp.lay.nq.1)];exact qk _ _ ii
   have yk:upd G4 q (.ins a.Layout bW (b8 { {r with f:=D} with n:=nA})) D=i' (iL [0,0]):=by rw[aj zu];exact qk _ _ vz
   have ql:upd G4 q (.ins a.Layout bW (b8 { {r with f:=D} with n:=nA})) nA=i' (iL [-8,8]):=by rw[aj Dm];exact h4
   have lu:∀ b o,He b=i' o→b∉[q,r0.p,r0.f,r0.n]→b≠nA:=fun b o e z=>ao (gO b o e z) lE
   generalize upd G4 q (.ins a.Layout bW (b8 { {r with f:=D} with n:=nA}))=G5 at L5 jc o4 yk ql ⊢
   obtain⟨r',er'⟩:∃ r':LR,r'={ {r with f:=D} with n:=nA}:=⟨_,O⟩
   rw[← er'] at L5
   have rp:r'.p=r.p:=by rw[er']
   have rf:r'.f=D:=by rw[er']
   have rn:r'.n=nA:=by rw[er']
   rw[← rp] at o4
   rw[← rf] at yk B8
   rw[← rn] at ql lu
   have Lf:r'.p=r0.p:=rp.trans lp.ep
   clear L2 vR gO ii vz BY lE qk s3 s4 h4 oJ hZ hD ju s1 ib tm er' rp rf rn Dm zu
   refine⟨fun mm σ G=>∃ fl eU,σ=[i' (.int 2),i' (.ref l),i' (.ref q),i' (.ref wl),i' (.int 1)]∧Lp a.Layout He q r0 r' G fl∧G r'.n=i' (iL eU)∧((mm=1∧fl=[0,0]∧eU=[-8,8])∨(mm=0∧fl=[8,0]∧eU=[0,0])),
    ⟨1,[0,0],[-8,8],rfl,⟨L5,jc,Lf,B8,lu,o4,yk,⟨_,ql⟩⟩,ql,.inl ⟨rfl,rfl,rfl⟩⟩,?_⟩
   rintro mm σ G6 ⟨fl,eU,rfl,ml,vQ,hm⟩
   have Rw:eU.length=2:=by rcases hm with⟨_,_,e⟩|⟨_,_,e⟩<;>rw[e]<;>rfl
   obtain⟨Jh,KQ⟩:=ml.lay.ex
   refine⟨_,O,q,a.Layout,Jh,_,_,O,KQ,T.Vu,T.Yn,nE,r'.n,O,⟨_,P'.of vQ⟩,fun Y hY=>?_⟩
   refine dv (K:=K) (a:=r'.n) (xs:=eU.map V.int) (fun j τ G'=>∃ v1,τ=[v1]∧ae G6 G'∧G' Y=i' (.lst (((eU.take j).map fun x=>decide (0<x)).map V.bl))) ⟨B',O,ae.new hY,ah⟩ ?_ ?_ ?_
   .rintro j τ G' _ ⟨v1,rfl,sg,_⟩
    exact P'.of (sg _ _ vQ)
   .rintro j y τ G' hy ⟨v1,rfl,sg,fB⟩
    obtain⟨z,hz,rfl⟩:=pF hy
    dsimp only[bE,cX]
    rw[U3 rfl]
    refine⟨_,O,_,_,O,O,_,fB,?_,_,O,cz hY sg,?_⟩
    .rw[U1,U1,VJ,Vm]
     lia
    .rw[ah,bB hz,Vr,Vr]
     rfl
   rintro τ G7 ⟨v3,rfl,s7,DM⟩
   rw[U1,We] at DM
   have iN:Lp a.Layout He q r0 r' G7 fl:=⟨ml.lay.same s7,ml.kx.trans (Kx.of s7),ml.ep,ml.ef,ml.en,s7 _ _ ml.hp,s7 _ _ ml.hf,⟨_,s7 _ _ vQ⟩⟩
   have IU:=s7 _ _ vQ
   refine⟨Y,_,O,P'.of DM,_,O,?_⟩
   rcases hm with⟨rfl,rfl,rfl⟩|⟨rfl,rfl,rfl⟩
   .refine fW (by decide) ⟨_,fun σ' H' h=>h,?_⟩
    refine⟨_,O,q,r',O,iN.lay,iN.hp,iN.hf,IU,WZ _ _ iM G7 iN.kx,fun G8 qo p8 f8 n8=>?_⟩
    have JE:Kx [q,r0.p,r0.f,r0.n] He G8:=fun b o e z=>qo b o (iN.kx b o e z) fun y=>by
     simp only[V5,Zk,Wo] at y
     rcases y with y|y|y
     .exact z (by rw[y,iN.ep];simp)
     .exact iN.ef b o e z y
     .exact iN.en b o e z y
    have L8:bT a.Layout G8 q r' bH 2:=iN.lay.kx qo fun y hy=>by
     simp only[V5,Zk,Wo] at hy
     rcases hy with z|z|z
     .exact .inl z
     .exact .inr (.inl z)
     .exact .inr (.inr (.inl z))
    exact⟨0,by decide,[8,0],[0,0],O,⟨L8,JE,iN.ep,iN.ef,iN.en,p8,f8,⟨_,n8⟩⟩,n8,.inr ⟨O,O,O⟩⟩
   .exact cI (by decide) ⟨r',[8,0],_,O,iN,fun z=>U' z (by decide)⟩
  .rintro σ G ⟨r,fl,v4,rfl,lp,_⟩
   obtain⟨bW,ib⟩:=lp.lay.ex
   have CS:=sG G lp.kx
   refine⟨_,O,q,a.Layout,bW,_,_,O,ib,T.Vu,T.ZJ,qJ,_,O,_,O,l,bH,2,O,wj.same CS,by decide,by decide,fun gp G1 s1 n1 h1=>?_⟩
   refine⟨r.p,gp,[0,2],ptF bH 2,O,P'.of (s1 _ _ lp.hp),P'.of h1,by rw[fr4.2];rfl,by decide,fun gn G2 s2 n2 h2=>?_⟩
   rw[fr4.1] at h2
   have jX:=s1.trans s2
   refine⟨_,O,q,a.Layout,bW,_,_,O,jX _ _ ib,T.Vu,T.ZI,um,(by show 2≤U2;decide),fun gt JR=>?_⟩
   have s3:ae G2 (upd G2 gt (.tup [.ref gn,.ref r.f])):=ae.new JR
   exact k1 gt gn r.f _ (CS.trans (jX.trans s3)) ah (s3 _ _ h2)
end
namespace Nt
abbrev Vl:=List (Key×V)
def abc:C':="abcdefghijklmnopqrstuvwxyz"
def small (c:Nat):Bool:=!(QaI abc ⟨#[c]⟩ 0 abc.length 1).isEmpty
def jq (n:C'):Bool:=decide (1≤n.length) && decide (n.length≤8) && n.cps.toList.all small
def has (kvs:Vl) (n:C'):Bool:=(aS kvs (U7 n)).isSome
def iX (dh da:F') (nn:Int) (ls lm:F'):List (C'×V):=[("halves",.ref dh),("arrows_by_number",.ref da),("next_number",.int nn),("same_pairs",.ref ls),("most_bounds",.ref lm)]
theorem P2 {ls:F'}{m:Int}:aZ "next_number" (.int m) (iX dh da n ls lm)=iX dh da m ls lm:=by
 have h1:¬ (("halves":C')="next_number"):=by decide +kernel
 have h2:¬ (("arrows_by_number":C')="next_number"):=by decide +kernel
 simp only[iX,aZ,h1,h2,Wc,Xi]
structure Ar where
 num:Int
 one:C'
 other:C'
 span:Int
 weight:Int
def XJ (q:Ar):List V:=[.str q.one,.str q.other,.int q.span,.int q.weight]
def Xc (q:Ar):Dt:=.tup [.int q.num,.str q.one,.str q.other,.int q.span,.int q.weight]
def ux (q:C'×C'):Dt:=.tup [.str q.1,.str q.2]
def uu (q:C'×C'×Int):Dt:=.tup [.str q.1,.str q.2.1,.int q.2.2]
def jj (K:R') (H:Hp):List Ar→Vl→Prop
 | [],kvs=>kvs=[]
 | q::qs,kvs=>∃ t r,kvs=(Va q.num,.ref t)::r∧Vi K H t (XJ q)∧jj K H qs r
structure Rec where
 dh:F'
 da:F'
 ls:F'
 lm:F'
structure cv where
 kvs:Vl
 arr:List Ar
 nn:Int
 ss:List (C'×C')
 mm:List (C'×C'×Int)
structure b9 (K:R') (C:F') (H:Hp) (p:F') (r:Rec) (v:cv):Prop where
 ex:∃ dx,H p=i' (.ins C dx (iX r.dh r.da v.nn r.ls r.lm))
 hh:H r.dh=i' (.dK v.kvs)
 ha:∃ bY,H r.da=i' (.dK bY)∧jj K H v.arr bY
 hs:∃ xs,H r.ls=i' (.lst xs)∧a8 K H (v.ss.map ux) xs
 hm:∃ xs,H r.lm=i' (.lst xs)∧a8 K H (v.mm.map uu) xs
 n1:r.da≠r.dh
 n2:r.ls≠r.lm
theorem Oc {n:Nat} (q:Ar):ma (n+1) (Xc q):=by cases n<;>exact⟨trivial,trivial,trivial,trivial,trivial,trivial⟩
theorem _root_.L2.Tk.arr {K:R'}{H H':Hp} (e:Tk H H'):∀ {qs:List Ar}{kvs:Vl},jj K H qs kvs→jj K H' qs kvs
 | [],_,h=>h
 | q::qs,_,h=>by
  obtain⟨t,r,e1,h1,h2⟩:=h
  exact⟨t,r,e1,e.V7 h1,e.arr h2⟩
theorem jj.length {K:R'}{H:Hp}:∀ {qs:List Ar}{kvs:Vl},jj K H qs kvs→qs.length=kvs.length
 | [],_,h=>by rw[show _=[] from h];rfl
 | q::qs,_,h=>by
  obtain⟨t,r,rfl,h1,h2⟩:=h
  show qs.length+1=r.length+1
  rw[h2.length]
theorem jj.get {K:R'}{H:Hp}:∀ {qs:List Ar}{kvs:Vl}{i:Nat}{k:Key}{x:V},jj K H qs kvs→kvs[i]?=i' (k,x)→∃ q t,qs[i]?=i' q∧k=Va q.num∧x=.ref t∧Vi K H t (XJ q)
 | [],_,i,k,x,h,e=>by rw[show _=[] from h] at e;simp at e
 | q::qs,_,i,k,x,h,e=>by
  obtain⟨t,r,rfl,h1,h2⟩:=h
  cases i with
  | zero=>simp at e;exact⟨q,t,O,e.1.symm,e.2.symm,h1⟩
  | succ i=>exact h2.get (by simpa using e)
theorem jj.snoc {K:R'}{H:Hp}{q:Ar}{t:F'} (ht:Vi K H t (XJ q)):∀ {qs:List Ar}{kvs:Vl},jj K H qs kvs→jj K H (qs++[q]) (kvs++[(Va q.num,.ref t)])
 | [],_,h=>by rw[show _=[] from h];exact⟨t,[],O,ht,O⟩
 | q'::qs,_,h=>by
  obtain⟨t',r,rfl,h1,h2⟩:=h
  exact⟨t',_,O,h1,h2.snoc ht⟩
theorem b9.same {K:R'}{r:Rec}{v:cv} (n:b9 K C H p r v) (e:ae H H'):b9 K C H' p r v:=by
 obtain⟨⟨dx,h1⟩,h2,⟨bY,h3,h4⟩,⟨xs,h5,h6⟩,⟨ys,h7,h8⟩,n1,n2⟩:=n
 exact⟨⟨dx,e _ _ h1⟩,e _ _ h2,⟨bY,e _ _ h3,(Tk.of e).arr h4⟩,⟨xs,e _ _ h5,e.Vs h6⟩,⟨ys,e _ _ h7,e.Vs h8⟩,n1,n2⟩
def Kp (p:F') (r:Rec) (H H':Hp):Prop:=∀ b o,H b=i' o→b≠p→b≠r.dh→b≠r.da→b≠r.ls→b≠r.lm→H' b=i' o
theorem Kp.of {r:Rec} (e:ae H H'):Kp p r H H':=fun b o h _ _ _ _ _=>e b o h
theorem Kp.trans {r:Rec} (a:Kp p r H H1) (b:Kp p r H1 H2):Kp p r H H2:=fun c o h z1 z2 z3 z4 z5=>b c o (a c o h z1 z2 z3 z4 z5) z1 z2 z3 z4 z5
theorem WT {a:C'}:(((a,v)::r):List (C'×V)).lookup a=i' v:=by
 rw[Qb7,ZY]
theorem VC {a b:C'} (h:(a == b)=M'):(((b,v)::r):List (C'×V)).lookup a=r.lookup a:=by
 rw[Qb7,h]
theorem uo {ls:F'}:(iX dh da n ls lm).lookup ("halves":C')=i' (.ref dh):=WT
theorem Ak {ls:F'}:(iX dh da n ls lm).lookup ("arrows_by_number":C')=i' (.ref da):=(VC (by decide +kernel)).trans WT
theorem Qly {ls:F'}:(iX dh da n ls lm).lookup ("next_number":C')=i' (.int n):=(VC (by decide +kernel)).trans ((VC (by decide +kernel)).trans WT)
theorem QC {ls:F'}:(iX dh da n ls lm).lookup ("same_pairs":C')=i' (.ref ls):=(VC (by decide +kernel)).trans ((VC (by decide +kernel)).trans ((VC (by decide +kernel)).trans WT))
theorem MM {ls:F'}:(iX dh da n ls lm).lookup ("most_bounds":C')=i' (.ref lm):=(VC (by decide +kernel)).trans ((VC (by decide +kernel)).trans ((VC (by decide +kernel)).trans ((VC (by decide +kernel)).trans WT)))
section
variable {K:R'}
inductive Q3 (vs:List V) (H:Hp) (Q:VK) (bg:XK):Prop
 | mk (n:C') (_:vs=[.str n]) (_:n.length≤1000) (_:∀ H',ae H H'→Q (.bl (jq n)) H')
theorem Mv (T:Tx K mg a):Vz P w K mg base Vp 1 "is_name" ["name"] [] Q3:=T.Qke.Vq fun f fd F=>by
 refine F.ok Pp (fun vs H Q E h=>?_) (fun aw A outer s H vs Q E hr h=>?_)
 .obtain⟨n,rfl,_⟩:=h
  rfl
 .obtain⟨n,rfl,hn,k⟩:=h
  have hz:n.length≤U2:=Qhm hn (by rw[Vm];decide)
  refine⟨_,(ak (bo (PW.pt (lS (kG (iT (bx Bk O T.Zd nK (af (pv 0) (af (AC O T.Qa1 vd) ai))))) (lS (a7 mX (bx xn O T.Wk dk (af (pv 0) ai)) au (aV _)) (qT (a7 kK (bx xn O T.Wk dk (af (pv 0) ai)) (i7 O T.QkI) (aV _)))))) (av (aK uz)) bp)
   (av (aK (bx AR rfl T.Qc6 A4 (af (cN (N:=["sign"]) (cap:=[B']) O (bN (osc:=ay Bm) (XN:=["name"]) O O (by decide +kernel)) (FK (pv 0)) (fun cl C s H fp aa=>(aC (i:=0) (show(["sign"]:List C').Nodup by decide +kernel) rfl (by first|exact UY rfl|exact UX O))) (fun cl C s H fp aa=>cH) (fun cl C s H fp aa=>(jS AX (pv 0) (Ge O T.QkN) (by with_unfolding_all rfl)))) ai))))),?_⟩
  refine⟨_,O,_,_,_,_,_,O,O,.str _,T.QkX,D',O,?_⟩
  refine cI O ?_
  refine⟨_,O,_,O,hz,_,_,O,O,_,O,?_⟩
  refine bc (fun c1=>?_) (fun c1=>?_)
  .have e:jq n=M':=by
    have:(n.length:Int)<1:=of_decide_eq_true c1
    simp only[jq,Qbc,decide_eq_false_iff_not]
    exact .inl (.inl (by lia))
   refine cY ?_
   show Q (.bl M') _
   rw[← e]
   exact k H (ae.refl H)
  .refine⟨_,O,_,O,hz,_,_,O,O,_,O,?_⟩
   have h1:1≤n.length:=by
    have:¬ (n.length:Int)<1:=of_decide_eq_false c1
    lia
   refine bc (fun c2=>?_) (fun c2=>?_)
   .have e:jq n=M':=by
     have:(8:Int)<n.length:=of_decide_eq_true c2
     simp only[jq,Qbc,decide_eq_false_iff_not]
     exact .inl (.inr (by lia))
    show Q (.bl M') _
    rw[← e]
    exact k H (ae.refl H)
   .have h2:n.length≤8:=by
     have:¬ (8:Int)<n.length:=of_decide_eq_false c2
     lia
    refine⟨_,O,n,O,fun D hD=>?_⟩
    refine GV (x:=n) (fun i τ H'=>∃ v,τ=[v]∧ae H H'∧H' D=i' (.lst (((n.cps.toList.take i).map small).map V.bl))) ⟨B',rfl,ae.new hD,ah⟩ ?_ ?_
    .rintro i c τ H' hc ⟨v,rfl,sm,hl⟩
     dsimp only[bE,cX]
     rw[U3 rfl]
     refine⟨_,O,_,_,O,O,_,hl,?_,_,O,?_,?_⟩
     .rw[U1,U1,VJ,Vm]
      have:n.cps.toList.length=n.length:=by rw[Qdt];rfl
      lia
     .intro b o e
      rw[aj (ao e hD)]
      exact sm b o e
     .have iF:n.cps.toList[i]?=i' c:=by rw[Qf5];exact hc
      have ht:n.cps.toList.take (i+1)=n.cps.toList.take i++[c]:=by
       rw[List.take_add_one,iF]
       rfl
      rw[ah,ht,Vr,Vr]
      rfl
    .rintro τ H' ⟨v,rfl,sm,hl⟩
     refine⟨D,(n.cps.toList.take n.cps.size).map small,O,P'.of hl,?_⟩
     have e:(Qed small (n.cps.toList.take n.cps.size)).all id=jq n:=by
      rw[XM (by rw[Qdt];exact Xh _),Qbh]
      simp only[jq,decide_eq_true h1,decide_eq_true h2,QdV]
      rfl
     rw[e]
     exact k H' sm
inductive Ol (vs:List V) (H:Hp) (Q:VK) (bg:XK):Prop
 | mk (i:_) (_:vs=[.int i]) (_:Q (.bl D') H)
theorem Mu (T:Tx K mg a):Vz P w K mg base Vp 1 "is_whole" ["number"] [] Ol:=T.Qkf.Vq fun f fd F=>by
 refine F.ok MW (fun vs H Q E h=>?_) (fun aw A outer s H vs Q E hr h=>?_)
 .obtain⟨n,rfl,_⟩:=h
  rfl
 .obtain⟨i,rfl,q⟩:=h
  refine⟨_,(av (aK (uX (bx Bk O T.Zd nK (af (pv 0) (af (AC O T.QbE xf) ai))) (pD (HS (bx Bk O T.Zd nK (af (pv 0) (af (AC O T.Qk7 OS) ai)))))))),?_⟩
  refine⟨_,O,_,_,_,_,_,O,O,.int _,T.QkY,D',O,?_⟩
  refine cY ?_
  exact⟨_,O,_,_,_,_,_,O,O,.int _,T.QkZ,M',O,q⟩
inductive QE (vs:List V) (H:Hp) (Q:VK) (bg:XK):Prop
 | mk (i l g:_) (_:vs=[.int i,.int l,.int g]) (_:Q (.bl (decide (l≤i) && decide (i≤g))) H)
theorem BQ (T:Tx K mg a):Vz P w K mg base Vp 2 "in_range" ["number","least","greatest"] [] QE:=T.Qkg.Vq fun f fd F=>by
 have g7:=Mu (P:=P) (w:=w) (base:=base) T
 refine F.ok Mx (fun vs H Q E h=>?_) (fun aw A outer s H vs Q E hr h=>?_)
 .obtain⟨n,_,_,rfl,_⟩:=h
  rfl
 .obtain⟨i,l,g,rfl,q⟩:=h
  refine⟨_,(av (aK (uX (br g7 (hr.mono (by decide)) rfl (af (pv 0) ai)) (uX (jS AD (pv 0) (pv 1) (aV _)) (pD (jS Qew (pv 0) (pv 2) (aV _))))))),?_⟩
  refine⟨_,O,_,O,D',O,?_⟩
  refine cY ?_
  refine⟨_,O,_,O,_,_,O,O,_,O,?_⟩
  refine bc (fun c=>?_) (fun c=>?_)
  .refine⟨_,O,_,O,_,_,O,O,?_⟩
   rw[c] at q
   exact q
  .rw[c] at q
   exact q
theorem Oy {x y:F'}:upd H x o y=B'↔y≠x∧H y=B':=by
 unfold upd
 by_cases h:y=x<;>simp[h]
theorem pS {x y:F'}:upd H x o y=if y=x then i' o else H y:=rfl
theorem Qe {ls:F'}:aZ "most_bounds" (.ref lm) (aZ "same_pairs" (.ref ls) (aZ "next_number" (.int 0) (aZ "arrows_by_number" (.ref da) (aZ "halves" (.ref dh) []))))=iX dh da 0 ls lm:=by
 have h1:¬ (("halves":C')="arrows_by_number"):=by decide +kernel
 have h2:¬ (("halves":C')="next_number"):=by decide +kernel
 have h3:¬ (("halves":C')="same_pairs"):=by decide +kernel
 have h4:¬ (("halves":C')="most_bounds"):=by decide +kernel
 have h5:¬ (("arrows_by_number":C')="next_number"):=by decide +kernel
 have h6:¬ (("arrows_by_number":C')="same_pairs"):=by decide +kernel
 have h7:¬ (("arrows_by_number":C')="most_bounds"):=by decide +kernel
 have h8:¬ (("next_number":C')="same_pairs"):=by decide +kernel
 have h9:¬ (("next_number":C')="most_bounds"):=by decide +kernel
 have h0:¬ (("same_pairs":C')="most_bounds"):=by decide +kernel
 simp only[aZ,h1,h2,h3,h4,h5,h6,h7,h8,h9,h0,Wc]
 rfl
def Yr:cv:=⟨[],[],0,[],[]⟩
inductive Mj (K:R') (C:F') (vs:List V) (H:Hp) (Q:VK) (bg:XK):Prop
 | mk (p dx:_) (_:vs=[.ref p]) (_:H p=i' (.ins C dx [])) (_:∀ r H',(∀ b o,H b=i' o→b≠p→H' b=i' o)→(∀ b o,H b=i' o→b≠r.dh∧b≠r.da∧b≠r.ls∧b≠r.lm)→b9 K C H' p r Yr→Q .U8 H')
theorem MH (T:Tx K mg a):re P w K mg base Vp 1 a.Net "Net" ["self"] (Mj K a.Net):=T.QcY.Vq fun f fd F=>by
 refine F.ok QG (fun vs H Q E h=>?_) (fun aw A outer s H vs Q E hr h=>?_)
 .obtain⟨p,dx,rfl,_⟩:=h
  rfl
 .obtain⟨p,dx,rfl,hp,k⟩:=h
  refine⟨_,(ak (fj (pv 0) mW O)
   (ak (fj (pv 0) mW rfl)
   (ak (fj (pv 0) au rfl)
   (ak (fj (pv 0) (dC ai) rfl)
   (av (fj (pv 0) (dC ai) rfl)))))),?_⟩
  refine fun d1 n1=>⟨_,O,p,a.Net,dx,[],O,by rw[aj (ao hp n1)];exact hp,T.VE,T.Qak,by decide,?_⟩
  refine fun d2 n2=>⟨_,O,p,a.Net,dx,_,O,by rw[aj (ao ah n2)];exact ah,T.VE,T.QbA,by show 1<1000;decide,?_⟩
  refine⟨_,O,p,a.Net,dx,_,O,ah,T.VE,T.QcW,by show 2<1000;decide,?_⟩
  refine⟨by show 0≤U2;decide,fun l1 n3=>⟨_,O,p,a.Net,dx,_,O,by rw[aj (ao ah n3)];exact ah,T.VE,T.Qe6,by show 3<1000;decide,?_⟩⟩
  refine⟨by show 0≤U2;decide,fun l2 n4=>⟨_,O,p,a.Net,dx,_,O,by rw[aj (ao ah n4)];exact ah,T.VE,T.Qe5,by show 4<1000;decide,?_⟩⟩
  have p1:p≠d1:=ao hp n1
  simp only[Oy] at n2 n3 n4
  show Q .U8 _
  rw[Qe]
  have ne:∀ b o,H b=i' o→∀ c,H c=B'→b≠c:=fun b o e c h z=>by rw[z,h] at e;cases e
  refine k ⟨d1,d2,l1,l2⟩ _ (fun b o e hb=>?_) (fun b o e=>⟨ne b o e _ n1,ne b o e _ n2.2.2,ne b o e _ n3.2.2.2.2.2,ne b o e _ n4.2.2.2.2.2.2.2⟩) ⟨⟨dx,ah⟩,?_,⟨[],?_,O⟩,⟨[],?_,O⟩,⟨[],?_,O⟩,n2.2.1,U5 n4.2.1⟩
  .simp[pS,hb,ne b o e _ n1,ne b o e _ n2.2.2,ne b o e _ n3.2.2.2.2.2,ne b o e _ n4.2.2.2.2.2.2.2,e]
  .show _=i' (HO.dK [])
   simp[pS,U5 p1,U5 n2.2.1,U5 n3.2.2.2.2.1,U5 n4.2.2.2.2.2.2.1]
  .simp[pS,n2,U5 n3.2.2.1,U5 n4.2.2.2.2.1]
  .simp[pS,n3,U5 n4.2.1]
  .simp[pS,n4]
inductive AM (C:F') (f:C') (vs:List V) (H:Hp) (Q:VK) (bg:XK):Prop
 | mk (x t y:_) (_:vs=[.ref x,y]) (_:H x=i' (gB C t x B')) (_:∀ dx,H dx=B'→Q .U8 (upd (upd H dx (.xd [(f,y)])) x (gB C t x (i' dx))))
theorem QM (T:Tx K mg a):vf P w K mg base Vp 1 a.NoPoint "NoPoint" ["self","name"] (AM a.NoPoint "name"):=T.QjT.Vq fun f fd F=>by
 refine F.ok NH (fun vs H Q E h=>?_) (fun aw A outer s H vs Q E hr h=>?_)
 .obtain⟨x,t,y,rfl,_⟩:=h
  rfl
 .obtain⟨x,t,y,rfl,hx,k⟩:=h
  refine⟨_,(av (AV (pv 0) (pv 1) O)),?_⟩
  exact⟨_,O,_,O,x,a.NoPoint,t,O,hx,T.QjU,fun dx nd=>k dx nd⟩
def VM (kvs:Vl):List V:=kvs.map fun kv=>kV kv.1
inductive Q2 (K:R') (C:F') (vs:List V) (H:Hp) (Q:VK) (bg:XK):Prop
 | mk (p r v:_) (_:vs=[.ref p]) (_:b9 K C H p r v) (_:∀ l,H l=B'→Q (.ref l) (upd H l (.lst (VM v.kvs))))
theorem rB (T:Tx K mg a):eW P w K mg base Vp 1 a.Net "points" ["self"] [] (Q2 K a.Net):=T.Xy.Vq fun f fd F=>by
 refine F.ok Mz (fun vs H Q E h=>?_) (fun aw A outer s H vs Q E hr h=>?_)
 .obtain⟨p,r,v,rfl,_⟩:=h
  rfl
 .obtain⟨p,r,v,rfl,N,k⟩:=h
  obtain⟨dx,hp⟩:=N.ex
  refine⟨_,(av (aK (jO Pb O T.QbF wZ (af (bf (pv 0) O) ai)))),?_⟩
  exact⟨_,O,p,a.Net,dx,_,_,O,hp,T.VE,T.Qak,uo,r.dh,v.kvs,O,N.hh,fun l hl=>k l hl⟩
inductive Er where
 | name | taken | point (n:C') | alone | number | many | such (i:Int)
def uL (a:VS) (E:XK):Er→Hp→Prop
 | .name,H=>E (.ref a.NoName) B' H
 | .taken,H=>E (.ref a.Taken) B' H
 | .point n,H=>∀ dx,H dx=i' (.xd [("name",.str n)])→E (.ref a.NoPoint) (i' dx) H
 | .alone,H=>E (.ref a.Alone) B' H
 | .number,H=>E (.ref a.NoNumber) B' H
 | .many,H=>E (.ref a.TooMany) B' H
 | .such _,_=>False
def jm (kvs:Vl) (n:C') (h:Int):Option Er:=
 if jq n=M' then i' .name else if has kvs n=D' then i' .taken else if h<0∨50<h then i' .number else if 20≤kvs.length then i' .many else B'
inductive Qff (K:R') (a:VS) (vs:List V) (H:Hp) (Q:VK) (E:XK):Prop
 | mk (p r v n h:_) (_:vs=[.ref p,.str n,.int h]) (_:n.length≤1000) (_:b9 K a.Net H p r v) (_:v.kvs.length≤1000) (_:(∀ er,jm v.kvs n h=i' er→∀ H',ae H H'→uL a E er H')) (_:(jm v.kvs n h=B'→∀ H',Kp p r H H'→b9 K a.Net H' p r {v with kvs:=v.kvs++[(U7 n,.int h)]}→Q .U8 H'))
theorem NS (T:Tx K mg a) (f:F') (fd:XE) (F:dX K "put_point" "Net.put_point" xA f fd):cg P w K mg base (Wa P w) 3 f fd ["self","name","half"] (Qff K a):=by
 have iI:=Mv (P:=P) (w:=w) (base:=base) T
 have aY:=BQ (P:=P) (w:=w) (base:=base) T
 refine F.Xm PD (fun vs H Q E h=>?_) (fun aw A outer s H vs Q E hr h=>?_)
 .obtain⟨p,r,v,n,h,rfl,_⟩:=h
  rfl
 .obtain⟨p,r,v,n,h,rfl,hn,N,hk,k1,k2⟩:=h
  refine⟨_,(ak (bo (kG (iT (br iI (hr.mono (by decide)) rfl (af (pv 1) ai)))) (av (p7 cx T.QjJ rfl T.Qe0)) bp)
   (ak (bo (jQ (BV (bw hr) (pv 1) (bf (pv 0) rfl))) (av (p7 cx T.QjL rfl T.QjK)) bp)
   (ak (bo (kG (iT (br aY (hr.mono (by decide)) rfl (af (pv 2) (af au (af (i7 rfl T.QkO) ai)))))) (av (p7 cx T.Qe1 rfl T.QcT)) bp)
   (ak (bo (a7 AD (bx Hw rfl T.Wk dk (af (bf (pv 0) rfl) ai)) (i7 rfl T.QkM) (aV _)) (av (p7 cx T.Qe3 rfl T.Qe2)) bp)
   (av (lP (bw hr) (bf (pv 0) rfl) (pv 1) (pv 2) rfl)))))),?_⟩
  refine⟨_,O,n,O,hn,fun H1 s1=>⟨_,O,?_⟩⟩
  have N1:=N.same s1
  obtain⟨dx,hp⟩:=N1.ex
  refine bc (fun c=>?_) (fun c=>?_)
  .have c':jq n=M':=by simpa using c
   exact⟨by show 0≤U2;decide,k1 .name (by simp only[jm,U3 c']) H1 s1⟩
  have c1:¬ jq n=M':=by
   have:jq n=D':=by simpa using c
   rw[this];decide
  refine⟨_,O,_,O,p,a.Net,dx,_,_,O,hp,T.VE,T.Qak,uo,r.dh,_,O,bS.k (k:=U7 n) N1.hh,_,O,?_⟩
  refine bc (fun c=>?_) (fun c=>?_)
  .have c':has v.kvs n=D':=c
   exact⟨by show 0≤U2;decide,k1 .taken (by simp only[jm,U4 c1,U3 c']) H1 s1⟩
  have c2:¬ has v.kvs n=D':=by rw[show has v.kvs n=M' from c];decide
  refine⟨_,O,h,0,50,O,_,O,?_⟩
  refine bc (fun c=>?_) (fun c=>?_)
  .have c':h<0∨50<h:=by
    simp only[QaB,Qbc,decide_eq_false_iff_not] at c
    lia
   exact⟨by show 0≤U2;decide,k1 .number (by simp only[jm,U4 c1,U4 c2,U3 c']) H1 s1⟩
  have c3:¬ (h<0∨50<h):=by
   simp only[Qb1,XB,decide_eq_true_eq] at c
   lia
  refine⟨_,O,p,a.Net,dx,_,_,O,hp,T.VE,T.Qak,uo,r.dh,v.kvs,O,N1.hh,_,_,O,O,_,O,?_⟩
  refine bc (fun c=>?_) (fun c=>?_)
  .have c':20≤v.kvs.length:=by
    have:(20:Int)≤v.kvs.length:=of_decide_eq_true c
    lia
   exact⟨by show 0≤U2;decide,k1 .many (by simp only[jm,U4 c1,U4 c2,U4 c3,U3 c']) H1 s1⟩
  have c4:¬ 20≤v.kvs.length:=by
   have:¬ (20:Int)≤v.kvs.length:=of_decide_eq_false c
   lia
  refine⟨_,O,_,O,p,a.Net,dx,_,_,O,hp,T.VE,T.Qak,uo,_,O,r.dh,_,O,rF.k (k:=U7 n) N1.hh (by rw[Vm];lia),?_⟩
  show Q .U8 _
  have e:aS v.kvs (U7 n)=B':=by
   have:(aS v.kvs (U7 n)).isSome=M':=c2 |> fun z=>by simpa [has] using z
   simpa using this
  rw[uE (.int h) e]
  refine k2 (by simp only[jm,U4 c1,U4 c2,U4 c3,U4 c4]) _ (fun b o q _ z2 _ _ _=>by rw[aj z2];exact s1 _ _ q) ?_
  obtain⟨_,h2,⟨bY,h3,h4⟩,⟨xs,h5,h6⟩,⟨ys,h7,h8⟩,n1,n2⟩:=N1
  have tk:Tk H1 (upd H1 r.dh (.dK (v.kvs++[(U7 n,.int h)]))):=Tk.upd h2 rfl
  exact⟨⟨dx,by rw[aj (bQ hp h2 (by intro z;cases z))];exact hp⟩,ah,⟨bY,by rw[aj n1];exact h3,tk.arr h4⟩,⟨xs,by rw[aj (bQ h5 h2 (by intro z;cases z))];exact h5,tk.Vs (cy (fun _=>O) _) h6⟩,
   ⟨ys,by rw[aj (bQ h7 h2 (by intro z;cases z))];exact h7,tk.Vs (cy (fun _=>O) _) h8⟩,n1,n2⟩
theorem Qlz (T:Tx K mg a):eW P w K mg base (Wa P w) 3 a.Net "put_point" ["self","name","half"] [] (Qff K a):=T.QcZ.Vq fun f fd F=>NS T f fd F
inductive QlA (K:R') (a:VS) (vs:List V) (H:Hp) (Q:VK) (E:XK):Prop
 | mk (p r v n:_) (_:vs=[.ref p,.str n]) (_:b9 K a.Net H p r v) (_:(has v.kvs n=D'→∀ H',ae H H'→Q .U8 H')) (_:(has v.kvs n=M'→∀ H',ae H H'→uL a E (.point n) H'))
theorem E4 (n:C'):∀ kvs:Vl,Yj (.str n) (VM kvs)=has kvs n
 | []=>rfl
 | (k,v)::r=>by
  have ih:=E4 n r
  show(W8 (kV k) (.str n) || Yj (.str n) (VM r))=has ((k,v)::r) n
  rw[ih]
  cases k with
  | inl i=>
   have:¬ (Va i:Key)=U7 n:=by intro z;cases z
   unfold has
   rw[cf (p:=(Va i,v)) this]
   rfl
  | inr m=>
   by_cases h:m=n
   .subst h
    unfold has
    rw[dr (p:=(U7 m,v)) rfl]
    simp[kV,W8]
   .have:¬ (U7 m:Key)=U7 n:=by intro z;cases z;exact h rfl
    unfold has
    rw[cf (p:=(U7 m,v)) this]
    simp[kV,W8,h]
theorem GL:∀ kvs:Vl,(VM kvs).all js=D'
 | []=>rfl
 | (k,v)::r=>by
  show(js (kV k) && (VM r).all js)=D'
  rw[GL r]
  cases k<;>rfl
theorem Gs (T:Tx K mg a):eW P w K mg base (Wa P w) 3 a.Net "need_point" ["self","name"] [] (QlA K a):=T.Qal.Vq fun f fd F=>by
 have Xy:=rB (P:=P) (w:=w) (base:=base) T
 have iQ:=QM (P:=P) (w:=w) (base:=base) T
 refine F.Xm Oi (fun vs H Q E h=>?_) (fun aw A outer s H vs Q E hr h=>?_)
 .obtain⟨p,r,v,n,rfl,_⟩:=h
  rfl
 .obtain⟨p,r,v,n,rfl,N,k1,k2⟩:=h
  obtain⟨dx,hp⟩:=N.ex
  refine⟨_,(av (bo (a7 Fp (pv 1) (iB (pv 0) T.VE Xy (hr.mono (by decide))) (by with_unfolding_all rfl)) (av (mS cx iQ (hr.mono (by decide)) rfl (af (pv 1) ai))) bp)),?_⟩
  refine⟨_,O,_,O,p,dx,_,O,hp,by rfl,p,r,v,O,N,fun l hl=>⟨l,_,O,.inl (P'.of ah),O,GL v.kvs,_,O,?_⟩⟩
  rw[E4]
  refine bc (fun c=>?_) (fun c=>?_)
  .have c':has v.kvs n=M':=by simpa using c
   refine⟨_,O,by show 1≤U2;decide,fun x t hx=>⟨x,t,_,O,ah,fun d nd=>⟨O,i' d,ah,?_⟩⟩⟩
   have xd:d≠x:=fun z=>by rw[z,ah] at nd;cases nd
   have e:del (upd (upd (upd (upd H l (.lst (VM v.kvs))) x (gB a.NoPoint t x B')) d (.xd [("name",.str n)])) x (gB a.NoPoint t x (i' d))) x=upd (upd H l (.lst (VM v.kvs))) d (.xd [("name",.str n)]):=by
    funext b
    unfold del
    by_cases h1:b=x
    .subst h1
     rw[U3 rfl,aj (U5 xd),hx]
    .rw[U4 h1,aj h1]
     by_cases h2:b=d
     .subst h2;rw[ah,ah]
     .rw[aj h2,aj h1,aj h2]
   show E _ _ _
   rw[e]
   have eU:upd H l (.lst (VM v.kvs)) d=B':=by rw[aj xd] at nd;exact nd
   exact k2 c' _ ((ae.new hl).trans (ae.new eU)) d ah
  .have c':has v.kvs n=D':=by simpa using c
   exact k1 c' _ (ae.new hl)
end
section
variable {K:R'}
theorem My {o:C'} (h:Vi K H q [.str o,.str t]):VW K H (ux (o,t)) (.ref q):=⟨q,_,O,h,_,_,O,O,_,_,O,O,O⟩
theorem Om {o:C'} (h:Vi K H q [.str o,.str t,.int n]):VW K H (uu (o,t,n)) (.ref q):=⟨q,_,O,h,_,_,O,O,_,_,O,O,_,_,O,O,O⟩
theorem AJ {x:Ar} (h:Vi K H q (.int x.num::XJ x)):VW K H (Xc x) (.ref q):=⟨q,_,O,h,_,_,O,O,_,_,O,O,_,_,O,O,_,_,O,O,_,_,O,O,O⟩
theorem FZ {o:C'} (h:VW K H (ux (o,t)) x):∃ q,x=.ref q∧Vi K H q [.str o,.str t]:=by
 obtain⟨q,xs,rfl,h1,y1,vM,rfl,rfl,y2,ue,rfl,rfl,h2⟩:=h
 rw[show ue=[] from h2] at h1
 exact⟨q,O,h1⟩
theorem EY {o:C'} (h:VW K H (uu (o,t,n)) x):∃ q,x=.ref q∧Vi K H q [.str o,.str t,.int n]:=by
 obtain⟨q,xs,rfl,h1,y1,vM,rfl,rfl,y2,ue,rfl,rfl,y3,v0,rfl,rfl,h2⟩:=h
 rw[show v0=[] from h2] at h1
 exact⟨q,O,h1⟩
def two (kvs:Vl) (o t:C'):Option Er:=
 if has kvs o=M' then i' (.point o) else if has kvs t=M' then i' (.point t) else if o=t then i' .alone else B'
inductive QlB (K:R') (a:VS) (vs:List V) (H:Hp) (Q:VK) (E:XK):Prop
 | mk (p r v o t:_) (_:vs=[.ref p,.str o,.str t]) (_:b9 K a.Net H p r v) (_:(two v.kvs o t=B'→∀ H',ae H H'→Q .U8 H')) (_:(∀ er,two v.kvs o t=i' er→∀ H',ae H H'→uL a E er H'))
theorem QlC (T:Tx K mg a):eW P w K mg base (Wa P w) 4 a.Net "need_two_points" ["self","one","other"] [] (QlB K a):=T.Qc2.Vq fun f fd F=>by
 have Qal:=Gs (P:=P) (w:=w) (base:=base) T
 refine F.Xm OD (fun vs H Q E h=>?_) (fun aw A outer s H vs Q E hr h=>?_)
 .obtain⟨p,r,v,o,t,rfl,_⟩:=h
  rfl
 .obtain⟨p,r,v,o,t,rfl,N,k1,k2⟩:=h
  obtain⟨dx,hp⟩:=N.ex
  refine⟨_,(ak (cF (g8 (pv 0) T.VE Qal cx (hr.mono (by decide)) (af (pv 1) ai)))
   (ak (cF (g8 (pv 0) T.VE Qal cx (hr.mono (by decide)) (af (pv 2) ai)))
   (av (bo (a7 cw (pv 1) (pv 2) (aV _)) (av (p7 cx T.QjN rfl T.QjM)) bp)))),?_⟩
  refine⟨_,O,p,dx,_,O,hp,by rfl,_,O,p,r,v,o,O,N,fun c1 H1 s1=>?_,fun c=>k2 _ (by simp only[two,U3 c])⟩
  have xH:¬ has v.kvs o=M':=by rw[c1];decide
  refine⟨_,O,p,dx,_,O,s1 _ _ hp,by rfl,_,O,p,r,v,t,O,N.same s1,fun c2 H2 s2=>?_,fun c H2 s2=>k2 _ (by simp only[two,U4 xH,U3 c]) H2 (s1.trans s2)⟩
  have CV:¬ has v.kvs t=M':=by rw[c2];decide
  refine⟨_,O,_,O,O,_,O,?_⟩
  refine bc (fun c=>?_) (fun c=>?_)
  .have c3:o=t:=by simpa using c
   exact⟨by show 0≤U2;decide,k2 .alone (by simp only[two,U4 xH,U4 CV,U3 c3]) H2 (s1.trans s2)⟩
  .have c3:¬ o=t:=by simpa using c
   exact k1 (by simp only[two,U4 xH,U4 CV,U4 c3]) H2 (s1.trans s2)
def bad:Option Int→Bool
 | none=>M'
 | some n=>decide (n<0) || decide (99<n)
def lim (kvs:Vl) (m:Nat) (o t:C') (nh:Option Int):Option Er:=
 match two kvs o t with
 | some er=>i' er
 | none=>if bad nh=D' then i' .number else if 20≤m then i' .many else B'
def kI (v:cv) (o t:C') (sp wt:Int):Option Er:=
 match two v.kvs o t with
 | some er=>i' er
 | none=>if (sp<1∨20<sp)∨(wt<1∨1000000<wt) then i' .number else if 40≤v.arr.length then i' .many else B'
theorem Mw {v:cv}{o:C'}{wt:Int}{er:Er} (h:two v.kvs o t=i' er):kI v o t sp wt=i' er:=by unfold kI;rw[h]
theorem Bs {v:cv}{o:C'}{wt:Int} (h:two v.kvs o t=B'):kI v o t sp wt=if (sp<1∨20<sp)∨(wt<1∨1000000<wt) then i' .number else if 40≤v.arr.length then i' .many else B':=by unfold kI;rw[h]
inductive EZ (K:R') (a:VS) (vs:List V) (H:Hp) (Q:VK) (E:XK):Prop
 | mk (p r v o t sp wt:_) (_:vs=[.ref p,.str o,.str t,.int sp,.int wt]) (_:b9 K a.Net H p r v) (_:v.arr.length≤1000) (_:(∀ q∈v.arr,q.num<v.nn)) (_:(kI v o t sp wt=B'→∀ H',Kp p r H H'→b9 K a.Net H' p r {v with arr:=v.arr++[⟨v.nn,o,t,sp,wt⟩],nn:=v.nn+1}→Q (.int v.nn) H')) (_:(∀ er,kI v o t sp wt=i' er→∀ H',ae H H'→uL a E er H'))
theorem GH {H:Hp}{n:Int}:∀ {qs:List Ar}{kvs:Vl},jj K H qs kvs→(∀ q∈qs,q.num<n)→aS kvs (Va n)=B'
 | [],_,h,_=>by rw[show _=[] from h];rfl
 | q::qs,_,h,l=>by
  obtain⟨t,r,rfl,h1,h2⟩:=h
  have ne:¬ (Va q.num:Key)=Va n:=fun z=>by
   have:=l q Xf
   cases z
   lia
  rw[cf (p:=(Va q.num,V.ref t)) ne]
  exact GH h2 fun q' fq=>l q' (Xp _ fq)
theorem Qc (T:Tx K mg a) (f:F') (fd:XE) (F:dX K "put_arrow" "Net.put_arrow" uQ f fd):cg P w K mg base (Wa P w) 5 f fd ["self","one","other","span","weight"] (EZ K a):=by
 have Qc2:=QlC (P:=P) (w:=w) (base:=base) T
 have aY:=BQ (P:=P) (w:=w) (base:=base) T
 refine F.Xm Gb (fun vs H Q E h=>?_) (fun aw A outer s H vs Q E hr h=>?_)
 .obtain⟨p,r,v,o,t,sp,wt,rfl,_⟩:=h
  rfl
 .obtain⟨p,r,v,o,t,sp,wt,rfl,N,hk,Kt,k1,k2⟩:=h
  obtain⟨dx,hp⟩:=N.ex
  refine⟨_,(ak (cF (g8 (pv 0) T.VE Qc2 cx (hr.mono (by decide)) (af (pv 1) (af (pv 2) ai))))
   (ak (bo (PW.pt (lS (kG (iT (br aY (hr.mono (by decide)) rfl (af (pv 3) (af au (af (i7 rfl T.QkJ) ai)))))) (qT (kG (iT (br aY (hr.mono (by decide)) rfl (af (pv 4) (af au (af (i7 rfl T.QkG) ai))))))))) (av (p7 cx T.Qe1 rfl T.QcT)) bp)
   (ak (bo (a7 AD (bx Hw rfl T.Wk dk (af (bf (pv 0) rfl) ai)) (i7 rfl T.QkK) (aV _)) (av (p7 cx T.Qe3 rfl T.Qe2)) bp)
   (ak (aR (i:=5) Gb.nd O (by first|exact UY rfl|exact UX O) (bf (pv 0) O))
   (ak (lP (bw hr) (bf (pv 0) rfl) (pv 5) (fZ (af (pv 1) (af (pv 2) (af (pv 3) (af (pv 4) ai))))) rfl)
   (ak (fj (pv 0) (aX md (pv 5) au) rfl)
   (av (aK (pv 5))))))))),?_⟩
  refine⟨_,O,p,dx,_,O,hp,by rfl,_,O,_,O,p,r,v,o,t,O,N,fun c1 H1 s1=>?_,fun er c=>k2 er (Mw c)⟩
  rw[Bs c1] at k1 k2
  have N1:=N.same s1
  obtain⟨bY,h3,h4⟩:=N1.ha
  have bX:=s1 _ _ hp
  have hl:bY.length=v.arr.length:=by rw[← h4.length]
  have tG:((sp<1∨20<sp)∨(wt<1∨1000000<wt))→_:=fun c=>k2 .number (by rw[U3 c]) H1 s1
  refine⟨_,O,sp,1,20,O,_,O,?_⟩
  refine bc (fun c=>?_) (fun c=>?_)
  .have c':sp<1∨20<sp:=by
    simp only[QaB,Qbc,decide_eq_false_iff_not] at c
    lia
   exact cY ⟨by show 0≤U2;decide,tG (.inl c')⟩
  have c3:¬ (sp<1∨20<sp):=by
   simp only[Qb1,XB,decide_eq_true_eq] at c
   lia
  refine⟨_,O,wt,1,1000000,O,_,O,?_⟩
  refine bc (fun c=>?_) (fun c=>?_)
  .have c':wt<1∨1000000<wt:=by
    simp only[QaB,Qbc,decide_eq_false_iff_not] at c
    lia
   exact⟨by show 0≤U2;decide,tG (.inr c')⟩
  have c4:¬ (wt<1∨1000000<wt):=by
   simp only[Qb1,XB,decide_eq_true_eq] at c
   lia
  rw[U4 (fun z=>z.elim c3 c4)] at k1 k2
  refine⟨_,O,p,a.Net,dx,_,_,O,bX,T.VE,T.QbA,Ak,r.da,bY,O,h3,_,_,O,O,_,O,?_⟩
  refine bc (fun c=>?_) (fun c=>?_)
  .have c':40≤v.arr.length:=by
    have:(40:Int)≤bY.length:=of_decide_eq_true c
    lia
   exact⟨by show 0≤U2;decide,k2 .many (by rw[U3 c']) H1 s1⟩
  have c':¬ 40≤v.arr.length:=by
   have:¬ (40:Int)≤bY.length:=of_decide_eq_false c
   lia
  refine⟨_,O,p,a.Net,dx,_,_,O,bX,T.VE,T.QcW,Qly,?_⟩
  refine⟨_,O,_,O,_,O,_,O,(by show 4≤U2;decide),fun q nq=>?_⟩
  have s2:ae H1 (upd H1 q (.tup [.str o,.str t,.int sp,.int wt])):=ae.new nq
  have hq:Vi K (upd H1 q (.tup [.str o,.str t,.int sp,.int wt])) q (XJ ⟨v.nn,o,t,sp,wt⟩):=Vi.of ah
  generalize upd H1 q (.tup [.str o,.str t,.int sp,.int wt])=H2 at s2 hq ⊢
  have ii:=s2 _ _ bX
  have qd:=s2 _ _ h3
  refine⟨_,O,p,a.Net,dx,_,_,O,ii,T.VE,T.QbA,Ak,_,O,r.da,_,O,rF.k (k:=Va v.nn) qd (by rw[Vm];lia),?_⟩
  rw[uE (.ref q) (GH h4 Kt)]
  have vX:upd H2 r.da (.dK (bY++[(Va v.nn,.ref q)])) p=i' (.ins a.Net dx (iX r.dh r.da v.nn r.ls r.lm)):=by rw[aj (bQ ii qd (by intro z;cases z))];exact ii
  refine⟨_,O,_,_,O,O,_,O,p,a.Net,dx,_,O,vX,T.VE,T.QcW,by show 5<1000;decide,?_⟩
  rw[P2]
  refine⟨_,O,?_⟩
  show Q (.int v.nn) _
  refine k1 (by rw[U4 c']) _ (fun b u e z1 _ z3 _ _=>by rw[aj z1,aj z3];exact s2 _ _ (s1 _ _ e)) ?_
  obtain⟨⟨Rt,_⟩,h2,_,⟨xs,h5,h6⟩,⟨ys,h7,h8⟩,n1,n2⟩:=N1.same s2
  have tk:Tk H2 (upd (upd H2 r.da (.dK (bY++[(Va v.nn,.ref q)]))) p (.ins a.Net dx (iX r.dh r.da (v.nn+1) r.ls r.lm))):=(Tk.upd qd O).trans (Tk.upd vX O)
  have ne:∀ b u,H2 b=i' u→b≠p→b≠r.da→upd (upd H2 r.da (.dK (bY++[(Va v.nn,.ref q)]))) p (.ins a.Net dx (iX r.dh r.da (v.nn+1) r.ls r.lm)) b=i' u:=fun b u e z1 z3=>by rw[aj z1,aj z3];exact e
  exact⟨⟨dx,ah⟩,ne _ _ h2 (bQ h2 ii (by intro z;cases z)) (U5 n1),⟨_,(by rw[aj (bQ qd ii (by intro z;cases z))];exact ah),(tk.arr ((Tk.of s2).arr h4)).snoc (tk.V7 hq)⟩,
   ⟨xs,ne _ _ h5 (bQ h5 ii (by intro z;cases z)) (bQ h5 qd (by intro z;cases z)),tk.Vs (cy (fun _=>O) _) h6⟩,⟨ys,ne _ _ h7 (bQ h7 ii (by intro z;cases z)) (bQ h7 qd (by intro z;cases z)),tk.Vs (cy (fun _=>O) _) h8⟩,n1,n2⟩
theorem NB (T:Tx K mg a):eW P w K mg base (Wa P w) 5 a.Net "put_arrow" ["self","one","other","span","weight"] [] (EZ K a):=T.Qc0.Vq fun f fd F=>Qc T f fd F
inductive AK (K:R') (C:F') (f:cv→List Dt) (vs:List V) (H:Hp) (Q:VK) (bg:XK):Prop
 | mk (p r v:_) (_:vs=[.ref p]) (_:b9 K C H p r v) (_:(f v).length≤1000) (_:∀ l H' xs,ae H H'→H l=B'→H' l=i' (.lst xs)→a8 K H' (f v) xs→Wz H' xs→Q (.ref l) H')
theorem ES (T:Tx K mg a):eW P w K mg base Vp 1 a.Net "sames" ["self"] [] (AK K a.Net fun v=>v.ss.map ux):=T.QaX.Vq fun f fd F=>by
 refine F.ok PV (fun vs H Q E h=>?_) (fun aw A outer s H vs Q E hr h=>?_)
 .obtain⟨p,r,v,rfl,_⟩:=h
  rfl
 .obtain⟨p,r,v,rfl,N,hk,k⟩:=h
  obtain⟨dx,hp⟩:=N.ex
  obtain⟨xs,h5,h6⟩:=N.hs
  have hl:v.ss.length=xs.length:=by rw[← h6.length,U1]
  try dsimp only at hk
  rw[U1] at hk
  refine⟨_,(av (aK (cN (N:=["one","other"]) (cap:=[B',B']) O (bN (osc:=ay BN) (XN:=["self"]) O O (by decide +kernel)) (bF (bf (pv 0) rfl)) (fun cl C s H fp aa=>(jf (K:=K) (n:=2) O O (aP (aC (i:=0) (show(["one","other"]:List C').Nodup by decide +kernel) rfl (by first|exact UY rfl|exact UX O)) (aP (aC (i:=1) (show(["one","other"]:List C').Nodup by decide +kernel) rfl (by first|exact UY rfl|exact UX O)) cV)))) (fun cl C s H fp aa=>cH) (fun cl C s H fp aa=>(fZ (af (pv 0) (af (pv 1) ai))))))),?_⟩
  refine⟨_,O,p,a.Net,dx,_,_,O,hp,T.VE,T.Qe6,QC,r.ls,O,⟨_,P'.of h5⟩,fun D hD=>?_⟩
  refine dv (K:=K) (a:=r.ls) (xs:=xs) (fun i τ H'=>∃ v1 v2 ys,τ=[v1,v2]∧ae H H'∧H' D=i' (.lst ys)∧a8 K H' ((v.ss.take i).map ux) ys∧Wz H' ys) ⟨B',B',[],rfl,ae.new hD,ah,rfl,Wz.nil⟩ ?_ ?_ ?_
  .rintro i τ H' _ ⟨v1,v2,ys,rfl,sm,hy,hd,tp⟩
   exact P'.of (sm _ _ h5)
  .rintro i x τ H' hx ⟨v1,v2,ys,rfl,sm,hy,hd,tp⟩
   obtain⟨⟨o,t⟩,hq,dq⟩:=eX h6 hx
   obtain⟨q,rfl,h1⟩:=FZ (sm.dt dq)
   have wg:ys.length≤v.ss.length:=by rw[← hd.length,U1,VJ];exact Qb9 _ _
   refine⟨q,_,O,h1,O,_,_,O,_,_,O,O,?_⟩
   dsimp only[cX]
   rw[U3 rfl]
   refine⟨_,O,_,O,(by show 2≤U2;decide),fun z nz=>⟨ys,by rw[aj (ao hy nz)];exact hy,by rw[Vm];lia,_,_,_,O,?_,ah,?_,?_⟩⟩
   .intro b u e
    rw[aj (ao e hD)]
    exact(sm.trans (ae.new nz)) b u e
   .have s3:ae H' (upd H' z (.tup [.str o,.str t])):=ae.new nz
    have hz:Vi K (upd H' z (.tup [.str o,.str t])) z [.str o,.str t]:=Vi.of ah
    have gL:=s3 _ _ hy
    generalize upd H' z (.tup [.str o,.str t])=H3 at s3 hz gL ⊢
    have tk:Tk H3 (upd H3 D (.lst (ys++[.ref z]))):=Tk.upd gL rfl
    rw[bB hq,Vr]
    exact a8.snoc (My (tk.V7 hz)) (tk.Vs (cy (fun _=>O) _) (s3.Vs hd))
   .have s3:ae H' (upd H' z (.tup [.str o,.str t])):=ae.new nz
    have hz:upd H' z (.tup [.str o,.str t]) z=i' (.tup [.str o,.str t]):=ah
    have gL:=s3 _ _ hy
    generalize upd H' z (.tup [.str o,.str t])=H3 at s3 hz gL ⊢
    exact((tp.tk (Tk.of s3)).snoc hz).tk (Tk.upd gL O)
  .rintro τ H' ⟨v1,v2,ys,rfl,sm,hy,hd,tp⟩
   rw[← hl,We] at hd
   exact k D H' ys sm hD hy hd tp
theorem Hl (T:Tx K mg a):eW P w K mg base Vp 1 a.Net "mosts" ["self"] [] (AK K a.Net fun v=>v.mm.map uu):=T.QaY.Vq fun f fd F=>by
 refine F.ok OA (fun vs H Q E h=>?_) (fun aw A outer s H vs Q E hr h=>?_)
 .obtain⟨p,r,v,rfl,_⟩:=h
  rfl
 .obtain⟨p,r,v,rfl,N,hk,k⟩:=h
  obtain⟨dx,hp⟩:=N.ex
  obtain⟨xs,h5,h6⟩:=N.hm
  have hl:v.mm.length=xs.length:=by rw[← h6.length,U1]
  try dsimp only at hk
  rw[U1] at hk
  refine⟨_,(av (aK (cN (N:=["one","other","number"]) (cap:=[B',B',B']) O (bN (osc:=ay Bh) (XN:=["self"]) O O (by decide +kernel)) (bF (bf (pv 0) rfl)) (fun cl C s H fp aa=>(jf (K:=K) (n:=3) O O (aP (aC (i:=0) (show(["one","other","number"]:List C').Nodup by decide +kernel) rfl (by first|exact UY rfl|exact UX O)) (aP (aC (i:=1) (show(["one","other","number"]:List C').Nodup by decide +kernel) rfl (by first|exact UY rfl|exact UX O)) (aP (aC (i:=2) (show(["one","other","number"]:List C').Nodup by decide +kernel) rfl (by first|exact UY rfl|exact UX O)) cV))))) (fun cl C s H fp aa=>cH) (fun cl C s H fp aa=>(fZ (af (pv 0) (af (pv 1) (af (pv 2) ai)))))))),?_⟩
  refine⟨_,O,p,a.Net,dx,_,_,O,hp,T.VE,T.Qe5,MM,r.lm,O,⟨_,P'.of h5⟩,fun D hD=>?_⟩
  refine dv (K:=K) (a:=r.lm) (xs:=xs) (fun i τ H'=>∃ v1 v2 v3 ys,τ=[v1,v2,v3]∧ae H H'∧H' D=i' (.lst ys)∧a8 K H' ((v.mm.take i).map uu) ys∧Wz H' ys) ⟨B',B',B',[],rfl,ae.new hD,ah,rfl,Wz.nil⟩ ?_ ?_ ?_
  .rintro i τ H' _ ⟨v1,v2,v3,ys,rfl,sm,hy,hd,tp⟩
   exact P'.of (sm _ _ h5)
  .rintro i x τ H' hx ⟨v1,v2,v3,ys,rfl,sm,hy,hd,tp⟩
   obtain⟨⟨o,t,n⟩,hq,dq⟩:=eX h6 hx
   obtain⟨q,rfl,h1⟩:=EY (sm.dt dq)
   have wg:ys.length≤v.mm.length:=by rw[← hd.length,U1,VJ];exact Qb9 _ _
   refine⟨q,_,O,h1,O,_,_,O,_,_,O,_,_,O,O,?_⟩
   dsimp only[cX]
   rw[U3 rfl]
   refine⟨_,O,_,O,_,O,(by show 3≤U2;decide),fun z nz=>⟨ys,by rw[aj (ao hy nz)];exact hy,by rw[Vm];lia,_,_,_,_,O,?_,ah,?_,?_⟩⟩
   .intro b u e
    rw[aj (ao e hD)]
    exact(sm.trans (ae.new nz)) b u e
   .have s3:ae H' (upd H' z (.tup [.str o,.str t,.int n])):=ae.new nz
    have hz:Vi K (upd H' z (.tup [.str o,.str t,.int n])) z [.str o,.str t,.int n]:=Vi.of ah
    have gL:=s3 _ _ hy
    generalize upd H' z (.tup [.str o,.str t,.int n])=H3 at s3 hz gL ⊢
    have tk:Tk H3 (upd H3 D (.lst (ys++[.ref z]))):=Tk.upd gL rfl
    rw[bB hq,Vr]
    exact a8.snoc (Om (tk.V7 hz)) (tk.Vs (cy (fun _=>O) _) (s3.Vs hd))
   .have s3:ae H' (upd H' z (.tup [.str o,.str t,.int n])):=ae.new nz
    have hz:upd H' z (.tup [.str o,.str t,.int n]) z=i' (.tup [.str o,.str t,.int n]):=ah
    have gL:=s3 _ _ hy
    generalize upd H' z (.tup [.str o,.str t,.int n])=H3 at s3 hz gL ⊢
    exact((tp.tk (Tk.of s3)).snoc hz).tk (Tk.upd gL O)
  .rintro τ H' ⟨v1,v2,v3,ys,rfl,sm,hy,hd,tp⟩
   rw[← hl,We] at hd
   exact k D H' ys sm hD hy hd tp
theorem xz (T:Tx K mg a):eW P w K mg base Vp 1 a.Net "arrows" ["self"] [] (AK K a.Net fun v=>v.arr.map Xc):=T.YL.Vq fun f fd F=>by
 refine F.ok MY (fun vs H Q E h=>?_) (fun aw A outer s H vs Q E hr h=>?_)
 .obtain⟨p,r,v,rfl,_⟩:=h
  rfl
 .obtain⟨p,r,v,rfl,N,hk,k⟩:=h
  obtain⟨dx,hp⟩:=N.ex
  obtain⟨bY,h2,h4⟩:=N.ha
  have hl:=h4.length
  try dsimp only at hk
  rw[U1] at hk
  refine⟨_,(av (aK (OJ (cN (N:=["number","arrow"]) (cap:=[B',B']) O (bN (osc:=ay Bi) (XN:=["self"]) O O (by decide +kernel)) (EN (HA Qba Qdi QfG Fq (bf (pv 0) rfl))) (fun cl C s H fp aa=>(jf (K:=K) (n:=2) O O (aP (aC (i:=0) (show(["number","arrow"]:List C').Nodup by decide +kernel) rfl (by first|exact UY rfl|exact UX O)) (aP (aC (i:=1) (show(["number","arrow"]:List C').Nodup by decide +kernel) rfl (by first|exact UY rfl|exact UX O)) cV)))) (fun cl C s H fp aa=>cH) (fun cl C s H fp aa=>(fZ (af (pv 0) (af (aF (nN (K:=K) O) (pv 1) au (fun _ _=>O)) (af (aF (nN (K:=K) O) (pv 1) au (fun _ _=>O)) (af (aF (nN (K:=K) O) (pv 1) au (fun _ _=>O)) (af (aF (nN (K:=K) O) (pv 1) au (fun _ _=>O)) ai))))))))))),?_⟩
  refine⟨r.da,bY,h2,_,O,p,a.Net,dx,_,_,O,hp,T.VE,T.QbA,Ak,.inr (.inr (.inl ⟨O,.inl ⟨_,h2⟩⟩)),r.da,bY,O,O,h2,fun w nw=>⟨w,r.da,bY,O,ah,by rw[aj (ao h2 nw)];exact h2,fun o D hD=>?_⟩⟩
  have dw:r.da≠w:=ao h2 nw
  have dD:r.da≠D:=ao ah hD
  have nD:upd H w (kE w r.da) D=B':=by rw[aj (U5 dD)] at hD;exact hD
  have HD:H D=B':=by
   cases hq:H D with
   | none=>rfl
   | some u=>
    have:=(ae.new (o:=kE w r.da) nw) D u hq
    rw[nD] at this
    cases this
  refine P5 (d:=r.da) (o:=o) (kvs:=bY) (fun i τ H'=>∃ v1 v2 ys,τ=[v1,v2]∧(∀ b u,H b=i' u→b≠r.da→H' b=i' u)∧H' r.da=i' (.Vf o (.dK bY))∧H' D=i' (.lst ys)∧a8 K H' ((v.arr.take i).map Xc) ys∧Wz H' ys)
   ⟨B',B',[],rfl,fun b u e hb=>by rw[aj (ao e HD),aj hb];exact ae.new nw b u e,by rw[aj dD];exact ah,ah,O,Wz.nil⟩ ?_ ?_ ?_
  .rintro i τ H' _ ⟨v1,v2,ys,rfl,fr,hz,hy,hd,tp⟩
   exact hz
  .rintro i ky x T' τ H' hx hT ⟨v1,v2,ys,rfl,fr,hf,hy,hd,tp⟩
   obtain⟨q,t,hq,rfl,rfl,h1⟩:=h4.get hx
   have Jg:Tk H H':=fun b u e z=>fr b u e fun w=>by subst w;rw[h2] at e;cases e;cases z
   have wg:ys.length≤v.arr.length:=by rw[← hd.length,U1,VJ];exact Qb9 _ _
   have s1:ae H' (upd H' T' (.tup [kV (Va q.num),.ref t])):=ae.new hT
   have ph:=s1.V7 (Jg.V7 h1)
   have B3:Vi K (upd H' T' (.tup [kV (Va q.num),.ref t])) T' [kV (Va q.num),.ref t]:=Vi.of ah
   have c9:=s1 _ _ hy
   have DV:=s1 _ _ hf
   have cS:=s1.Vs hd
   have CA:=s1
   have sO:∀ b u,H b=i' u→b≠r.da→upd H' T' (.tup [kV (Va q.num),.ref t]) b=i' u:=fun b u e z=>s1 _ _ (fr b u e z)
   generalize upd H' T' (.tup [kV (Va q.num),.ref t])=H1 at ph B3 c9 DV cS CA sO ⊢
   refine⟨T',_,O,B3,O,_,_,O,_,_,O,O,?_⟩
   dsimp only[cX]
   rw[U3 rfl]
   refine⟨_,O,_,O,t,XJ q,_,_,O,O,ph,O,_,O,t,XJ q,_,_,O,O,ph,O,_,O,t,XJ q,_,_,O,O,ph,O,_,O,t,XJ q,_,_,O,O,ph,O,(by show 5≤U2;decide),fun z nz=>?_⟩
   have s3:ae H1 (upd H1 z (.tup [kV (Va q.num),.str q.one,.str q.other,.int q.span,.int q.weight])):=ae.new nz
   have Dv:upd H1 z (.tup [kV (Va q.num),.str q.one,.str q.other,.int q.span,.int q.weight]) z=i' (.tup (.int q.num::XJ q)):=ah
   have Ek:=(tp.tk (Tk.of CA)).tk (Tk.of s3)
   have hz:Vi K (upd H1 z (.tup [kV (Va q.num),.str q.one,.str q.other,.int q.span,.int q.weight])) z (.int q.num::XJ q):=Vi.of ah
   have gL:=s3 _ _ c9
   have j4:=s3.Vs cS
   have mF:=s3 _ _ DV
   have tL:∀ b u,H b=i' u→b≠r.da→upd H1 z (.tup [kV (Va q.num),.str q.one,.str q.other,.int q.span,.int q.weight]) b=i' u:=fun b u e w=>s3 _ _ (sO b u e w)
   generalize upd H1 z (.tup [kV (Va q.num),.str q.one,.str q.other,.int q.span,.int q.weight])=H3 at hz Dv Ek gL j4 mF tL ⊢
   have tk:Tk H3 (upd H3 D (.lst (ys++[.ref z]))):=Tk.upd gL rfl
   refine⟨ys,gL,by rw[Vm];lia,_,_,_,O,fun b u e w=>by rw[aj (ao e HD)];exact tL b u e w,by rw[aj dD];exact mF,ah,?_,(Ek.snoc Dv).tk tk⟩
   rw[bB hq,Vr]
   exact a8.snoc (AJ (tk.V7 hz)) (tk.Vs (cy (fun _=>O) _) j4)
  .rintro τ H' ⟨v1,v2,ys,rfl,fr,hf,hy,hd,tp⟩
   rw[← hl,We] at hd
   refine⟨o,hf,?_⟩
   have tk:Tk H' (upd H' r.da (.dK bY)):=Tk.upd hf rfl
   refine k D _ ys (fun b u e=>?_) HD (by rw[aj (U5 dD)];exact hy) (tk.Vs (cy (fun _=>O) _) hd) (tp.tk tk)
   by_cases hb:b=r.da
   .subst hb
    rw[h2] at e;cases e
    exact ah
   .rw[aj hb]
    exact fr b u e hb
end
inductive lJ (ar:List Ar) (s:C'):C'→List Int→Prop
 | nil:lJ ar s s []
 | snoc {p:C'}{zs:List Int}{q:Ar}:lJ ar s p zs→q∈ar→q.one=p→lJ ar s q.other (zs++[q.num])
def i5 (ar:List Ar) (s t:C'):Prop:=∃ zs,lJ ar s t zs
theorem nM {kvs:Vl}{x:C'} (h:has kvs x=M'):has (kvs++[(U7 x,v)]) y=(decide (y=x) || has kvs y):=by
 unfold has at h ⊢
 have e:aS kvs (U7 x)=B':=by simpa using h
 rw[xo (U7 x) (U7 y) v kvs e]
 by_cases z:y=x
 .rw[U3 (by rw[z]),decide_eq_true z]
  rfl
 .rw[U4 (fun q=>z (XW q)),decide_eq_false z]
  rfl
def km (ar:List Ar) (kvs:Vl):Nat:=(ar.filter fun q=>!has kvs q.other).length
theorem EJ (ar:List Ar) (kvs:Vl):km ar kvs≤ar.length:=XO _ _
theorem Hu {α:Type}{f g:α→Bool}:∀ {l:List α}{q:α},(∀ x,g x=D'→f x=D')→q∈l→f q=D'→g q=M'→(l.filter g).length<(l.filter f).length
 | x::l,q,h,hq,h1,h2=>by
  rw[W2,W2]
  have le:∀ l:List α,(l.filter g).length≤(l.filter f).length:=fun l=>by
   induction l with
   | nil=>exact Xh _
   | cons y l ih=>
    rw[W2,W2]
    cases e:g y with
    | true=>rw[U3 O,U3 (h y e)];exact QdJ ih
    | false=>
     rw[U4 (by decide)]
     split
     .exact Qgz ih
     .exact ih
  rcases V5.mp hq with rfl|hq
  .rw[U4 (by rw[h2];decide),U3 h1]
   exact Nat.lt_succ_of_le (le l)
  .have ih:=Hu h hq h1 h2
   cases e:g x with
   | true=>rw[U3 O,U3 (h x e)];exact Nat.succ_lt_succ ih
   | false=>
    rw[U4 (by decide)]
    split
    .exact Nat.lt_succ_of_lt ih
    .exact ih
theorem HV {ar:List Ar}{kvs:Vl}{q:Ar} (hq:q∈ar) (h:has kvs q.other=M'):km ar (kvs++[(U7 q.other,v)])<km ar kvs:=by
 refine Hu (q:=q) (fun x hx=>?_) hq (by rw[h];rfl) (by rw[nM h,decide_eq_true rfl];rfl)
 rw[nM h] at hx
 cases e:has kvs x.other with
 | false=>rfl
 | true=>rw[e,Qco] at hx;cases hx
def QlD (K:R') (H:Hp) (l:F') (ar:List Ar):Prop:=∃ xs,P' K H l xs∧a8 K H (ar.map Xc) xs
structure Bf (K:R') (H0 H:Hp) (D wt:F') (ar:List Ar) (s:C') (kvs:Vl) (wl:List C'):Prop where
 old:ae H0 H
 d:H D=i' (.dK kvs)
 w:H wt=i' (.lst (wl.map V.str))
 ok:∀ x v,aS kvs (U7 x)=i' v→∃ r zs,v=.ref r∧H r=i' (.lst ((zs:List Int).map V.int))∧r≠wt∧lJ ar s x zs∧zs.length<kvs.length∧H0 r=B'
 k:kvs.length+km ar kvs≤1+ar.length
 root:has kvs s=D'
 sub:∀ x∈wl,has kvs x=D'
 wk:wl.length+2*km ar kvs≤1+2*ar.length
theorem Bf.same {K:R'}{ar:List Ar}{kvs:Vl} (b:Bf K H0 H D wt ar s kvs wl) (e:ae H H'):Bf K H0 H' D wt ar s kvs wl:=
 ⟨b.old.trans e,e _ _ b.d,e _ _ b.w,fun x v hv=>by
  obtain⟨r,zs,h1,h2,h3⟩:=b.ok x v hv
  exact⟨r,zs,h1,e _ _ h2,h3⟩,b.k,b.root,b.sub,b.wk⟩
theorem Bf.Qfg {K:R'}{ar:List Ar}{kvs:Vl}{wl2:List C'} (b:Bf K H0 H D wt ar s kvs wl) (hw:H0 wt=B') (nd:D≠wt) (hs:∀ x∈wl2,has kvs x=D') (hk:wl2.length+2*km ar kvs≤1+2*ar.length) :
  Bf K H0 (upd H wt (.lst (wl2.map V.str))) D wt ar s kvs wl2:=
 ⟨fun x o e=>by rw[aj (ao e hw)];exact b.old x o e,by rw[aj nd];exact b.d,ah,fun x v hv=>by
  obtain⟨r,zs,h1,h2,h3,h4⟩:=b.ok x v hv
  exact⟨r,zs,h1,by rw[aj h3];exact h2,h3,h4⟩,b.k,b.root,hs,hk⟩
theorem Bf.put {K:R'}{r2:F'}{ar:List Ar}{kvs:Vl}{q:Ar} (b:Bf K H0 H D wt ar s kvs wl) (hD:H0 D=B') (nd:D≠wt) (hq:q∈ar) (hp:lJ ar s q.one zs) (hr:H r2=i' (.lst ((zs++[q.num]).map V.int)))
  (n2:r2≠wt) (n3:H0 r2=B') (hn:has kvs q.other=M') (hz:zs.length<kvs.length):Bf K H0 (upd H D (.dK (kvs++[(U7 q.other,.ref r2)]))) D wt ar s (kvs++[(U7 q.other,.ref r2)]) wl:=by
 have lt:=HV (v:=.ref r2) hq hn
 have hl:(kvs++[(U7 q.other,V.ref r2)]).length=kvs.length+1:=by rw[WM];rfl
 have nn:aS kvs (U7 q.other)=B':=by unfold has at hn;simpa using hn
 refine⟨fun x o e=>by rw[aj (ao e hD)];exact b.old x o e,ah,by rw[aj (U5 nd)];exact b.w,fun x v hv=>?_,?_,?_,fun x hx=>?_,?_⟩
 .rw[xo (U7 q.other) (U7 x) _ kvs nn] at hv
  by_cases z:x=q.other
  .rw[U3 (by rw[z])] at hv
   cases hv
   subst z
   exact⟨r2,zs++[q.num],O,by rw[aj (bQ hr b.d (by intro z;cases z))];exact hr,n2,.snoc hp hq O,by rw[WM,hl];show _+1<_;lia,n3⟩
  .rw[U4 (fun e=>z (XW e))] at hv
   obtain⟨r,ys,h1,h2,h3,h4,h5,h6⟩:=b.ok x v hv
   exact⟨r,ys,h1,by rw[aj (bQ h2 b.d (by intro z;cases z))];exact h2,h3,h4,by lia,h6⟩
 .rw[hl]
  have:=b.k
  lia
 .rw[nM hn,b.root,Qco]
 .rw[nM hn,b.sub x hx,Qco]
 .have:=b.wk
  lia
theorem Bf.QlE {K:R'}{ar:List Ar}{kvs:Vl} (b:Bf K H0 H D wt ar s kvs []) (cl:∀ x,has kvs x=D'→∀ q∈ar,q.one=x→has kvs q.other=D') (t:C'):has kvs t=D'↔i5 ar s t:=by
 constructor
 .intro h
  obtain⟨v,hv⟩:=Yt.mp h
  obtain⟨r,zs,_,_,_,hp,_,_⟩:=b.ok t v hv
  exact⟨zs,hp⟩
 .rintro⟨zs,hp⟩
  induction hp with
  | nil=>exact b.root
  | snoc _ hq e ih=>exact cl _ ih _ hq e
section
variable {K:R'}
theorem xu {q:Ar} (h:VW K H (Xc q) x):∃ t,x=.ref t∧Vi K H t (.int q.num::XJ q):=by
 obtain⟨t,xs,rfl,h1,y1,vM,rfl,rfl,y2,ue,rfl,rfl,y3,v0,rfl,rfl,y4,yM,rfl,rfl,y5,Ad,rfl,rfl,h2⟩:=h
 rw[show Ad=[] from h2] at h1
 exact⟨t,O,h1⟩
inductive As (K:R') (vs:List V) (H:Hp) (Q:VK) (bg:XK):Prop
 | mk (l ar s t:_) (_:vs=[.ref l,.str s,.str t]) (_:QlD K H l ar) (_:ar.length≤100) (_:(∀ r zs H',lJ ar s t zs→ae H H'→H' r=i' (.lst ((zs:List Int).map V.int))→zs.length≤101→H r=B'→Q (.ref r) H')) (_:(¬ i5 ar s t→∀ H',ae H H'→Q .U8 H'))
theorem Ax (T:Tx K mg a):Vz P w K mg base Vp 1 "way" ["arrows","start","end"] [] (As K):=T.Qkh.Vq fun f fd F=>by
 refine F.ok lN (fun vs H Q E h=>?_) (fun aw A outer s0 H vs Q E hr h=>?_)
 .obtain⟨l,ar,s,t,rfl,_⟩:=h
  rfl
 .obtain⟨l,ar,s,t,rfl,⟨xs,hl,hd⟩,hk,k1,k2⟩:=h
  have gr:ar.length=xs.length:=by rw[← hd.length,U1]
  refine⟨_,(ak (aR (i:=3) lN.nd O (by first|exact UY rfl|exact UX O) (QP (PF (pv 1) (dC ai) LY) O O (by decide) (by decide)))
   (ak (aR (i:=4) lN.nd O (by first|exact UY rfl|exact UX O) (dC (af (pv 1) ai)))
   (ak (vm Wu (OB (pv 4) (fun _=>O)) (ak (aR (i:=5) lN.nd O (by first|exact UY rfl|exact UX O) (cW WU Qg5 PySem.F.type_list_pop Nn (pv 4) (af au ai)))
   (av (fg Wu rfl (bF (pv 0)) (iW rfl (aP (aC (i:=6) lN.nd O (by first|exact UY rfl|exact UX O)) (aP (aC (i:=7) lN.nd O (by first|exact UY rfl|exact UX O)) (aP (aC (i:=8) lN.nd O (by first|exact UY rfl|exact UX O)) (aP (aC (i:=9) lN.nd O (by first|exact UY rfl|exact UX O)) (aP (aC (i:=10) lN.nd O (by first|exact UY rfl|exact UX O)) cV)))))) (av (bo (PW.pt (pI (a7 cw (pv 7) (pv 5) (aV _)) (qM (jQ (BG (bw hr) (pv 8) (pv 3)))))) (ak (lP (bw hr) (pv 3) (pv 8) (aX me (dU (bw hr) (pv 3) (pv 5) (fun _ _=>O)) (dC (af (pv 6) ai))) O)
   (av (cF (cW WU XQ X9 jo (pv 4) (af (pv 8) ai))))) bp))))))
   (av (aK (LU (bw hr) (pv 3) (pv 2) ⟨rfl,rfl,rfl,rfl⟩)))))),?_⟩
  refine fun D hD=>⟨_,O,(by show 0≤U2;decide),fun r0 zk=>⟨ae.new zk _ _ ah,[(U7 s,.ref r0)],O,(by show 1≤15;decide),_,O,(by show 1≤U2;decide),fun wt KZ=>?_⟩⟩
  have DL:D≠r0:=ao ah zk
  have rK:H r0=B':=by
   have e:=zk
   rw[aj (U5 DL)] at e
   exact e
  have dL:=KZ
  rw[pS] at dL
  have qg:wt≠D:=fun e=>by rw[U3 e] at dL;cases dL
  rw[U4 qg,pS] at dL
  have Ac:wt≠r0:=fun e=>by rw[U3 e] at dL;cases dL
  rw[U4 Ac,aj qg] at dL
  have e0:nH [] [(U7 s,V.ref r0)]=[(U7 s,V.ref r0)]:=rfl
  have mN:has [(U7 s,V.ref r0)] s=D':=by
   unfold has
   rw[dr (p:=(U7 s,V.ref r0)) rfl]
   rfl
  have b0:Bf K H (upd (upd (upd (upd H D (.dK [])) r0 (.lst [])) D (.dK (nH [] [(U7 s,V.ref r0)]))) wt (.lst [V.str s])) D wt ar s [(U7 s,.ref r0)] [s]:=by
   refine⟨fun b o e=>?_,?_,ah,fun x v hv=>?_,?_,mN,fun x hx=>?_,?_⟩
   .rw[aj (ao e dL),aj (ao e hD),aj (ao e rK),aj (ao e hD)]
    exact e
   .rw[aj (U5 qg),ah,e0]
   .by_cases z:s=x
    .subst z
     rw[dr (p:=(U7 s,V.ref r0)) rfl] at hv
     cases hv
     exact⟨r0,[],O,by rw[aj (U5 Ac),aj (U5 DL),ah];rfl,U5 Ac,.nil,(by show 0<1;decide),rK⟩
    .rw[cf (p:=(U7 s,V.ref r0)) (fun q=>z (XW q))] at hv
     cases hv
   .show 1+_≤_
    have:=EJ ar [(U7 s,V.ref r0)]
    lia
   .rw[Vn.mp hx]
    exact mN
   .show 1+_≤_
    have:=EJ ar [(U7 s,V.ref r0)]
    lia
  generalize upd (upd (upd (upd H D (.dK [])) r0 (.lst [])) D (.dK (nH [] [(U7 s,V.ref r0)]))) wt (.lst [V.str s])=H1 at b0 ⊢
  refine⟨fun m σ H'=>∃ v5 v6 v7 v8 v9 tE kvs wl,σ=[i' (.ref l),i' (.str s),i' (.str t),i' (.ref D),i' (.ref wt),v5,v6,v7,v8,v9,tE]∧m=wl.length+2*km ar kvs∧Bf K H H' D wt ar s kvs wl∧∀ x,has kvs x=D'→x∈wl∨∀ q∈ar,q.one=x→has kvs q.other=D',
   ⟨_,B',B',B',B',B',B',_,_,rfl,rfl,b0,fun x hx=>?_⟩,?_⟩
  .by_cases z:s=x
   .exact .inl (Vn.mpr z.symm)
   .unfold has at hx
    rw[cf (p:=(U7 s,V.ref r0)) (fun q=>z (XW q))] at hx
    cases hx
  rintro m σ H2 ⟨v5,v6,v7,v8,v9,tE,kvs,wl,rfl,rfl,b2,DI⟩
  refine⟨_,O,_,.inl ⟨_,P'.of b2.w,O⟩,?_⟩
  refine bc (fun c=>?_) (fun c=>?_)
  ·-- one more point is looked at
   obtain⟨x,gi,rfl⟩:∃ x gi,wl=x::gi:=by
    cases wl with
    | nil=>cases c
    | cons x gi=>exact⟨x,gi,O⟩
   refine⟨_,fun σ' H' q=>q,?_⟩
   refine⟨_,O,.inl ⟨O,_,P'.of b2.w⟩,wt,_,0,0,_,O,O,b2.w,by decide,by decide,?_,O,?_⟩
   .show Qbm 0 (((x::gi).map V.str).length)=i' 0
    rw[U1]
    unfold Qbm
    simp
   have nU:((x::gi).map V.str).eraseIdx 0=gi.map V.str:=rfl
   rw[nU]
   have Sa:=b2.wk
   have b3:=b2.Qfg (wl2:=gi) dL (U5 qg) (fun y hy=>b2.sub y (Xp _ hy)) (by have:(x::gi).length=gi.length+1:=rfl;lia)
   have IY:=b2.sub x Xf
   generalize upd H2 wt (.lst (gi.map V.str))=H3 at b3 ⊢
   refine⟨_,O,l,O,⟨_,b3.old.V3 hl⟩,jW (K:=K) (a:=l) (xs:=xs) (fun i σ H'=>∃ v6 v7 v8 v9 tE bu wl2,σ=[i' (.ref l),i' (.str s),i' (.str t),i' (.ref D),i' (.ref wt),i' (.str x),v6,v7,v8,v9,tE]∧Bf K H H' D wt ar s bu wl2∧wl2.length+2*km ar bu≤gi.length+2*km ar kvs∧(∀ y,has bu y=D'→y∈wl2∨y=x∨∀ q∈ar,q.one=y→has bu q.other=D')∧has bu x=D'∧∀ q∈ar.take i,q.one=x→has bu q.other=D')
    ⟨v6,v7,v8,v9,tE,kvs,gi,rfl,b3,Xh _,fun y hy=>?_,IY,fun q hq=>by rw[ZZ] at hq;cases hq⟩ ?_ ?_ ?_⟩
   .rcases DI y hy with z|z
    .rcases V5.mp z with z|z
     .exact .inr (.inl z)
     .exact .inl z
    .exact .inr (.inr z)
   .rintro i σ H' _ ⟨_,_,_,_,_,bu,wl2,rfl,b4,_⟩
    exact b4.old.V3 hl
   .rintro i y σ H' hy ⟨u6,u7,u8,u9,Ip,bu,wl2,rfl,b4,yO,uh,sV,mj⟩
    obtain⟨q,hq,dq⟩:=eX hd hy
    obtain⟨tq,rfl,JY⟩:=xu (b4.old.dt dq)
    have vW:=V9 hq
    refine⟨tq,_,O,JY,O,_,_,O,_,_,O,_,_,O,_,_,O,_,_,O,O,?_⟩
    have skip:(q.one=x→has bu q.other=D')→∀ z∈ar.take (i+1),z.one=x→has bu z.other=D':=fun h z hz e=>by
     rw[bB hq] at hz
     rcases Wb.mp hz with h1|h1
     .exact mj z h1 e
     .rw[Vn.mp h1] at e ⊢
      exact h e
    refine⟨_,O,_,O,O,_,O,?_⟩
    refine bc (fun c1=>?_) (fun c1=>gC ⟨_,_,_,_,_,bu,wl2,O,b4,yO,uh,sV,skip fun e=>?_⟩)
    .have e1:q.one=x:=by simpa using c1
     refine⟨_,O,_,O,D,_,O,bS.k (k:=U7 _) b4.d,_,O,?_⟩
     refine bc (fun c2=>?_) (fun c2=>⟨_,_,_,_,_,bu,wl2,O,b4,yO,uh,sV,skip fun _=>?_⟩)
     .have hn:has bu q.other=M':=by
       unfold has
       simpa using c2
      obtain⟨vx,Dz⟩:=Yt.mp sV
      obtain⟨rx,zs,rfl,Jq,RU,px,zx,_⟩:=b4.ok x vx Dz
      have gx:bS H' D (.str x) (i' (.ref rx)):=by
       rw[← Dz]
       exact bS.k (k:=U7 x) b4.d
      have kb:=b4.k
      refine⟨_,O,_,O,D,_,O,gx,_,O,(by show 1≤U2;decide),fun z nz=>⟨rx,z,_,_,O,O,ae.new nz _ _ Jq,ah,(by rw[U1,Vm];show _+1≤_;lia),fun r2 xV=>?_⟩⟩
      have s5:ae H' (upd (upd H' z (.lst [V.int q.num])) r2 (.lst (zs.map V.int++[V.int q.num]))):=(ae.new nz).trans (ae.new xV)
      have h5:upd (upd H' z (.lst [V.int q.num])) r2 (.lst (zs.map V.int++[V.int q.num])) r2=i' (.lst ((zs++[q.num]).map V.int)):=by rw[ah,Vr];rfl
      have n5:r2≠wt:=fun e=>by
       have:=ae.new (o:=.lst [V.int q.num]) nz _ _ b4.w
       rw[← e,xV] at this
       cases this
      have n6:H r2=B':=by
       cases e:H r2 with
       | none=>rfl
       | some o=>
        have:=ae.new (o:=.lst [V.int q.num]) nz _ _ (b4.old _ _ e)
        rw[xV] at this
        cases this
      generalize upd (upd H' z (.lst [V.int q.num])) r2 (.lst (zs.map V.int++[V.int q.num]))=H5 at s5 h5 ⊢
      have b5:=b4.same s5
      refine⟨_,O,_,O,D,_,O,.inl ⟨bu,U7 q.other,b5.d,O,by rw[Vm];lia,O⟩,?_⟩
      rw[uE (.ref r2) (by unfold has at hn;simpa using hn)]
      have b6:=b5.put hD (U5 qg) vW (by rw[e1];exact px) h5 n5 n6 hn zx
      have R9:=HV (v:=.ref r2) vW hn
      have up:∀ y,has bu y=D'→has (bu++[(U7 q.other,V.ref r2)]) y=D':=fun y hy=>by rw[nM hn,hy,Qco]
      generalize upd H5 D (.dK (bu++[(U7 q.other,V.ref r2)]))=H6 at b6 ⊢
      have Ro:=b6.wk
      have Rl:=b4.wk
      refine⟨_,O,.inl ⟨O,_,P'.of b6.w⟩,_,O,wt,_,_,O,O,b6.w,(by rw[U1,Vm];lia),?_⟩
      have h7:wl2.map V.str++[V.str q.other]=(wl2++[q.other]).map V.str:=by rw[Vr];rfl
      have Cy:(wl2++[q.other]).length=wl2.length+1:=by rw[WM];rfl
      rw[h7]
      have b7:=b6.Qfg (wl2:=wl2++[q.other]) dL (U5 qg) (fun y hy=>by
       rcases Wb.mp hy with h1|h1
       .exact b6.sub y h1
       .rw[Vn.mp h1,nM hn,decide_eq_true rfl];rfl) (by lia)
      refine⟨_,_,_,_,_,_,wl2++[q.other],O,b7,by lia,fun y hy=>?_,up _ sV,fun y hy e=>?_⟩
      .rw[nM hn] at hy
       by_cases zz:y=q.other
       .exact .inl (Qap _ (by rw[zz];exact Vn.mpr O))
       .rw[decide_eq_false zz,QdW] at hy
        rcases uh y hy with h1|h1|h1
        .exact .inl (Qaq _ h1)
        .exact .inr (.inl h1)
        .exact .inr (.inr fun q' fq e'=>up _ (h1 q' fq e'))
      .rw[bB hq] at hy
       rcases Wb.mp hy with h1|h1
       .exact up _ (mj y h1 e)
       .rw[Vn.mp h1,nM hn,decide_eq_true rfl];rfl
     .unfold has
      simpa using c2
    .have:¬ q.one=x:=by simpa using c1
     exact U' e this
   .rintro σ H' ⟨u6,u7,u8,u9,Ip,bu,wl2,rfl,b4,yO,uh,sV,mj⟩
    rw[← gr,We] at mj
    refine⟨wl2.length+2*km ar bu,?_,_,_,_,_,_,_,bu,wl2,O,O,b4,fun y hy=>?_⟩
    .have:(x::gi).length=gi.length+1:=rfl
     lia
    .rcases uh y hy with h1|h1|h1
     .exact .inl h1
     .exact .inr fun q hq e=>mj q hq (e.trans h1)
     .exact .inr h1
  .obtain rfl:wl=[]:=by
    cases wl with
    | nil=>rfl
    | cons x gi=>cases c
   have xF:=b2.QlE (fun x hx=>(DI x hx).resolve_left (fun z=>by cases z)) t
   refine⟨_,O,D,O,.inl ⟨_,.inl b2.d⟩,_,O,_,bS.k (k:=U7 t) b2.d,?_⟩
   cases e:aS kvs (U7 t) with
   | none=>
    refine k2 (fun z=>?_) H2 b2.old
    have:=xF.mpr z
    unfold has at this
    rw[e] at this
    cases this
   | some v=>
    obtain⟨r,zs,rfl,h1,h2,h3,h4,h5⟩:=b2.ok t v e
    have:=b2.k
    exact k1 r zs H2 h3 b2.old h1 (by lia) h5
end
open Classical in
def dm (ks:List Ar) (q:Ar):List Ar:=if i5 ks q.other q.one then ks else ks++[q]
def jV (ar:List Ar):List Ar:=ar.foldl dm []
open Classical in
def jg (kf:List Ar×List Int) (q:Ar):List Ar×List Int:=if i5 kf.1 q.other q.one then(kf.1,kf.2++[q.num]) else(kf.1++[q],kf.2)
def fX (ar:List Ar):List Int:=(ar.foldl jg ([],[])).2
def Xo (ks:List Ar) (q:Ar):Bool:=(ks.map Xc).any fun e=>Wj e (Xc q)
theorem vk {ks:List Ar}{q:Ar} (h:i5 ks q.other q.one):dm ks q=ks:=by unfold dm;rw[U3 h]
theorem qH {ks:List Ar}{q:Ar} (h:¬ i5 ks q.other q.one):dm ks q=ks++[q]:=by unfold dm;rw[U4 h]
theorem FT {ks:List Ar}{fs:List Int}{q:Ar} (h:i5 ks q.other q.one):jg (ks,fs) q=(ks,fs++[q.num]):=by unfold jg;rw[U3 h]
theorem FG {ks:List Ar}{fs:List Int}{q:Ar} (h:¬ i5 ks q.other q.one):jg (ks,fs) q=(ks++[q],fs):=by unfold jg;rw[U4 h]
theorem Fi:∀ (l ks:List Ar),(l.foldl dm ks).length≤ks.length+l.length
 | [],_=>Xh _
 | q::l,ks=>by
  show(l.foldl dm (dm ks q)).length≤_
  have:=Fi l (dm ks q)
  by_cases h:i5 ks q.other q.one
  .rw[vk h] at this ⊢
   rw[WV]
   lia
  .rw[qH h,WM] at this
   rw[qH h,WV]
   have e:([q]:List Ar).length=1:=rfl
   lia
theorem Ba:∀ {l ks:List Ar}{x:Ar},x∈ks→x∈l.foldl dm ks
 | [],_,_,h=>h
 | q::l,ks,x,h=>by
  show x∈l.foldl dm (dm ks q)
  by_cases e:i5 ks q.other q.one
  .rw[vk e];exact Ba h
  .rw[qH e];exact Ba (Qaq _ h)
theorem A5:∀ {l ks:List Ar}{x:Ar},x∈l.foldl dm ks→x∈ks∨x∈l
 | [],_,_,h=>.inl h
 | q::l,ks,x,h=>by
  replace h:x∈l.foldl dm (dm ks q):=h
  by_cases e:i5 ks q.other q.one
  .rw[vk e] at h
   rcases A5 h with z|z
   .exact .inl z
   .exact .inr (Xp _ z)
  .rw[qH e] at h
   rcases A5 h with z|z
   .rcases Wb.mp z with z|z
    .exact .inl z
    .exact .inr (Vn.mp z ▸ Xf)
   .exact .inr (Xp _ z)
theorem Py {ks:List Ar}{q:Ar} (h:Xo ks q=D'):∃ e∈ks,e.num=q.num:=by
 obtain⟨d,hd,e⟩:=Qb8.mp h
 obtain⟨k,hk,rfl⟩:=W4.mp hd
 refine⟨k,hk,?_⟩
 have z:(Wj (.int k.num) (.int q.num) && fz [.str k.one,.str k.other,.int k.span,.int k.weight] [.str q.one,.str q.other,.int q.span,.int q.weight])=D':=e
 have:=((XB _ _).mp z).1
 exact eq_of_beq this
theorem OG {ks:List Ar}{q:Ar} (h:q∈ks):Xo ks q=D':=Qb8.mpr ⟨Xc q,W4.mpr ⟨q,h,O⟩,Ay _⟩
theorem BJ:∀ (l ks:List Ar) (fs:List Int) (F:List Ar),F=l.foldl dm ks→(l.map Ar.num).Nodup→(∀ x∈ks,∀ q∈l,x.num≠q.num)→(l.foldl jg (ks,fs)).2=fs++(l.filter fun q=>!Xo F q).map Ar.num
 | [],_,fs,_,_,_,_=>by simp
 | q::l,ks,fs,F,hF,nd,ap=>by
  have eU:(q.num::l.map Ar.num).Nodup:=nd
  rw[YT] at eU
  replace hF:F=l.foldl dm (dm ks q):=hF
  show(l.foldl jg (jg (ks,fs) q)).2=_
  by_cases h:i5 ks q.other q.one
  .rw[FT h]
   rw[vk h] at hF
   rw[BJ l ks _ F hF eU.2 fun x hx z hz=>ap x hx z (Xp _ hz)]
   have hq:Xo F q=M':=by
    cases e:Xo F q with
    | false=>rfl
    | true=>
     obtain⟨k,hk,en⟩:=Py e
     rw[hF] at hk
     rcases A5 hk with z|z
     .exact U' en (ap k z q Xf)
     .exact U' (W4.mpr ⟨k,z,en⟩) eU.1
   rw[W2,hq,U3 (by rfl),Zp,QaA]
   rfl
  .rw[FG h]
   rw[qH h] at hF
   rw[BJ l _ fs F hF eU.2 fun x hx z hz=>by
    rcases Wb.mp hx with y|y
    .exact ap x y z (Xp _ hz)
    .rw[Vn.mp y]
     exact fun e=>eU.1 (W4.mpr ⟨z,hz,e.symm⟩)]
   have hq:Xo F q=D':=OG (by rw[hF];exact Ba (Qap _ (Vn.mpr O)))
   rw[W2,hq,U4 (by decide)]
theorem PL {ar:List Ar} (nd:(ar.map Ar.num).Nodup):(ar.filter fun q=>!Xo (jV ar) q).map Ar.num=fX ar:=by
 unfold fX
 rw[BJ ar [] [] (jV ar) rfl nd fun x hx=>by cases hx]
 rfl
section
variable {K:R'}
inductive QlF (K:R') (C:F') (vs:List V) (H:Hp) (Q:VK) (bg:XK):Prop
 | mk (p r v:_) (_:vs=[.ref p]) (_:b9 K C H p r v) (_:v.arr.length≤100) (_:∀ k ys H',ae H H'→H k=B'→H' k=i' (.lst ys)→a8 K H' ((jV v.arr).map Xc) ys→Q (.ref k) H')
theorem Pm (T:Tx K mg a):Vz P w K mg base Vp 2 "kept_arrows" ["net"] [] (QlF K a.Net):=T.Qki.Vq fun f fd F=>by
 have tS:=Ax (P:=P) (w:=w) (base:=base) T
 have YL:=xz (P:=P) (w:=w) (base:=base) T
 refine F.ok Bw (fun vs H Q E h=>?_) (fun aw A outer s H vs Q E hr h=>?_)
 .obtain⟨p,r,v,rfl,_⟩:=h
  rfl
 .obtain⟨p,r,v,rfl,N,hk,k⟩:=h
  refine⟨_,(ak (aR (i:=1) Bw.nd O (by first|exact UY rfl|exact UX O) (dC ai))
   (ak (fg Wu rfl (bF (iB (pv 0) T.VE YL (hr.mono (by decide)))) (aC (i:=2) Bw.nd O (by first|exact UY rfl|exact UX O)) (av (bo (jQ (Bv (br tS (hr.mono (by decide)) rfl (af (pv 1) (af (aF eA (pv 2) au (fun _ _=>O)) (af (aF eA (pv 2) au (fun _ _=>O)) ai)))))) (av (cF (cW WU XQ X9 jo (pv 1) (af (pv 2) ai)))) bp)))
   (av (aK (pv 1))))),?_⟩
  refine⟨(by show 0≤U2;decide),fun g ng=>?_⟩
  have s1:ae H (upd H g (.lst [])):=ae.new ng
  have h1:upd H g (.lst []) g=i' (.lst []):=ah
  generalize upd H g (.lst [])=H1 at s1 h1 ⊢
  have N1:=N.same s1
  obtain⟨dx,hp⟩:=N1.ex
  refine⟨_,O,p,dx,_,O,hp,by rfl,p,r,v,O,N1,by rw[U1];lia,fun l H2 xs s2 nl h2 d2 _=>?_⟩
  have gr:v.arr.length=xs.length:=by rw[← d2.length,U1]
  have Lg:l≠g:=fun e=>by rw[e,h1] at nl;cases nl
  refine⟨l,O,⟨_,P'.of h2⟩,jW (K:=K) (a:=l) (xs:=xs) (fun i σ H'=>∃ v2 ys,σ=[i' (.ref p),i' (.ref g),v2]∧(∀ b o,H2 b=i' o→b≠g→H' b=i' o)∧H' g=i' (.lst ys)∧a8 K H' (((v.arr.take i).foldl dm []).map Xc) ys)
   ⟨B',[],rfl,fun b o e _=>e,s2 _ _ h1,O⟩ ?_ ?_ ?_⟩
  .rintro i σ H' _ ⟨_,_,rfl,o3,_⟩
   exact P'.of (o3 _ _ h2 Lg)
  .rintro i x σ H3 hx ⟨v2,ys,rfl,o3,h3,d3⟩
   have Kq:Tk H2 H3:=fun b o e z=>o3 b o e (fun q=>by rw[q,s2 _ _ h1] at e;cases e;cases z)
   obtain⟨q,hq,dq⟩:=eX d2 hx
   obtain⟨t,rfl,sP⟩:=xu dq
   have ht:=Kq.V7 sP
   have kl:=Fi (v.arr.take i) []
   have zd:(v.arr.take i).length≤100:=by rw[VJ];lia
   have wg:ys.length≤100:=by
    rw[← d3.length,U1]
    have e:([]:List Ar).length=0:=rfl
    lia
   have e1:(v.arr.take (i+1)).foldl dm []=dm ((v.arr.take i).foldl dm []) q:=by
    rw[bB hq,YR]
    rfl
   dsimp only[bE]
   refine⟨_,O,_,O,t,_,_,_,O,O,ht,O,_,O,t,_,_,_,O,O,ht,O,g,(v.arr.take i).foldl dm [],q.other,q.one,O,⟨ys,P'.of h3,d3⟩,by rw[← U1 (f:=Xc),d3.length];exact wg,fun r2 zs H4 pt s4 h4 _ _=>?_,fun IA H4 s4=>?_⟩
   .refine⟨_,O,cI O ?_⟩
    refine⟨_,ys,O,fun b o e ne=>s4 _ _ (o3 b o e ne),s4 _ _ h3,?_⟩
    rw[e1,vk ⟨zs,pt⟩]
    exact s4.Vs d3
   .refine⟨_,O,fW O ?_⟩
    have h4:=s4 _ _ h3
    refine⟨_,O,.inl ⟨O,_,P'.of h4⟩,_,O,g,_,_,O,O,h4,by rw[Vm];lia,?_⟩
    have tk:Tk H4 (upd H4 g (.lst (ys++[.ref t]))):=Tk.upd h4 rfl
    refine⟨_,_,O,fun b o e ne=>by rw[aj ne];exact s4 _ _ (o3 b o e ne),ah,?_⟩
    rw[e1,qH IA,Vr]
    exact a8.snoc (AJ (tk.V7 (s4.V7 ht))) (tk.Vs (cy (fun _=>O) _) (s4.Vs d3))
  .rintro σ H3 ⟨v2,ys,rfl,o3,h3,d3⟩
   rw[← gr,We] at d3
   exact⟨_,O,k g ys H3 (fun b o e=>o3 b o (s2 _ _ (s1 _ _ e)) (ao e ng)) ng h3 d3⟩
inductive Q6 (K:R') (C:F') (vs:List V) (H:Hp) (Q:VK) (bg:XK):Prop
 | mk (p r v:_) (_:vs=[.ref p]) (_:b9 K C H p r v) (_:v.arr.length≤100) (_:(v.arr.map Ar.num).Nodup) (_:∀ k H',ae H H'→H k=B'→H' k=i' (.lst ((fX v.arr).map V.int))→Q (.ref k) H')
theorem FU (T:Tx K mg a):Vz P w K mg base Vp 3 "turned" ["net"] [] (Q6 K a.Net):=T.Qkj.Vq fun f fd F=>by
 have dN:=Pm (P:=P) (w:=w) (base:=base) T
 have YL:=xz (P:=P) (w:=w) (base:=base) T
 refine F.ok FN (fun vs H Q E h=>?_) (fun aw A outer s H vs Q E hr h=>?_)
 .obtain⟨p,r,v,rfl,_⟩:=h
  rfl
 .obtain⟨p,r,v,rfl,N,hk,nd,k⟩:=h
  refine⟨_,(ak (aR (i:=1) FN.nd O (by first|exact UY rfl|exact UX O) (br dN (hr.mono (by decide)) rfl (af (pv 0) ai)))
   (av (aK (cN (N:=["arrow","kept"]) (cap:=[B',i' 1]) O (bN (osc:=ay Bg) (XN:=["net","kept"]) O O (by decide +kernel)) (bF (iB (pv 0) T.VE YL (hr.mono (by decide)))) (fun cl C s H fp aa=>(aC (i:=0) (show(["arrow","kept"]:List C').Nodup by decide +kernel) rfl (by first|exact UY rfl|exact UX O))) (fun cl C s H fp aa=>uM (a7 (Ma (K:=K) O hr.units) (pv 0) (pv 1) (by with_unfolding_all rfl))) (fun cl C s H fp aa=>(aF (nN (K:=K) O) (pv 0) au (fun _ _=>O))))))),?_⟩
  refine⟨_,O,p,r,v,O,N,hk,fun g ys H1 s1 ng h1 d1=>?_⟩
  have N1:=N.same s1
  obtain⟨dx,hp⟩:=N1.ex
  refine⟨_,O,p,dx,_,O,hp,by rfl,p,r,v,O,N1,by rw[U1];lia,fun l H2 xs s2 nl h2 d2 _=>?_⟩
  have gr:v.arr.length=xs.length:=by rw[← d2.length,U1]
  refine⟨l,O,⟨_,P'.of h2⟩,fun D hD=>?_⟩
  refine dv (K:=K) (a:=l) (xs:=xs) (fun i τ H'=>∃ v1,τ=[v1,i' (.ref g)]∧ae H2 H'∧H' D=i' (.lst ((((v.arr.take i).filter fun q=>!Xo (jV v.arr) q).map Ar.num).map V.int))) ⟨B',O,ae.new hD,ah⟩ ?_ ?_ ?_
  .rintro i τ H' _ ⟨v1,rfl,sm,hy⟩
   exact P'.of (sm _ _ h2)
  .rintro i x τ H' hx ⟨v1,rfl,sm,hy⟩
   obtain⟨q,hq,dq⟩:=eX d2 hx
   obtain⟨t,rfl,ht⟩:=xu (sm.dt dq)
   have fl:(v.arr.take (i+1)).filter (fun q=>!Xo (jV v.arr) q)=(v.arr.take i).filter (fun q=>!Xo (jV v.arr) q)++(if (!Xo (jV v.arr) q)=D' then[q] else[]):=by
    rw[bB hq,Zj]
    cases e:Xo (jV v.arr) q<;>simp[e]
   dsimp only[bE]
   refine⟨_,O,_,O,g,(jV v.arr).map Xc,ys,Xc q,O,P'.of (sm _ _ (s2 _ _ h1)),sm.Vs (s2.Vs d1),AJ ht,Bx (fun q=>Oc q) _,_,O,?_⟩
   show if (!Xo (jV v.arr) q)=D' then _ else _
   refine bc (fun c=>?_) (fun c=>?_)
   .refine⟨_,O,t,_,_,_,O,O,ht,O,_,hy,?_,_,O,?_,?_⟩
    .rw[U1,U1,Vm]
     have:=XO (fun q=>!Xo (jV v.arr) q) (v.arr.take i)
     rw[VJ] at this
     lia
    .intro b u e
     rw[aj (ao e hD)]
     exact sm b u e
    .rw[ah,fl,U3 c,Vr,Vr]
     rfl
   .refine⟨_,O,sm,?_⟩
    rw[fl,U4 (by rw[c];decide),Xq]
    exact hy
  .rintro τ H' ⟨v1,rfl,sm,hy⟩
   rw[← gr,We,PL nd] at hy
   have s3:=s1.trans (s2.trans sm)
   refine k D H' s3 ?_ hy
   cases e:H D with
   | none=>rfl
   | some o=>
    rw[(s1.trans s2) _ _ e] at hD
    cases hD
end
end Nt
section
variable {K:R'}
inductive LO (K:R') (vs:List V) (H:Hp) (Q:VK) (bg:XK):Prop
 | mk (l ws p ps:_) (_:vs=[.ref l,.ref p]) (_:lZ K H l ws) (_:P' K H p (ps.map V.int)) (_:ws.length≤1000) (_:(∀ q∈ws,InR ps.length q∧Small q.2.2.2)) (_:∀ H',ae H H'→Q (.int (BR ws ps)) H')
theorem MV (T:Tx K mg a):Vz P w K mg base Vp 1 "worth" ["wishes","places"] [] (LO K):=T.Qj0.Vq fun f fd F=>by
 refine F.ok OY (fun vs H Q E h=>?_) (fun aw A outer s H vs Q E hr h=>?_)
 .obtain⟨l,ws,p,ps,rfl,_⟩:=h
  rfl
 .obtain⟨l,ws,p,ps,rfl,⟨xs,hl,hd⟩,hp,hk,eO,k⟩:=h
  have cZ:ws.length=xs.length:=by rw[← hd.length,U1]
  refine⟨_,(av (aK (bx P3 O T.Qk9 Qjg (af (cN (N:=["one","other","least","weight","places"]) (cap:=[B',B',B',B',i' 1]) O (bN (osc:=ay AS) (XN:=["wishes","places"]) O O (by decide +kernel)) (bF (pv 0)) (fun cl C s H fp aa=>(jf (K:=K) (n:=4) O O (aP (aC (i:=0) (show(["one","other","least","weight","places"]:List C').Nodup by decide +kernel) rfl (by first|exact UY rfl|exact UX O)) (aP (aC (i:=1) (show(["one","other","least","weight","places"]:List C').Nodup by decide +kernel) rfl (by first|exact UY rfl|exact UX O)) (aP (aC (i:=2) (show(["one","other","least","weight","places"]:List C').Nodup by decide +kernel) rfl (by first|exact UY rfl|exact UX O)) (aP (aC (i:=3) (show(["one","other","least","weight","places"]:List C').Nodup by decide +kernel) rfl (by first|exact UY rfl|exact UX O)) cV)))))) (fun cl C s H fp aa=>cH) (fun cl C s H fp aa=>(aX qU (pv 3) (aX iU (aF (uV (K:=K) O) (pv 4) (pv 1) (fun _ _=>O)) (aF (uV (K:=K) O) (pv 4) (pv 0) (fun _ _=>O)))))) ai)))),?_⟩
  refine⟨_,O,l,O,⟨_,hl⟩,fun D hD=>?_⟩
  refine dv (K:=K) (a:=l) (xs:=xs) (fun i τ H'=>∃ v1 v2 v3 v4,τ=[v1,v2,v3,v4,i' (.ref p)]∧ae H H'∧H' D=i' (.lst (((ws.take i).map fun q=>q.2.2.2*diff ps q).map V.int))) ⟨B',B',B',B',O,ae.new hD,ah⟩ ?_ ?_ ?_
  .rintro i τ H' _ ⟨v1,v2,v3,v4,rfl,sm,hy⟩
   exact sm.V3 hl
  .rintro i x τ H' hx ⟨v1,v2,v3,v4,rfl,sm,hy⟩
   obtain⟨q,hq,dq⟩:=eX hd hx
   obtain⟨t,rfl,h1⟩:=qW (sm.dt dq)
   obtain⟨⟨⟨i1,i2⟩,i3,i4⟩,hs⟩:=eO q (V9 hq)
   refine⟨t,_,O,h1,O,_,_,O,_,_,O,_,_,O,_,_,O,O,?_⟩
   dsimp only[cX]
   rw[U3 rfl]
   refine⟨_,O,_,O,_,O,p,_,_,_,O,O,sm.V3 hp,BW i3 i4,_,O,_,O,p,_,_,_,O,O,sm.V3 hp,BW i1 i2,_,_,O,O,_,_,O,O,.inl hs,_,hy,?_,_,_,_,_,O,?_,?_⟩
   .rw[U1,U1,VJ,Vm]
    lia
   .intro b u e
    rw[aj (ao e hD)]
    exact sm b u e
   .rw[ah,bB hq,Vr,Vr]
    rfl
  .rintro τ H' ⟨v1,v2,v3,v4,rfl,sm,hy⟩
   refine⟨D,_,O,P'.of hy,?_⟩
   have k':=k H' sm
   rw[← cZ,We]
   exact k'
end
theorem FR {k:Key}:∀ (kvs m:List (Key×V)),(∀ kv∈kvs,kv.1≠k)→aS (kvs.foldl fh m) k=aS m k
 | [],_,_=>rfl
 | kv::r,m,h=>by
  show aS (r.foldl fh (fh m kv)) k=_
  rw[FR r _ fun x hx=>h x (Xp _ hx)]
  unfold fh
  rw[BF,U4 (U5 (h kv Xf))]
theorem GR {α:Type}{x:α}:∀ {l:List α}{i:Nat},l[i]?=i' x→l=l.take i++x::l.drop (i+1)
 | y::l,0,h=>by
  obtain rfl:y=x:=VQ h
  rfl
 | y::l,i+1,h=>by
  show y::l=y::(l.take i++x::l.drop (i+1))
  rw[← GR (show l[i]?=i' x from h)]
theorem O3 {kvs:List (Key×V)}{kv:Key×V} (nd:(kvs.map (·.1)).Nodup) (h:kvs[i]?=i' kv):aS (W' kvs) kv.1=i' kv.2:=by
 have es:=GR h
 generalize kvs.take i=l at es
 generalize kvs.drop (i+1)=r at es
 subst es
 unfold W'
 rw[YR]
 show aS (r.foldl fh (fh (l.foldl fh []) kv)) kv.1=_
 rw[Vr,Zp,Qgw,YT] at nd
 rw[FR r _ fun x hx e=>nd.2.1.1 (W4.mpr ⟨x,hx,e⟩)]
 unfold fh
 rw[BF,U3 rfl]
def ix (ws:List C') (n:C'):Int:=(ws.idxOf n:Nat)
theorem QlG {n:C'} (h:n∈ws):ws[ws.idxOf n]?=i' n:=by
 have:=QfE h
 rw[Xd this,List.getElem_idxOf]
def fu:Nat→List C'→List (Key×V)
 | _,[]=>[]
 | i,n::r=>(U7 n,.int (i:Int))::fu (i+1) r
theorem Bd:∀ (ws:List C') (i:Nat),(fu i ws).length=ws.length
 | [],_=>rfl
 | n::r,i=>by show(fu (i+1) r).length+1=_;rw[Bd r];rfl
theorem Gq:∀ (ws:List C') (i:Nat),(fu i ws).map (·.1)=ws.map U7
 | [],_=>rfl
 | n::r,i=>by show U7 n::(fu (i+1) r).map (·.1)=_;rw[Gq r];rfl
theorem Gz:∀ (ws:List C') (i j:Nat) (n:C'),ws[j]?=i' n→(fu i ws)[j]?=i' (U7 n,.int ((i+j:Nat):Int))
 | x::r,i,0,n,h=>by
  obtain rfl:x=n:=VQ h
  rfl
 | x::r,i,j+1,n,h=>by
  show(fu (i+1) r)[j]?=_
  rw[Gz r (i+1) j n h]
  congr 3
  lia
theorem HM:∀ (ws:List C') (i:Nat) (n:C'),fu i (ws++[n])=fu i ws++[(U7 n,.int ((i+ws.length:Nat):Int))]
 | [],i,n=>rfl
 | x::r,i,n=>by
  show _::fu (i+1) (r++[n])=_::(fu (i+1) r++_)
  rw[HM r (i+1) n,WV,show i+1+r.length=i+(r.length+1) by lia]
def Qa3 (ws:List C'):List (Key×V):=W' (fu 0 ws)
theorem Be (nd:ws.Nodup){n:C'} (h:n∈ws):aS (Qa3 ws) (U7 n)=i' (.int (ix ws n)):=by
 have h1:=Gz ws 0 _ n (QlG h)
 have eU:((fu 0 ws).map (·.1)).Nodup:=by
  rw[Gq,QfJ,List.pairwise_map]
  rw[QfJ] at nd
  exact nd.imp fun z e=>z (XW e)
 have:=O3 eU h1
 rw[Qd3] at this
 exact this
section
variable {K:R'}
theorem fw.tk {H H':Hp} (t:Tk H H'):∀ {kvs:List (Key×V)}{ys:List V},fw K H kvs ys→fw K H' kvs ys
 | [],_,h=>h
 | _::_,_,h=>by
  obtain⟨q,lD,e,h1,h2⟩:=h
  exact⟨q,lD,e,t.V7 h1,fw.tk t h2⟩
theorem fw.snoc {H:Hp}{kv:Key×V}{t:F'} (ht:Vi K H t [kV kv.1,kv.2]):∀ {kvs:List (Key×V)}{ys:List V},fw K H kvs ys→fw K H (kvs++[kv]) (ys++[.ref t])
 | [],_,h=>by
  obtain rfl:_=[]:=h
  exact⟨t,[],O,ht,O⟩
 | _::_,_,h=>by
  obtain⟨q,lD,rfl,h1,h2⟩:=h
  exact⟨q,_,O,h1,fw.snoc ht h2⟩
theorem fw.len {H:Hp}:∀ {kvs:List (Key×V)}{ys:List V},fw K H kvs ys→kvs.length=ys.length
 | [],_,h=>by rw[show _=[] from h];rfl
 | _::_,_,h=>by
  obtain⟨q,lD,rfl,h1,h2⟩:=h
  rw[WV,WV,fw.len h2]
end
namespace Nt
def g9 (ws:List C') (tn:List Int) (q:Ar):Wi:=if q.num∈tn then(ix ws q.other,ix ws q.one,q.span,q.weight) else(ix ws q.one,ix ws q.other,q.span,q.weight)
def m9 (ws:List C') (q:C'×C'):List Wi:=[(ix ws q.1,ix ws q.2,0,0),(ix ws q.2,ix ws q.1,0,0)]
def uK (ws:List C') (q:C'×C'×Int):Wi:=(ix ws q.2.1,ix ws q.1,0-q.2.2,0)
def ji (ws:List C') (v:cv):List Wi:=v.arr.map (g9 ws (fX v.arr))++v.ss.flatMap (m9 ws)++v.mm.map (uK ws)
section
variable {K:R'}
structure Acc (K:R') (g:F') (B H:Hp) (dn:List Wi):Prop where
 old:∀ b o,B b=i' o→b≠g→H b=i' o
 tp:∀ ys,H g=i' (.lst ys)→Wz H ys
 l:∃ ys,H g=i' (.lst ys)∧a8 K H (dn.map wD) ys
theorem Acc.put {g z:F'}{B:Hp}{dn:List Wi}{ys:List V}{q:Wi} (old:∀ b o,B b=i' o→b≠g→H b=i' o) (tp:Wz H ys) (hy:H g=i' (.lst ys)) (dy:a8 K H (dn.map wD) ys) (s:ae H H1) (hz:H1 z=i' (.tup (wV q))):Acc K g B (upd H1 g (.lst (ys++[.ref z]))) (dn++[q]):=by
 have C5:=s _ _ hy
 have tk:Tk H1 (upd H1 g (.lst (ys++[.ref z]))):=Tk.upd C5 rfl
 have II:z≠g:=bQ hz C5 (by intro q;cases q)
 refine⟨fun b o e ne=>by rw[aj ne];exact s _ _ (old b o e ne),fun lD e=>?_,_,ah,?_⟩
 .rw[ah] at e
  cases e
  exact Wz.snoc (tp.tk ((Tk.of s).trans tk)) (by rw[aj II];exact hz)
 rw[Vr]
 exact a8.snoc (Qlp (tk.V7 (Vi.of hz))) (tk.Vs (cy (fun _=>O) _) (s.Vs dy))
structure Wn (ws:List C') (v:cv):Prop where
 keys:VM v.kvs=ws.map V.str
 nd:ws.Nodup
 len:ws.length≤100
 nums:(v.arr.map Ar.num).Nodup
 la:v.arr.length≤100
 ls:v.ss.length≤100
 lm:v.mm.length≤100
 ea:∀ q∈v.arr,q.one∈ws∧q.other∈ws
 es:∀ q∈v.ss,q.1∈ws∧q.2∈ws
 em:∀ q∈v.mm,q.1∈ws∧q.2.1∈ws
inductive MN (K:R') (C:F') (vs:List V) (H:Hp) (Q:VK) (bg:XK):Prop
 | mk (p r v ws:_) (_:vs=[.ref p]) (_:b9 K C H p r v) (_:Wn ws v) (_:∀ l ys H',ae H H'→H l=B'→H' l=i' (.lst ys)→a8 K H' ((ji ws v).map wD) ys→Wz H' ys→Q (.ref l) H')
theorem Ml (l:List Int):(l.map V.int).all js=D':=by
 induction l with
 | nil=>rfl
 | cons x l ih=>exact ih
theorem OE (n:Int) (l:List Int):Yj (.int n) (l.map V.int)=decide (n∈l):=by
 induction l with
 | nil=>rfl
 | cons x l ih=>
  show(W8 (.int x) (.int n) || Yj (.int n) (l.map V.int))=_
  rw[ih]
  by_cases h:x=n
  .subst h
   simp[W8]
  .simp[W8,h,U5 h]
theorem xk (ws:List C'):∀ l:List (C'×C'),(l.flatMap (m9 ws)).length=2*l.length
 | []=>rfl
 | q::l=>by rw[List.flatMap_cons,WM,xk ws l,WV];show 2+_=_;lia
theorem Em (T:Tx K mg a):Vz P w K mg base Vp 4 "wishes_of" ["net"] [] (MN K a.Net):=T.Qkk.Vq fun f fd F=>by
 have de:=FU (P:=P) (w:=w) (base:=base) T
 have Xy:=rB (P:=P) (w:=w) (base:=base) T
 have YL:=xz (P:=P) (w:=w) (base:=base) T
 have QaX:=ES (P:=P) (w:=w) (base:=base) T
 have QaY:=Hl (P:=P) (w:=w) (base:=base) T
 refine F.ok iz (fun vs H Q E h=>?_) (fun aw A outer s H vs Q E hr h=>?_)
 .obtain⟨p,r,v,ws,rfl,_⟩:=h
  rfl
 .obtain⟨p,r,v,ws,rfl,N,W,k⟩:=h
  obtain⟨dx,hp⟩:=N.ex
  refine⟨_,(ak (aR (i:=1) iz.nd O (by first|exact UY rfl|exact UX O) (jO Ov O T.Qe9 Fb (af (cN (N:=["number","name"]) (cap:=[B',B']) O (bN (osc:=ay Bt) (XN:=["net","numbers","turned_about","wishes","number","one","other","span","weight"]) O O (by decide +kernel)) (ve rfl T.QaZ (af (iB (pv 0) T.VE Xy (hr.mono (by decide))) ai)) (fun cl C s H fp aa=>(jf (K:=K) (n:=2) O O (aP (aC (i:=0) (show(["number","name"]:List C').Nodup by decide +kernel) rfl (by first|exact UY rfl|exact UX O)) (aP (aC (i:=1) (show(["number","name"]:List C').Nodup by decide +kernel) rfl (by first|exact UY rfl|exact UX O)) cV)))) (fun cl C s H fp aa=>cH) (fun cl C s H fp aa=>(fZ (af (pv 1) (af (pv 0) ai))))) ai)))
   (ak (aR (i:=2) iz.nd O (by first|exact UY rfl|exact UX O) (br de (hr.mono (by decide)) rfl (af (pv 0) ai)))
   (ak (aR (i:=3) iz.nd O (by first|exact UY rfl|exact UX O) (dC ai))
   (ak (fg Wu rfl (bF (iB (pv 0) T.VE YL (hr.mono (by decide)))) (iW rfl (aP (aC (i:=4) iz.nd O (by first|exact UY rfl|exact UX O)) (aP (aC (i:=5) iz.nd O (by first|exact UY rfl|exact UX O)) (aP (aC (i:=6) iz.nd O (by first|exact UY rfl|exact UX O)) (aP (aC (i:=7) iz.nd O (by first|exact UY rfl|exact UX O)) (aP (aC (i:=8) iz.nd O (by first|exact UY rfl|exact UX O)) cV)))))) (av (bo (a7 EK (pv 4) (pv 2) (by with_unfolding_all rfl)) (av (cF (cW WU XQ X9 jo (pv 3) (af (fZ (af (dU (bw hr) (pv 1) (pv 6) (fun _ _=>O)) (af (dU (bw hr) (pv 1) (pv 5) (fun _ _=>O)) (af (pv 7) (af (pv 8) ai))))) ai)))) (av (cF (cW WU XQ X9 jo (pv 3) (af (fZ (af (dU (bw hr) (pv 1) (pv 5) (fun _ _=>O)) (af (dU (bw hr) (pv 1) (pv 6) (fun _ _=>O)) (af (pv 7) (af (pv 8) ai))))) ai)))))))
   (ak (fg Wu rfl (bF (iB (pv 0) T.VE QaX (hr.mono (by decide)))) (iW rfl (aP (aC (i:=5) iz.nd O (by first|exact UY rfl|exact UX O)) (aP (aC (i:=6) iz.nd O (by first|exact UY rfl|exact UX O)) cV))) (ak (cF (cW WU XQ X9 jo (pv 3) (af (fZ (af (dU (bw hr) (pv 1) (pv 5) (fun _ _=>O)) (af (dU (bw hr) (pv 1) (pv 6) (fun _ _=>O)) (af au (af au ai))))) ai)))
   (av (cF (cW WU XQ X9 jo (pv 3) (af (fZ (af (dU (bw hr) (pv 1) (pv 6) (fun _ _=>O)) (af (dU (bw hr) (pv 1) (pv 5) (fun _ _=>O)) (af au (af au ai))))) ai))))))
   (ak (fg Wu rfl (bF (iB (pv 0) T.VE QaY (hr.mono (by decide)))) (iW rfl (aP (aC (i:=5) iz.nd O (by first|exact UY rfl|exact UX O)) (aP (aC (i:=6) iz.nd O (by first|exact UY rfl|exact UX O)) (aP (aC (i:=4) iz.nd O (by first|exact UY rfl|exact UX O)) cV)))) (av (cF (cW WU XQ X9 jo (pv 3) (af (fZ (af (dU (bw hr) (pv 1) (pv 6) (fun _ _=>O)) (af (dU (bw hr) (pv 1) (pv 5) (fun _ _=>O)) (af (aX iU au (pv 4)) (af au ai))))) ai)))))
   (av (aK (pv 3))))))))),?_⟩
  refine⟨_,O,p,dx,_,O,hp,by rfl,p,r,v,O,N,fun l nl=>?_⟩
  rw[W.keys]
  have s1:ae H (upd H l (.lst (ws.map V.str))):=ae.new nl
  have h1:upd H l (.lst (ws.map V.str)) l=i' (.lst (ws.map V.str)):=ah
  generalize upd H l (.lst (ws.map V.str))=H1 at s1 h1 ⊢
  refine⟨l,O,⟨_,P'.of h1⟩,fun D hD=>?_⟩
  refine Ev (K:=K) (l:=l) (xs:=ws.map V.str) (fun j τ H'=>∃ v1 v2 us,τ=[v1,v2]∧ae H1 H'∧H' D=i' (.lst us)∧fw K H' (fu 0 (ws.take j)) us) ⟨B',B',[],rfl,ae.new hD,ah,by rw[ZZ];rfl⟩ ?_ ?_ ?_
  .rintro j τ H' _ ⟨_,_,_,rfl,sm,_⟩
   exact P'.of (sm _ _ h1)
  .rintro j y tt τ H' hy nt ⟨v1,v2,us,rfl,sm,zO,Dl⟩
   obtain⟨n,hn,rfl⟩:=Qan.mp ((WJ (f:=V.str) (l:=ws) (i:=j)).symm.trans hy)
   have hj:j<ws.length:=(VI.mp hn).1
   have hW:=W.len
   have ul:us.length≤j:=by
    rw[← fw.len Dl,Bd,VJ]
    lia
   have s3:ae H' (upd H' tt (.tup [.int j,.str n])):=ae.new nt
   have Du:upd H' tt (.tup [.int j,.str n]) tt=i' (.tup [.int j,.str n]):=ah
   generalize upd H' tt (.tup [.int j,.str n])=H3 at s3 Du ⊢
   refine⟨tt,_,O,Vi.of Du,O,_,_,O,_,_,O,O,?_⟩
   refine⟨_,O,_,O,(by show 2≤U2;decide),fun z nz=>?_⟩
   have s4:ae H3 (upd H3 z (.tup [.str n,.int j])):=ae.new nz
   have Dx:upd H3 z (.tup [.str n,.int j]) z=i' (.tup [.str n,.int j]):=ah
   generalize upd H3 z (.tup [.str n,.int j])=H4 at s4 Dx ⊢
   have t4:=s3.trans s4
   have BZ:=t4 _ _ zO
   have tk:Tk H4 (upd H4 D (.lst (us++[.ref z]))):=Tk.upd BZ rfl
   refine⟨_,BZ,by rw[Vm];lia,_,_,_,O,fun b u e=>by rw[aj (ao e hD)];exact t4 _ _ (sm b u e),ah,?_⟩
   rw[bB hn,HM,VJ,Qbf (Nat.le_of_lt hj),Qd3]
   exact fw.snoc (kv:=(U7 n,.int (j:Int))) (tk.V7 (Vi.of Dx)) (((Tk.of t4).trans tk |> fun t=>fw.tk t Dl))
  rintro τ H2 ⟨v1,v2,us,rfl,s2,uf,p2⟩
  rw[U1,We] at p2
  refine⟨D,us,fu 0 ws,O,P'.of uf,p2,by rw[Bd];have:=W.len;lia,fun d nd=>?_⟩
  have s3:ae H2 (upd H2 d (.dK (Qa3 ws))):=ae.new nd
  have wm:upd H2 d (.dK (Qa3 ws)) d=i' (.dK (Qa3 ws)):=ah
  change upd H2 d (.dK (W' (fu 0 ws))) d=_ at wm
  change ae H2 (upd H2 d (.dK (W' (fu 0 ws)))) at s3
  generalize upd H2 d (.dK (W' (fu 0 ws)))=H3 at s3 wm ⊢
  have t3:=s1.trans (s2.trans s3)
  have N3:=N.same t3
  refine⟨_,O,p,r,v,O,N3,W.la,W.nums,fun ab H4 s4 RH h4=>?_⟩
  refine⟨(by show 0≤U2;decide),fun g ng=>?_⟩
  have we:H g=B':=by
   cases e:H g with
   | none=>rfl
   | some o=>
    have:=s4 _ _ (t3 _ _ e)
    rw[ng] at this
    cases this
  have s5:ae H4 (upd H4 g (.lst [])):=ae.new ng
  have ui:upd H4 g (.lst []) g=i' (.lst []):=ah
  have dg:d≠g:=ao (s4 _ _ wm) ng
  have IV:ab≠g:=ao h4 ng
  generalize upd H4 g (.lst [])=H5 at s5 ui ⊢
  have Dk:=s5 _ _ (s4 _ _ wm)
  have Kf:=s5 _ _ h4
  have N5:=(N3.same s4).same s5
  have t5:ae H H5:=t3.trans (s4.trans s5)
  clear s4 s3 p2 uf s2 h1 s1 h4 N3 t3
  obtain⟨sK,o4⟩:=N5.ex
  have wl:=W.la
  have RI:=W.ls
  have R8:=W.lm
  refine⟨_,O,p,sK,_,O,o4,by rfl,p,r,v,O,N5,by rw[U1];lia,fun l6 H6 xs s6 n6 h6 d6 _=>?_⟩
  have gr:v.arr.length=xs.length:=by rw[← d6.length,U1]
  have lg:l6≠g:=fun e=>by rw[e,ui] at n6;cases n6
  refine⟨l6,O,⟨_,P'.of h6⟩,jW (K:=K) (a:=l6) (xs:=xs) (fun i σ H'=>∃ v4 v5 v6 v7 v8,σ=[i' (.ref p),i' (.ref d),i' (.ref ab),i' (.ref g),v4,v5,v6,v7,v8]∧Acc K g H6 H' ((v.arr.take i).map (g9 ws (fX v.arr)))) ⟨B',B',B',B',B',rfl,⟨fun b o e _=>e,(fun ys e=>by rw[s6 _ _ ui] at e;cases e;exact Wz.nil),[],s6 _ _ ui,by rw[ZZ];rfl⟩⟩ ?_ ?_ ?_⟩
  .rintro i σ H' _ ⟨_,_,_,_,_,rfl,A7⟩
   exact P'.of (A7.old _ _ h6 lg)
  .rintro i y σ H7 hy ⟨v4,v5,v6,v7,v8,rfl,A7⟩
   obtain⟨q,hq,dq⟩:=eX d6 hy
   have zd:i<v.arr.length:=(VI.mp hq).1
   have Lq:Tk H6 H7:=fun b o e z=>A7.old b o e (fun w=>by rw[w,s6 _ _ ui] at e;cases e;cases z)
   obtain⟨tq,rfl,sN⟩:=xu dq
   have vW:=V9 hq
   obtain⟨e1,e2⟩:=W.ea q vW
   obtain⟨ys,i9,rX⟩:=A7.l
   have yl:ys.length≤i:=by
    rw[← rX.length,U1,U1,VJ]
    lia
   have tM:=A7.old _ _ (s6 _ _ Dk) dg
   have K8:=A7.old _ _ (s6 _ _ Kf) IV
   have gN:∀ n∈ws,bS H7 d (.str n) (i' (.int (ix ws n))):=fun n hn=>by
    rw[← Be W.nd hn]
    exact bS.k (k:=U7 n) tM
   have et:(v.arr.take (i+1)).map (g9 ws (fX v.arr))=(v.arr.take i).map (g9 ws (fX v.arr))++[g9 ws (fX v.arr) q]:=by rw[bB hq,Vr];rfl
   refine⟨tq,_,O,Lq.V7 sN,O,_,_,O,_,_,O,_,_,O,_,_,O,_,_,O,O,?_⟩
   refine⟨_,O,_,O,ab,_,O,.inl (P'.of K8),O,Ml _,_,O,?_⟩
   rw[OE]
   refine bc (fun c=>?_) (fun c=>?_)
   .have c':q.num∈fX v.arr:=of_decide_eq_true c
    refine⟨_,O,.inl ⟨O,_,P'.of i9⟩,_,O,_,O,d,_,O,gN _ e2,_,O,_,O,d,_,O,gN _ e1,_,O,_,O,(by show 4≤U2;decide),fun z nz=>?_⟩
    have s8:=ae.new (o:=.tup [.int (ix ws q.other),.int (ix ws q.one),.int q.span,.int q.weight]) nz
    refine⟨g,_,_,O,O,s8 _ _ i9,by rw[Vm];lia,_,_,_,_,_,O,?_⟩
    rw[et]
    exact Acc.put A7.old (A7.tp _ i9) i9 rX s8 (by rw[ah];unfold g9;rw[U3 c'];rfl)
   .have c':q.num∉fX v.arr:=of_decide_eq_false c
    refine⟨_,O,.inl ⟨O,_,P'.of i9⟩,_,O,_,O,d,_,O,gN _ e1,_,O,_,O,d,_,O,gN _ e2,_,O,_,O,(by show 4≤U2;decide),fun z nz=>?_⟩
    have s8:=ae.new (o:=.tup [.int (ix ws q.one),.int (ix ws q.other),.int q.span,.int q.weight]) nz
    refine⟨g,_,_,O,O,s8 _ _ i9,by rw[Vm];lia,_,_,_,_,_,O,?_⟩
    rw[et]
    exact Acc.put A7.old (A7.tp _ i9) i9 rX s8 (by rw[ah];unfold g9;rw[U4 c'];rfl)
  rintro σ H7 ⟨v4,v5,v6,v7,v8,rfl,A7⟩
  rw[← gr,We] at A7
  have zp:∀ b o,H5 b=i' o→b≠g→H7 b=i' o:=fun b o e ne=>A7.old b o (s6 _ _ e) ne
  have t7:ae H H7:=fun b o e=>zp b o (t5 _ _ e) (ao e we)
  have N7:=N.same t7
  have tM:=zp _ _ Dk dg
  obtain⟨y7,i9,rX⟩:=A7.l
  have K2:=A7.tp _ i9
  clear A7 zp d6 h6 s6 n6 lg gr
  obtain⟨Jd,Ke⟩:=N7.ex
  refine⟨_,O,p,Jd,_,O,Ke,by rfl,p,r,v,O,N7,by rw[U1];lia,fun l6 H8 xs s8 n6 h6 d6 _=>?_⟩
  have gr:v.ss.length=xs.length:=by rw[← d6.length,U1]
  have lg:l6≠g:=fun e=>by rw[e,i9] at n6;cases n6
  have mJ:=s8 _ _ i9
  refine⟨l6,O,⟨_,P'.of h6⟩,jW (K:=K) (a:=l6) (xs:=xs) (fun i σ H'=>∃ v4 v5 v6 v7 v8,σ=[i' (.ref p),i' (.ref d),i' (.ref ab),i' (.ref g),v4,v5,v6,v7,v8]∧Acc K g H8 H' (v.arr.map (g9 ws (fX v.arr))++(v.ss.take i).flatMap (m9 ws))) ⟨v4,v5,v6,v7,v8,rfl,⟨fun b o e _=>e,(fun ys e=>by rw[mJ] at e;cases e;exact K2.tk (Tk.of s8)),y7,mJ,by rw[ZZ,List.flatMap_nil,Xq];exact s8.Vs rX⟩⟩ ?_ ?_ ?_⟩
  .rintro i σ H' _ ⟨_,_,_,_,_,rfl,A9⟩
   exact P'.of (A9.old _ _ h6 lg)
  .rintro i y σ H9 hy ⟨v4,v5,v6,v7,v8,rfl,A9⟩
   obtain⟨⟨o,t⟩,hq,dq⟩:=eX d6 hy
   have zd:i<v.ss.length:=(VI.mp hq).1
   have Kg:Tk H8 H9:=fun b o e z=>A9.old b o e (fun w=>by rw[w,mJ] at e;cases e;cases z)
   obtain⟨tq,rfl,sN⟩:=FZ dq
   obtain⟨e1,e2⟩:=W.es _ (V9 hq)
   dsimp only at e1 e2
   obtain⟨ys,mH,vq⟩:=A9.l
   have fl:=xk ws (v.ss.take i)
   have yl:ys.length≤300:=by
    rw[← vq.length,U1,WM,U1,fl,VJ]
    lia
   have vo:=A9.old _ _ (s8 _ _ tM) dg
   have gN:∀ {G:Hp},G d=i' (.dK (Qa3 ws))→∀ n∈ws,bS G d (.str n) (i' (.int (ix ws n))):=fun hG n hn=>by
    rw[← Be W.nd hn]
    exact bS.k (k:=U7 n) hG
   refine⟨tq,_,O,Kg.V7 sN,O,_,_,O,_,_,O,O,?_⟩
   refine⟨_,O,.inl ⟨O,_,P'.of mH⟩,_,O,_,O,d,_,O,gN vo _ e1,_,O,_,O,d,_,O,gN vo _ e2,(by show 4≤U2;decide),fun z nz=>?_⟩
   have sa:=ae.new (o:=.tup [.int (ix ws o),.int (ix ws t),.int 0,.int 0]) nz
   refine⟨g,_,_,O,O,sa _ _ mH,by rw[Vm];lia,?_⟩
   have Aa:=Acc.put (q:=(ix ws o,ix ws t,0,0)) A9.old (A9.tp _ mH) mH vq sa ah
   have li:upd (upd H9 z (.tup [.int (ix ws o),.int (ix ws t),.int 0,.int 0])) g (.lst (ys++[.ref z])) g=i' (.lst (ys++[.ref z])):=ah
   generalize upd (upd H9 z (.tup [.int (ix ws o),.int (ix ws t),.int 0,.int 0])) g (.lst (ys++[.ref z]))=Ha at Aa li ⊢
   obtain⟨yb,B4,JG⟩:=Aa.l
   rw[li] at B4
   obtain rfl:ys++[.ref z]=yb:=by cases B4;rfl
   have vy:=Aa.old _ _ (s8 _ _ tM) dg
   refine⟨_,O,.inl ⟨O,_,P'.of li⟩,_,O,_,O,d,_,O,gN vy _ e2,_,O,_,O,d,_,O,gN vy _ e1,(by show 4≤U2;decide),fun z2 K7=>?_⟩
   have sb:=ae.new (o:=.tup [.int (ix ws t),.int (ix ws o),.int 0,.int 0]) K7
   refine⟨g,_,_,O,O,sb _ _ li,by rw[WM,Vm];show _+1<_;lia,?_⟩
   have Ab:=Acc.put (q:=(ix ws t,ix ws o,0,0)) Aa.old (Aa.tp _ li) li JG sb ah
   refine⟨_,_,_,_,_,O,?_⟩
   have et:v.arr.map (g9 ws (fX v.arr))++(v.ss.take (i+1)).flatMap (m9 ws)=v.arr.map (g9 ws (fX v.arr))++(v.ss.take i).flatMap (m9 ws)++[(ix ws o,ix ws t,0,0)]++[(ix ws t,ix ws o,0,0)]:=by
    rw[bB hq,Qdu,QaA,QaA]
    rfl
   rw[et]
   exact Ab
  rintro σ H9 ⟨v4,v5,v6,v7,v8,rfl,A9⟩
  rw[← gr,We] at A9
  have xK:∀ b o,H7 b=i' o→b≠g→H9 b=i' o:=fun b o e ne=>A9.old b o (s8 _ _ e) ne
  have t9:ae H H9:=fun b o e=>xK b o (t7 _ _ e) (ao e we)
  have N9:=N.same t9
  have vo:=xK _ _ tM dg
  obtain⟨y9,mH,vq⟩:=A9.l
  have IW:=A9.tp _ mH
  clear A9 xK d6 h6 s8 n6 lg gr mJ
  obtain⟨Km,JZ⟩:=N9.ex
  refine⟨_,O,p,Km,_,O,JZ,by rfl,p,r,v,O,N9,by rw[U1];lia,fun l6 H8 xs s8 n6 h6 d6 _=>?_⟩
  have gr:v.mm.length=xs.length:=by rw[← d6.length,U1]
  have lg:l6≠g:=fun e=>by rw[e,mH] at n6;cases n6
  have mJ:=s8 _ _ mH
  refine⟨l6,O,⟨_,P'.of h6⟩,jW (K:=K) (a:=l6) (xs:=xs) (fun i σ H'=>∃ v4 v5 v6 v7 v8,σ=[i' (.ref p),i' (.ref d),i' (.ref ab),i' (.ref g),v4,v5,v6,v7,v8]∧Acc K g H8 H' (v.arr.map (g9 ws (fX v.arr))++v.ss.flatMap (m9 ws)++(v.mm.take i).map (uK ws))) ⟨v4,v5,v6,v7,v8,rfl,⟨fun b o e _=>e,(fun ys e=>by rw[mJ] at e;cases e;exact IW.tk (Tk.of s8)),y9,mJ,by rw[ZZ,Qcm,Xq];exact s8.Vs vq⟩⟩ ?_ ?_ ?_⟩
  .rintro i σ H' _ ⟨_,_,_,_,_,rfl,Aa⟩
   exact P'.of (Aa.old _ _ h6 lg)
  .rintro i y σ Ha hy ⟨v4,v5,v6,v7,v8,rfl,Aa⟩
   obtain⟨⟨o,t,m⟩,hq,dq⟩:=eX d6 hy
   have zd:i<v.mm.length:=(VI.mp hq).1
   have KY:Tk H8 Ha:=fun b o e z=>Aa.old b o e (fun w=>by rw[w,mJ] at e;cases e;cases z)
   obtain⟨tq,rfl,sN⟩:=EY dq
   obtain⟨e1,e2⟩:=W.em _ (V9 hq)
   dsimp only at e1 e2
   obtain⟨ys,oV,vP⟩:=Aa.l
   have fl:=xk ws v.ss
   have yl:ys.length≤400:=by
    rw[← vP.length,U1,WM,WM,U1,U1,fl,VJ]
    lia
   have vy:=Aa.old _ _ (s8 _ _ vo) dg
   have gN:∀ n∈ws,bS Ha d (.str n) (i' (.int (ix ws n))):=fun n hn=>by
    rw[← Be W.nd hn]
    exact bS.k (k:=U7 n) vy
   refine⟨tq,_,O,KY.V7 sN,O,_,_,O,_,_,O,_,_,O,O,?_⟩
   refine⟨_,O,.inl ⟨O,_,P'.of oV⟩,_,O,_,O,d,_,O,gN _ e2,_,O,_,O,d,_,O,gN _ e1,_,O,_,_,O,O,(by show 4≤U2;decide),fun z nz=>?_⟩
   have sa:=ae.new (o:=.tup [.int (ix ws t),.int (ix ws o),.int (0-m),.int 0]) nz
   refine⟨g,_,_,O,O,sa _ _ oV,by rw[Vm];lia,_,_,_,_,_,O,?_⟩
   have et:v.arr.map (g9 ws (fX v.arr))++v.ss.flatMap (m9 ws)++(v.mm.take (i+1)).map (uK ws)=v.arr.map (g9 ws (fX v.arr))++v.ss.flatMap (m9 ws)++(v.mm.take i).map (uK ws)++[uK ws (o,t,m)]:=by
    rw[bB hq,Vr,← QaA]
    rfl
   rw[et]
   exact Acc.put Aa.old (Aa.tp _ oV) oV vP sa ah
  rintro σ Ha ⟨v4,v5,v6,v7,v8,rfl,Aa⟩
  rw[← gr,We] at Aa
  obtain⟨ya,oV,vP⟩:=Aa.l
  exact⟨_,O,k g ya Ha (fun b o e=>Aa.old b o (s8 _ _ (t9 _ _ e)) (ao e we)) we oV vP (Aa.tp _ oV)⟩
end
theorem ku {n:C'} (h:n∈ws):0≤ix ws n∧ix ws n<ws.length:=by
 have:=QfE h
 unfold ix
 lia
theorem Pi {v:cv} (W:Wn ws v):∀ q∈ji ws v,InR ws.length q:=by
 intro q hq
 unfold ji at hq
 rcases Wb.mp hq with hq|hq
 .rcases Wb.mp hq with hq|hq
  .obtain⟨x,hx,rfl⟩:=W4.mp hq
   obtain⟨e1,e2⟩:=W.ea x hx
   unfold g9
   split
   .exact⟨ku e2,ku e1⟩
   .exact⟨ku e1,ku e2⟩
  .obtain⟨x,hx,hq⟩:=QdC.mp hq
   obtain⟨e1,e2⟩:=W.es x hx
   rcases V5.mp hq with rfl|hq
   .exact⟨ku e1,ku e2⟩
   .rw[Vn.mp hq]
    exact⟨ku e2,ku e1⟩
 .obtain⟨x,hx,rfl⟩:=W4.mp hq
  obtain⟨e1,e2⟩:=W.em x hx
  exact⟨ku e2,ku e1⟩
theorem Au:Small 0:=⟨by decide,by decide⟩
theorem M0 {v:cv} (h:∀ q∈v.arr,Small q.weight):∀ q∈ji ws v,Small q.2.2.2:=by
 intro q hq
 unfold ji at hq
 rcases Wb.mp hq with hq|hq
 .rcases Wb.mp hq with hq|hq
  .obtain⟨x,hx,rfl⟩:=W4.mp hq
   unfold g9
   split
   .exact h x hx
   .exact h x hx
  .obtain⟨x,hx,hq⟩:=QdC.mp hq
   rcases V5.mp hq with rfl|hq
   .exact Au
   .rw[Vn.mp hq]
    exact Au
 .obtain⟨x,hx,rfl⟩:=W4.mp hq
  exact Au
theorem Qp {v:cv} (W:Wn ws v):(ji ws v).length≤400:=by
 unfold ji
 rw[WM,WM,U1,U1,xk]
 have:=W.la
 have:=W.ls
 have:=W.lm
 lia
def Bp (kvs:Vl) (ws:List C') (ps:List Int):Prop:=ps.length=ws.length∧∀ (i:Nat) (n:C'),ws[i]?=i' n→∃ z,ps[i]?=i' z∧aS kvs (U7 n)=i' (.int z)
section
variable {K:R'}
inductive OT (K:R') (C:F') (vs:List V) (H:Hp) (Q:VK) (bg:XK):Prop
 | mk (p r v ws lv kvs ps:_) (_:vs=[.ref p,.ref lv]) (_:b9 K C H p r v) (_:Wn ws v) (_:H lv=i' (.dK kvs)) (_:Bp kvs ws ps) (_:∀ l H',ae H H'→H l=B'→H' l=i' (.lst (ps.map V.int))→Q (.ref l) H')
theorem Qm (T:Tx K mg a):Vz P w K mg base Vp 2 "places_by" ["net","levels"] [] (OT K a.Net):=T.Qkl.Vq fun f fd F=>by
 have Xy:=rB (P:=P) (w:=w) (base:=base) T
 refine F.ok Nb (fun vs H Q E h=>?_) (fun aw A outer s H vs Q E hr h=>?_)
 .obtain⟨p,r,v,ws,lv,kvs,ps,rfl,_⟩:=h
  rfl
 .obtain⟨p,r,v,ws,lv,kvs,ps,rfl,N,W,hl,⟨L1,L2⟩,k⟩:=h
  obtain⟨dx,hp⟩:=N.ex
  have hW:=W.len
  refine⟨_,(av (aK (cN (N:=["name","levels"]) (cap:=[B',i' 1]) O (bN (osc:=ay AW) (XN:=["net","levels"]) O O (by decide +kernel)) (bF (iB (pv 0) T.VE Xy (hr.mono (by decide)))) (fun cl C s H fp aa=>(aC (i:=0) (show(["name","levels"]:List C').Nodup by decide +kernel) rfl (by first|exact UY rfl|exact UX O))) (fun cl C s H fp aa=>cH) (fun cl C s H fp aa=>(dU (bw hr) (pv 1) (pv 0) (fun _ _=>O)))))),?_⟩
  refine⟨_,O,p,dx,_,O,hp,by rfl,p,r,v,O,N,fun l nl=>?_⟩
  rw[W.keys]
  have s1:ae H (upd H l (.lst (ws.map V.str))):=ae.new nl
  have h1:upd H l (.lst (ws.map V.str)) l=i' (.lst (ws.map V.str)):=ah
  generalize upd H l (.lst (ws.map V.str))=H1 at s1 h1 ⊢
  refine⟨l,O,⟨_,P'.of h1⟩,fun D hD=>?_⟩
  refine dv (K:=K) (a:=l) (xs:=ws.map V.str) (fun j τ H'=>∃ v1,τ=[v1,i' (.ref lv)]∧ae H1 H'∧H' D=i' (.lst ((ps.take j).map V.int))) ⟨B',rfl,ae.new hD,ah⟩ ?_ ?_ ?_
  .rintro j τ H' _ ⟨_,rfl,sm,_⟩
   exact P'.of (sm _ _ h1)
  .rintro j y τ H' hy ⟨v1,rfl,sm,zO⟩
   obtain⟨n,hn,rfl⟩:=Qan.mp ((WJ (f:=V.str) (l:=ws) (i:=j)).symm.trans hy)
   obtain⟨z,hz,hv⟩:=L2 j n hn
   have gz:bS H' lv (.str n) (i' (.int z)):=by
    rw[← hv]
    exact bS.k (k:=U7 n) (sm _ _ (s1 _ _ hl))
   dsimp only[bE]
   refine⟨_,O,_,O,lv,_,O,gz,_,zO,by rw[U1,VJ,Vm];lia,_,O,fun b u e=>by rw[aj (ao e hD)];exact sm b u e,?_⟩
   rw[ah,bB hz,Vr]
   rfl
  rintro τ H2 ⟨v1,rfl,s2,uf⟩
  rw[U1,← L1,We] at uf
  refine k D H2 (s1.trans s2) ?_ uf
  cases e:H D with
  | none=>rfl
  | some o=>
   have:=s1 _ _ e
   rw[hD] at this
   cases this
inductive MO (K:R') (C:F') (vs:List V) (H:Hp) (Q:VK) (bg:XK):Prop
 | mk (p r v ws lv kvs ps:_) (_:vs=[.ref p,.ref lv]) (_:b9 K C H p r v) (_:Wn ws v) (_:(∀ q∈v.arr,Small q.weight)) (_:H lv=i' (.dK kvs)) (_:Bp kvs ws ps) (_:∀ H',ae H H'→Q (.int (BR (ji ws v) ps)) H')
theorem Px (T:Tx K mg a):Vz P w K mg base Vp 5 "length" ["net","levels"] [] (MO K a.Net):=T.Qkm.Vq fun f fd F=>by
 have bK:=Em (P:=P) (w:=w) (base:=base) T
 have fL:=Qm (P:=P) (w:=w) (base:=base) T
 have k9:=MV (P:=P) (w:=w) (base:=base) T
 refine F.ok M4 (fun vs H Q E h=>?_) (fun aw A outer s H vs Q E hr h=>?_)
 .obtain⟨p,r,v,ws,lv,kvs,ps,rfl,_⟩:=h
  rfl
 .obtain⟨p,r,v,ws,lv,kvs,ps,rfl,N,W,sm,hl,L,k⟩:=h
  refine⟨_,(av (aK (br k9 (hr.mono (by decide)) rfl (af (br bK (hr.mono (by decide)) rfl (af (pv 0) ai)) (af (br fL (hr.mono (by decide)) rfl (af (pv 0) (af (pv 1) ai))) ai))))),?_⟩
  refine⟨_,O,p,r,v,ws,O,N,W,fun l2 ys H2 s2 n2 h2 d2 _=>?_⟩
  refine⟨_,O,_,O,p,r,v,ws,lv,kvs,ps,O,N.same s2,W,s2 _ _ hl,L,fun l3 H3 s3 n3 h3=>?_⟩
  refine⟨l2,ji ws v,l3,ps,O,⟨ys,P'.of (s3 _ _ h2),s3.Vs d2⟩,P'.of h3,by have:=Qp W;lia,fun q hq=>⟨by rw[L.1];exact Pi W q hq,M0 sm q hq⟩,fun H4 s4=>?_⟩
  exact k H4 (s2.trans (s3.trans s4))
end
def cl (s:C'):List Nat:=s.cps.toList
theorem qX (s:C'):(cl s).length=s.length:=by simp[cl,Qd9]
theorem QlH {x:C'} (h:cl x=cl y):x=y:=QmO h
def tn (n:Int):C':=Vb (toString n)
theorem Qfh (m:Nat):cl (tn (m:Int))=(Qbi 10 m).map Qcr:=QmT m
theorem QlI (h:0≤n) (h7:n<10000000):1≤(tn n).length∧(tn n).length≤7:=by
 obtain⟨m,rfl⟩:=Int.eq_ofNat_of_zero_le h
 rw[← qX,Qfh,U1]
 exact⟨QmN 10 m,QmR (by decide) (by lia)⟩
def Qa4:C':="0123456789"
def Xb (c:Nat):Bool:=!(QaI Qa4 ⟨#[c]⟩ 0 Qa4.length 1).isEmpty
theorem QlJ (h:48≤c∧c≤57):Xb c=D':=by
 unfold Xb
 rw[Qgf]
 exact(by decide:∀ c:Nat,c<58→48≤c→decide (c∈Qa4.cps.toList)=D') c (by lia) h.1
theorem uJ {y:V} (h:(ws.map V.str)[i]?=i' y):∃ s,ws[i]?=i' s∧y=.str s:=by
 rw[WJ] at h
 cases e:ws[i]? with
 | none=>rw[e] at h;cases h
 | some s=>rw[e] at h;cases h;exact⟨s,O,O⟩
theorem Oo:Xb c=D'↔48≤c∧c≤57:=by
 refine⟨fun h=>?_,QlJ⟩
 unfold Xb at h
 rw[Qgf] at h
 have h':c∈Qa4.cps.toList:=of_decide_eq_true h
 exact(by decide:∀ c∈Qa4.cps.toList,48≤c∧c≤57) c h'
def jJ (ds:List Nat):Nat:=ds.foldl (fun a d=>10*a+(d-48)) 0
theorem No (ds:List Nat) (d:Nat):jJ (ds++[d])=10*jJ ds+(d-48):=by
 unfold jJ
 rw[YR]
 rfl
theorem EV:∀ (ds:List Nat),(∀ c∈ds,c≤57)→∀ a,ds.foldl (fun a d=>10*a+(d-48)) a<(a+1)*10 ^ ds.length
 | [],_,a=>by show a<(a+1)*1;lia
 | d::ds,h,a=>by
  have h1:=h d (Xf ..)
  have h2:=EV ds (fun c hc=>h c (Xp _ hc)) (10*a+(d-48))
  rw[QgI,WV,Nat.pow_succ]
  have h3:(10*a+(d-48)+1)*10 ^ ds.length≤(a+1)*10*10 ^ ds.length:=Nat.mul_le_mul_right _ (by lia)
  have e:(a+1)*(10 ^ ds.length*10)=(a+1)*10*10 ^ ds.length:=by rw[Qhl (10 ^ ds.length),Nat.mul_assoc]
  lia
theorem FC:∀ (n:Nat) (ds:List Nat),ds.length=n+1→(∀ c∈ds,48≤c∧c≤57)→(ds.head?≠i' 48∨n=0)→(Qbi 10 (jJ ds)).map Qcr=ds
 | 0,ds,hl,h,_=>by
  match ds,hl with
  | [d],_=>
   have hd:=h d (Xf ..)
   have e:jJ [d]=d-48:=by show 10*0+(d-48)=_;lia
   rw[e,Qf3 (by lia)]
   exact(by decide:∀ d:Nat,d<58→48≤d→[Qg8 (d-48)].map Qcr=[d]) d (by lia) hd.1
 | n+1,ds,hl,h,hh=>by
  have gu:ds≠[]:=fun z=>by rw[z] at hl;cases hl
  have e:=(List.dropLast_concat_getLast gu).symm
  have qy:ds.dropLast.length=n+1:=by rw[List.length_dropLast,hl];rfl
  generalize hb:ds.dropLast=b at e qy
  generalize hd:ds.getLast gu=d at e
  subst e
  have yz:b.head?≠i' 48:=by
   rcases hh with hh|hh
   .intro z
    apply hh
    cases b with
    | nil=>cases z
    | cons x b=>exact z
   .cases hh
  have KF:∀ c∈b,48≤c∧c≤57:=fun c hc=>h c (Qaq _ hc)
  have ih:=FC n b qy KF (.inl yz)
  have cC:=h d (Qap _ (Xf ..))
  have pos:0<jJ b:=by
   rcases Qgv (jJ b) with z|z
   .rw[z] at ih
    rw[← ih] at yz
    exact U' (by decide) yz
   .exact z
  have hm:d-48<10:=by lia
  have t:Qbi 10 (jJ b)++Qbi 10 (d-48)=Qbi 10 (10*jJ b+(d-48)):=Nat.toDigits_append_toDigits (by decide) pos hm
  rw[No,← t,Vr,ih,Qf3 hm]
  congr 1
  exact(by decide:∀ d:Nat,d<58→48≤d→[Qg8 (d-48)].map Qcr=[d]) d (by lia) cC.1
def eY (w:C'):Bool:=decide (1≤w.length) && decide (w.length≤7) && (cl w).all Xb && (decide (w=Vb "0") || !decide ((cl w)[0]?=i' 48))
def nv (w:C'):Int:=(jJ (cl w):Nat)
theorem HU {w:C'} (h:eY w=D'):w=tn (nv w)∧0≤nv w∧nv w<10000000:=by
 unfold eY at h
 rw[XB,XB,XB,decide_eq_true_iff,decide_eq_true_iff,QdE,QgJ,decide_eq_true_iff,QaB,decide_eq_false_iff_not] at h
 obtain⟨⟨⟨h1,h7⟩,hf⟩,hz⟩:=h
 have hd:∀ c∈cl w,48≤c∧c≤57:=fun c hc=>Oo.mp (hf c hc)
 rw[← qX] at h1 h7
 have lt:=EV (cl w) (fun c hc=>(hd c hc).2) 0
 have p:10 ^ (cl w).length≤10 ^ 7:=Qds (by decide) h7
 refine⟨QlH ?_,by unfold nv;lia,?_⟩
 .rw[show nv w=((jJ (cl w):Nat):Int) from rfl,Qfh]
  refine(FC ((cl w).length-1) (cl w) (by lia) hd ?_).symm
  rcases hz with z|z
  .right
   rw[z]
   rfl
  .left
   rw[Qf4]
   exact z
 .have e:nv w=((Qbk (fun a d=>10*a+(d-48)) 0 (cl w):Nat):Int):=rfl
  rw[e]
  have:Qbk (fun a d=>10*a+(d-48)) 0 (cl w)<10000000:=Nat.lt_of_lt_of_le lt (by lia)
  lia
section
variable {K:R'}
inductive QlK (vs:List V) (H:Hp) (Q:VK) (bg:XK):Prop
 | mk (w:C') (_:vs=[.str w]) (_:w.length≤1000) (_:∀ H',ae H H'→Q (.bl (eY w)) H')
theorem Gd (T:Tx K mg a):Vz P w K mg base Vp 1 "is_written_number" ["word"] [] QlK:=T.Qko.Vq fun f fd F=>by
 refine F.ok Nz (fun vs H Q E h=>?_) (fun aw A outer s H vs Q E hr h=>?_)
 .obtain⟨n,rfl,_⟩:=h
  rfl
 .obtain⟨n,rfl,hn,k⟩:=h
  have hz:n.length≤U2:=by rw[Vm];lia
  have no:eY n=M'→Q (.bl M') H:=fun e=>by
   have:=k H (ae.refl H)
   rw[e] at this
   exact this
  refine⟨_,(ak (bo (PW.pt (lS (a7 mX (bx xn O T.Wk dk (af (pv 0) ai)) au (aV _)) (lS (a7 kK (bx xn O T.Wk dk (af (pv 0) ai)) (i7 O T.QkL) (aV _)) (qT (kG (iT (bx AR O T.Qc6 A4 (af (cN (N:=["sign"]) (cap:=[B']) O (bN (osc:=ay A3) (XN:=["word"]) O O (by decide +kernel)) (FK (pv 0)) (fun cl C s H fp aa=>(aC (i:=0) (show(["sign"]:List C').Nodup by decide +kernel) rfl (by first|exact UY rfl|exact UX O))) (fun cl C s H fp aa=>cH) (fun cl C s H fp aa=>(jS AX (pv 0) (Ge O T.QkE) (by with_unfolding_all rfl)))) ai)))))))) (av (aK uz)) bp)
   (av (aK (w5 (jS cw (pv 0) aN (aV _)) (pD (jS wQ (aF HI (pv 0) au (fun _ _=>O)) aN (aV _))))))),?_⟩
  refine⟨_,O,_,O,hz,_,_,O,O,_,O,bc (fun c1=>?_) (fun c1=>?_)⟩
  .have c1:=of_decide_eq_true c1
   exact cY (no (by unfold eY;rw[decide_eq_false (show ¬ 1≤n.length by lia)];rfl))
  have c1:=of_decide_eq_false c1
  refine⟨_,O,_,O,hz,_,_,O,O,_,O,bc (fun c2=>?_) (fun c2=>?_)⟩
  .have c2:=of_decide_eq_true c2
   exact no (by unfold eY;rw[decide_eq_false (show ¬ n.length≤7 by lia),QgR];rfl)
  have c2:=of_decide_eq_false c2
  have i0:eY n=((cl n).all Xb && (decide (n=Vb "0") || !decide ((cl n)[0]?=i' 48))):=by
   unfold eY
   rw[decide_eq_true (show 1≤n.length by lia),decide_eq_true (show n.length≤7 by lia)]
   rfl
  refine⟨_,O,n,O,fun D hD=>?_⟩
  refine GV (x:=n) (fun i τ H'=>∃ v,τ=[v]∧ae H H'∧H' D=i' (.lst ((((cl n).take i).map Xb).map V.bl))) ⟨B',rfl,ae.new hD,ah⟩ ?_ ?_
  .rintro i c τ H' hc ⟨v,rfl,sm,hl⟩
   have iF:(cl n)[i]?=i' c:=by
    show n.cps.toList[i]?=_
    rw[Qf5]
    exact hc
   dsimp only[bE,cX]
   rw[U3 rfl]
   refine⟨_,O,_,_,O,O,_,hl,by rw[U1,U1,VJ,qX,Vm];lia,_,O,cz hD sm,?_⟩
   rw[ah,bB iF,Vr,Vr]
   rfl
  .rintro τ H' ⟨v,rfl,sm,hl⟩
   rw[XM (show(cl n).length≤n.cps.size by rw[qX];exact Xh _)] at hl
   refine⟨D,_,O,P'.of hl,_,O,?_⟩
   have e:((cl n).map Xb).all id=(cl n).all Xb:=by rw[Qbh];rfl
   rw[e]
   have k':=k H' sm
   rw[i0] at k'
   refine bc (fun c=>?_) (fun c=>?_)
   .have c:(cl n).all Xb=M':=by simpa using c
    rw[c] at k'
    exact k'
   .have c:(cl n).all Xb=D':=by simpa using c
    rw[c,QdV] at k'
    refine⟨_,O,O,_,O,?_⟩
    refine bc (fun z=>?_) (fun z=>?_)
    .have z:n=Vb "0":=by simpa using z
     rw[decide_eq_true z,Qg9] at k'
     exact k'
    .have z:¬ n=Vb "0":=by simpa using z
     rw[decide_eq_false z,QdW] at k'
     cases hc:(cl n)[0]? with
     | none=>
      have:=QfP.mp hc
      rw[qX] at this
      lia
     | some c=>
     refine⟨_,O,n,_,c,O,O,hz,?_,O,?_⟩
     .rw[iw (Qbj 0)]
      exact hc
     .rw[hc] at k'
      have e2:(!decide (V.str (⟨#[c]⟩:C')=V.str (Vb "0")))=!decide ((i' c:Option Nat)=i' 48):=by
       rw[show Vb "0"=(⟨#[48]⟩:C') from by decide]
       by_cases q:c=48
       .subst q;rfl
       .rw[decide_eq_false (fun z=>q (VQ z)),decide_eq_false (fun z=>q (by injection z with z;injection z with z;injection z with z;injection z))]
      rw[e2]
      exact k'
end
theorem HK (n i:Nat):HT.Vj n 0 (i' (i:Int))=min i n:=HT.ZE _ _ i
theorem Ap (xs:List V) (i:Nat):du xs (i' (i:Int)) B'=xs.drop i:=by
 unfold du
 rw[HT.zjd,HK]
 by_cases h:i≤xs.length
 .rw[Qbf h]
  exact XM (by rw[ZW];exact Xh _)
 .rw[QdK (by lia),Nat.sub_self,ZZ]
  exact(List.drop_of_length_le (by lia)).symm
theorem uY {x:F'} (s:ae H H') (n:H' x=B'):H x=B':=by
 cases e:H x with
 | none=>rfl
 | some o=>exact U' (s _ _ e) (by rw[n];intro z;cases z)
def kA (k:Nat) (VF:List Int) (ws:List C'):Bool:=decide (k≤ws.length) && decide (ws.length≤k+VF.length) && ws.all eY
section
variable {K:R'}
theorem wC (T:Tx K mg a):vf P w K mg base Vp 1 a.NoLine "NoLine" ["self","number"] (AM a.NoLine "number"):=T.QjV.Vq fun f fd F=>by
 refine F.ok M6 (fun vs H Q E h=>?_) (fun aw A outer s H vs Q E hr h=>?_)
 .obtain⟨x,t,y,rfl,_⟩:=h
  rfl
 .obtain⟨x,t,y,rfl,hx,k⟩:=h
  refine⟨_,(av (AV (pv 0) (pv 1) O)),?_⟩
  exact⟨_,O,_,O,x,a.NoLine,t,O,hx,T.QjW,fun dx nd=>k dx nd⟩
theorem lQ {i:V} (k:∀ H' dx,ae H H'→H' dx=i' (.xd [("number",i)])→E (.ref a.NoLine) (i' dx) H') :
  ([i]:List V).length≤U2∧∀ x t',H x=B'→AM a.NoLine "number" (.ref x::([i]++[])) (upd H x (gB a.NoLine t' x B')) (fun v H2=>v=.U8∧∃ dx,H2 x=i' (gB a.NoLine t' x dx)∧E (.ref a.NoLine) dx (del H2 x)) E:=by
 refine⟨by show 1≤U2;decide,fun x t hx=>⟨x,t,_,O,ah,fun d nd=>⟨O,i' d,ah,?_⟩⟩⟩
 have xd:d≠x:=fun z=>by rw[z,ah] at nd;cases nd
 have e:del (upd (upd (upd H x (gB a.NoLine t x B')) d (.xd [("number",i)])) x (gB a.NoLine t x (i' d))) x=upd H d (.xd [("number",i)]):=by
  funext b
  unfold del
  by_cases h1:b=x
  .subst h1
   rw[U3 rfl,aj (U5 xd),hx]
  .rw[U4 h1,aj h1]
   by_cases h2:b=d
   .subst h2;rw[ah,ah]
   .rw[aj h2,aj h1,aj h2]
 rw[e]
 have eU:H d=B':=by rw[aj xd] at nd;exact nd
 exact k _ d (ae.new eU) ah
inductive QlL (K:R') (a:VS) (vs:List V) (H:Hp) (Q:VK) (E:XK):Prop
 | mk (p:_) (ws:List C') (k:Nat) (t:_) (VF:List Int) (_:vs=[.ref p,.int (k:Int),.ref t]) (_:H p=i' (.lst (ws.map V.str))) (_:(∀ n∈ws,n.length≤1000)) (_:Vi K H t (VF.map V.int)) (_:ws.length≤1000) (_:VF.length≤10) (_:(kA k VF ws=D'→∀ l H',ae H H'→H l=B'→H' l=i' (.lst ((ws.map nv++VF.drop (ws.length-k)).map V.int))→Q (.ref l) H')) (_:(kA k VF ws=M'→∀ H' dx,ae H H'→H' dx=i' (.xd [("number",.int 0)])→E (.ref a.NoLine) (i' dx) H'))
theorem Qj (T:Tx K mg a):Vz P w K mg base (Wa P w) 3 "numbers_of" ["words","needed","left_out"] [] (QlL K a):=T.Qkp.Vq fun f fd F=>by
 have aM:=Gd (P:=P) (w:=w) (base:=base) T
 have aU:=wC (P:=P) (w:=w) (base:=base) T
 refine F.Xm Fh (fun vs H Q E h=>?_) (fun aw A outer s H vs Q E hr h=>?_)
 .obtain⟨p,ns,k,t,VF,rfl,_⟩:=h
  rfl
 .obtain⟨p,ws,k,t,VF,rfl,hp,hn,ht,b3,b4,q,er⟩:=h
  have ll:((VF.map V.int).length:Int)=VF.length:=by rw[U1]
  have ln:((ws.map V.str).length:Int)=ws.length:=by rw[U1]
  have bad:kA k VF ws=M'→∀ G,ae H G→∀ H' dx,ae G H'→H' dx=i' (.xd [("number",.int 0)])→E (.ref a.NoLine) (i' dx) H':=fun e G sg H' dx s1 hd=>er e H' dx (sg.trans s1) hd
  refine⟨_,(ak (aR (i:=3) Fh.nd O (by first|exact UY rfl|exact UX O) (aX iU (aX md (pv 1) (bx fV O T.Wk dk (af (pv 2) ai))) (bx fV O T.Wk dk (af (pv 0) ai))))
   (ak (bo (PW.pt (lS (a7 mX (pv 3) au (aV _)) (lS (a7 kK (pv 3) (bx fV rfl T.Wk dk (af (pv 2) ai)) (aV _)) (qT (kG (iT (bx AR rfl T.Qc6 A4 (af (cN (N:=["word"]) (cap:=[B']) O (bN (osc:=ay xm) (XN:=["words","needed","left_out","missing"]) O O (by decide +kernel)) (bF (pv 0)) (fun cl C s H fp aa=>(aC (i:=0) (show(["word"]:List C').Nodup by decide +kernel) rfl (by first|exact UY rfl|exact UX O))) (fun cl C s H fp aa=>cH) (fun cl C s H fp aa=>(br aM (hr.mono (by decide)) rfl (af (pv 0) ai)))) ai)))))))) (av (mS cx aU (hr.mono (by decide)) rfl (af au ai))) bp)
   (av (aK (aX me (cN (N:=["word"]) (cap:=[B']) O (bN (osc:=ay xm) (XN:=["words","needed","left_out","missing"]) O O (by decide +kernel)) (bF (pv 0)) (fun cl C s H fp aa=>(aC (i:=0) (show(["word"]:List C').Nodup by decide +kernel) rfl (by first|exact UY rfl|exact UX O))) (fun cl C s H fp aa=>cH) (fun cl C s H fp aa=>(jO GJ O T.QbE xf (af (pv 0) ai)))) (jO Gh O T.QbF wZ (af (m5 PB (pv 2) (jL (aX iU (bx fV O T.Wk dk (af (pv 2) ai)) (pv 3))) pL) ai))))))),?_⟩
  refine⟨_,O,_,O,t,_,O,.inr ht,_,_,O,O,_,O,p,_,O,.inl (P'.of hp),_,_,O,O,?_⟩
  dsimp only[bE]
  rw[ll,ln]
  refine⟨_,O,_,_,O,O,_,O,bc (fun c=>?_) (fun c1=>?_)⟩
  .have c:=of_decide_eq_true c
   exact cY (lQ (bad (by unfold kA;rw[decide_eq_false (show ¬ ws.length≤k+VF.length by lia),QgR];rfl) H (ae.refl _)))
  have c1:=of_decide_eq_false c1
  refine⟨_,O,_,O,t,_,O,.inr ht,_,_,O,O,_,O,bc (fun c=>?_) (fun c2=>?_)⟩
  .have c:=of_decide_eq_true c
   rw[ll] at c
   exact lQ (bad (by unfold kA;rw[decide_eq_false (show ¬ k≤ws.length by lia)];rfl) H (ae.refl _))
  have c2:=of_decide_eq_false c2
  rw[ll] at c2
  have n0:kA k VF ws=ws.all eY:=by
   unfold kA
   rw[decide_eq_true (show k≤ws.length by lia),decide_eq_true (show ws.length≤k+VF.length by lia)]
   rfl
  refine⟨_,O,p,O,⟨_,P'.of hp⟩,fun D hD=>?_⟩
  refine dv (K:=K) (a:=p) (xs:=ws.map V.str) (fun j τ G=>∃ v1,τ=[v1]∧ae H G∧G D=i' (.lst (((ws.take j).map eY).map V.bl))) ⟨B',rfl,ae.new hD,ah⟩ ?_ ?_ ?_
  .rintro j τ G _ ⟨_,rfl,sg,_⟩
   exact P'.of (sg _ _ hp)
  .rintro j y τ G hy ⟨v1,rfl,sg,hG⟩
   obtain⟨z,hz,rfl⟩:=uJ hy
   have hj:j<ws.length:=(VI.mp hz).1
   dsimp only[bE,cX]
   rw[U3 rfl]
   refine⟨_,O,z,O,hn z (V9 hz),fun G1 sr=>?_⟩
   refine⟨_,sr _ _ hG,by rw[U1,U1,VJ,Vm];lia,_,O,cz hD (sg.trans sr),?_⟩
   rw[ah,bB hz,Vr,Vr]
   rfl
  rintro τ G ⟨v1,rfl,sg,hG⟩
  rw[U1,We] at hG
  refine⟨D,_,O,P'.of hG,_,O,?_⟩
  have e:((ws.map eY).all id)=ws.all eY:=by rw[Qbh];rfl
  rw[e]
  refine bc (fun c=>?_) (fun c=>?_)
  .have c:ws.all eY=M':=by simpa using c
   exact lQ (bad (n0.trans c) G sg)
  have c:ws.all eY=D':=by simpa using c
  have num:∀ z∈ws,eY z=D':=QdE.mp c
  refine⟨_,O,p,O,⟨_,P'.of (sg _ _ hp)⟩,fun D2 dI=>?_⟩
  refine dv (K:=K) (a:=p) (xs:=ws.map V.str) (fun j τ G'=>∃ v1,τ=[v1]∧ae G G'∧G' D2=i' (.lst (((ws.take j).map nv).map V.int))) ⟨B',rfl,ae.new dI,ah⟩ ?_ ?_ ?_
  .rintro j τ G' _ ⟨_,rfl,bV,_⟩
   exact P'.of (bV _ _ (sg _ _ hp))
  .rintro j y τ G' hy ⟨v1,rfl,bV,fB⟩
   obtain⟨z,hz,rfl⟩:=uJ hy
   have hj:j<ws.length:=(VI.mp hz).1
   obtain⟨e1,m0,m7⟩:=HU (num z (V9 hz))
   dsimp only[bE,cX]
   rw[U3 rfl]
   refine⟨_,O,nv z,WS (fun x=>[V.str x]) e1,m0,by lia,?_⟩
   refine⟨_,fB,by rw[U1,U1,VJ,Vm];lia,_,O,cz dI bV,?_⟩
   rw[ah,bB hz,Vr,Vr]
   rfl
  rintro τ G' ⟨RQ,rfl,bV,fB⟩
  rw[U1,We] at fB
  have s2:=sg.trans bV
  have sP:=(Tk.of s2).V7 ht
  have q:=q (n0.trans c)
  have aG:∀ (q1:F') (G1:Hp),ae G' G1→Vi K G1 q1 ((VF.drop (ws.length-k)).map V.int)→_:=fun q1 G1 s3 h1=>show ∃ p ys,[V.ref q1]=[.ref p]∧(P' K G1 p ys∨Vi K G1 p ys)∧∀ l,G1 l=B'→QeB (.ref D2) (.ref l) (upd G1 l (.lst ys)) Q from⟨q1,_,rfl,.inr h1,fun l nl=>⟨D2,l,_,_,O,O,(ae.new nl) _ _ (s3 _ _ fB),ah,by rw[U1,U1,U1,ZW,Vm];lia,fun r nr=>q r _ (((s2.trans s3).trans (ae.new nl)).trans (ae.new nr)) (uY ((s2.trans s3).trans (ae.new nl)) nr) (by rw[ah,Vr])⟩⟩
  have eL:(VF.length:Int)-((k:Int)+VF.length-ws.length)=((ws.length-k:Nat):Int):=by lia
  refine⟨_,O,_,O,t,_,O,.inr sP,_,O,_,_,O,O,_,O,t,_,O,sP,fun hw=>?_,fun hw q1 sY=>?_⟩
  .skip
   rw[ll,eL,HK,U1] at hw
   refine aG t G' (ae.refl _) ?_
   rw[show VF.drop (ws.length-k)=VF by
    by_cases z:ws.length-k=0
    .rw[z];rfl
    .have:VF.length=0:=by have:=hw.1;lia
     rw[List.eq_nil_of_length_eq_zero this];simp]
   exact sP
  .rw[ll,eL,Ap,← QdU]
   exact aG q1 _ (ae.new sY) (Vi.of ah)
end
abbrev bk:C':=Vb " "
abbrev nl:C':=Vb "\n"
abbrev WG:C':=Vb "point"
abbrev WH:C':=Vb "arrow"
abbrev kSm:C':=Vb "same"
abbrev kMs:C':=Vb "most"
theorem QlM:bk=⟨#[32]⟩:=by decide
def pO (k:C'):Option (Nat×Nat×List Int):=
 if k=WG then i' (1,0,[0]) else if k=WH then i' (2,0,[1,1]) else if k=kSm then i' (2,0,[]) else if k=kMs then i' (2,1,[]) else B'
structure Rd where
 k:C'
 ns:List C'
 xs:List Int
def look:List C'→Option Rd
 | []=>B'
 | k::r=>match pO k with
  | none=>B'
  | some (nn,nd,VF)=>if r.length<nn then B' else if kA nd VF (r.drop nn)=D' then i' ⟨k,r.take nn,(r.drop nn).map nv++VF.drop ((r.drop nn).length-nd)⟩ else B'
def Rd.nm (q:Rd) (i:Nat):C':=q.ns.getD i VT
def Rd.nu (q:Rd) (i:Nat):Int:=q.xs.getD i 0
def Rd.err (v:cv) (q:Rd):Option Er:=
 if q.k=WG then jm v.kvs (q.nm 0) (q.nu 0) else if q.k=WH then kI v (q.nm 0) (q.nm 1) (q.nu 0) (q.nu 1) else if q.k=kSm then lim v.kvs v.ss.length (q.nm 0) (q.nm 1) B' else lim v.kvs v.mm.length (q.nm 0) (q.nm 1) (i' (q.nu 0))
def Rd.put (v:cv) (q:Rd):cv:=
 if q.k=WG then {v with kvs:=v.kvs++[(U7 (q.nm 0),.int (q.nu 0))]} else if q.k=WH then {v with arr:=v.arr++[⟨v.nn,q.nm 0,q.nm 1,q.nu 0,q.nu 1⟩],nn:=v.nn+1} else if q.k=kSm then {v with ss:=v.ss++[(q.nm 0,q.nm 1)]} else {v with mm:=v.mm++[(q.nm 0,q.nm 1,q.nu 0)]}
def QlN (v:cv) (ws:List C'):Option cv:=match look ws with
 | none=>B'
 | some q=>match q.err v with
  | none=>i' (q.put v)
  | some _=>B'
def kC (v:cv) (l:C'):Option cv:=QlN v (VG l bk)
structure Qa5 (m:Nat) (v:cv):Prop where
 k:v.kvs.length≤m
 a:v.arr.length≤m
 n:∀ q∈v.arr,q.num<v.nn
 s:v.ss.length≤m
 m:v.mm.length≤m
theorem Fo:∀ x∈VG l bk,x.length≤l.length:=by
 have e:C'.join bk (VG l bk)=l:=by
  rw[QlM]
  exact StrLaws.join_split _ _
 intro x hx
 cases h:VG l bk with
 | nil=>rw[h] at hx;cases hx
 | cons y r=>
  rw[h] at hx e
  have e2:=WS Qd9 e
  rw[QmQ] at e2
  have:∀ (ys:List C'),x∈ys→x.length≤(ys.map fun s:C'=>s.length).sum:=fun ys=>by
   induction ys with
   | nil=>intro h;cases h
   | cons z ys ih=>
    intro h
    rw[Zp,QgW]
    rcases V5.mp h with rfl|h
    .omega
    .have:=ih h
     lia
  have:=this _ hx
  lia
theorem AT {α:Type}{f:α→Nat}{n:Nat}:∀ {l:List α},(∀ x∈l,f x≤n)→(l.map f).sum≤n*l.length
 | [],_=>by simp
 | x::l,h=>by
  have h1:=h x (Xf ..)
  have h2:=AT (l:=l) fun y hy=>h y (Xp _ hy)
  rw[Zp,QgW,WV,Nat.mul_succ]
  lia
structure QlO (K:R') (a:VS) (k:C') (nn nd:Nat) (VF:List Int) (t t2:F'):Prop where
 val:aS (ia a) (U7 k)=i' (.ref t)
 q1:∀ H,Vi K H t [.int (nn:Int),.int (nd:Int),.ref t2]
 q2:∀ H,Vi K H t2 (VF.map V.int)
 b1:nn≤2
 b4:VF.length≤2
theorem QI {K:R'} (T:Tx K mg a){k:C'}{nn nd:Nat} (h:pO k=i' (nn,nd,VF)):∃ t t2,QlO K a k nn nd VF t t2:=by
 have ne:∀ x y:C',¬ y=x→¬ ((U7 x:Key)=U7 y):=fun x y h z=>h (XW z).symm
 unfold pO at h
 split at h
 .rename_i e
  cases h
  exact⟨_,_,by subst e;unfold ia;exact dr O,T.QkQ,T.QkP,by decide,by decide⟩
 rename_i n1
 split at h
 .rename_i e
  cases h
  exact⟨_,_,by subst e;unfold ia;rw[cf (ne _ _ n1)];exact dr O,T.QkS,T.QkR,by decide,by decide⟩
 rename_i n2
 split at h
 .rename_i e
  cases h
  exact⟨_,_,by subst e;unfold ia;rw[cf (ne _ _ n1),cf (ne _ _ n2)];exact dr O,T.QkU,T.QkT,by decide,by decide⟩
 rename_i n3
 split at h
 .rename_i e
  cases h
  exact⟨_,_,by subst e;unfold ia;rw[cf (ne _ _ n1),cf (ne _ _ n2),cf (ne _ _ n3)];exact dr O,T.QkW,T.QkV,by decide,by decide⟩
 .cases h
theorem OF {k:C'} (h:pO k=B'):aS (ia a) (U7 k)=B':=by
 have ne:∀ x y:C',¬ y=x→¬ ((U7 x:Key)=U7 y):=fun x y h z=>h (XW z).symm
 unfold pO at h
 split at h
 .cases h
 rename_i n1
 split at h
 .cases h
 rename_i n2
 split at h
 .cases h
 rename_i n3
 split at h
 .cases h
 rename_i n4
 unfold ia
 rw[cf (ne _ _ n1),cf (ne _ _ n2),cf (ne _ _ n3),cf (ne _ _ n4)]
 rfl
theorem QL {k:Nat} (h:kA k VF ws=D'):(ws.map nv++VF.drop (ws.length-k)).length=k+VF.length:=by
 unfold kA at h
 rw[XB,XB,decide_eq_true_iff,decide_eq_true_iff] at h
 rw[WM,U1,ZW]
 lia
theorem Nc (x:V) (xs:List V) (n:Nat):du (x::xs) (i' 1) (i' (1+(n:Int)))=xs.take n:=by
 unfold du
 have e1:HT.Vj (x::xs).length 0 (i' 1)=min 1 (x::xs).length:=HT.ZE _ _ 1
 have e2:HT.Vj (x::xs).length (x::xs).length (i' (1+(n:Int)))=min (1+n) (x::xs).length:=by
  rw[show(1:Int)+(n:Int)=((1+n:Nat):Int) by lia]
  exact HT.ZE _ _ _
 rw[e1,e2,WV,show min 1 (xs.length+1)=1 by lia,List.drop_one,List.tail_cons,show min (1+n) (xs.length+1)-1=min n xs.length by lia]
 by_cases h:n≤xs.length
 .rw[Qbf h]
 .rw[QdK (by lia),We,XM (by lia)]
theorem lX {α:Type}{xs:List α}{x:α} (h:xs[i]?=i' x):V1 xs (i:Int)=i' x:=by
 rw[iw (by lia),show((i:Int)).toNat=i by lia]
 exact h
theorem Am {α:Type}{xs:List α}{d:α} (h:i<xs.length):xs[i]?=i' (xs.getD i d):=by
 rw[X8,Xd h]
 rfl
section
variable {K:R'}
inductive Pl (K:R') (a:VS) (vs:List V) (H:Hp) (Q:VK) (E:XK):Prop
 | mk (p r v l:_) (_:vs=[.ref p,.str l]) (_:l.length≤900) (_:b9 K a.Net H p r v) (_:Qa5 1000 v) (_:(∀ q,look (VG l bk)=i' q→(q.k=WG∨q.k=WH)∧q.err v=B'∧∀ x H',(x=.U8∨x=.int v.nn)→Kp p r H H'→b9 K a.Net H' p r (q.put v)→Q x H')) (_:(look (VG l bk)=B'→∀ dx H',ae H H'→H' dx=i' (.xd [("number",.int 0)])→E (.ref a.NoLine) (i' dx) H'))
theorem M8 (T:Tx K mg a) (Z:KD P w K a.LINES (ia a)):Vz P w K mg base (Wa P w) 7 "put_line" ["net","line"] [] (Pl K a):=T.Qkq.Vq fun f fd F=>by
 have eS:=Qj (P:=P) (w:=w) (base:=base) T
 have aU:=wC (P:=P) (w:=w) (base:=base) T
 have QcZ:=Qlz (P:=P) (w:=w) (base:=base) T
 have Qc0:=NB (P:=P) (w:=w) (base:=base) T
 refine F.Xm rE (fun vs H Q E h=>?_) (fun aw A outer s H vs Q E hr h=>?_)
 .obtain⟨p,r,v,l,rfl,_⟩:=h
  rfl
 .obtain⟨p,r,v,l,rfl,hl,N,WE,ik,er⟩:=h
  have wl:∀ x∈VG l bk,x.length≤1000:=fun x hx=>by have:=Fo x hx;lia
  have wc:(VG l bk).length≤1000:=by have:=PyProof.Rows.split_le l bk;lia
  have wp:=QmP l bk
  refine⟨_,(ak (aR (i:=2) rE.nd O (by first|exact UY rfl|exact UX O) (cW ZQ QaD Qdj BS (pv 1) (af aN ai)))
   (ak (aR (i:=3) rE.nd O (by first|exact UY rfl|exact UX O) (aF bb (pv 2) au (fun _ _=>O)))
   (ak (bo (jQ (LS (pv 3) (pQ rfl T.Qe7))) (av (mS cx aU (hr.mono (by decide)) rfl (af au ai))) bp)
   (ak (aR (i:=4) rE.nd O (by first|exact UY rfl|exact UX O) (Qn (pQ O T.Qe7) (pv 3) (fun _ _=>O)))
   (ak (aR (i:=5) rE.nd O (by first|exact UY rfl|exact UX O) (m5 nL (pv 2) (jL au) (jL (aX md au (aF eA (pv 4) au (fun _ _=>O))))))
   (ak (bo (a7 mX (bx fV rfl T.Wk dk (af (pv 5) ai)) (aF eA (pv 4) au (fun _ _=>O)) (aV _)) (av (mS cx aU (hr.mono (by decide)) rfl (af au ai))) bp)
   (ak (aR (i:=6) rE.nd O (by first|exact UY rfl|exact UX O) (rq eS cx (hr.mono (by decide)) rfl (af (m5 nL (pv 2) (jL (aX md au (aF eA (pv 4) au (fun _ _=>O)))) pL) (af (aF eA (pv 4) au (fun _ _=>O)) (af (aF eA (pv 4) au (fun _ _=>O)) ai)))))
   (ak (bo (a7 cw (pv 3) aN (aV _)) (av (aK (g8 (pv 0) T.VE QcZ cx (hr.mono (by decide)) (af (aF bb (pv 5) au (fun _ _=>O)) (af (aF bb (pv 6) au (fun _ _=>O)) ai))))) bp)
   (ak (bo (a7 cw (pv 3) aN (aV _)) (av (aK (g8 (pv 0) T.VE Qc0 cx (hr.mono (by decide)) (af (aF bb (pv 5) au (fun _ _=>O)) (af (aF bb (pv 5) au (fun _ _=>O)) (af (aF bb (pv 6) au (fun _ _=>O)) (af (aF bb (pv 6) au (fun _ _=>O)) ai))))))) bp)
   (ak (bo (a7 cw (pv 3) aN (aV _)) (av (aK mV)) bp)
   (av (aK mV)))))))))))),?_⟩
  refine⟨_,O,O,l,bk,O,O,O,by rw[Vm];lia,fun wd ow=>?_⟩
  generalize VG l bk=ws at wl wc wp er ik ow ⊢
  cases ws with
  | nil=>exact U' wp (by decide)
  | cons kd r0=>
  have s1:ae H (upd H wd (.lst ((kd::r0).map V.str))):=ae.new ow
  have h1:upd H wd (.lst ((kd::r0).map V.str)) wd=i' (.lst ((kd::r0).map V.str)):=ah
  generalize upd H wd (.lst ((kd::r0).map V.str))=H1 at s1 h1 ⊢
  have bad:look (kd::r0)=B'→∀ G,ae H1 G→∀ H' dx,ae G H'→H' dx=i' (.xd [("number",.int 0)])→E (.ref a.NoLine) (i' dx) H':=fun e G sg H' dx s2 hd=>er e dx H' (s1.trans (sg.trans s2)) hd
  refine⟨_,O,wd,_,_,.str kd,O,O,P'.of h1,lX (i:=0) O,?_⟩
  refine⟨_,O,a.LINES,ia a,U7 kd,O,Z,O,_,O,?_⟩
  cases hf:pO kd with
  | none=>
   rw[OF hf]
   refine cY (lQ (bad ?_ H1 (ae.refl _)))
   unfold look
   dsimp only
   rw[hf]
  | some fm=>
  obtain⟨nn,nd,VF⟩:=fm
  obtain⟨t,t2,L⟩:=QI T hf
  have b1:=L.b1
  have b4:=L.b4
  rw[L.val]
  refine bc (fun c=>U' c Bool.false_ne_true) (fun _=>?_)
  refine⟨_,O,a.LINES,ia a,U7 kd,_,O,Z,O,L.val,?_⟩
  have a0:V1 [V.int (nn:Int),.int (nd:Int),.ref t2] 0=i' (.int (nn:Int)):=rfl
  have a1:V1 [V.int (nn:Int),.int (nd:Int),.ref t2] 1=i' (.int (nd:Int)):=rfl
  have a2:V1 [V.int (nn:Int),.int (nd:Int),.ref t2] 2=i' (.ref t2):=rfl
  refine⟨_,O,_,O,_,O,t,_,_,_,O,O,L.q1 _,a0,_,_,O,O,_,O,wd,_,O,P'.of h1,fun nm Kj=>?_⟩
  dsimp only
  have ec:du ((kd::r0).map V.str) (i' 1) (i' (1+(nn:Int)))=(r0.take nn).map V.str:=by
   rw[Zp,Nc,QdT]
  rw[ec]
  have s2:ae H1 (upd H1 nm (.lst ((r0.take nn).map V.str))):=ae.new Kj
  have h2:upd H1 nm (.lst ((r0.take nn).map V.str)) nm=i' (.lst ((r0.take nn).map V.str)):=ah
  generalize upd H1 nm (.lst ((r0.take nn).map V.str))=H2 at s2 h2 ⊢
  refine⟨_,O,nm,_,O,.inl (P'.of h2),_,O,t,_,_,_,O,O,L.q1 _,a0,_,_,O,O,_,O,?_⟩
  refine bc (fun c=>?_) (fun c=>?_)
  .have c:=of_decide_eq_true c
   rw[U1,VJ] at c
   refine lQ (bad ?_ H2 s2)
   unfold look
   dsimp only
   rw[hf]
   dsimp only
   rw[U3 (by lia)]
  have c:=of_decide_eq_false c
  rw[U1,VJ] at c
  have c0:¬ r0.length<nn:=by lia
  refine⟨_,O,_,O,t,_,_,_,O,O,L.q1 _,a0,_,_,O,O,_,O,wd,_,O,P'.of (s2 _ _ h1),fun q nq=>?_⟩
  dsimp only
  have ed:du ((kd::r0).map V.str) (i' (1+(nn:Int))) B'=(r0.drop nn).map V.str:=by
   rw[show(1:Int)+(nn:Int)=((1+nn:Nat):Int) by lia,Ap,Qhn 1,Zp,List.drop_succ_cons,QdU]
  rw[ed]
  have s3:ae H2 (upd H2 q (.lst ((r0.drop nn).map V.str))):=ae.new nq
  have h3:upd H2 q (.lst ((r0.drop nn).map V.str)) q=i' (.lst ((r0.drop nn).map V.str)):=ah
  generalize upd H2 q (.lst ((r0.drop nn).map V.str))=H3 at s3 h3 ⊢
  have C4:=s2.trans s3
  rw[WV] at wc
  refine⟨_,O,t,_,_,_,O,O,L.q1 _,a1,_,O,t,_,_,_,O,O,L.q1 _,a2,q,r0.drop nn,nd,t2,VF,O,h3,fun n hn=>wl n (Xp _ (List.mem_of_mem_drop hn)),L.q2 _,by rw[ZW];lia,by lia,fun ok nu H4 s4 Rv vG=>?_,fun ok H' dx s4 zV=>?_⟩
  rotate_left
  .refine bad ?_ H3 C4 H' dx s4 zV
   unfold look
   dsimp only
   rw[hf]
   dsimp only
   rw[U4 c0,U4 (by rw[ok];decide)]
  have xl:=QL ok
  have lk:look (kd::r0)=i' ⟨kd,r0.take nn,(r0.drop nn).map nv++VF.drop ((r0.drop nn).length-nd)⟩:=by
   unfold look
   dsimp only
   rw[hf]
   dsimp only
   rw[U4 c0,U3 ok]
  have nl:(r0.take nn).length=nn:=by rw[VJ];lia
  have mG:∀ x∈r0.take nn,x.length≤1000:=fun x hx=>wl x (Xp _ (List.mem_of_mem_take hx))
  generalize (r0.drop nn).map nv++VF.drop ((r0.drop nn).length-nd)=xs at xl lk vG
  generalize r0.take nn=ns at nl lk h2 mG
  have C7:=s1.trans (C4.trans s4)
  have N4:=N.same C7
  obtain⟨dx,vS⟩:=N4.ex
  have oR:=(s3.trans s4) _ _ h2
  have kp:∀ {H5:Hp},Kp p r H4 H5→Kp p r H H5:=fun k5=>(Kp.of C7).trans k5
  have no:∀ {x y:C'},x≠y→decide (V.str x=V.str y)=M':=fun h=>decide_eq_false (fun z=>h (by injection z))
  have tD:∀ q:Rd,look (kd::r0)=i' q→q.err v=B'→∀ x H5,(x=.U8∨x=.int v.nn)→Kp p r H4 H5→b9 K a.Net H5 p r (q.put v)→Q x H5:=fun q hq he x H5 hx k5 N5=>(ik q hq).2.2 x H5 hx (kp k5) N5
  have mO:∀ q:Rd,look (kd::r0)=i' q→∀ e,q.err v=i' e→∀ H5,ae H4 H5→uL a E e H5:=fun q hq e he=>by
   rw[(ik q hq).2.1] at he
   cases he
  have ni:∀ {i:Nat},i<nn→(ns.map V.str)[i]?=i' (.str (ns.getD i VT)):=fun h=>by rw[WJ,Am (d:=VT) (by lia)];rfl
  have xi:∀ {i:Nat},i<nd+VF.length→(xs.map V.int)[i]?=i' (.int (xs.getD i 0)):=fun h=>by rw[WJ,Am (d:=(0:Int)) (by lia)];rfl
  have Rk:=lk
  unfold pO at hf
  split at hf
  .rename_i ek
   cases hf
   have E0:(Rd.mk kd ns xs).err v=jm v.kvs (ns.getD 0 VT) (xs.getD 0 0):=U3 ek
   have P0:(Rd.mk kd ns xs).put v={v with kvs:=v.kvs++[(U7 (ns.getD 0 VT),.int (xs.getD 0 0))]}:=U3 ek
   refine⟨_,O,O,_,O,fW (decide_eq_true (WS V.str ek)) ?_⟩
   refine⟨_,O,p,dx,_,O,vS,by rfl,_,O,nm,_,_,.str _,O,O,P'.of oR,lX (i:=0) (ni (by decide)),_,O,nu,_,_,.int _,O,O,P'.of vG,lX (i:=0) (xi (by decide)),p,r,v,_,_,O,?_,N4,WE.k,(fun e he=>mO _ lk e (E0.trans he)),fun he H5 k5 N5=>tD _ lk (E0.trans he) _ H5 (.inl O) k5 (by rw[P0];exact N5)⟩
   refine mG _ ?_
   exact V9 (Am (d:=VT) (i:=0) (by lia))
  rename_i k1
  refine⟨_,O,O,_,O,cI (no k1) ?_⟩
  split at hf
  .rename_i ek
   cases hf
   have E0:(Rd.mk kd ns xs).err v=kI v (ns.getD 0 VT) (ns.getD 1 VT) (xs.getD 0 0) (xs.getD 1 0):=(U4 k1).trans (U3 ek)
   have P0:(Rd.mk kd ns xs).put v={v with arr:=v.arr++[⟨v.nn,ns.getD 0 VT,ns.getD 1 VT,xs.getD 0 0,xs.getD 1 0⟩],nn:=v.nn+1}:=(U4 k1).trans (U3 ek)
   refine⟨_,O,O,_,O,fW (decide_eq_true (WS V.str ek)) ?_⟩
   exact⟨_,O,p,dx,_,O,vS,by rfl,_,O,nm,_,_,.str _,O,O,P'.of oR,lX (i:=0) (ni (by decide)),_,O,nm,_,_,.str _,O,O,P'.of oR,lX (i:=1) (ni (by decide)),_,O,nu,_,_,.int _,O,O,P'.of vG,lX (i:=0) (xi (by decide)),_,O,nu,_,_,.int _,O,O,P'.of vG,lX (i:=1) (xi (by decide)),p,r,v,_,_,_,_,O,N4,WE.a,WE.n,(fun he H5 k5 N5=>tD _ lk (E0.trans he) _ H5 (.inr O) k5 (by rw[P0];exact N5)),fun e he=>mO _ lk e (E0.trans he)⟩
  rename_i k2
  rcases(ik _ lk).1 with e|e
  .exact U' e k1
  .exact U' e k2
end
abbrev nA:C':=Vb "a"
abbrev nB:C':=Vb "b"
def qV:cv:={Yr with kvs:=[(U7 nA,.int 0)]}
def jT:cv:={Yr with kvs:=[(U7 nA,.int 0),(U7 nB,.int 4)]}
def pK:cv:={jT with arr:=[⟨0,nA,nB,2,7⟩],nn:=1}
def bA:cv:={jT with arr:=[⟨0,nA,nB,2,7⟩,⟨1,nB,nA,1,1⟩],nn:=2}
def X5 (n:Int):Prop:=0≤n∧n<10000000
theorem la {x:C'}{m n:Nat} (h1:x.length≤m) (h2:y.length≤n):(x++y).length≤m+n:=by
 rw[Qa9]
 lia
theorem ls {x:C'}{m:Nat} (h:x.length≤m) (hm:m≤1000):x.length≤U2:=by
 rw[Vm]
 lia
theorem pP (h:X5 n):n.natAbs.log2<1920:=by
 obtain⟨h0,h1⟩:=h
 by_cases z:n.natAbs=0
 .rw[z]
  decide
 .have:n.natAbs.log2<24:=(Qhw z).mpr (by show n.natAbs<16777216;lia)
  lia
theorem ZO (h:X5 n):(tn n).length≤7:=(QlI h.1 h.2).2
theorem c10:(Vb "point ").length≤6∧(Vb "arrow ").length≤6∧bk.length≤1∧VT.length≤0:=by decide
def pT (n:C') (h:Int):C':=if h=0 then VT++Vb "point "++n else VT++Vb "point "++n++bk++tn h
def aT (o t:C') (s w:Int):C':=if w≠1 then VT++Vb "arrow "++o++bk++t++bk++tn s++bk++tn w else if s≠1 then VT++Vb "arrow "++o++bk++t++bk++tn s else VT++Vb "arrow "++o++bk++t
def fc:List C':=[pT nA 0,pT nB 4,aT nA nB 2 7,aT nB nA 1 1]
def Qda:C':=YZ nl fc
theorem GM {K:R'}{H:Hp}:∀ {ds:List Dt}{ys:List V},a8 K H ds ys→ds.length=ys.length
 | [],_,h=>by rw[show _=[] from h];rfl
 | d::ds,_,h=>by
  obtain⟨x,xs,rfl,h1,h2⟩:=h
  rw[WV,WV,GM h2]
theorem QlP {K:R'}{q:Ar} (h:VW K H (Xc q) x):∃ t,x=.ref t∧Vi K H t [.int q.num,.str q.one,.str q.other,.int q.span,.int q.weight]:=by
 obtain⟨t,xs,rfl,h1,y1,vM,rfl,rfl,y2,ue,rfl,rfl,y3,v0,rfl,rfl,y4,yM,rfl,rfl,y5,Ad,rfl,rfl,h2⟩:=h
 rw[show Ad=[] from h2] at h1
 exact⟨t,O,h1⟩
theorem QbH:aS jT.kvs (U7 nA)=i' (.int 0)∧aS jT.kvs (U7 nB)=i' (.int 4):=⟨dr O,(cf (fun z=>U' (XW z) (by decide))).trans (dr rfl)⟩
section
variable {K:R'}
inductive Qz (vs:List V) (H:Hp) (Q:VK) (bg:XK):Prop
 | mk (n h:_) (_:vs=[.str n,.int h]) (_:n.length≤8) (_:X5 h) (_:Q (.str (pT n h)) H)
theorem N8 (T:Tx K mg a):Vz P w K mg base Vp 1 "point_line" ["name","half"] [] Qz:=T.Qkr.Vq fun f fd F=>by
 refine F.ok MS (fun vs H Q E h=>?_) (fun aw A outer s H vs Q E hr h=>?_)
 .obtain⟨n,h,rfl,_⟩:=h
  rfl
 .obtain⟨n,h,rfl,n8,hh,k⟩:=h
  obtain⟨p6,a6,b1,e0⟩:=c10
  have l1:=la e0 p6
  have l2:=la l1 n8
  unfold pT at k
  refine⟨_,(ak (bo (a7 cw (pv 1) au (aV _)) (av (aK (m4 (bG aN (bG (jk (pv 0)) nO))))) bp)
   (av (aK (m4 (bG aN (bG (jk (pv 0)) (bG aN (bG (qR (pv 1)) nO)))))))),?_⟩
  refine⟨_,O,O,_,O,?_⟩
  refine bc (fun c=>?_) (fun c=>?_)
  .have e:h=0:=by simpa using c
   rw[U3 e] at k
   exact⟨_,O,ls l1 (by decide),_,O,n,O,ls n8 (by decide),_,O,ls l2 (by decide),ls l2 (by decide),k⟩
  .have e:¬ h=0:=by simpa using c
   rw[U4 e] at k
   have l3:=la l2 b1
   have l4:=la l3 (ZO hh)
   exact⟨_,O,ls l1 (by decide),_,O,n,O,ls n8 (by decide),_,O,ls l2 (by decide),_,O,ls l3 (by decide),_,O,h,O,pP hh,_,O,ls l4 (by decide),ls l4 (by decide),k⟩
inductive NM (vs:List V) (H:Hp) (Q:VK) (bg:XK):Prop
 | mk (o t s w:_) (_:vs=[.str o,.str t,.int s,.int w]) (_:o.length≤8) (_:t.length≤8) (_:X5 s) (_:X5 w) (_:Q (.str (aT o t s w)) H)
theorem Qb (T:Tx K mg a):Vz P w K mg base Vp 1 "arrow_line" ["one","other","span","weight"] [] NM:=T.Qks.Vq fun f fd F=>by
 refine F.ok MZ (fun vs H Q E h=>?_) (fun aw A outer s H vs Q E hr h=>?_)
 .obtain⟨o,t,s,w,rfl,_⟩:=h
  rfl
 .obtain⟨o,t,sp,wt,rfl,o8,t8,hs,hw,k⟩:=h
  obtain⟨p6,a6,b1,e0⟩:=c10
  have l1:=la e0 a6
  have l2:=la l1 o8
  have l3:=la l2 b1
  have l4:=la l3 t8
  have l5:=la l4 b1
  have l6:=la l5 (ZO hs)
  have l7:=la l6 b1
  have l8:=la l7 (ZO hw)
  unfold aT at k
  refine⟨_,(ak (bo (a7 wQ (pv 3) au (aV _)) (av (aK (m4 (bG aN (bG (jk (pv 0)) (bG aN (bG (jk (pv 1)) (bG aN (bG (qR (pv 2)) (bG aN (bG (qR (pv 3)) nO))))))))))) bp)
   (ak (bo (a7 wQ (pv 2) au (aV _)) (av (aK (m4 (bG aN (bG (jk (pv 0)) (bG aN (bG (jk (pv 1)) (bG aN (bG (qR (pv 2)) nO))))))))) bp)
   (av (aK (m4 (bG aN (bG (jk (pv 0)) (bG aN (bG (jk (pv 1)) nO))))))))),?_⟩
  refine⟨_,O,O,_,O,?_⟩
  refine bc (fun c=>?_) (fun c=>?_)
  .have e:wt≠1:=by simpa using c
   rw[U3 e] at k
   exact⟨_,O,ls l1 (by decide),_,O,o,O,ls o8 (by decide),_,O,ls l2 (by decide),_,O,ls l3 (by decide),_,O,t,O,ls t8 (by decide),_,O,ls l4 (by decide),_,O,ls l5 (by decide),_,O,sp,O,pP hs,_,O,ls l6 (by decide),_,O,ls l7 (by decide),_,O,wt,O,pP hw,_,O,ls l8 (by decide),ls l8 (by decide),k⟩
  .have e:¬ wt≠1:=by simpa using c
   rw[U4 e] at k
   refine⟨_,O,O,_,O,?_⟩
   refine bc (fun c2=>?_) (fun c2=>?_)
   .have e2:sp≠1:=by simpa using c2
    rw[U3 e2] at k
    exact⟨_,O,ls l1 (by decide),_,O,o,O,ls o8 (by decide),_,O,ls l2 (by decide),_,O,ls l3 (by decide),_,O,t,O,ls t8 (by decide),_,O,ls l4 (by decide),_,O,ls l5 (by decide),_,O,sp,O,pP hs,_,O,ls l6 (by decide),ls l6 (by decide),k⟩
   .have e2:¬ sp≠1:=by simpa using c2
    rw[U4 e2] at k
    exact⟨_,O,ls l1 (by decide),_,O,o,O,ls o8 (by decide),_,O,ls l2 (by decide),_,O,ls l3 (by decide),_,O,t,O,ls t8 (by decide),_,O,ls l4 (by decide),ls l4 (by decide),k⟩
inductive Ou (K:R') (a:VS) (vs:List V) (H:Hp) (Q:VK) (E:XK):Prop
 | mk (p r v n x:_) (_:vs=[.ref p,.str n]) (_:b9 K a.Net H p r v) (_:aS v.kvs (U7 n)=i' x) (_:∀ H',ae H H'→Q x H')
theorem OP (T:Tx K mg a):eW P w K mg base (Wa P w) 4 a.Net "half_of" ["self","name"] [] (Ou K a):=T.Qc1.Vq fun f fd F=>by
 have Qal:=Gs (P:=P) (w:=w) (base:=base) T
 refine F.Xm Pz (fun vs H Q E h=>?_) (fun aw A outer s H vs Q E hr h=>?_)
 .obtain⟨p,r,v,n,x,rfl,_⟩:=h
  rfl
 .obtain⟨p,r,v,n,x,rfl,N,hv,k⟩:=h
  obtain⟨dx,hp⟩:=N.ex
  have hh:has v.kvs n=D':=by unfold has;rw[hv];rfl
  refine⟨_,(ak (cF (g8 (pv 0) T.VE Qal cx (hr.mono (by decide)) (af (pv 1) ai)))
   (av (aK (dU (bw hr) (bf (pv 0) rfl) (pv 1) (fun _ _=>O))))),?_⟩
  refine⟨_,O,p,dx,_,O,hp,by rfl,_,O,p,r,v,n,O,N,fun _ H1 s1=>?_,fun c=>U' c (by rw[hh];decide)⟩
  have N1:=N.same s1
  obtain⟨J7,bX⟩:=N1.ex
  exact⟨_,O,p,a.Net,J7,_,_,O,bX,T.VE,T.Qak,uo,_,O,r.dh,x,O,by rw[← hv];exact bS.k (k:=U7 n) N1.hh,k H1 s1⟩
inductive Ly (K:R') (a:VS) (vs:List V) (H:Hp) (Q:VK) (bg:XK):Prop
 | mk (p r:_) (_:vs=[.ref p]) (_:b9 K a.Net H p r bA) (_:∀ H',ae H H'→Q (.str Qda) H')
theorem NZ (T:Tx K mg a):Vz P w K mg base Vp 6 "net_text" ["net"] [] (Ly K a):=T.Qkt.Vq fun f fd F=>by
 have eE:=N8 (P:=P) (w:=w) (base:=base) T
 have eG:=Qb (P:=P) (w:=w) (base:=base) T
 have Qc1:=OP (P:=P) (w:=w) (base:=base) T
 have Xy:=rB (P:=P) (w:=w) (base:=base) T
 have YL:=xz (P:=P) (w:=w) (base:=base) T
 have QaX:=ES (P:=P) (w:=w) (base:=base) T
 have QaY:=Hl (P:=P) (w:=w) (base:=base) T
 refine F.ok Gu (fun vs H Q E h=>?_) (fun aw A outer s H vs Q E hr h=>?_)
 .obtain⟨p,r,rfl,_⟩:=h
  rfl
 .obtain⟨p,r,rfl,N,k⟩:=h
  obtain⟨dx,hp⟩:=N.ex
  refine⟨_,(ak (rD (i:=1) Gu.nd O O (N:=["name","net"]) (cap:=[B',i' 0]) O (bN (osc:=ay qY) (XN:=["net","lines"]) O O (by decide +kernel)) (bF (iB (pv 0) T.VE Xy (hr.mono (by decide)))) (fun cl C s H fp aa=>(aC (i:=0) (show(["name","net"]:List C').Nodup by decide +kernel) rfl (by first|exact UY rfl|exact UX O))) (fun cl C s H fp aa=>cH) (fun cl C s H fp aa=>(br eE (hr.mono (by decide)) rfl (af (pv 0) (af (g8 (pv 1) T.VE Qc1 rC (hr.mono (by decide)) (af (pv 0) ai)) ai)))) (hsw:=O))
   (ak (cF (cW WU Qbe QbR xB (pv 1) (af (cN (N:=["number","one","other","span","weight"]) (cap:=[B',B',B',B',B']) O (bN (osc:=ay qY) (XN:=["net","lines"]) O O (by decide +kernel)) (bF (iB (pv 0) T.VE YL (hr.mono (by decide)))) (fun cl C s H fp aa=>(jf (K:=K) (n:=5) O O (aP (aC (i:=0) (show(["number","one","other","span","weight"]:List C').Nodup by decide +kernel) rfl (by first|exact UY rfl|exact UX O)) (aP (aC (i:=1) (show(["number","one","other","span","weight"]:List C').Nodup by decide +kernel) rfl (by first|exact UY rfl|exact UX O)) (aP (aC (i:=2) (show(["number","one","other","span","weight"]:List C').Nodup by decide +kernel) rfl (by first|exact UY rfl|exact UX O)) (aP (aC (i:=3) (show(["number","one","other","span","weight"]:List C').Nodup by decide +kernel) rfl (by first|exact UY rfl|exact UX O)) (aP (aC (i:=4) (show(["number","one","other","span","weight"]:List C').Nodup by decide +kernel) rfl (by first|exact UY rfl|exact UX O)) cV))))))) (fun cl C s H fp aa=>cH) (fun cl C s H fp aa=>(br eG (hr.mono (by decide)) rfl (af (pv 1) (af (pv 2) (af (pv 3) (af (pv 4) ai))))))) ai)))
   (ak (cF (cW WU Qbe QbR xB (pv 1) (af (cN (N:=["one","other"]) (cap:=[B',B']) O (bN (osc:=ay qY) (XN:=["net","lines"]) O O (by decide +kernel)) (bF (iB (pv 0) T.VE QaX (hr.mono (by decide)))) (fun cl C s H fp aa=>(jf (K:=K) (n:=2) O O (aP (aC (i:=0) (show(["one","other"]:List C').Nodup by decide +kernel) rfl (by first|exact UY rfl|exact UX O)) (aP (aC (i:=1) (show(["one","other"]:List C').Nodup by decide +kernel) rfl (by first|exact UY rfl|exact UX O)) cV)))) (fun cl C s H fp aa=>cH) (fun cl C s H fp aa=>(m4 (bG aN (bG (jk (pv 0)) (bG aN (bG (jk (pv 1)) nO))))))) ai)))
   (ak (cF (cW WU Qbe QbR xB (pv 1) (af (cN (N:=["one","other","number"]) (cap:=[B',B',B']) O (bN (osc:=ay qY) (XN:=["net","lines"]) O O (by decide +kernel)) (bF (iB (pv 0) T.VE QaY (hr.mono (by decide)))) (fun cl C s H fp aa=>(jf (K:=K) (n:=3) O O (aP (aC (i:=0) (show(["one","other","number"]:List C').Nodup by decide +kernel) rfl (by first|exact UY rfl|exact UX O)) (aP (aC (i:=1) (show(["one","other","number"]:List C').Nodup by decide +kernel) rfl (by first|exact UY rfl|exact UX O)) (aP (aC (i:=2) (show(["one","other","number"]:List C').Nodup by decide +kernel) rfl (by first|exact UY rfl|exact UX O)) cV))))) (fun cl C s H fp aa=>cH) (fun cl C s H fp aa=>(m4 (bG aN (bG (jk (pv 0)) (bG aN (bG (jk (pv 1)) (bG aN (bG (qR (pv 2)) nO))))))))) ai)))
   (av (aK (cW ZQ QbY QbW wP aN (af (pv 1) ai)))))))),?_⟩
  refine⟨_,O,p,dx,_,O,hp,by rfl,p,r,_,O,N,fun l z9=>?_⟩
  have s1:ae H (upd H l (.lst (VM bA.kvs))):=ae.new z9
  have h1:upd H l (.lst (VM bA.kvs)) l=i' (.lst ([nA,nB].map V.str)):=ah
  generalize upd H l (.lst (VM bA.kvs))=H1 at s1 h1 ⊢
  refine⟨l,O,⟨_,P'.of h1⟩,fun D hD=>?_⟩
  refine dv (K:=K) (a:=l) (xs:=[nA,nB].map V.str) (fun j τ G=>∃ v1,τ=[v1,i' (.ref p)]∧ae H1 G∧G D=i' (.lst ((fc.take j).map V.str))) ⟨B',rfl,ae.new hD,ah⟩ ?_ ?_ ?_
  .rintro j τ G _ ⟨_,rfl,sg,_⟩
   exact P'.of (sg _ _ h1)
  .rintro j y τ G hy ⟨v1,rfl,sg,hG⟩
   have NG:=N.same (s1.trans sg)
   obtain⟨bW,Jy⟩:=NG.ex
   obtain⟨n,z,rfl,n8,hz,hv,he⟩:∃ n z,y=.str n∧n.length≤8∧X5 z∧aS bA.kvs (U7 n)=i' (.int z)∧(fc.take j).length≤2∧(fc.take j).map V.str++[.str (pT n z)]=(fc.take (j+1)).map V.str:=by
    match j,hy with
    | 0,hy=>cases hy;exact⟨nA,0,O,by decide,⟨by decide,by decide⟩,QbH.1,by decide,O⟩
    | 1,hy=>cases hy;exact⟨nB,4,O,by decide,⟨by decide,by decide⟩,QbH.2,by decide,O⟩
    | j+2,hy=>simp at hy
   dsimp only[bE,cX]
   rw[U3 rfl]
   refine⟨_,O,_,O,p,bW,_,O,Jy,by rfl,_,O,p,r,bA,n,.int z,O,NG,hv,fun G1 sr=>?_⟩
   refine⟨n,z,O,n8,hz,?_⟩
   refine⟨_,sr _ _ hG,by rw[U1,Vm];lia,_,O,cz hD (sg.trans sr),?_⟩
   rw[ah,he.2]
  rintro τ G ⟨v1,rfl,sg,hG⟩
  have hG:G D=i' (.lst ([pT nA 0,pT nB 4].map V.str)):=hG
  have sA:=s1.trans sg
  have nD:H D=B':=uY s1 hD
  have NA:=N.same sA
  obtain⟨Il,Jf⟩:=NA.ex
  refine⟨_,O,.inl ⟨O,_,P'.of hG⟩,_,O,p,Il,_,O,Jf,by rfl,p,r,_,O,NA,by decide,fun l2 H2 DA s2 n2 h2 d2 _=>?_⟩
  have Kk:DA.length=2:=(GM d2).symm
  refine⟨l2,O,⟨_,P'.of h2⟩,fun D2 dI=>?_⟩
  refine dv (K:=K) (a:=l2) (xs:=DA) (fun j τ G'=>∃ v1 v2 v3 v4 v5,τ=[v1,v2,v3,v4,v5]∧ae H2 G'∧G' D2=i' (.lst (([aT nA nB 2 7,aT nB nA 1 1].take j).map V.str))) ⟨B',B',B',B',B',rfl,ae.new dI,ah⟩ ?_ ?_ ?_
  .rintro j τ G' _ ⟨_,_,_,_,_,rfl,bV,_⟩
   exact P'.of (bV _ _ h2)
  .rintro j y τ G' hy ⟨v1,v2,v3,v4,v5,rfl,bV,fB⟩
   obtain⟨q,eq,dq⟩:=eX d2 hy
   obtain⟨t,rfl,ht⟩:=QlP dq
   obtain⟨q1,q2,q3,q4,he⟩:q.one.length≤8∧q.other.length≤8∧X5 q.span∧X5 q.weight∧([aT nA nB 2 7,aT nB nA 1 1].take j).length≤2∧([aT nA nB 2 7,aT nB nA 1 1].take j).map V.str++[.str (aT q.one q.other q.span q.weight)]=([aT nA nB 2 7,aT nB nA 1 1].take (j+1)).map V.str:=by
    match j,eq with
    | 0,eq=>cases eq;exact⟨by decide,by decide,⟨by decide,by decide⟩,⟨by decide,by decide⟩,by decide,O⟩
    | 1,eq=>cases eq;exact⟨by decide,by decide,⟨by decide,by decide⟩,⟨by decide,by decide⟩,by decide,O⟩
    | j+2,eq=>cases eq
   refine⟨t,_,O,(Tk.of bV).V7 ht,O,_,_,O,_,_,O,_,_,O,_,_,O,_,_,O,O,?_⟩
   dsimp only[bE,cX]
   rw[U3 rfl]
   refine⟨_,O,_,O,_,O,_,O,q.one,q.other,q.span,q.weight,O,q1,q2,q3,q4,?_⟩
   refine⟨_,fB,by rw[U1,Vm];lia,_,_,_,_,_,O,cz dI bV,?_⟩
   rw[ah,he.2]
  rintro τ G' ⟨v1,v2,v3,v4,v5,rfl,bV,fB⟩
  rw[Kk] at fB
  have fB:G' D2=i' (.lst ([aT nA nB 2 7,aT nB nA 1 1].map V.str)):=fB
  have sB:=s2.trans bV
  refine⟨D,D2,_,_,O,O,sB _ _ hG,fB,by show 4≤U2;decide,?_⟩
  have s3:ae H (upd G' D (.lst (fc.map V.str))):=cz nD (sA.trans sB)
  have h3:upd G' D (.lst (fc.map V.str)) D=i' (.lst (fc.map V.str)):=ah
  have e3:[pT nA 0,pT nB 4].map V.str++[aT nA nB 2 7,aT nB nA 1 1].map V.str=fc.map V.str:=rfl
  rw[e3]
  generalize upd G' D (.lst (fc.map V.str))=H3 at s3 h3 ⊢
  have N3:=N.same s3
  obtain⟨qv,vX⟩:=N3.ex
  refine⟨_,O,.inl ⟨O,_,P'.of h3⟩,_,O,p,qv,_,O,vX,by rfl,p,r,_,O,N3,by decide,fun l4 H4 Li s4 n4 h4 d4 _=>?_⟩
  obtain rfl:Li=[]:=d4
  refine⟨l4,O,⟨_,P'.of h4⟩,fun D4 Jb=>?_⟩
  refine dv (K:=K) (a:=l4) (xs:=[]) (fun j τ G'=>∃ v1 v2,τ=[v1,v2]∧ae H4 G'∧G' D4=i' (.lst [])) ⟨B',B',rfl,ae.new Jb,ah⟩ ?_ ?_ ?_
  .rintro j τ G' _ ⟨_,_,rfl,bV,_⟩
   exact P'.of (bV _ _ h4)
  .rintro j y τ G' hy _
   simp at hy
  rintro τ G4 ⟨v1,v2,rfl,rJ,JX⟩
  have sC:=s4.trans rJ
  refine⟨D,D4,_,_,O,O,sC _ _ h3,JX,by show 4≤U2;decide,?_⟩
  rw[Xq]
  have s5:ae H (upd G4 D (.lst (fc.map V.str))):=cz nD (s3.trans sC)
  have h5:upd G4 D (.lst (fc.map V.str)) D=i' (.lst (fc.map V.str)):=ah
  generalize upd G4 D (.lst (fc.map V.str))=H5 at s5 h5 ⊢
  have N5:=N.same s5
  obtain⟨sK,o4⟩:=N5.ex
  refine⟨_,O,.inl ⟨O,_,P'.of h5⟩,_,O,p,sK,_,O,o4,by rfl,p,r,_,O,N5,by decide,fun l6 H6 JS s6 n6 h6 d6 _=>?_⟩
  obtain rfl:JS=[]:=d6
  refine⟨l6,O,⟨_,P'.of h6⟩,fun D6 KC=>?_⟩
  refine dv (K:=K) (a:=l6) (xs:=[]) (fun j τ G'=>∃ v1 v2 v3,τ=[v1,v2,v3]∧ae H6 G'∧G' D6=i' (.lst [])) ⟨B',B',B',rfl,ae.new KC,ah⟩ ?_ ?_ ?_
  .rintro j τ G' _ ⟨_,_,_,rfl,bV,_⟩
   exact P'.of (bV _ _ h6)
  .rintro j y τ G' hy _
   simp at hy
  rintro τ G6 ⟨v1,v2,v3,rfl,vT,K9⟩
  have sD:=s6.trans vT
  refine⟨D,D6,_,_,O,O,sD _ _ h5,K9,by show 4≤U2;decide,?_⟩
  rw[Xq]
  have s7:ae H (upd G6 D (.lst (fc.map V.str))):=cz nD (s5.trans sD)
  have h7:upd G6 D (.lst (fc.map V.str)) D=i' (.lst (fc.map V.str)):=ah
  generalize upd G6 D (.lst (fc.map V.str))=H7 at s7 h7 ⊢
  exact⟨O,_,O,_,D,fc,O,O,P'.of h7,by decide +kernel,k _ s7⟩
end
theorem Qfi:VM bA.kvs=[nA,nB].map V.str:=rfl
theorem wn4:Wn [nA,nB] bA:=by
 refine⟨O,by decide,by decide,by decide,by decide,by decide,by decide,?_,(fun q hq=>by cases hq),fun q hq=>by cases hq⟩
 intro q hq
 rcases V5.mp hq with rfl|hq
 .exact⟨by decide,by decide⟩
 .rw[Vn.mp hq]
  exact⟨by decide,by decide⟩
theorem Mc (h:s≠t):¬ i5 [] s t:=by
 rintro⟨zs,p⟩
 cases p with
 | nil=>exact h rfl
 | snoc _ hq _=>cases hq
theorem GG:fX bA.arr=[1]:=by
 have e1:jg ([],[]) ⟨0,nA,nB,2,7⟩=([⟨0,nA,nB,2,7⟩],[]):=FG (Mc (by decide))
 have e2:jg ([⟨0,nA,nB,2,7⟩],[]) ⟨1,nB,nA,1,1⟩=([⟨0,nA,nB,2,7⟩],[1]):=FT ⟨_,lJ.snoc (q:=⟨0,nA,nB,2,7⟩) lJ.nil Xf O⟩
 show(jg (jg ([],[]) ⟨0,nA,nB,2,7⟩) ⟨1,nB,nA,1,1⟩).2=[1]
 rw[e1,e2]
theorem Gi:ji [nA,nB] bA=bH.map wI:=by
 unfold ji
 rw[GG]
 decide
def fe:Vl:=[(U7 nA,.int 0),(U7 nB,.int 2)]
theorem QbI:aS fe (U7 nA)=i' (.int 0)∧aS fe (U7 nB)=i' (.int 2):=⟨dr O,(cf (fun z=>U' (XW z) (by decide))).trans (dr rfl)⟩
theorem Pn:Bp fe [nA,nB] [0,2]:=by
 refine⟨O,fun i n e=>?_⟩
 match i,e with
 | 0,e=>cases e;exact⟨0,O,QbI.1⟩
 | 1,e=>cases e;exact⟨2,O,QbI.2⟩
 | i+2,e=>simp at e
theorem mk4:W' (([nA,nB].map U7).zip (([0,2]:List Int).map V.int))=fe:=by
 show bi (bi [] (U7 nA) (.int 0)) (U7 nB) (.int 2)=fe
 rw[uE (κ:=Key) (.int 0) (show aS [] (U7 nA)=B' from rfl)]
 have e2:aS ([]++[((U7 nA:Key),V.int 0)]) (U7 nB)=B':=(cf (p:=((U7 nA:Key),V.int 0)) (r:=[]) (fun z=>U' (XW z) (by decide))).trans rfl
 rw[uE (κ:=Key) (.int 2) e2]
 rfl
section
variable {K:R'}
inductive QlQ (K:R') (t:VS) (vs:List V) (H:Hp) (Q:VK) (bg:XK):Prop
 | mk (p r:_) (_:vs=[.ref p]) (_:b9 K t.Net H p r bA) (_:H t.YK=i' (.V' ko kH)) (_:∀ g d fA H',ae H H'→H' g=i' (.tup [.ref d,.ref fA])→H d=B'→H' d=i' (.dK fe)→Q (.ref g) H')
theorem QS (T:Tx K mg a):Vz P w K mg base (Wa P w) 8 "levelled" ["net"] [] (QlQ K a):=T.Qkn.Vq fun f fd F=>by
 have o6:=P7 (P:=P) (w:=w) (base:=base) T
 have bK:=Em (P:=P) (w:=w) (base:=base) T
 have Xy:=rB (P:=P) (w:=w) (base:=base) T
 refine F.Xm BI (fun vs H Q E h=>?_) (fun aw A outer s H vs Q E hr h=>?_)
 .obtain⟨p,r,rfl,_⟩:=h
  rfl
 .obtain⟨p,r,rfl,N,iM,k1⟩:=h
  obtain⟨dx,hp⟩:=N.ex
  refine⟨_,(ak (aR (i:=1) BI.nd O (by first|exact UY rfl|exact UX O) (iB (pv 0) T.VE Xy (hr.mono (by decide))))
   (ak (aR (i:=2) BI.nd O (by first|exact UY rfl|exact UX O) (rq o6 cx (hr.mono (by decide)) rfl (af (bx fV rfl T.Wk dk (af (pv 1) ai)) (af (br bK (hr.mono (by decide)) rfl (af (pv 0) ai)) ai))))
   (av (aK (fZ (af (NV rfl T.Qe9 rfl T.QbG (af (pv 1) (af (aF eA (pv 2) au (fun _ _=>O)) ai))) (af (aF eA (pv 2) au (fun _ _=>O)) ai))))))),?_⟩
  refine⟨_,O,p,dx,_,O,hp,by rfl,p,r,_,O,N,fun l nl=>?_⟩
  rw[Qfi]
  have s1:ae H (upd H l (.lst ([nA,nB].map V.str))):=ae.new nl
  have h1:upd H l (.lst ([nA,nB].map V.str)) l=i' (.lst ([nA,nB].map V.str)):=ah
  generalize upd H l (.lst ([nA,nB].map V.str))=H1 at s1 h1 ⊢
  refine⟨_,O,l,_,O,.inl (P'.of h1),_,O,p,r,_,[nA,nB],O,N.same s1,wn4,fun l2 ys H2 s2 vI bD cC _=>?_⟩
  rw[Gi] at cC
  have t2:=s1.trans s2
  refine⟨l2,O,⟨ys,P'.of bD,cC⟩,t2 _ _ iM,fun gt pA fA H3 s3 D7 JL=>?_⟩
  have JU:=s3 _ _ (s2 _ _ h1)
  refine⟨_,O,_,O,gt,_,_,_,O,O,Vi.of D7,O,l,pA,[nA,nB].map U7,([0,2]:List Int).map V.int,O,by rw[Qcn];exact P'.of JU,P'.of JL,by decide,by decide,fun d nd=>?_⟩
  rw[mk4]
  have s4:ae H3 (upd H3 d (.dK fe)):=ae.new nd
  have h4:upd H3 d (.dK fe) d=i' (.dK fe):=ah
  generalize upd H3 d (.dK fe)=H4 at s4 h4 ⊢
  refine⟨_,O,gt,_,_,_,O,O,Vi.of (s4 _ _ D7),O,(by show 2≤U2;decide),fun q nq=>?_⟩
  have s5:ae H4 (upd H4 q (.tup [.ref d,.ref fA])):=ae.new nq
  exact k1 q d fA _ (t2.trans (s3.trans (s4.trans s5))) ah (none_of (t2.trans s3) nd) (s5 _ _ h4)
end
def fY (n l:F'):List (C'×V):=[("net",.ref n),("levels",.ref l)]
theorem qB {n l:F'}:(fY n l).lookup ("net":C')=i' (.ref n):=WT
theorem FX {n l:F'}:(fY n l).lookup ("levels":C')=i' (.ref l):=(VC (by decide +kernel)).trans WT
theorem Of {n l l':F'}:aZ "levels" (.ref l') (fY n l)=fY n l':=by
 have h1:¬ (("net":C')="levels"):=by decide +kernel
 simp only[fY,aZ,h1,Wc,Xi]
structure dY (K:R') (a:VS) (H:Hp) (d p:F') (r:Rec) (v:cv) (lv:F') (kvs:Vl):Prop where
 ex:∃ dx,H d=i' (.ins a.Desk dx (fY p lv))
 net:b9 K a.Net H p r v
 lev:H lv=i' (.dK kvs)
 n1:lv≠r.dh
 n2:lv≠r.da
def Zf (d p:F') (r:Rec) (H H':Hp):Prop:=∀ b o,H b=i' o→b≠d→b≠p→b≠r.dh→b≠r.da→b≠r.ls→b≠r.lm→H' b=i' o
theorem dY.same {K:R'}{a:VS}{H H':Hp}{d p:F'}{r:Rec}{v:cv}{lv:F'}{kvs:Vl} (h:dY K a H d p r v lv kvs) (s:ae H H'):dY K a H' d p r v lv kvs:=by
 obtain⟨⟨dx,e⟩,n,l,n1,n2⟩:=h
 exact⟨⟨dx,s _ _ e⟩,n.same s,s _ _ l,n1,n2⟩
theorem dY.kp {K:R'}{r:Rec}{v v':cv}{kvs:Vl} (h:dY K a H d p r v lv kvs) (k:Kp p r H H') (n:b9 K a.Net H' p r v'):dY K a H' d p r v' lv kvs:=by
 obtain⟨⟨dx,e⟩,N,l,n1,n2⟩:=h
 obtain⟨⟨dp,e1⟩,e2,⟨bY,e3,_⟩,⟨xs,e4,_⟩,⟨ys,e5,_⟩,_⟩:=N
 refine⟨⟨dx,k d _ e (bQ e e1 (by intro z;injection z with _ _ z;cases z)) (bQ e e2 (by intro z;cases z)) (bQ e e3 (by intro z;cases z)) (bQ e e4 (by intro z;cases z)) (bQ e e5 (by intro z;cases z))⟩,n,k lv _ l (bQ l e1 (by intro z;cases z)) n1 n2 (bQ l e4 (by intro z;cases z)) (bQ l e5 (by intro z;cases z)),n1,n2⟩
section
variable {K:R'}
inductive Q0 (K:R') (a:VS) (vs:List V) (H:Hp) (Q:VK) (E:XK):Prop
 | mk (p r v l:_) (_:vs=[.ref p,.str l]) (_:l.length≤900) (_:b9 K a.Net H p r v) (_:Qa5 1000 v) (_:0≤v.nn) (_:v.nn≤1000) (_:(∀ q,look (VG l bk)=i' q→(q.k=WG∨q.k=WH)∧q.err v=B'∧∀ x H',Kp p r H H'→b9 K a.Net H' p r (q.put v)→Q x H')) (_:(look (VG l bk)=B'→∀ dx H',ae H H'→H' dx=i' (.xd [("number",.int 0)])→E (.ref a.NoLine) (i' dx) H'))
theorem O5 (T:Tx K mg a) (Z:KD P w K a.LINES (ia a)):Vz P w K mg base (Wa P w) 8 "put_text" ["net","line"] [] (Q0 K a):=T.Qkv.Vq fun f fd F=>by
 have gH:=M8 (P:=P) (w:=w) (base:=base) T Z
 refine F.Xm Fx (fun vs H Q E h=>?_) (fun aw A outer s H vs Q E hr h=>?_)
 .obtain⟨p,r,v,l,rfl,_⟩:=h
  rfl
 .obtain⟨p,r,v,l,rfl,hl,N,WE,n0,n1,k,er⟩:=h
  refine⟨_,(ak (aR (i:=2) Fx.nd O (by first|exact UY rfl|exact UX O) (rq gH cx (hr.mono (by decide)) rfl (af (pv 0) (af (pv 1) ai))))
   (av (aK (wv (jQ (Bv (pv 2))) aN (m4 (bG aN (bG (qR (pv 2)) nO))))))),?_⟩
  refine⟨_,O,_,O,p,r,v,l,O,hl,N,WE,fun q hq=>?_,er⟩
  obtain⟨k1,k2,k⟩:=k q hq
  refine⟨k1,k2,fun x H' hx kp N'=>?_⟩
  dsimp only[bE]
  rcases hx with rfl|rfl
  .exact⟨_,O,_,O,fW (decide_eq_true O) (k _ H' kp N')⟩
  .have B6:X5 v.nn:=⟨n0,by lia⟩
   have l1:(VT++Vb "arrow ").length≤6:=by decide +kernel
   have l2:=la l1 (ZO B6)
   exact⟨_,O,_,O,cI (decide_eq_false (by intro z;cases z)) ⟨_,rfl,ls l1 (by decide),_,O,v.nn,O,pP B6,_,O,ls l2 (by decide),ls l2 (by decide),k _ H' kp N'⟩⟩
def Qfj (ns:List Int):C':=YZ bk (ns.map tn)
inductive QlR (K:R') (vs:List V) (H:Hp) (Q:VK) (bg:XK):Prop
 | mk (l ns:_) (_:vs=[.ref l]) (_:H l=i' (.lst ((ns:List Int).map V.int))) (_:(∀ n∈ns,X5 n)) (_:ns.length≤100) (_:∀ H',ae H H'→Q (.str (Qfj ns)) H')
theorem FA (T:Tx K mg a):Vz P w K mg base Vp 1 "numbers_text" ["numbers"] [] (QlR K):=T.Qku.Vq fun f fd F=>by
 refine F.ok MK (fun vs H Q E h=>?_) (fun aw A outer s H vs Q E hr h=>?_)
 .obtain⟨l,ns,rfl,_⟩:=h
  rfl
 .obtain⟨l,ns,rfl,hl,ok,Ir,k⟩:=h
  refine⟨_,(av (aK (cW ZQ QbY QbW wP aN (af (cN (N:=["number"]) (cap:=[B']) O (bN (osc:=ay BK) (XN:=["numbers"]) O O (by decide +kernel)) (bF (pv 0)) (fun cl C s H fp aa=>(aC (i:=0) (show(["number"]:List C').Nodup by decide +kernel) rfl (by first|exact UY rfl|exact UX O))) (fun cl C s H fp aa=>cH) (fun cl C s H fp aa=>(jO w9 O T.Qa1 vd (af (pv 0) ai)))) ai)))),?_⟩
  refine⟨O,_,O,l,O,⟨_,P'.of hl⟩,fun D hD=>?_⟩
  refine dv (K:=K) (a:=l) (xs:=ns.map V.int) (fun j τ G=>∃ v1,τ=[v1]∧ae H G∧G D=i' (.lst (((ns.take j).map tn).map V.str))) ⟨B',rfl,ae.new hD,ah⟩ ?_ ?_ ?_
  .rintro j τ G _ ⟨_,rfl,sg,_⟩
   exact P'.of (sg _ _ hl)
  .rintro j y τ G hy ⟨v1,rfl,sg,hG⟩
   obtain⟨z,hz,rfl⟩:=pF hy
   have hj:j<ns.length:=(VI.mp hz).1
   dsimp only[bE,cX]
   rw[U3 rfl]
   refine⟨_,O,z,O,pP (ok z (V9 hz)),?_⟩
   refine⟨_,hG,by rw[U1,U1,VJ,Vm];lia,_,O,cz hD sg,?_⟩
   rw[ah,bB hz,Vr,Vr]
   rfl
  rintro τ G ⟨v1,rfl,sg,hG⟩
  rw[U1,We] at hG
  refine⟨bk,D,ns.map tn,O,O,P'.of hG,?_,k G sg⟩
  have:=AT (f:=fun s:C'=>s.length) (n:=7) (l:=ns.map tn) fun x hx=>by
   obtain⟨n,hn,rfl⟩:=W4.mp hx
   exact ZO (ok n hn)
  rw[U1] at this ⊢
  rw[show bk.length=1 from rfl]
  lia
def dS (kvs:Vl) (n:C'):List C':=match aS kvs (U7 n) with
 | some (.int z)=>[n++bk++tn z]
 | _=>[]
abbrev sep:C':=Vb "; "
def QbJ (kvs:Vl):C':=if ((YZ sep ([nA,nB].flatMap (dS kvs))).length:Int) != 0 then YZ sep ([nA,nB].flatMap (dS kvs)) else Vb "none"
def nI (kvs:Vl):Prop:=kvs=[]∨kvs=fe
theorem nI.at {kvs:Vl} (h:nI kvs):∀ n∈[nA,nB],aS kvs (U7 n)=B'∨∃ z,X5 z∧aS kvs (U7 n)=i' (.int z):=by
 intro n hn
 rcases h with rfl|rfl
 .exact .inl rfl
 .rcases V5.mp hn with rfl|hn
  .exact .inr ⟨0,⟨by decide,by decide⟩,QbI.1⟩
  .rw[Vn.mp hn]
   exact .inr ⟨2,⟨by decide,by decide⟩,QbI.2⟩
inductive QlS (K:R') (a:VS) (vs:List V) (H:Hp) (Q:VK) (bg:XK):Prop
 | mk (p r lv kvs:_) (_:vs=[.ref p,.ref lv]) (_:b9 K a.Net H p r bA) (_:H lv=i' (.dK kvs)) (_:nI kvs) (_:∀ H',ae H H'→Q (.str (QbJ kvs)) H')
theorem Ms (T:Tx K mg a):Vz P w K mg base Vp 2 "levels_text" ["net","levels"] [] (QlS K a):=T.Qkw.Vq fun f fd F=>by
 have Xy:=rB (P:=P) (w:=w) (base:=base) T
 refine F.ok FE (fun vs H Q E h=>?_) (fun aw A outer s H vs Q E hr h=>?_)
 .obtain⟨p,r,lv,kvs,rfl,_⟩:=h
  rfl
 .obtain⟨p,r,lv,kvs,rfl,N,hl,ok,k⟩:=h
  obtain⟨dx,hp⟩:=N.ex
  refine⟨_,(ak (rD (i:=2) FE.nd O O (N:=["name","levels"]) (cap:=[B',i' 1]) O (bN (osc:=ay AZ) (XN:=["net","levels","parts"]) O O (by decide +kernel)) (bF (iB (pv 0) T.VE Xy (hr.mono (by decide)))) (fun cl C s H fp aa=>(aC (i:=0) (show(["name","levels"]:List C').Nodup by decide +kernel) rfl (by first|exact UY rfl|exact UX O))) (fun cl C s H fp aa=>uM (jQ (BV (bw hr) (pv 0) (pv 1)))) (fun cl C s H fp aa=>(aX uP (aX uP (pv 0) aN) (jO w9 O T.Qa1 vd (af (dU (bw hr) (pv 1) (pv 0) (fun _ _=>O)) ai)))) (hsw:=O))
   (av (aK (Gk (cW ZQ QbY QbW wP aN (af (pv 2) ai)) (pD aN))))),?_⟩
  refine⟨_,O,p,dx,_,O,hp,by rfl,p,r,_,O,N,fun l z9=>?_⟩
  rw[Qfi]
  have s1:ae H (upd H l (.lst ([nA,nB].map V.str))):=ae.new z9
  have h1:upd H l (.lst ([nA,nB].map V.str)) l=i' (.lst ([nA,nB].map V.str)):=ah
  generalize upd H l (.lst ([nA,nB].map V.str))=H1 at s1 h1 ⊢
  have n8:∀ n∈[nA,nB],n.length≤1:=by decide
  have fl:∀ j,(([nA,nB].take j).flatMap (dS kvs)).length≤2:=fun j=>by
   have p1:∀ n,(dS kvs n).length≤1:=fun n=>by unfold dS;split;exact Xh _;exact Qhv _
   have:=p1 nA
   have:=p1 nB
   match j with
   | 0=>exact Qhv _
   | 1=>show((dS kvs nA)++[]).length≤2;rw[Xq];lia
   | j+2=>show((dS kvs nA)++((dS kvs nB)++(QhF j []).flatMap (dS kvs))).length≤2;rw[List.take_nil,WM,WM];show _+(_+0)≤2;lia
  refine⟨l,O,⟨_,P'.of h1⟩,fun D hD=>?_⟩
  refine dv (K:=K) (a:=l) (xs:=[nA,nB].map V.str) (fun j τ G=>∃ v1,τ=[v1,i' (.ref lv)]∧ae H1 G∧G D=i' (.lst ((([nA,nB].take j).flatMap (dS kvs)).map V.str))) ⟨B',rfl,ae.new hD,ah⟩ ?_ ?_ ?_
  .rintro j τ G _ ⟨_,rfl,sg,_⟩
   exact P'.of (sg _ _ h1)
  .rintro j y τ G hy ⟨v1,rfl,sg,hG⟩
   obtain⟨n,hn,rfl⟩:=uJ hy
   have mn:=V9 hn
   have tg:=s1.trans sg
   dsimp only[bE]
   refine⟨_,O,_,O,lv,_,O,bS.k (k:=U7 n) (tg _ _ hl),_,O,?_⟩
   rcases ok.at n mn with e|⟨z,hz,e⟩
   .rw[e]
    refine gC ⟨_,O,sg,?_⟩
    rw[hG,bB hn,Qdu,show[n].flatMap (dS kvs)=[] by show dS kvs n++[]=[];unfold dS;rw[e];rfl,Xq]
   .rw[e]
    have l1:=la (n8 n mn) (show bk.length≤1 by decide)
    have l2:=la l1 (ZO hz)
    refine cY ⟨_,O,_,_,O,O,by rw[← Qa9];exact ls l1 (by decide),_,O,_,O,lv,_,O,by rw[← e];exact bS.k (k:=U7 n) (tg _ _ hl),z,O,pP hz,_,_,O,O,by rw[← Qa9];exact ls l2 (by decide),?_⟩
    refine⟨_,hG,by rw[U1,Vm];have:=fl j;lia,_,O,cz hD sg,?_⟩
    rw[ah,bB hn,Qdu,Vr,show[n].flatMap (dS kvs)=[n++bk++tn z] by show dS kvs n++[]=_;unfold dS;rw[e];rfl]
    rfl
  rintro τ G ⟨v1,rfl,sg,hG⟩
  have hG:G D=i' (.lst (([nA,nB].flatMap (dS kvs)).map V.str)):=hG
  have k:=k G (s1.trans sg)
  have CK:([nA,nB].flatMap (dS kvs)).length≤2:=fl 2
  have pl:∀ x∈[nA,nB].flatMap (dS kvs),x.length≤9:=fun x hx=>by
   obtain⟨n,hn,hx⟩:=QdC.mp hx
   unfold dS at hx
   rcases ok.at n hn with e|⟨z,hz,e⟩
   .rw[e] at hx;cases hx
   .rw[e] at hx
    rw[Vn.mp hx]
    exact la (la (n8 n hn) (show bk.length≤1 by decide)) (ZO hz)
  unfold QbJ at k
  generalize [nA,nB].flatMap (dS kvs)=ps at hG k CK pl
  have sm:=AT (f:=fun s:C'=>s.length) (n:=9) (l:=ps) pl
  have e2:sep.length=2:=rfl
  have jl:(YZ sep ps).length≤100:=by
   match ps,CK,pl with
   | [],_,_=>decide
   | [x],_,pl=>have:=pl x Xf;show x.length≤100;lia
   | [x,y],_,pl=>
    have:=pl x Xf
    have:=pl y (Xp _ Xf)
    rw[show YZ sep [x,y]=x++sep++y from StrLaws.glued_eq_join _ _,Qa9,Qa9]
    lia
  refine⟨O,_,O,sep,D,ps,O,O,P'.of hG,by rw[e2];lia,_,⟨by rw[Vm];lia,O⟩,?_⟩
  refine bc (fun c=>?_) (fun c=>?_)
  .rw[U3 c] at k
   exact k
  .rw[U4 (by rw[c];decide)] at k
   exact k
end
theorem QlT:∀ q∈bA.arr,Small q.weight:=by
 intro q hq
 rcases V5.mp hq with rfl|hq
 .exact⟨by decide,by decide⟩
 .rw[Vn.mp hq]
  exact⟨by decide,by decide⟩
def Qfk:C':=Qfj [1]
def Qdb (kvs:Vl) (wd fJ:C'):Prop:=(wd=Vb "net"∧fJ=Qda)∨(wd=Vb "levels"∧fJ=QbJ kvs)∨(wd=Vb "turned"∧fJ=Qfk)
def jR:List C':=[Vb "turned",Vb "level",Vb "again",Vb "levels",Vb "cross",Vb "net"]
def Qa6 (x:C') (r:List C'):Bool:=match r with
 | [y]=>!eY y || (decide (x=Vb "draw") && !(decide (1≤nv y) && decide (nv y≤50)))
 | _=>D'
def iy:List C':=[Vb "drop",Vb "ring",Vb "draw"]
def qP (l:C'):Bool:=match VG l bk with
 | []=>M'
 | [_]=>!decide (l∈jR)
 | x::r=>if x∈iy then Qa6 x r else(look (x::r)).isNone
section
variable {K:R'}
inductive Oh (K:R') (a:VS) (vs:List V) (H:Hp) (Q:VK) (bg:XK):Prop
 | mk (d dx:_) (_:vs=[.ref d]) (_:H d=i' (.ins a.Desk dx [])) (_:∀ p r lv H',(∀ b o,H b=i' o→b≠d→H' b=i' o)→(∀ b o,H b=i' o→b≠p∧b≠r.dh∧b≠r.da∧b≠r.ls∧b≠r.lm)→dY K a H' d p r Yr lv []→Q .U8 H')
theorem NY (T:Tx K mg a):re P w K mg base Vp 3 a.Desk "Desk" ["self"] (Oh K a):=T.Qc3.Vq fun f fd F=>by
 have QcY:=MH (P:=P) (w:=w) (base:=base) T
 refine F.ok NW (fun vs H Q E h=>?_) (fun aw A outer s H vs Q E hr h=>?_)
 .obtain⟨d,dx,rfl,_⟩:=h
  rfl
 .obtain⟨d,dx,rfl,hd,k⟩:=h
  refine⟨_,(ak (fj (pv 0) (Ht QcY (hr.mono (by decide)) rfl) rfl)
   (av (fj (pv 0) mW rfl))),?_⟩
  refine fun x dn nx Kw Sb=>⟨x,dn,O,ah,fun r H2 fr fo N2=>⟨O,?_⟩⟩
  have e0:∀ b o,H b=i' o→upd (upd H dn (.own x)) x (.ins a.Net dn []) b=i' o:=fun b o e=>by rw[aj (ao e nx),aj (ao e Kw)];exact e
  have s2:ae H H2:=fun b o e=>fr b o (e0 b o e) (ao e nx)
  have ap:∀ b o,H b=i' o→b≠x∧b≠r.dh∧b≠r.da∧b≠r.ls∧b≠r.lm:=fun b o e=>⟨ao e nx,fo b o (e0 b o e)⟩
  have cC:=s2 _ _ hd
  refine⟨_,O,d,a.Desk,dx,[],O,cC,T.Wr,T.ZK,by decide,?_⟩
  obtain⟨ax,Dw,D0,CO,Ct⟩:=ap _ _ hd
  have N3:b9 K a.Net (upd H2 d (.ins a.Desk dx (aZ "net" (.ref x) []))) x r Yr:=by
   obtain⟨⟨dy,h1⟩,h2,⟨bY,h3,h4⟩,⟨xs,h5,h6⟩,⟨ys,h7,h8⟩,n1,n2⟩:=N2
   have tk:Tk H2 (upd H2 d (.ins a.Desk dx (aZ "net" (.ref x) []))):=Tk.upd cC rfl
   exact⟨⟨dy,by rw[aj (U5 ax)];exact h1⟩,by rw[aj (U5 Dw)];exact h2,⟨bY,by rw[aj (U5 D0)];exact h3,tk.arr h4⟩,⟨xs,by rw[aj (U5 CO)];exact h5,tk.Vs (cy (fun _=>O) _) h6⟩,⟨ys,by rw[aj (U5 Ct)];exact h7,tk.Vs (cy (fun _=>O) _) h8⟩,n1,n2⟩
  have q3:upd H2 d (.ins a.Desk dx (aZ "net" (.ref x) [])) d=i' (.ins a.Desk dx (aZ "net" (.ref x) [])):=ah
  have k3:∀ b o,H b=i' o→b≠d→upd H2 d (.ins a.Desk dx (aZ "net" (.ref x) [])) b=i' o:=fun b o e z=>by rw[aj z];exact s2 _ _ e
  generalize upd H2 d (.ins a.Desk dx (aZ "net" (.ref x) []))=H3 at N3 q3 k3 ⊢
  refine fun lv rH=>⟨_,O,d,a.Desk,dx,_,O,by rw[aj (ao q3 rH)];exact q3,T.Wr,T.QbB,by show 1<1000;decide,?_⟩
  have s4:ae H3 (upd H3 lv (.dK [])):=ae.new rH
  have h4:upd H3 lv (.dK []) lv=i' (.dK []):=ah
  have N4:=N3.same s4
  have q4:=s4 _ _ q3
  have CW:lv≠r.dh∧lv≠r.da:=by
   obtain⟨_,h2,⟨bY,h3,_⟩,_⟩:=N3
   exact⟨U5 (ao h2 rH),U5 (ao h3 rH)⟩
  have ld:lv≠d:=U5 (ao q3 rH)
  generalize upd H3 lv (.dK [])=H4 at s4 h4 N4 q4 ⊢
  have ef:aZ "levels" (.ref lv) (aZ "net" (.ref x) [])=fY x lv:=by
   have z:¬ (("net":C')="levels"):=by decide +kernel
   simp only[fY,aZ,z,Wc]
  show Q .U8 _
  rw[ef]
  have N5:b9 K a.Net (upd H4 d (.ins a.Desk dx (fY x lv))) x r Yr:=by
   obtain⟨⟨dy,h1⟩,h2,⟨bY,h3,h4⟩,⟨xs,h5,h6⟩,⟨ys,h7,h8⟩,n1,n2⟩:=N4
   have tk:Tk H4 (upd H4 d (.ins a.Desk dx (fY x lv))):=Tk.upd q4 rfl
   exact⟨⟨dy,by rw[aj (U5 ax)];exact h1⟩,by rw[aj (U5 Dw)];exact h2,⟨bY,by rw[aj (U5 D0)];exact h3,tk.arr h4⟩,⟨xs,by rw[aj (U5 CO)];exact h5,tk.Vs (cy (fun _=>O) _) h6⟩,⟨ys,by rw[aj (U5 Ct)];exact h7,tk.Vs (cy (fun _=>O) _) h8⟩,n1,n2⟩
  exact k x r lv _ (fun b o e z=>by rw[aj z];exact s4 _ _ (k3 b o e z)) ap ⟨⟨dx,ah⟩,N5,by rw[aj ld];exact h4,CW.1,CW.2⟩
inductive Qk (K:R') (a:VS) (vs:List V) (H:Hp) (Q:VK) (bg:XK):Prop
 | mk (d p r lv kvs g l2 fA:_) (_:vs=[.ref d,.ref g]) (_:dY K a H d p r bA lv kvs) (_:H g=i' (.tup [.ref l2,.ref fA])) (_:H l2=i' (.dK fe)) (_:l2≠r.dh) (_:l2≠r.da) (_:∀ x H',Zf d p r H H'→dY K a H' d p r bA l2 fe→Q x H')
theorem QlU:BR (ji [nA,nB] bA) [0,2]=16:=by
 rw[Gi]
 decide
theorem P9 (T:Tx K mg a):eW P w K mg base Vp 6 a.Desk "level_by" ["self","answer"] [] (Qk K a):=T.QbC.Vq fun f fd F=>by
 have jz:=Px (P:=P) (w:=w) (base:=base) T
 refine F.ok Mr (fun vs H Q E h=>?_) (fun aw A outer s H vs Q E hr h=>?_)
 .obtain⟨d,p,r,lv,kvs,g,l2,fA,rfl,_⟩:=h
  rfl
 .obtain⟨d,p,r,lv,kvs,g,l2,fA,rfl,D,hg,bD,n1,n2,k⟩:=h
  obtain⟨dx,hd⟩:=D.ex
  refine⟨_,(ak (fj (pv 0) (aF eA (pv 1) au (fun _ _=>O)) O)
   (av (aK (aX uP aN (jO w9 rfl T.Qa1 vd (af (br jz (hr.mono (by decide)) rfl (af (bf (pv 0) rfl) (af (bf (pv 0) rfl) ai))) ai)))))),?_⟩
  refine⟨_,O,g,_,_,_,O,O,Vi.of hg,O,_,O,d,a.Desk,dx,_,O,hd,T.Wr,T.QbB,(by show 2<1000;decide),?_⟩
  rw[Of]
  have kd:Zf d p r H (upd H d (.ins a.Desk dx (fY p l2))):=fun b o e z _ _ _ _ _=>by rw[aj z];exact e
  have q1:upd H d (.ins a.Desk dx (fY p l2)) d=i' (.ins a.Desk dx (fY p l2)):=ah
  have nU:upd H d (.ins a.Desk dx (fY p l2)) l2=i' (.dK fe):=by rw[aj (bQ bD hd (by intro z;cases z))];exact bD
  have N1:b9 K a.Net (upd H d (.ins a.Desk dx (fY p l2))) p r bA:=by
   obtain⟨⟨dy,h1⟩,h2,⟨bY,h3,h4⟩,⟨xs,h5,h6⟩,⟨ys,h7,h8⟩,m1,m2⟩:=D.net
   have tk:Tk H (upd H d (.ins a.Desk dx (fY p l2))):=Tk.upd hd rfl
   exact⟨⟨dy,by rw[aj (bQ h1 hd (by intro z;injection z with _ _ z;cases z))];exact h1⟩,by rw[aj (bQ h2 hd (by intro z;cases z))];exact h2,⟨bY,by rw[aj (bQ h3 hd (by intro z;cases z))];exact h3,tk.arr h4⟩,⟨xs,by rw[aj (bQ h5 hd (by intro z;cases z))];exact h5,tk.Vs (cy (fun _=>O) _) h6⟩,⟨ys,by rw[aj (bQ h7 hd (by intro z;cases z))];exact h7,tk.Vs (cy (fun _=>O) _) h8⟩,m1,m2⟩
  generalize upd H d (.ins a.Desk dx (fY p l2))=H1 at kd q1 nU N1 ⊢
  refine⟨_,O,d,a.Desk,dx,_,_,O,q1,T.Wr,T.ZK,qB,_,O,d,a.Desk,dx,_,_,O,q1,T.Wr,T.QbB,FX,p,r,bA,[nA,nB],l2,fe,[0,2],O,N1,wn4,QlT,nU,Pn,fun H2 s2=>?_⟩
  rw[QlU]
  exact⟨16,O,by decide,_,_,O,O,(by decide +kernel),k _ H2 (fun b o e z1 z2 z3 z4 z5 z6=>s2 _ _ (kd b o e z1 z2 z3 z4 z5 z6)) ⟨⟨dx,s2 _ _ q1⟩,N1.same s2,s2 _ _ nU,n1,n2⟩⟩
def YM (a:VS) (H:Hp) (E:XK):Prop:=∀ dx H',ae H H'→H' dx=i' (.xd [("number",.int 0)])→E (.ref a.NoLine) (i' dx) H'
theorem YM.same (h:YM a H E) (s:ae H H1):YM a H1 E:=fun dx H' s' hd=>h dx H' (s.trans s') hd
inductive PZ (K:R') (a:VS) (vs:List V) (H:Hp) (Q:VK) (E:XK):Prop
 | mk (d p r lv kvs wd:_) (_:vs=[.ref d,.str wd]) (_:dY K a H d p r bA lv kvs) (_:((wd=Vb "level"∧H a.YK=i' (.V' ko kH)∧∀ x l2 H',Zf d p r H H'→H l2=B'→dY K a H' d p r bA l2 fe→Q x H')∨(nI kvs∧∃ fJ,Qdb kvs wd fJ∧∀ H',ae H H'→Q (.str fJ) H')∨(wd∉jR∧YM a H E)))
theorem Pj (T:Tx K mg a):eW P w K mg base (Wa P w) 9 a.Desk "say_word" ["self","word"] [] (PZ K a):=T.Qc4.Vq fun f fd F=>by
 have gZ:=QS (P:=P) (w:=w) (base:=base) T
 have QbC:=P9 (P:=P) (w:=w) (base:=base) T
 have de:=FU (P:=P) (w:=w) (base:=base) T
 have bh:=FA (P:=P) (w:=w) (base:=base) T
 have dQ:=Ms (P:=P) (w:=w) (base:=base) T
 have gT:=NZ (P:=P) (w:=w) (base:=base) T
 have aU:=wC (P:=P) (w:=w) (base:=base) T
 refine F.Xm Ex (fun vs H Q E h=>?_) (fun aw A outer s H vs Q E hr h=>?_)
 .obtain⟨d,p,r,lv,kvs,wd,rfl,_⟩:=h
  rfl
 .obtain⟨d,p,r,lv,kvs,wd,rfl,D,h⟩:=h
  obtain⟨dx,hd⟩:=D.ex
  have no:∀ {x y:C'},x≠y→decide (V.str x=V.str y)=M':=fun h=>decide_eq_false (fun z=>h (by injection z))
  refine⟨_,(ak (bo (a7 cw (pv 1) aN (aV _)) (av (aK (Gk (br bh (hr.mono (by decide)) rfl (af (br de (hr.mono (by decide)) rfl (af (bf (pv 0) rfl) ai)) ai)) (pD aN)))) bp)
   (ak (bo (a7 cw (pv 1) aN (aV _)) (av (aK (pM (pv 0) T.Wr QbC (hr.mono (by decide)) (af (rq gZ cx (hr.mono (by decide)) rfl (af (bf (pv 0) rfl) ai)) ai)))) bp)
   (ak (bo (a7 cw (pv 1) aN (aV _)) (ak (aR (i:=2) Ex.nd O (by first|exact UY rfl|exact UX O) mV)
   (av (aK (aX uP (aX uP (pM (pv 0) T.Wr QbC (hr.mono (by decide)) (af (pv 2) ai)) aN) (jO w9 rfl T.Qa1 vd (af (aF eA (pv 2) au (fun _ _=>O)) ai)))))) bp)
   (ak (bo (a7 cw (pv 1) aN (aV _)) (av (aK (br dQ (hr.mono (by decide)) rfl (af (bf (pv 0) rfl) (af (bf (pv 0) rfl) ai))))) bp)
   (ak (bo (a7 cw (pv 1) aN (aV _)) (av (aK mV)) bp)
   (ak (bo (a7 cw (pv 1) aN (aV _)) (av (aK (br gT (hr.mono (by decide)) rfl (af (bf (pv 0) rfl) ai)))) bp)
   (av (mS cx aU (hr.mono (by decide)) rfl (af au ai))))))))),?_⟩
  rcases h with⟨rfl,iM,k⟩|⟨Je,fJ,⟨rfl,rfl⟩|⟨rfl,rfl⟩|⟨rfl,rfl⟩,k⟩|⟨hw,k⟩
  .refine⟨_,O,O,_,O,cI (no (by decide)) ?_⟩
   refine⟨_,O,O,_,O,fW (decide_eq_true O) ?_⟩
   refine⟨_,O,d,dx,_,O,hd,by rfl,_,O,d,a.Desk,dx,_,_,O,hd,T.Wr,T.ZK,qB,p,r,O,D.net,iM,fun g l2 fA H1 s1 hg vI bD=>?_⟩
   have nn:l2≠r.dh∧l2≠r.da:=by
    obtain⟨_,h2,⟨bY,h3,_⟩,_⟩:=D.net
    exact⟨U5 (ao h2 vI),U5 (ao h3 vI)⟩
   exact⟨d,p,r,lv,kvs,g,l2,fA,O,D.same s1,hg,bD,nn.1,nn.2,fun x H2 kd D2=>k x l2 H2 (fun b o e=>kd b o (s1 _ _ e)) vI D2⟩
  .refine⟨_,O,O,_,O,cI (no (by decide)) ?_⟩
   refine⟨_,O,O,_,O,cI (no (by decide)) ?_⟩
   refine⟨_,O,O,_,O,cI (no (by decide)) ?_⟩
   refine⟨_,O,O,_,O,cI (no (by decide)) ?_⟩
   refine⟨_,O,O,_,O,cI (no (by decide)) ?_⟩
   refine⟨_,O,O,_,O,fW (decide_eq_true O) ?_⟩
   exact⟨_,O,d,a.Desk,dx,_,_,O,hd,T.Wr,T.ZK,qB,p,r,O,D.net,k⟩
  .refine⟨_,O,O,_,O,cI (no (by decide)) ?_⟩
   refine⟨_,O,O,_,O,cI (no (by decide)) ?_⟩
   refine⟨_,O,O,_,O,cI (no (by decide)) ?_⟩
   refine⟨_,O,O,_,O,fW (decide_eq_true O) ?_⟩
   exact⟨_,O,d,a.Desk,dx,_,_,O,hd,T.Wr,T.ZK,qB,_,O,d,a.Desk,dx,_,_,O,hd,T.Wr,T.QbB,FX,p,r,lv,kvs,O,D.net,D.lev,Je,k⟩
  .refine⟨_,O,O,_,O,fW (decide_eq_true O) ?_⟩
   refine⟨_,O,d,a.Desk,dx,_,_,O,hd,T.Wr,T.ZK,qB,p,r,bA,O,D.net,by decide,by decide,fun t H1 s1 nt ht=>?_⟩
   rw[GG] at ht
   exact⟨t,[1],O,ht,(fun n hn=>by rw[Vn.mp hn];exact⟨by decide,by decide⟩),by decide,fun H2 s2=>⟨D',⟨by decide +kernel,by decide +kernel⟩,cY (k H2 (s1.trans s2))⟩⟩
  .have nw:∀ x∈jR,wd≠x:=fun x hx z=>hw (by rw[z];exact hx)
   refine⟨_,O,O,_,O,cI (no (nw _ (by simp[jR]))) ?_⟩
   refine⟨_,O,O,_,O,cI (no (nw _ (by simp[jR]))) ?_⟩
   refine⟨_,O,O,_,O,cI (no (nw _ (by simp[jR]))) ?_⟩
   refine⟨_,O,O,_,O,cI (no (nw _ (by simp[jR]))) ?_⟩
   refine⟨_,O,O,_,O,cI (no (nw _ (by simp[jR]))) ?_⟩
   refine⟨_,O,O,_,O,cI (no (nw _ (by simp[jR]))) ?_⟩
   exact lQ (fun H' dx s hd=>k dx H' s hd)
inductive Mo (a:VS) (vs:List V) (H:Hp) (R6:VK) (E:XK):Prop
 | mk (d x l ws:_) (_:vs=[d,.str x,.ref l]) (_:H l=i' (.lst ((ws:List C').map V.str))) (_:ws.length≤1000) (_:(∀ y∈ws,y.length≤900)) (_:x∈iy) (_:Qa6 x ws=D') (_:YM a H E)
theorem Q8 (T:Tx K mg a):eW P w K mg base (Wa P w) 9 a.Desk "say_number" ["self","word","written"] [] (Mo a):=T.Qc5.Vq fun f fd F=>by
 have aM:=Gd (P:=P) (w:=w) (base:=base) T
 have aY:=BQ (P:=P) (w:=w) (base:=base) T
 have bh:=FA (P:=P) (w:=w) (base:=base) T
 have aU:=wC (P:=P) (w:=w) (base:=base) T
 refine F.Xm HR (fun vs H Q E h=>?_) (fun aw A outer s H vs Q E hr h=>?_)
 .obtain⟨d,x,l,ws,rfl,_⟩:=h
  rfl
 .obtain⟨d,x,l,ws,rfl,hl,CU,zG,hx,hb,k⟩:=h
  have no:∀ {x y:C'},x≠y→decide (V.str x=V.str y)=M':=fun h=>decide_eq_false (fun z=>h (by injection z))
  have rz:∀ {G:Hp},ae H G→∀ H' dx,ae G H'→H' dx=i' (.xd [("number",.int 0)])→E (.ref a.NoLine) (i' dx) H':=fun sg H' dx s hd=>k dx H' (sg.trans s) hd
  refine⟨_,(ak (bo (PW.pt (lS (a7 wQ (bx fV O T.Wk dk (af (pv 2) ai)) au (aV _)) (qT (kG (iT (br aM (hr.mono (by decide)) rfl (af (aF bb (pv 2) au (fun _ _=>O)) ai))))))) (av (mS cx aU (hr.mono (by decide)) rfl (af au ai))) bp)
   (ak (aR (i:=3) HR.nd O (by first|exact UY rfl|exact UX O) (jO GJ O T.QbE xf (af (aF bb (pv 2) au (fun _ _=>O)) ai)))
   (ak (bo (a7 cw (pv 1) aN (aV _)) (ak (cF mV)
   (av (aK aN))) bp)
   (ak (bo (a7 cw (pv 1) aN (aV _)) (av (aK (br bh (hr.mono (by decide)) rfl (af mV ai)))) bp)
   (ak (bo (kG (iT (br aY (hr.mono (by decide)) rfl (af (pv 3) (af (i7 rfl T.QkH) (af (i7 rfl T.QkF) ai)))))) (av (mS cx aU (hr.mono (by decide)) rfl (af au ai))) bp)
   (av (aK mV))))))),?_⟩
  refine⟨_,O,l,_,O,.inl (P'.of hl),O,_,O,bc (fun c=>?_) (fun c=>?_)⟩
  .exact cY (lQ (rz (ae.refl _)))
  have c:(ws.length:Int)=1:=by simpa using c
  have c:ws.length=1:=by lia
  match ws,c with
  | [y],_=>
  refine⟨_,O,l,_,_,.str y,O,O,P'.of hl,O,y,O,by have:=zG y Xf;lia,fun H1 s1=>⟨_,O,?_⟩⟩
  cases hy:eY y with
  | false=>exact cY (lQ (rz s1))
  | true=>
  refine gC ?_
  obtain⟨e1,m0,m7⟩:=HU hy
  have cj:=s1 _ _ hl
  have hb:(decide (x=Vb "draw") && !(decide (1≤nv y) && decide (nv y≤50)))=D':=by
   have:(!eY y || (decide (x=Vb "draw") && !(decide (1≤nv y) && decide (nv y≤50))))=D':=hb
   rw[hy] at this
   exact this
  obtain⟨hx,hb⟩:=Bool.and_eq_true_iff.mp hb
  have hx:=of_decide_eq_true hx
  subst hx
  refine⟨_,O,l,_,_,.str y,O,O,P'.of cj,O,nv y,WS (fun x=>[V.str x]) e1,m0,by lia,?_⟩
  refine⟨_,O,O,_,O,cI (no (by decide)) ?_⟩
  refine⟨_,O,O,_,O,cI (no (by decide)) ?_⟩
  refine⟨_,O,nv y,1,50,O,_,O,?_⟩
  refine fW ?_ (lQ (rz s1))
  exact hb
end
theorem Pa (h:qP l=D'):(∃ x,VG l bk=[x]∧l∉jR)∨(∃ x y r,VG l bk=x::y::r∧x∈iy∧Qa6 x (y::r)=D')∨∃ x y r,VG l bk=x::y::r∧x∉iy∧look (x::y::r)=B':=by
 unfold qP at h
 cases e:VG l bk with
 | nil=>rw[e] at h;cases h
 | cons x r=>
 rw[e] at h
 cases r with
 | nil=>exact .inl ⟨x,O,by simpa using h⟩
 | cons y r=>
  have h:(if x∈iy then Qa6 x (y::r) else(look (x::y::r)).isNone)=D':=h
  by_cases c:x∈iy
  .rw[U3 c] at h
   exact .inr (.inl ⟨x,y,r,O,c,h⟩)
  .rw[U4 c] at h
   exact .inr (.inr ⟨x,y,r,O,c,by simpa using h⟩)
theorem FV (n:C') (l:List C'):Yj (.str n) (l.map V.str)=decide (n∈l):=by
 induction l with
 | nil=>rfl
 | cons x l ih=>
  show(W8 (.str x) (.str n) || Yj (.str n) (l.map V.str))=_
  rw[ih]
  show(decide (x=n) || decide (n∈l))=_
  by_cases e:x=n
  .subst e;simp
  .simp[e,U5 e]
structure qN (v:cv) (l:C') (q:Rd):Prop where
 WE:Qa5 1000 v
 n0:0≤v.nn
 n1:v.nn≤1000
 sp:∃ x y r,VG l bk=x::y::r∧x∉iy
 lk:look (VG l bk)=i' q
 kd:q.k=WG∨q.k=WH
 er:q.err v=B'
section
variable {K:R'}
inductive QlV (K:R') (a:VS) (vs:List V) (H:Hp) (Q:VK) (E:XK):Prop
  | mk (d p r v lv kvs l:_) (_:vs=[.ref d,.str l]) (_:dY K a H d p r v lv kvs) (_:l.length≤900) (_:((∃ q,qN v l q∧∀ x H',Zf d p r H H'→dY K a H' d p r (q.put v) lv kvs→Q x H') ∨
   (v=bA∧l=Vb "level"∧H a.YK=i' (.V' ko kH)∧∀ x l2 H',Zf d p r H H'→H l2=B'→dY K a H' d p r bA l2 fe→Q x H') ∨
   (v=bA∧nI kvs∧∃ fJ,Qdb kvs l fJ∧∀ H',ae H H'→Q (.str fJ) H')∨(v=bA∧qP l=D'∧YM a H E)))
theorem QbK:VG (Vb "level") bk=[Vb "level"]∧VG (Vb "net") bk=[Vb "net"]∧VG (Vb "levels") bk=[Vb "levels"]∧VG (Vb "turned") bk=[Vb "turned"]:=by decide +kernel
theorem QlW:Qa5 1000 bA:=⟨by decide,by decide,(fun q hq=>by rcases V5.mp hq with rfl|hq;decide;rw[Vn.mp hq];decide),by decide,by decide⟩
theorem Bl (T:Tx K mg a) (Z:KD P w K a.LINES (ia a)):eW P w K mg base (Wa P w) 10 a.Desk "say" ["self","line"] [] (QlV K a):=T.Yo.Vq fun f fd F=>by
 have Qc4:=Pj (P:=P) (w:=w) (base:=base) T
 have Qc5:=Q8 (P:=P) (w:=w) (base:=base) T
 have gQ:=O5 (P:=P) (w:=w) (base:=base) T Z
 refine F.Xm FF (fun vs H Q E h=>?_) (fun aw A outer s H vs Q E hr h=>?_)
 .obtain⟨d,p,r,v,lv,kvs,l,rfl,_⟩:=h
  rfl
 .obtain⟨d,p,r,v,lv,kvs,l,rfl,D,hl,h⟩:=h
  refine⟨_,(ak (aR (i:=2) FF.nd O (by first|exact UY rfl|exact UX O) (cW ZQ QaD Qdj BS (pv 1) (af aN ai)))
   (ak (bo (a7 cw (bx fV rfl T.Wk dk (af (pv 2) ai)) au (aV _)) (av (aK (g8 (pv 0) T.Wr Qc4 cx (hr.mono (by decide)) (af (pv 1) ai)))) bp)
   (ak (bo (a7 EK (aF bb (pv 2) au (fun _ _=>O)) (fZ (af aN (af aN (af aN ai)))) (by with_unfolding_all rfl)) (av (aK (g8 (pv 0) T.Wr Qc5 cx (hr.mono (by decide)) (af (aF bb (pv 2) au (fun _ _=>O)) (af (m5 nL (pv 2) (jL au) pL) ai))))) bp)
   (av (aK (rq gQ cx (hr.mono (by decide)) rfl (af (bf (pv 0) rfl) (af (pv 1) ai)))))))),?_⟩
  refine⟨_,O,O,l,bk,O,O,O,by rw[Vm];lia,fun wd ow=>?_⟩
  have s1:ae H (upd H wd (.lst ((VG l bk).map V.str))):=ae.new ow
  have h1:upd H wd (.lst ((VG l bk).map V.str)) wd=i' (.lst ((VG l bk).map V.str)):=ah
  have D1:=D.same s1
  have sl:=PyProof.Rows.split_le l bk
  generalize upd H wd (.lst ((VG l bk).map V.str))=H1 at s1 h1 D1 ⊢
  obtain⟨dx,hd⟩:=D1.ex
  have hh:(∃ x,VG l bk=[x]∧v=bA∧((l=Vb "level"∧H a.YK=i' (.V' ko kH)∧∀ x l2 H',Zf d p r H H'→H l2=B'→dY K a H' d p r bA l2 fe→Q x H')∨(nI kvs∧∃ fJ,Qdb kvs l fJ∧∀ H',ae H H'→Q (.str fJ) H')∨(l∉jR∧YM a H E))) ∨
    ∃ x y r',VG l bk=x::y::r'∧((x∈iy∧Qa6 x (y::r')=D'∧YM a H E)∨(x∉iy∧Qa5 1000 v∧0≤v.nn∧v.nn≤1000∧(∀ q,look (VG l bk)=i' q→(q.k=WG∨q.k=WH)∧q.err v=B'∧∀ x H',Zf d p r H H'→dY K a H' d p r (q.put v) lv kvs→Q x H')∧(look (VG l bk)=B'→YM a H E))):=by
   rcases h with⟨q,pl,k⟩|⟨e,el,tb,k⟩|⟨e,lo,fJ,YI,k⟩|⟨e,bad,k⟩
   .obtain⟨WE,n0,n1,⟨x,y,r',es,n3⟩,lk,kd,er⟩:=pl
    exact .inr ⟨x,y,r',es,.inr ⟨n3,WE,n0,n1,fun q' fq=>by rw[lk] at fq;cases fq;exact⟨kd,er,k⟩,fun z=>by rw[lk] at z;cases z⟩⟩
   .exact .inl ⟨_,by rw[el];exact QbK.1,e,.inl ⟨el,tb,k⟩⟩
   .refine .inl ⟨l,?_,e,.inr (.inl ⟨lo,fJ,YI,k⟩)⟩
    rcases YI with⟨z,_⟩|⟨z,_⟩|⟨z,_⟩<;>rw[z]
    .exact QbK.2.1
    .exact QbK.2.2.1
    .exact QbK.2.2.2
   .rcases Pa bad with⟨x,es,nk⟩|⟨x,y,r',es,i3,hb⟩|⟨x,y,r',es,n3,lk⟩
    .exact .inl ⟨x,es,e,.inr (.inr ⟨nk,k⟩)⟩
    .exact .inr ⟨x,y,r',es,.inl ⟨i3,hb,k⟩⟩
    .refine .inr ⟨x,y,r',es,.inr ⟨n3,by rw[e];exact QlW,by rw[e];decide,by rw[e];decide,fun q hq=>?_,fun _=>k⟩⟩
     rw[es,lk] at hq
     cases hq
  clear h
  rcases hh with⟨x,e,ev,h⟩|⟨x,y,r',e,h⟩
  .rw[e] at h1
   subst ev
   refine⟨_,O,wd,_,O,.inl (P'.of h1),O,_,O,fW (decide_eq_true O) ?_⟩
   refine⟨_,O,d,dx,_,O,hd,by rfl,_,O,d,p,r,lv,kvs,_,O,D1,?_⟩
   rcases h with⟨e1,tb,k⟩|⟨lo,fJ,YI,k⟩|⟨nk,k⟩
   .exact .inl ⟨e1,s1 _ _ tb,fun x l2 H2 kd nl D2=>k x l2 H2 (fun b o e=>kd b o (s1 _ _ e)) (uY s1 nl) D2⟩
   .exact .inr (.inl ⟨lo,fJ,YI,fun H2 s2=>k H2 (s1.trans s2)⟩)
   .exact .inr (.inr ⟨nk,k.same s1⟩)
  .have wl:∀ z∈VG l bk,z.length≤900:=fun z hz=>by have:=Fo z hz;lia
   rw[e] at h1 sl wl
   refine⟨_,O,wd,_,O,.inl (P'.of h1),O,_,O,cI (decide_eq_false (fun z=>by injection z with z;rw[U1,WV,WV] at z;lia)) ?_⟩
   refine⟨_,O,wd,_,_,.str x,O,O,P'.of h1,lX (i:=0) O,(by show 3≤U2;decide),fun q nq=>⟨q,_,O,.inr (Vi.of ah),O,O,_,O,?_⟩⟩
   have s2:ae H1 (upd H1 q (.tup (iy.map V.str))):=ae.new nq
   have h2:=s2 _ _ h1
   have D2:=D1.same s2
   have cC:=s2 _ _ hd
   dsimp only
   rw[show Yj (V.str x) [V.str (Vb "drop"),V.str (Vb "ring"),V.str (Vb "draw")]=decide (x∈iy) from FV x iy]
   rw[show upd H1 q (.tup [V.str (Vb "drop"),V.str (Vb "ring"),V.str (Vb "draw")])=upd H1 q (.tup (iy.map V.str)) from rfl]
   generalize upd H1 q (.tup (iy.map V.str))=H2 at s2 h2 D2 cC ⊢
   have jX:=s1.trans s2
   rcases h with⟨i3,hb,k⟩|⟨n3,WE,n0,n1,k,er⟩
   .refine fW (decide_eq_true i3) ?_
    refine⟨_,O,d,dx,_,O,cC,by rfl,_,O,wd,_,_,.str x,O,O,P'.of h2,lX (i:=0) O,_,O,_,O,wd,_,O,P'.of h2,fun q2 Ic=>?_⟩
    have ec:du ((x::y::r').map V.str) (i' 1) B'=(y::r').map V.str:=by rw[show(1:Int)=((1:Nat):Int) from rfl,Ap];rfl
    rw[ec]
    have s3:=jX.trans (ae.new (o:=.lst ((y::r').map V.str)) Ic)
    exact⟨_,x,q2,y::r',O,ah,by rw[WV] at sl;lia,fun z hz=>wl z (Xp _ hz),i3,hb,k.same s3⟩
   .refine cI (decide_eq_false n3) ?_
    refine⟨_,O,d,a.Desk,dx,_,_,O,cC,T.Wr,T.ZK,qB,_,O,p,r,v,l,O,hl,D2.net,WE,n0,n1,fun q hq=>?_,fun e2=>(er e2).same jX⟩
    obtain⟨k1,k2,k⟩:=k q hq
    exact⟨k1,k2,fun x H3 kp N3=>k x H3 (fun b o e z1 z2 z3 z4 z5 z6=>kp b o (jX _ _ e) z2 z3 z4 z5 z6) (D2.kp kp N3)⟩
end
theorem EW {k:Int} (h0:0≤k) (h1:k<ns.length):∃ z,ns[k.toNat]?=i' z∧V1 (ns.map V.int) k=i' (.int z):=by
 obtain⟨z,hz⟩:=hV (l:=ns) (j:=k.toNat) (by lia)
 exact⟨z,hz,by rw[iw h0,WJ,hz];rfl⟩
theorem Qa7 {l:List C'}{k:Int} (h0:0≤k) (h1:k<l.length):V1 (l.map V.str) k=i' (.str (l.getD k.toNat VT)):=by
 rw[iw h0,WJ,X8,Xd (show k.toNat<l.length by lia)]
 rfl
abbrev l8:List C':=["point c 3","arrow a b 2","arrow a b 2 5","most a b 4","same a b","drop 0","ring 0","draw 3"]
abbrev m8:List C':=["turned","net","levels","level","again","cross","arrow a b","point c"]
abbrev n2:List C':=["most b a 0","draw 50"]
def mP:List C':=l8++m8++n2
def jM:List C':=["","a","-1","+1","01","00","1.0","1_0",Qej "1" 8,Qej "9" 50,"1e3","x1","1x","1/2"]
abbrev qc:List C':=["0","51","9999999","100"]
def gg (b:Bool):List C':=if b=D' then jM++qc else jM
theorem Hn (b:Bool):14≤(gg b).length∧(gg b).length≤18:=by cases b<;>decide +kernel
section
variable {K:R'}
inductive Oq (K:R') (vs:List V) (H:Hp) (Q:VK) (bg:XK):Prop
 | mk (p:_) (ns:List Int) (k:_) (_:vs=[.ref p,.int k]) (_:P' K H p (ns.map V.int)) (_:0≤k) (_:∀ c,Q (.int c) H)
theorem O4 (T:Tx K mg a):Vz P w K mg base Vp 1 "_law_cell_at" ["_law_script","_law_k"] [] (Oq K):=T.Qkx.Vq fun f fd F=>by
 refine F.ok ON (fun vs H Q E h=>?_) (fun aw A outer s H vs Q E hr h=>?_)
 .obtain⟨p,ns,k,rfl,_⟩:=h
  rfl
 .obtain⟨p,ns,k,rfl,hS,h0,q⟩:=h
  refine⟨_,(ak (bo (a7 mX (pv 1) (bx fV O T.Wk dk (af (pv 0) ai)) (aV _)) (av (aK (aF bb (pv 0) (pv 1) (fun _ _=>O)))) bp)
   (av (aK au))),?_⟩
  refine⟨_,O,_,O,p,_,O,.inl hS,_,_,O,O,_,O,?_⟩
  refine bc (fun c=>?_) (fun c=>?_)
  .have h1:k<ns.length:=by
    have:=of_decide_eq_true c
    rwa [U1] at this
   obtain⟨z,_,hz⟩:=EW h0 h1
   exact⟨_,O,_,O,p,_,_,_,O,O,hS,hz,q z⟩
  .exact q 0
inductive MF (vs:List V) (H:Hp) (Q:VK) (bg:XK):Prop
 | mk (c m:_) (_:vs=[.int c,.int m]) (_:0≤m) (_:m≤100) (_:∀ l xs H',ae H H'→H l=B'→H' l=i' (.lst ((xs:List Int).map V.int))→(xs.length:Int)=m→Q (.ref l) H')
theorem Oz (T:Tx K mg a):Vz P w K mg base Vp 1 "_law_stream" ["_law_cell","_law_many"] [] MF:=T.Qky.Vq fun f fd F=>by
 refine F.ok qO (fun vs H Q E h=>?_) (fun aw A outer s H vs Q E hr h=>?_)
 .obtain⟨c,m,rfl,_⟩:=h
  rfl
 .obtain⟨c,m,rfl,m0,m1,k⟩:=h
  refine⟨_,(ak (aR (i:=2) qO.nd O (by first|exact UY rfl|exact UX O) (dC ai))
   (ak (aR (i:=3) qO.nd O (by first|exact UY rfl|exact UX O) (aX jP (aX qU (aX md (pv 0) au) au) au))
   (ak (fg Wu rfl (xt rfl T.Qa0 (af (pv 1) ai)) (aC (i:=4) qO.nd O (by first|exact UY rfl|exact UX O)) (ak (aR (i:=3) qO.nd O (by first|exact UY rfl|exact UX O) (aX jP (aX qU (pv 3) (aX md (aX md (aX On (pv 3) au) au) (pv 4))) au))
   (ak (cF (cW WU XQ X9 jo (pv 2) (af (pv 3) ai)))
   (av (aR (i:=3) qO.nd O (by first|exact UY rfl|exact UX O) (aX md (pv 3) au))))))
   (av (aK (pv 2)))))),?_⟩
  refine⟨(by show 0≤U2;decide),fun g ng=>?_⟩
  have s1:ae H (upd H g (.lst [])):=ae.new ng
  have h1:upd H g (.lst []) g=i' (.lst []):=ah
  generalize upd H g (.lst [])=H1 at s1 h1 ⊢
  refine⟨_,O,_,_,O,O,_,_,O,O,.inr ⟨by decide,by decide⟩,_,_,O,O,(by show(0:Int)<2147483647;decide),?_⟩
  have b0:0≤(c+7919)*48271 % 2147483647:=QaF _ (by decide)
  have b1:(c+7919)*48271 % 2147483647<2147483647:=Qav _ (by decide)
  refine⟨_,O,_,O,by lia,by lia,EU (lo:=0) (n:=m.toNat) (fun i σ H'=>∃ v4,∃ z:Int,∃ xs:List Int,σ=[i' (.int c),i' (.int m),i' (.ref g),i' (.int z),v4]∧0≤z∧z≤2147483647∧(∀ b o,H1 b=i' o→b≠g→H' b=i' o)∧H' g=i' (.lst (xs.map V.int))∧xs.length=i) ⟨B',_,[],rfl,b0,Int.le_of_lt b1,fun b o e _=>e,h1,O⟩ ?_ ?_⟩
  .rintro i σ H' hi ⟨v4,z,xs,rfl,z0,z1,o3,h3,xl⟩
   dsimp only[bE]
   refine⟨_,O,_,O,_,_,O,O,⟨by decide,by decide⟩,_,_,O,O,_,O,_,_,O,O,_,_,O,O,.inl ⟨?_,?_⟩,_,_,O,O,(by show(0:Int)<2147483647;decide),?_⟩
   .show -(2 ^ 64)<z
    lia
   .show z<2 ^ 64
    lia
   generalize z*(z / 1009+69621+(0+(i:Int)))=y
   have y0:0≤y % 2147483647:=QaF _ (by decide)
   have y1:y % 2147483647<2147483647:=Qav _ (by decide)
   refine⟨_,O,.inl ⟨O,_,P'.of h3⟩,_,O,g,_,_,O,O,h3,by rw[U1,Vm];lia,?_⟩
   refine⟨_,O,_,_,O,O,?_⟩
   refine⟨_,_,xs++[y % 2147483647],O,by lia,by lia,fun b o e ne=>by rw[aj ne];exact o3 b o e ne,by rw[ah,Vr];rfl,by rw[WM,xl];rfl⟩
  .rintro σ H' ⟨v4,z,xs,rfl,_,_,o3,h3,xl⟩
   exact⟨_,O,k g xs H' (fun b o e=>o3 b o (s1 _ _ e) (ao e ng)) ng h3 (by lia)⟩
def BO (n:Int):List C':=VG (mP.getD (n % 18).toNat VT) bk
inductive QlX (vs:List V) (H:Hp) (Q:VK) (bg:XK):Prop
 | mk (n:_) (_:vs=[.int n]) (_:∀ l H',ae H H'→H l=B'→H' l=i' (.lst ((BO n).map V.str))→Q (.ref l) H')
theorem QlY:∀ l∈mP,l.length≤100:=by decide +kernel
theorem Pd (T:Tx K mg a):Vz P w K mg base Vp 1 "_law_line" ["_law_number"] [] QlX:=T.QkA.Vq fun f fd F=>by
 refine F.okB wz (fun vs H Q E h=>?_) (fun aw A outer s H vs Q E hr h=>?_)
 .obtain⟨n,rfl,_⟩:=h
  rfl
 .obtain⟨n,rfl,k⟩:=h
  refine⟨_,(lK (lT (i:=1) wz.nd O (by first|exact UY rfl|exact UX O) (kB (A8 (xs:=["point c 3","arrow a b 2","arrow a b 2 5","most a b 4","same a b","drop 0","ring 0","draw 3"]) O))) (lK (lT (i:=1) wz.nd O (by first|exact UY rfl|exact UX O) (rh me (Wd.mk (pv 1)) (kB (A8 (xs:=["turned","net","levels","level","again","cross","arrow a b","point c"]) O)))) (lK (lT (i:=1) wz.nd O (by first|exact UY rfl|exact UX O) (rh me (Wd.mk (pv 1)) (kB (cu cP (cu cP pY))))) (gE (Xx.mk (aK (cW ZQ QaD Qdj BS (aF bb (pv 1) (aX jP (pv 0) au) (fun _ _=>O)) (af aN ai)))))))),?_⟩
  refine⟨(by show 8≤U2;decide),fun g1 n1=>?_⟩
  have s1:ae H (upd H g1 (.lst (l8.map V.str))):=ae.new n1
  have h1:upd H g1 (.lst (l8.map V.str)) g1=i' (.lst (l8.map V.str)):=ah
  generalize upd H g1 (.lst (l8.map V.str))=H1 at s1 h1 ⊢
  refine⟨_,O,(by show 8≤U2;decide),fun g2 Ag=>?_⟩
  have s2:ae H1 (upd H1 g2 (.lst (m8.map V.str))):=ae.new Ag
  have h2:upd H1 g2 (.lst (m8.map V.str)) g2=i' (.lst (m8.map V.str)):=ah
  generalize upd H1 g2 (.lst (m8.map V.str))=H2 at s2 h2 ⊢
  refine⟨g1,g2,_,_,O,O,s2 _ _ h1,h2,(by show 16≤U2;decide),fun g3 n3=>?_⟩
  have s3:ae H2 (upd H2 g3 (.lst (l8.map V.str++m8.map V.str))):=ae.new n3
  have h3:upd H2 g3 (.lst (l8.map V.str++m8.map V.str)) g3=i' (.lst (l8.map V.str++m8.map V.str)):=ah
  generalize upd H2 g3 (.lst (l8.map V.str++m8.map V.str))=H3 at s3 h3 ⊢
  refine⟨_,O,(by show 2≤U2;decide),fun g4 n4=>?_⟩
  have s4:ae H3 (upd H3 g4 (.lst (n2.map V.str))):=ae.new n4
  have h4:upd H3 g4 (.lst (n2.map V.str)) g4=i' (.lst (n2.map V.str)):=ah
  refine⟨g3,g4,_,_,O,O,s4 _ _ h3,h4,(by show 18≤U2;decide),fun g5 n5=>?_⟩
  have s5:ae (upd H3 g4 (.lst (n2.map V.str))) (upd (upd H3 g4 (.lst (n2.map V.str))) g5 (.lst (mP.map V.str))):=ae.new n5
  have h5:upd (upd H3 g4 (.lst (n2.map V.str))) g5 (.lst (mP.map V.str)) g5=i' (.lst (mP.map V.str)):=ah
  have t5:=s1.trans (s2.trans (s3.trans (s4.trans s5)))
  have b0:0≤n % 18:=QaF _ (by decide)
  have b1:n % 18<18:=Qav _ (by decide)
  refine⟨_,O,_,O,_,_,O,O,(by decide),g5,_,_,_,O,O,P'.of h5,Qa7 b0 b1,O,_,bk,O,O,O,?_,fun wd ow=>k wd _ (t5.trans (ae.new ow)) (uY t5 ow) ah⟩
  have:=QlY (mP.getD (n % 18).toNat VT) (by
   rw[X8,Xd (show(n % 18).toNat<mP.length by show _<18;lia)]
   exact QdD _)
  rw[Vm]
  lia
inductive QlZ (vs:List V) (H:Hp) (Q:VK) (bg:XK):Prop
 | mk (n b:_) (_:vs=[.int n,.bl b]) (_:∀ H',ae H H'→Q (.str ((gg b).getD (n % (gg b).length).toNat VT)) H')
theorem Ql0 (T:Tx K mg a):Vz P w K mg base Vp 1 "_law_odd" ["_law_number","_law_gap"] [] QlZ:=T.QkB.Vq fun f fd F=>by
 refine F.okB AI (fun vs H Q E h=>?_) (fun aw A outer s H vs Q E hr h=>?_)
 .obtain⟨n,b,rfl,_⟩:=h
  rfl
 .obtain⟨n,b,rfl,k⟩:=h
  refine⟨_,(lK (lT (i:=2) AI.nd O (by first|exact UY rfl|exact UX O) (kB (cu cP (cu cP (cu cP (cu cP (cu cP (cu cP (cu cP (cu cP (cu (Wd.mk (aX Ez aN au)) (cu (Wd.mk (aX Ez aN au)) (cu cP (cu cP (cu cP (cu cP pY)))))))))))))))) (lK (p9 (iT (pv 1)) (gE (lT (i:=2) AI.nd O (by first|exact UY rfl|exact UX O) (rh me (Wd.mk (pv 2)) (kB (cu cP (cu cP (cu cP (cu cP pY)))))))) (pN.mk bp)) (gE (Xx.mk (aK (aF bb (pv 2) (aX jP (pv 0) (bx fV O T.Wk dk (af (pv 2) ai))) (fun _ _=>O))))))),?_⟩
  refine⟨_,_,O,O,Qfy 1 8 (by decide) (by decide) (by decide) (by decide) (by decide),_,_,O,O,Qfy 1 50 (by decide) (by decide) (by decide) (by decide) (by decide),(by show 14≤U2;decide),fun g1 n1=>?_⟩
  have s1:ae H (upd H g1 (.lst (jM.map V.str))):=ae.new n1
  have h1:upd H g1 (.lst (jM.map V.str)) g1=i' (.lst (jM.map V.str)):=ah
  have aG:∀ {G:Hp}{g:F'},ae H G→G g=i' (.lst ((gg b).map V.str))→V1 ((gg b).map V.str) (n % ((gg b).map V.str).length)=i' (.str ((gg b).getD (n % (gg b).length).toNat VT))∧(0:Int)<((gg b).map V.str).length:=fun _ _=>by
   have:=Hn b
   rw[U1]
   exact⟨Qa7 (QaF _ (by lia)) (Qav _ (by lia)),by lia⟩
  cases b with
  | false=>
   obtain⟨f1,f2⟩:=aG s1 h1
   exact⟨_,O,_,O,gC ⟨_,O,_,O,_,O,g1,_,O,.inl (P'.of h1),_,_,O,O,f2,g1,_,_,_,O,O,P'.of h1,f1,k _ s1⟩⟩
  | true=>
   refine⟨_,O,_,O,cY ⟨_,O,(by show 4≤U2;decide),fun g2 Ag=>?_⟩⟩
   have s2:ae (upd H g1 (.lst (jM.map V.str))) (upd (upd H g1 (.lst (jM.map V.str))) g2 (.lst (qc.map V.str))):=ae.new Ag
   have h2:upd (upd H g1 (.lst (jM.map V.str))) g2 (.lst (qc.map V.str)) g2=i' (.lst (qc.map V.str)):=ah
   refine⟨g1,g2,_,_,O,O,s2 _ _ h1,h2,(by show 18≤U2;decide),fun g3 n3=>?_⟩
   have s3:ae (upd (upd H g1 (.lst (jM.map V.str))) g2 (.lst (qc.map V.str))) (upd (upd (upd H g1 (.lst (jM.map V.str))) g2 (.lst (qc.map V.str))) g3 (.lst ((gg D').map V.str))):=ae.new n3
   have h3:upd (upd (upd H g1 (.lst (jM.map V.str))) g2 (.lst (qc.map V.str))) g3 (.lst ((gg D').map V.str)) g3=i' (.lst ((gg D').map V.str)):=ah
   have t3:=s1.trans (s2.trans s3)
   obtain⟨f1,f2⟩:=aG t3 h3
   exact⟨_,O,_,O,_,O,g3,_,O,.inl (P'.of h3),_,_,O,O,f2,g3,_,_,_,O,O,P'.of h3,f1,k _ t3⟩
end
def c0 (w:C'):Nat:=(cl w).headD 0
def XA (ws:List C') (k:Nat):Bool:=decide (0<k) && Xb (c0 (ws.getD k VT))
def X6 (ws:List C') (j:Nat):List Int:=((VX j).filter (XA ws)).map fun k:Nat=>(k:Int)
abbrev ten:List C':=["","Point","points","arrows","go","lay","nets","0","rings","crossed"]
abbrev X7:List C':=["arrow","point"]
abbrev Qa8:List C':=["1","1","1"]
abbrev oa:List C':=["1","a"]
abbrev oea:List C':=["1","","a"]
def w0 (ws:List C'):C':=ws.getD 0 VT
def W1 (c:List C'):Bool:=qP (YZ bk c) && decide ((YZ bk c).length≤900) && decide ((c.map (·.length)).sum+c.length*bk.length≤16777216)
def chk (ws:List C'):Bool:=
 decide (1≤ws.length) && decide (ws.length≤5) && ws.all (fun x=>decide (1≤x.length) && decide (x.length≤100))
 && (VX ws.length).all (fun k=>!XA ws k || (gg (decide (w0 ws="draw"))).all fun o=>W1 (ws.set k o))
 && ten.all (fun t=>W1 (ws.set 0 t))
 && (decide (ws.length≤1) || decide (w0 ws∈X7) || W1 (ws.take (ws.length-1)))
 && (decide (ws.length≤1) || !decide (w0 ws∈X7) || W1 (ws.take (if w0 ws="arrow" then 2 else 1)))
 && (!decide (w0 ws="arrow") || W1 (ws++Qa8.take (6-ws.length)))
 && (decide (w0 ws="arrow") || !decide (w0 ws="point") || (decide (ws.length≤4) && W1 (ws++oa.take (4-ws.length))))
 && (decide (w0 ws="arrow") || decide (w0 ws="point") || oea.all fun t=>W1 (ws++[t]))
abbrev WI (i:Nat):Prop:=chk (VG (mP.getD i VT) bk)=D'
theorem ck0:WI 0:=by decide +kernel
theorem ck1:WI 1:=by decide +kernel
theorem ck2:WI 2:=by decide +kernel
theorem ck3:WI 3:=by decide +kernel
theorem ck4:WI 4:=by decide +kernel
theorem ck5:WI 5:=by decide +kernel
theorem ck6:WI 6:=by decide +kernel
theorem ck7:WI 7:=by decide +kernel
theorem ck8:WI 8:=by decide +kernel
theorem ck9:WI 9:=by decide +kernel
theorem Ql1:WI 10:=by decide +kernel
theorem Ql2:WI 11:=by decide +kernel
theorem Ql3:WI 12:=by decide +kernel
theorem Ql4:WI 13:=by decide +kernel
theorem Ql5:WI 14:=by decide +kernel
theorem Ql6:WI 15:=by decide +kernel
theorem Ql7:WI 16:=by decide +kernel
theorem Ql8:WI 17:=by decide +kernel
theorem Ql9:∀ i,i<18→WI i
 | 0,_=>ck0
 | 1,_=>ck1
 | 2,_=>ck2
 | 3,_=>ck3
 | 4,_=>ck4
 | 5,_=>ck5
 | 6,_=>ck6
 | 7,_=>ck7
 | 8,_=>ck8
 | 9,_=>ck9
 | 10,_=>Ql1
 | 11,_=>Ql2
 | 12,_=>Ql3
 | 13,_=>Ql4
 | 14,_=>Ql5
 | 15,_=>Ql6
 | 16,_=>Ql7
 | 17,_=>Ql8
 | i+18,h=>U' h (by lia)
theorem GE (ws:List C') (j:Nat):X6 ws (j+1)=X6 ws j++if XA ws j=D' then[(j:Int)] else[]:=by
 unfold X6
 rw[QdM,Zj,Vr]
 congr 1
 by_cases c:XA ws j=D'
 .rw[U3 c,List.filter_cons_of_pos c]
  rfl
 .rw[U4 c,List.filter_cons_of_neg c]
  rfl
theorem Ng (ws:List C') (j:Nat):(X6 ws j).length≤j:=by
 unfold X6
 rw[U1]
 have:=XO (XA ws) (VX j)
 rw[ZV] at this
 exact this
theorem Qma (h:z∈X6 ws j):∃ k:Nat,z=k∧k<j∧XA ws k=D':=by
 unfold X6 at h
 obtain⟨k,hk,rfl⟩:=W4.mp h
 obtain⟨h1,h2⟩:=ZX.mp hk
 exact⟨k,O,Qbg.mp h1,h2⟩
structure Chk (ws:List C'):Prop where
 lo:1≤ws.length
 hi:ws.length≤5
 wl:∀ x∈ws,1≤x.length∧x.length≤100
 pa:∀ k,k<ws.length→XA ws k=D'→∀ o∈gg (decide (w0 ws="draw")),W1 (ws.set k o)=D'
 pb:∀ t∈ten,W1 (ws.set 0 t)=D'
 pc:¬ ws.length≤1→w0 ws∉X7→W1 (ws.take (ws.length-1))=D'
 pd:¬ ws.length≤1→w0 ws∈X7→W1 (ws.take (if w0 ws="arrow" then 2 else 1))=D'
 pe:w0 ws="arrow"→W1 (ws++Qa8.take (6-ws.length))=D'
 pf:w0 ws≠"arrow"→w0 ws="point"→ws.length≤4∧W1 (ws++oa.take (4-ws.length))=D'
 pg:w0 ws≠"arrow"→w0 ws≠"point"→∀ t∈oea,W1 (ws++[t])=D'
theorem Chk.of (h:chk ws=D'):Chk ws:=by
 unfold chk at h
 simp only[XB,QgJ,QaB,decide_eq_true_eq,decide_eq_false_iff_not,QdE] at h
 obtain⟨⟨⟨⟨⟨⟨⟨⟨⟨h1,h2⟩,h3⟩,h4⟩,h5⟩,h6⟩,h7⟩,h8⟩,h9⟩,Kz⟩:=h
 refine⟨h1,h2,h3,fun k hk hp=>?_,h5,fun a b=>?_,fun a b=>?_,fun a=>?_,fun a b=>?_,fun a b=>?_⟩
 .rcases h4 k (Qbg.mpr hk) with h|h
  .rw[hp] at h;cases h
  .exact h
 .rcases h6 with(h|h)|h
  .exact U' h a
  .exact U' h b
  .exact h
 .rcases h7 with(h|h)|h
  .exact U' h a
  .exact U' b h
  .exact h
 .rcases h8 with h|h
  .exact U' a h
  .exact h
 .rcases h9 with(h|h)|h
  .exact U' h a
  .exact U' b h
  .exact h
 .rcases Kz with(h|h)|h
  .exact U' h a
  .exact U' h b
  .exact h
theorem Ny (n:Int):Chk (BO n):=by
 have b0:0≤n % 18:=QaF _ (by decide)
 have b1:n % 18<18:=Qav _ (by decide)
 exact Chk.of (Ql9 (n % 18).toNat (by lia))
theorem qb {l:List C'}{k:Nat} (h:k<l.length):l.getD k VT∈l:=by
 rw[X8,Xd h]
 exact QdD _
theorem Ew (ws:List C') (k:Nat) (o:C'):(ws.map V.str).set k (.str o)=(ws.set k o).map V.str:=YX.symm
theorem wu (ws:List C') (n:Nat):du (ws.map V.str) B' (i' (n:Int))=(ws.take n).map V.str:=by
 unfold du
 have e1:HT.Vj (ws.map V.str).length 0 B'=0:=HT.zjd ..
 have e2:HT.Vj (ws.map V.str).length (ws.map V.str).length (i' (n:Int))=min n (ws.map V.str).length:=HT.ZE _ _ n
 rw[e1,e2,QgQ,Nat.sub_zero,QdT,U1]
 by_cases h:n≤ws.length
 .rw[Qbf h]
 .rw[QdK (by lia),XM (by rw[U1];lia),XM (by rw[U1];lia)]
theorem Np (h:1≤ws.length):du (ws.map V.str) B' (i' (-1))=(ws.take (ws.length-1)).map V.str:=by
 have e2:HT.Vj (ws.map V.str).length (ws.map V.str).length (i' (-1))=HT.Vj (ws.map V.str).length (ws.map V.str).length (i' ((ws.length-1:Nat):Int)):=by
  rw[HT.ZE]
  unfold HT.Vj
  simp
  lia
 have:=wu ws (ws.length-1)
 unfold du at this ⊢
 rw[e2]
 exact this
theorem Qmb (x y:C'):decide (V.str x=V.str y)=decide (x=y):=by
 by_cases h:x=y
 .subst h;simp
 .rw[decide_eq_false h,decide_eq_false (fun z=>h (by injection z))]
section
variable {K:R'}
inductive Mh (vs:List V) (H:Hp) (Q:VK) (bg:XK):Prop
 | mk (l x0 x1 x2 x3:_) (_:vs=[.ref l]) (_:H l=i' (.lst (([x0,x1,x2,x3]:List Int).map V.int))) (_:∀ s H',ae H H'→qP s=D'→s.length≤900→Q (.str s) H')
theorem Qs (T:Tx K mg a):Vz P w K mg base Vp 2 "_law_spoilt" ["_law_xs"] [] Mh:=T.QkC.Vq fun f fd F=>by
 have fK:=Pd (P:=P) (w:=w) (base:=base) T
 have gK:=Ql0 (P:=P) (w:=w) (base:=base) T
 refine F.okB lY (fun vs H Q E h=>?_) (fun aw A outer s H vs Q E hr h=>?_)
 .obtain⟨l,x0,x1,x2,x3,rfl,_⟩:=h
  rfl
 .obtain⟨l,x0,x1,x2,x3,rfl,hl,k⟩:=h
  refine⟨_,(lK (Xx.mk (aR (i:=1) lY.nd O (by first|exact UY rfl|exact UX O) (br fK (hr.mono (by decide)) rfl (af (aF bb (pv 0) au (fun _ _=>O)) ai)))) (lK (Xx.mk (rD (i:=2) lY.nd O O (N:=["_law_k","_law_word"]) (cap:=[B',B']) O (bN (osc:=ay AF) (XN:=["_law_xs","_law_words","_law_places","_law_way"]) O O (by decide +kernel)) (ve rfl T.QaZ (af (pv 1) ai)) (fun cl C s H fp aa=>(jf (K:=K) (n:=2) O O (aP (aC (i:=0) (show(["_law_k","_law_word"]:List C').Nodup by decide +kernel) rfl (by first|exact UY rfl|exact UX O)) (aP (aC (i:=1) (show(["_law_k","_law_word"]:List C').Nodup by decide +kernel) rfl (by first|exact UY rfl|exact UX O)) cV)))) (fun cl C s H fp aa=>uM (PW.pt (pI (a7 kK (pv 0) au (aV _)) (qM (a7 AX (aF HI (pv 1) au (fun _ _=>O)) aN (by with_unfolding_all rfl)))))) (fun cl C s H fp aa=>(pv 0)) (hsw:=O))) (lK (Xx.mk (aR (i:=3) lY.nd O (by first|exact UY rfl|exact UX O) (aX jP (aF bb (pv 0) au (fun _ _=>O)) au))) (lK (p9 (PW.pt (pI (a7 mX (pv 3) au (aV _)) (qM (a7 (QiS hr.units) (pv 2) (dC ai) (aV _))))) (gE (Xx.mk (F0 (br gK (hr.mono (by decide)) rfl (af (aF bb (pv 0) au (fun _ _=>O)) (af (jS cw (aF bb (pv 1) au (fun _ _=>O)) aN (aV _)) ai))) (Fu (pv 1) (aF bb (pv 2) (aX jP (aF bb (pv 0) au (fun _ _=>O)) (bx fV O T.Wk dk (af (pv 2) ai))) (fun _ _=>O)) lM)))) (gE (p9 (a7 cw (pv 3) au (aV _)) (gE (QjH (QeO bb (kB (A8 (xs:=["","Point","points","arrows","go","lay","nets","0","rings","crossed"]) O)) (Wd.mk (aX jP (aF bb (pv 0) au (fun _ _=>O)) au)) (fun _ _=>O)) (Fu (pv 1) au lM))) (gE (p9 (PW.pt (pI (a7 cw (pv 3) au (aV _)) (pI (a7 kK (bx fV O T.Wk dk (af (pv 1) ai)) au (aV _)) (qM (a7 Fp (aF bb (pv 1) au (fun _ _=>O)) (fZ (af aN (af aN ai))) (by with_unfolding_all rfl)))))) (gE (Xx.mk (aR (i:=1) lY.nd O (by first|exact UY rfl|exact UX O) (m5 nL (pv 1) pL (jL (Qet EO au)))))) (gE (p9 (PW.pt (pI (a7 cw (pv 3) au (aV _)) (qM (a7 kK (bx fV O T.Wk dk (af (pv 1) ai)) au (aV _))))) (gE (lT (i:=1) lY.nd O (by first|exact UY rfl|exact UX O) (Wd.mk (m5 nL (pv 1) pL (jL (aF bb (dC (af au (af au ai))) (jO Nd O T.QbE xf (af (jS cw (aF bb (pv 1) au (fun _ _=>O)) aN (aV _)) ai)) (fun _ _=>O))))))) (gE (p9 (a7 cw (aF bb (pv 1) au (fun _ _=>O)) aN (aV _)) (gE (lT (i:=1) lY.nd O (by first|exact UY rfl|exact UX O) (rh me (Wd.mk (pv 1)) (QeP nL (kB (cu cP (cu cP (cu cP pY)))) pL (jL (aX iU au (bx fV O T.Wk dk (af (pv 1) ai)))))))) (gE (p9 (a7 cw (aF bb (pv 1) au (fun _ _=>O)) aN (aV _)) (gE (lT (i:=1) lY.nd O (by first|exact UY rfl|exact UX O) (rh me (Wd.mk (pv 1)) (QeP nL (kB (cu cP (cu cP pY))) pL (jL (aX iU au (bx fV O T.Wk dk (af (pv 1) ai)))))))) (gE (lT (i:=1) lY.nd O (by first|exact UY rfl|exact UX O) (rh me (Wd.mk (pv 1)) (kB (cu (QeO bb (kB (cu cP (cu cP (cu cP pY)))) (Wd.mk (aX jP (aF bb (pv 0) au (fun _ _=>O)) au)) (fun _ _=>O)) pY)))))))))))))))) (gE (Xx.mk (aK (cW ZQ QbY QbW wP aN (af (pv 1) ai))))))))),?_⟩
  refine⟨_,O,l,_,_,_,O,O,P'.of hl,O,x0,O,fun g H1 s1 ng h1=>?_⟩
  have C:=Ny x0
  generalize BO x0=ws at C h1
  have c5:=C.hi
  have c1:=C.lo
  have a0:V1 (ws.map V.str) 0=i' (.str (w0 ws)):=Qa7 (k:=0) (Qbj 0) (by lia)
  have cj:=s1 _ _ hl
  refine⟨_,O,g,O,⟨_,P'.of h1⟩,fun D hD=>?_⟩
  have nD:H D=B':=uY s1 hD
  have gD:g≠D:=ao h1 hD
  refine Ev (K:=K) (l:=g) (xs:=ws.map V.str) (fun j τ G=>∃ v1 v2,τ=[v1,v2]∧ae H1 G∧G D=i' (.lst ((X6 ws j).map V.int))) ⟨B',B',rfl,ae.new hD,ah⟩ ?_ ?_ ?_
  .rintro j τ G _ ⟨_,_,rfl,sg,_⟩
   exact P'.of (sg _ _ h1)
  .rintro j x tt τ G hx nt ⟨v1,v2,rfl,sg,hG⟩
   obtain⟨z,hz,rfl⟩:=uJ hx
   have hj:=(VI.mp hz).1
   have s3:ae G (upd G tt (.tup [.int j,.str z])):=ae.new nt
   have h3:upd G tt (.tup [.int j,.str z]) tt=i' (.tup [.int j,.str z]):=ah
   generalize upd G tt (.tup [.int j,.str z])=G3 at s3 h3 ⊢
   have pl:=Ng ws j
   have zD:ws.getD j VT=z:=by rw[X8,hz];rfl
   have z1:=C.wl z (V9 hz)
   refine⟨tt,_,O,Vi.of h3,O,_,_,O,_,_,O,O,?_⟩
   have no:XA ws j=M'→∃ v1 v2,[i' (V.int (j:Int)),i' (V.str z)]=[v1,v2]∧ae H1 G3∧G3 D=i' (.lst ((X6 ws (j+1)).map V.int)):=fun e=>⟨_,_,O,sg.trans s3,by rw[GE,U4 (by rw[e];decide),Xq];exact s3 _ _ hG⟩
   refine⟨_,O,_,_,O,O,_,O,bc (fun c=>?_) (fun c=>?_)⟩
   .have c:0<j:=by have:=of_decide_eq_true c;lia
    cases hc:(cl z)[0]? with
    | none=>
     have:=QfP.mp hc
     rw[qX] at this
     lia
    | some ch=>
    have ec:XA ws j=Xb ch:=by
     unfold XA c0
     rw[zD,decide_eq_true c,QdV,List.headD_eq_head?_getD,Qf4,hc]
     rfl
    refine⟨_,O,z,_,ch,O,O,by rw[Vm];lia,by rw[iw (Qbj 0)];exact hc,_,_,O,O,_,O,?_⟩
    refine bc (fun c2=>?_) (fun c2=>?_)
    .have c2:XA ws j=D':=ec.trans c2
     refine⟨_,O,_,s3 _ _ hG,by rw[U1,Vm];lia,_,_,O,cz hD (sg.trans s3),?_⟩
     rw[ah,GE,U3 c2,Vr]
     rfl
    .exact no (ec.trans c2)
   .refine no ?_
    have c:¬ 0<j:=fun z=>by have:=of_decide_eq_false c;lia
    unfold XA
    rw[decide_eq_false c]
    rfl
  rintro τ G ⟨v1,v2,rfl,sg,hG⟩
  rw[U1] at hG
  have gk:=sg _ _ h1
  have sG:=s1.trans sg
  have lG:=sG _ _ hl
  have pin:∀ z∈X6 ws ws.length,∃ k:Nat,z=k∧k<ws.length∧XA ws k=D':=fun z hz=>Qma hz
  have wG:w0 ws∈ws:=qb (by lia)
  generalize X6 ws ws.length=ps at hG pin
  have aG:∀ {G':Hp}{q:F'}{c:List C'},W1 c=D'→ae H G'→G' q=i' (.lst (c.map V.str))→rJoin K (.str bk) [.ref q] G' Q:=fun ok s' hq=>by
   unfold W1 at ok
   simp only[XB,decide_eq_true_eq] at ok
   exact⟨bk,_,_,O,O,P'.of hq,ok.2,k _ _ s' ok.1.1 ok.1.2⟩
  refine⟨_,O,l,_,_,_,O,O,P'.of lG,O,_,_,O,O,by decide,?_⟩
  generalize x1 % 6=wy
  have eD:∀ (x:C'),decide (V.str (w0 ws)=V.str x)=decide (w0 ws=x):=fun x=>Qmb _ _
  refine⟨_,O,_,_,O,O,_,O,?_⟩
  have m0:∀ {n:Int},0<n→∀ x:Int,0≤x % n∧x % n<n:=fun hn x=>⟨QaF _ (by lia),Qav _ hn⟩
  have eC:∀ xs:List C',Yj (.str (w0 ws)) (xs.map V.str)=decide (w0 ws∈xs):=fun xs=>FV _ _
  refine bc (fun c=>?ga) (fun c=>?gb)
  case' ga=>
   refine⟨_,O,(by show 0≤U2;decide),fun z nz=>?_⟩
   have sz:ae G (upd G z (.lst [])):=ae.new nz
   have hz:upd G z (.lst []) z=i' (.lst []):=ah
   generalize upd G z (.lst [])=G2 at sz hz ⊢
   refine⟨.lst (ps.map Dt.int),.lst [],O,O,⟨D,_,O,P'.of (sz _ _ hG),Fs _⟩,⟨z,[],O,P'.of hz,O⟩,Mt _,_,O,?_⟩
   replace gk:=sz _ _ gk
   replace lG:=sz _ _ lG
   replace hG:=sz _ _ hG
   replace sG:=sG.trans sz
   clear hz sz nz sg
   obtain⟨G,rfl⟩:∃ x,x=G2:=⟨_,O⟩
   rcases ps with _|⟨p0,ps⟩
   rotate_left
   .refine cY ?_
    generalize KA:p0::ps=pz at hG pin
    have Dh:0<(pz.length:Int):=by rw[← KA,WV];lia
    obtain⟨r0,r1⟩:=m0 Dh x2
    obtain⟨y,hy,Lm⟩:=EW r0 r1
    obtain⟨kk,rfl,hk,ip⟩:=pin y (V9 hy)
    refine⟨_,O,l,_,_,_,O,O,P'.of lG,O,_,O,g,_,_,_,O,O,P'.of gk,a0,O,x3,_,O,fun G3 s3=>?_⟩
    have od:=C.pa kk hk ip
    rw[eD]
    have ol:=Hn (decide (w0 ws=Vb "draw"))
    obtain⟨o0,o1⟩:=m0 (n:=((gg (decide (w0 ws=Vb "draw"))).length:Int)) (by lia) x3
    have om:=od _ (qb (k:=(x3 % ((gg (decide (w0 ws=Vb "draw"))).length:Int)).toNat) (by lia))
    have JV:=s3 _ _ gk
    refine⟨_,O,_,O,_,O,l,_,_,_,O,O,P'.of (s3 _ _ lG),O,_,O,D,_,O,.inl (P'.of (s3 _ _ hG)),_,_,O,O,by rw[U1];exact Dh,D,_,_,_,O,O,P'.of (s3 _ _ hG),by rw[U1];exact Lm,?_⟩
    refine⟨g,_,kk,kk,O,O,JV,by rw[U1];exact kJ (by lia) (by lia),?_⟩
    rw[Ew]
    exact⟨O,_,O,aG om (cz ng (sG.trans s3)) ah⟩
   refine gC ?_
   clear hG pin c
  case' gb=>clear hG pin c sg
  all_goals
   refine⟨_,O,O,_,O,bc (fun c3=>?_) (fun c3=>?_)⟩
   .refine⟨(by show 10≤U2;decide),fun z nz=>?_⟩
    have sz:ae G (upd G z (.lst (ten.map V.str))):=ae.new nz
    have hz:upd G z (.lst (ten.map V.str)) z=i' (.lst (ten.map V.str)):=ah
    generalize upd G z (.lst (ten.map V.str))=G2 at sz hz ⊢
    obtain⟨t0,t1⟩:=m0 (n:=10) (by decide) x3
    refine⟨_,O,l,_,_,_,O,O,P'.of (sz _ _ lG),O,_,_,O,O,(by decide),z,_,_,_,O,O,P'.of hz,Qa7 t0 t1,?_⟩
    refine⟨_,O,g,_,0,0,O,O,sz _ _ gk,by rw[U1];exact kJ (Qbj 0) (by lia),?_⟩
    rw[Ew]
    exact⟨O,_,O,aG (C.pb _ (qb (by show _<10;lia))) (cz ng (sG.trans sz)) ah⟩
   refine⟨_,O,O,_,O,bc (fun c4=>?_) (fun c4=>?_)⟩
   refine⟨_,O,g,_,O,.inl (P'.of gk),_,_,O,O,_,O,bc (fun c5=>?_) (fun c5=>?_)⟩
   .have d5:¬ ws.length≤1:=fun z=>by
     have:=of_decide_eq_true c5
     rw[U1] at this
     lia
    refine⟨_,O,g,_,_,_,O,O,P'.of gk,a0,(by show 2≤U2;decide),fun z nz=>?_⟩
    have sz:ae G (upd G z (.tup (X7.map V.str))):=ae.new nz
    have hz:upd G z (.tup (X7.map V.str)) z=i' (.tup (X7.map V.str)):=ah
    refine⟨z,_,O,.inr (Vi.of hz),O,O,_,O,?_⟩
    rw[eC X7]
    have gz:=sz _ _ gk
    replace sz:=sG.trans sz
    refine bc (fun c6=>?_) (fun c6=>?_)
    .have c6:w0 ws∉X7:=by simpa using c6
     refine⟨_,O,_,O,_,O,g,_,O,P'.of gz,fun q nq=>?_⟩
     rw[show du (ws.map V.str) B' (i' (-1))=_ from Np c1]
     exact⟨O,_,O,aG (C.pc d5 c6) (sz.trans (ae.new nq)) ah⟩
    .have c6:(!decide (w0 ws∈X7))=M':=c6
     have c6:w0 ws∈X7:=by simpa only[Qb1,decide_eq_true_eq] using c6
     refine⟨_,O,O,_,O,fW c4 ?_⟩
     refine⟨_,O,g,_,O,.inl (P'.of gz),_,_,O,O,_,O,fW c5 ?_⟩
     have pd:=C.pd d5 c6
     refine⟨_,O,(by show 2≤U2;decide),fun y ny=>?_⟩
     have sy:=ae.new (o:=.lst [.int 1,.int 2]) ny
     refine⟨_,O,g,_,_,_,O,O,P'.of (sy _ _ gz),a0,O,.inr ⟨_,O,?_⟩⟩
     rw[eD]
     refine⟨y,_,_,.int ((if w0 ws=Vb "arrow" then 2 else 1:Nat):Int),O,O,P'.of ah,?_,_,O,g,_,O,P'.of (sy _ _ gz),fun q nq=>?_⟩
     .by_cases ea:w0 ws=Vb "arrow"
      .rw[decide_eq_true ea,U3 ea];rfl
      .rw[decide_eq_false ea,U4 ea];rfl
     rw[wu]
     exact⟨O,_,O,aG pd (sz.trans (sy.trans (ae.new nq))) ah⟩
   refine⟨_,O,O,_,O,fW c4 ?_⟩
   refine⟨_,O,g,_,O,.inl (P'.of gk),_,_,O,O,_,O,cI c5 ?_⟩
   clear c5
   rotate_left
   refine⟨_,O,O,_,O,cI c4 ?_⟩
  all_goals
   clear c3 c4
   refine⟨_,O,g,_,_,_,O,O,P'.of gk,a0,O,_,O,?_⟩
   rw[eD]
   refine bc (fun ea=>?_) (fun ea=>?_)
   .have ea:=of_decide_eq_true ea
    refine⟨_,O,(by show 3≤U2;decide),fun z nz=>?_⟩
    have sz:=ae.new (o:=.lst (Qa8.map V.str)) nz
    refine⟨_,O,g,_,O,.inl (P'.of (sz _ _ gk)),_,_,O,O,_,O,z,_,O,P'.of ah,fun y ny=>?_⟩
    rw[show(6:Int)-((ws.map V.str).length:Int)=((6-ws.length:Nat):Int) by rw[U1];lia,show du [V.str (Vb "1"),V.str (Vb "1"),V.str (Vb "1")] B' (i' ((6-ws.length:Nat):Int))=_ from wu Qa8 _]
    have sy:=ae.new (o:=.lst ((Qa8.take (6-ws.length)).map V.str)) ny
    refine⟨g,y,_,_,O,O,sy _ _ (sz _ _ gk),ah,?_,fun q nq=>?_⟩
    .rw[U1,U1,VJ,Vm];lia
    rw[← Vr]
    exact⟨O,_,O,aG (C.pe ea) (sG.trans (sz.trans (sy.trans (ae.new nq)))) ah⟩
   have ea:=of_decide_eq_false ea
   refine⟨_,O,g,_,_,_,O,O,P'.of gk,a0,O,_,O,?_⟩
   rw[eD]
   refine bc (fun eb=>?_) (fun eb=>?_)
   .have eb:=of_decide_eq_true eb
    obtain⟨w4,pf⟩:=C.pf ea eb
    refine⟨_,O,(by show 2≤U2;decide),fun z nz=>?_⟩
    have sz:=ae.new (o:=.lst (oa.map V.str)) nz
    refine⟨_,O,g,_,O,.inl (P'.of (sz _ _ gk)),_,_,O,O,_,O,z,_,O,P'.of ah,fun y ny=>?_⟩
    rw[show(4:Int)-((ws.map V.str).length:Int)=((4-ws.length:Nat):Int) by rw[U1];lia,show du [V.str (Vb "1"),V.str (Vb "a")] B' (i' ((4-ws.length:Nat):Int))=_ from wu oa _]
    have sy:=ae.new (o:=.lst ((oa.take (4-ws.length)).map V.str)) ny
    refine⟨g,y,_,_,O,O,sy _ _ (sz _ _ gk),ah,?_,fun q nq=>?_⟩
    .rw[U1,U1,VJ,Vm];lia
    rw[← Vr]
    exact⟨O,_,O,aG pf (sG.trans (sz.trans (sy.trans (ae.new nq)))) ah⟩
   .have eb:=of_decide_eq_false eb
    obtain⟨t0,t1⟩:=m0 (n:=3) (by decide) x3
    refine⟨_,O,(by show 3≤U2;decide),fun z nz=>?_⟩
    have sz:=ae.new (o:=.lst (oea.map V.str)) nz
    refine⟨_,O,l,_,_,_,O,O,P'.of (sz _ _ lG),O,_,_,O,O,(by decide),z,_,_,_,O,O,P'.of ah,Qa7 (l:=oea) t0 t1,(by show 1≤U2;decide),fun y ny=>?_⟩
    have sy:=ae.new (o:=.lst ([oea.getD (x3 % 3).toNat VT].map V.str)) ny
    refine⟨g,y,_,_,O,O,sy _ _ (sz _ _ gk),ah,?_,fun q nq=>?_⟩
    .rw[U1,Vm];show ws.length+1≤_;lia
    exact⟨O,_,O,aG (c:=ws++[oea.getD (x3 % 3).toNat VT]) (C.pg ea eb _ (qb (by show _<3;lia))) (sG.trans (sz.trans (sy.trans (ae.new nq)))) (by rw[Vr];exact ah)⟩
end
section
variable {K:R'}
inductive MU (K:R') (a:VS) (vs:List V) (H:Hp) (Q:VK) (bg:XK):Prop
 | mk (d p r lv kvs l:_) (_:vs=[.ref d,.str l]) (_:dY K a H d p r bA lv kvs) (_:qP l=D') (_:l.length≤900) (_:∀ H',ae H H'→Q (.bl D') H')
theorem PM (T:Tx K mg a) (Z:KD P w K a.LINES (ia a)):Vz P w K mg base Vp 11 "_law_refused" ["_law_desk","_law_text"] [] (MU K a):=T.Qkz.Vq fun f fd F=>by
 have Yo:=Bl (P:=P) (w:=w) (base:=base) T Z
 refine F.ok AN (fun vs H Q E h=>?_) (fun aw A outer s H vs Q E hr h=>?_)
 .obtain⟨d,p,r,lv,kvs,l,rfl,_⟩:=h
  rfl
 .obtain⟨d,p,r,lv,kvs,l,rfl,D,bad,hl,k⟩:=h
  obtain⟨dx,hd⟩:=D.ex
  refine⟨_,(ak (Qi1 ⟨O,O⟩ O (YH.YI (i:=2) O T.QjQ T.QjR T.QjS (by decide) AN.nd rfl rfl (fun a H₀=>(ak (aR (i:=3) AN.nd O (by first|exact UY rfl|exact UX O) (w5 (bx (va (K:=K) O) O T.Zd nK (af (pv 2) (af (pQ O T.Qe0) ai))) (w5 (bx (va (K:=K) O) O T.Zd nK (af (pv 2) (af (pQ O T.QcT) ai))) (w5 (bx (va (K:=K) O) O T.Zd nK (af (pv 2) (af (pQ O T.QjO) ai))) (pD (bx (va (K:=K) O) O T.Zd nK (af (pv 2) (af (pQ O T.QjP) ai))))))))
   (av (aK (uX (bx (va (K:=K) O) O T.Zd nK (af (pv 2) (af (pQ O T.QjI) ai))) (uX (HS (pv 3)) (pD (jS cw (Nu (K:=K) O (pv 2) O) au (aV _))))))))) YH.nil) (fun pn E1 R1 bX Rz=>(av (cF (g8 (pv 0) T.Wr Yo bX (hr.mono (by decide)) (af (pv 1) ai))))) bp)
   (av (aK uz))),?_⟩
  refine⟨_,O,d,dx,_,O,hd,by rfl,_,O,d,p,r,bA,lv,kvs,l,O,D,hl,.inr (.inr (.inr ⟨O,bad,fun e H1 s1 he=>?_⟩))⟩
  refine⟨a.NoLine,D',O,T.Qk0,cY (fun x ob hx ho iH hf=>?_)⟩
  have s3:ae H1 (upd H1 x (.Vf ob (.own x))):=ae.new hx
  have ix:Ym (upd H1 x (.Vf ob (.own x))) x a.NoLine (i' e):=⟨ob,.own x,ah,ho,iH,hf⟩
  have qt:=s3 _ _ he
  have t3:=s1.trans s3
  refine⟨_,O,x,a.NoLine,i' e,_,_,M',O,ix,⟨_,qt⟩,T.QaV,(fun _ r=>r),T.Qk1,_,O,gC ?_⟩
  refine⟨_,O,x,a.NoLine,i' e,_,_,M',O,ix,⟨_,qt⟩,T.QaV,(fun _ r=>r),T.Qk2,_,O,gC ?_⟩
  refine⟨_,O,x,a.NoLine,i' e,_,_,M',O,ix,⟨_,qt⟩,T.QaV,(fun _ r=>r),T.Qk3,_,O,gC ?_⟩
  refine⟨_,O,x,a.NoLine,i' e,_,_,M',O,ix,⟨_,qt⟩,T.QaV,(fun _ r=>r),T.Qk4,?_⟩
  refine⟨_,O,x,a.NoLine,i' e,_,_,D',O,ix,⟨_,qt⟩,T.QaV,(fun _ r=>r),T.Qk5,_,O,cY ?_⟩
  refine⟨_,O,_,O,_,O,cY ?_⟩
  exact⟨_,O,x,a.NoLine,e,_,_,O,ix,qt,T.QjX,WT,O,k _ t3⟩
def Xl (kvs:Vl):List C':=[Qda,QbJ kvs,Qfk]
inductive QZ (K:R') (a:VS) (vs:List V) (H:Hp) (Q:VK) (bg:XK):Prop
 | mk (d p r lv kvs:_) (_:vs=[.ref d]) (_:dY K a H d p r bA lv kvs) (_:nI kvs) (_:∀ l H',ae H H'→H' l=i' (.lst ((Xl kvs).map V.str))→Q (.ref l) H')
theorem OX (T:Tx K mg a) (Z:KD P w K a.LINES (ia a)):Vz P w K mg base Vp 11 "_law_state" ["_law_desk"] [] (QZ K a):=T.QkD.Vq fun f fd F=>by
 have Yo:=Bl (P:=P) (w:=w) (base:=base) T Z
 refine F.ok LA (fun vs H Q E h=>?_) (fun aw A outer s H vs Q E hr h=>?_)
 .obtain⟨d,p,r,lv,kvs,rfl,_⟩:=h
  rfl
 .obtain⟨d,p,r,lv,kvs,rfl,D,lo,k⟩:=h
  obtain⟨dx,hd⟩:=D.ex
  refine⟨_,(av (aK (dC (af (g8 (pv 0) T.Wr Yo rC (hr.mono (by decide)) (af aN ai)) (af (g8 (pv 0) T.Wr Yo rC (hr.mono (by decide)) (af aN ai)) (af (g8 (pv 0) T.Wr Yo rC (hr.mono (by decide)) (af aN ai)) ai)))))),?_⟩
  refine⟨_,O,d,dx,_,O,hd,by rfl,d,p,r,bA,lv,kvs,_,O,D,(by decide +kernel),.inr (.inr (.inl ⟨O,lo,_,.inl ⟨O,O⟩,fun H1 s1=>?_⟩))⟩
  refine⟨_,O,d,dx,_,O,s1 _ _ hd,by rfl,d,p,r,bA,lv,kvs,_,O,D.same s1,(by decide +kernel),.inr (.inr (.inl ⟨O,lo,_,.inr (.inl ⟨O,O⟩),fun H2 s2=>?_⟩))⟩
  have jX:=s1.trans s2
  refine⟨_,O,d,dx,_,O,jX _ _ hd,by rfl,d,p,r,bA,lv,kvs,_,O,D.same jX,(by decide +kernel),.inr (.inr (.inl ⟨O,lo,_,.inr (.inr ⟨O,O⟩),fun H3 s3=>?_⟩))⟩
  exact⟨(by show 3≤U2;decide),fun q nq=>k q _ (jX.trans (s3.trans (ae.new nq))) ah⟩
end
def wY:Nat→cv
 | 0=>Yr
 | 1=>qV
 | 2=>jT
 | 3=>pK
 | _=>bA
theorem Qmc:jq nB=D':=by decide +kernel
theorem Qdc:has jT.kvs nA=D'∧has jT.kvs nB=D':=by
 refine⟨?_,?_⟩<;>unfold has
 .rw[QbH.1];rfl
 .rw[QbH.2];rfl
theorem Qmd:has qV.kvs nB=M':=by
 show(aS [((U7 nA:Key),V.int 0)] (U7 nB)).isSome=M'
 rw[cf (fun z=>U' (XW z) (by decide))]
 rfl
theorem wS {q:Rd} (h:(look (VG l bk)).map (fun q=>(q.k,q.ns,q.xs))=i' (q.k,q.ns,q.xs)):look (VG l bk)=i' q:=by
 cases e:look (VG l bk) with
 | none=>rw[e] at h;cases h
 | some p=>
  rw[e] at h
  obtain⟨k,ns,xs⟩:=p
  obtain⟨k',RS,Co⟩:=q
  cases h
  rfl
theorem fh:qN Yr (Vb "point a") ⟨WG,[nA],[0]⟩:=by
 refine⟨⟨by decide,by decide,(fun _ h=>by cases h),by decide,by decide⟩,by decide,by decide,⟨WG,nA,[],by decide +kernel,by decide +kernel⟩,wS (by decide +kernel),.inl rfl,?_⟩
 show(if WG=WG then jm Yr.kvs nA 0 else _)=B'
 rw[U3 rfl]
 decide +kernel
theorem put2:qN qV (Vb "point b 4") ⟨WG,[nB],[4]⟩:=by
 refine⟨⟨by decide,by decide,(fun _ h=>by cases h),by decide,by decide⟩,by decide,by decide,⟨WG,nB,[Vb "4"],by decide +kernel,by decide +kernel⟩,wS (by decide +kernel),.inl rfl,?_⟩
 show(if WG=WG then jm qV.kvs nB 4 else _)=B'
 rw[U3 rfl]
 unfold jm
 rw[U4 (by rw[Qmc];decide),U4 (by rw[Qmd];decide),U4 (by decide),U4 (by decide)]
theorem put3:qN jT (Vb "arrow a b 2 7") ⟨WH,[nA,nB],[2,7]⟩:=by
 refine⟨⟨by decide,by decide,(fun _ h=>by cases h),by decide,by decide⟩,by decide,by decide,⟨WH,nA,[nB,Vb "2",Vb "7"],by decide +kernel,by decide +kernel⟩,wS (by decide +kernel),.inr rfl,?_⟩
 show(if WH=WG then _ else if WH=WH then kI jT nA nB 2 7 else _)=B'
 rw[U4 (by decide),U3 rfl,Bs (by unfold two;rw[U4 (by rw[Qdc.1];decide),U4 (by rw[Qdc.2];decide),U4 (by decide)])]
 decide
theorem qK:qN pK (Vb "arrow b a") ⟨WH,[nB,nA],[1,1]⟩:=by
 refine⟨⟨by decide,by decide,(fun _ h=>by rw[Vn.mp h];decide),by decide,by decide⟩,by decide,by decide,⟨WH,nB,[nA],by decide +kernel,by decide +kernel⟩,wS (by decide +kernel),.inr rfl,?_⟩
 show(if WH=WG then _ else if WH=WH then kI pK nB nA 1 1 else _)=B'
 have h2:has pK.kvs nA=D'∧has pK.kvs nB=D':=Qdc
 rw[U4 (by decide),U3 rfl,Bs (by unfold two;rw[U4 (by rw[h2.2];decide),U4 (by rw[h2.1];decide),U4 (by decide)])]
 decide
theorem wF:(⟨WG,[nA],[0]⟩:Rd).put Yr=qV∧(⟨WG,[nB],[4]⟩:Rd).put qV=jT∧(⟨WH,[nA,nB],[2,7]⟩:Rd).put jT=pK∧(⟨WH,[nB,nA],[1,1]⟩:Rd).put pK=bA:=
 ⟨U3 rfl,U3 rfl,(U4 (by decide)).trans (U3 rfl),(U4 (by decide)).trans (U3 rfl)⟩
abbrev qS:List C':=["point a","point b 4","arrow a b 2 7","arrow b a"]
theorem Qme (h:qS[i]?=i' l):∃ q,qN (wY i) l q∧q.put (wY i)=wY (i+1)∧l.length≤900:=by
 match i,h with
 | 0,h=>cases h;exact⟨_,fh,wF.1,by decide +kernel⟩
 | 1,h=>cases h;exact⟨_,put2,wF.2.1,by decide +kernel⟩
 | 2,h=>cases h;exact⟨_,put3,wF.2.2.1,by decide +kernel⟩
 | 3,h=>cases h;exact⟨_,qK,wF.2.2.2,by decide +kernel⟩
 | i+4,h=>cases h
end Nt
section
open Nt
theorem Qmf (ns:List Int):∃ ms:List Int,du (ns.map V.int) (i' 1) (i' 17)=ms.map V.int∧ms.length≤16:=by
 refine⟨(ns.drop (min 1 ns.length)).take (min 17 ns.length-min 1 ns.length),?_,?_⟩
 .unfold du
  have e1:HT.Vj (ns.map V.int).length 0 (i' 1)=min 1 (ns.map V.int).length:=HT.ZE _ _ 1
  have e2:HT.Vj (ns.map V.int).length (ns.map V.int).length (i' 17)=min 17 (ns.map V.int).length:=HT.ZE _ _ 17
  rw[e1,e2,QdT,QdU,U1]
 .rw[VJ]
  lia
inductive Qfl (K:R') (t:VS) (vs:List V) (H:Hp) (Q:VK) (bg:XK):Prop
 | mk (p:F') (ns:List Int) (_:vs=[.ref p]) (_:P' K H p (ns.map V.int)) (_:ns.length≤63) (_:H t.YK=i' (.V' ko kH)) (_:∀ H',Q (.bl D') H')
section
variable {K:R'}
theorem Qmg (T:Tx K mg a) (Z:KD P w K a.LINES (ia a)) (f:F') (fd:XE) (F:dX K "law" "law" uT f fd):cg P w K mg base Vp 16 f fd ["_law_script"] (Qfl K a):=by
 have dc:=O4 (P:=P) (w:=w) (base:=base) T
 have dG:=Oz (P:=P) (w:=w) (base:=base) T
 have dM:=Qs (P:=P) (w:=w) (base:=base) T
 have c7:=PM (P:=P) (w:=w) (base:=base) T Z
 have cn:=OX (P:=P) (w:=w) (base:=base) T Z
 have Qc3:=NY (P:=P) (w:=w) (base:=base) T
 have Yo:=Bl (P:=P) (w:=w) (base:=base) T Z
 refine F.ok rj (fun vs H Q E h=>?_) (fun aw A outer s H vs Q E hr h=>?_)
 .obtain⟨p,ns,rfl,_⟩:=h
  rfl
 .obtain⟨S,ns,rfl,hS,aq,iM,kq⟩:=h
  refine⟨_,(ak (aR (i:=1) rj.nd O (by first|exact UY rfl|exact UX O) (aX jP (br dc (hr.mono (by decide)) rfl (af (pv 0) (af au ai))) au))
   (ak (aR (i:=2) rj.nd O (by first|exact UY rfl|exact UX O) (Ht Qc3 (hr.mono (by decide)) rfl))
   (ak (fg Wu rfl (bF (dC (af aN (af aN (af aN (af aN ai)))))) (aC (i:=3) rj.nd O (by first|exact UY rfl|exact UX O)) (av (cF (g8 (pv 2) T.Wr Yo rC (hr.mono (by decide)) (af (pv 3) ai)))))
   (ak (bo (a7 cw (aX jP (pv 1) au) au (aV _)) (av (cF (g8 (pv 2) T.Wr Yo rC (hr.mono (by decide)) (af aN ai)))) bp)
   (ak (aR (i:=4) rj.nd O (by first|exact UY rfl|exact UX O) (br cn (hr.mono (by decide)) rfl (af (pv 2) ai)))
   (ak (fg Wu rfl (bF (m5 nL (pv 0) (jL au) (jL au))) (aC (i:=1) rj.nd O (by first|exact UY rfl|exact UX O)) (av (bo (kG (iT (br c7 (hr.mono (by decide)) rfl (af (pv 2) (af (br dM (hr.mono (by decide)) rfl (af (br dG (hr.mono (by decide)) rfl (af (pv 1) (af au ai))) ai)) ai))))) (av (aK uz)) bp)))
   (av (aK (jS (QiR hr.units) (br cn (hr.mono (by decide)) rfl (af (pv 2) ai)) (pv 4) (aV _)))))))))),?_⟩
  refine⟨_,O,S,ns,0,O,hS,by decide,fun c=>⟨_,_,O,O,(by show(0:Int)<2147483647;decide),?_⟩⟩
  generalize c % 2147483647=c
  refine fun d dx nd Jv ne=>⟨d,dx,O,ah,fun p r lv H1 fr ap D=>⟨O,?_⟩⟩
  have e0:∀ b o,H b=i' o→upd (upd H dx (.own d)) d (.ins a.Desk dx []) b=i' o:=fun b o e=>by rw[aj (ao e nd),aj (ao e Jv)];exact e
  have s1:ae H H1:=fun b o e=>fr b o (e0 b o e) (ao e nd)
  have kd:∀ {G G':Hp},ae H G→Zf d p r G G'→ae H G':=fun sg kp b o e=>by
   obtain⟨z1,z2,z3,z4,z5⟩:=ap b o (e0 b o e)
   exact kp b o (sg b o e) (ao e nd) z1 z2 z3 z4 z5
  refine⟨(by show 4≤U2;decide),fun ll oU=>?_⟩
  have s2:ae H1 (upd H1 ll (.lst (qS.map V.str))):=ae.new oU
  have h2:upd H1 ll (.lst (qS.map V.str)) ll=i' (.lst (qS.map V.str)):=ah
  have qw:ll≠d∧ll≠p∧ll≠r.dh∧ll≠r.da∧ll≠r.ls∧ll≠r.lm:=by
   obtain⟨⟨dd,ed⟩,⟨⟨dy,e1⟩,e2,⟨bY,e3,_⟩,⟨xs,e4,_⟩,⟨ys,e5,_⟩,_⟩,_⟩:=D
   exact⟨U5 (ao ed oU),U5 (ao e1 oU),U5 (ao e2 oU),U5 (ao e3 oU),U5 (ao e4 oU),U5 (ao e5 oU)⟩
  have D2:=D.same s2
  have S2:=s1.trans s2
  refine⟨ll,O,⟨_,P'.of h2⟩,jW (K:=K) (a:=ll) (xs:=qS.map V.str) (fun i σ G=>∃ v3,σ=[i' (.ref S),i' (.int c),i' (.ref d),v3,B']∧ae H G∧G ll=i' (.lst (qS.map V.str))∧dY K a G d p r (wY i) lv []) ⟨B',rfl,S2,h2,D2⟩ ?_ ?_ ?_⟩
  .rintro i σ G _ ⟨v3,rfl,_,hG,_⟩
   exact P'.of hG
  .rintro i x σ G hx ⟨v3,rfl,sg,hG,DG⟩
   obtain⟨l,hl,rfl⟩:=uJ hx
   obtain⟨q,pl,pq,IT⟩:=Qme hl
   obtain⟨bW,yD⟩:=DG.ex
   dsimp only[bE]
   exact⟨_,O,d,bW,_,O,yD,by rfl,_,O,d,p,r,_,lv,_,l,O,DG,IT,.inl ⟨q,pl,fun x H3 kp D3=>⟨_,O,kd sg kp,kp _ _ hG qw.1 qw.2.1 qw.2.2.1 qw.2.2.2.1 qw.2.2.2.2.1 qw.2.2.2.2.2,by rw[← pq];exact D3⟩⟩⟩
  rintro σ H3 ⟨v3,rfl,S3,_,D3⟩
  have D3:dY K a H3 d p r bA lv []:=D3
  apply Qji (fun _:Unit=>[i' (.ref S),i' (.int c),i' (.ref d),v3,B']) (fun _ H'=>ae H H'∧∃ lv kvs,nI kvs∧dY K a H' d p r bA lv kvs)
  case g=>
   intro aW
   refine⟨_,O,_,_,O,O,(by show(0:Int)<2;decide),O,_,O,?_⟩
   refine bc (fun _=>?_) (fun _=>?_)
   .obtain⟨bW,yD⟩:=D3.ex
    exact⟨_,O,d,bW,_,O,yD,by rfl,d,p,r,_,lv,_,_,O,D3,by decide +kernel,.inr (.inl ⟨O,O,S3 _ _ iM,fun x l2 H4 kp _ D4=>aW () H4 ⟨kd S3 kp,l2,fe,.inr O,D4⟩⟩)⟩
   .exact aW () H3 ⟨S3,lv,[],.inl O,D3⟩
  case h=>
  rintro⟨⟩ H4 ⟨S4,lv,kvs,lo,D4⟩
  refine⟨_,O,d,p,r,lv,kvs,O,D4,lo,fun g H5 s5 hg=>?_⟩
  have S5:=S4.trans s5
  have D5:=D4.same s5
  dsimp only[bE]
  obtain⟨ms,JA,RG⟩:=Qmf ns
  refine⟨_,O,_,O,_,O,S,_,O,S5.V3 hS,fun q1 sY=>?_⟩
  rw[JA]
  have s6:ae H5 (upd H5 q1 (.lst (ms.map V.int))):=ae.new sY
  have h6:upd H5 q1 (.lst (ms.map V.int)) q1=i' (.lst (ms.map V.int)):=ah
  generalize upd H5 q1 (.lst (ms.map V.int))=H6 at s6 h6 ⊢
  refine⟨q1,O,⟨_,P'.of h6⟩,jW (K:=K) (a:=q1) (xs:=ms.map V.int) (fun i σ G=>∃ v1,σ=[i' (.ref S),v1,i' (.ref d),v3,i' (.ref g)]∧ae H6 G) ⟨_,rfl,ae.refl _⟩ ?_ ?_ ?_⟩
  .rintro i σ G _ ⟨_,rfl,sg⟩
   exact P'.of (sg _ _ h6)
  .rintro i x σ G hx ⟨v1,rfl,sg⟩
   obtain⟨z,_,rfl⟩:=pF hx
   dsimp only[bE]
   refine⟨_,O,_,O,z,4,O,by decide,by decide,fun t xs G1 tU nt ht xl=>?_⟩
   match xs,xl with
   | [x0,x1,x2,x3],_=>
   refine⟨t,x0,x1,x2,x3,O,ht,fun l G2 r9 bad l9=>?_⟩
   have sA:=(s6.trans sg).trans (tU.trans r9)
   refine⟨d,p,r,lv,kvs,l,O,D5.same sA,bad,l9,fun G3 sJ=>⟨_,O,gC ⟨_,O,sg.trans (tU.trans (r9.trans sJ))⟩⟩⟩
  rintro σ G ⟨v1,rfl,sg⟩
  have Cr:=s6.trans sg
  refine⟨_,O,d,p,r,lv,kvs,O,D5.same Cr,lo,fun g2 G2 s7 zJ=>?_⟩
  refine⟨_,O,.lst ((Xl kvs).map Dt.str),.lst ((Xl kvs).map Dt.str),O,O,⟨g2,_,O,P'.of zJ,Bo _⟩,⟨g,_,O,P'.of (s7 _ _ (Cr _ _ hg)),Bo _⟩,?_,?_⟩
  .exact Bx (n:=59) (f:=Dt.str) (fun _=>trivial) _
  .rw[Ay]
   exact kq _
end
end
theorem zmT {K:R'}{n:Nat} (h:K.lookup p=i' ⟨.type "tuple",od,.seq #[] n,sl⟩):∀ H,Vi K H p []:=fun _=>.inr ⟨_,_,_,h,O,O,(by show 0≤U2;decide),.nil⟩
theorem zmU {K:R'}{n:Nat} (h:K.lookup p=i' ⟨.type "tuple",od,.seq #[.int i0 t0] n,sl⟩):∀ H,Vi K H p [.int i0]:=fun _=>.inr ⟨_,_,_,h,O,O,(by show 1≤U2;decide),.cons ⟨_,O⟩ (.nil)⟩
theorem zjP {K:R'}{n:Nat} (h:K.lookup p=i' ⟨.type "tuple",od,.seq #[.int i0 t0,.int i1 t1] n,sl⟩):∀ H,Vi K H p [.int i0,.int i1]:=fun _=>.inr ⟨_,_,_,h,O,O,(by show 2≤U2;decide),.cons ⟨_,O⟩ (.cons ⟨_,O⟩ (.nil))⟩
theorem zit {K:R'}{n:Nat} (h:K.lookup p=i' ⟨.type "tuple",od,.seq #[.int i0 t0,.int i1 t1,.ref i2] n,sl⟩):∀ H,Vi K H p [.int i0,.int i1,.ref i2]:=fun _=>.inr ⟨_,_,_,h,O,O,(by show 3≤U2;decide),.cons ⟨_,O⟩ (.cons ⟨_,O⟩ (.cons rfl (.nil)))⟩
theorem kd4_mk {pr:Vy}{K:R'}{ep:Nat}{k0:C'}{k1:C'}{k2:C'}{k3:C'} (h:K.lookup p=i' ⟨.type "dict",B',.dict #[⟨QaM w (U7 k0),.str k0 t0,.ref p0⟩,⟨QaM w (U7 k1),.str k1 t1,.ref p1⟩,⟨QaM w (U7 k2),.str k2 t2,.ref p2⟩,⟨QaM w (U7 k3),.str k3 t3,.ref p3⟩] ep,#[]⟩) (hs:(p == WO)=M') (hn:[(U7 k0:Key),(U7 k1:Key),(U7 k2:Key),(U7 k3:Key)].Nodup):KD pr w K p [(U7 k0,.ref p0),(U7 k1,.ref p1),(U7 k2,.ref p2),(U7 k3,.ref p3)]:=by
 refine⟨hs,[(U7 k0,.ref p0),(U7 k1,.ref p1),(U7 k2,.ref p2),(U7 k3,.ref p3)],.cons ⟨O,O⟩ (.cons ⟨O,O⟩ (.cons ⟨O,O⟩ (.cons ⟨O,O⟩ (.nil)))),_,h,_,_,⟨O,O,O⟩,O,fun e he=>?_,.cons ki O (.cons ki O (.cons ki O (.cons ki O (.nil)))),hn⟩
 simp only[List.mem_toArray,V5,Zk,Wo] at he
 rcases he with rfl|rfl|rfl|rfl<;>exact⟨_,ki,O⟩
theorem all_mk {l:QcC}{K:R'}{h:Vo}{fa f:F'}{TS:List F'}{q0 q1 q2 q3 q4 q5 q6 q7 q8 q9 Dq CJ Ec CD DD C3 CY Cc vv Cf yG Cw zX B0 yg C8 xD qr:F'}{oc:K'}{an:Option F'}{dH:Array (Option K')}{kV bP pm aw ct:K'} (X:K.In h) (G:h.Ns V6 mg) (Iz:mg "law"=i' (.ref fa)) (gl0:Zq K V6 "LINES"=i' (i' (.ref vv))) (kz0:KD l.prog w K vv [(U7 "point",.ref yG),(U7 "arrow",.ref zX),(U7 "same",.ref yg),(U7 "most",.ref xD)]) (T:Tx K mg ⟨q0,q1,q2,q3,q4,q5,q6,q7,q8,q9,Dq,CJ,Ec,CD,DD,C3,CY,Cc,vv,Cf,yG,Cw,zX,B0,yg,C8,xD,qr⟩) (al:Zq K V6 "law"=i' (i' (.ref f))) (ll:K.lookup f=i' ⟨oc,od,.func (YJ "law" "law" uT kV bP pm an aw ct),dH⟩) (cl:Yu K aw "law"=D') (lm0:qr∈TS) (hnd:([qr]:List F').Nodup) :
  ∃ (fd:XE) (ts:List Tab) (sp:Sp),(∀ (s:UW) (u:K'),Qac s fd ⟨[u],[]⟩ [("_law_script",u)])∧(ts.map (·.1)).Nodup∧(∀ t∈ts,t.1∈TS∧(∃ c,YS K c t.1=D')∧K.lookup t.1=B') ∧
    (∀ (H:Hp) (a:F') (ns:List Int),ns.length≤63→uR ts H→P' K H a (ns.map V.int)→sp [.ref a] H (fun v _=>v=.bl D') fun _ _ _=>False) ∧
    ∀ base:Vo,K.In base→base.Ns V6 mg→cg l.prog w K mg base Vp 16 fa fd ["_law_script"] sp:=by
 have e:=Iz.symm.trans (Z0 X G al)
 cases e
 refine⟨_,[(qr,ko,kH)],Qfl K ⟨q0,q1,q2,q3,q4,q5,q6,q7,q8,q9,Dq,CJ,Ec,CD,DD,C3,CY,Cc,vv,Cf,yG,Cw,zX,B0,yg,C8,xD,qr⟩,fun s v=>.of_eq O,hnd,?_,?_,fun base _ _=>Qmg T kz0 _ _ (qL (st:=uT) ll cl)⟩
 .intro t ht
  simp only[V5,Zk,Wo] at ht
  rcases ht with rfl
  .obtain⟨_,_,⟨c,_,lh⟩,ln⟩:=T.Qe8
   exact⟨lm0,⟨c,lh⟩,ln⟩
 .exact fun H p ns hl hO hS=>⟨p,ns,O,hS,hl,hO.1 (qr,ko,kH) (by simp),fun _=>O⟩
theorem walk {l:QcC}{q:Vy}{ej:List C'}{XP:(C'→Option K')→Vo→Prop}{YP:VL→Vo→Prop}{d:DefRec}{K:Params→R'}{TS:List F'} (hn:l.most=i' 63) (mh:d.params.defaults=[])
  (hY:∀ (w:VL) (h:Vo),YP w h→(K w.params).In h∧∀ P∈TS,h.get? P=i' (Qcb #[]))
  (F:∀ (w:VL) (mg:C'→Option K') (fa:F') (h:Vo),(K w.params).In h→h.Ns V6 mg→mg d.name=i' (.ref fa)→∃ (fd:XE) (ts:List Tab) (sp:Sp),(∀ (s:UW) (u:K'),Qac s fd ⟨[u],[]⟩ [("_law_script",u)])∧(ts.map (·.1)).Nodup∧(∀ t∈ts,t.1∈TS∧(∃ c,YS (K w.params) c t.1=D')∧(K w.params).lookup t.1=B') ∧
    (∀ (H:Hp) (a:F') (ns:List Int),ns.length≤63→uR ts H→P' (K w.params) H a (ns.map V.int)→sp [.ref a] H (fun v _=>v=.bl D') fun _ _ _=>False) ∧
    ∀ base:Vo,(K w.params).In base→base.Ns V6 mg→cg l.prog w (K w.params) mg base Vp 16 fa fd ["_law_script"] sp) :
  PySem.W.WalkO q ej XP YP l.row.toRowW d [] (fun f vs=>Qd5 f vs):=
 L2.znt (n:=63) (k:=16) (x:="_law_script") hn (by decide) mh ⟨by decide,by decide⟩ hY F
end aD
namespace PySem.W.Fast
def tw606511657401636274:=0
def tw14274233334057814616:=0
def tw2020610686704436891:=0
def tw2251702984669776526:=0
def tw8596116897192449577:=0
def tw9306909998087569515:=0
def tw8522046317993221870:=0
def tw15898998510562291667:=0
def tw8835468671848174525:=0
def tw14463272141953749600:=0
def tw7057406663341498746:=0
def tw17513727713723892359:=0
def tw8722136671982854110:=0
def tw2255806321663625403:=0
def tw15032136473134644979:=0
def tw8085545383180435226:=0
def tw18209119020867926622:=0
def tw1660532711250767381:=0
def tw8058227680714537308:=0
def tw276591680681957131:=0
def tw4298349388395434147:=0
def tw5342902960014276741:=0
def tw3757738989058041278:=0
def tw12055422585933981889:=0
def tw5560498580760596366:=0
def tw17498716464532222558:=0
def tw17552674618267794290:=0
def tw972019466611441467:=0
def tw15534811852258694933:=0
def tw4183544931098471124:=0
def tw7229721140307866257:=0
def tw14837542201641650427:=0
def tw11447402987835231486:=0
def tw14001152227956829048:=0
def tw9099614622681142401:=0
def tw1211377482601108232:=0
def tw6495891548059533171:=0
def tw748746669121638256:=0
def tw9965137538722793421:=0
def tw7065476868472268290:=0
def tw1253277589076557555:=0
def tw501396764047982966:=0
def tw10732113309639358337:=0
def tw556538750405258039:=0
def tw7274409903582551749:=0
def tw9949046950064412651:=0
def tw9955662268010600287:=0
def tw5254898531957144655:=0
def tw5750028463927594101:=0
def tw9936514264519382765:=0
def tw16570127079648174267:=0
def tw1441557257927472261:=0
def tw8245495110949666636:=0
def tw4058423364708398507:=0
def tw1466944864404019426:=0
def tw17992028211051267937:=0
def tw6187172230733945491:=0
def tw12250435628122247784:=0
def tw2766985197432967906:=0
def tw13051294051088360688:=0
def tw12892372235304236104:=0
def tw13158508272402978580:=0
def tw1642773936180273546:=0
def tw11680792576697740571:=0
def tw10930409266488210459:=0
def tw17863796884706900006:=0
def tw5021709943391742497:=0
def tw6118139794132235009:=0
def tw7665858254761422135:=0
def tw5345213983596759384:=0
def tw6038139423516280187:=0
def tw9500991750585181353:=0
def tw15138647848230311136:=0
def tw2614612645978783394:=0
def tw6461159567276892791:=0
def tw4165195535071866944:=0
def tw4319570902182646093:=0
def tw4186371446666658849:=0
def tw726478302909124256:=0
def tw14491113434358486656:=0
def tw3929662263125631517:=0
def tw11950718000006017165:=0
def tw7572885663731863992:=0
def tw17043824362285427159:=0
def tw17191180437178751080:=0
def tw10964366185822750438:=0
def tw13243524326562259805:=0
def tw6542980810938880621:=0
def tw17423721513005194518:=0
def tw11462179173116824540:=0
def tw6100475731651398439:=0
def tw11592581919885260324:=0
def tw11219835572311947455:=0
def tw16646495812357967869:=0
def tw10288803111992682292:=0
def tw10478840180394041212:=0
def tw14688322463266385683:=0
def tw13385121069554467042:=0
def tw16565562947452860048:=0
def tw10355936999630507455:=0
def tw15158232672833949450:=0
def tw10354454760526484011:=0
def tw15711830482128847997:=0
def tw11958312245101585172:=0
def tw665944293633457580:=0
def tw17089297294938203659:=0
def tw188082357887337441:=0
def tw17912941757082341928:=0
def tw16616571563870333659:=0
def tw5250735957766883379:=0
def tw8478619271203260376:=0
def tw16145496239639843913:=0
def tw12912303796120993571:=0
def tw10083274187978703301:=0
def tw14421929169114725687:=0
def tw15305090140352099831:=0
def tw8290449640097769703:=0
def tw11797687071913558530:=0
def tw12315743059531846050:=0
def tw8228358653079148895:=0
def tw2901630463424060986:=0
def tw2549555239812716285:=0
def tw10989034834315006538:=0
def tw7920526711106005612:=0
def tw13878079903724412479:=0
def tw2028796945268182822:=0
def tw13134094338356620596:=0
def tw12704529339262970181:=0
def tw5569602593043135122:=0
def tw8067350208869337610:=0
def tw6365796548958296950:=0
def tw859842703286990508:=0
def tw15118680384744565517:=0
def tw6645674815248963883:=0
def tw16592801676146638038:=0
def tw1038181816792161613:=0
def tw14713648391494689970:=0
def tw15671504125083190355:=0
def tw5061230872636674947:=0
def tw10448281482528365535:=0
def tw1943177353881343497:=0
def tw13230213477759077941:=0
def tw16477716366179032594:=0
def tw13119101617947342772:=0
def tw1119501338128137218:=0
def tw8468051103047611411:=0
def tw10170327857150800735:=0
def tw2593652805636290737:=0
def tw977540780179996446:=0
def tw14000276863088908538:=0
def tw15385382645591594823:=0
def tw18297839893703742466:=0
def tw7411365216897063287:=0
def tw12788730151399737474:=0
def tw11173475154175711654:=0
def tw18291629044462324210:=0
def tw7891628241073470076:=0
def tw17856023315009145218:=0
def tw14283074642261635906:=0
def tw5777123570010613004:=0
def tw11292347254572299295:=0
def tw12810158422617357317:=0
def tw6947960653896553926:=0
def tw16479107391979466744:=0
def tw5694686162395099935:=0
def tw106247559113018535:=0
def tw11233544158432726450:=0
def tw3963509230101748218:=0
def tw13138775503939432659:=0
def tw8370992699953505642:=0
def tw6182158531134787115:=0
def tw520546633841633718:=0
def tw10194969595997313050:=0
def tw3616005041220949140:=0
def tw783936268233519735:=0
def tw18237481856661431402:=0
def tw8144391749676781729:=0
def tw7675453238469877608:=0
def tw9395463276088363489:=0
def tw17413042027502040698:=0
def tw352531788909811030:=0
def tw14649500260604945271:=0
def tw12446174789898835855:=0
def tw1047062403862641176:=0
def tw14252293758727741589:=0
def tw1205788172613880942:=0
def tw7785603064067009366:=0
def tw5828541658511540748:=0
def tw15686359123313726980:=0
def tw7656206418262654154:=0
def tw16865014957058817726:=0
def tw5952622793607399855:=0
def tw11060402095275870048:=0
def tw10303571639683508726:=0
def tw12085077179184653740:=0
def tw7388442602958668405:=0
def tw6723914649818143705:=0
def tw14021849418824676591:=0
def tw5254309572224769063:=0
def tw8403852692415533244:=0
def tw15157144500782150808:=0
def tw98363445130919333:=0
def tw9405545821900186823:=0
def tw13981830691445866268:=0
def tw6745349052291624794:=0
def tw6050439155970664050:=0
def tw12415800133304312867:=0
def tw14058077838497221879:=0
def tw9667286159302344095:=0
def tw14901314267086622840:=0
def tw11751358667614211248:=0
def tw4662729975261247411:=0
def tw18389240872341739686:=0
def tw13485985272967608090:=0
def tw10116130242449449399:=0
def tw16463021501391194269:=0
def tw14826911855399311614:=0
def tw6895250796858824592:=0
def tw12998938646112211337:=0
def tw16535702347917688901:=0
def tw2074965998002270825:=0
def tw1567613176963336866:=0
def tw17846245814286651311:=0
def tw3725682883130249824:=0
def tw15333758014429802767:=0
def tw269936351416967089:=0
def tw10958558517931533276:=0
def tw5331348285639065178:=0
def tw15487956540730368329:=0
def tw16312142597247357109:=0
def tw17835136610583390811:=0
def tw952168956975919124:=0
def tw12699771957377220702:=0
def tw4500855617988580266:=0
def tw15710254158790008443:=0
def tw17199059579634662494:=0
def tw444976984084382052:=0
def tw16691877539523704320:=0
def tw9546933558718377264:=0
def tw12712755899473955087:=0
def tw4133202396356268095:=0
def tw13193850741261912266:=0
def tw12571011888721012664:=0
def tw18241436225590796988:=0
def tw17799017168472867803:=0
def tw14780405164295600513:=0
def tw6051042546948985878:=0
def tw4238067846707643372:=0
def tw14498311626641586247:=0
def tw10219718179005218371:=0
def tw15639260059822496244:=0
def tw15303619453731211131:=0
def tw7385361121656655988:=0
def tw11871287185634588909:=0
def tw10729617442709743014:=0
def tw7198479883269306009:=0
def tw6756808303538878464:=0
def tw12661910523848833219:=0
def tw18158960162228774628:=0
def tw17617363210954464352:=0
def tw3729979857950955317:=0
def tw711292247094621107:=0
def tw17177377672978115179:=0
def tw4252136121510352988:=0
def tw6721178036440038467:=0
def tw3409762483022210350:=0
def tw755836499473557104:=0
def tw14358379026415756156:=0
def tw7785945252531670368:=0
def tw5065183624044364404:=0
def tw8195213753845859754:=0
def tw13302081989837049297:=0
def tw12367693892537625997:=0
def tw10685866551842461097:=0
def tw6707975135936473239:=0
def tw14094606959869133107:=0
def tw11110618422022090781:=0
def tw2598044461518731890:=0
def tw14582582140553767776:=0
def tw9813629491778653240:=0
def tw8001132157562219234:=0
def tw17002015890448889544:=0
def tw984329425254909216:=0
def tw2616727631929206926:=0
def tw6537556327110959606:=0
def tw8325161541440579430:=0
def tw13616761766303881019:=0
def tw9600447802801412169:=0
def tw3327556026865609298:=0
def tw14476233567127827827:=0
def tw12535940514663809669:=0
def tw4674611304521118266:=0
def tw15644026726348832893:=0
def tw8447047841189983506:=0
def tw8580136002149827007:=0
def tw14088354441221550118:=0
def tw11077176438144703678:=0
def tw16263389033436760054:=0
def tw17933437825065166806:=0
def tw11112656715952611304:=0
def tw16041100009764400763:=0
def tw13397735460720198268:=0
def tw11923419902733321335:=0
def tw18165144934429925512:=0
def tw7247039626988218805:=0
def tw7444647031125046667:=0
def tw15996688091004415131:=0
def tw4927810579952916340:=0
def tw4722643712432948426:=0
def tw4923461397294719635:=0
def tw8071816250390489461:=0
def tw6865466210530625310:=0
def tw14804723474736993958:=0
def tw12130173871701109780:=0
def tw17186685460164278547:=0
def tw3503626352863615240:=0
def tw14824368671300461929:=0
def tw10363837222681793111:=0
def tw8408868898359188663:=0
def tw12559762974230553961:=0
def tw5381857173778508541:=0
def tw4394551610253260094:=0
def tw10374914464994917159:=0
def tw12629781237938066415:=0
def tw8689822708641466652:=0
def tw6757098393954414134:=0
def tw11882749849407814472:=0
def tw6879136631353657496:=0
def tw3508397926688249368:=0
def tw1887184535963597387:=0
def tw9359750708150706567:=0
def tw7070698232384041876:=0
def tw1276201599617846205:=0
def tw7943326853264854890:=0
def tw10030623728274035037:=0
def tw12052206124396126295:=0
def tw4872967442775983966:=0
def tw5753719080825788016:=0
def tw15207841726487364690:=0
def tw14844937820034617605:=0
def tw6780656971443326892:=0
def tw1221909135388316863:=0
def tw16566223709051618652:=0
def tw13299241093484478614:=0
def tw12124003311830752886:=0
def tw12092462356079877782:=0
def tw10893328162010137985:=0
def tw10399015621397475503:=0
def tw5647029523727303740:=0
def tw5091152896313589104:=0
def tw650255315719723710:=0
def tw6019566328483765101:=0
def tw2015891169980419604:=0
def tw16757957625798577950:=0
def tw9361135962978235304:=0
def tw1657834983174094613:=0
def tw13578592589798416588:=0
def tw11416197757508011546:=0
def tw10606214365558054598:=0
def tw2126421445153082083:=0
def tw17253382547926571121:=0
def tw8836735478614004362:=0
def tw8900233560633999592:=0
def tw7901298758004028932:=0
def tw7783767518145127771:=0
def tw510731982278267675:=0
def tw4769755365395853586:=0
def tw3559024769083727268:=0
def tw16204375138412853956:=0
def tw12687092984362066422:=0
def tw2328273871464706957:=0
def tw12607718623799853827:=0
def tw18091819578166073462:=0
def tw11866238848289337707:=0
def tw4521825921393008853:=0
def tw2840476977225554150:=0
def tw16701208701131527047:=0
def tw13908591054388492871:=0
def tw717620469068396635:=0
def tw5876477617934780214:=0
def tw14866986144133660113:=0
def tw2679921378566091161:=0
def tw5927360839244913852:=0
def tw15928532817913313161:=0
def tw7923650723979842765:=0
def tw7401550659734677533:=0
def tw17174048131690832100:=0
def tw12437161235921397336:=0
def tw9043930792656747661:=0
def tw18056430077903098460:=0
def tw17804377782190287077:=0
def tw1901692621977075837:=0
def tw18014629819836853617:=0
def tw17554333284585587883:=0
def tw8506741494939386376:=0
def tw11284006208998917316:=0
def tw7822142234905928381:=0
def tw6224217623679637527:=0
def tw7721748677797041850:=0
def tw4666614110529638032:=0
def tw3911937287972843423:=0
def tw14470425981235288386:=0
def tw14776039518325410559:=0
def tw12188021245131496159:=0
def tw10781673312740940717:=0
def tw3757779521138876186:=0
def tw9426485234980371567:=0
def tw18226412062734930544:=0
def tw5939726798478722478:=0
def tw14110701469872196818:=0
def tw7717158464741406563:=0
def tw8218015110576786332:=0
def tw9727282694683470669:=0
def tw6162544974987476552:=0
def tw1870445810710283913:=0
def tw6612588343106977564:=0
def tw9813454287423654470:=0
def tw18007162987819249798:=0
def tw12905323756337658229:=0
def tw10017462426016517577:=0
def tw17754768982037739758:=0
def tw15646048034743063135:=0
def tw6477065244138955309:=0
def tw11026067961521057971:=0
def tw1947651036608032833:=0
def tw13909374013151004140:=0
def tw5035333578169866099:=0
def tw3251942215906153982:=0
def tw10519208640754223553:=0
def tw8835141143959441192:=0
def tw4265186511590774443:=0
def tw17449067445728108181:=0
def tw11406281312998997678:=0
def tw9903682677330549197:=0
def tw9347087518558520766:=0
def tw8943361317743114178:=0
def tw8756698726358950928:=0
def tw15407843009290860629:=0
def tw12775884282983582361:=0
def tw12152336836076218857:=0
def tw3895918544535079489:=0
def tw3514291165823283819:=0
def tw10573647133733618283:=0
def tw7719220574110030200:=0
def tw10214389849364060688:=0
def tw13859499812485924251:=0
def tw2137509011650159464:=0
def tw1787774750642577180:=0
def tw8337571706712592374:=0
def tw7889313772679439270:=0
def tw7377073530492400841:=0
def tw6000073239573072365:=0
def tw9335875904255630245:=0
def tw14128206182049361832:=0
def tw11767606595926914274:=0
def tw7896210609074882764:=0
def tw16408475845093931785:=0
def tw6803161607005463538:=0
def tw15718892173549373875:=0
def tw11470887553420568944:=0
def tw9621452976987620288:=0
def tw13724603944346693279:=0
def tw9811637149071409160:=0
def tw2292809561470246503:=0
def tw8362282281115354285:=0
def tw590375466740102174:=0
def tw16440658065427948407:=0
def tw1523445018614453879:=0
def tw16975994856448499660:=0
def tw7489454887173245528:=0
def tw14290702270226105298:=0
def tw7028005676992909773:=0
def tw2742677165353194214:=0
def tw9251026498231741606:=0
def tw2896621281326274371:=0
def tw2132830713342977551:=0
def tw11658710190993994748:=0
def tw10414660705536475545:=0
def tw9863599184496572991:=0
def tw9725588301815762324:=0
def tw3924569317471182130:=0
def tw17811109915944978150:=0
def tw14245416519602575199:=0
def tw11650123123107832844:=0
def tw9484616653635235699:=0
def tw3471260091392792371:=0
def tw15925159269073361953:=0
def tw15590120992600364450:=0
def tw7557252167590697081:=0
def tw5492698106122766033:=0
def tw16024312145414854238:=0
def tw10190516159964952798:=0
def tw5897464864371782138:=0
def tw5827859691556083255:=0
def tw4405765291011762700:=0
def tw15737514291548020589:=0
def tw12070438670730569967:=0
def tw11939278778811320526:=0
def tw8422182012990367045:=0
def tw4126231666935296777:=0
def tw6709528159525651180:=0
def tw1666720365727281674:=0
def tw16567714257878019106:=0
def tw12459925705688166125:=0
def tw12726925373329839333:=0
def tw3382407977421770475:=0
def tw1710049201693704134:=0
def tw5676963144310627166:=0
def tw302266953166638720:=0
def tw15828057641981479531:=0
def tw12662776967276817239:=0
def tw12312809666284841527:=0
def tw11428915030505842909:=0
def tw11170099225299383405:=0
def tw9951936320307031492:=0
def tw8743839655982100623:=0
def tw810901240956349253:=0
def tw18428226315511077195:=0
def tw3167433315286660337:=0
def tw17149512607032381585:=0
def tw10022914567208140244:=0
def tw1848036150247544573:=0
def tw15186879326187430973:=0
def tw8770085362802417309:=0
def tw7233958539548715435:=0
def tw10148622112258673582:=0
def tw6785369874253468188:=0
def tw13258753260499733071:=0
def tw12641178308865599389:=0
def tw13667182264860713871:=0
def tw8488526919748326468:=0
def tw6306490309029471355:=0
def tw12390006010361460981:=0
def tw9658942662476607686:=0
def tw8755723121233646829:=0
def tw6960733057957146919:=0
def tw523969770100244911:=0
def tw12432571517616247789:=0
def tw795698444147774434:=0
def tw12820380487049398758:=0
def tw3785133731739536172:=0
def tw1585236799502739416:=0
def tw15781995697765267092:=0
def tw14938356913304312986:=0
def tw14626599825927587432:=0
def tw8993937492666449971:=0
def tw3832860647647819391:=0
def tw15139085713739837997:=0
def tw2897482198397379662:=0
def tw14677535944615506559:=0
def tw14221953016128274368:=0
def tw3755861227667016374:=0
def tw3011048994509201412:=0
def tw5918860268038027243:=0
def tw10897162881589549202:=0
def tw987285939421578344:=0
def tw10908561826245648918:=0
def tw5266134588296145488:=0
def tw4463931981777588616:=0
def tw8767308671148210532:=0
def tw17531789357957207637:=0
def tw2547723836605531279:=0
def tw13011359689854696669:=0
def tw17882516107285182319:=0
def tw12942533909788997871:=0
def tw64526763569576565:=0
def tw6412761922584780619:=0
def tw16663965018806262988:=0
def tw4053430594455570245:=0
def tw15760429822512939675:=0
def tw1719148070961002277:=0
def tw6667332579708324613:=0
def tw546371165047501736:=0
def tw15114663790457652218:=0
def tw8522268972753142394:=0
def tw7157952156268949613:=0
def tw12787553052477029756:=0
def tw2657057851346064437:=0
def tw18009647059748949834:=0
def tw11232018561078452044:=0
def tw12507403203262499986:=0
def tw2049393014517307944:=0
def tw12534275783445697788:=0
def tw3136893974834343713:=0
def tw2093804881761918090:=0
def tw2244574532280928222:=0
def tw13266870103448735027:=0
def tw5887428594945529291:=0
def tw5573081948782041080:=0
def tw4617890889854089841:=0
def tw3680919929939859530:=0
def tw17764840548105456165:=0
def tw16072529898071633706:=0
def tw15269847886305722415:=0
def tw17895320617042353146:=0
def tw14572298301700151867:=0
def tw6020199074563707908:=0
end PySem.W.Fast
open PySem PySem.W PyProof.Rows
set_option maxRecDepth 100000 in
set_option maxHeartbeats 0 in
theorem PySem.Challenge.cw_layerdraw_k83_lines_that_are_none_holds : PySem.Challenge.rw_layerdraw_k83_lines_that_are_none.Holds := by
 w_on;o_law;k_head;(case hw=>w_witness2)
 k_fill
 refine aD.walk (l:=PySem.Challenge.rw_layerdraw_k83_lines_that_are_none) rfl rfl (fun w h Y=>⟨PySem.W.km_in_of Y,PySem.W.km_tabs_of Y⟩) ?F
 case F=>
  intro w mg fa h KX G tF
  refine' aD.all_mk KX G tF ?gl0 ?kz0 ?T ?al ?ll ?cl ?lm0 ?hnd
  case gl0=>k_is
  case kz0=>(refine' aD.kd4_mk ?u0 ?u2 ?u3;(case u0=>k_is);(case u2=>first|k_is|kit_is|kernel_rfl|rfl);(case u3=>decide))
  case T=>
   constructor
   any_goals dsimp only
   any_goals first|k_is|kit_is|(refine' PySem.W.mg_of KX G ?_;k_is)|(refine' PySem.W.mg_none_of KX G ?_;k_is)|(refine' L2.int_mk KX G ?_;any_goals first|k_is|kit_is|kernel_rfl|rfl)|(refine' L2.str_mk KX G ?_;any_goals first|k_is|kit_is|kernel_rfl|rfl)|(unfold L2.zbk;k_is)|(refine' aD.zmT ?u0;(case u0=>k_is))|(refine' aD.zmU ?u0;(case u0=>k_is))|(refine' aD.zjP ?u0;(case u0=>k_is))|(refine' aD.zit ?u0;(case u0=>k_is))|((first|refine' L2.ziO ?u0 ?u1 ?u2 ?u3 ?u4 ?u5 .nil ?u7|refine' L2.ziO ?u0 ?u1 ?u2 ?u3 ?u4 ?u5 L2.vals1i ?u7|refine' L2.ziO ?u0 ?u1 ?u2 ?u3 ?u4 ?u5 L2.vals2i ?u7);(case u0=>k_is);(case u1=>first|k_is|kit_is|kernel_rfl|rfl);(case u2=>first|k_is|kit_is|kernel_rfl|rfl);(case u3=>first|k_is|kit_is|kernel_rfl|rfl);(case u4=>first|k_is|kit_is|kernel_rfl|rfl);(case u5=>first|k_is|kit_is|kernel_rfl|rfl);(case u7=>intro td s us KI hl;first|(have h9:us.length=2:=(by simpa using hl);clear hl;revert us;exact L2.len2 fun _ _=>PySem.W.binds_K KI rfl td rfl rfl rfl)|(have h9:us.length=3:=(by simpa using hl);clear hl;revert us;exact L2.len3 fun _ _ _=>PySem.W.binds_K KI rfl td rfl rfl rfl)|(have h9:us.length=4:=(by simpa using hl);clear hl;revert us;exact L2.len4 fun _ _ _ _=>PySem.W.binds_K KI rfl td rfl rfl rfl)|(have h9:us.length=5:=(by simpa using hl);clear hl;revert us;exact L2.len5 fun _ _ _ _ _=>PySem.W.binds_K KI rfl td rfl rfl rfl)))|((first|refine' L2.def_mk KX G ?_ ?_ ?_ ?_ ?_|refine' L2.met_mk ?_ ?_ ?_ ?_ ?_ ?_|refine' L2.ini_mk KX G ?_ ?_ ?_ ?_ ?_ ?_ ?_ ?_|refine' L2.zpl KX G ?_ ?_ ?_ ?_ ?_ ?_ ?_ ?_);any_goals (first|k_is|kit_is|kernel_rfl|exact L2.len1 fun _=>rfl|exact L2.len2 fun _ _=>rfl|exact L2.len3 fun _ _ _=>rfl|exact L2.len4 fun _ _ _ _=>rfl|exact L2.len5 fun _ _ _ _ _=>rfl);done)|(refine' L2.lam_mk KX G ?u0 ?u1 ?u2 ?u3 ?u4 ?u5 ?u6;(case u0=>first|k_is|kit_is|kernel_rfl|rfl);(case u1=>first|k_is|kit_is|kernel_rfl|rfl);(case u2=>rfl);(case u3=>first|k_is|kit_is|kernel_rfl|rfl);(case u4=>rfl);(case u5=>first|k_is|kit_is|kernel_rfl|rfl);(case u6=>first|k_is|kit_is|kernel_rfl|rfl))|(constructor <;> first|k_is|kit_is|kernel_rfl|rfl)
   any_goals first|(refine' aD.zmT ?u0;(case u0=>k_is))|(refine' aD.zmU ?u0;(case u0=>k_is))|(refine' aD.zjP ?u0;(case u0=>k_is))|(refine' aD.zit ?u0;(case u0=>k_is))
  any_goals first|k_is|kit_is|exact List.mem_cons_self|(simp;done)|decide
