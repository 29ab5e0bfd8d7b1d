import PyProof.Rows.All
import Wide.All
import OpenK.AllK
import Wide.FinOn
import Lean
import PyProof.EqAt
import PyProof.EqKinds
import PyProof.TupleCall
import PyProof.NeKinds
import PySem.Challenge.RW_layerdraw_k81_what_a_change_wishes
set_option Elab.async false
set_option linter.all false
set_option maxRecDepth 100000
set_option maxHeartbeats 16000000
set_option genInjectivity false
set_option genSizeOf false
noncomputable section
theorem O.{u}{α:Sort u}{a:α}:a=a:=rfl
section
open PySem PySem.Spec PyProof.Rows
def ow:=@wpAny_bind
def Us:=@List.length_map
def Ut:=@Heap.get?_push_of_some
def Uu:=@wpAny_pure
def Uv:=@Nat.le_refl
def Uw:=@Heap.lt_size
def Ux:=@List.getD_eq_getElem?_getD
def Uy:=@List.getElem?_eq_getElem
def Uz:=@sizeLine_eq
def UA:=@Heap.get?_push_size
def UB:=@List.length_append
def UC:=@List.map_append
def UD:=@Int.toNat_natCast
def UE:=@Nat.ne_of_lt
def UF:=@List.mem_of_getElem?
def UG:=@List.mem_append_right
def UH:=@List.length_take
def UI:=@List.mem_cons_of_mem
def UJ:=@List.getElem?_map
def UK:=@List.size_toArray
def UL:=@Bool.false_ne_true
def UM:=@of_decide_eq_true
def UN:=@Nat.lt_of_lt_of_le
def UO:=@List.take_length
def UP:=@Heap.get?_update_other
def UQ:=@List.mem_cons_self
def UR:=@List.length_cons
def US:=@List.not_mem_nil
def UT:=@Nat.lt_irrefl
def UU:=@Bool.and_eq_true
def UV:=@wpAny_field
def UW:=@decide_eq_true
def UX:=@List.filter_cons
def UY:=@Heap.size_push
def UZ:=@List.mem_append_left
def U0:=@List.length_filter_le
def U1:=@List.mem_cons
def U2:=@of_decide_eq_false
def U3:=@wpAny_holding
def U4:=@Heap.get?_update_self
def U5:=@Nat.le_trans
def U6:=@wpAny_callSpecial?_slot
def U7:=@List.length_range
def U8:=@Nat.le_add_right
def U9:=@Bool.false_eq_true
def Va:=@Int.emod_lt_of_pos
def Vb:=@List.map_cons
def Vc:=@List.append_nil
def Vd:=@List.take_of_length_le
def Ve:=@decide_eq_false
def Vf:=@wpAny_seqItems
def Vg:=@wpAny_mono
def Vh:=@wpAny_call_entry
def Vi:=@Nat.lt_succ_self
def Vj:=@Int.emod_nonneg
def Vk:=@Nat.lt_succ_of_lt
def Vl:=@wpAny_Call_Name_kw
def Vm:=@Nat.le_succ
def Vn:=@Nat.le_succ_of_le
def Vo:=@List.length_set
def Vp:=@List.append_assoc
def Vq:=@List.foldl_append
def Vr:=@wpAny_isInstance
def Vs:=@Nat.ne_of_gt
def Vt:=@List.lookup_cons
def Vu:=@List.length_replicate
def Vv:=@wpAny_truthy_bool
def Vw:=@wpAny_tryCatch
def Vx:=@wpAny_updateSeq
def Vy:=@Nat.not_lt_zero
def Vz:=@List.filter_append
def VA:=@Int.le_refl
def VB:=@List.getElem?_zip_eq_some
def VC:=@wpAny_pyIter_list
def VD:=@wpAny_attempt
def VE:=@Nat.le_of_lt
def VF:=@Nat.lt_or_ge
def VG:=@wpAny_of_eq
def VH:=@wpAny_setField_rec
def VI:=@wpAny_setField
def VJ:=@Nat.zero_le
def VL:=@wpAny_letGo
def VM:=@Nat.lt_of_le_of_lt
def VN:=@List.all_eq_true
def VO:=@decide_eq_false_iff_not
def VP:=@wpAny_loadPart_at
def VQ:=@List.length_zip
def VR:=@List.replicate_succ
def VS:=@wpAny_rule
def VT:=@Bool.and_eq_false_iff
def VU:=@wpAny_loadPart'
def VW:=@decide_eq_true_eq
def VX:=@List.getElem_mem
def VY:=@List.take_zero
def VZ:=@wpAny_nextOf_list_item
def V0:=@wpAny_passesOwn
def V1:=@List.any_cons
def V2:=@wpAny_newObj_type
def V4:=@Array.getElem?_eq_getElem
def V5:=@Nat.succ_le_succ
def V6:=@wpAny_typeOf
def V7:=@List.map_set
def V8:=@Array.length_toList
def V9:=@List.length_take_le
def Wa:=@Bool.eq_iff_iff
def Wb:=@wpAny_call
def Wc:=@List.find?_cons
def Wd:=@List.forIn_cons
def We:=@List.filter_nil
def Wg:=@List.getElem?_set_self
def Wh:=@List.flatten_cons
def Wj:=@Bool.not_eq_true'
def Wk:=@List.length_singleton
def Wl:=@Bool.or_true
def Wm:=@List.nodup_nil
def Wo:=@List.map_map
def Wp:=@List.getElem?_set_ne
def Wq:=@Heap.get?_push_cases
def Wr:=@wpAny_standAt
def Ws:=@List.getElem?_append_right
def Wu:=@List.nodup_iff_pairwise_ne
def Wv:=@List.filterMap_cons
def Ww:=@List.mem_of_find?_eq_some
def Wx:=@List.range_succ
def Wy:=@Nat.le_of_eq
def Wz:=@Bool.not_eq_false'
def WA:=@List.take_add_one
def WB:=@wpAny_pyIter_enum
def WC:=@List.range_succ_eq_map
def WD:=@Array.getElem?_eq_none
def WE:=@List.all_cons
def WF:=@List.length_drop
def WG:=@Array.getElem?_toList
def WH:=@List.getElem?_eq_none
def WI:=@Array.getElem?_setIfInBounds_ne
def WJ:=@wpAny_execs_nil
def WK:=@Option.map_some
def WL:=@Nat.lt_trans
def WM:=@wpAny_typeNameOfWhole_itemiter
def WN:=@List.nodup_cons
def WO:=@Nat.pow_le_pow_right
def WP:=@wpAny_typeNameOfWhole_keyiter
def WQ:=@wpAny_isSubtype_exc
def WR:=@List.getElem_of_mem
def WS:=@List.forIn_nil
def WT:=@wpAny_fieldsOf
def WU:=@Nat.eq_zero_or_pos
def WV:=@List.idxOf_lt_length_of_mem
def WW:=@Int.fdiv_eq_ediv_of_nonneg
def WX:=@wpAny_letOwnedTupleGo_enum
def WY:=@Option.isSome_map
def WZ:=@wpAny_Call_method
def W0:=@Nat.lt_of_succ_lt
def W1:=@List.getElem?_inj
def W2:=@List.getElem?_append_left
def W3:=@wpAny_check_type_call_sub
def W4:=@wpAny_typeNameOf_itemiter
def W5:=@List.map_nil
def W6:=@wpAny_comprehension_free
def W7:=@wpAny_typeNameOf_keyiter
def W8:=@wpAny_pyIter_zip
def W9:=@Int.le_of_lt
def Xa:=@Nat.min_le_right
def Xb:=@wpAny_pyNext_range_item
def Xc:=@List.getElem?_replicate
def Xd:=@wpAny_specialOf
def Xe:=@List.of_mem_zip
def Xf:=@Nat.min_eq_left
def Xg:=@wpAny_pyNext_list_item
def Xh:=@wpAny_pyIter_rangeiter
def Xi:=@wpAny_pyNext_dict_item
def Xj:=@wpAny_isTrue_Compare1
def Xk:=@wpAny_pyIter_listiter
def Xl:=@wpAny_loadPart
def Xm:=@wpAny_pyNext_zip_item
def Xn:=@List.getElem?_toArray
def Xo:=@wpAny_notOrdered_dict
def Xp:=@wpAny_newFunctionEnv
def Xq:=@wpAny_check_new_subT
def Xr:=@wpAny_handleBy_cons
def Xs:=@wpAny_dictSet_pairs
def Xt:=@List.map_congr_left
def Xu:=@List.flatMap_append
def Xv:=@Int.toNat_of_nonneg
def Xw:=@wpAny_Constant_int
def Xx:=@wpAny_pyIter_range
def Xy:=@List.all_map
def Xz:=@List.contains_cons
def XA:=@List.any_map
def XB:=@wpAny_pyIter_tuple
def XC:=@List.mem_singleton
def XD:=@Nat.zero_add
def XE:=@List.forIn_toArray
def XF:=@wpAny_assign_Name
def XG:=@Heap.Ns1.of_empty
def XH:=@List.take_sublist
def XI:=@wpAny_dictEntries
def XJ:=@wpAny_pyIter_dict
def XM:=@List.pairwise_map
def XO:=@List.flatMap_cons
def XQ:=@wpAny_Name
end
open Array renaming getElem?_eq_some_iff->QdX,toList->QgR
open Bool renaming true->D',false->R',noConfusion->Qgs,or_eq_true->QgB,not_true->QgP,false_or->QgQ
open False renaming elim->Zm
open ForInStep renaming yield->Qc0
open Int renaming toNat->ZM,zero_add->Qha
open Int.ofNat renaming inj->Qav
open List renaming replicate->X8,getElem?_eq_some_iff->Yi,mem_append->YK,mem_map->YL,range->YM,mem_filter->ZJ,mem_iff_getElem?->Qac,map->Qaz,mem_range->QaL,any_eq_true->Qa5,lookup->Qbv,length_eq_zero_iff->Qd3,nodup_append->Qeh,foldl->QeB,length_pos_iff->Qgd,mem_filterMap->Qgi,any_eq_false->Qgn,zipIdx_cons->Qgr,nil_append->Qgy,length_nil->Qgz,find?_some->QgA,drop_zero->QgK,map_take->QgO
open List.Nodup renaming sublist->Qly
open List.Pairwise renaming nil->QfQ
open Nat renaming not_lt->Qcl,succ_mul->Qg7,sub_zero->Qg8,sub_self->Qg9,le_zero->Qhh
open Ne renaming symm->XW
open Option renaming some->B',none->C',isSome_iff_exists->ZI,map_eq_some_iff->QbP,bind_eq_some_iff->QfU,getD_none->Qgh
open Option.some renaming inj->YB,injEq->Qlk
open Prod renaming fst->QaR
open PyProof.Rows renaming seqObj->ZN,envOfC->Qar,AllBare->QaD,Keyed->QaU,callWith_type1->Qa4,IntsAre->Qcp,kws_cons->QdZ,kws_nil->Qd1,subscriptTail->Qez,Constant_none->QeA,Subscript_->QeF,callWith_kw->QfD,subscriptTail_builtinR->Qgm,get?_update_seq->Qhg,boot_enumerate->Qhn,callWith_builtin1->Qlj
open PySem renaming Addr->F',Str->K',Value->L',wpAny->N',model->XS,Shared->XT,sizeLine->XX,Obj->X6,eval->X9,Expr->X',starEach->Yb,Stmt->Yd,Heap->Yg,rawInt->Yk,pyNext->Yo,cLine->Yr,backTo->Yy,Pos->YA,argBest->YC,Program->YE,World->YF,Around->YT,mainGlobals->YW,codeAny->Y4,field->Y5,Sem->Y6,Env->Za,bootBuiltins->Zc,Builtin->Ze,Tok->Zf,compareOp->Zr,intItems->Zv,numAt->Zw,plainId_quiet->Zy,keywordEach->Zz,backToKw->ZC,Scope->ZD,sysModules->ZL,codeAny_builtin->ZX,FuncData->Z8,holding->Z9,IsPair->Z',NameKind->Qag,IsEnum->Qak,Flow->Qal,isSubtype_stop->Qao,typeLookup->Qap,stored->Qaq,assignEach->Qaw,updateSeq->Qax,seqItems?->Qay,binaryOp->QaA,ZipApart->QaB,IsZip->QaE,mem_of_lookup->QaI,codeAny_mono->QaP,valueAt->QaS,atKey->QaT,assign->Qa9,bindL->Qba,bindC->Qbb,behindInMarks->Qbr,attributeBase->Qbs,call_meetsIn->Qbu,sliceBounds->Qbw,IsRangeIter->Qbx,call_meets->Qby,builtinsNs->Qbz,tupleKind->QbA,swapsWith->QbB,getMethod->QbC,callWith->QbD,bindArgs->QbE,standAt->QbF,getItem->QbG,callerA->QbH,Keyword->QbI,BindsTo->QbJ,Paired->QbK,Walks->QbL,codeAny_call_builtin->QbS,tupleKind_room_in1->QbY,isInstance->Qb1,setField->Qb2,isTrue->Qb3,richCompare->Qck,seqIndex?->Qcm,entryFor->Qcn,ItemsOf->Qco,slot_listiter_next->Qc1,getattributeRaised->Qc2,letOwnedTupleGo->Qc9,am_miss_of_fast->Qda,firstArgMember->Qdb,callType_codes->Qdc,ExceptHandler->Qdd,subscripted->Qde,excClassObj->Qdf,noteFrame->Qdh,IsEnumOut->Qdi,Arguments->Qdj,newTuple->Qdk,getAttr?->Qdl,GenState->Qdm,spliced->Qdn,sub_AttributeError->Qel,foldedSetIterable->Qen,codeAny_of_tree->Qer,Within->Qes,recursionLimit->Qev,call->Qey,seqIndex_neg->QeC,seqIndex_of->QeD,typeIs_int->QeE,setFlight->QeG,cellsFrom->QeH,PassesOwn->QeI,plainObj_wpAny_Assign_Attribute->QfL,codeAny_call_builtin_code->Qf6,codeAny_call_builtin_at->Qge,codeAny_handlers_test->Qgo,unbindBehindTheSuite->Qgt,codeAny_extend_loopS->Qgu,codeAny_exc_new_subT->Qgv,entry_listiter_next->QgC,args_listiter_next->QgL,slot_list_getitem->QgS,wpAny_madeBy_exc->QgZ,wpAny_lookBehind->Qg0,wpAny_execs_cons->Qg1,pastItsLine_dict->Qg2,kt_code_dict_new->Qg3,entryFor_of_tree->Qg4,wpAny_ite_split->Qhb,wpAny_dictEpoch->Qhc,wpAny_newTuple->Qhi,fitsIndex_both->Qhj,entry_typeCall->Qhk,entryFor_alias->Qhl
open PySem.Around renaming under_plainId->Qad,under->Qeq,frames_deeper->Qf4
open PySem.AutoSeq1 renaming sub_list_list->QfP
open PySem.Builtin.Builtins renaming bindParams->QcN
open PySem.Builtin.Dict renaming updateFrom->QcQ,selfAndRest->QfC,pairItems->QfG
open PySem.Builtin.Dict_items renaming ownsTuple->Qfx
open PySem.Builtin.List renaming listExtendWith->Qa3,listTooLong->QcO,listSameRef->QcP,listItems->QcR,listFitsIndex->QdU,listUpdate->QfE,listLengthHint->Qli
open PySem.Builtin.Range renaming rangeFitsLong->QfA,rangeSize->QfB,small->QfI
open PySem.Builtin.SmallTypes renaming nextOf->Qat,ownedTupleIsFree->Qa2,ownedTupleHandOut->Qfv,fitsIndex->Qfw
open PySem.Builtin.Str renaming occurrences->QfF
open PySem.Calls renaming spliced_cons->Qbl,spliced_nil->QbW,callWith_builtin->Qcj,evalArgs_plain->QcX,Name_function_global->QdW,loadGlobal_global->QfZ
open PySem.Challenge renaming pw_layerdraw_k81_what_a_change_wishes->QkQ
open PySem.CmpOf renaming ints_lt->Qep,ints_gt->QgJ
open PySem.CmpOp renaming NotIn->QgY,In->Qhm
open PySem.Code renaming quiet_builtin->Qbm,isFrame->Qeu,frames->Qg6
open PySem.EntryCells renaming newEntry->QfT
open PySem.EqMixed renaming ne_str_int->QkU,ne_str_bool->QkV,ne_int_str->QkW,ne_bool_str->QkX,eq_str_int->QkY,eq_str_bool->QkZ,eq_int_str->Qk0,eq_bool_str->Qk1
open PySem.EqNone renaming ne_str_none->Qk4,ne_none_str->Qk5,ne_none_none->Qk6,ne_none_int->Qk7,ne_none_bool->Qk8,ne_int_none->Qk9,ne_bool_none->Qla,eq_str_none->Qlb,eq_none_str->Qlc,eq_none_none->Qld,eq_none_int->Qle,eq_none_bool->Qlf,eq_int_none->Qlg,eq_bool_none->Qlh
open PySem.F renaming plainAttrs_list->YY,slot_list_append->Zl,type_list_append->Zp,plain_max_loop->Qa6,plain_min_loop->Qbj,slot_dict_get->QbQ,slot_enumerate_next->QbR,slot_zip_next->QbZ,plainAttrs_dict->Qci,slot_list_getattribute->QcS,entry_dict_get->QcT,slot_zip_getattribute->QcU,slot_list_extend->QcZ,entry_max_loop->Qc6,slot_dict_itemiterator_next->QdV,type_list_extend->QdY,slot_dict_items->Qd0,entry_min_loop->Qd2,args_enumerate_next_1->Qd5,entry_enumerate_next->Qea,plain_extend_loop->Qeg,slot_list_insert->Qej,called_enumerate->Qek,args_zip_next_1->Qem,entry_zip_next->Qeo,slot_dict_itemiterator_iter->Qfz,excBase_ValueError->QfH,type_list_insert->QfJ,slot_str_ascii_iterator_next->QfK,type_dict_items->QfM,args_dict_get_3->QfN,args_dict_get_2->QfO,slot_dict_keyiterator_next->QfS,type_dict_get->QfX,slot_dict_pop->QfY,slot_tuple_iterator_next->Qf0,slot_range_iterator_next->Qf1,slot_list_ne->Qf2,slot_str_iterator_next->Qf5,kt_typeCall_dict_1->Qgl,args_list_init_2->Qgw,args_dict_init_2->Qgx,typeCall_list_1->QgF,slot_list_clear->QgG,entry_list_init->QgH,entry_dict_init->QgI,kt_called_dict->QgN,slot_list_pop->QgW,slot_int_rmul->QgX,called_list->Qhf
open PySem.Heap renaming SameBut->Zu,ExtBut->Qaf
open PySem.Heap.DictOf renaming new->Qee
open PySem.Heap.IsSliceOf renaming new->QkR
open PySem.Heap.SameBut renaming update->ZW,refl->Qk3
open PySem.ItemsOf renaming nil->QgE
open PySem.MeetsSeq3 renaming plain_eq_loop->QcM,entry_eq_loop->Qfy
open PySem.Moved renaming trans->Qex
open PySem.NameKind renaming free->Zt,cell->Qai
open PySem.Obj renaming mapSeq->Zd,mapFields->QaN,data_mapFields->QbU,isFreed_of_fields->QcW,cls_mapFields->Qgq
open PySem.Paired renaming length->Qc8,snoc->QgM
open PySem.PassesOwn renaming never->YS,leaving->Qeb
open PySem.SeqAt renaming notIn_listAt->Qgc
open PySem.SeqAt.EqAt renaming same->Qdg,of_refs->Qet,str_int->QfV,int_str->QfW,str_str->Qll,str_none->Qlm,str_bool->Qln,none_str->Qlo,none_int->Qlp,none_bool->Qlq,int_none->Qlr,int_int->Qls,int_bool->Qlt,bool_str->Qlu,bool_none->Qlv,bool_int->Qlw,bool_bool->Qlx
open PySem.SeqAt.RcAt renaming lists_lengths->Qgg,tuples->Qg5,lists->Qhe
open PySem.Shared renaming TypeIs->Qc7
open PySem.Str renaming ofString->Y0
open PySem.Value renaming ref->X2,none->Yw,int->Zn,bool->Qaj,type->QaQ,str->Qb0,float->Qew,isStrOf->QgD,isInt->QgU,bytes->QgV
open PySem.W renaming Frag->V',findIn->Y2,mroIn->Zq,keepIn->Qae,typeIn->Qah,kia_one->Qan,codeIn->Qau,emptyDict->QaJ,codeHdIn->QaK,Looks->QaM,fnOf->QaO,instObj->Qa7,isFn->Qa8,kitOne->Qbn,mg_of->Qbp,nsIn->Qbq,callWith_K->QbT,hasDictIn->QbV,looks_findIn->QcV,plainGet->QcY,takerIn->Qc3,tabObj->Qc4,lookIn->Qc5,OpenLaw->Qdo,methodCall_KW->Qd4,plainGet_of->Qd6,looks_mroIn->Qd7,looks_clsIn->Qd8,callWith_K0->Qd9,specialIn->Qec,methodObj->Qed,any_some->Qef,makesIn->Qei,cellsFrom_some->QfR,codeHd_of_K->Qf3,set_plain->Qf7,plainOver->Qf8,kitx_list->Qf9,kitx_dict->Qga,handedIn->Qgb,takesIn->Qgf,kla_fn->Qgj,InstAt->Qgk,clsIn->Qgp
open PySem.W.Looks renaming here->Qbk,of_pure->QkS,ld->QkT
open PySem.W.WData renaming int->Qhd
open PySem.W.WShape renaming has->QgT
open PySem.Within renaming cons->Qk2
open Sum renaming inl->XY,inr->X5
open Sum.inr renaming inj->Qbt
open True renaming intro->ZK
def W':=@if_neg
def XR:=@if_pos
def X4:=@absurd
def YX:=@or_false
def Y3:=@if_false
def ZA:=@beq_iff_eq
def ZY:=@if_true
def QaC:=@congrArg
def Qbo:=@beq_self_eq_true
def QbX:=@beq_eq_false_iff_ne
namespace L2
variable {A:Around}{E:Value->Shared->Prop}{G:Prop}{P prog:Program}{Q:Option Value->Shared->Prop}{R:Result->Shared->Prop}{a b e it t:Addr}{cs:List Addr}{env:Env}{h h':Heap}{i:Nat}{pos:Pos}{s:Shared}{vs:Array Value}{w:World}
open PySem PySem.Spec PyProof.Rows
theorem ex3 {α:Sort _}{a b:α->Prop} (k:∀ x,a x->b x->G):(∃ x,a x/\b x)->G:=fun⟨x,h1,h2⟩=>k x h1 h2
theorem ex4 {α β:Sort _}{a b:α->β->Prop} (k:∀ x y,a x y->b x y->G):(∃ x y,a x y/\b x y)->G:=fun⟨x,y,h1,h2⟩=>k x y h1 h2
theorem Yc {α β:Sort _}{a b c:α->β->Prop} (k:∀ x y,a x y->b x y->c x y->G):(∃ x y,a x y/\b x y/\c x y)->G:=fun⟨x,y,h1,h2,h3⟩=>k x y h1 h2 h3
theorem OP:Qcn table "proto.unchain"=B' Ze.«proto.unchain»:=Qg4 (by kernel_rfl)
def nxt (cs:List F') (j:Nat):L':=match cs[j]? with|none=>Yw|some b=>X2 b
def Yn (h:Yg) (cs:List F'):Prop:=cs.Nodup/\∀ j a,cs[j]?=B' a->∃ o vs,h.get? a=B' o/\o.data=.fields vs/\vs[2]?=B' (nxt cs (j+1))
def Hd (A:YT) (h:Yg):Prop:=A.handled=C'\/∃ a cs,A.handled=B' (.ref a)/\Yn h (a::cs)
theorem Hd.keeps (x:Hd A h) (k:∀ b o,h.get? b=B' o->h'.get? b=B' o):Hd A h':=by
 rcases x with e|⟨a,cs,e,nd,c⟩
 .exact .inl e
 .refine .inr ⟨a,cs,e,nd,fun j b hb=>?_⟩
  obtain⟨o,vs,ho,r⟩:=c j b hb;exact⟨o,vs,k b o ho,r⟩
theorem Hd.but {oi:X6} (x:Hd A h) (hit:h.get? it=B' oi) (M7:∀ vs,oi.data=.fields vs->vs.size<3\/vs[2]?≠B' Yw/\∀ b,vs[2]?≠B' (.ref b)) (k:∀ b o,b≠it->h.get? b=B' o->h'.get? b=B' o):Hd A h':=by
 rcases x with e|⟨a,cs,e,nd,c⟩
 .exact .inl e
 .refine .inr ⟨a,cs,e,nd,fun j b hb=>?_⟩
  obtain⟨o,vs,ho,hd,h2⟩:=c j b hb;refine⟨o,vs,k b o (fun z=>?_) ho,hd,h2⟩;subst z;rw[hit] at ho;cases ho
  rcases M7 vs hd with q|⟨q1,q2⟩
  .have:=(QdX.mp h2).1
   lia
  .unfold nxt at h2
   cases hz:(a::cs)[j+1]? with
   | none=>rw[hz] at h2;exact q1 h2
   | some y=>rw[hz] at h2;exact q2 y h2
theorem Qq (c:Yn s.heap cs) (he:e∉cs) (hR:R (.ok (.ret .none)) s):∀ (n j i:Nat) (o sl:F') (tg:Bool),cs.length-j=n->cs[j]?=B' o->cs[i]?=B' sl->i<=j ->
  Y4 (XS prog w) A (.builtin "proto.unchain" ⟨[.ref e,.ref o,.ref sl,.bool tg],[]⟩) R s:=by
 intro n
 induction n with
 | zero=>
  intro j i o sl tg hn hj _ _;have:=(Yi.mp hj).1;lia
 | succ n ih=>
  intro j i o sl tg hn hj hi EC;obtain⟨oo,vs,ho,hd,h2⟩:=c.2 j o hj;refine ZX OP ?_;unfold Ze.«proto.unchain»;refine ow (UV ho hd h2 ?_);cases hz:cs[j+1]? with
  | none=>
   simp only[nxt,hz]
   rw[XR (by rfl)];refine ow (Uu (Uu ?_));exact hR
  | some b=>
   simp only[nxt,hz]
   have hb:b∈cs:=UF hz;have lN:b≠e:=fun z=>he (z ▸ hb)
   have NH:b≠sl:=fun z=>by
    subst z;have e1:=Yi.mp hz;have e2:=Yi.mp hi;have lt:i<j+1:=by lia
    exact(List.pairwise_iff_getElem.mp c.1) i (j+1) e2.1 e1.1 lt (e2.2.trans e1.2.symm)
   rw[W' (by simp),W' (by simpa using lN),W' (by simpa using NH)];have Ld:∃ b',cs[i+1]?=B' b':=by
    have e1:=(Yi.mp hz).1;exact⟨_,Uy (by lia)⟩
   obtain⟨b',pK⟩:=Ld;cases tg with
   | false=>
    rw[W' (by simp)];refine ow (Uu (Uu ?_));exact(⟨Qbm _ (by decide +kernel),ih (j+1) i b sl D' (by lia) hz hi (by lia)⟩)
   | true=>
    rw[XR rfl];obtain⟨os,ws,Lw,eI,fu⟩:=c.2 i sl hi;simp only[nxt,pK] at fu
    refine ow (UV Lw eI fu (Uu ?_));exact(⟨Qbm _ (by decide +kernel),ih (j+1) (i+1) b b' R' (by lia) hz pK (by lia)⟩)
theorem CC {α:Type}{oe:X6}{Q:α->XT->Prop} (hd:A.handled=C'\/∃ a cs,A.handled=B' (.ref a)/\Yn s.heap (a::cs)/\e∉a::cs) (he:s.heap.get? e=B' oe) (hf:oe.data=.fields vs) (h2:2<vs.size)
  (h:∀ h' o' kj,(∀ b o,b≠e->s.heap.get? b=B' o->h'.get? b=B' o)->h'.get? e=B' o'->o'.cls=oe.cls->o'.dict=oe.dict->o'.data=.fields kj->kj.size=vs.size->kj[1]?=vs[1]?->kj[2]?=(match A.handled with|none=>vs[2]?|some v=>B' v)->E (.ref e) {s with heap:=h'}) :
  N' (XS prog w) A (raiseNew (.ref e):Y6 α) Q E s:=by
 unfold raiseNew;refine ow (wpAny_handled ?_);rcases hd with hn|⟨a,cs,ha,c,Yp⟩
 .rw[hn]
  exact ow (Uu (wpAny_throw (h s.heap oe vs (fun _ _ _ q=>q) he O O hf O O (by rw[hn]))))
 .rw[ha]
  have No:a≠e:=fun z=>Yp (by simp[z])
  show N' _ _ (if (X2 a != X2 e)=D' then _ else _) _ _ s;rw[XR (by simpa using No)];refine ow (U3 (wpAny_runValue (Qq c Yp ?_ _ 0 0 a a R' O O O (Uv _))));have up:=QbU hf (·.setIfInBounds 2 (X2 a));refine ow (show N' _ _ (Qb2 (.ref e) 2 (.ref a)) _ _ s from VI he hf h2 (wpAny_throw (h _ _ _ (fun b q hb hq=>(UP _ _ (XW hb)).trans hq) (U4 _ he (QcW up)) (Qgq _ _) ?_ up (by simp) ?_ ?_)))
  .obtain⟨c1,d1,dt,sl⟩:=oe
   cases dt<;>rfl
  .rw[WI (by decide)]
  .rw[ha];simp[h2]
theorem Yn.lt (c:Yn h cs):∀ b∈cs,b<h.objs.size:=fun b hb=>by
 obtain⟨j,hj⟩:=Qac.mp hb;obtain⟨o,_,ho,_⟩:=c.2 j b hj;exact Uw ho
theorem Yn.mono (c:Yn h cs) (k:∀ b o,b∈cs->h.get? b=B' o->h'.get? b=B' o):Yn h' cs:=⟨c.1,fun j a hj=>by
 obtain⟨o,vs,ho,r⟩:=c.2 j a hj;exact⟨o,vs,k a o (UF hj) ho,r⟩⟩
theorem nN {α:Type}{Q:α->XT->Prop} (hd:Hd A s.heap)
  (h:∀ h' e,(∀ b o,s.heap.get? b=B' o->h'.get? b=B' o)->(∃ o',h'.get? e=B' o'/\o'.cls=.type "StopIteration")->E (.ref e) {s with heap:=h'}) :
  N' (XS prog w) A (newExc (.type "StopIteration") [] >>= fun e=>(raiseNew e:Y6 α)) Q E s:=by
 refine ow ?_;unfold newExc Qdk;refine ow (V2 ?_ (by size_fits));refine ow (m:=Qdb _ _) (VG (a:=Yw) (by first|rfl|(simp only[Qdb];rfl)) (V2 ?_ (by size_fits)));refine CC ?_ (UA _ O) O (by simp;lia) fun h' o' kj k' e' c' _ _ _ _ _=>
  h h' _ (fun b o q=>k' b o (UE (by rw[UY];exact Vk (Uw q))) (Ut _ (Ut _ q))) ⟨o',e',c'⟩
 rcases hd with hn|⟨a,cs,ha,c⟩
 .exact .inl hn
 .refine .inr ⟨a,cs,ha,c.mono fun b o _ q=>Ut _ (Ut _ q),fun z=>?_⟩
  have:=c.lt _ z;rw[UY] at this;exact X4 (UN this (Vm _)) (UT _)
theorem Gw {l:F'} {items} (hd:Hd A s.heap) (hit:s.heap.IsListIter it l i) (hl:s.heap.IsList l items) (hx:items[i]?=C')
  (hQ:∀ h',Qaf it s.heap h'->Q C' {s with heap:=h'}):N' (XS prog w) A (Yo (.ref it)) Q E s:=by
 obtain⟨o,ho,hc,aA⟩:=id hit;obtain⟨ol,tL,_,nl,sX⟩:=hl;unfold Yo;refine ow (VD (U6 (name:=Y0 "__next__") hit.typeIs Qc1 (Vh Qc1 hit.typeIs QgC ?_ (QgL _))));refine(show N' _ _ (Y5 (.ref it) 0 >>= _) _ _ s from ow (UV ho aA (x:=.ref l) O ?_));refine(show N' _ _ (if (X2 l == Yw)=D' then _ else _) _ _ s from ?_);rw[W' (by simp)];refine(show N' _ _ (Y5 (.ref it) 1 >>= _) _ _ s from ow (UV ho aA (x:=.int i 0) O ?_));refine(show N' _ _ (Qay (.ref l) >>= _) _ _ s from ow (Vf tL sX ?_));simp only[UD,hx]
 refine ow (VS (ow (VI ho aA (by simp) ?_)));have sb:Zu it s.heap (s.heap.update it (QaN (·.setIfInBounds 0 Yw))):=ZW ..;refine nN (A:=A.in1) (hd.but ho (fun vs q=>.inl (by rw[aA] at q;cases q;simp)) sb.extBut) fun h' e k' ⟨o',e',c'⟩=>?_
 exact ow (Vr (T:="StopIteration") (b:=D') ⟨o',e',c'⟩ Qao (Uu (hQ h' fun b q hb hq=>k' b q (sb.extBut b q hb hq))))
theorem Jc {items} (hd:Hd A s.heap) (hit:s.heap.IsTupleIter it t i) (ht:s.heap.IsTuple t items) (hx:items[i]?=C')
  (hQ:∀ h',Qaf it s.heap h'->Q C' {s with heap:=h'}):N' (XS prog w) A (Yo (.ref it)) Q E s:=by
 obtain⟨o,ho,hc,aA⟩:=id hit;obtain⟨ol,tL,_,nl,sX⟩:=ht;unfold Yo;refine ow (VD (U6 (name:=Y0 "__next__") hit.typeIs Qf0 (Vh Qf0 hit.typeIs F.entry_tuple_iterator_next ?_ (F.args_tuple_iterator_next_1 _))));refine(show N' _ _ (Y5 (.ref it) 0 >>= _) _ _ s from ow (UV ho aA (x:=.ref t) O ?_));refine(show N' _ _ (if (X2 t == Yw)=D' then _ else _) _ _ s from ?_);rw[W' (by simp)];refine(show N' _ _ (Y5 (.ref it) 1 >>= _) _ _ s from ow (UV ho aA (x:=.int i 0) O ?_));refine(show N' _ _ (Qay (.ref t) >>= _) _ _ s from ow (Vf tL sX ?_));simp only[UD,hx]
 refine ow (VS (ow (VI ho aA (by simp) ?_)));have sb:Zu it s.heap (s.heap.update it (QaN (·.setIfInBounds 0 Yw))):=ZW ..;refine nN (A:=A.in1) (hd.but ho (fun vs q=>.inl (by rw[aA] at q;cases q;simp)) sb.extBut) fun h' e k' ⟨o',e',c'⟩=>?_
 exact ow (Vr (T:="StopIteration") (b:=D') ⟨o',e',c'⟩ Qao (Uu (hQ h' fun b q hb hq=>k' b q (sb.extBut b q hb hq))))
theorem Gq {x left step:Int} (hd:Hd A s.heap) (hit:Qbx s.heap it x left step) (sF:left<=0)
  (hQ:∀ h',Qaf it s.heap h'->Q C' {s with heap:=h'}):N' (XS prog w) A (Yo (.ref it)) Q E s:=by
 have hT:s.TypeIs (.ref it) "range_iterator":=⟨_,hit,O⟩;unfold Yo;refine ow (VD (U6 (name:=Y0 "__next__") hT Qf1 (Vh Qf1 hT F.entry_range_iterator_next ?_ (F.args_range_iterator_next_1 _))));refine(show N' _ _ (Y5 (.ref it) 0 >>= _) _ _ s from ow (UV hit O (x:=Yk x) O ?_));refine(show N' _ _ (Y5 (.ref it) 1 >>= _) _ _ s from ow (UV hit O (x:=Yk left) O ?_));refine(show N' _ _ (Y5 (.ref it) 2 >>= _) _ _ s from ow (UV hit O (x:=Yk step) O ?_));refine(show N' _ _ (if left<=0 then _ else _) _ _ s from ?_);rw[XR sF];refine ow (VS (ow ?_));refine nN (A:=A.in1) hd fun h' e k' ⟨o',e',c'⟩=>?_
 exact ow (Vr (T:="StopIteration") (b:=D') ⟨o',e',c'⟩ Qao (Uu (hQ h' fun b q _ hq=>k' b q hq)))
theorem O4 {items:Array L'}{Q:List L'->XT->Prop} (hd:Hd A s.heap) (ht:IsTup s.heap t items)
  (hQ:∀ h',Qaf s.heap.objs.size s.heap h'->Q items.toList {s with heap:=h'}):N' (XS prog w) A (unpackItems (.ref t) items.size C') Q E s:=by
 have bp:t≠s.heap.objs.size:=by obtain⟨o,ho,_⟩:=ht;exact UE (Uw ho)
 unfold unpackItems;refine ow ?_;unfold notIterableAtAll;refine ow (Xd ht.typeIs slot_tuple_iter.lookup (Uu ?_));simp only[U9,Y3]
 refine ow (U3 (iter_tuple ht (ow (U3 (draw_tuple bp items.size 0 _ _ ⟨_,UA _ O,O,O⟩ (ht.push _) (by lia) fun h₁ AF bF=>?_)))));rw[show List.take items.size (List.drop 0 items.toList)=items.toList by rw[QgK];exact Vd (by simp)];rw[W' (by simp)];have LK:IsTup h₁ t items:=(ht.push _).extBut bF.extBut bp;have k₁:∀ b o,s.heap.get? b=B' o->h₁.get? b=B' o:=fun b o e=>bF.extBut b o (UE (Uw e)) (Ut _ e)
 refine ow (U3 (Jc (hd.keeps k₁) AF (show Yg.IsTuple h₁ t items from LK) (by simp) fun h₂ MD=>?_));simp only[Option.isSome_none,U9,Y3]
 exact Uu (hQ h₂ fun b o hb e=>MD b o hb (k₁ b o e))
theorem Ob {lO:List X'} {x1}{items:Array L'}{Q:Unit->XT->Prop} (hd:Hd A s.heap) (ht:IsTup s.heap t items) (hn:(Qaw lO env).length=items.size) (uw:(Qaw lO env).findIdx? (·.1)=C')
  (h:∀ h',Qaf s.heap.objs.size s.heap h'->N' (XS prog w) A (assignInOrder ((Qaw lO env).map (·.2)) items.toList) Q E {s with heap:=h'}):N' (XS prog w) A (Qa9 (.Tuple lO x1 pos) env (.ref t)) Q E s:=by
 rw[assign_Tuple];refine ow (Wr ?_);unfold unpack;rw[hn,uw];exact ow (U3 (O4 hd ht h))
abbrev Key:=Sum Int K'
def pU:Key->L'->Bool
 | .inl k,v=>QgU k v
 | .inr x,v=>QgD x v
def Qho (w:YF):Key->Int
 | .inl k=>hashInt k
 | .inr x=>hashStr w x
theorem ku:∀ {k:Key}{v:L'},pU k v=D'->(∃ i t,k=XY i/\v=Zn i t)\/(∃ x t,k=X5 x/\v=Qb0 x t)
 | .inl i,v,h=>by
  obtain⟨t,e⟩:=L'.isInt_shape (k:=i) (v:=v) h;exact .inl ⟨i,t,O,e⟩
 | .inr x,v,h=>by
  obtain⟨t,e⟩:=L'.isStrOf_shape (x:=x) (v:=v) h;exact .inr ⟨x,t,O,e⟩
theorem Rn (i:Int) (t:Zf):pU (.inl i) (.int i t)=D':=by simp[pU,QgU]
theorem Qp (x:K') (t:Zf):pU (.inr x) (.str x t)=D':=by simp[pU,QgD]
theorem Qhp (a b:Int):decide ((XY a:Key)=XY b)=(a == b):=by
 by_cases e:a=b
 .subst e;simp
 .have h:¬ (XY a:Key)=XY b:=fun q=>e (XY.inj q)
  rw[Ve h];exact(QbX.mpr e).symm
theorem Qhq (a b:K'):decide ((X5 a:Key)=X5 b)=decide (a=b):=by
 by_cases e:a=b
 .subst e;simp
 .have h:¬ (X5 a:Key)=X5 b:=fun q=>e (Qbt q)
  rw[Ve h,Ve e]
theorem Qhr (a:Int) (b:K'):decide ((XY a:Key)=X5 b)=R':=Ve (fun q=>nomatch q)
theorem Qhs (a:K') (b:Int):decide ((X5 a:Key)=XY b)=R':=Ve (fun q=>nomatch q)
def bV (prog:YE) (w:YF):PySem.KeyKind prog w Key where
 is:=pU
 hash:=Qho w
 inj:=fun v a b ha hb=>by
  rcases ku ha with⟨i,t,rfl,rfl⟩|⟨x,t,rfl,rfl⟩
  .rcases ku hb with⟨j,u,rfl,e⟩|⟨y,u,rfl,e⟩
   .injection e with e1 _;rw[e1]
   .exact nomatch e
  .rcases ku hb with⟨j,u,rfl,e⟩|⟨y,u,rfl,e⟩
   .exact nomatch e
   .injection e with e1 _;rw[e1]
 byValue:=fun k v h=>by
  rcases ku h with⟨i,t,rfl,rfl⟩|⟨x,t,rfl,rfl⟩<;>rfl
 pyHash:=fun hv h=>by
  rcases ku hv with⟨i,t,rfl,rfl⟩|⟨x,t,rfl,rfl⟩
  .exact wpAny_pyHash_int h
  .exact wpAny_pyHash_str h
 eqBool:=fun hu hv h=>by
  rcases ku hu with⟨i,t,rfl,rfl⟩|⟨x,t,rfl,rfl⟩
  .rcases ku hv with⟨j,u,rfl,rfl⟩|⟨y,u,rfl,rfl⟩
   .rw[Qhp] at h;exact wpAny_eqBool_int h
   .rw[Qhr] at h;exact QfW i t y u _ _ _ _ h
  .rcases ku hv with⟨j,u,rfl,rfl⟩|⟨y,u,rfl,rfl⟩
   .rw[Qhs] at h;exact QfV x t j u _ _ _ _ h
   .rw[Qhq] at h;exact wpAny_eqBool_str h
 «strs»:=fun k x t v h=>by
  rcases ku h with⟨i,u,rfl,e⟩|⟨y,u,rfl,e⟩
  .exact nomatch e
  .injection e with e1 _
   subst e1;cases v<;>rfl
theorem Ra (prog:YE) (w:YF) (i:Int) (t:Zf):(bV prog w).is (.inl i) (.int i t)=D':=Rn i t
theorem Rs (prog:YE) (w:YF) (x:K') (t:Zf):(bV prog w).is (.inr x) (.str x t)=D':=Qp x t
set_option genInjectivity true
inductive V where
 | X1 | bl (b:Bool) | int (i:Int) | str (x:K') | byt (b:Array UInt8) | flt (b:UInt64) | ref (a:F') | ty (n:String)
 deriving DecidableEq
set_option genInjectivity false
def aB:V->L'->Prop
 | .X1,u=>u=Yw
 | .bl b,u=>u=Qaj b
 | .int i,u=>∃ t,u=Zn i t
 | .str x,u=>∃ t,u=Qb0 x t
 | .byt b,u=>∃ t,u=QgV b t
 | .flt b,u=>∃ t,u=Qew b t
 | .ref a,u=>u=X2 a
 | .ty n,u=>u=QaQ n
abbrev aC:List V->List L'->Prop:=QbK aB
theorem aC.length {xs:List V}{us:List L'} (r:aC xs us):xs.length=us.length:=Qc8 r
theorem aC.get:∀ {xs:List V}{us:List L'}{i:Nat}{x:V},aC xs us->xs[i]?=B' x->∃ u,us[i]?=B' u/\aB x u
 | _,_,_,_,.nil,e=>by simp at e
 | _,_,0,_,.cons r _,e=>by simp at e;subst e;exact⟨_,O,r⟩
 | _,_,i+1,x,.cons _ t,e=>by
  obtain⟨u,h1,h2⟩:=aC.get (i:=i) (x:=x) t (by simpa using e);exact⟨u,by simpa using h1,h2⟩
theorem aC.set {x:V}{u:L'} (r:aB x u):∀ {xs:List V}{us:List L'} (i:Nat),aC xs us->aC (xs.set i x) (us.set i u)
 | _,_,_,.nil=>.nil
 | _,_,0,.cons _ t=>.cons r t
 | _,_,i+1,.cons q t=>.cons q (aC.set r i t)
theorem aC.append:∀ {xs ys:List V}{us ws:List L'},aC xs us->aC ys ws->aC (xs++ys) (us++ws)
 | _,_,_,_,.nil,s=>s
 | _,_,_,_,.cons r t,s=>.cons r (aC.append t s)
theorem aC.take:∀ {xs:List V}{us:List L'} (n:Nat),aC xs us->aC (xs.take n) (us.take n)
 | _,_,0,_=>.nil
 | _,_,_+1,.nil=>.nil
 | _,_,n+1,.cons r t=>.cons r (aC.take n t)
theorem aC.drop:∀ {xs:List V}{us:List L'} (n:Nat),aC xs us->aC (xs.drop n) (us.drop n)
 | _,_,0,r=>r
 | _,_,_+1,.nil=>.nil
 | _,_,n+1,.cons _ t=>aC.drop n t
def eA:Option V->Option L'->Prop
 | some v,B' u=>aB v u
 | none,C'=>True
 | _,_=>False
def KV {κ:Type}:List (κ×V)->List (κ×L')->Prop:=QbK fun(p:κ×V) (q:κ×L')=>p.1=q.1/\aB p.2 q.2
def kV:Key->V
 | .inl i=>.int i
 | .inr x=>.str x
inductive HO where
 | lst (xs:List V)
 | tup (xs:List V)
 | dK (kvs:List (Key×V)) | dT (kvs:List (List Key×V))
 | set (S:Int->Bool) (n:Nat)
 | ins (C dx:F') (fs:List (K'×V))
 | own (x:F')
 | xd (fs:List (K'×V))
 | met (f x:F')
 | rng (lo hi:Int)
 | X7 (o:X6) (u:HO)
 | Y1 (pos:YA) (qual:K')
 | ext (φ:Yg->Prop)
abbrev Hp:=F'->Option HO
def upd (H:Hp) (a:F') (o:HO):Hp:=fun b=>if b=a then B' o else H b
theorem ai {H:Hp}{o:HO}:upd H a o a=B' o:=by unfold upd;rw[XR rfl]
theorem ak {H:Hp}{o:HO} (h:b≠a):upd H a o b=H b:=by unfold upd;rw[W' h]
theorem cU {H:Hp}{o u:HO} (h:H a=B' o) (h':H b=B' u) (d:o≠u):a≠b:=by
 intro e;subst e;rw[h] at h';exact d (YB h')
theorem av {H:Hp}{o:HO} (h:H a=B' o) (h':H b=C'):a≠b:=by
 intro e;subst e;rw[h] at h';cases h'
section
variable (P:YE) (w:YF)
def cO (H:Hp) (h:Yg) (a:F'):HO->Prop
 | .lst xs=>xs.length<=XX/\∃ (ah:List L') (n:Nat),aC xs ah/\h.get? a=B' {cls:=.type "list",data:=.seq ah.toArray n}
 | .tup xs=>xs.length<=XX/\∃ ah:List L',aC xs ah/\IsTup h a ah.toArray
 | .dK kvs=>kvs.length<=XX/\(a == ZL)=R'/\∃ vs,KV kvs vs/\h.DictOf (bV P w) a vs
 | .dT kvs=>kvs.length<=XX/\(a == ZL)=R'/\∃ xs:List (List Key×F'×L'),
   QbK (fun(p:List Key×V) (q:List Key×F'×L')=>p.1=q.1/\H q.2.1=B' (.tup (p.1.map kV))/\aB p.2 q.2.2) kvs xs /\
   ∃ o es ep,h.get? a=B' o/\o.ExactDict/\o.data=.dict es ep/\es.toList=xs.map (entryOfKey (QbA (bV P w)))/\(xs.map (·.1)).Nodup
 | .set S n=>h.SetOf (intKind P w) a S n
 | .ins C dx fs=>H dx=B' (.own a)/\fs.length<=1000/\dx≠a/\h.get? a=B' (Qa7 C dx) /\
   ∃ mA,h.Ns1 dx mA/\(∀ f,eA (fs.lookup f) (mA f))/\Qes mA (fs.map (·.1))
 | .own _=>∃ o,h.get? a=B' o
 | .xd fs=>∃ mA,h.Ns1 a mA/\∀ f,eA (fs.lookup f) (mA f)
 | .rng lo hi=>∃ t u v,h.get? a=B' {cls:=.type "range",data:=.fields #[.int lo t,.int hi u,.int 1 v]}
 | .X7 o u=>h.get? a=B' o/\cO H h a u
 | .Y1 pos qual=>h.get? a=B' {cls:=.none,data:=.fields #[]}\/∃ c oc vs t,H c=B' (.X7 oc (.own a))/\oc.data=.fields vs/\vs[1]?=B' (.str qual t)/\h.get? a=B' {cls:=.none,data:=.fields #[Yk pos.line,Yk pos.col,.ref c]}
 | .met f x=>h.get? a=B' (Qed (.ref f) (.ref x))
 | .ext φ=>φ h/\(∃ o,h.get? a=B' o)/\∀ h1 h2:Yg,φ h1->(∀ o,h1.get? a=B' o->h2.get? a=B' o)->φ h2
def Yz (H:Hp) (h:Yg):Prop:=∀ a o,H a=B' o->cO P w H h a o
end
section
variable {H H':Hp}{o:HO}
theorem cO.lt (x:cO P w H h a o):a<h.objs.size:=by
 cases o with
 | lst xs=>obtain⟨_,_,_,_,e⟩:=x;exact Uw e
 | tup xs=>obtain⟨_,_,_,p⟩:=x;exact p.lt
 | dK kvs=>obtain⟨_,_,_,_,o,_,_,e,_⟩:=x;exact Uw e
 | dT kvs=>obtain⟨_,_,_,_,o,_,_,e,_⟩:=x;exact Uw e
 | set S n=>obtain⟨o,_,_,_,e,_⟩:=x;exact Uw e
 | ins C dx fs=>obtain⟨_,_,_,e,_⟩:=x;exact Uw e
 | own y=>obtain⟨_,e⟩:=x;exact Uw e
 | xd fs=>obtain⟨_,⟨_,_,_,e,_⟩,_⟩:=x;exact Uw e
 | rng lo hi=>obtain⟨_,_,_,e⟩:=x;exact Uw e
 | X7 ob u=>obtain⟨e,_⟩:=x;exact Uw e
 | Y1 pos qual=>
  rcases x with e|⟨_,_,_,_,_,_,_,e⟩
  .exact Uw e
  .exact Uw e
 | met f y=>exact Uw (show h.get? a=B' _ from x)
 | ext φ=>obtain⟨_,⟨_,e⟩,_⟩:=x;exact Uw e
theorem Paired.Qdp {α β:Type}{F G:α->β->Prop}:∀ {l₁:List α}{l₂:List β},QbK F l₁ l₂->(∀ a b,F a b->G a b)->QbK G l₁ l₂
 | _,_,.nil,_=>.nil
 | _,_,.cons r t,f=>.cons (f _ _ r) (Paired.Qdp t f)
theorem cO.ZE (x:cO P w H h a o) (k:∀ b u,(b=a\/H b=B' (.own a))->h.get? b=B' u->h'.get? b=B' u)
  (ho:∀ b,H b=B' (.own a)->H' b=B' (.own a)) (ht:∀ b xs,H b=B' (.tup xs)->H' b=B' (.tup xs)) (hf:∀ b ob,H b=B' (.X7 ob (.own a))->H' b=B' (.X7 ob (.own a)):=by exact fun _ _ q=>q):cO P w H' h' a o:=by
 induction o with
 | lst xs=>obtain⟨z,ah,n,r,e⟩:=x;exact⟨z,ah,n,r,k _ _ (.inl O) e⟩
 | tup xs=>obtain⟨z,ah,r,ob,e,c⟩:=x;exact⟨z,ah,r,ob,k _ _ (.inl O) e,c⟩
 | dK kvs=>obtain⟨z,y,vs,r,ob,es,ep,e,c⟩:=x;exact⟨z,y,vs,r,ob,es,ep,k _ _ (.inl O) e,c⟩
 | dT kvs=>
  obtain⟨z,y,xs,r,ob,es,ep,e,c⟩:=x;exact⟨z,y,xs,Paired.Qdp r fun p q z=>⟨z.1,ht _ _ z.2.1,z.2.2⟩,ob,es,ep,k _ _ (.inl O) e,c⟩
 | set S n=>obtain⟨ob,es,ep,t,e,c⟩:=x;exact⟨ob,es,ep,t,k _ _ (.inl O) e,c⟩
 | ins C dx fs=>
  obtain⟨d,z,ne,e,mA,⟨od,es,ep,e2,c⟩,r⟩:=x;exact⟨ho _ d,z,ne,k _ _ (.inl O) e,mA,⟨od,es,ep,k _ _ (.inr d) e2,c⟩,r⟩
 | own y=>obtain⟨ob,e⟩:=x;exact⟨ob,k _ _ (.inl O) e⟩
 | xd fs=>obtain⟨mA,⟨od,es,ep,e,c⟩,r⟩:=x;exact⟨mA,⟨od,es,ep,k _ _ (.inl O) e,c⟩,r⟩
 | rng lo hi=>obtain⟨t,u,v,e⟩:=x;exact⟨t,u,v,k _ _ (.inl O) e⟩
 | X7 ob u ih=>obtain⟨e,q⟩:=x;exact⟨k _ _ (.inl O) e,ih q⟩
 | Y1 pos qual=>
  rcases x with e|⟨c,oc,vs,t,e1,e2,e3,e⟩
  .exact .inl (k a _ (.inl O) e)
  .exact .inr ⟨c,oc,vs,t,hf c oc e1,e2,e3,k a _ (.inl O) e⟩
 | met f y=>
  have e:h.get? a=B' (Qed (.ref f) (.ref y)):=x;show h'.get? a=B' (Qed (.ref f) (.ref y));exact k a _ (.inl O) e
 | ext φ=>obtain⟨p,⟨o,e⟩,st⟩:=x;exact⟨st _ _ p fun o q=>k _ _ (.inl O) q,⟨o,k _ _ (.inl O) e⟩,st⟩
theorem Yz.lt (x:Yz P w H h) (e:H a=B' o):a<h.objs.size:=(x a o e).lt
theorem Yz.fresh (x:Yz P w H h) (e:h.objs.size<=a):H a=C':=by
 cases q:H a with
 | none=>rfl
 | some u=>exact X4 (UN (x.lt q) e) (UT _)
theorem Yz.kept (x:Yz P w H h) (k:∀ b u,h.get? b=B' u->h'.get? b=B' u):Yz P w H h':=fun a o e=>
 (x a o e).ZE (fun b u _ q=>k b u q) (fun _ q=>q) fun _ _ q=>q
theorem Yz.laid (x:Yz P w H h) (k:∀ b u,h.get? b=B' u->h'.get? b=B' u) (hp:h.objs.size<=a) (new:cO P w (upd H a o) h' a o):Yz P w (upd H a o) h':=fun b u e=>by
 have hn:=x.fresh hp;by_cases hb:b=a
 .subst hb;rw[ai] at e;cases e;exact new
 .rw[ak hb] at e
  exact(x b u e).ZE (fun c v _ q=>k c v q) (fun c q=>by rw[ak (av q hn)];exact q) (fun c xs q=>by rw[ak (av q hn)];exact q) fun c ob q=>by rw[ak (av q hn)];exact q
end
def Rd (H:Hp) (a:F') (u:HO):Prop:=H a=B' u\/∃ o,H a=B' (.X7 o u)
variable {H H':Hp}{M:Model}{N:List K'}{Q:L'->XT->Prop}{aa bT:List (F'×X6)}{c e:X'}{ch:List F'}{d':Drawn}{g':Array Qdm}{o ob:X6}{op:CmpOp}{s':XT}{t':Nat}{u:L'}{v:V}{x:K'}
theorem Rd.ok {u:HO} (r:Rd H a u) (x:Yz P w H h):cO P w H h a u:=by
 rcases r with r|⟨o,r⟩
 .exact x a u r
 .obtain⟨_,q⟩:=x a _ r
  exact q
def Mut:Option HO->Prop
 | some (.lst _)=>True
 | some (.dK _)=>True
 | some (.dT _)=>True
 | some (.set _ _)=>True
 | some (.ins _ _ _)=>True
 | some (.ext _)=>True
 | _=>False
section
variable {x e:F'}{o':HO}
theorem Yz.write (ok:Yz P w H h) (mu:Mut (H x)) (he:e=x\/H e=B' (.own x)) (k:∀ b u,b≠e->h.get? b=B' u->h'.get? b=B' u) (qO:∃ u,h'.get? e=B' u)
  (new:cO P w (upd H x o') h' x o'):Yz P w (upd H x o') h':=fun b u q=>by
 have tJ:∀ c y,H c=B' (.own y)->c≠x:=fun c y r z=>by subst z;rw[r] at mu;exact mu
 have yM:∀ c xs,H c=B' (.tup xs)->c≠x:=fun c xs r z=>by subst z;rw[r] at mu;exact mu
 by_cases hb:b=x
 .subst hb;rw[ai] at q;cases q;exact new
 .rw[ak hb] at q
  by_cases lN:b=e
  .have q':H b=B' (.own x):=by
    rcases he with z|z
    .exact X4 (lN.trans z) hb
    .rw[lN];exact z
   rw[q] at q';cases q'
   obtain⟨v,hv⟩:=qO;exact⟨v,by rw[lN];exact hv⟩
  .refine(ok b u q).ZE (fun c v hc r=>k c v ?_ r) (fun c r=>by rw[ak (tJ c b r)];exact r) (fun c xs r=>by rw[ak (yM c xs r)];exact r) fun c ob r=>by rw[ak (fun z=>by subst z;rw[r] at mu;exact mu)];exact r
   rcases hc with rfl|hc
   .exact lN
   .rintro rfl
    rcases he with z|z
    .exact tJ c b hc z
    .rw[hc] at z;cases z;exact hb rfl
end
structure Un (fs ex:List F') (H H':Hp) (h h':Yg):Prop where
 keep:∀ b o,h.get? b=B' o->H b=C'->b∉fs->b∉ex->h'.get? b=B' o
 slot:∀ b o,h.get? b=B' o->H b=C'->b∈fs->b∉ex->∃ sl,h'.get? b=B' {o with slots:=sl}
 free:∀ b o,h.get? b=B' o->H b=C'->b∉ex->H' b=C'
 there:∀ b o,h.get? b=B' o->b∉ex->∃ o',h'.get? b=B' o'
 Qaa:∀ b xs,H b=B' (.tup xs)->H' b=B' (.tup xs)
 ZF:∀ b o u,H b=B' (.X7 o u)->H' b=B' (.X7 o u)
 ZZ:∀ b p q,H b=B' (.Y1 p q)->H' b=B' (.Y1 p q)
section
variable {fs La ex Dl:List F'}{H1 H2:Hp}{h1 h2:Yg}{x e:F'}{o:HO}
theorem Un.any (u:Un fs ex H H1 h h1) (q:h.get? b=B' ob) (n:H b=C') (hx:b∉ex):∃ sl,h1.get? b=B' {ob with slots:=sl}:=by
 by_cases hb:b∈fs
 .exact u.slot b ob q n hb hx
 .exact⟨ob.slots,u.keep b ob q n hb hx⟩
theorem Un.trans (a:Un fs ex H H1 h h1) (b:Un fs ex H1 H2 h1 h2):Un fs ex H H2 h h2 where
 keep:=fun c ob q n hc hx=>b.keep c ob (a.keep c ob q n hc hx) (a.free c ob q n hx) hc hx
 slot:=fun c ob q n hc hx=>by
  obtain⟨sl,e1⟩:=a.slot c ob q n hc hx;obtain⟨zq,e2⟩:=b.slot c _ e1 (a.free c ob q n hx) hc hx;exact⟨zq,e2⟩
 free:=fun c ob q n hx=>by
  obtain⟨o',e1⟩:=a.there c ob q hx;exact b.free c o' e1 (a.free c ob q n hx) hx
 there:=fun c ob q hx=>by
  obtain⟨o',e1⟩:=a.there c ob q hx;exact b.there c o' e1 hx
 Qaa:=fun c xs q=>b.Qaa c xs (a.Qaa c xs q)
 ZF:=fun c ob xs q=>b.ZF c ob xs (a.ZF c ob xs q)
 ZZ:=fun c p q z=>b.ZZ c p q (a.ZZ c p q z)
theorem Un.kept (k:∀ b u,h.get? b=B' u->h'.get? b=B' u):Un fs ex H H h h':=
 ⟨fun b ob q _ _ _=>k b ob q,fun b ob q _ _ _=>⟨ob.slots,k b ob q⟩,fun _ _ _ n _=>n,fun b ob q _=>⟨ob,k b ob q⟩,fun _ _ q=>q,fun _ _ _ q=>q,fun _ _ _ q=>q⟩
theorem Un.refl:Un fs ex H H h h:=Un.kept fun _ _ q=>q
theorem Un.laid (k:∀ b u,h.get? b=B' u->h'.get? b=B' u) (hp:h.objs.size<=a) (hn:H a=C'):Un fs ex H (upd H a o) h h' where
 keep:=fun b u q _ _ _=>k b u q
 slot:=fun b u q _ _ _=>⟨u.slots,k b u q⟩
 free:=fun b u q n _=>by rw[ak (UE (UN (Uw q) hp))];exact n
 there:=fun b u q _=>⟨u,k b u q⟩
 Qaa:=fun b xs q=>by rw[ak (av q hn)];exact q
 ZF:=fun b u xs q=>by rw[ak (av q hn)];exact q
 ZZ:=fun b p r q=>by rw[ak (av q hn)];exact q
theorem Un.write (mu:Mut (H x)) (he:e=x\/H e=B' (.own x)) (k:∀ b u,b≠e->h.get? b=B' u->h'.get? b=B' u) (qO:∃ u,h'.get? e=B' u):Un fs ex H (upd H x o) h h':=by
 have hx:∀ b,H b=C'->b≠x:=fun b n z=>by subst z;rw[n] at mu;exact mu
 have hb:∀ b,H b=C'->b≠e:=fun b n z=>by
  subst z;rcases he with r|r
  .exact hx b n r
  .rw[n] at r;cases r
 have hm:∀ b u,H b=B' u->¬ Mut (B' u)->b≠x:=fun b u q nm z=>by subst z;rw[q] at mu;exact nm mu
 refine⟨fun b u q n _ _=>k b u (hb b n) q,fun b u q n _ _=>⟨u.slots,k b u (hb b n) q⟩,fun b u q n _=>by rw[ak (hx b n)];exact n,fun b u q _=>?_,
  fun b xs q=>by rw[ak (hm b _ q fun z=>z)];exact q,fun b u xs q=>by rw[ak (hm b _ q fun z=>z)];exact q,fun b p r q=>by rw[ak (hm b _ q fun z=>z)];exact q⟩
 by_cases lN:b=e
 .subst lN;exact qO
 .exact⟨u,k b u lN q⟩
end
def trk (h:Yg) (H:Hp):List F':=(YM h.objs.size).filter fun a=>(H a).isSome
def nY (h:Yg) (H:Hp):Yg:=PySem.W.hideAll h (trk h H)
theorem OD (h:Yg) (H:Hp):(nY h H).objs.size=h.objs.size:=PySem.W.hideAll_size _ _
theorem CW (e:h.get? b=B' o) (n:H b=C'):(nY h H).get? b=B' o:=
 PySem.W.hideAll_get _ e fun hm=>by
  have q:(H b).isSome=D':=(ZJ.mp hm).2;rw[n] at q;simp at q
theorem Ot (e:(nY h H).get? b=B' o):h.get? b=B' o/\H b=C':=by
 have e':h.get? b=B' o:=PySem.W.of_hideAll (trk h H) e;refine⟨e',?_⟩;cases q:H b with
 | none=>rfl
 | some x=>
  have hm:b∈trk h H:=ZJ.mpr ⟨QaL.mpr (Uw e'),by simp[q]⟩;have z:(nY h H).get? b=C':=PySem.W.hideAll_none (trk h H) hm;rw[z] at e;cases e
def P9 (g h:Yg) (L:F'):List (F'×X6):=(YM h.objs.size).filterMap fun a=>if a=L\/(g.get? a).isSome=D' then C' else(h.get? a).map fun o=>(a,o)
def aZ (g h:Yg) (L d:F'):List (F'×X6):=(P9 g h L).filter fun p=>decide (p.1≠d)
structure Mod (K:V') (mg:K'->Option L') (base:Yg):Prop where
 kin:K.In base
 glob:base.Ns YW mg
 blt:∃ mb,base.Ns Qbz mb/\∀ x:K',x≠"__name__"->mb x=Zc x
 nolimit:base.NoLimit
 bmain:∃ bm ob,mg "__builtins__"=B' (.ref bm)/\bm≠Qbz/\base.get? bm=B' ob/\ob.cls=.type "module"/\ob.dict=B' Qbz/\ob.data=.plain
structure Cx where
 prog:YE
 w:YF
 K:V'
 mg:K'->Option L'
 base:Yg
 A:YT
 N:List K'
 s₀:XT
 H₀:Hp
 env:Za
 outer:List Za
 stack:List Za
 ex:List F'
 fn:K'->Bool
 calm:Bool
 pn:List (F'×X6)
 xe:L'->XT->Prop
def YG (l:List Za):List F':=l.filterMap (·.frame)
abbrev Cx.fs (X:Cx):List F':=YG X.outer
def Vis (sc:ZD) (x:K'):Prop:=sc.names.lookup x=B' .local\/sc.names.lookup x=B' .cell\/sc.names.lookup x=B' .free
def Loc (sc:ZD) (x:K'):Prop:=sc.names.lookup x=B' .local\/sc.names.lookup x=B' .cell
def Look (env:Za) (h:Yg) (m:K'->Option L') (x:K') (u:L'):Prop:=
 (env.kindOf x=B' .local/\m x=B' u)\/((env.kindOf x=B' .cell\/env.kindOf x=B' .free)/\∃ c,env.cells.lookup x=B' c/\h.IsCell c (B' u))
def jU (H:Hp) (cs:List F'):Prop:=cs.Nodup/\∀ j a,cs[j]?=B' a->∃ o u vs,H a=B' (.X7 o u)/\o.data=.fields vs/\vs[2]?=B' (nxt cs (j+1))
def jn (A:YT) (H:Hp):Prop:=A.handled=C'\/∃ a cs,A.handled=B' (.ref a)/\jU H (a::cs)
structure Cx.Ok (X:Cx):Prop where
 mod:Mod X.K X.mg X.base
 kind:X.env.scope.kind=.function
 glob:X.env.globals=YW
 blt:X.env.builtins=Qbz
 above:X.s₀.heap.objs.size<=X.env.locals
 inj:∀ x y c,X.env.cells.lookup x=B' c->X.env.cells.lookup y=B' c->x=y
 has:∀ x,(X.env.kindOf x=B' .cell\/X.env.kindOf x=B' .free)->∃ c,X.env.cells.lookup x=B' c
 cab:∀ x c,X.fn x=D'->X.env.cells.lookup x=B' c->X.s₀.heap.objs.size<=c
 hd:jn X.A X.H₀
 frames:X.A.frames=B' X.stack
 stk:X.stack=X.outer\/(X.stack=X.env::X.outer/\X.env.frame=B' X.env.locals)
 exf:∀ b∈X.ex,b≠X.env.locals/\∀ x c,X.env.cells.lookup x=B' c->c≠b
 bs:∀ b o,X.base.get? b=B' o->X.s₀.heap.get? b=B' o/\X.H₀ b=C'
 bsz:X.base.objs.size<=X.s₀.heap.objs.size
 QaV:∀ b o,X.base.get? b=B' o->b∉X.ex
 Qbc:∀ b∈X.ex,b∉X.fs
 ZO:X.s₀.heap.FunFrames X.base X.outer
 frf:∀ b∈X.fs,X.H₀ b=C'
structure Inv (X:Cx) (aa:List (F'×X6)) (σ:List (Option V)) (H:Hp) (s:XT):Prop where
 ok:X.Ok
 os:s.os=X.s₀.os
 bare:QaD s.gens
 base:Un X.fs X.ex X.H₀ H X.s₀.heap s.heap
 loc:∃ m,s.heap.Ns X.env.locals m/\∀ (i:Nat) (x:K') (v:V),X.N[i]?=B' x->σ[i]?=B' (B' v)->Vis X.env.scope x->∃ u,aB v u/\Look X.env s.heap m x u
 cell:∀ x c,X.env.cells.lookup x=B' c->∃ v,s.heap.IsCell c v
 free:H X.env.locals=C'
 Zg:∀ x c,X.env.cells.lookup x=B' c->H c=C'
 pin:∀ p∈X.pn++aa,s.heap.get? p.1=B' p.2/\H p.1=C'/\p.1≠X.env.locals/\p.1∉X.fs/\∀ v,p.2.data≠.cell v
 XU:Yz X.prog X.w H s.heap
 len:σ.length=X.N.length
section
variable {X:Cx}{σ:List (Option V)}
theorem Cx.Ok.Qht (ok:X.Ok) (e:X.base.get? b=B' o):b∉X.fs:=fun hb=>by
 have:=(ok.ZO.mem hb).1;rw[e] at this;cases this
theorem Inv.bs (I:Inv X aa σ H s):∀ b o,X.base.get? b=B' o->s.heap.get? b=B' o/\H b=C':=fun b o e=>
 ⟨I.base.keep b o (I.ok.bs b o e).1 (I.ok.bs b o e).2 (I.ok.Qht e) (I.ok.QaV b o e),I.base.free b o (I.ok.bs b o e).1 (I.ok.bs b o e).2 (I.ok.QaV b o e)⟩
theorem Inv.bk (I:Inv X aa σ H s):∀ b o,X.base.get? b=B' o->s.heap.get? b=B' o:=fun b o e=>(I.bs b o e).1
theorem Inv.mod (I:Inv X aa σ H s):Mod X.K X.mg X.base:=I.ok.mod
theorem Inv.Yq (I:Inv X aa σ H s):X.K.In s.heap:=I.ok.mod.kin.keeps I.bk
theorem jU.mono (c:jU H cs) (k:∀ b o u,H b=B' (.X7 o u)->H' b=B' (.X7 o u)):jU H' cs:=⟨c.1,fun j a hj=>by
 obtain⟨o,u,vs,h,r⟩:=c.2 j a hj;exact⟨o,u,vs,k a o u h,r⟩⟩
theorem jU.chn (c:jU H cs) (k:Yz P w H h):Yn h cs:=⟨c.1,fun j a hj=>by
 obtain⟨o,u,vs,q,r⟩:=c.2 j a hj;obtain⟨z,_⟩:=k a _ q;exact⟨o,vs,z,r⟩⟩
theorem jU.Qcq (c:jU H cs) (hb:H b=C'):b∉cs:=fun z=>by
 obtain⟨j,hj⟩:=Qac.mp z;obtain⟨o,u,vs,q,_⟩:=c.2 j b hj;rw[hb] at q;cases q
theorem jn.mono {A:YT} (x:jn A H) (k:∀ b o u,H b=B' (.X7 o u)->H' b=B' (.X7 o u)):jn A H':=by
 rcases x with e|⟨a,cs,e,c⟩
 .exact .inl e
 .exact .inr ⟨a,cs,e,c.mono k⟩
theorem Inv.QaW (I:Inv X aa σ H s):jn X.A H:=I.ok.hd.mono I.base.ZF
theorem jn.hd (x:jn A H) (k:Yz P w H h):Hd A h:=by
 rcases x with e|⟨a,cs,e,c⟩
 .exact .inl e
 .exact .inr ⟨a,cs,e,c.chn k⟩
theorem jn.new {p:F'}{u:HO} (x:jn A H) (hn:H p=C'):jn A (upd H p u):=x.mono fun b o v q=>by rw[ak (av q hn)];exact q
theorem Inv.hd (I:Inv X aa σ H s):Hd X.A s.heap:=I.QaW.hd I.XU
theorem Inv.lt (I:Inv X aa σ H s):X.env.locals<s.heap.objs.size:=let ⟨_,hn,_⟩:=I.loc;hn.lt
theorem Inv.sz (I:Inv X aa σ H s):X.s₀.heap.objs.size<=s.heap.objs.size:=U5 I.ok.above (VE I.lt)
theorem Inv.QeJ (I:Inv X aa σ H s) (h:s.heap.objs.size<=a):a∉X.fs:=fun hb=>by
 obtain⟨_,o,ho,_⟩:=I.ok.ZO.mem hb;exact X4 (UN (Uw ho) (U5 I.sz h)) (UT _)
theorem Inv.cne (I:Inv X aa σ H s):∀ x c,X.env.cells.lookup x=B' c->c≠X.env.locals:=fun x c e z=>by
 obtain⟨v,o,ho,hd⟩:=I.cell x c e;obtain⟨m,⟨o',es,ep,i0,cJ,_⟩,_⟩:=I.loc;rw[z,i0] at ho;cases ho;rw[cJ] at hd;cases hd
theorem Inv.ZO (I:Inv X aa σ H s):s.heap.FunFrames X.base X.outer:=by
 have all:∀ (l:List Za),(∀ b∈YG l,b∈X.fs)->X.s₀.heap.FunFrames X.base l->s.heap.FunFrames X.base l:=by
  intro l
  induction l with
  | nil=>intro _ _;trivial
  | cons env r ih=>
   intro hs hl;obtain⟨hk,⟨L,o,hf,hn,ho,hd⟩,hr⟩:=hl;have hL:L∈X.fs:=hs L (by unfold YG;rw[Wv,hf];exact UQ);obtain⟨sl,e⟩:=I.base.slot L o ho (I.ok.frf L hL) hL fun z=>I.ok.Qbc L z hL
   exact⟨hk,⟨L,_,hf,hn,e,hd⟩,ih (fun b hb=>hs b (by unfold YG;rw[Wv,hf];exact UI _ hb)) hr⟩
 exact all X.outer (fun _ hb=>hb) I.ok.ZO
theorem Inv.stack (I:Inv X aa σ H s):s.heap.FunFrames X.base X.stack:=by
 rcases I.ok.stk with e|⟨e,hf⟩
 .rw[e];exact I.ZO
 .rw[e]
  obtain⟨m,hn,_⟩:=I.loc;refine .cons (by rw[I.ok.kind];decide) hf hn ?_ I.ZO;exact Yg.get?_none_of_le (U5 I.ok.bsz I.ok.above)
theorem Inv.ZP (I:Inv X aa σ H s):∀ b∈YG X.stack,b∈X.env.locals::X.fs:=fun b hb=>by
 rcases I.ok.stk with e|⟨e,hf⟩
 .rw[e] at hb;exact UI _ hb
 .rw[e] at hb
  unfold YG at hb;rw[Wv,hf] at hb;exact hb
theorem Inv.Qb4 (I:Inv X aa σ H s):∀ b∈YG X.stack,H b=C':=fun b hb=>by
 rcases U1.mp (I.ZP b hb) with e|hb
 .rw[e];exact I.free
 .obtain⟨_,o,ho,_⟩:=I.ok.ZO.mem hb
  exact I.base.free b o ho (I.ok.frf b hb) fun z=>I.ok.Qbc b z hb
theorem Inv.step (I:Inv X aa σ H s)
  (fY:∀ b∈ch,(b∈X.ex\/X.s₀.heap.objs.size<=b)/\b≠X.env.locals/\(∀ x c,X.env.cells.lookup x=B' c->c≠b)/\∀ p∈X.pn++aa,p.1≠b)
  (keep:∀ b o,b≠X.env.locals->b∉X.fs->b∉ch->s.heap.get? b=B' o->H b=C'->h'.get? b=B' o)
  (slot:∀ b o,b≠X.env.locals->b∈X.fs->b∉ch->s.heap.get? b=B' o->H b=C'->∃ sl,h'.get? b=B' {o with slots:=sl}) (free:∀ b o,b∉ch->s.heap.get? b=B' o->H b=C'->H' b=C')
  (there:∀ b o,b∉ch->s.heap.get? b=B' o->∃ o',h'.get? b=B' o')
  (Qaa:∀ b xs,H b=B' (.tup xs)->H' b=B' (.tup xs)) (ZF:∀ b o u,H b=B' (.X7 o u)->H' b=B' (.X7 o u)) (ZZ:∀ b p q,H b=B' (.Y1 p q)->H' b=B' (.Y1 p q))
  (ns:∀ m,s.heap.Ns X.env.locals m->h'.Ns X.env.locals m) (XU:Yz X.prog X.w H' h') (hg:QaD g') :
  Inv X aa σ H' {s with heap:=h',gens:=g',drawn:=d',toks:=t'}:=by
 have Ei:∀ b o,X.s₀.heap.get? b=B' o->b≠X.env.locals:=fun b o e=>UE (UN (Uw e) I.ok.above)
 have wg:∀ b o,X.s₀.heap.get? b=B' o->b∉X.ex->b∉ch:=fun b o e hx hb=>by
  rcases(fY b hb).1 with z|z
  .exact hx z
  .exact X4 (UN (Uw e) z) (UT _)
 have mQ:∀ x c,X.env.cells.lookup x=B' c->∀ v,s.heap.IsCell c v->h'.IsCell c v:=fun x c e v ⟨o,ho,hd⟩=>by
  have sZ:c∉ch:=fun z=>(fY c z).2.2.1 x c e rfl
  by_cases hc:c∈X.fs
  .obtain⟨sl,q⟩:=slot c o (I.cne x c e) hc sZ ho (I.Zg x c e)
   exact⟨_,q,hd⟩
  .exact⟨o,keep c o (I.cne x c e) hc sZ ho (I.Zg x c e),hd⟩
 refine⟨I.ok,I.os,hg,⟨fun b o e n hb hx=>?_,fun b o e n hb hx=>?_,fun b o e n hx=>?_,fun b o e hx=>?_,fun b xs e=>Qaa b xs (I.base.Qaa b xs e),fun b o xs e=>ZF b o xs (I.base.ZF b o xs e),fun b p q e=>ZZ b p q (I.base.ZZ b p q e)⟩,?_,fun x c e=>?_,?_,fun x c e=>?_,fun p hp=>?_,XU,I.len⟩
 .exact keep b o (Ei b o e) hb (wg b o e hx) (I.base.keep b o e n hb hx) (I.base.free b o e n hx)
 .obtain⟨sl,e1⟩:=I.base.slot b o e n hb hx
  obtain⟨zq,e2⟩:=slot b _ (Ei b o e) hb (wg b o e hx) e1 (I.base.free b o e n hx);exact⟨zq,e2⟩
 .obtain⟨o',e1⟩:=I.base.there b o e hx
  exact free b o' (wg b o e hx) e1 (I.base.free b o e n hx)
 .obtain⟨o',e1⟩:=I.base.there b o e hx
  exact there b o' (wg b o e hx) e1
 .obtain⟨m,hn,hl⟩:=I.loc
  refine⟨m,ns m hn,fun i x v e1 e2 e3=>?_⟩;obtain⟨u,r,l⟩:=hl i x v e1 e2 e3;refine⟨u,r,?_⟩;rcases l with l|⟨k,c,e,z⟩
  .exact .inl l
  .exact .inr ⟨k,c,e,mQ x c e _ z⟩
 .obtain⟨v,z⟩:=I.cell x c e
  exact⟨v,mQ x c e v z⟩
 .obtain⟨m,⟨o,_,_,ho,_⟩,_⟩:=I.loc
  exact free _ o (fun z=>(fY _ z).2.1 O) ho I.free
 .obtain⟨v,o,ho,hd⟩:=I.cell x c e
  exact free c o (fun z=>(fY c z).2.2.1 x c e O) ho (I.Zg x c e)
 .obtain⟨e,n,ne,nf,d⟩:=I.pin p hp
  have sZ:p.1∉ch:=fun z=>(fY p.1 z).2.2.2 p hp rfl
  exact⟨keep p.1 p.2 ne nf sZ e n,free p.1 p.2 sZ e n,ne,nf,d⟩
theorem Inv.un (I:Inv X aa σ H s) (u:Un X.fs [] H H' s.heap h') (XU:Yz X.prog X.w H' h'):Inv X aa σ H' {s with heap:=h',toks:=t'}:=by
 obtain⟨m,⟨o,es,ep,ho,r⟩,_⟩:=id I.loc;obtain⟨sl,hL⟩:=u.any ho I.free (by simp);exact I.step (g':=s.gens) (d':=s.drawn) (ch:=[]) (fun _ z=>nomatch z) (fun b o _ hb _ e n=>u.keep b o e n hb (by simp)) (fun b o _ hb _ e n=>u.slot b o e n hb (by simp)) (fun b o _ e n=>u.free b o e n (by simp)) (fun b o _ e=>u.there b o e (by simp)) u.Qaa u.ZF u.ZZ (fun m' hm=>by
  obtain⟨o',ig,zA,i0,r'⟩:=hm;rw[ho] at i0;cases i0
  exact⟨_,ig,zA,hL,r'⟩) XU I.bare
theorem Inv.call (I:Inv X aa σ H s) (u:Un (YG X.stack) ch H H' s.heap h') (XU:Yz X.prog X.w H' h') (hg:QaD g')
  (fY:∀ b∈ch,(b∈X.ex\/X.s₀.heap.objs.size<=b)/\b≠X.env.locals/\(∀ x c,X.env.cells.lookup x=B' c->c≠b)/\∀ p∈X.pn++aa,p.1≠b) :
  Inv X aa σ H' {s with heap:=h',gens:=g',drawn:=d',toks:=t'}:=by
 obtain⟨m,⟨o,es,ep,ho,r⟩,_⟩:=id I.loc;obtain⟨sl,hL⟩:=u.any ho I.free fun z=>(fY _ z).2.1 rfl
 exact I.step (ch:=ch) fY (fun b o hL hb hc e n=>u.keep b o e n (fun z=>(U1.mp (I.ZP b z)).elim hL hb) hc) (fun b o _ _ hc e n=>u.any e n hc) (fun b o hc e n=>u.free b o e n hc) (fun b o hc e=>u.there b o e hc) u.Qaa u.ZF u.ZZ (fun m' hm=>by
  obtain⟨o',ig,zA,i0,r'⟩:=hm;rw[ho] at i0;cases i0
  exact⟨_,ig,zA,hL,r'⟩) XU hg
theorem Inv.turned (I:Inv X aa σ H s) (k:∀ b o,b≠it->s.heap.get? b=B' o->h'.get? b=B' o) (hn:H it=C') (hL:it≠X.env.locals)
  (h1:it∈X.ex\/X.s₀.heap.objs.size<=it) (h2:∀ x c,X.env.cells.lookup x=B' c->c≠it) (h3:∀ p∈X.pn++aa,p.1≠it):Inv X aa σ H {s with heap:=h',toks:=t'}:=by
 have Db:∀ b u,H b=B' u->b≠it:=fun b u e z=>by rw[z,hn] at e;cases e
 refine I.step (g':=s.gens) (d':=s.drawn) (ch:=[it]) (fun b hb=>?_) (fun b o _ _ hc e _=>k b o (fun z=>hc (by simp[z])) e) (fun b o _ _ hc e _=>⟨o.slots,k b o (fun z=>hc (by simp[z])) e⟩) (fun _ _ _ _ n=>n)
  (fun b o hc e=>⟨o,k b o (fun z=>hc (by simp[z])) e⟩) (fun _ _ e=>e) (fun _ _ _ e=>e) (fun _ _ _ e=>e) (fun m hm=>?_) (fun b u e=>?_) I.bare
 .have e:b=it:=by simpa using hb
  subst e;exact⟨h1,hL,h2,h3⟩
 .obtain⟨o,es,ep,ho,r⟩:=hm
  exact⟨o,es,ep,k _ o (XW hL) ho,r⟩
 .refine(I.XU b u e).ZE (fun c v hc q=>k c v ?_ q) (fun _ q=>q) fun _ _ q=>q
  rcases hc with z|z
  .rw[z];exact Db b u e
  .exact Db c _ z
theorem Inv.tok (I:Inv X aa σ H s) (t:Nat):Inv X aa σ H {s with toks:=t}:=I.un (h':=s.heap) (t':=t) Un.refl I.XU
theorem Inv.kept {t':Nat} (I:Inv X aa σ H s) (k:∀ b u,s.heap.get? b=B' u->h'.get? b=B' u):Inv X aa σ H {s with heap:=h',toks:=t'}:=I.un (Un.kept k) (I.XU.kept k)
theorem Inv.laid {a:F'}{o:HO}{t':Nat} (I:Inv X aa σ H s) (k:∀ b u,s.heap.get? b=B' u->h'.get? b=B' u) (hp:s.heap.objs.size<=a) (new:cO X.prog X.w (upd H a o) h' a o) :
  Inv X aa σ (upd H a o) {s with heap:=h',toks:=t'}:=I.un (Un.laid k hp (I.XU.fresh hp)) (I.XU.laid k hp new)
theorem Inv.write {x e:F'}{o:HO}{t':Nat} (I:Inv X aa σ H s) (mu:Mut (H x)) (he:e=x\/H e=B' (.own x)) (k:∀ b u,b≠e->s.heap.get? b=B' u->h'.get? b=B' u) (qO:∃ u,h'.get? e=B' u)
  (new:cO X.prog X.w (upd H x o) h' x o):Inv X aa σ (upd H x o) {s with heap:=h',toks:=t'}:=I.un (Un.write mu he k qO) (I.XU.write mu he k qO new)
theorem Inv.QaX (I:Inv X aa σ H s) (h:∀ p∈bT,s.heap.get? p.1=B' p.2/\H p.1=C'/\p.1≠X.env.locals/\p.1∉X.fs/\∀ v,p.2.data≠.cell v):Inv X bT σ H s:=
 ⟨I.ok,I.os,I.bare,I.base,I.loc,I.cell,I.free,I.Zg,fun p hp=>(YK.mp hp).elim (fun z=>I.pin p (UZ _ z)) (h p),I.XU,I.len⟩
theorem By (hN:N.Nodup){j:Nat} (a:N[i]?=B' x) (b:N[j]?=B' x):i=j:=by
 obtain⟨h1,e1⟩:=Yi.mp a;obtain⟨h2,e2⟩:=Yi.mp b;exact(List.getElem_inj hN).mp (e1.trans e2.symm)
theorem JC {Q:Unit->XT->Prop} (I:Inv X aa σ H s) (hN:X.N.Nodup) (hi:X.N[i]?=B' x) (hx:Loc X.env.scope x) (r:aB v u)
  (h:∀ s',Inv X aa (σ.set i (B' v)) H s'->(∃ a,Zu a s.heap s'.heap/\(a=X.env.locals\/X.env.cells.lookup x=B' a))->Q () s') (hf:X.fn x=D'\/X.env.scope.names.lookup x=B' .local:=by first|exact .inl rfl|exact .inr rfl|assumption):N' M A (storeName X.env x u) Q E s:=by
 obtain⟨m,hn,hl⟩:=id I.loc;have pF:(X.env.scope.kind == .class || (X.env.scope.kind == .module && X.env.locals != X.env.globals))=R':=by rw[I.ok.kind];rfl
 have wU:i<σ.length:=by rw[I.len];exact(Yi.mp hi).1
 have cne:=I.cne;have ii:∀ {a:F'}{h':Yg},(∃ o,s.heap.get? a=B' o/\H a=C')->Zu a s.heap h'->Yz X.prog X.w H h':=fun {a h'} ha hs b ob e=>by
  obtain⟨_,_,mK⟩:=ha;refine(I.XU b ob e).ZE (fun c w' hc q=>(hs.2 c ?_).trans q) (fun _ q=>q) fun _ _ q=>q
  rintro rfl
  rcases hc with rfl|hc
  .rw[mK] at e;cases e
  .rw[mK] at hc;cases hc
 rcases hx with hk|hk
 .refine wpAny_storeName_local hk hn (fun h' kP hs=>?_) pF
  obtain⟨oL,_,_,Df,_⟩:=id hn;refine h _ ⟨I.ok,I.os,I.bare,⟨fun b o e n hb hx=>?_,fun b o e n hb hx=>?_,I.base.free,fun b o e hx=>?_,I.base.Qaa,I.base.ZF,I.base.ZZ⟩,⟨_,kP,fun j y v' e1 e2 e3=>?_⟩,fun y c e=>?_,I.free,I.Zg,fun p hp=>?_,ii ⟨oL,Df,I.free⟩ hs,by simpa using I.len⟩ ⟨_,hs,.inl rfl⟩
  .exact(hs.2 b (UE (UN (Uw e) I.ok.above))).trans (I.base.keep b o e n hb hx)
  .obtain⟨sl,e1⟩:=I.base.slot b o e n hb hx
   exact⟨sl,(hs.2 b (UE (UN (Uw e) I.ok.above))).trans e1⟩
  .obtain⟨o',e1⟩:=I.base.there b o e hx
   exact⟨o',(hs.2 b (UE (UN (Uw e) I.ok.above))).trans e1⟩
  .by_cases hj:j=i
   .subst hj
    rw[hi] at e1;cases e1
    rw[Wg wU] at e2;cases e2
    exact⟨u,r,.inl ⟨hk,by simp⟩⟩
   .rw[Wp (XW hj)] at e2
    obtain⟨u',r',q⟩:=hl j y v' e1 e2 e3;refine⟨u',r',?_⟩;rcases q with⟨k,e⟩|⟨k,c,e,z⟩
    .refine .inl ⟨k,?_⟩
     have:y≠x:=fun e=>hj (By hN e1 (e ▸ hi))
     simp[this,e]
    .exact .inr ⟨k,c,e,z.sameBut hs (cne y c e)⟩
  .obtain⟨w',z⟩:=I.cell y c e
   exact⟨w',z.sameBut hs (cne y c e)⟩
  .obtain⟨e,n,ne,nf,d⟩:=I.pin p hp
   exact⟨(hs.2 p.1 ne).trans e,n,ne,nf,d⟩
 .have zn:X.fn x=D':=by
   rcases hf with z|z
   .exact z
   .rw[z] at hk;cases hk
  obtain⟨c,hc⟩:=I.ok.has x (.inl hk);obtain⟨w',z⟩:=I.cell x c hc;refine wpAny_storeName_cell I.ok.kind hk hc z (fun h' jD hs=>?_);obtain⟨oc,sx,Bk⟩:=id z;refine h {s with heap:=h'} ⟨I.ok,I.os,I.bare,⟨fun b o e n hb hx=>?_,fun b o e n hb hx=>?_,I.base.free,fun b o e hx=>?_,I.base.Qaa,I.base.ZF,I.base.ZZ⟩,⟨m,hn.sameBut hs (XW (cne x c hc)),fun j y v' e1 e2 e3=>?_⟩,fun y c' e=>?_,I.free,I.Zg,fun p hp=>?_,ii ⟨oc,sx,I.Zg x c hc⟩ hs,by simpa using I.len⟩ ⟨c,hs,.inr hc⟩
  .exact(hs.2 b (UE (UN (Uw e) (I.ok.cab x c zn hc)))).trans (I.base.keep b o e n hb hx)
  .obtain⟨sl,e1⟩:=I.base.slot b o e n hb hx
   exact⟨sl,(hs.2 b (UE (UN (Uw e) (I.ok.cab x c zn hc)))).trans e1⟩
  .obtain⟨o',e1⟩:=I.base.there b o e hx
   exact⟨o',(hs.2 b (UE (UN (Uw e) (I.ok.cab x c zn hc)))).trans e1⟩
  .by_cases hj:j=i
   .subst hj
    rw[hi] at e1;cases e1
    rw[Wg wU] at e2;cases e2
    exact⟨u,r,.inr ⟨.inl hk,c,hc,jD⟩⟩
   .rw[Wp (XW hj)] at e2
    obtain⟨u',r',q⟩:=hl j y v' e1 e2 e3;refine⟨u',r',?_⟩;rcases q with q|⟨k,c',e,z'⟩
    .exact .inl q
    .refine .inr ⟨k,c',e,z'.sameBut hs ?_⟩
     rintro rfl
     exact hj (By hN e1 (I.ok.inj _ _ _ e hc ▸ hi))
  .by_cases EJ:c'=c
   .subst EJ;exact⟨_,jD⟩
   .obtain⟨w2,z2⟩:=I.cell y c' e
    exact⟨w2,z2.sameBut hs EJ⟩
  .obtain⟨e,n,ne,nf,d⟩:=I.pin p hp
   refine⟨(hs.2 p.1 ?_).trans e,n,ne,nf,d⟩;intro q;rw[q,sx] at e;have q':oc=p.2:=YB e;exact d w' (by rw[<- q'];exact Bk)
theorem BP {Q:Unit->XT->Prop} (I:Inv X aa σ H s) (hN:X.N.Nodup) (hi:X.N[i]?=B' x) (hx:Loc X.env.scope x) (r:aB v u)
  (h:∀ s',Inv X aa (σ.set i (B' v)) H s'->Q () s') (hf:X.fn x=D'\/X.env.scope.names.lookup x=B' .local:=by first|exact .inl rfl|exact .inr rfl|assumption):N' M A (storeName X.env x u) Q E s:=
 JC I hN hi hx r (fun s' I' _=>h s' I') hf
theorem Inv.QeK (I:Inv X aa σ H s) (ho:s'.os=s.os) (u:Un (YG X.stack) ch H H' s.heap s'.heap) (XU:Yz X.prog X.w H' s'.heap) (hg:QaD s'.gens)
  (fY:∀ b∈ch,(b∈X.ex\/X.s₀.heap.objs.size<=b)/\b≠X.env.locals/\(∀ x c,X.env.cells.lookup x=B' c->c≠b)/\∀ p∈X.pn++aa,p.1≠b):Inv X aa σ H' s':=by
 obtain⟨h',g',d',t',o'⟩:=s';have e:o'=s.os:=ho;subst e;exact I.call (g':=g') (t':=t') (d':=d') u XU hg fY
end
abbrev XK:=L'->Option F'->Hp->Prop
abbrev St:=List (Option V)
abbrev VK:=V->Hp->Prop
abbrev TE:=St->Hp->VK->Prop
abbrev TT:=St->Hp->(Bool->Hp->Prop)->Prop
abbrev TA:=St->Hp->(List V->Hp->Prop)->Prop
structure dX where
 nx:St->Hp->Prop
 rt:VK
 bk:St->Hp->Prop:=fun _ _=>False
 ct:St->Hp->Prop:=fun _ _=>False
abbrev TS:=dX->St->Hp->Prop
def EP (X:Cx) (aa:List (F'×X6)) (σ:St) (Q:VK) (u:L') (s':XT):Prop:=∃ v H',Inv X aa σ H' s'/\aB v u/\Q v H'
def TP (X:Cx) (aa:List (F'×X6)) (σ:St) (Q:Bool->Hp->Prop) (b:Bool) (s':XT):Prop:=∃ H',Inv X aa σ H' s'/\Q b H'
def AP (X:Cx) (aa:List (F'×X6)) (σ:St) (Q:List V->Hp->Prop) (us:List L') (s':XT):Prop:=∃ vs H',Inv X aa σ H' s'/\aC vs us/\Q vs H'
def SP (X:Cx) (aa:List (F'×X6)) (D:dX) (f:Qal) (s':XT):Prop:=
 match f with
 | .next=>∃ σ' H',Inv X aa σ' H' s'/\D.nx σ' H'
 | .brk=>∃ σ' H',Inv X aa σ' H' s'/\D.bk σ' H'
 | .cont=>∃ σ' H',Inv X aa σ' H' s'/\D.ct σ' H'
 | .ret u=>∃ v σ' H',Inv X aa σ' H' s'/\aB v u/\D.rt v H'
def PE (X:Cx) (e:X') (t:TE):Prop:=
 ∀ (aa:List (F'×X6)) (s:XT) (σ:St) (H:Hp) (Q:VK),Inv X aa σ H s->t σ H Q->N' (XS X.prog X.w) X.A (X9 e X.env) (EP X aa σ Q) X.xe s
def PT (X:Cx) (e:X') (t:TT):Prop:=
 ∀ (aa:List (F'×X6)) (s:XT) (σ:St) (H:Hp) (Q:Bool->Hp->Prop),Inv X aa σ H s->t σ H Q->N' (XS X.prog X.w) X.A (Qb3 e X.env (X9 e X.env)) (TP X aa σ Q) X.xe s
def PW (X:Cx) (e:X') (t:TT):Prop:=
 ∀ (df:Y6 L') (aa:List (F'×X6)) (s:XT) (σ:St) (H:Hp) (Q:Bool->Hp->Prop),Inv X aa σ H s->t σ H Q->N' (XS X.prog X.w) X.A (Qb3 e X.env df) (TP X aa σ Q) X.xe s
theorem PW.pt {X:Cx}{t:TT} (h:PW X e t):PT X e t:=h _
def PA (X:Cx) (es:List X') (t:TA):Prop:=
 ∀ (pos:YA) (aa:List (F'×X6)) (s:XT) (σ:St) (H:Hp) (Q:List V->Hp->Prop),Inv X aa σ H s->t σ H Q->N' (XS X.prog X.w) X.A (Qdn (Yy pos (Yb es X.env))) (AP X aa σ Q) X.xe s
def PS (X:Cx) (st:Yd) (t:TS):Prop:=
 ∀ (aa:List (F'×X6)) (s:XT) (σ:St) (H:Hp) (D:dX),Inv X aa σ H s->t D σ H->N' (XS X.prog X.w) X.A (exec st X.env) (SP X aa D) X.xe s
def Zo (X:Cx) (st:List Yd) (t:TS):Prop:=
 ∀ (aa:List (F'×X6)) (s:XT) (σ:St) (H:Hp) (D:dX),Inv X aa σ H s->t D σ H->N' (XS X.prog X.w) X.A (execs st X.env) (SP X aa D) X.xe s
theorem X3 {α:Type}{t:Y6 α}{Q Q':α->XT->Prop} (h:N' M A t Q E s) (hQ:∀ a s,Q a s->Q' a s):N' M A t Q' E s:=Vg h hQ fun _ _ x=>x
section
variable {X:Cx}
inductive Qhu (i:Nat) (σ:St) (H:Hp) (Q:VK):Prop where
 | mk (v:V) (h:σ[i]?=B' (B' v)) (k:Q v H)
def Qdq (i:Nat):TE:=fun σ H Q=>Qhu i σ H Q
def tC (v:V):TE:=fun _ H Q=>Q v H
theorem Qhv (hN:X.N[i]?=B' x) (hv:Vis X.env.scope x) (hd:(x == ("__debug__":K'))=R':=by decide) (gg:(x == ("__classdict__":K'))=R':=by decide):PE X (.Name x pos) (Qdq i):=by
 intro aa s σ H Q I h;obtain⟨v,e,h⟩:=h;obtain⟨m,hn,hl⟩:=I.loc;obtain⟨u,r,l⟩:=hl i x v hN e hv;have aL:EP X aa σ Q u s:=⟨v,H,I,r,h⟩;rcases l with⟨hk,hm⟩|⟨hk,c,hc,bK⟩
 .exact XQ (wpAny_loadName_local I.ok.kind hk hn hm aL) hd
 .rcases hk with hk|hk
  .exact XQ (wpAny_loadName_cell I.ok.kind hk hc bK aL) hd
  .exact XQ (wpAny_loadName_free I.ok.kind hk hc bK aL gg) hd
theorem ao {i j pos}:PE X (.Constant (.int i) j pos) (tC (.int i)):=fun _ _ _ H _ I h=>Xw ⟨.int i,H,I.tok _,⟨_,O⟩,h⟩
theorem vh {b j pos}:PE X (.Constant (.bool b) j pos) (tC (.bl b)):=fun _ _ _ H _ I h=>Constant_bool ⟨.bl b,H,I,O,h⟩
theorem FT {j pos}:PE X (.Constant .none j pos) (tC .X1):=fun _ _ _ H _ I h=>QeA ⟨.X1,H,I,O,h⟩
theorem B1 {x j pos}:PE X (.Constant (.str x) j pos) (tC (.str x)):=fun _ _ _ H _ I h=>Calls.Constant_str ⟨.str x,H,I.tok _,⟨_,O⟩,h⟩
def Gl (X:Cx) (x:K'):Prop:=X.env.kindOf x=B' .globalImplicit
theorem p5 {σ:St} (I:Inv X aa σ H s) (hg:Gl X x) (hm:X.mg x=B' u) (h:Q u s)
  (hd:(x == ("__debug__":K'))=R':=by decide):N' (XS X.prog X.w) X.A (X9 (.Name x pos) X.env) Q E s:=
 QdW I.ok.kind hg (QfZ (by rw[I.ok.glob];exact I.mod.glob.keeps I.bk) hm h) hd
theorem iV {σ:St} (I:Inv X aa σ H s) (hg:Gl X x) (hm:X.mg x=C') (hv:Zc x=B' u) (h:Q u s)
  (hn:x≠"__name__":=by decide) (hd:(x == ("__debug__":K'))=R':=by decide):N' (XS X.prog X.w) X.A (X9 (.Name x pos) X.env) Q E s:=by
 obtain⟨mb,h1,h2⟩:=I.mod.blt;exact QdW I.ok.kind hg (Calls.loadGlobal_builtin (by rw[I.ok.glob];exact I.mod.glob.keeps I.bk) hm (by rw[I.ok.blt];exact h1.keeps I.bk) ((h2 x hn).trans hv) h) hd
theorem Gd (hg:Gl X x) (hm:X.mg x=B' u) (r:aB v u) (hd:(x == ("__debug__":K'))=R':=by decide):PE X (.Name x pos) (tC v):=
 fun _ _ _ H _ I h=>p5 I hg hm ⟨v,H,I,r,h⟩ hd
theorem Sq (hg:Gl X x) (hm:X.mg x=C') (hv:Zc x=B' u) (r:aB v u) (hn:x≠"__name__":=by decide) (hd:(x == ("__debug__":K'))=R':=by decide):PE X (.Name x pos) (tC v):=
 fun _ _ _ H _ I h=>iV I hg hm hv ⟨v,H,I,r,h⟩ hn hd
variable {a b:X'}{ta tb:TE}
def PC (X:Cx) (op:CmpOp) (a b:X') (t:TE):Prop:=
 ∀ (aa:List (F'×X6)) (s:XT) (σ:St) (H:Hp) (Q:VK),Inv X aa σ H s->t σ H Q ->
  N' (XS X.prog X.w) X.A (X9 a X.env) (fun v s₁=>N' (XS X.prog X.w) X.A (X9 b X.env) (fun u s₂=>N' (XS X.prog X.w) X.A (Zr op v u) (EP X aa σ Q) X.xe s₂) X.xe s₁) X.xe s
theorem P8 (b:X') (h:op≠.In) (h2:op≠.NotIn):Qbr op b=R':=by
 have e1:(op == Qhm)=R':=by cases op<;>first|rfl|exact X4 O h
 have e2:(op == QgY)=R':=by cases op<;>first|rfl|exact X4 O h2
 cases b<;>simp[Qbr,e1,e2]
def Qhw (ta:TE):TE:=fun σ H Q=>ta σ H fun x H1=>Q (.bl (decide (x=.X1))) H1
def Qhx (ta:TE):TE:=fun σ H Q=>ta σ H fun x H1=>Q (.bl (!decide (x=.X1))) H1
theorem aB.QeL {x:V}{v:L'} (r:aB x v):(v == Yw)=decide (x=.X1):=by
 cases x with
 | X1=>cases r;rfl
 | bl _=>cases r;rfl
 | int _=>obtain⟨t,rfl⟩:=r;rfl
 | str _=>obtain⟨t,rfl⟩:=r;rfl
 | byt _=>obtain⟨t,rfl⟩:=r;rfl
 | flt _=>obtain⟨t,rfl⟩:=r;rfl
 | ref _=>cases r;rfl
 | ty _=>cases r;rfl
theorem FX {j a7} (ha:PE X a ta):PC X .Is a (.Constant .none j a7) (Qhw ta):=by
 intro aa s σ H Q I h;refine X3 (ha aa s σ H _ I h) fun v s1=>L2.Yc fun x H1 I1 r1 q1=>?_
 exact QeA (is_none_gen ⟨.bl _,H1,I1,by rw[r1.QeL];rfl,q1⟩)
theorem R9 {j a7} (ha:PE X a ta):PC X .IsNot a (.Constant .none j a7) (Qhx ta):=by
 intro aa s σ H Q I h;refine X3 (ha aa s σ H _ I h) fun v s1=>L2.Yc fun x H1 I1 r1 q1=>?_
 exact QeA (isnot_none_gen ⟨.bl _,H1,I1,by rw[r1.QeL];rfl,q1⟩)
def tB (t:TE):TT:=fun σ H Q=>t σ H fun x H1=>∃ c,x=.bl c/\Q c H1
theorem jq {t:TE} (h:PC X op a b t) (h1:Qbr op b=R':=by first|exact P8 _ (by decide) (by decide)|rfl):PT X (.Compare a [op] [b] pos) (tB t):=by
 intro aa s σ H Q I hw;refine Xj (X3 (h aa s σ H _ I hw) fun v s1 h1=>X3 h1 fun u s2 h2=>X3 h2 fun c s3=>L2.Yc fun x H1 I1 r1 q1=>?_) h1;obtain⟨d,rfl,q⟩:=q1;cases r1
 exact Vv ⟨H1,I1,q⟩
theorem kB {t:TE} (h:PE X e t) (he:∀ df,Qb3 e X.env df=(do let v <- df;QbF e.pos;Z9 [v] (truthy v)):=by intro _;rfl):PT X e (tB t):=by
 intro aa s σ H Q I hw;refine isTrue_plain (X3 (h aa s σ H _ I hw) fun v s1=>L2.Yc fun x H1 I1 r1 q1=>?_) (he _);obtain⟨d,rfl,q⟩:=q1;cases r1
 exact Vv ⟨H1,I1,q⟩
variable {tA wq:TT}{aZ:List X'}
def Qhy (t u:TT):TT:=fun σ H Q=>t σ H fun c H1=>if c=D' then u σ H1 Q else Q R' H1
def tOr (t u:TT):TT:=fun σ H Q=>t σ H fun c H1=>if c=D' then Q D' H1 else u σ H1 Q
def Qhz (t:TT):TT:=fun σ H Q=>t σ H fun c H1=>Q (!c) H1
theorem xS (ha:PT X a tA):PW X (.BoolOp .And [a] pos) tA:=by
 intro wh aa s σ H Q I h;refine isTrue_and (X3 (ha aa s σ H Q I h) fun c s1 e=>?_);cases c with
 | true=>exact isTrue_and_nil e
 | false=>exact e
theorem vg (ha:PT X a tA):PW X (.BoolOp .Or [a] pos) tA:=by
 intro wh aa s σ H Q I h;refine isTrue_or (X3 (ha aa s σ H Q I h) fun c s1 e=>?_);cases c with
 | false=>exact isTrue_or_nil e
 | true=>exact e
theorem xB (ha:PT X a tA) (hb:PW X (.BoolOp .And (b::aZ) pos) wq):PW X (.BoolOp .And (a::b::aZ) pos) (Qhy tA wq):=by
 intro wh aa s σ H Q I h;refine isTrue_and (X3 (ha aa s σ H _ I h) fun c s1=>L2.ex3 fun H1 I1 q1=>?_);cases c with
 | true=>exact hb wh aa s1 σ H1 Q I1 q1
 | false=>exact⟨H1,I1,q1⟩
theorem pV (ha:PT X a tA) (hb:PW X (.BoolOp .Or (b::aZ) pos) wq):PW X (.BoolOp .Or (a::b::aZ) pos) (tOr tA wq):=by
 intro wh aa s σ H Q I h;refine isTrue_or (X3 (ha aa s σ H _ I h) fun c s1=>L2.ex3 fun H1 I1 q1=>?_);cases c with
 | true=>exact⟨H1,I1,q1⟩
 | false=>exact hb wh aa s1 σ H1 Q I1 q1
theorem nr (ha:PT X a tA):PT X (.UnaryOp .Not a pos) (Qhz tA):=by
 intro aa s σ H Q I h;exact isTrue_not (ha aa s σ H (fun c H1=>Q (!c) H1) I h)
def QhA (ta tb:TE):TE:=fun σ H Q=>ta σ H fun x H1=>∃ c,x=.bl c/\if c=D' then tb σ H1 Q else Q (.bl R') H1
def QhB (ta:TE):TE:=fun σ H Q=>ta σ H fun x H1=>∃ c,x=.bl c/\Q (.bl (!c)) H1
theorem BG {op}{t:TE} (h:PE X a t):PE X (.BoolOp op [a] pos) t:=fun aa s σ H Q I hw=>BoolOp_one (h aa s σ H Q I hw)
theorem xw (ha:PE X a ta) (hb:PE X (.BoolOp .And (b::aZ) pos) tb):PE X (.BoolOp .And (a::b::aZ) pos) (QhA ta tb):=by
 intro aa s σ H Q I h;refine BoolOp_and (X3 (ha aa s σ H _ I h) fun v s1=>L2.Yc fun x H1 I1 r1 q1=>?_);obtain⟨c,rfl,q1⟩:=q1;cases r1
 refine Vv ?_;cases c with
 | true=>exact hb aa s1 σ H1 Q I1 q1
 | false=>exact⟨.bl R',H1,I1,O,q1⟩
theorem QhC (ha:PE X a ta):PE X (.UnaryOp .Not a pos) (QhB ta):=by
 intro aa s σ H Q I h;refine UnaryOp_ (X3 (ha aa s σ H _ I h) fun v s1=>L2.Yc fun x H1 I1 r1 q1=>?_);obtain⟨c,rfl,q1⟩:=q1;cases r1
 exact not_of (Vv ⟨.bl (!c),H1,I1,O,q1⟩)
def tIf (t:TT) (ta tb:TE):TE:=fun σ H Q=>t σ H fun c H1=>if c=D' then ta σ H1 Q else tb σ H1 Q
theorem CN (hc:PT X c tA) (ha:PE X a ta) (hb:PE X b tb):PE X (.IfExp c a b pos) (tIf tA ta tb):=by
 intro aa s σ H Q I h;refine wpAny_IfExp (X3 (hc aa s σ H _ I h) fun d s1=>L2.ex3 fun H1 I1 q1=>?_);cases d with
 | true=>exact ha aa s1 σ H1 Q I1 q1
 | false=>exact hb aa s1 σ H1 Q I1 q1
end
def M' (K:V') (H:Hp) (a:F') (xs:List V):Prop:=
 Rd H a (.lst xs) \/
  ∃ (o:X6) (ah:Array L') (n:Nat),K.lookup a=B' o/\o.cls=.type "list"/\o.dict=C'/\o.data=.seq ah n/\ah.size<=XX/\aC xs ah.toList
def Ya (K:V') (H:Hp) (a:F') (xs:List V):Prop:=
 Rd H a (.tup xs) \/
  ∃ (o:X6) (ah:Array L') (n:Nat),K.lookup a=B' o/\o.cls=.type "tuple"/\o.data=.seq ah n/\ah.size<=XX/\aC xs ah.toList
def QhD:L'->Option V
 | .none=>B' .X1
 | .bool b=>B' (.bl b)
 | .int i _=>B' (.int i)
 | .str x _=>B' (.str x)
 | .bytes b _=>B' (.byt b)
 | .float b _=>B' (.flt b)
 | .ref a=>B' (.ref a)
 | .type n=>B' (.ty n)
 | _=>C'
variable {D:dX}{X:Cx}{a7 Qbd:YA}{body st:List Yd}{es:List X'}{fp:List F'}{lo:Int}{n:Nat}{tb:TS}{tc:TT}{te tl:TE}{tg:X'}{xs:List V}{σ:St}
theorem aB.abs {x:V} (r:aB x u):QhD u=B' x:=by
 cases x with
 | X1=>cases r;rfl
 | bl _=>cases r;rfl
 | int _=>obtain⟨t,rfl⟩:=r;rfl
 | str _=>obtain⟨t,rfl⟩:=r;rfl
 | byt _=>obtain⟨t,rfl⟩:=r;rfl
 | flt _=>obtain⟨t,rfl⟩:=r;rfl
 | ref _=>cases r;rfl
 | ty _=>cases r;rfl
theorem aB.inj {x y:V}{u:L'} (r:aB x u) (q:aB y u):x=y:=YB (r.abs.symm.trans q.abs)
theorem aC.inj:∀ {xs ys:List V}{us:List L'},aC xs us->aC ys us->xs=ys
 | _,_,_,.nil,.nil=>rfl
 | _,_,_,.cons r t,.cons r' t'=>by rw[r.inj r',aC.inj t t']
section
variable {ys:List V}
theorem M'.of {K:V'} (h:H a=B' (.lst xs)):M' K H a xs:=.inl (.inl h)
theorem Ya.of {K:V'} (h:H a=B' (.tup xs)):Ya K H a xs:=.inl (.inl h)
theorem Inv.list (I:Inv X aa σ H s) (h:M' X.K H a xs):∃ ah:List L',aC xs ah/\PlainL s.heap a ah.toArray/\xs.length<=XX:=by
 rcases h with h|⟨o,ah,n,hk,hc,hd,hs,hz,r⟩
 .obtain⟨z,ah,n,r,e⟩:=h.ok I.XU
  exact⟨ah,r,⟨_,n,e,O,O,O⟩,z⟩
 .refine⟨ah.toList,r,⟨o,n,I.Yq a o hk,hc,hd,by simpa using hs⟩,?_⟩
  have e:=r.length;simp only[V8] at e
  lia
theorem Inv.tuple (I:Inv X aa σ H s) (h:Ya X.K H a xs):∃ ah:List L',aC xs ah/\IsTup s.heap a ah.toArray/\xs.length<=XX:=by
 rcases h with h|⟨o,ah,n,hk,hc,hs,hz,r⟩
 .obtain⟨z,ah,r,p⟩:=h.ok I.XU
  exact⟨ah,r,p,z⟩
 .refine⟨ah.toList,r,⟨o,I.Yq a o hk,hc,n,by simpa using hs⟩,?_⟩
  have e:=r.length;simp only[V8] at e
  lia
theorem Inv.QbM (I:Inv X aa σ H s) (h:M' X.K H a xs) (h':M' X.K H a ys):xs=ys:=by
 obtain⟨ah,r,⟨o,n,e,_,_,d⟩,_⟩:=I.list h;obtain⟨its',r',⟨o',n',e',_,_,d'⟩,_⟩:=I.list h';rw[e] at e';cases e'
 rw[d] at d';injection d' with d1 _
 have:ah=its':=by simpa using QaC QgR d1
 subst this;exact r.inj r'
theorem Inv.QhE (I:Inv X aa σ H s) (h:Ya X.K H a xs) (h':Ya X.K H a ys):xs=ys:=by
 obtain⟨ah,r,⟨o,e,_,n,d⟩,_⟩:=I.tuple h;obtain⟨its',r',⟨o',e',_,n',d'⟩,_⟩:=I.tuple h';rw[e] at e';cases e'
 rw[d] at d';injection d' with d1 _
 have:ah=its':=by simpa using QaC QgR d1
 subst this;exact r.inj r'
end
abbrev Cx.wish (X:Cx) (E:L'->XT->Prop):Cx:={X with xe:=E}
abbrev Cx.nox (X:Cx):Cx:=X.wish fun _ _=>False
theorem Cx.Ok.wish {X:Cx} (ok:X.Ok) (E:L'->XT->Prop):(X.wish E).Ok:=
 ⟨ok.mod,ok.kind,ok.glob,ok.blt,ok.above,ok.inj,ok.has,ok.cab,ok.hd,ok.frames,ok.stk,ok.exf,ok.bs,ok.bsz,ok.QaV,ok.Qbc,ok.ZO,ok.frf⟩
theorem Cx.Ok.QaY (ok:(X.wish E).Ok):X.Ok:=
 ⟨ok.mod,ok.kind,ok.glob,ok.blt,ok.above,ok.inj,ok.has,ok.cab,ok.hd,ok.frames,ok.stk,ok.exf,ok.bs,ok.bsz,ok.QaV,ok.Qbc,ok.ZO,ok.frf⟩
theorem Inv.wish (I:Inv X aa σ H s) (E:L'->XT->Prop):Inv (X.wish E) aa σ H s:=⟨I.ok.wish E,I.os,I.bare,I.base,I.loc,I.cell,I.free,I.Zg,I.pin,I.XU,I.len⟩
theorem Inv.QaY (I:Inv (X.wish E) aa σ H s):Inv X aa σ H s:=⟨I.ok.QaY,I.os,I.bare,I.base,I.loc,I.cell,I.free,I.Zg,I.pin,I.XU,I.len⟩
theorem SP.QaY {D:dX}{f:Qal}{s':XT} (h:SP (X.wish E) aa D f s'):SP X aa D f s':=by
 cases f with
 | next=>obtain⟨σ',H',I,q⟩:=h;exact⟨σ',H',I.QaY,q⟩
 | brk=>obtain⟨σ',H',I,q⟩:=h;exact⟨σ',H',I.QaY,q⟩
 | cont=>obtain⟨σ',H',I,q⟩:=h;exact⟨σ',H',I.QaY,q⟩
 | ret u=>obtain⟨v,σ',H',I,r,q⟩:=h;exact⟨v,σ',H',I.QaY,r,q⟩
theorem Zo.nox {t:TS} (h:Zo X.nox st t):Zo X st t:=fun aa s σ H D I hw=>
 Vg (h aa s σ H D (I.wish _) hw) (fun _ _ q=>q.QaY) fun _ _ z=>Zm z
section
variable {st:Yd}{aZ:List Yd}{t u:TS}
def QhF:TS:=fun D σ H=>D.nx σ H
def fS (t u:TS):TS:=fun D σ H=>t {D with nx:=u D} σ H
theorem cr:Zo X [] QhF:=fun _ _ σ H _ I h=>WJ ⟨σ,H,I,h⟩
theorem aq (h1:PS X st t) (h2:Zo X aZ u):Zo X (st::aZ) (fS t u):=by
 intro aa s σ H D I h;refine Qg1 (X3 (h1 aa s σ H {D with nx:=u D} I h) fun f s1 q=>?_);cases f with
 | next=>
  obtain⟨σ',H',I',q⟩:=q;exact h2 aa s1 σ' H' D I' q
 | ret v=>exact q
 | brk=>exact q
 | cont=>exact q
theorem ay (h1:PS X st t):Zo X [st] t:=by
 intro aa s σ H D I h;refine Qg1 (X3 (h1 aa s σ H D I h) fun f s1 q=>?_);cases f with
 | next=>exact WJ q
 | ret v=>exact q
 | brk=>exact q
 | cont=>exact q
theorem Inv.quiet (I:Inv X aa σ H s):interactive X.env=R':=by simp[interactive,I.ok.kind]
def QhG (te:TE):TS:=fun D σ H=>te σ H fun _ H1=>D.nx σ H1
theorem bC (he:PE X e te) (hs:QbB e C' pos.line X.env=pure R':=by rfl):PS X (.Expr e pos) (QhG te):=by
 intro aa s σ H D I h;exact wpAny_Expr_any (X3 (he aa s σ H _ I h) fun v s1=>L2.Yc fun x H1 I1 r1 q1=>⟨σ,H1,I1,q1⟩) I.quiet hs
def QhH (te:TE):TS:=fun D σ H=>te σ H D.rt
theorem bv (he:PE X e te):PS X (.Return (B' e) pos) (QhH te):=by
 intro aa s σ H D I h;exact wpAny_Return_some (X3 (he aa s σ H _ I h) fun v s1=>L2.Yc fun x H1 I1 r1 q1=>⟨x,σ,H1,I1,r1,q1⟩)
def QhI:TS:=fun D _ H=>D.rt .X1 H
theorem RI:PS X (.Return C' pos) QhI:=fun _ _ σ H _ I h=>wpAny_Return_none ⟨.X1,σ,H,I,O,h⟩
def QhJ (c:TT) (t u:TS):TS:=fun D σ H=>c σ H fun b H1=>if b=D' then t D σ H1 else u D σ H1
theorem bU {a b:List Yd} (hc:PT X c tc) (ha:Zo X a t) (hb:Zo X b u):PS X (.If c a b pos) (QhJ tc t u):=by
 intro aa s σ H D I h;refine wpAny_If (X3 (hc aa s σ H _ I h) fun d s1=>L2.ex3 fun H1 I1 q1=>?_);cases d with
 | true=>exact ha aa s1 σ H1 D I1 q1
 | false=>exact hb aa s1 σ H1 D I1 q1
end
abbrev TG:=V->St->Hp->(St->Hp->Prop)->Prop
abbrev TGs:=List V->St->Hp->(St->Hp->Prop)->Prop
def PG (X:Cx) (cF:X') (t:TG):Prop:=
 ∀ (aa:List (F'×X6)) (s:XT) (σ:St) (H:Hp) (v:V) (u:L') (Q:St->Hp->Prop),Inv X aa σ H s->aB v u->t v σ H Q ->
  N' (XS X.prog X.w) X.A (Qa9 cF X.env u) (fun _ s'=>∃ σ' H',Inv X aa σ' H' s'/\Q σ' H') X.xe s
def PGs (X:Cx) (ts:List X') (t:TGs):Prop:=
 ∀ (aa:List (F'×X6)) (s:XT) (σ:St) (H:Hp) (vs:List V) (us:List L') (Q:St->Hp->Prop),Inv X aa σ H s->aC vs us->t vs σ H Q ->
  N' (XS X.prog X.w) X.A (assignInOrder ((Qaw ts X.env).map (·.2)) us) (fun _ s'=>∃ σ' H',Inv X aa σ' H' s'/\Q σ' H') X.xe s
abbrev Qdr:=V->V->V->Hp->(Hp->Prop)->Prop
def QeM (X:Cx) (t:Qdr):Prop:=
 ∀ (aa:List (F'×X6)) (s:XT) (σ:St) (H:Hp) (o i v:V) (ov iv u:L') (Q:Hp->Prop),Inv X aa σ H s->aB o ov->aB i iv->aB v u->t o i v H Q ->
  N' (XS X.prog X.w) X.A (setItem ov iv u) (fun _ s'=>∃ H',Inv X aa σ H' s'/\Q H') X.xe s
abbrev TIp:=V->V->Hp->VK->Prop
def PIp (X:Cx) (op:Operator) (t:TIp):Prop:=
 ∀ (aa:List (F'×X6)) (s:XT) (σ:St) (H:Hp) (x y:V) (v u:L') (Q:VK),Inv X aa σ H s->aB x v->aB y u->t x y H Q ->
  N' (XS X.prog X.w) X.A (inplaceOp op v u) (EP X aa σ Q) X.xe s
def bN (i:Nat):TG:=fun v σ H Q=>Q (σ.set i (B' v)) H
theorem aE (hN:X.N.Nodup) (hi:X.N[i]?=B' x) (hx:Loc X.env.scope x) (hf:X.fn x=D'\/X.env.scope.names.lookup x=B' .local:=by first|exact .inl rfl|exact .inr rfl|assumption):PG X (.Name x pos) (bN i):=by
 intro aa s σ H v u Q I r h;exact XF (BP I hN hi hx r (fun s' I'=>⟨_,H,I',h⟩) hf)
def QhK:TGs:=fun vs σ H Q=>vs=[]/\Q σ H
def QhL (t:TG) (u:TGs):TGs:=fun vs σ H Q=>∃ v r,vs=v::r/\t v σ H fun σ' H'=>u r σ' H' Q
theorem cD:PGs X [] QhK:=by
 intro aa s σ H vs us Q I r h;obtain⟨e,h⟩:=h;subst e;cases r
 exact assignInOrder_nil ⟨σ,H,I,h⟩
theorem aM {t:TG}{u:TGs} (h1:PG X e t) (h2:PGs X es u)
  (hs:(Qaw (e::es) X.env).map (·.2)=Qa9 e X.env::(Qaw es X.env).map (·.2):=by rfl):PGs X (e::es) (QhL t u):=by
 intro aa s σ H vs us Q I r h;obtain⟨v,vr,e1,h⟩:=h;subst e1;cases r with
 | cons r rr=>
  rw[hs];refine assignInOrder_cons (X3 (h1 aa s σ H _ _ _ I r h) fun _ s1=>L2.ex4 fun σ1 H1 I1 q1=>?_);exact h2 aa s1 σ1 H1 _ _ Q I1 rr q1
def QeN (K:V') (n:Nat) (t:TGs):TG:=fun v σ H Q=>∃ a xs,v=.ref a/\Ya K H a xs/\xs.length=n/\t xs σ H Q
theorem fe {k:Nat}{t:TGs} (hc:X.calm=D') (h:PGs X es t)
  (hn:(Qaw es X.env).length=n:=by rfl) (cR:(Qaw es X.env).findIdx? (·.1)=C':=by rfl):PG X (.Tuple es k pos) (QeN X.K n t):=by
 intro aa s σ H v u Q I r hw;obtain⟨a,xs,e1,hq,hl,hw⟩:=hw;subst e1;cases r
 obtain⟨ah,rv,ht,hz⟩:=I.tuple hq;refine Ob I.hd ht (by simp[hn,<- hl,rv.length]) cR fun h' hx=>?_
 have I1:Inv X aa σ H {s with heap:=h'}:=I.kept (t':=s.toks) fun b o e=>hx b o (UE (Uw e)) e
 exact h aa _ σ H xs _ Q I1 (by simpa using rv) hw
def Qds (te:TE) (g:TG):TS:=fun D σ H=>te σ H fun x H1=>g x σ H1 D.nx
theorem aQ (hN:X.N.Nodup) (hi:X.N[i]?=B' x) (hx:Loc X.env.scope x) (he:PE X e te) (hs:QbB e (B' (.Name x a7)) pos.line X.env=pure R':=by rfl) (hf:X.fn x=D'\/X.env.scope.names.lookup x=B' .local:=by first|exact .inl rfl|exact .inr rfl|assumption) :
  PS X (.Assign [.Name x a7] e pos) (Qds te (bN i)):=by
 intro aa s σ H D I h;refine wpAny_Assign_Name (X3 (he aa s σ H _ I h) fun v s1=>L2.Yc fun y H1 I1 r1 q1=>?_) hs;exact BP I1 hN hi hx r1 (fun s2 I2=>⟨_,H1,I2,q1⟩) hf
def QhM (to ti te:TE) (lu:V->V->Hp->VK->Prop) (wH:TIp) (lq:Qdr):TS:=fun D σ H=>to σ H fun o H1=>ti σ H1 fun i H2=>lu o i H2 fun x H3=>te σ H3 fun y H4=>wH x y H4 fun z H5=>lq o i z H5 fun H6=>D.nx σ H6
def QeO (X:Cx) (t:V->V->Hp->VK->Prop):Prop:=
 ∀ (aa:List (F'×X6)) (s:XT) (σ:St) (H:Hp) (o i:V) (ov iv:L') (Q:VK),Inv X aa σ H s->aB o ov->aB i iv->t o i H Q ->
  N' (XS X.prog X.w) X.A (QbG ov iv) (EP X aa σ Q) X.xe s
theorem pX {o i:X'}{to ti:TE}{lu:V->V->Hp->VK->Prop}{wH:TIp}{lq:Qdr}{op:Operator} (ho:PE X o to) (hi:PE X i ti) (hg:QeO X lu) (he:PE X e te) (hp:PIp X op wH) (hs:QeM X lq)
  (ha:∀ ov iv new,augStore i ov iv new=(do Z9 [new,ov,iv] (setItem ov iv new);release [new,ov,iv] [];pure .next):=by intros;rfl):PS X (.AugAssign (.Subscript o i Qbd) op e pos) (QhM to ti te lu wH lq):=by
 intro aa s σ H D I h;refine wpAny_AugAssign_SubscriptAny (X3 (ho aa s σ H _ I h) fun ov s1=>L2.Yc fun x1 H1 I1 r1 q1=>?_) ha;refine X3 (hi aa s1 σ H1 _ I1 q1) fun iv s2=>L2.Yc fun x2 H2 I2 r2 q2=>?_
 refine X3 (hg aa s2 σ H2 x1 x2 ov iv _ I2 r1 r2 q2) fun old s3=>L2.Yc fun x3 H3 I3 r3 q3=>?_
 refine X3 (he aa s3 σ H3 _ I3 q3) fun v s4=>L2.Yc fun x4 H4 I4 r4 q4=>?_
 refine X3 (hp aa s4 σ H4 x3 x4 old v _ I4 r3 r4 q4) fun new s5=>L2.Yc fun x5 H5 I5 r5 q5=>?_
 exact X3 (hs aa s5 σ H5 x1 x2 x5 ov iv new _ I5 r1 r2 r5 q5) fun _ s6=>L2.ex3 fun H6 I6 q6=>⟨σ,H6,I6,q6⟩
def ipI (f:Int->Int->Int):TIp:=fun x y H Q=>∃ i j,x=.int i/\y=.int j/\Q (.int (f i j)) H
theorem vC:PIp X .Add (ipI fun i j=>i+j):=by
 intro aa s σ H x y v u Q I r1 r2 h;obtain⟨i,j,e1,e2,q⟩:=h;subst e1;subst e2
 obtain⟨t,rfl⟩:=r1;obtain⟨t',rfl⟩:=r2;exact iadd_int ⟨.int _,H,I.tok _,⟨_,O⟩,q⟩
theorem Iz:PIp X .Sub (ipI fun i j=>i-j):=by
 intro aa s σ H x y v u Q I r1 r2 h;obtain⟨i,j,e1,e2,q⟩:=h;subst e1;subst e2
 obtain⟨t,rfl⟩:=r1;obtain⟨t',rfl⟩:=r2;exact isub_int ⟨.int _,H,I.tok _,⟨_,O⟩,q⟩
def QhN (c:TT) (tb:TS):TS:=fun D σ H=>∃ W:Nat->St->Hp->Prop,(∃ m,W m σ H)/\∀ m σ H,W m σ H ->
 c σ H fun b H1=>if b=D' then ∃ N:St->Hp->Prop,(∀ σ' H',N σ' H'->∃ m',m'<m/\W m' σ' H')/\tb {D with nx:=N,ct:=N,bk:=D.nx} σ H1 else D.nx σ H1
theorem rQ (hp:QeI (XS X.prog X.w) X.A X.env X.xe) (hc:PT X c tc) (hb:Zo X body tb):PS X (.While c body [] pos) (QhN tc tb):=by
 intro aa s σ H D I h;obtain⟨W,⟨m0,w0⟩,a9⟩:=h;refine wpAny_While (codeAny_whileLoop (fun n s'=>∃ σ' H',Inv X aa σ' H' s'/\W n σ' H') ?_ m0 ⟨σ,H,I,w0⟩);rintro n s1 ⟨σ1,H1,I1,w1⟩
 refine V0 hp (X3 (hc aa s1 σ1 H1 _ I1 (a9 n σ1 H1 w1)) fun b s2=>L2.ex3 fun H2 I2 q2=>?_);cases b with
 | true=>
  obtain⟨N,hN,q2⟩:=q2;rw[XR rfl];refine V0 hp (X3 (hb aa s2 σ1 H2 _ I2 q2) fun f s3 q3=>?_);cases f with
  | next=>
   obtain⟨σ3,H3,I3,n3⟩:=q3;obtain⟨m',hm,w3⟩:=hN σ3 H3 n3;exact⟨m',hm,σ3,H3,I3,w3⟩
  | cont=>
   obtain⟨σ3,H3,I3,n3⟩:=q3;obtain⟨m',hm,w3⟩:=hN σ3 H3 n3;exact⟨m',hm,σ3,H3,I3,w3⟩
  | brk=>exact q3
  | ret v=>exact q3
 | false=>
  rw[W' UL];exact WJ ⟨σ1,H2,I2,q2⟩
structure It where
 go:Nat->Hp->Prop
 yld:Nat->Hp->V->Hp->Prop
 stop:Nat->Hp->Prop
def bE (X:Cx) (aa:List (F'×X6)) (H:Hp) (b:F'):Prop:=
 H b=C'/\b≠X.env.locals/\b∉X.fs/\(b∈X.ex\/X.s₀.heap.objs.size<=b)/\(∀ x c,X.env.cells.lookup x=B' c->c≠b)/\∀ p∈X.pn++aa,p.1≠b
theorem Inv.ZQ (I:Inv X aa σ H s) (hb:s.heap.objs.size<=b) (hn:H' b=C'):bE X aa H' b:=by
 refine⟨hn,Vs (UN I.lt hb),I.QeJ hb,.inr (U5 I.sz hb),fun x c e z=>?_,fun p hp z=>?_⟩
 .obtain⟨v,q⟩:=I.cell x c e
  exact X4 (UN q.lt (by rw[z];exact hb)) (UT _)
 .exact X4 (UN (Uw (I.pin p hp).1) (by rw[z];exact hb)) (UT _)
structure ma (P:YE) (w:YF) (K:V') (tg:X') (J:It) (fp:List F') (it:F') (tn:Nat->Yg->Prop):Prop where
 mem:it∈fp
 obj:∀ i h,tn i h->∀ b∈fp,∃ o,h.get? b=B' o/\∀ v,o.data≠.cell v
 keep:∀ i h h',tn i h->(∀ b∈fp,∀ o,h.get? b=B' o->h'.get? b=B' o)->tn i h'
 item:∀ (X:Cx),X.prog=P->X.w=w->X.K=K->X.calm=D'->∀ (i:Nat) (aa:List (F'×X6)) (s:XT) (σ:St) (H:Hp) (E:L'->XT->Prop),Inv X aa σ H s->(∀ b∈fp,bE X aa H b)->tn i s.heap->J.go i H ->
  N' (XS P w) X.A (Yo (.ref it)) (fun r s1=>∃ u,r=B' u /\
   N' (XS P w) X.A (Qc9 tg (.ref it) u) (fun _ s2=>∃ x H',Inv X aa σ H' s2/\aB x u/\J.yld i H x H'/\tn (i+1) s2.heap/\∀ b∈fp,H' b=C') E s1) E s
 done:∀ (X:Cx),X.prog=P->X.w=w->X.K=K->X.calm=D'->∀ (i:Nat) (aa:List (F'×X6)) (s:XT) (σ:St) (H:Hp) (E:L'->XT->Prop),Inv X aa σ H s->(∀ b∈fp,bE X aa H b)->tn i s.heap->J.stop i H ->
  N' (XS P w) X.A (Yo (.ref it)) (fun r s1=>r=C'/\Inv X aa σ H s1) E s
 self:∀ (A:YT) (i:Nat) (s:XT) (Q:L'->XT->Prop) (E:L'->XT->Prop),tn i s.heap->Q (.ref it) s->N' (XS P w) A (pyIter (.ref it)) Q E s
abbrev TI:=St->Hp->(It->Hp->Prop)->Prop
def PIE (X:Cx) (aa:List (F'×X6)) (σ:St) (tg:X') (R:It->Hp->Prop) (xb:L') (s2:XT):Prop:=
 ∃ (it:F') (fp:List F') (tn:Nat->Yg->Prop) (J:It) (H':Hp),xb=.ref it/\Inv X aa σ H' s2/\ma X.prog X.w X.K tg J fp it tn/\tn 0 s2.heap/\(∀ b∈fp,bE X aa H' b)/\R J H'
def PI (X:Cx) (tg iter:X') (wi:TI):Prop:=
 ∀ (aa:List (F'×X6)) (s:XT) (σ:St) (H:Hp) (R:It->Hp->Prop),Inv X aa σ H s->wi σ H R ->
  N' (XS X.prog X.w) X.A (X9 iter X.env) (fun v s1=>N' (XS X.prog X.w) X.A (pyIter v) (PIE X aa σ tg R) X.xe s1) X.xe s
theorem yv {n:String}{Q:Unit->XT->Prop} (ho:s.heap.get? it=B' o) (hc:o.cls=.type n) (hd:o.data=.fields vs)
    (hn:["enumerate","zip","dict_itemiterator","dict_reverseitemiterator","odict_iterator","itertools.zip_longest","itertools.pairwise"].contains n=R') (hQ:Q () s):N' M A (Qc9 tg (.ref it) u) Q E s:=by
  unfold Qc9;cases tg<;>first
    | exact Uu hQ
    | (cases u<;>first
        | exact Uu hQ
        | (refine ow (wpAny_load ho ?_)
           rw[hc,hd];show N' M A (if (["enumerate","zip","dict_itemiterator","dict_reverseitemiterator","odict_iterator","itertools.zip_longest","itertools.pairwise"].contains n && vs[0]? == B' (Yk _))=D' then _ else _) Q E s;rw[W' (by intro h;rw[hn,Bool.false_and] at h;cases h)];exact Uu hQ))
def Itl (K:V') (a:F'):It:=
 ⟨fun i H=>∃ xs x,M' K H a xs/\xs[i]?=B' x,fun i H x H'=>H'=H/\∀ xs,M' K H a xs->xs[i]?=B' x,fun i H=>∃ xs,M' K H a xs/\xs.length<=i⟩
def Itr (lo:Int) (n:Nat):It:=⟨fun i _=>i<n,fun i H x H'=>H'=H/\x=.int (lo+i),fun i _=>n<=i⟩
theorem RD {K:V'} (a it:F'):ma P w K tg (Itl K a) [it] it (fun i h=>h.IsListIter it a i) where
 mem:=by simp
 obj:=fun i h st b hb=>by
  have e:b=it:=by simpa using hb
  subst e;obtain⟨o,e,c,d⟩:=st;exact⟨o,e,fun v z=>by rw[d] at z;cases z⟩
 keep:=fun i h h' st k=>st.at fun o e=>k it (by simp) o e
 item:=by
  intro X hP hw hK hc i aa s σ H E I hf st hg;subst hP hw hK;obtain⟨xs,x,hq,hx⟩:=hg;obtain⟨ah,rv,p,hz⟩:=I.list hq;obtain⟨u,hu,ru⟩:=rv.get hx;obtain⟨f0,f1,f2,f3,f4,f5⟩:=hf it (by simp);refine Xg st p.isList (x:=u) (by simpa using hu) fun h' iq sb=>?_
  have I1:Inv X aa σ H {s with heap:=h'}:=I.turned (t':=s.toks) (fun b o hb e=>(sb.2 b hb).trans e) f0 f1 f3 f4 f5;obtain⟨o,e,c,d⟩:=id iq;exact⟨u,O,yv (s:={s with heap:=h'}) e c d (by decide) ⟨x,H,I1,ru,⟨O,fun ys hy=>by rw[I.QbM hy hq];exact hx⟩,iq,fun b hb=>(hf b hb).1⟩⟩
 done:=by
  intro X hP hw hK hc i aa s σ H E I hf st hg;subst hP hw hK;obtain⟨xs,hq,hx⟩:=hg;obtain⟨ah,rv,p,hz⟩:=I.list hq;obtain⟨f0,f1,f2,f3,f4,f5⟩:=hf it (by simp);have hl:=rv.length;exact Gw I.hd st p.isList (by simp;lia) fun h' eb=>⟨O,I.turned (t':=s.toks) (fun b o hb e=>eb b o hb e) f0 f1 f3 f4 f5⟩
 self:=fun _ _ _ _ _ st h=>Xk st h
theorem RZ {K:V'} (it:F') (lo:Int) (n:Nat):ma P w K tg (Itr lo n) [it] it (fun i h=>Qbx h it (lo+(i:Nat)*1) ((n:Int)-(i:Nat)) 1) where
 mem:=by simp
 obj:=fun i h st b hb=>by
  have e:b=it:=by simpa using hb
  subst e;exact⟨_,st,fun v z=>by
   have z':Data.fields _=Data.cell v:=z;cases z'⟩
 keep:=fun i h h' st k=>k it (by simp) _ st
 item:=by
  intro X hP hw hK hc i aa s σ H E I hf st hg;subst hP hw hK;obtain⟨f0,f1,f2,f3,f4,f5⟩:=hf it (by simp);refine Xb st (by have:i<n:=hg;lia) fun h' st0 sb=>?_
  have iq:Qbx h' it (lo+((i+1:Nat):Int)*1) ((n:Int)-((i+1:Nat):Int)) 1:=by
   rw[show lo+((i+1:Nat):Int)*1=lo+(i:Int)*1+1 by lia,show(n:Int)-((i+1:Nat):Int)=(n:Int)-(i:Int)-1 by lia];exact st0
  have I1:Inv X aa σ H {s with heap:=h',toks:=s.toks+1}:=I.turned (fun b o hb e=>sb.extBut b o hb e) f0 f1 f3 f4 f5;exact⟨_,O,yv (s:={s with heap:=h',toks:=s.toks+1}) (n:="range_iterator") iq O O (by decide) ⟨.int (lo+i),H,I1,⟨_,by rw[Int.mul_one]⟩,⟨O,O⟩,iq,fun b hb=>(hf b hb).1⟩⟩
 done:=by
  intro X hP hw hK hc i aa s σ H E I hf st hg;subst hP hw hK;obtain⟨f0,f1,f2,f3,f4,f5⟩:=hf it (by simp);exact Gq I.hd st (by have:n<=i:=hg;lia) fun h' eb=>⟨O,I.turned (t':=s.toks) (fun b o hb e=>eb b o hb e) f0 f1 f3 f4 f5⟩
 self:=fun _ _ _ _ _ st h=>Xh st h
def QhO (K:V') (tl:TE):TI:=fun σ H R=>tl σ H fun x H1=>∃ a,x=.ref a/\(∃ xs,M' K H1 a xs)/\R (Itl K a) H1
theorem bY {l:X'} (hl:PE X l tl):PI X tg l (QhO X.K tl):=by
 intro aa s σ H R I h;refine X3 (hl aa s σ H _ I h) fun v s1=>L2.Yc fun x H1 I1 r1 q1=>?_
 obtain⟨a,e,⟨xs,hq⟩,q⟩:=q1;subst e;cases r1
 obtain⟨ah,rv,p,hz⟩:=I1.list hq;refine VC p.isList ?_;refine⟨s1.heap.objs.size,[s1.heap.objs.size],_,_,H1,O,I1.kept (t':=s1.toks) fun b o e=>Ut _ e,RD a _,⟨_,UA _ O,O,O⟩,fun b hb=>?_,q⟩;have e:b=s1.heap.objs.size:=by simpa using hb
 subst e;exact I1.ZQ (Uv _) (I1.XU.fresh (Uv _))
theorem Q6 {R:It->Hp->Prop}{hi:Int}{t u v:Zf}{tk:Nat} (I:Inv X aa σ H s) (h1:-(2 ^ 62)<=lo) (h2:lo<2 ^ 62) (h3:-(2 ^ 62)<=hi) (h4:hi<2 ^ 62)
  (q:R (Itr lo (hi-lo).toNat) H):N' (XS X.prog X.w) X.A (pyIter (.ref s.heap.objs.size)) (PIE X aa σ tg R) E {s with heap:=s.heap.push {cls:=.type "range",data:=.fields #[.int lo t,.int hi u,.int 1 v]},toks:=tk}:=by
 refine Xx (IsRange.new ..) (small_one h1 h2 h3 h4) ?_;have I1:Inv X aa σ H {s with heap:=s.heap.push {cls:=.type "range",data:=.fields #[.int lo t,.int hi u,.int 1 v]},toks:=tk}:=I.kept fun b o e=>Ut _ e
 refine⟨(s.heap.push {cls:=.type "range",data:=.fields #[.int lo t,.int hi u,.int 1 v]}).objs.size,[(s.heap.push {cls:=.type "range",data:=.fields #[.int lo t,.int hi u,.int 1 v]}).objs.size],_,_,H,O,
  I1.kept (t':=tk) fun b o e=>Ut _ e,RZ _ lo (hi-lo).toNat,?_,fun b hb=>?_,q⟩
 .have e1:lo+((0:Nat):Int)*1=lo:=by simp
  have e2:(((hi-lo).toNat:Nat):Int)-((0:Nat):Int)=QfB lo hi 1:=by rw[rangeSize_one];split<;>lia
  show Qbx _ _ (lo+((0:Nat):Int)*1) ((((hi-lo).toNat:Nat):Int)-((0:Nat):Int)) 1;rw[e1,e2];exact UA _ rfl
 .have e:b=(s.heap.push {cls:=.type "range",data:=.fields #[.int lo t,.int hi u,.int 1 v]}).objs.size:=by simpa using hb
  subst e;exact I1.ZQ (Uv _) (I1.XU.fresh (Uv _))
def QhP (ta:TA):TI:=fun σ H R=>ta σ H fun vs H1=>∃ j:Int,vs=[.int j]/\-(2 ^ 62)<=j/\j<2 ^ 62/\R (Itr 0 j.toNat) H1
theorem qo {a:X'}{ta:TA}{p:YA} (hg:Gl X "range") (hm:X.mg "range"=C') (ha:PA X [a] ta) (hs:Yb [a] X.env=[(R',X9 a X.env)]:=by rfl):PI X tg (.Call (.Name "range" p) [a] [] pos) (QhP ta):=by
 intro aa s σ H R I h;refine Call_ (iV I hg hm boot_range (Qa4 (X3 (ha pos aa s σ H _ I h) fun us s1=>L2.Yc fun vs H1 I1 r1 q1=>?_) hs O));obtain⟨j,e,q1,q2,q⟩:=q1;subst e;cases r1 with
 | cons r rr=>
  cases rr
  obtain⟨t,rfl⟩:=r;exact call_range_1 (Q6 I1 (by lia) (by lia) q1 q2 (by simpa using q))
def QhQ (wi:TI) (g:TG) (tb:TS):TS:=fun D σ H=>wi σ H fun J H1=>∃ W:Nat->Nat->St->Hp->Prop,(∃ m,W 0 m σ H1)/\∀ i m σ H,W i m σ H ->
 (J.stop i H/\D.nx σ H)\/(J.go i H/\∃ N:St->Hp->Prop,(∀ σ' H',N σ' H'->∃ m',m'<m/\W (i+1) m' σ' H')/\∀ x H',J.yld i H x H'->g x σ H' fun σ2 H2=>tb {D with nx:=N,ct:=N,bk:=D.nx} σ2 H2)
def vO (fp:List F') (h:Yg):List (F'×X6):=fp.filterMap fun b=>(h.get? b).map fun o=>(b,o)
theorem xz (hb:b∈fp) (e:h.get? b=B' o):(b,o)∈vO fp h:=Qgi.mpr ⟨b,hb,by rw[e];rfl⟩
theorem R3 {p:F'×X6} (hp:p∈vO fp h):p.1∈fp/\h.get? p.1=B' p.2:=by
 obtain⟨b,hb,e⟩:=Qgi.mp hp;cases q:h.get? b with
 | none=>rw[q] at e;cases e
 | some o=>
  rw[q] at e;have e':(b,o)=p:=YB e;subst e';exact⟨hb,q⟩
theorem Inv.pinned (I:Inv X aa σ H s) (hf:∀ b∈fp,bE X aa H b) (ho:∀ b∈fp,∃ o,s.heap.get? b=B' o/\∀ v,o.data≠.cell v):Inv X (aa++vO fp s.heap) σ H s:=
 I.QaX fun p hp=>(YK.mp hp).elim (fun z=>I.pin p (UG _ z)) fun z=>by
  obtain⟨hb,e⟩:=R3 z;obtain⟨f0,f1,f2,_⟩:=hf p.1 hb;obtain⟨o,e',d⟩:=ho p.1 hb;rw[e] at e';cases e'
  exact⟨e,f0,f1,f2,d⟩
theorem Inv.Qcr {pl:List (F'×X6)} (I:Inv X (aa++pl) σ H s):Inv X aa σ H s:=I.QaX fun p hp=>I.pin p (UG _ (UZ _ hp))
theorem cV {iter:X'}{wi:TI}{g:TG} (hp:QeI (XS X.prog X.w) X.A X.env X.xe) (hc:X.calm=D') (hi:PI X tg iter wi) (hg:PG X tg g) (hb:Zo X body tb)
  (hs:∀ x,Qen iter X.env x=pure x:=by intro _;rfl):PS X (.For tg iter body [] pos) (QhQ wi g tb):=by
 intro aa s σ H D I h;refine wpAny_For (X3 (hi aa s σ H _ I h) fun v s1 h1=>X3 h1 fun xb s2 h2=>?_) hs;obtain⟨it,fp,tn,J,H2,e,I2,T,i7,f2,W,⟨m0,w0⟩,a9⟩:=h2;subst e;have gW:∀ {H':Hp},(∀ b∈fp,H' b=C')->∀ b∈fp,bE X aa H' b:=fun hn b hb=>⟨hn b hb,(f2 b hb).2⟩
 refine codeAny_forLoop_any (fun n s'=>∃ i σ' H',Inv X aa σ' H' s'/\tn i s'.heap/\(∀ b∈fp,H' b=C')/\W i n σ' H') ?_ m0 ⟨0,σ,H2,I2,i7,fun b hb=>(f2 b hb).1,w0⟩;rintro n s3 ⟨i,σ3,H3,I3,jY,uB,w3⟩
 rcases a9 i n σ3 H3 w3 with⟨stop,qn⟩|⟨go,N,hN,step⟩
 .refine V0 hp (X3 (T.done X O O O hc i aa s3 σ3 H3 X.xe I3 (gW uB) jY stop) fun r s4 ⟨hr,I4⟩=>?_)
  subst hr;exact WJ ⟨σ3,H3,I4,qn⟩
 .refine V0 hp (X3 (T.item X O O O hc i aa s3 σ3 H3 X.xe I3 (gW uB) jY go) fun r s4 ⟨u,hr,h4⟩=>?_)
  subst hr;refine V0 hp (X3 h4 fun _ s5=>L2.Yc fun x H5 I5 r5 a8=>?_);obtain⟨y5,fE,yz⟩:=a8;have zw:=I5.pinned (gW yz) (T.obj _ _ fE);refine V0 hp (X3 (hg _ s5 σ3 H5 x u _ zw r5 (step x H5 y5)) fun _ s6=>L2.ex4 fun σ6 H6 I6 q6=>?_);refine V0 hp (X3 (hb _ s6 σ6 H6 _ I6 q6) fun f s7 q7=>?_);have again:∀ {σ7:St}{H7:Hp},Inv X (aa++vO fp s5.heap) σ7 H7 s7->N σ7 H7->∃ m,m<n/\∃ i σ' H',Inv X aa σ' H' s7/\tn i s7.heap/\(∀ b∈fp,H' b=C')/\W i m σ' H':=fun {σ7 H7} I7 n7=>by
   obtain⟨m',hm,w7⟩:=hN σ7 H7 n7;refine⟨m',hm,i+1,σ7,H7,I7.Qcr,T.keep _ _ _ fE fun b hb o e=>(I7.pin (b,o) (UG _ (UG _ (xz hb e)))).1,fun b hb=>?_,w7⟩;obtain⟨o,e,d⟩:=T.obj _ _ fE b hb;exact(I7.pin (b,o) (UG _ (UG _ (xz hb e)))).2.1
  cases f with
  | next=>obtain⟨σ7,H7,I7,n7⟩:=q7;exact again I7 n7
  | cont=>obtain⟨σ7,H7,I7,n7⟩:=q7;exact again I7 n7
  | brk=>obtain⟨σ7,H7,I7,q7⟩:=q7;exact⟨σ7,H7,I7.Qcr,q7⟩
  | ret v=>obtain⟨x7,σ7,H7,I7,r7,q7⟩:=q7;exact⟨x7,σ7,H7,I7.Qcr,r7,q7⟩
def WkW (J:It) (E:St->Hp->Prop) (B:(St->Hp->Prop)->V->St->Hp->Prop) (σ:St) (H:Hp):Prop:=∃ W:Nat->Nat->St->Hp->Prop,(∃ m,W 0 m σ H)/\∀ i m σ H,W i m σ H->(J.stop i H/\E σ H)\/(J.go i H/\∃ N:St->Hp->Prop,(∀ σ' H',N σ' H'->∃ m',m'<m/\W (i+1) m' σ' H')/\∀ x H',J.yld i H x H'->B N x σ H')
theorem wk_ {J:It}{E:St->Hp->Prop}{B:(St->Hp->Prop)->V->St->Hp->Prop} (Pv:Nat->St->Hp->Prop) (h0:Pv 0 σ H) (hg:∀ i σ H,i<=n->Pv i σ H->(i<n->J.go i H)/\(n<=i->J.stop i H)) (hs:∀ i x σ H H',i<n->Pv i σ H->J.yld i H x H'->B (Pv (i+1)) x σ H') (hd:∀ σ H,Pv n σ H->E σ H):WkW J E B σ H:=by
 refine⟨fun i m σ H=>m=n-i/\i<=n/\Pv i σ H,⟨n,by simp,VJ _,h0⟩,?_⟩;rintro i m σ H ⟨rfl,hi,p⟩
 obtain⟨q1,q2⟩:=hg i σ H hi p;by_cases bp:i<n
 .exact .inr ⟨q1 bp,Pv (i+1),fun σ' H' p'=>⟨n-(i+1),by lia,O,bp,p'⟩,fun x H' y=>hs i x σ H H' bp p y⟩
 .have e:i=n:=by lia
  subst e;exact .inl ⟨q2 (Uv _),hd σ H p⟩
def rg (J:It) (D:dX) (g:TG) (tb:TS) (σ:St) (H:Hp):Prop:=WkW J D.nx (fun N x σ H'=>g x σ H' fun σ2 H2=>tb {D with nx:=N,ct:=N,bk:=D.nx} σ2 H2) σ H
theorem jr {K:V'}{g:TG} (Pv:Nat->St->Hp->Prop) (h0:Pv 0 σ H) (hl:∀ i σ H,i<=xs.length->Pv i σ H->M' K H a xs)
  (hs:∀ i x σ H,xs[i]?=B' x->Pv i σ H->g x σ H fun σ2 H2=>tb {D with nx:=Pv (i+1),ct:=Pv (i+1),bk:=D.nx} σ2 H2) (hd:∀ σ H,Pv xs.length σ H->D.nx σ H):rg (Itl K a) D g tb σ H:=
 wk_ (n:=xs.length) Pv h0 (fun i σ H hi p=>⟨fun h=>⟨xs,xs[i],hl i σ H hi p,by simp[h]⟩,fun h=>⟨xs,hl i σ H hi p,h⟩⟩) (fun i x σ H H' hi p y=>by
 obtain⟨rfl,y⟩:=y;exact hs i x σ _ (y xs (hl i σ _ (VE hi) p)) p) hd
theorem C4 {g:TG} (Pv:Nat->St->Hp->Prop) (h0:Pv 0 σ H)
  (hs:∀ i σ H,i<n->Pv i σ H->g (.int (lo+i)) σ H fun σ2 H2=>tb {D with nx:=Pv (i+1),ct:=Pv (i+1),bk:=D.nx} σ2 H2) (hd:∀ σ H,Pv n σ H->D.nx σ H):rg (Itr lo n) D g tb σ H:=
 wk_ (n:=n) Pv h0 (fun _ _ _ _ _=>⟨id,id⟩) (fun i x σ H H' hi p y=>by
 obtain⟨rfl,rfl⟩:=y;exact hs i σ _ hi p) hd
abbrev R2:=V->V->Hp->VK->Prop
def YN (X:Cx) (f:L'->L'->Y6 L') (r:R2):Prop:=
 ∀ (aa:List (F'×X6)) (s:XT) (σ:St) (H:Hp) (x y:V) (v u:L') (Q:VK),Inv X aa σ H s->aB x v->aB y u->r x y H Q ->
  N' (XS X.prog X.w) X.A (f v u) (EP X aa σ Q) X.xe s
def UnR (X:Cx) (f:L'->Y6 L') (r:V->Hp->VK->Prop):Prop:=
 ∀ (aa:List (F'×X6)) (s:XT) (σ:St) (H:Hp) (x:V) (v:L') (Q:VK),Inv X aa σ H s->aB x v->r x H Q ->
  N' (XS X.prog X.w) X.A (f v) (EP X aa σ Q) X.xe s
def fR (X:Cx) (f:L') (r:List V->Hp->VK->Prop):Prop:=
 ∀ (aa:List (F'×X6)) (s:XT) (σ:St) (H:Hp) (xs:List V) (us:List L') (Q:VK),Inv X aa σ H s->aC xs us->r xs H Q ->
  N' (XS X.prog X.w) X.A (call f us) (EP X aa σ Q) X.xe s
def QhR (X:Cx) (r:V->Hp->(Bool->Hp->Prop)->Prop):Prop:=
 ∀ (aa:List (F'×X6)) (s:XT) (σ:St) (H:Hp) (x:V) (v:L') (Q:Bool->Hp->Prop),Inv X aa σ H s->aB x v->r x H Q ->
  N' (XS X.prog X.w) X.A (truthy v) (TP X aa σ Q) X.xe s
def tOp (r:R2) (ta tb:TE):TE:=fun σ H Q=>ta σ H fun x H1=>tb σ H1 fun y H2=>r x y H2 Q
def tUn (r:V->Hp->VK->Prop) (ta:TE):TE:=fun σ H Q=>ta σ H fun x H1=>r x H1 Q
def rI (C:Int->Int->Prop) (g:Int->Int->V):R2:=fun x y H Q=>∃ i j,x=.int i/\y=.int j/\C i j/\Q (g i j) H
def rI0 (g:Int->Int->V):R2:=fun x y H Q=>∃ i j,x=.int i/\y=.int j/\Q (g i j) H
def rU (g:Int->V):V->Hp->VK->Prop:=fun x H Q=>∃ i,x=.int i/\Q (g i) H
variable {C dx:F'}{b expr:Bool}{f:L'->L'->Y6 L'}{g:Int->Int->Int}{kw:List (K'×L')}{m name:K'}{mA:K'->Option L'}{o:Option L'}{ta tb tc:TE}{us vs:List L'}{x y:V}
section
variable {a b:X'}
theorem Qdt (ha:PE X a ta) (hb:PE X b tb){R:V->V->Hp->Prop} (I:Inv X aa σ H s)
  (h:ta σ H fun x H1=>tb σ H1 fun y H2=>R x y H2)
  (hf:∀ v u s2 x y H2,Inv X aa σ H2 s2->aB x v->aB y u->R x y H2->N' (XS X.prog X.w) X.A (f v u) Q X.xe s2) :
  N' (XS X.prog X.w) X.A (X9 a X.env) (fun v s₁=>N' (XS X.prog X.w) X.A (X9 b X.env) (fun u s₂=>N' (XS X.prog X.w) X.A (f v u) Q X.xe s₂) X.xe s₁) X.xe s:=by
 refine X3 (ha aa s σ H _ I h) fun v s1=>L2.Yc fun x H1 I1 r1 q1=>?_
 refine X3 (hb aa s1 σ H1 _ I1 q1) fun u s2=>L2.Yc fun y H2 I2 r2 q2=>?_
 exact hf v u s2 x y H2 I2 r1 r2 q2
theorem aH {op:Operator}{r:R2} (ho:YN X (QaA op) r) (ha:PE X a ta) (hb:PE X b tb):PE X (.BinOp a op b pos) (tOp r ta tb):=by
 intro aa s σ H Q I h;exact wpAny_BinOp (Qdt ha hb I h fun v u s2 x y H2 I2 rx ry q=>ho aa s2 σ H2 x y v u Q I2 rx ry q)
theorem QhS {op:UnaryOp}{r:V->Hp->VK->Prop} (ho:UnR X (unaryOp op) r) (ha:PE X a ta):PE X (.UnaryOp op a pos) (tUn r ta):=by
 intro aa s σ H Q I h;exact UnaryOp_ (X3 (ha aa s σ H _ I h) fun v s1=>L2.Yc fun x H1 I1 r1 q1=>ho aa s1 σ H1 x v Q I1 r1 q1)
theorem opI {C:Int->Int->Prop}
  (rule:∀ (i j:Int) (t u:Zf) (s:XT) (Q:L'->XT->Prop) (E:L'->XT->Prop),C i j->Q (.int (g i j) s.toks) {s with toks:=s.toks+1}->N' (XS X.prog X.w) X.A (f (.int i t) (.int j u)) Q E s) :
  YN X f (rI C fun i j=>.int (g i j)):=by
 intro aa s σ H x y v u Q I rx ry h;obtain⟨i,j,rfl,rfl,hc,q⟩:=h;obtain⟨t,rfl⟩:=rx;obtain⟨t',rfl⟩:=ry;exact rule i j t t' s _ _ hc ⟨.int (g i j),H,I.tok _,⟨_,O⟩,q⟩
theorem QeP 
  (rule:∀ (i j:Int) (t u:Zf) (s:XT) (Q:L'->XT->Prop) (E:L'->XT->Prop),Q (.int (g i j) s.toks) {s with toks:=s.toks+1}->N' (XS X.prog X.w) X.A (f (.int i t) (.int j u)) Q E s) :
  YN X f (rI0 fun i j=>.int (g i j)):=by
 intro aa s σ H x y v u Q I rx ry h;obtain⟨i,j,rfl,rfl,q⟩:=h;obtain⟨t,rfl⟩:=rx;obtain⟨t',rfl⟩:=ry;exact rule i j t t' s _ _ ⟨.int (g i j),H,I.tok _,⟨_,O⟩,q⟩
theorem Qcs {g:Int->Int->Bool}
  (rule:∀ (i j:Int) (t u:Zf) (s:XT) (Q:L'->XT->Prop) (E:L'->XT->Prop),Q (.bool (g i j)) s->N' (XS X.prog X.w) X.A (f (.int i t) (.int j u)) Q E s) :
  YN X f (rI0 fun i j=>.bl (g i j)):=by
 intro aa s σ H x y v u Q I rx ry h;obtain⟨i,j,rfl,rfl,q⟩:=h;obtain⟨t,rfl⟩:=rx;obtain⟨t',rfl⟩:=ry;exact rule i j t t' s _ _ ⟨.bl (g i j),H,I,O,q⟩
def QhT (i j:Int):Prop:=0<j/\j<1073741824
def QhU (i j:Int):Prop:=0<=j/\j<=1000000/\i.natAbs<2 ^ 64
def Qdu (i j:Int):Prop:=(-(2 ^ 64)<i/\i<2 ^ 64)\/(-(2 ^ 64)<j/\j<2 ^ 64)
theorem Qdu.ok {i j:Int} (h:Qdu i j):IntMulOk i j:=by
 rcases h with⟨h1,h2⟩|⟨h1,h2⟩
 .exact .of_left (intBits_le_64 h1 h2)
 .exact .of_right (intBits_le_64 h1 h2)
theorem ee:YN X (QaA .Add) (rI0 fun i j=>.int (i+j)):=QeP fun _ _ _ _ _ _ _ q=>add_int q
theorem g8:YN X (QaA .Sub) (rI0 fun i j=>.int (i-j)):=QeP fun _ _ _ _ _ _ _ q=>sub_int q
theorem qZ:YN X (QaA .Mult) (rI Qdu fun i j=>.int (i*j)):=opI fun _ _ _ _ _ _ _ hc q=>mul_int q hc.ok
theorem vt:YN X (QaA .FloorDiv) (rI QhT fun i j=>.int (i / j)):=opI fun i j _ _ _ _ _ hc q=>by
 have h1:(0:Int)<j:=hc.1;have h2:j<1073741824:=hc.2;exact floordiv_int (by lia) (by rw[WW i (by lia)];exact q) (.inl (PyProof.noPylong_small (by lia)))
theorem cP:YN X (QaA .Mod) (rI (fun _ j=>0<j) fun i j=>.int (i % j)):=opI fun i j _ _ _ _ _ hc q=>by
 have h1:(0:Int)<j:=hc;exact mod_int' (by lia) (by rw[Int.fmod_eq_emod_of_nonneg i (by lia)];exact q)
theorem Cn:YN X (QaA .Pow) (rI QhU fun i j=>.int (i ^ j.toNat)):=opI fun _ _ _ _ _ _ _ hc q=>pow_int_small hc.1 hc.2.1 hc.2.2 q
theorem unI {f:L'->Y6 L'}{g:Int->Int}
  (rule:∀ (i:Int) (t:Zf) (s:XT) (Q:L'->XT->Prop) (E:L'->XT->Prop),Q (.int (g i) s.toks) {s with toks:=s.toks+1}->N' (XS X.prog X.w) X.A (f (.int i t)) Q E s) :
  UnR X f (rU fun i=>.int (g i)):=by
 intro aa s σ H x v Q I rx h;obtain⟨i,rfl,q⟩:=h;obtain⟨t,rfl⟩:=rx;exact rule i t s _ _ ⟨.int (g i),H,I.tok _,⟨_,O⟩,q⟩
theorem QhV:UnR X (unaryOp .USub) (rU fun i=>.int (-i)):=unI fun _ _ _ _ _ q=>neg_int q
end
def QeQ:V->V->Bool
 | .X1,.X1=>D' | .X1,.int _=>D' | .int _,.X1=>D' | .X1,.bl _=>D' | .bl _,.X1=>D' | .X1,.str _=>D' | .str _,.X1=>D'
 | .int _,.int _=>D' | .bl _,.bl _=>D' | .str _,.str _=>D' | .byt _,.byt _=>D'
 | .int _,.str _=>D' | .str _,.int _=>D' | .bl _,.str _=>D' | .str _,.bl _=>D'
 | _,_=>R'
def rEq:R2:=fun x y H Q=>QeQ x y=D'/\Q (.bl (decide (x=y))) H
def rNe:R2:=fun x y H Q=>QeQ x y=D'/\Q (.bl (!decide (x=y))) H
theorem GA {i j:Int}:decide (V.int i=V.int j)=(i == j):=by
 rw[Wa];simp
theorem Gz {i j:Bool}:decide (V.bl i=V.bl j)=(i == j):=by
 rw[Wa];simp
theorem Jo {i j:K'}:decide (V.str i=V.str j)=(i == j):=by
 rw[Wa];simp
theorem FZ {i j:Array UInt8}:decide (V.byt i=V.byt j)=(i.toList == j.toList):=by
 rw[Wa];cases i
 cases j
 simp
section
variable {a b:X'}
theorem b8 {Q:VK}{k k':Bool} (I:Inv X aa σ H s) (q:Q (.bl k) H) (e:k=k'):EP X aa σ Q (.bool k') s:=by
 subst e;exact⟨.bl k,H,I,O,q⟩
theorem mE:YN X (Zr .Eq) rEq:=by
 intro aa s σ H x y v u Q I rx ry h;obtain⟨hs,q⟩:=h;cases x with
 | X1=>
  cases rx
  cases y with
  | X1=>cases ry;exact Qld (b8 I q (by simp))
  | bl j=>cases ry;exact Qlf (b8 I q (by simp))
  | int j=>obtain⟨t',rfl⟩:=ry;exact Qle (b8 I q (by simp))
  | str j=>obtain⟨t',rfl⟩:=ry;exact Qlc (b8 I q (by simp))
  | _=>exact X4 (show R'=D' from hs) UL
 | bl i=>
  cases rx
  cases y with
  | X1=>cases ry;exact Qlh (b8 I q (by simp))
  | bl j=>cases ry;exact eq_bool (b8 I q Gz)
  | str j=>obtain⟨t',rfl⟩:=ry;exact Qk1 (b8 I q (by simp))
  | _=>exact X4 (show R'=D' from hs) UL
 | int i=>
  obtain⟨t,rfl⟩:=rx;cases y with
  | X1=>cases ry;exact Qlg (b8 I q (by simp))
  | int j=>obtain⟨t',rfl⟩:=ry;exact eq_int (b8 I q GA)
  | str j=>obtain⟨t',rfl⟩:=ry;exact Qk0 (b8 I q (by simp))
  | _=>exact X4 (show R'=D' from hs) UL
 | str i=>
  obtain⟨t,rfl⟩:=rx;cases y with
  | X1=>cases ry;exact Qlb (b8 I q (by simp))
  | bl j=>cases ry;exact QkZ (b8 I q (by simp))
  | int j=>obtain⟨t',rfl⟩:=ry;exact QkY (b8 I q (by simp))
  | str j=>obtain⟨t',rfl⟩:=ry;exact eq_str (b8 I q Jo)
  | _=>exact X4 (show R'=D' from hs) UL
 | byt i=>
  obtain⟨t,rfl⟩:=rx;cases y with
  | byt j=>obtain⟨t',rfl⟩:=ry;exact PySem.W.eq_bytes (b8 I q FZ)
  | _=>exact X4 (show R'=D' from hs) UL
 | _=>cases y<;>exact X4 (show R'=D' from hs) UL
theorem vn:YN X (Zr .NotEq) rNe:=by
 intro aa s σ H x y v u Q I rx ry h;obtain⟨hs,q⟩:=h;cases x with
 | X1=>
  cases rx
  cases y with
  | X1=>cases ry;exact Qk6 (b8 I q (by simp))
  | bl j=>cases ry;exact Qk8 (b8 I q (by simp))
  | int j=>obtain⟨t',rfl⟩:=ry;exact Qk7 (b8 I q (by simp))
  | str j=>obtain⟨t',rfl⟩:=ry;exact Qk5 (b8 I q (by simp))
  | _=>exact X4 (show R'=D' from hs) UL
 | bl i=>
  cases rx
  cases y with
  | X1=>cases ry;exact Qla (b8 I q (by simp))
  | bl j=>cases ry;exact ne_bool (b8 I q (QaC not Gz))
  | str j=>obtain⟨t',rfl⟩:=ry;exact QkX (b8 I q (by simp))
  | _=>exact X4 (show R'=D' from hs) UL
 | int i=>
  obtain⟨t,rfl⟩:=rx;cases y with
  | X1=>cases ry;exact Qk9 (b8 I q (by simp))
  | int j=>obtain⟨t',rfl⟩:=ry;exact ne_int (b8 I q (QaC not GA))
  | str j=>obtain⟨t',rfl⟩:=ry;exact QkW (b8 I q (by simp))
  | _=>exact X4 (show R'=D' from hs) UL
 | str i=>
  obtain⟨t,rfl⟩:=rx;cases y with
  | X1=>cases ry;exact Qk4 (b8 I q (by simp))
  | bl j=>cases ry;exact QkV (b8 I q (by simp))
  | int j=>obtain⟨t',rfl⟩:=ry;exact QkU (b8 I q (by simp))
  | str j=>obtain⟨t',rfl⟩:=ry;exact ne_str (b8 I q (QaC not Jo))
  | _=>exact X4 (show R'=D' from hs) UL
 | byt i=>
  obtain⟨t,rfl⟩:=rx;cases y with
  | byt j=>obtain⟨t',rfl⟩:=ry;exact PySem.W.ne_bytes (b8 I q (QaC not FZ))
  | _=>exact X4 (show R'=D' from hs) UL
 | _=>cases y<;>exact X4 (show R'=D' from hs) UL
theorem uQ:YN X (Zr .Lt) (rI0 fun i j=>.bl (decide (i<j))):=Qcs fun _ _ _ _ _ _ _ q=>lt_int q
theorem QeR:YN X (Zr .LtE) (rI0 fun i j=>.bl (decide (i<=j))):=Qcs fun _ _ _ _ _ _ _ q=>le_int q
theorem nJ:YN X (Zr .Gt) (rI0 fun i j=>.bl (decide (j<i))):=Qcs fun _ _ _ _ _ _ _ q=>gt_int q
theorem vk:YN X (Zr .GtE) (rI0 fun i j=>.bl (decide (j<=i))):=Qcs fun _ _ _ _ _ _ _ q=>ge_int q
theorem OF:YN X (Zr .In) (fun x y H Q=>∃ i j,x=.str i/\y=.str j/\Q (.bl (!(QfF j i 0 j.length 1).isEmpty)) H):=by
 intro aa s σ H x y v u Q I rx ry h;obtain⟨i,j,rfl,rfl,q⟩:=h;obtain⟨t,rfl⟩:=rx;obtain⟨t',rfl⟩:=ry;exact in_str (b8 I q O)
theorem bB (b:X') (h:op≠.In:=by decide) (h2:op≠.NotIn:=by decide):Qbr op b=R':=by
 have e1:(op == Qhm)=R':=by cases op<;>first|rfl|exact X4 O h
 have e2:(op == QgY)=R':=by cases op<;>first|rfl|exact X4 O h2
 cases b<;>simp[Qbr,e1,e2]
theorem rL {r:R2} (ho:YN X (Zr op) r) (ha:PE X a ta) (hb:PE X b tb) (hm:Qbr op b=R'):PE X (.Compare a [op] [b] pos) (tOp r ta tb):=by
 intro aa s σ H Q I h;exact wpAny_Compare1 (Qdt ha hb I h fun v u s2 x y H2 I2 rx ry q=>ho aa s2 σ H2 x y v u Q I2 rx ry q) hm
def QhW (t:TE):TT:=fun σ H Q=>t σ H fun x H'=>∃ k,x=.bl k/\Q k H'
theorem bG {r:R2} (ho:YN X (Zr op) r) (ha:PE X a ta) (hb:PE X b tb) (hm:Qbr op b=R'):PT X (.Compare a [op] [b] pos) (QhW (tOp r ta tb)):=by
 intro aa s σ H Q I h;refine Xj (X3 (ha aa s σ H _ I h) fun v s1=>L2.Yc fun x H1 I1 r1 q1=>X3 (hb aa s1 σ H1 _ I1 q1) fun u s2=>L2.Yc fun y H2 I2 r2 q2=>
  X3 (ho aa s2 σ H2 x y v u _ I2 r1 r2 q2) fun c s3 ⟨z,H3,I3,r3,k,e,q3⟩=>?_) hm
 subst e;cases r3
 exact Vv ⟨H3,I3,q3⟩
def QeS (K:V') (x:V) (H:Hp) (k:Bool):Prop:=
 match x with
 | .X1=>k=R'
 | .bl b=>k=b
 | .int i=>k=(i != 0)
 | .str y=>y.length<=XX/\k=((y.length:Int) != 0)
 | .byt y=>y.size<=XX/\k=((y.size:Int) != 0)
 | .ref p=>(∃ xs,M' K H p xs/\k=!xs.isEmpty)\/(∃ xs,Ya K H p xs/\k=!xs.isEmpty)\/∃ kvs,H p=B' (.dK kvs)/\k=!kvs.isEmpty
 | _=>False
theorem Om {κ:Type}{kvs:List (κ×V)}{vs:List (κ×L')} (r:KV kvs vs):(!vs.isEmpty)=!kvs.isEmpty:=by
 cases r<;>rfl
theorem FV {ah:List L'} (r:aC xs ah):(!ah.toArray.isEmpty)=!xs.isEmpty:=by
 cases r<;>simp
theorem qj:(XX:Nat)<2 ^ 63:=by rw[Uz];decide
theorem QhX:QhR X (fun x H Q=>∃ k,QeS X.K x H k/\Q k H):=by
 intro aa s σ H x v Q I rx h;obtain⟨k,e,q⟩:=h;have hl:=qj;have hs:XX=16777216:=Uz;cases x with
 | X1=>
  cases rx
  have e':k=R':=e;subst e';exact truthy_none ⟨H,I,q⟩
 | bl b=>
  cases rx
  have e':k=b:=e;subst e';exact Vv ⟨H,I,q⟩
 | int i=>
  obtain⟨t,rfl⟩:=rx;have e':k=(i != 0):=e;subst e';exact PySem.P.truthy_int ⟨H,I,q⟩
 | str y=>
  obtain⟨t,rfl⟩:=rx;obtain⟨hy,e'⟩:y.length<=XX/\k=((y.length:Int) != 0):=e;subst e';exact PySem.P.truthy_str (by lia) ⟨H,I.tok _,q⟩
 | byt y=>
  obtain⟨t,rfl⟩:=rx;obtain⟨hy,e'⟩:y.size<=XX/\k=((y.size:Int) != 0):=e;subst e';exact PySem.W.truthy_bytes (by lia) ⟨H,I.tok _,q⟩
 | ref p=>
  cases rx
  have e':(∃ xs,M' X.K H p xs/\k=!xs.isEmpty)\/(∃ xs,Ya X.K H p xs/\k=!xs.isEmpty)\/∃ kvs,H p=B' (.dK kvs)/\k=!kvs.isEmpty:=e;rcases e' with⟨xs,hx,e'⟩|⟨xs,hx,e'⟩|⟨kvs,hx,e'⟩
  .subst e'
   obtain⟨ah,r,pl,hz⟩:=I.list hx;have aw:=r.length;exact wpAny_truthy_list pl.isList (by simp only[UK];lia) ⟨H,I.tok _,by rw[FV r];exact q⟩
  .subst e'
   obtain⟨ah,r,pl,hz⟩:=I.tuple hx;have aw:=r.length;exact truthy_tuple pl (by simp only[UK];lia) ⟨H,I.tok _,by rw[FV r];exact q⟩
  .subst e'
   obtain⟨hz,hS,vs,r,m⟩:kvs.length<=XX/\(p == ZL)=R'/\∃ vs,KV kvs vs/\s.heap.DictOf (bV X.prog X.w) p vs:=I.XU p _ hx;have aw:kvs.length=vs.length:=Qc8 r;exact wpAny_truthy_dict hS m (by lia) ⟨H,I.tok _,by rw[Om r];exact q⟩
 | _=>exact(show False from e).elim
theorem P5 (ha:PE X a ta) (he:∀ df,Qb3 a X.env df=(do let v <- df;QbF a.pos;Z9 [v] (truthy v))) :
  PT X a (fun σ H Q=>ta σ H fun x H'=>∃ k,QeS X.K x H' k/\Q k H'):=by
 intro aa s σ H Q I h;exact isTrue_plain (X3 (ha aa s σ H _ I h) fun v s1=>L2.Yc fun x H1 I1 r1 q1=>QhX aa s1 σ H1 x v Q I1 r1 q1) (he _)
theorem gv (r:aC [x] us):∃ u,us=[u]/\aB x u:=by
 cases r with
 | cons r1 r2=>cases r2;exact⟨_,O,r1⟩
theorem pT (r:aC [x,y] us):∃ u w',us=[u,w']/\aB x u/\aB y w':=by
 cases r with
 | cons r1 r2=>
  cases r2 with
  | cons r3 r4=>cases r4;exact⟨_,_,O,r1,r3⟩
theorem Ih:fR X (.builtin "abs") (fun xs H Q=>∃ i,xs=[.int i]/\Q (.int (if i<0 then -i else i)) H):=by
 intro aa s σ H xs us Q I r h;obtain⟨i,rfl,q⟩:=h;obtain⟨u,rfl,t,rfl⟩:=gv r;exact call_abs_int fun u tk=>⟨.int (if i<0 then -i else i),H,I.tok _,⟨_,O⟩,q⟩
end
structure qb (h:Yg) (x dx C:F') (mA:K'->Option L'):Prop where
 obj:h.get? x=B' (Qa7 C dx)
 ns:h.Ns1 dx mA
 ne:dx≠x
theorem Sa (n:h.Ns1 dx mA):∃ od,h.get? dx=B' od/\∀ name,Qc5 name od=B' (mA name):=by
 obtain⟨o,es,ep,ho,hd,hk,_,hm⟩:=n;refine⟨o,ho,fun name=>?_⟩;have e:=hm name;unfold nsFind findBy at e;rw[<- Array.find?_toList] at e;unfold Qc5;rw[hd];dsimp only;split
 .rename_i y q
  rw[q] at e;exact QaC B' e
 .rename_i q
  rw[q] at e;have a:es.toList.any (·.refKey)=R':=by
   rw[Qgn];intro y hy;obtain⟨z,t,cu⟩:=hk y (Array.mem_toList_iff.mp hy);simp[DictEntry.refKey,cu]
  have a':¬ es.toList.any (·.refKey)=D':=by rw[a];exact UL
  rw[W' a'];exact QaC B' e
theorem qb.look {x:F'} (I:qb h x dx C mA):∃ od,Qgk h x (Qa7 C dx) C (B' od)/\∀ name,Qc5 name od=B' (mA name):=
 let ⟨od,ho,hl⟩:=Sa I.ns
 ⟨od,⟨I.obj,rfl,rfl,ho⟩,hl⟩
section
variable {K:V'}{x f:F'}{v:L'}
theorem Qv (X:K.In s.heap) (I:qb s.heap x dx C mA) (hg:QcY K C name=D') (hh:QbV K C=D')
  (ha:Y2 K (.ref C) name=B' C') (hv:mA name=B' v) (dG:Qgb v=D') (h:Q v {s with toks:=s.toks+1}) :
  N' (XS prog w) A (getAttr (.ref x) name expr) Q E s:=by
 obtain⟨od,J,hl⟩:=I.look;exact PySem.W.get_value X J (Qd6 hg).1 (PySem.W.findObj_own hh ha O (by rw[hl,hv])) dG h
theorem SC {pl:Y6 Bool}{Q:L'×List L'->XT->Prop} (X:K.In s.heap) (I:qb s.heap x dx C mA) (hg:QcY K C name=D')
  (hf:Y2 K (.ref C) name=B' (B' (.ref f))) (ht:Qa8 K (.ref f)=D') (hv:mA name=C') (h:Q (.ref f,[.ref x]) s) :
  N' (XS prog w) A (QbC (.ref x) name pl) Q E s:=by
 obtain⟨od,J,hl⟩:=I.look;exact PySem.W.method_fn X J (Qd6 hg).1 (Qd6 hg).2 hf (ZA.mp ht) (by show(Qc5 name od).map (·.isSome)=B' R';rw[hl,hv];rfl) h
theorem Tb {ns:List K'}{Q:Unit->XT->Prop} (X:K.In s.heap) (I:qb s.heap x dx C mA)
  (hs:Y2 K (.ref C) "__setattr__"=B' (B' (.builtin "object.__setattr__"))) (hp:Qf8 K C=D') (ht:Qc3 K C name=B' C') (hh:QbV K C=D')
  (hw:Qes mA ns) (hsz:ns.length<=XX)
  (h:∀ h',qb h' x dx C (fun y=>if y=name then B' v else mA y)->Zu dx s.heap h'->Q () {s with heap:=h',toks:=s.toks+2}) :
  N' (XS prog w) A (setAttr (.ref x) name v) Q E s:=by
 obtain⟨od,J,hl⟩:=I.look;refine Qf7 X J hs (PySem.W.osa_open (s:={s with toks:=s.toks+1}) (r:=C') X J hp ht fun b=>?_);obtain⟨cd,hc,cJ⟩:=Qef hh;have hx:s.heap.get? x=B' ⟨.ref C,B' dx,.plain,#[]⟩:=I.obj;refine ow (Uu (ow (ow (Xl hx (ow (Qbk (s:={s with toks:=s.toks+1}) (Qd8 X hc) ?_))))));rw[cJ];refine Uu (a:=B' dx) (ow (Uu (ow ?_)));refine wpAny_nsSet1 (s:={s with toks:=s.toks+1}) I.ns fun h' jV fu=>?_
 obtain⟨oD,J4,NO,AR,cS,Av⟩:=jV.count (Qk2 name v hw);refine ow (Qg0 AR (by rw[cS];exact Qg2 (U5 Av (by rw[UR];lia))) ?_);exact Uu (h _ ⟨(fu.2 _ (XW I.ne)).trans I.obj,jV,I.ne⟩ fu)
theorem PD (X:K.In s.heap) (hm:Qei K C=D')
  (hi:Y2 K (.ref C) "__init__"=B' (B' (.ref f))) (hf:Qah K (.ref f)=B' (.type "function"))
  (h:Y4 (XS prog w) (A.under (.builtin "type.__call__" ⟨.ref C::vs,kw⟩)) (.call (.ref f) ⟨.ref (s.heap.objs.size+1)::vs,kw⟩) (PySem.W.InitBack (s.heap.objs.size+1) R)
   {s with heap:=(s.heap.push QaJ).push (Qa7 C s.heap.objs.size)}) :
  Y4 (XS prog w) A (.call (.ref C) ⟨vs,kw⟩) R s:=by
 obtain⟨hh,g,d,t,os⟩:=s;exact PySem.W.make_core (PySem.W.makes_of X hm) (QcV X hi) (fun self=>PySem.W.bind_fn X self hf) (.inl O) h
end
def bj (f:K') (v:V):List (K'×V)->List (K'×V)
 | []=>[(f,v)]
 | (g,x)::r=>if g=f then(g,v)::r else(g,x)::bj f v r
theorem Hf (f g:K') (v:V):∀ fs:List (K'×V),(bj f v fs).lookup g=if g=f then B' v else fs.lookup g
 | []=>by
  show Qbv g [(f,v)]=_;by_cases h:g=f
  .have hb:(g == f)=D':=ZA.mpr h
   simp only[Qbv,hb,XR h]
  .have hb:(g == f)=R':=QbX.mpr h
   simp only[Qbv,hb,W' h]
 | (k,x)::r=>by
  have ih:=Hf f g v r;rw[show bj f v ((k,x)::r)=(if k=f then(k,v)::r else(k,x)::bj f v r) from rfl];by_cases hk:k=f
  .rw[XR hk]
   by_cases h:g=k
   .have hb:(g == k)=D':=ZA.mpr h
    simp only[Qbv,hb,XR (h.trans hk)]
   .have hb:(g == k)=R':=QbX.mpr h
    simp only[Qbv,hb,W' (fun e:g=f=>h (e.trans hk.symm))]
  .rw[W' hk]
   by_cases h:g=k
   .have hb:(g == k)=D':=ZA.mpr h
    simp only[Qbv,hb,W' (fun e:g=f=>hk (h.symm.trans e))]
   .have hb:(g == k)=R':=QbX.mpr h
    simp only[Qbv,hb]
    exact ih
theorem CT (f:K') (v:V):∀ fs:List (K'×V),f∈(bj f v fs).map (·.1)/\∀ g,g∈fs.map (·.1)->g∈(bj f v fs).map (·.1)
 | []=>⟨by simp[bj],fun g h=>by simp at h⟩
 | (k,x)::r=>by
  obtain⟨i1,i2⟩:=CT f v r;rw[show bj f v ((k,x)::r)=(if k=f then(k,v)::r else(k,x)::bj f v r) from rfl];by_cases hk:k=f
  .rw[XR hk]
   subst hk;exact⟨by simp,fun g h=>by simpa using h⟩
  .rw[W' hk]
   refine⟨?_,fun g h=>?_⟩
   .rw[Vb]
    exact UI _ i1
   .rw[Vb] at h ⊢
    rcases U1.mp h with e|e
    .exact U1.mpr (.inl e)
    .exact UI _ (i2 g e)
theorem HM (f:K') (v:V):∀ fs:List (K'×V),(bj f v fs).length<=fs.length+1
 | []=>by simp[bj]
 | (k,x)::r=>by
  have ih:=HM f v r;rw[show bj f v ((k,x)::r)=(if k=f then(k,v)::r else(k,x)::bj f v r) from rfl];by_cases hk:k=f
  .rw[XR hk,UR,UR];lia
  .rw[W' hk,UR,UR];lia
theorem eA.some_of (r:eA (B' v) o):∃ u,o=B' u/\aB v u:=by
 cases o with
 | none=>exact(show False from r).elim
 | some u=>exact⟨u,O,r⟩
theorem eA.none_of (r:eA C' o):o=C':=by
 cases o with
 | none=>rfl
 | some u=>exact(show False from r).elim
theorem NX (r:aB v u):Qgb u=D':=by
 cases v with
 | X1=>cases (show u=Yw from r);rfl
 | bl b=>cases (show u=Qaj b from r);rfl
 | int i=>obtain⟨t,e⟩:=(show ∃ t,u=Zn i t from r);cases e;rfl
 | str x=>obtain⟨t,e⟩:=(show ∃ t,u=Qb0 x t from r);cases e;rfl
 | byt b=>obtain⟨t,e⟩:=(show ∃ t,u=QgV b t from r);cases e;rfl
 | flt b=>obtain⟨t,e⟩:=(show ∃ t,u=Qew b t from r);cases e;rfl
 | ref a=>cases (show u=X2 a from r);rfl
 | ty n=>cases (show u=QaQ n from r);rfl
section
variable {fs La:List (K'×V)}
theorem yr (XU:Yz P w H h) (e:H a=B' (.ins C dx fs)):∃ mA,qb h a dx C mA/\(∀ f,eA (fs.lookup f) (mA f))/\Qes mA (fs.map (·.1))/\fs.length<=1000/\H dx=B' (.own a):=by
 obtain⟨d,z,ne,ob,mA,n,r,q⟩:=(show cO P w H h a (.ins C dx fs) from XU a _ e);exact⟨mA,⟨ob,n,ne⟩,r,q,z,d⟩
end
structure ZR (K:V') (C:F'):Prop where
 pg:QcY K C K'.empty=D'
 hd:QbV K C=D'
 po:Qf8 K C=D'
 sa:Y2 K (.ref C) "__setattr__"=B' (B' (.builtin "object.__setattr__"))
theorem ZR.get {K:V'}{C:F'} (c:ZR K C) (f:K'):QcY K C f=D':=c.pg
def zbt (K:V') (C:F') (f:K'):Prop:=Y2 K (.ref C) f=B' C'
theorem zbt.QhY {K:V'}{f:K'} (n:zbt K C f):Qc3 K C f=B' C':=by
 unfold Qc3;rw[show Y2 K (.ref C) f=B' C' from n];rfl
structure Con (K:V') (C:F') (f:K') (v:V) (u:L'):Prop where
 at_:Y2 K (.ref C) f=B' (B' u)
 rel:aB v u
 get:Qec K u "__get__"=B' C'
 cp:PySem.W.copiedNames.contains f=R'
structure Qb5 (K:V') (C:F') (m:K') (f:F'):Prop where
 at_:Y2 K (.ref C) m=B' (B' (.ref f))
 fn:Qa8 K (.ref f)=D'
 kp:Qae K (.ref f)=D'
section
variable {fs:List (K'×V)}{f:K'}
theorem Qk (I:Inv X aa σ H s) (e:H a=B' (.ins C dx fs)) (c:ZR X.K C) (n:zbt X.K C f) (l:fs.lookup f=B' v)
  (h:∀ u s',Inv X aa σ H s'->aB v u->Q u s'):N' (XS X.prog X.w) A (getAttr (.ref a) f b) Q E s:=by
 obtain⟨mA,X0,r,_,_,_⟩:=yr I.XU e;obtain⟨u,hu,ru⟩:=eA.some_of (v:=v) (o:=mA f) (by rw[<- l];exact r f);exact Qv I.Yq X0 (c.get f) c.hd n hu (NX ru) (h u _ (I.tok _) ru)
theorem BU {g:F'}{pl:Y6 Bool}{Q:L'×List L'->XT->Prop} (I:Inv X aa σ H s) (e:H a=B' (.ins C dx fs)) (c:ZR X.K C) (k:Qb5 X.K C m g) (l:fs.lookup m=C')
  (h:Q (.ref g,[.ref a]) s):N' (XS X.prog X.w) A (QbC (.ref a) m pl) Q E s:=by
 obtain⟨mA,X0,r,_,_,_⟩:=yr I.XU e;have hn:mA m=C':=eA.none_of (by rw[<- l];exact r m);exact SC I.Yq X0 (c.get m) k.at_ k.fn hn h
theorem Qf {Q:Unit->XT->Prop} (I:Inv X aa σ H s) (e:H a=B' (.ins C dx fs)) (c:ZR X.K C) (n:zbt X.K C f) (hl:fs.length<1000) (ry:aB y u)
  (h:∀ s',Inv X aa σ (upd H a (.ins C dx (bj f y fs))) s'->Q () s'):N' (XS X.prog X.w) A (setAttr (.ref a) f u) Q E s:=by
 obtain⟨mA,X0,r,wi,_,ho⟩:=yr I.XU e;have hz:(fs.map (·.1)).length<=XX:=by rw[Us,Uz];lia
 refine Tb I.Yq X0 c.sa c.po n.QhY c.hd wi hz fun h' O' sb=>h _ ?_
 have hd:∃ o,h'.get? dx=B' o:=let ⟨o,_,_,e',_⟩:=O'.ns;⟨o,e'⟩
 refine I.write (x:=a) (e:=dx) (by rw[e];exact ZK) (.inr ho) (fun b q hb z=>(sb.2 b hb).trans z) hd ?_;refine⟨by rw[ak X0.ne];exact ho,?_,X0.ne,O'.obj,_,O'.ns,fun g=>?_,fun g hg=>?_⟩
 .have:=HM f y fs;lia
 .show eA ((bj f y fs).lookup g) (if g=f then B' u else mA g)
  rw[Hf];by_cases q:g=f
  .rw[XR q,XR q];exact ry
  .rw[W' q,W' q];exact r g
 .by_cases q:g=f
  .rw[q];exact(CT f y fs).1
  .refine(CT f y fs).2 g (wi g fun z=>hg ?_)
   show(if g=f then B' u else mA g)=C';rw[W' q];exact z
theorem Inv.made (I:Inv X aa σ H s):Inv X aa σ (upd (upd H s.heap.objs.size (.own (s.heap.objs.size+1))) (s.heap.objs.size+1) (.ins C s.heap.objs.size []))
  {s with heap:=(s.heap.push QaJ).push (Qa7 C s.heap.objs.size)}:=by
 have e1:(s.heap.push QaJ).get? s.heap.objs.size=B' QaJ:=UA s.heap rfl;have e2:((s.heap.push QaJ).push (Qa7 C s.heap.objs.size)).get? (s.heap.objs.size+1)=B' (Qa7 C s.heap.objs.size):=by
  have:=UA (s.heap.push QaJ) (o:=Qa7 C s.heap.objs.size) rfl
  rwa [UY] at this
 have e3:(s.heap.push QaJ).Ns s.heap.objs.size (fun _=>C'):=⟨QaJ,#[],_,e1,O,(fun e he=>X4 he (by simp)),fun _=>O⟩;have I1:=I.laid (a:=s.heap.objs.size) (o:=.own (s.heap.objs.size+1)) (h':=s.heap.push QaJ) (t':=s.toks) (fun b u q=>Ut _ q) (Uv _) ⟨_,e1⟩;refine I1.laid (a:=s.heap.objs.size+1) (o:=.ins C s.heap.objs.size []) (t':=s.toks) (fun b u q=>Ut _ q) (Wy (UY _ _)) ?_;have ne:s.heap.objs.size≠s.heap.objs.size+1:=UE (Vi _);refine⟨by rw[ak ne,ai],VJ _,ne,e2,fun _=>C',(XG e3).at fun o q=>Ut _ q,fun _=>ZK,fun y hy=>X4 O hy⟩
theorem Pp {f:K'} (hb:Qbs e f env (X9 e env)=X9 e env)
  (h:N' (XS prog w) A (X9 e env) (fun o s₁=>N' (XS prog w) A (getAttr o f D') Q E s₁) E s):N' (XS prog w) A (X9 (.Attribute e f pos) env) Q E s:=
 Attribute_any_ h (by rw[arm_eval_Attribute,hb])
end
def QeT (K:V') (ta:TE) (f:K'):TE:=fun σ H Q=>ta σ H fun x H1=>∃ a C dx fs v,x=.ref a/\H1 a=B' (.ins C dx fs)/\ZR K C/\zbt K C f/\fs.lookup f=B' v/\Q v H1
def QhZ (K:V') (ta tv:TE) (f:K'):TS:=fun D σ H=>tv σ H fun y H1=>ta σ H1 fun x H2=>∃ a C dx fs,x=.ref a/\H2 a=B' (.ins C dx fs)/\ZR K C/\zbt K C f/\fs.length<1000 /\
 D.nx σ (upd H2 a (.ins C dx (bj f y fs)))
section
variable {o value:X'}{f:K'}{tv:TE}
theorem bg (he:PE X e ta) (hb:Qbs e f X.env (X9 e X.env)=X9 e X.env):PE X (.Attribute e f pos) (QeT X.K ta f):=by
 intro aa s σ H Q I h;refine Pp hb (X3 (he aa s σ H _ I h) fun u s1=>L2.Yc fun x H1 I1 rx a8=>?_);obtain⟨a,C,dx,fs,v,ex,ea,c,n,l,q⟩:=a8;subst ex;obtain rfl:u=X2 a:=rx;exact Qk I1 ea c n l fun u' s2 I2 ru=>⟨v,H1,I2,ru,q⟩
theorem gq (ha:PE X o ta) (hv:PE X value tv) (hs:QbB value (B' (.Attribute o f a7)) pos.line X.env=pure R'):PS X (.Assign [.Attribute o f a7] value pos) (QhZ X.K ta tv f):=by
 intro aa s σ H D I h;refine QfL (X3 (hv aa s σ H _ I h) fun u s1=>L2.Yc fun y H1 I1 ry q=>X3 (ha aa s1 σ H1 _ I1 q) fun ov s2=>L2.Yc fun x H2 I2 rx a8=>?_) hs;obtain⟨a,C,dx,fs,ex,ea,c,n,l,q2⟩:=a8;subst ex;obtain rfl:ov=X2 a:=rx;exact Qf I2 ea c n l ry fun s3 I3=>⟨σ,_,I3,q2⟩
end
section
variable {c:L'}
inductive iT (K:V') (H:Hp):V->L'->Prop where
 | X1:iT K H .X1 (.type "NoneType")
 | bl (x:Bool):iT K H (.bl x) (.type "bool")
 | int (i:Int):iT K H (.int i) (.type "int")
 | str (x:K'):iT K H (.str x) (.type "str")
 | flt (x:UInt64):iT K H (.flt x) (.type "float")
 | lst {a:F'}{xs:List V} (e:H a=B' (.lst xs)):iT K H (.ref a) (.type "list")
 | X7 {a:F'}{o:X6}{xs:List V} (e:H a=B' (.X7 o (.lst xs))):iT K H (.ref a) (.type "list")
 | tup {a:F'}{xs:List V} (e:H a=B' (.tup xs)):iT K H (.ref a) (.type "tuple")
 | dK {a:F'}{kvs:List (Key×V)} (e:H a=B' (.dK kvs)):iT K H (.ref a) (.type "dict")
 | dT {a:F'}{kvs:List (List Key×V)} (e:H a=B' (.dT kvs)):iT K H (.ref a) (.type "dict")
 | ins {a C dx:F'}{fs:List (K'×V)} (e:H a=B' (.ins C dx fs)) (cl:ZR K C) (ha:Y2 K (.ref C) "__class__"=B' (B' (.builtin "object.__class__")))
   (hn:Qec K (.builtin "object.__class__") "__get__"=B' (B' (.builtin "getset_descriptor.__get__"))) (htk:Qgf K (.builtin "object.__class__")=B' D')
   (hm:Zq K C (.type "object")=B' D'):iT K H (.ref a) (.ref C)
theorem Rx {t:L'} (I:Inv X aa σ H s) (rx:aB x u) (ty:iT X.K H x t) (e:Qbn X.K t c=B' b) (h:∀ tk,Q (.bool b) {s with toks:=tk}) :
  N' (XS X.prog X.w) A (call (.builtin "isinstance") [u,c]) Q E s:=by
 cases ty with
 | X1=>cases (show u=Yw from rx);exact Qan PySem.W.kitx_none I.Yq ZK e (fun z=>nomatch z) h
 | bl y=>cases (show u=Qaj y from rx);exact Qan PySem.W.kitx_bool I.Yq ZK e (fun z=>nomatch z) h
 | int i=>obtain⟨t,q⟩:=(show ∃ t,u=Zn i t from rx);cases q;exact Qan PySem.W.kitx_int I.Yq ZK e (fun z=>nomatch z) h
 | str y=>obtain⟨t,q⟩:=(show ∃ t,u=Qb0 y t from rx);cases q;exact Qan PySem.W.kitx_str I.Yq ZK e (fun z=>nomatch z) h
 | flt y=>obtain⟨t,q⟩:=(show ∃ t,u=Qew y t from rx);cases q;exact Qan PySem.W.kitx_float I.Yq ZK e (fun z=>nomatch z) h
 | @lst a xs ea=>
  cases (show u=X2 a from rx)
  obtain⟨_,_,n,_,h1⟩:=(show cO X.prog X.w H s.heap a (.lst xs) from I.XU a _ ea);exact Qan Qf9 I.Yq ⟨_,h1,O⟩ e (fun z=>nomatch z) h
 | @X7 a ob xs ea=>
  cases (show u=X2 a from rx)
  obtain⟨_,_,_,n,_,h1⟩:=(show cO X.prog X.w H s.heap a (.X7 ob (.lst xs)) from I.XU a _ ea);exact Qan Qf9 I.Yq ⟨_,h1,O⟩ e (fun z=>nomatch z) h
 | @tup a xs ea=>
  cases (show u=X2 a from rx)
  obtain⟨_,_,_,p⟩:=(show cO X.prog X.w H s.heap a (.tup xs) from I.XU a _ ea);obtain⟨o,h1,h2,_⟩:=p;exact Qan PySem.W.kitx_tuple I.Yq ⟨o,h1,h2⟩ e (fun z=>nomatch z) h
 | @dK a kvs ea=>
  cases (show u=X2 a from rx)
  obtain⟨_,_,vs,_,p⟩:=(show cO X.prog X.w H s.heap a (.dK kvs) from I.XU a _ ea);obtain⟨o,es,ep,h1,h2,_⟩:=p;exact Qan Qga I.Yq ⟨o,h1,h2.1⟩ e (fun z=>nomatch z) h
 | @dT a kvs ea=>
  cases (show u=X2 a from rx)
  obtain⟨_,_,xs,_,o,es,ep,h1,h2,_⟩:=(show cO X.prog X.w H s.heap a (.dT kvs) from I.XU a _ ea);exact Qan Qga I.Yq ⟨o,h1,h2.1⟩ e (fun z=>nomatch z) h
 | @ins a C dx fs ea cl ha hn htk hm=>
  cases (show u=X2 a from rx)
  obtain⟨mA,X0,_⟩:=yr I.XU ea;obtain⟨od,J,_⟩:=X0.look;exact Qan (PySem.W.kitx_own (cl.get _) cl.hd ha hn htk hm) I.Yq J e (fun z=>nomatch z) h
end
structure bn (k:Nat) (A:YT):Prop where
 dp:A.depth+3*k+5<Qev
 un:A.units+16*k+200<Yr
theorem bn.mono {j k:Nat} (r:bn k A) (h:j<=k):bn j A:=⟨by have:=r.dp;lia,by have:=r.un;lia⟩
theorem bn.deeper {k:Nat}{A:YT} (r:bn (k+1) A) (env:Za):bn k (A.deeper env):=
 ⟨by have:=r.dp;show A.depth+1+3*k+5<_;lia,by have:=r.un;show A.units+3+16*k+200<_;lia⟩
theorem bn.in1 {k:Nat}{A:YT} (r:bn (k+1) A):bn k A.in1:=
 ⟨by have:=r.dp;show A.depth+3*k+5<_;lia,by have:=r.un;show A.units+1+16*k+200<_;lia⟩
theorem Py:(A.under (.builtin "type.__call__" ⟨.ref C::us,kw⟩)).depth=A.depth+1:=by
 first|rfl|simp[Qeq,Code.weight,Code.isCreation,Code.isGuard,Code.isCaller,Qg6,Qeu,guardIds]
theorem Qz:(A.under (.builtin "type.__call__" ⟨.ref C::us,kw⟩)).units=A.units+1:=by
 first|rfl|simp[Qeq,Code.cUnits,Qg6,Qeu]
theorem bn.make {k:Nat} (r:bn (k+1) A) (C:F') (us:List L') (kw:List (K'×L')):bn k (A.under (.builtin "type.__call__" ⟨.ref C::us,kw⟩)):=
 ⟨by have:=r.dp;rw[Py];lia,by have:=r.un;rw[Qz];lia⟩
theorem bn.depth {k:Nat}{A:YT} (r:bn k A):A.depth<Qev:=by have:=r.dp;lia
theorem bn.units {k:Nat}{A:YT} (r:bn k A):A.units+64<Yr:=by have:=r.un;lia
def nW:TA:=fun _ H Q=>Q [] H
def BL (ta:TE) (tr:TA):TA:=fun σ H Q=>ta σ H fun x H1=>tr σ H1 fun xs H2=>Q (x::xs) H2
section
variable {t:TA}
theorem aj:PA X [] nW:=fun _ _ _ _ H Q I h=>QbW ⟨[],H,I,.nil,h⟩
theorem ag (ha:PE X e te) (hr:PA X es t) (hs:Yb (e::es) X.env=(R',X9 e X.env)::Yb es X.env:=by rfl):PA X (e::es) (BL te t):=by
 intro pos aa s σ H Q I h;rw[hs];show N' _ _ (Qdn ((R',X9 e X.env)::Yy pos (Yb es X.env))) _ _ s;refine Qbl (X3 (ha aa s σ H _ I h) fun u s1=>L2.Yc fun x H1 I1 r1 q1=>?_);exact X3 (hr pos aa s1 σ H1 _ I1 q1) fun us s2 ⟨xs,H2,I2,r2,q2⟩=>⟨x::xs,H2,I2,.cons r1 r2,q2⟩
def Qh0 (t:TA):TE:=fun σ H Q=>t σ H fun xs H1=>xs.length<=XX/\∀ p,H1 p=C'->Q (.ref p) (upd H1 p (.tup xs))
def Qb6 (t:TA):TE:=fun σ H Q=>t σ H fun xs H1=>xs.length<=XX/\∀ p,H1 p=C'->Q (.ref p) (upd H1 p (.lst xs))
theorem cw {x1} (h:PA X es t):PE X (.Tuple es x1 pos) (Qh0 t):=by
 intro aa s σ H Q I hq;refine wpAny_Tuple_spliced (X3 (h pos aa s σ H _ I hq) fun us s1 ⟨xs,H1,I1,r,z,q⟩=>⟨by rw[<- r.length];exact z,?_⟩);have hf:H1 s1.heap.objs.size=C':=I1.XU.fresh (Uv _);refine⟨.ref s1.heap.objs.size,upd H1 s1.heap.objs.size (.tup xs),I1.laid (t':=s1.toks) (fun b u e=>Ut _ e) (Uv _) ?_,O,q _ hf⟩;exact⟨z,us,r,⟨_,UA _ O,O,_,O⟩⟩
theorem bZ (h:PA X es t):PE X (.List es pos) (Qb6 t):=by
 intro aa s σ H Q I hq;refine wpAny_List_spliced (X3 (h pos aa s σ H _ I hq) fun us s1 ⟨xs,H1,I1,r,z,q⟩=>⟨by rw[<- r.length];exact z,?_⟩);have hf:H1 s1.heap.objs.size=C':=I1.XU.fresh (Uv _);refine⟨.ref s1.heap.objs.size,upd H1 s1.heap.objs.size (.lst xs),I1.laid (t':=s1.toks) (fun b u e=>Ut _ e) (Uv _) ?_,O,q _ hf⟩;exact⟨z,us,0,r,UA _ O⟩
end
abbrev Sp:=List V->Hp->VK->XK->Prop
abbrev CXT:=List Za->Hp->XT->XK->L'->XT->Prop
structure ql (P:YE) (w:YF) (K:V') (mg:K'->Option L') (base:Yg) (A:YT) (outer:List Za) (s:XT) (H:Hp):Prop where
 frames:A.frames=B' outer
 mod:Mod K mg base
 bs:∀ b o,base.get? b=B' o->s.heap.get? b=B' o/\H b=C'
 bsz:base.objs.size<=s.heap.objs.size
 ZO:s.heap.FunFrames base outer
 frf:∀ b∈YG outer,H b=C'
 XU:Yz P w H s.heap
 bare:QaD s.gens
 hd:jn A H
def CE (outer:List Za) (P:YE) (w:YF) (H:Hp) (s:XT) (Q:VK) (u:L') (s':XT):Prop:=
 ∃ v H',s'.os=s.os/\QaD s'.gens/\Un (YG outer) [] H H' s.heap s'.heap/\Yz P w H' s'.heap/\aB v u/\Q v H'
variable {CX:CXT}{E:XK}{Q:VK}{base:Yg}{f:F'}{fd:Z8}{mg:K'->Option L'}{outer:List Za}{ps:List K'}{qual x:K'}{scope:ZD}{sp:Sp}{t:TA}{vs:List V}
def CR (CX:CXT) (outer:List Za) (P:YE) (w:YF) (H:Hp) (s:XT) (Q:VK) (E:XK) (r:Result) (s':XT):Prop:=
 match r with
 | .ok (.ret u)=>CE outer P w H s Q u s'
 | .ok _=>False
 | .error e=>CX outer H s E e s'
structure cy (P:YE) (w:YF) (K:V') (mg:K'->Option L') (base:Yg) (CX:CXT) (k:Nat) (f:F') (fd:Z8) (ps:List K') (sp:Sp):Prop where
 len:∀ vs H Q E,sp vs H Q E->vs.length=ps.length
 run:∀ (A:YT) (outer:List Za) (s:XT) (H:Hp) (args:Args) (us:List L') (vs:List V) (Q:VK) (E:XK),bn k A->ql P w K mg base A outer s H->QbJ s fd args (ps.zip us)->aC vs us->sp vs H Q E ->
  Y4 (XS P w) A (.call (.ref f) args) (CR CX outer P w H s Q E) s
theorem ql.make {K:V'} (e:ql P w K mg base A outer s H) (C:F') (us:List L') (kw:List (K'×L')) :
  ql P w K mg base (A.under (.builtin "type.__call__" ⟨.ref C::us,kw⟩)) outer s H:=⟨by first|exact e.frames|(simpa [Qeq,Code.envs,Qeu,pushEnvs] using e.frames),e.mod,e.bs,e.bsz,e.ZO,e.frf,e.XU,e.bare,e.hd⟩
theorem Inv.Qct (I:Inv X aa σ H s):ql X.prog X.w X.K X.mg X.base X.A X.stack s H:=
 ⟨I.ok.frames,I.ok.mod,I.bs,U5 I.ok.bsz I.sz,I.stack,I.Qb4,I.XU,I.bare,I.QaW⟩
theorem Inv.after (I:Inv X aa σ H s) (h:CE X.stack X.prog X.w H s Q u s'):EP X aa σ Q u s':=by
 obtain⟨v,H',os,bare,un,XU,r,q⟩:=h;obtain⟨hh,g,d,t,wd⟩:=s';obtain rfl:wd=s.os:=os;exact⟨v,H',I.call (h':=hh) (g':=g) (d':=d) (t':=t) (ch:=[]) un XU bare (fun b z=>X4 z (by simp)),r,q⟩
def QeU (sp:Sp) (aN:List V) (E:XK) (t:TA):TE:=fun σ H Q=>t σ H fun vs H1=>sp (vs++aN) H1 Q E
def xt (C:F') (m:K') (sp:Sp) (aN:List V) (E:XK) (ta:TE) (t:TA):TE:=fun σ H Q=>ta σ H fun x H1=>∃ a dx fs,x=.ref a/\H1 a=B' (.ins C dx fs)/\fs.lookup m=C' /\
 t σ H1 fun vs H2=>sp (x::(vs++aN)) H2 Q E
def xy (C:F') (sp:Sp) (aN:List V) (E:XK) (t:TA):TE:=fun σ H Q=>t σ H fun vs H1=>∀ x dx,H1 x=C'->H1 dx=C'->dx≠x ->
 sp (.ref x::(vs++aN)) (upd (upd H1 dx (.own x)) x (.ins C dx [])) (fun v H2=>v=.X1/\Q (.ref x) H2) E
def eh (K:V') (fd:Z8) (ps:List K') (ds:List L'):Prop:=
 ∀ (s:XT) (us:List L'),K.In s.heap->(us++ds).length=ps.length->QbJ s fd ⟨us,[]⟩ (ps.zip (us++ds))
theorem eh.all {K:V'} (h:∀ us:List L',us.length=ps.length->QbE fd ⟨us,[]⟩=pure (ps.zip us)):eh K fd ps []:=fun s us _ hl=>by
 rw[Vc] at hl ⊢;exact .of_eq (h us hl)
def md (CX:CXT) (X:Cx) (E:XK):Prop:=∀ (aa:List (F'×X6)) (σ:St) (H:Hp) (s:XT) (e:L') (s':XT),Inv X aa σ H s->CX X.stack H s E e s'->X.xe e s'
section
variable {k:Nat}{aN:List V}{ds:List L'}{p aP:YA}{o:X'}
theorem B2 (F:cy X.prog X.w X.K X.mg X.base CX k f fd ps sp) (hr:bn k X.A) (hb:eh X.K fd ps ds) (hd:aC aN ds) (hx:md CX X E)
  (I:Inv X aa σ H s) (r:aC vs us) (h:sp (vs++aN) H Q E):N' (XS X.prog X.w) X.A (call (.ref f) us) (EP X aa σ Q) X.xe s:=by
 have r2:aC (vs++aN) (us++ds):=r.append hd;have hl:(us++ds).length=ps.length:=by rw[<- r2.length];exact F.len _ _ _ _ h
 refine Wb (QaP (F.run X.A X.stack s H ⟨us,[]⟩ (us++ds) (vs++aN) Q E hr I.Qct (hb s us I.Yq hl) r2 h) fun r s' hq=>?_);cases r with
 | error e=>exact hx aa σ H s e s' I hq
 | ok fl=>
  cases fl with
  | ret u=>exact I.after hq
  | next=>exact Zm hq
  | brk=>exact Zm hq
  | cont=>exact Zm hq
theorem RF (F:cy X.prog X.w X.K X.mg X.base CX k f fd ps sp) (hr:bn k X.A) (hg:Gl X x) (hm:X.mg x=B' (.ref f)) (hk:Qae X.K (.ref f)=D') (hb:eh X.K fd ps ds) (hd:aC aN ds) (hx:md CX X E)
  (ha:PA X (e::es) t) (YO:(x == ("__debug__":K'))=R':=by decide) (he:Yb (e::es) X.env=(R',X9 e X.env)::Yb es X.env:=by rfl) (cv:(Yy pos (Yb es X.env)).any (·.1)=R':=by rfl) :
  PE X (.Call (.Name x p) (e::es) [] pos) (QeU sp aN E t):=by
 intro aa s σ H Q I h;refine Vl (p5 I hg hm ?_ YO);refine QbT (h₀:=X.base) I.ok.mod.kin hk (X3 (ha pos aa s σ H _ I h) fun us s1=>L2.Yc fun vs H1 I1 r q=>⟨I1.Yq,?_⟩) he cv;exact B2 F hr hb hd hx I1 r q
theorem Oa {pl:Y6 Bool} (he:PE X o ta) (c:ZR X.K C) (hm:Qb5 X.K C m f) (F:cy X.prog X.w X.K X.mg X.base CX k f fd ps sp) (hr:bn k X.A) (hb:eh X.K fd ps ds) (hd:aC aN ds) (hx:md CX X E) (ha:PA X (e::es) t)
  (cR:Yb (e::es) X.env=(R',X9 e X.env)::Yb es X.env:=by rfl) (cv:(Yy pos (Yb es X.env)).any (·.1)=R':=by rfl)
  (ht:X9 (.Call (.Attribute o m aP) (e::es) [] pos) X.env=(do
   let ov <- X9 o X.env
   QbF aP.atName
   let (f,first) <- Z9 [ov] (QbC ov m pl)
   QbD pos f first (Yy pos (Yb (e::es) X.env)) (ZC pos (Zz [] X.env))):=by rfl) :
  PE X (.Call (.Attribute o m aP) (e::es) [] pos) (xt C m sp aN E ta t):=by
 intro aa s σ H Q I h;refine Qd4 (pl:=pl) (X3 (he aa s σ H _ I h) fun u s1=>L2.Yc fun x H1 I1 rx a8=>?_) ht;obtain⟨a,dx,fs,ex,ea,l,q⟩:=a8;subst ex;obtain rfl:u=X2 a:=rx;refine BU I1 ea c hm l ?_;refine QbT (first:=[.ref a]) (h₀:=X.base) I.ok.mod.kin hm.kp (X3 (ha pos aa s1 σ H1 _ I1 q) fun us s2=>L2.Yc fun vs H2 I2 r q2=>⟨I2.Yq,?_⟩) cR cv;exact B2 (us:=.ref a::us) (vs:=.ref a::vs) F hr hb hd hx I2 (.cons O r) q2
theorem Rt {pl:Y6 Bool} (he:PE X o ta) (c:ZR X.K C) (hm:Qb5 X.K C m f) (F:cy X.prog X.w X.K X.mg X.base CX k f fd ps sp) (hr:bn k X.A) (hb:eh X.K fd ps ds) (hd:aC aN ds) (hx:md CX X E)
  (ht:X9 (.Call (.Attribute o m aP) [] [] pos) X.env=(do
   let ov <- X9 o X.env
   QbF aP.atName
   let (f,first) <- Z9 [ov] (QbC ov m pl)
   QbD pos f first (Yy pos (Yb [] X.env)) (ZC pos (Zz [] X.env))):=by rfl) :
  PE X (.Call (.Attribute o m aP) [] [] pos) (xt C m sp aN E ta nW):=by
 intro aa s σ H Q I h;refine Qd4 (pl:=pl) (X3 (he aa s σ H _ I h) fun u s1=>L2.Yc fun x H1 I1 rx a8=>?_) ht;obtain⟨a,dx,fs,ex,ea,l,q⟩:=a8;subst ex;obtain rfl:u=X2 a:=rx;refine BU I1 ea c hm l ?_;exact Qd9 (first:=[.ref a]) I1.Yq hm.kp (B2 (us:=[.ref a]) (vs:=[.ref a]) F hr hb hd hx I1 (.cons O .nil) q)
structure Mk (K:V') (C f:F'):Prop where
 makes:Qei K C=D'
 init:Y2 K (.ref C) "__init__"=B' (B' (.ref f))
 fn:Qa8 K (.ref f)=D'
 kp:Qae K (.ref C)=D'
theorem Jf (M:Mk X.K C f) (F:cy X.prog X.w X.K X.mg X.base CX k f fd ps sp) (hr:bn (k+1) X.A) (hb:eh X.K fd ps ds) (hd:aC aN ds)
  (hx:md CX X E) (I:Inv X aa σ H s) (r:aC vs us)
  (h:∀ x dx,H x=C'->H dx=C'->dx≠x->sp (.ref x::(vs++aN)) (upd (upd H dx (.own x)) x (.ins C dx [])) (fun v H2=>v=.X1/\Q (.ref x) H2) E) :
  N' (XS X.prog X.w) X.A (call (.ref C) us) (EP X aa σ Q) X.xe s:=by
 have hq:=h (s.heap.objs.size+1) s.heap.objs.size (I.XU.fresh (Vm _)) (I.XU.fresh (Uv _)) (UE (Vi _));have I2:=Inv.made (C:=C) I;have r2:aC (V.ref (s.heap.objs.size+1)::(vs++aN)) (X2 (s.heap.objs.size+1)::(us++ds)):=.cons O (r.append hd);have hl:(X2 (s.heap.objs.size+1)::us++ds).length=ps.length:=by
  have e:=r2.length;rw[F.len _ _ _ _ hq] at e;exact e.symm
 refine Wb (PD (f:=f) I.Yq M.makes M.init (ZA.mp M.fn) (QaP (F.run _ X.stack _ _ ⟨X2 (s.heap.objs.size+1)::us,[]⟩ (X2 (s.heap.objs.size+1)::(us++ds)) _ _ E (hr.make C us [])
  (I2.Qct.make C us []) (hb _ (X2 (s.heap.objs.size+1)::us) I2.Yq hl) r2 hq) fun r s' gB=>?_))
 cases r with
 | error e=>exact hx aa σ _ _ e s' I2 gB
 | ok fl=>
  cases fl with
  | ret u=>
   obtain⟨v,H',I3,rv,ev,q3⟩:=I2.after gB;subst ev;exact⟨rv,⟨V.ref (s.heap.objs.size+1),H',I3,O,q3⟩⟩
  | next=>exact Zm gB
  | brk=>exact Zm gB
  | cont=>exact Zm gB
theorem O7 (M:Mk X.K C f) (F:cy X.prog X.w X.K X.mg X.base CX k f fd ps sp) (hr:bn (k+1) X.A) (hg:Gl X x) (hm:X.mg x=B' (.ref C)) (hb:eh X.K fd ps ds) (hd:aC aN ds) (hx:md CX X E)
  (ha:PA X (e::es) t) (YO:(x == ("__debug__":K'))=R':=by decide) (he:Yb (e::es) X.env=(R',X9 e X.env)::Yb es X.env:=by rfl) (cv:(Yy pos (Yb es X.env)).any (·.1)=R':=by rfl) :
  PE X (.Call (.Name x p) (e::es) [] pos) (xy C sp aN E t):=by
 intro aa s σ H Q I h;refine Vl (p5 I hg hm ?_ YO);refine QbT (h₀:=X.base) I.ok.mod.kin M.kp (X3 (ha pos aa s σ H _ I h) fun us s1=>L2.Yc fun vs H1 I1 r q=>⟨I1.Yq,?_⟩) he cv;exact Jf M F hr hb hd hx I1 r q
theorem PR (M:Mk X.K C f) (F:cy X.prog X.w X.K X.mg X.base CX k f fd ps sp) (hr:bn (k+1) X.A) (hg:Gl X x) (hm:X.mg x=B' (.ref C)) (hb:eh X.K fd ps ds) (hd:aC aN ds) (hx:md CX X E)
  (YO:(x == ("__debug__":K'))=R':=by decide):PE X (.Call (.Name x p) [] [] pos) (xy C sp aN E nW):=by
 intro aa s σ H Q I h;refine Vl (p5 I hg hm ?_ YO);exact Qd9 I.Yq M.kp (Jf (us:=[]) M F hr hb hd hx I .nil h)
end
section
variable {k:Nat}{ks:List K'}{p aP bQ:YA}{o:X'}{oG:List QbI}{tk:TA}{nm:Option K'}
structure KBinds (K:V') (fd:Z8) (ps ks:List K') (g:List L'->List L'->List L') (gV:List V->List V->List V):Prop where
 to:∀ (s:XT) (us ws:List L'),K.In s.heap->(g us ws).length=ps.length->QbJ s fd ⟨us,ks.zip ws⟩ (ps.zip (g us ws))
 rel:∀ {vs:List V}{us:List L'}{zs:List V}{ws:List L'},aC vs us->aC zs ws->aC (gV vs zs) (g us ws)
variable {g:List L'->List L'->List L'}{gV:List V->List V->List V}
end
structure aX (N P:List K') (sc:ZD):Prop where
 kind:sc.kind=.function
 co:sc.isCoroutine=R'
 gen:sc.isGenerator=R'
 nd:N.Nodup
 pre:N.take P.length=P
 par:∀ x∈P,sc.names.lookup x=B' .local\/sc.names.lookup x=B' .cell
 Qh1:∀ y∈sc.names,y.2≠.free
theorem GE {kindOf:K'->Option Qag}{x:K'}:∀ {fD:List (K'×L')}{m:K'->Option L'},(∀ v,(x,v)∉fD)->Qba kindOf fD m x=m x
 | [],_,_=>rfl
 | (n,v)::r,m,h=>by
  unfold Qba;rw[GE fun w hw=>h w (UI _ hw)];split
  .have:x≠n:=by rintro rfl;exact h v UQ
   simp[this]
  .rfl
theorem GI {kindOf:K'->Option Qag}{x:K'}:∀ {fD:List (K'×L')}{m:K'->Option L'},(∀ v,(x,v)∉fD)->Qbb kindOf fD m x=m x
 | [],_,_=>rfl
 | (n,v)::r,m,h=>by
  unfold Qbb;rw[GI fun w hw=>h w (UI _ hw)];split
  .rfl
  .have:x≠n:=by rintro rfl;exact h v UQ
   simp[this]
theorem JD {kindOf:K'->Option Qag}{x:K'}{v:L'}:∀ {P:List K'}{vs:List L'}{i:Nat}{m:K'->Option L'},P.Nodup->P[i]?=B' x->vs[i]?=B' v->kindOf x=B' .local ->
  Qba kindOf (P.zip vs) m x=B' v
 | [],_,_,_,_,h,_,_=>by simp at h
 | _::_,[],_,_,_,_,h,_=>by simp at h
 | p::P,w::vs,0,m,nd,h1,h2,hk=>by
  simp at h1 h2;subst h1;subst h2
  show Qba kindOf ((p,w)::P.zip vs) m p=_;unfold Qba;rw[GE fun v hv=>(WN.mp nd).1 (Xe hv).1,XR hk];simp
 | p::P,w::vs,i+1,m,nd,h1,h2,hk=>by
  show Qba kindOf ((p,w)::P.zip vs) m x=_;unfold Qba;exact JD (i:=i) (WN.mp nd).2 (by simpa using h1) (by simpa using h2) hk
theorem GR {kindOf:K'->Option Qag}{x:K'}{v:L'}:∀ {P:List K'}{vs:List L'}{i:Nat}{m:K'->Option L'},P.Nodup->P[i]?=B' x->vs[i]?=B' v->kindOf x≠B' .local ->
  Qbb kindOf (P.zip vs) m x=B' v
 | [],_,_,_,_,h,_,_=>by simp at h
 | _::_,[],_,_,_,_,h,_=>by simp at h
 | p::P,w::vs,0,m,nd,h1,h2,hk=>by
  simp at h1 h2;subst h1;subst h2
  show Qbb kindOf ((p,w)::P.zip vs) m p=_;unfold Qbb;rw[GI fun v hv=>(WN.mp nd).1 (Xe hv).1,W' hk];simp
 | p::P,w::vs,i+1,m,nd,h1,h2,hk=>by
  show Qbb kindOf ((p,w)::P.zip vs) m x=_;unfold Qbb;exact GR (i:=i) (WN.mp nd).2 (by simpa using h1) (by simpa using h2) hk
def start (N:List K') (vs:List V):St:=vs.map B'++X8 (N.length-vs.length) C'
def jQ (CX:CXT) (P:YE) (w:YF) (K:V') (mg:K'->Option L') (base:Yg) (N:List K') (qual:K') (scope:ZD) (f:F') (cd:L') (A:YT) (outer:List Za) (s:XT) (H:Hp) (E:XK):Cx where
 prog:=P
 w:=w
 K:=K
 mg:=mg
 base:=base
 A:=A.deeper (Qar qual scope s.heap.objs.size f cd)
 N:=N
 s₀:=s
 H₀:=H
 env:=Qar qual scope s.heap.objs.size f cd
 outer:=outer
 stack:=Qar qual scope s.heap.objs.size f cd::outer
 ex:=[]
 calm:=D'
 fn:=fun _=>D'
 pn:=[]
 xe:=fun e s'=>N' (XS P w) (A.deeper (Qar qual scope s.heap.objs.size f cd)) (leaving (Qar qual scope s.heap.objs.size f cd) e) (fun _ Ao=>CX outer H s E e Ao) (fun e' Ao=>CX outer H s E e' Ao) s'
theorem HA {sc:ZD} (h:sc.names.lookup x=B' .cell):∃ c,(QeH n sc.names []).lookup x=B' c:=by
 have q:=QfR sc.names n [] (.inl h);exact ZI.mp q
theorem Od {K:V'}{cd:L'}{s1:XT}
  (S:aX N ps scope) (e0:ql P w K mg base A outer s H) (hl:vs.length=ps.length) (r:aC vs us)
  (x:InCallC s s.heap.objs.size (Qba (Qar qual scope s.heap.objs.size f cd).kindOf (ps.zip us) fun _=>C') (QeH (s.heap.objs.size+1) scope.names []) (Qbb (Qar qual scope s.heap.objs.size f cd).kindOf (ps.zip us) fun _=>C') s1) :
  Inv (jQ CX P w K mg base N qual scope f cd A outer s H E) [] (start N vs) H s1:=by
 have cv:ps.length<=N.length:=by have:=QaC List.length S.pre;rw[UH] at this;lia
 obtain⟨h1,tk,rfl,hk⟩:=x.done;have oJ:∀ b:F',b∉(jQ CX P w K mg base N qual scope f cd A outer s H E).ex:=fun b z=>X4 (show b∈([]:List F') from z) (by simp)
 refine⟨⟨e0.mod,S.kind,O,O,Uv _,fun y z c h1 h2=>?_,fun y hy=>?_,fun y c _ h=>?_,e0.hd,Qf4 e0.frames,.inr ⟨O,O⟩,fun b z=>X4 z (oJ b),e0.bs,e0.bsz,fun b _ _=>oJ b,fun b z=>X4 z (oJ b),e0.ZO,e0.frf⟩,
  rfl,e0.bare,Un.kept hk,⟨_,x.toInCall.ns,fun i y v h1 h2 h3=>?_⟩,fun y c h=>⟨_,x.cell y c h⟩,e0.XU.fresh (Uv _),fun y c h=>?_,fun p hp=>X4 (show p∈([]:List (F'×X6)) from hp) (by simp),e0.XU.kept hk,?_⟩
 .exact name_of_addr x.apart (QaI h1) (QaI h2)
 .have hy:scope.names.lookup y=B' .cell\/scope.names.lookup y=B' .free:=hy
  rcases hy with hy|hy
  .exact HA hy
  .exact X4 O (S.Qh1 _ (QaI hy))
 .exact VE (x.above y c (QaI h))
 .have hi:i<vs.length:=by
   unfold start at h2;by_cases hi:i<vs.length
   .exact hi
   .rw[Ws (by simpa using hi)] at h2
    rw[Xc] at h2;split at h2<;>cases h2
  have ha:vs[i]?=B' v:=by
   unfold start at h2;rw[W2 (by simpa using hi),UJ] at h2;cases e:vs[i]? with
   | none=>rw[e] at h2;cases h2
   | some a=>rw[e] at h2;cases h2;rfl
  obtain⟨u,hu,rv⟩:=r.get ha;have hp:ps[i]?=B' y:=by
   rw[<- S.pre,List.getElem?_take_of_lt (by lia)];exact h1
  have EE:ps.Nodup:=by rw[<- S.pre];exact S.nd.sublist (XH _ _)
  refine⟨u,rv,?_⟩;rcases S.par y (UF hp) with k|k
  .exact .inl ⟨k,JD EE hp hu k⟩
  .obtain⟨c,e⟩:=HA (n:=s.heap.objs.size+1) k
   refine .inr ⟨.inl k,c,e,?_⟩;have q:=x.cell y c e;rw[GR EE hp hu (by show scope.names.lookup y≠_;rw[k];decide)] at q;exact q
 .exact e0.XU.fresh (VE (x.above y c (QaI h)))
 .unfold start
  show _=N.length;rw[UB,Us,Vu];lia
theorem Ci {K:V'}{k:Nat}{params:Qdj}{dV kV bO pm aD ct oc:L'}{an od:Option F'}
  {dM:Array (Option L')} (lk:K.lookup f=B' ⟨oc,od,.func (QaO name qual params body scope dV kV bO pm an aD ct),dM⟩) (gg:Qau K aD qual=D') (S:aX N ps scope)
  (len:∀ vs H Q E,sp vs H Q E->vs.length=ps.length)
  (dv:∀ (A:YT) (outer:List Za) (s:XT) (H:Hp) (vs:List V) (Q:VK) (E:XK),bn k (A.deeper (Qar qual scope s.heap.objs.size f aD))->sp vs H Q E ->
   ∃ t,Zo (jQ CX P w K mg base N qual scope f aD A outer s H E) body t/\t {nx:=fun _ H'=>Q .X1 H',rt:=Q} (start N vs) H) :
  cy P w K mg base CX (k+1) f (QaO name qual params body scope dV kV bO pm an aD ct) ps sp:=by
 refine⟨len,fun A outer s H args us vs Q E hr e0 hb r i9=>?_⟩;have hl:=len _ _ _ _ i9;have KX:K.In s.heap:=e0.mod.kin.keeps fun b o e=>(e0.bs b o e).1
 have lim:s.heap.NoLimit:=e0.mod.nolimit.keeps fun b o e=>(e0.bs b o e).1
 have bu:∀ y∈ps.zip us,scope.names.lookup y.1=B' .local\/(scope.names.lookup y.1=B' .cell/\((QeH (s.heap.objs.size+1) scope.names []).lookup y.1).isSome=D'):=fun⟨n,v⟩ hy=>by
  rcases S.par n (Xe hy).1 with q|q
  .exact .inl q
  .exact .inr ⟨q,QfR _ _ _ (.inl q)⟩
 refine codeAny_call_function hr.depth (KX _ _ lk) O S.co S.gen O (PySem.W.codeRec_of KX gg) (hb _ _ _ _ ?_);refine wpAny_newFunctionEnv_cells S.kind bu fun env he s1 x=>?_
 subst he;refine⟨lim.keeps x.toInCall.keep,codeAny_func ?_⟩;obtain⟨t,ht,hq⟩:=dv A outer s H vs Q E (hr.deeper _) i9;have I:Inv (jQ CX P w K mg base N qual scope f aD A outer s H E) [] (start N vs) H s1:=Od S e0 hl r x;refine Vg (ht [] s1 (start N vs) H _ I hq) (fun fl s' hs=>?_) fun e s' hs=>hs
 have aL:∀ {σ':St}{H':Hp}{v:V}{u:L'},Inv (jQ CX P w K mg base N qual scope f aD A outer s H E) [] σ' H' s'->aB v u->Q v H'->CE outer P w H s Q u s':=
  fun {σ' H' v u} J rv q=>⟨v,H',J.os,J.bare,J.base,J.XU,rv,q⟩
 cases fl with
 | ret u=>
  obtain⟨v,σ',H',J,rv,q⟩:=hs;exact aL J rv q
 | next=>
  obtain⟨σ',H',J,q⟩:=hs;exact aL (v:=V.X1) (u:=Yw) J O q
 | brk=>
  obtain⟨_,_,_,q⟩:=hs;exact Zm q
 | cont=>
  obtain⟨_,_,_,q⟩:=hs;exact Zm q
section
variable {p:YA}{id T:String}{r:List V->Hp->VK->Prop}
def tCB (r:List V->Hp->VK->Prop) (t:TA):TE:=fun σ H Q=>t σ H fun vs H1=>r vs H1 Q
theorem bM (hc:fR X (.builtin id) r) (hg:Gl X x) (hm:X.mg x=C') (hv:Zc x=B' (.builtin id)) (ha:PA X (e::es) t) (hn:x≠"__name__":=by decide) (YO:(x == ("__debug__":K'))=R':=by decide)
  (he:Yb (e::es) X.env=(R',X9 e X.env)::Yb es X.env:=by rfl) (cv:(Yy pos (Yb es X.env)).any (·.1)=R':=by rfl):PE X (.Call (.Name x p) (e::es) [] pos) (tCB r t):=by
 intro aa s σ H Q I h;refine Vl (iV I hg hm hv ?_ hn YO);exact Qlj (X3 (ha pos aa s σ H _ I h) fun us s1=>L2.Yc fun vs H1 I1 r1 q1=>hc aa s1 σ H1 vs us Q I1 r1 q1) he cv
theorem rh (hc:fR X (.type T) r) (hg:Gl X x) (hm:X.mg x=C') (hv:Zc x=B' (.type T)) (ha:PA X (e::es) t) (hn:x≠"__name__":=by decide) (YO:(x == ("__debug__":K'))=R':=by decide)
  (he:Yb (e::es) X.env=(R',X9 e X.env)::Yb es X.env:=by rfl) (cv:(Yy pos (Yb es X.env)).any (·.1)=R':=by rfl):PE X (.Call (.Name x p) (e::es) [] pos) (tCB r t):=by
 intro aa s σ H Q I h;refine Vl (iV I hg hm hv ?_ hn YO);exact Qa4 (X3 (ha pos aa s σ H _ I h) fun us s1=>L2.Yc fun vs H1 I1 r1 q1=>hc aa s1 σ H1 vs us Q I1 r1 q1) he cv
end
end L2
namespace HT
open PySem PyProof.Rows
section
open PySem.SeqAt
open PySem.AutoSeq1 (wpAny_loadPart')
open PySem.MeetsSeq PySem.MeetsSeq2 PySem.MeetsSeq3
end
section
variable {prog:YE}{w:YF}{A:YT}{E:L'->XT->Prop}{s:XT}
def Y7 (n d:Nat):Option Int->Nat
 | none=>d
 | some v=>if v<0 then(v+(n:Int)).toNat else min v.toNat n
theorem zma (n d:Nat):Y7 n d C'=d:=rfl
theorem zhv (n d k:Nat):Y7 n d (B' (k:Int))=min k n:=by
 show(if (k:Int)<0 then((k:Int)+(n:Int)).toNat else min (k:Int).toNat n)=min k n;rw[W' (by lia),Int.toNat_natCast]
end
end HT
namespace L2
variable {A:Around}{E Q:Value->Shared->Prop}{H H':Hp}{P prog:Program}{T id:String}{X:Cx}{a b p:Addr}{aa:List (Addr×Obj)}{ah its':List Value}{e value:Expr}{h':Heap}{i:Int}{kY:List (TE×TE)}{kvs:List (List Key×V)}{n t':Nat}{o:Option V}{pos:Pos}{s:Shared}{u v:Value}{w:World}{x y:V}{xs:List (List Key×Addr×Value)}{σ:St}
open PySem PySem.Spec PyProof.Rows
abbrev TO:=St->Hp->(Option Int->Hp->Prop)->Prop
def PO (X:Cx) (e:Option X') (t:TO):Prop:=
 ∀ (aa:List (F'×X6)) (s:XT) (σ:St) (H:Hp) (Q:Option Int->Hp->Prop),Inv X aa σ H s->t σ H Q ->
  N' (XS X.prog X.w) X.A (evalPart e X.env) (fun u s'=>∃ o H',Inv X aa σ H' s'/\IsPart u o/\Q o H') X.xe s
def Te:TO:=fun _ H Q=>Q C' H
def Qh2 (t:TE):TO:=fun σ H Q=>t σ H fun x H1=>∃ i,x=.int i/\Q (B' i) H1
section
variable {te:TE}{lo hi:Option X'}{tl th:TO}{p2:YA}
theorem Re:PO X C' Te:=by
 intro aa s σ H Q I h;rw[evalPart_none];exact Uu ⟨C',H,I,.none,h⟩
theorem Cr (h:PE X e te):PO X (B' e) (Qh2 te):=by
 intro aa s σ H Q I hw;rw[evalPart_some];refine X3 (h aa s σ H _ I hw) fun u s1=>L2.Yc fun x H1 I1 r1 q1=>?_
 obtain⟨i,rfl,q⟩:=q1;obtain⟨t,rfl⟩:=r1;exact⟨B' i,H1,I1,.int i t,q⟩
def SlR (X:Cx) (r:V->Option Int->Option Int->Hp->VK->Prop):Prop:=
 ∀ (aa:List (F'×X6)) (s:XT) (σ:St) (H:Hp) (x:V) (v vl vu:L') (lo hi:Option Int) (sl:F') (Q:VK),Inv X aa σ H s->aB x v->s.heap.IsSliceOf sl vl vu .none->IsPart vl lo->IsPart vu hi->r x lo hi H Q ->
  ∃ T id,Qap (.type T) "__getitem__"=pure (B' (.builtin id))/\s.TypeIs v T/\N' (XS X.prog X.w) X.A (QbG v (.ref sl)) (EP X aa σ Q) X.xe s
def tSl (r:V->Option Int->Option Int->Hp->VK->Prop) (te:TE) (tl th:TO):TE:=fun σ H Q=>te σ H fun x H1=>tl σ H1 fun l H2=>th σ H2 fun u H3=>r x l u H3 Q
theorem GY {r:V->Option Int->Option Int->Hp->VK->Prop} (hr:SlR X r) (he:PE X e te) (hl:PO X lo tl) (hu:PO X hi th):PE X (.Subscript e (.Slice lo hi C' p2) pos) (tSl r te tl th):=by
 intro aa s σ H Q I h;refine QeF (X3 (he aa s σ H _ I h) fun v s1=>L2.Yc fun x H1 I1 r1 q1=>?_);refine wpAny_Slice (X3 (hl aa s1 σ H1 _ I1 q1) fun vl s2 ⟨l,H2,I2,pl,q2⟩=>X3 (hu aa s2 σ H2 _ I2 q2) fun vu s3=>L2.Yc fun u H3 I3 pu q3=>?_);rw[evalPart_none];refine Uu ?_;have I4:Inv X aa σ H3 {s3 with heap:=s3.heap.push {cls:=.type "slice",data:=.fields #[vl,vu,.none]} }:=I3.kept (t':=s3.toks) fun b ob q=>Ut _ q
 obtain⟨T,id,hT,ht,hg⟩:=hr aa {s3 with heap:=s3.heap.push {cls:=.type "slice",data:=.fields #[vl,vu,.none]} } σ H3 x v vl vu l u s3.heap.objs.size Q I4 r1 (QkR ..) pl pu q3;show N' (XS X.prog X.w) X.A (Qez e (.Slice lo hi C' p2) v (.ref s3.heap.objs.size)) (EP X aa σ Q) X.xe {s3 with heap:=s3.heap.push {cls:=.type "slice",data:=.fields #[vl,vu,.none]} };exact tail_any (ops:=[.ref s3.heap.objs.size,v]) ht hT hg (by with_unfolding_all rfl)
def iU (xs:List V) (lo hi:Option Int):List V:=(xs.drop (HT.Y7 xs.length 0 lo)).take (HT.Y7 xs.length xs.length hi-HT.Y7 xs.length 0 lo)
theorem Pw (xs:List V) (lo hi:Option Int):(iU xs lo hi).length<=xs.length:=by
 unfold iU;rw[UH,WF];exact Nat.le_trans (Nat.min_le_right _ _) (Nat.sub_le _ _)
end
def ixN (n:Nat) (i:Int):Option Nat:=if 0<=i then(if i<n then B' i.toNat else C') else if -(n:Int)<=i then B' (i+n).toNat else C'
def YU {α:Type} (xs:List α) (i:Int):Option α:=(ixN xs.length i).bind fun j=>xs[j]?
theorem Gy {j:Nat} (h:ixN n i=B' j):Qcm i n=B' j/\j<n/\-(n:Int)<=i/\i<n:=by
 unfold ixN at h;by_cases h0:0<=i
 .rw[XR h0] at h
  by_cases h1:i<n
  .rw[XR h1] at h
   have e:i.toNat=j:=YB h;exact⟨by rw[QeD h0 h1,e],by lia,by lia,h1⟩
  .rw[W' h1] at h;cases h
 .rw[W' h0] at h
  by_cases h1:-(n:Int)<=i
  .rw[XR h1] at h
   have e:(i+n).toNat=j:=YB h;exact⟨by rw[QeC (by lia) h1,e],by lia,h1,by lia⟩
  .rw[W' h1] at h;cases h
theorem Gi {α:Type}{xs:List α}{v:α} (h:YU xs i=B' v):∃ j,Qcm i xs.length=B' j/\xs[j]?=B' v/\j<xs.length/\-(xs.length:Int)<=i/\i<xs.length:=by
 unfold YU at h;cases e:ixN xs.length i with
 | none=>rw[e] at h;cases h
 | some j=>
  rw[e] at h;obtain⟨h1,h2,h3,h4⟩:=Gy e;exact⟨j,h1,h,h2,h3,h4⟩
def Ql (b:X'):Prop:=∀ o i,Qde b R' o i=operate [o,i] (QbG o i)
def IxR (X:Cx) (r:R2):Prop:=
 ∀ (value slice:X') (aa:List (F'×X6)) (s:XT) (σ:St) (H:Hp) (x y:V) (v u:L') (Q:VK),Inv X aa σ H s->aB x v->aB y u->r x y H Q ->
  Qde slice R' v u=operate [v,u] (QbG v u)->N' (XS X.prog X.w) X.A (Qez value slice v u) (EP X aa σ Q) X.xe s
def MtR (X:Cx) (id:String) (r:V->List V->Hp->VK->Prop):Prop:=
 ∀ (aa:List (F'×X6)) (s:XT) (σ:St) (H:Hp) (x:V) (xs:List V) (v:L') (us:List L') (Q:VK),Inv X aa σ H s->aB x v->aC xs us->r x xs H Q ->
  N' (XS X.prog X.w) X.A (call (.builtin id) (v::us)) (EP X aa σ Q) X.xe s
section
variable {a b:X'}{ta tb:TE}
theorem aG {r:R2} (hr:IxR X r) (ha:PE X a ta) (hb:PE X b tb) (hs:Ql b):PE X (.Subscript a b pos) (tOp r ta tb):=by
 intro aa s σ H Q I h;exact QeF (Qdt ha hb I h fun v u s2 x y H2 I2 rx ry q=>hr a b aa s2 σ H2 x y v u Q I2 rx ry q (hs _ _))
def QeV (K:V'):R2:=fun x y H Q=>∃ p xs i v,x=.ref p/\y=.int i/\M' K H p xs/\YU xs i=B' v/\Q v H
def Qdv (K:V'):R2:=fun x y H Q=>∃ p xs i v,x=.ref p/\y=.int i/\Ya K H p xs/\YU xs i=B' v/\Q v H
theorem aT:IxR X (QeV X.K):=by
 intro value slice aa s σ H x y v u Q I rx ry h hs;obtain⟨p,xs,i,z,rfl,rfl,hq,he,q⟩:=h;cases rx
 obtain⟨t,rfl⟩:=ry;obtain⟨ah,r,pl,hz⟩:=I.list hq;obtain⟨j,h1,h2,h3,h4,h5⟩:=Gi he;obtain⟨w,ew,dI⟩:=r.get h2;have hl:=r.length;have hn:=qj;have aL:EP X aa σ Q w s:=⟨z,H,I,dI,q⟩;by_cases h0:0<=i
 .have hj:i.toNat=j:=by
   rw[QeD h0 h5] at h1;exact YB h1
  exact item_listR pl.isList h0 (by lia) (by rw[hj];simpa using ew) aL hs
 .have hj:(i+(ah.toArray.size:Int)).toNat=j:=by
   rw[QeC (by lia) h4] at h1;rw[UK,<- hl];exact YB h1
  exact Qgm (x:=w) pl.isList.typeIs QgS.lookup
   (wpAny_getItem_list_neg (Q:=fun r s'=>r=w/\EP X aa σ Q r s') pl.isList (by lia) (by rw[UK]<;>lia) (by lia) (by rw[hj];simpa using ew) ⟨O,aL⟩) hs
theorem ff:IxR X (Qdv X.K):=by
 intro value slice aa s σ H x y v u Q I rx ry h hs;obtain⟨p,xs,i,z,rfl,rfl,hq,he,q⟩:=h;cases rx
 obtain⟨t,rfl⟩:=ry;obtain⟨ah,r,pl,hz⟩:=I.tuple hq;obtain⟨j,h1,h2,h3,h4,h5⟩:=Gi he;obtain⟨w,ew,dI⟩:=r.get h2;have hl:=r.length;have hn:=qj;have aL:EP X aa σ Q w s:=⟨z,H,I,dI,q⟩;exact Qgm (x:=w) pl.typeIs slot_tuple_getitem.lookup
  (getItem_tuple (j:=j) (Q:=fun r s'=>r=w/\EP X aa σ Q r s') pl (by lia) (by lia) (by rw[UK,<- hl];exact h1) (by simpa using ew) ⟨O,aL⟩) hs
theorem Pn (ah:List L') (n j:Nat) (u:L'):Zd (·.setIfInBounds j u) {cls:=.type "list",data:=.seq ah.toArray n}={cls:=.type "list",data:=.seq (ah.set j u).toArray n}:=by
 simp[Zd]
theorem Inv.lst {aa:List (F'×X6)}{σ:St}{H:Hp}{s:XT}{p:F'}{xs:List V} (I:Inv X aa σ H s) (h:H p=B' (.lst xs)) :
  ∃ (ah:List L') (n:Nat),aC xs ah/\s.heap.get? p=B' {cls:=.type "list",data:=.seq ah.toArray n}/\xs.length<=XX:=by
 obtain⟨z,ah,n,r,e⟩:=I.XU p _ h;exact⟨ah,n,r,e,z⟩
theorem Inv.Qh3 {xs ys:List V}{n':Nat}{f:X6->X6} (I:Inv X aa σ H s) (h:H p=B' (.lst xs))
  (ho:s.heap.get? p=B' {cls:=.type "list",data:=.seq ah.toArray n}) (hf:f {cls:=.type "list",data:=.seq ah.toArray n}={cls:=.type "list",data:=.seq its'.toArray n'}) (r:aC ys its') (hz:ys.length<=XX) (t:Nat) :
  Inv X aa σ (upd H p (.lst ys)) {s with heap:=s.heap.update p f,toks:=t}:=by
 have e:(s.heap.update p f).get? p=B' {cls:=.type "list",data:=.seq its'.toArray n'}:=by
  rw[U4 f ho (by rw[hf]<;>rfl),hf]
 refine I.write (x:=p) (e:=p) (by rw[h];trivial) (.inl rfl) (fun b u hb q=>(UP _ _ (XW hb)).trans q) ⟨_,e⟩ ?_;exact⟨hz,its',n',r,e⟩
def Qh4:V->V->V->Hp->(Hp->Prop)->Prop:=fun o i v H Q=>∃ p xs k j,o=.ref p/\i=.int k/\H p=B' (.lst xs)/\ixN xs.length k=B' j/\Q (upd H p (.lst (xs.set j v)))
theorem qi:QeM X Qh4:=by
 intro aa s σ H o i v ov iv u Q I ro ri rv h;obtain⟨p,xs,k,j,rfl,rfl,hp,hj,q⟩:=h;cases ro
 obtain⟨t,rfl⟩:=ri;obtain⟨ah,n,r,ho,hz⟩:=I.lst hp;obtain⟨h1,h2,h3,h4⟩:=Gy hj;have hl:=r.length;have hn:=qj;have I':Inv X aa σ (upd H p (.lst (xs.set j v))) {s with heap:=s.heap.update p (Zd (·.setIfInBounds j u))}:=
  I.Qh3 hp ho (Pn ah n j u) (r.set rv j) (by rw[Vo];exact hz) s.toks
 by_cases h0:0<=k
 .have hk:k.toNat=j:=by
   rw[QeD h0 h4] at h1;exact YB h1
  exact PySem.W.ki_setAt ho h0 (by lia) (by rw[UK,<- hl];exact h4) (by rw[hk];exact⟨_,I',q⟩)
 .have hk:(k+(ah.toArray.size:Int)).toNat=j:=by
   rw[QeC (by lia) h3] at h1;rw[UK,<- hl];exact YB h1
  exact PySem.W.ki_setBack ho (by lia) (by rw[UK,<- hl];exact h3) (by lia) (by rw[hk];exact⟨_,I',q⟩)
theorem PP (lo hi:Option Int) (n:Nat):(Qbw lo hi C' n).1=((HT.Y7 n 0 lo:Nat):Int)/\(Qbw lo hi C' n).2.1=((HT.Y7 n n hi:Nat):Int)/\(Qbw lo hi C' n).2.2=1:=by
 refine⟨?_,?_,O⟩
 .cases lo with
  | none=>simp[Qbw,HT.Y7]
  | some i=>
   simp only[Qbw,HT.Y7,Qgh,show(1:Int) > 0 by decide,ZY]
   by_cases h:i<0
   .simp only[h,ZY]<;>lia
   .simp only[h,Y3]<;>lia
 .cases hi with
  | none=>simp[Qbw,HT.Y7]
  | some i=>
   simp only[Qbw,HT.Y7,Qgh,show(1:Int) > 0 by decide,ZY]
   by_cases h:i<0
   .simp only[h,ZY]<;>lia
   .simp only[h,Y3]<;>lia
theorem Su (ah:List L') (lo hi:Option Int):slicePick ah.toArray lo hi C'=((ah.drop (HT.Y7 ah.length 0 lo)).take (HT.Y7 ah.length ah.length hi-HT.Y7 ah.length 0 lo)).toArray:=by
 obtain⟨h1,h2,h3⟩:=PP lo hi ah.toArray.size;unfold slicePick;rw[h1,h2,h3];simp only[sliceRange_one,pick_run,UK]<;>rfl
def Qh5 (K:V'):V->Option Int->Option Int->Hp->VK->Prop:=fun x lo hi H Q=>∃ a xs,x=.ref a/\M' K H a xs/\∀ p,H p=C'->Q (.ref p) (upd H p (.lst (iU xs lo hi)))
theorem Hl:SlR X (Qh5 X.K):=by
 intro aa s σ H x v vl vu lo hi sl Q I rx hs pl pu h;obtain⟨a,xs,rfl,hx,q⟩:=h;cases rx
 obtain⟨ah,r,ht,hz⟩:=I.list hx;have aw:=r.length;refine⟨"list",_,QgS.lookup,ht.isList.typeIs,?_⟩;refine wpAny_getItem_list_slice ht.isList hs pl pu .none (by simp) ?_ (by rw[UK]<;>lia);rw[Su,<- aw];refine⟨.ref s.heap.objs.size,_,I.laid (t':=s.toks) (o:=.lst (iU xs lo hi)) (fun b ob q=>Ut _ q) (Uv _) ?_,O,q _ (I.XU.fresh (Uv _))⟩;exact⟨U5 (Pw xs lo hi) hz,_,0,(r.drop (HT.Y7 xs.length 0 lo)).take (HT.Y7 xs.length xs.length hi-HT.Y7 xs.length 0 lo),UA _ O⟩
def jk:V->Bool
 | .X1=>D'
 | .bl _=>D'
 | .int _=>D'
 | .str _=>D'
 | _=>R'
def Z0:V->V->Bool
 | .X1,.X1=>D'
 | .bl a,.bl b=>a == b
 | .bl a,.int b=>(if a then 1 else 0) == b
 | .int a,.bl b=>a == (if b then 1 else 0)
 | .int a,.int b=>a == b
 | .str a,.str b=>a == b
 | _,_=>R'
theorem fV (ry:aB y u) (rx:aB x v) (fy:jk y=D') (fx:jk x=D'):SeqAt.EqAt A s u v (Z0 y x):=by
 cases y with
 | X1=>
  cases ry
  cases x with
  | X1=>cases rx;exact Qdg _
  | bl b=>cases rx;exact Qlq b
  | int b=>obtain⟨t,rfl⟩:=rx;exact Qlp b t
  | str b=>obtain⟨t,rfl⟩:=rx;exact Qlo b t
  | _=>exact X4 (show R'=D' from fx) UL
 | bl a=>
  cases ry
  cases x with
  | X1=>cases rx;exact Qlv a
  | bl b=>cases rx;exact Qlx a b
  | int b=>obtain⟨t,rfl⟩:=rx;exact Qlw a b t
  | str b=>obtain⟨t,rfl⟩:=rx;exact Qlu a b t
  | _=>exact X4 (show R'=D' from fx) UL
 | int a=>
  obtain⟨t',rfl⟩:=ry;cases x with
  | X1=>cases rx;exact Qlr a t'
  | bl b=>cases rx;exact Qlt a t' b
  | int b=>obtain⟨t,rfl⟩:=rx;exact Qls a t' b t
  | str b=>obtain⟨t,rfl⟩:=rx;exact QfW a t' b t
  | _=>exact X4 (show R'=D' from fx) UL
 | str a=>
  obtain⟨t',rfl⟩:=ry;cases x with
  | X1=>cases rx;exact Qlm a t'
  | bl b=>cases rx;exact Qln a t' b
  | int b=>obtain⟨t,rfl⟩:=rx;exact QfV a t' b t
  | str b=>obtain⟨t,rfl⟩:=rx;exact Qll a t' b t
  | _=>exact X4 (show R'=D' from fx) UL
 | _=>exact X4 (show R'=D' from fy) UL
def ZT (x:V) (u:L'):Bool:=match u with
 | .none=>Z0 .X1 x
 | .bool b=>Z0 (.bl b) x
 | .int i _=>Z0 (.int i) x
 | .str z _=>Z0 (.str z) x
 | _=>R'
theorem Ir (r:aB y u) (f:jk y=D'):ZT x u=Z0 y x:=by
 cases y with
 | X1=>cases r;rfl
 | bl b=>cases r;rfl
 | int i=>obtain⟨t,rfl⟩:=r;rfl
 | str z=>obtain⟨t,rfl⟩:=r;rfl
 | _=>exact X4 (show R'=D' from f) UL
theorem vd {x:V}:∀ {xs:List V}{us:List L'},aC xs us->xs.all jk=D'->us.any (ZT x)=xs.any fun y=>Z0 y x
 | _,_,.nil,_=>rfl
 | y::xs,u::us,.cons r t,f=>by
  rw[WE,UU] at f;rw[V1,V1,Ir r f.1,vd t f.2]
theorem vo {A:YT}{s:XT}{x:V}{v:L'} (rx:aB x v) (fx:jk x=D'):∀ {xs:List V}{us:List L'},aC xs us->xs.all jk=D'->∀ u∈us,SeqAt.EqAt A s u v (ZT x u)
 | _,_,.nil,_=>fun u hu=>by cases hu
 | y::xs,u::us,.cons r t,f=>fun u' hu=>by
  rw[WE,UU] at f;rcases U1.mp hu with rfl|hu
  .rw[Ir r f.1];exact fV r rx f.1 fx
  .exact vo rx fx t f.2 u' hu
def inV (x:V) (xs:List V):Bool:=xs.any fun y=>Z0 y x
def rIn (K:V') (lW:Bool):R2:=fun x y H Q=>∃ p xs,y=.ref p/\(M' K H p xs\/Ya K H p xs)/\jk x=D'/\xs.all jk=D'/\Q (.bl (if lW then !inV x xs else inV x xs)) H
theorem PF:YN X (Zr .In) (rIn X.K R'):=by
 intro aa s σ H x y v u Q I rx ry h;obtain⟨p,xs,rfl,hq,fx,fs,q⟩:=h;cases ry
 rcases hq with hq|hq
 .obtain⟨ah,r,pl,hz⟩:=I.list hq
  refine SeqAt.in_listAt (ZT x) pl.isList (fun w hw=>vo rx fx r fs w (by simpa using hw)) ⟨.bl _,H,I,O,?_⟩;rw[show ah.toArray.any (ZT x)=ah.any (ZT x) by simp,vd r fs];exact q
 .obtain⟨ah,r,pl,hz⟩:=I.tuple hq
  refine SeqAt.in_tupleAt (ZT x) pl (fun w hw=>vo rx fx r fs w (by simpa using hw)) ⟨.bl _,H,I,O,?_⟩;rw[show ah.toArray.any (ZT x)=ah.any (ZT x) by simp,vd r fs];exact q
theorem Oz:YN X (Zr .NotIn) (rIn X.K D'):=by
 intro aa s σ H x y v u Q I rx ry h;obtain⟨p,xs,rfl,hq,fx,fs,q⟩:=h;cases ry
 rcases hq with hq|hq
 .obtain⟨ah,r,pl,hz⟩:=I.list hq
  refine Qgc (ZT x) pl.isList (fun w hw=>vo rx fx r fs w (by simpa using hw)) ⟨.bl _,H,I,O,?_⟩;rw[show ah.toArray.any (ZT x)=ah.any (ZT x) by simp,vd r fs];exact q
 .obtain⟨ah,r,pl,hz⟩:=I.tuple hq
  refine SeqAt.notIn_tupleAt (ZT x) pl (fun w hw=>vo rx fx r fs w (by simpa using hw)) ⟨.bl _,H,I,O,?_⟩;rw[show ah.toArray.any (ZT x)=ah.any (ZT x) by simp,vd r fs];exact q
theorem fW:fR X (.builtin "len") (fun xs H Q=>∃ p ys,xs=[.ref p]/\(M' X.K H p ys\/Ya X.K H p ys)/\Q (.int ys.length) H):=by
 intro aa s σ H xs us Q I r h;obtain⟨p,ys,rfl,hq,q⟩:=h;obtain⟨u,rfl,rx⟩:=gv r;cases rx
 have hn:=qj;rcases hq with hq|hq
 .obtain⟨ah,r',pl,hz⟩:=I.list hq
  have aw:=r'.length;exact Calls.call_len_list pl.isList (by simp only[UK]<;>lia) ⟨.int ys.length,H,I.tok _,⟨s.toks+1,by rw[UK,aw]⟩,q⟩
 .obtain⟨ah,r',pl,hz⟩:=I.tuple hq
  have aw:=r'.length;exact len_tuple pl (by simp only[UK]<;>lia) ⟨.int ys.length,H,I.tok _,⟨s.toks+1,by rw[UK,aw]⟩,q⟩
theorem Jm:fR X (.builtin "len") (fun xs H Q=>∃ z,xs=[.str z]/\z.length<=XX/\Q (.int z.length) H):=by
 intro aa s σ H xs us Q I r h;obtain⟨z,rfl,hz,q⟩:=h;obtain⟨u,rfl,t,rfl⟩:=gv r;have hn:=qj;exact len_str (by lia) ⟨.int z.length,H,I.tok _,⟨_,O⟩,q⟩
theorem Hw:fR X (.type "list") (fun xs H Q=>∃ p ys,xs=[.ref p]/\(M' X.K H p ys\/Ya X.K H p ys)/\∀ l,H l=C'->Q (.ref l) (upd H l (.lst ys))):=by
 intro aa s σ H xs us Q I r h;obtain⟨p,ys,rfl,hq,q⟩:=h;obtain⟨u,rfl,rx⟩:=gv r;cases rx
 have aL:∀ (ah:List L'),aC ys ah->ys.length<=XX->∀ (h':Yg) (c':Nat),(∀ b o',s.heap.get? b=B' o'->h'.get? b=B' o') ->
   h'.get? s.heap.objs.size=B' {cls:=.type "list",dict:=C',data:=.seq ah.toArray c',slots:=#[]}->EP X aa σ Q (.ref s.heap.objs.size) {s with heap:=h'}:=fun ah r' hz h' c' kp e=>
  ⟨.ref s.heap.objs.size,_,I.laid (t':=s.toks) kp (Uv _) (show cO X.prog X.w _ h' _ (.lst ys) from⟨hz,ah,c',r',e⟩),O,q _ (I.XU.fresh (Uv _))⟩
 rcases hq with hq|hq
 .obtain⟨ah,r',pl,hz⟩:=I.list hq
  have aw:=r'.length;obtain⟨o,ho,hc,n,hd⟩:=pl.isList;exact call_list_seq p (.inl O) ho hc hd (fun h' c' kp e=>aL ah r' hz h' c' kp e) (by simp only[UK]<;>lia)
 .obtain⟨ah,r',pl,hz⟩:=I.tuple hq
  have aw:=r'.length;obtain⟨o,ho,hc,n,hd⟩:=pl;exact call_list_seq p (.inr O) ho hc hd (fun h' c' kp e=>aL ah r' hz h' c' kp e) (by simp only[UK]<;>lia)
def tyV (K:V') (T:String) (x:V) (H:Hp):Prop:=match x with
 | .str _=>T="str"
 | .int _=>T="int"
 | .ref p=>(T="list"/\∃ xs,M' K H p xs)\/(T="tuple"/\∃ o,K.lookup p=B' o/\o.cls=.type "tuple"/\o.dict=C') \/
   (T="dict"/\((∃ kvs,H p=B' (.dK kvs))\/∃ kvs,H p=B' (.dT kvs)))\/(T="set"/\∃ S n,H p=B' (.set S n))
 | _=>False
theorem GJ (I:Inv X aa σ H s) (r:aB x v) (ty:tyV X.K T x H) :
  s.TypeIs v T/\∀ a,v=.ref a->∃ ob,s.heap.get? a=B' ob/\ob.dict=C':=by
 cases x with
 | str z=>
  obtain⟨t,rfl⟩:=r;cases (show T="str" from ty)
  exact⟨typeIs_str s z t,fun _ e=>nomatch e⟩
 | int i=>
  obtain⟨t,rfl⟩:=r;cases (show T="int" from ty)
  exact⟨QeE s i t,fun _ e=>nomatch e⟩
 | ref p=>
  cases r
  rcases ty with⟨rfl,xs,hq⟩|⟨rfl,o,hk,hc,hd⟩|⟨rfl,hk⟩|⟨rfl,S,n,hk⟩
  .obtain⟨ah,_,pl,_⟩:=I.list hq
   refine⟨pl.isList.typeIs,fun a e=>?_⟩;cases e
   obtain⟨o,n,e,c,hd,_⟩:=pl;exact⟨o,e,hd⟩
  .refine⟨⟨o,I.Yq p o hk,hc⟩,fun a e=>?_⟩
   cases e
   exact⟨o,I.Yq _ o hk,hd⟩
  .have z:∃ o,s.heap.get? p=B' o/\o.ExactDict:=by
    rcases hk with⟨kvs,hk⟩|⟨kvs,hk⟩
    .obtain⟨_,_,_,_,o,_,_,e,ex,_⟩:=I.XU p _ hk
     exact⟨o,e,ex⟩
    .obtain⟨_,_,_,_,o,_,_,e,ex,_⟩:=I.XU p _ hk
     exact⟨o,e,ex⟩
   obtain⟨o,e,ex⟩:=z;refine⟨⟨o,e,ex.1⟩,fun a e2=>?_⟩;cases e2
   exact⟨o,e,ex.2.1⟩
  .obtain⟨o,_,_,_,e,ex,_⟩:=I.XU p _ hk
   refine⟨⟨o,e,ex.1⟩,fun a e2=>?_⟩;cases e2
   exact⟨o,e,ex.2.1⟩
 | _=>exact Zm ty
def Qh6 (K:V') (T:String) (r:V->List V->Hp->VK->Prop) (to:TE):TE:=fun σ H Q=>to σ H fun x H1=>tyV K T x H1/\r x [] H1 Q
def tBM (K:V') (T:String) (r:V->List V->Hp->VK->Prop) (to:TE) (t:TA):TE:=fun σ H Q=>to σ H fun x H1=>tyV K T x H1/\t σ H1 fun xs H2=>r x xs H2 Q
variable {o:X'}{es:List X'}{to:TE}{t:TA}{name:K'}{aP aI:YA}{r:V->List V->Hp->VK->Prop}
theorem C3 (pa:PlainAttrs T) (slot:Slot T name id) (zB:typeOf (.builtin id)=pure (.type "method_descriptor")) (hm:MtR X id r) (ho:PE X o to)
  (jL:Qbs o name X.env (X9 o X.env)=X9 o X.env:=by rfl) (jM:(aP.endLine == aI.line)=D':=by rfl):PE X (.Call (.Attribute o name aP) [] [] aI) (Qh6 X.K T r to):=by
 intro aa s σ H Q I h;refine wpAny_Call_method0_late jL jM (X3 (ho aa s σ H _ I h) fun v s1=>L2.Yc fun x H1 I1 r1 a8=>?_);obtain⟨ty,q1⟩:=a8;obtain⟨h1,h2⟩:=GJ I1 r1 ty;exact⟨T,id,pa,slot,zB,h1,h2,Qcj O (PySem.evalArgs_none (hm aa s1 σ H1 x [] v [] Q I1 r1 .nil q1))⟩
theorem c7 (pa:PlainAttrs T) (slot:Slot T name id) (zB:typeOf (.builtin id)=pure (.type "method_descriptor")) (hm:MtR X id r) (ho:PE X o to) (ha:PA X (e::es) t)
  (jL:Qbs o name X.env (X9 o X.env)=X9 o X.env:=by rfl)
  (yV:((Yy aI (Yb (e::es) X.env)).all (fun x=>!x.1) && (ZC aI (Zz [] X.env)).all (fun x=>x.1.isSome)
   && decide ((e::es).length+([]:List QbI).length+(if ([]:List QbI).isEmpty then 0 else 1)<30))=D':=by rfl)
  (jM:(aP.endLine == aI.line)=D':=by rfl) (hs:Yb (e::es) X.env=(R',X9 e X.env)::Yb es X.env:=by rfl) (pB:(Yy aI (Yb es X.env)).any (·.1)=R':=by rfl) :
  PE X (.Call (.Attribute o name aP) (e::es) [] aI) (tBM X.K T r to t):=by
 intro aa s σ H Q I h;refine wpAny_Call_method_late jL yV jM O (X3 (ho aa s σ H _ I h) fun v s1=>L2.Yc fun x H1 I1 r1 a8=>?_);obtain⟨ty,q1⟩:=a8;obtain⟨h1,h2⟩:=GJ I1 r1 ty;refine⟨T,id,pa,slot,zB,h1,h2,?_⟩;have hA:=ha aI aa s1 σ H1 _ I1 q1;rw[hs] at hA ⊢;refine Qcj (by show(R' || (Yy aI (Yb es X.env)).any (·.1))=R';rw[pB]<;>rfl) (QcX ?_);exact X3 hA fun us s2=>L2.Yc fun vs H2 I2 r2 q2=>hm aa s2 σ H2 x vs v us Q I2 r1 r2 q2
end
def MtM (X:Cx) (id:String) (r:V->List V->Hp->VK->Prop):Prop:=
 ∀ (aa:List (F'×X6)) (s:XT) (σ:St) (H:Hp) (x:V) (xs:List V) (v:L') (us:List L') (Q:VK),Inv X aa σ H s->aB x v->aC xs us->r x xs H Q ->
  N' (XS X.prog X.w) X.A (call (.builtin id) (v::us)) (EP X aa σ Q) X.xe s
theorem aC.one:∀ {x:V}{us:List L'},aC [x] us->∃ u,us=[u]/\aB x u
 | _,_,.cons r .nil=>⟨_,O,r⟩
theorem aC.zero:∀ {us:List L'},aC [] us->us=[]
 | _,.nil=>rfl
theorem aC.eraseIdx:∀ {xs:List V}{us:List L'} (i:Nat),aC xs us->aC (xs.eraseIdx i) (us.eraseIdx i)
 | _,_,_,.nil=>.nil
 | _,_,0,.cons _ t=>t
 | _,_,i+1,.cons r t=>.cons r (aC.eraseIdx i t)
theorem aC.rep {xs:List V}{us:List L'} (h:aC xs us):∀ k:Nat,aC (X8 k xs).flatten (X8 k us).flatten
 | 0=>.nil
 | k+1=>by
  rw[VR,VR,Wh,Wh];exact aC.append h (aC.rep h k)
theorem IC {α:Type}:∀ (l:List α) (i:Nat),(l.eraseIdx i).length<=l.length
 | [],_=>Uv _
 | _::_,0=>Vm _
 | _::r,i+1=>V5 (IC r i)
theorem HS (ah:List L'):∀ (k:Nat) (acc:List L'),
  QeB (fun x1 x2=>x1++x2) acc.toArray (X8 k ah.toArray)=(acc++(X8 k ah).flatten).toArray
 | 0,acc=>by simp
 | k+1,acc=>by
  have e:acc.toArray++ah.toArray=(acc++ah).toArray:=by simp
  have e2:(acc++ah)++(X8 k ah).flatten=acc++(X8 (k+1) ah).flatten:=by
   rw[VR,Wh,Vp]
  rw[<- e2,<- HS ah k (acc++ah),<- e,VR,List.foldl_cons]
section
variable {l:F'}{xs ys zs:List V}
theorem Inv.Qb7 {f:Array L'->Array L'} (I:Inv X aa σ H s) (hH:H l=B' (.lst xs))
  (e:s.heap.get? l=B' {cls:=.type "list",data:=.seq ah.toArray n}) (hf:f ah.toArray=its'.toArray) (hv:aC ys its') (hz:ys.length<=XX) :
  Inv X aa σ (upd H l (.lst ys)) {s with heap:=s.heap.update l (Zd f),toks:=t'}:=by
 have q:=PySem.IsL.update e f;rw[hf] at q;refine I.write (x:=l) (e:=l) (by rw[hH];exact trivial) (.inl O) (fun b' u hb hu=>(UP s.heap (Zd f) (XW hb)).trans hu) ⟨_,q⟩ ?_;exact⟨hz,its',_,hv,q⟩
theorem Inv.QeW (I:Inv X aa σ H s) (hv:aC ys ah) (hz:ys.length<=XX) :
  Inv X aa σ (upd H s.heap.objs.size (.lst ys)) {s with heap:=s.heap.push {cls:=.type "list",data:=.seq ah.toArray},toks:=t'}:=
 I.laid (fun _ _ q=>Ut _ q) (Uv _) ⟨hz,ah,0,hv,UA _ O⟩
theorem Inv.fresh (I:Inv X aa σ H s):H s.heap.objs.size=C':=I.XU.fresh (Uv _)
theorem Inv.QaF (I:Inv X aa σ H s) (hH:H l=B' (.lst xs)):xs.length<=XX/\∃ (ah:List L') (n:Nat),aC xs ah/\xs.length=ah.length/\s.heap.get? l=B' {cls:=.type "list",data:=.seq ah.toArray n}:=by
 obtain⟨z,ah,n,r,e⟩:=I.XU l _ hH;exact⟨z,ah,n,r,r.length,e⟩
theorem Gf (h:n<=XX):QcO n=R':=by
 unfold QcO;exact Ve (by lia)
end
def Qd:V->List V->Hp->VK->Prop:=fun x vs H Q=>∃ l xs y,x=.ref l/\vs=[y]/\H l=B' (.lst xs)/\xs.length<XX/\Q .X1 (upd H l (.lst (xs++[y])))
theorem ek:MtM X "list.append" Qd:=by
 intro aa s σ H x vs v us Q I rx rv h;obtain⟨l,xs,y,rfl,rfl,hH,hz,q⟩:=h;cases rx
 obtain⟨u,rfl,ru⟩:=rv.one;obtain⟨z,ah,n,r,hl,e⟩:=I.QaF hH;refine Qby Zl ⟨_,e,O⟩ F.entry_list_append (F.args_list_append_2 _ _) (PySem.list_append l ah.toArray n u (by rw[UK];lia)) ⟨e,?_⟩;refine⟨.X1,_,I.Qb7 (its':=ah++[u]) hH e (by simp) (r.append (.cons ru .nil)) ?_,O,q⟩;rw[UB,Wk];lia
def QA:V->List V->Hp->VK->Prop:=fun x vs H Q=>∃ l b xs zs,x=.ref l/\vs=[.ref b]/\H l=B' (.lst xs)/\H b=B' (.lst zs)/\xs.length+zs.length<=XX/\Q .X1 (upd H l (.lst (xs++zs)))
theorem Ce:MtM X "list.extend" QA:=by
 intro aa s σ H x vs v us Q I rx rv h;obtain⟨l,b,xs,zs,rfl,rfl,hH,hB,hz,q⟩:=h;cases rx
 obtain⟨u,rfl,ru⟩:=rv.one;cases ru
 obtain⟨z,ah,n,r,hl,e⟩:=I.QaF hH;obtain⟨z2,gU,n2,r2,bH,e2⟩:=I.QaF hB;have hsz:ah.toArray.size+gU.toArray.size<=XX:=by rw[UK,UK];lia
 have jC:¬ (!ah.toArray.isEmpty && QcO (ah.toArray.size+gU.toArray.size))=D':=by
  rw[Gf hsz,Bool.and_false];exact UL
 refine Qby QcZ ⟨_,e,O⟩ F.entry_list_extend (F.args_list_extend_2 _ _)
  (AutoSeq1.list_extend_list_list_0 l ah.toArray n b gU.toArray n2 jC (by rw[UK];lia) (by lia)) ⟨e,e2,?_⟩
 refine⟨.X1,_,I.Qb7 (its':=ah++gU) hH e (by simp) (r.append r2) ?_,O,q⟩;rw[UB];lia
def Qh7:V->List V->Hp->VK->Prop:=fun x vs H Q=>∃ l xs i k y,x=.ref l/\vs=[.int i]/\H l=B' (.lst xs)/\-(2 ^ 63)<=i/\i<2 ^ 63/\Qcm i xs.length=B' k/\xs[k]?=B' y/\Q y (upd H l (.lst (xs.eraseIdx k)))
theorem Si:MtM X "list.pop" Qh7:=by
 intro aa s σ H x vs v us Q I rx rv h;obtain⟨l,xs,i,k,y,rfl,rfl,hH,h1,h2,hk,hy,q⟩:=h;cases rx
 obtain⟨u,rfl,ru⟩:=rv.one;obtain⟨t,rfl⟩:=ru;obtain⟨z,ah,n,r,hl,e⟩:=I.QaF hH;obtain⟨w,hw,dI⟩:=r.get hy;refine Qby QgW ⟨_,e,O⟩ F.entry_list_pop (F.args_list_pop_2 _ _)
  (MeetsSeq.list_pop_at l ah.toArray n i t k w (Qhj h1 h2) (by rw[UK,<- hl];exact hk) (by rw[<- WG];exact hw) (by rw[UK];lia)) ⟨e,?_⟩
 refine⟨y,_,I.Qb7 (its':=ah.eraseIdx k) hH e ?_ (r.eraseIdx k) ?_,dI,q⟩
 .show ah.toArray.eraseIdxIfInBounds k=(ah.eraseIdx k).toArray
  rw[List.eraseIdxIfInBounds_toArray]
 .have:=IC xs k
  lia
def Qh8:V->List V->Hp->VK->Prop:=fun x vs H Q=>∃ l xs,x=.ref l/\vs=[]/\H l=B' (.lst xs)/\Q .X1 (upd H l (.lst []))
theorem QY:MtM X "list.clear" Qh8:=by
 intro aa s σ H x vs v us Q I rx rv h;obtain⟨l,xs,rfl,rfl,hH,q⟩:=h;cases rx
 have AB:=rv.zero;subst AB;obtain⟨z,ah,n,r,hl,e⟩:=I.QaF hH;refine Qby QgG ⟨_,e,O⟩ F.entry_list_clear (F.args_list_clear_1 _) (AutoSeq1.list_clear_list_0 l ah.toArray n (by rw[UK];lia)) ⟨e,?_⟩;exact⟨.X1,_,I.Qb7 (its':=[]) (ys:=[]) hH e O .nil (VJ _),O,q⟩
def Qh9:R2:=fun x y H Q=>∃ l b xs zs,x=.ref l/\y=.ref b/\H l=B' (.lst xs)/\H b=B' (.lst zs)/\xs.length+zs.length<=XX/\∀ p,H p=C'->Q (.ref p) (upd H p (.lst (xs++zs)))
theorem vG:YN X (QaA .Add) Qh9:=by
 intro aa s σ H x y v u Q I rx ry h;obtain⟨l,b,xs,zs,rfl,rfl,hH,hB,hz,q⟩:=h;cases rx
 cases ry
 obtain⟨z,ah,n,r,hl,e⟩:=I.QaF hH;obtain⟨z2,gU,n2,r2,bH,e2⟩:=I.QaF hB;refine PySem.P.add_list e e2 ?_ (by rw[UK,UK];lia);have ea:ah.toArray++gU.toArray=(ah++gU).toArray:=by simp
 rw[ea];exact⟨.ref _,_,I.QeW (t':=s.toks) (r.append r2) (by rw[UB];lia),O,q _ I.fresh⟩
def Qia:R2:=fun x y H Q=>∃ l k xs,x=.ref l/\y=.int k/\H l=B' (.lst xs)/\-(2 ^ 63)<=k/\k<2 ^ 63/\xs.length*k.toNat<=XX /\
 ∀ p,H p=C'->Q (.ref p) (upd H p (.lst (X8 k.toNat xs).flatten))
theorem Pf {α:Type} (xs:List α) (k:Nat):(X8 k xs).flatten.length=k*xs.length:=by
 induction k with
 | zero=>simp
 | succ k ih=>rw[VR,Wh,UB,ih,Qg7,Nat.add_comm]
theorem yo:YN X (QaA .Mult) Qia:=by
 intro aa s σ H x y v u Q I rx ry h;obtain⟨l,k,xs,rfl,rfl,hH,h1,h2,hz,q⟩:=h;cases rx
 obtain⟨t,rfl⟩:=ry;obtain⟨z,ah,n,r,hl,e⟩:=I.QaF hH;have aw:ah.toArray.size*k.toNat<=XX:=by rw[UK,<- hl];exact hz
 have fM:¬ ah.toArray.size*k.toNat > (2 ^ 63-1) / 8:=by
  have:(XX:Nat)<=(2 ^ 63-1) / 8:=by decide
  lia
 have yS:¬ (!QdU k)=D':=by
  rw[Qhj h1 h2];exact UL
 have jC:¬ QcO (ah.toArray.size*k.toNat)=D':=by
  rw[Gf aw];exact UL
 have cZ:QeB (fun x1 x2=>x1++x2) #[] (X8 (if ah.toArray.isEmpty=D' then 0 else k.toNat) ah.toArray)=(X8 k.toNat ah).flatten.toArray:=by
  have f0:∀ m:Nat,QeB (fun x1 x2=>x1++x2) #[] (X8 m ah.toArray)=(X8 m ah).flatten.toArray:=fun m=>by
   have:=HS ah m [];rw[Qgy] at this;exact this
  rw[f0];cases ah with
  | nil=>simp
  | cons a r'=>rw[W' (by simp)]
 refine wpAny_binaryOp_repeat_ref (T:="list") (U:="int") (by decide) ⟨_,e,O⟩ (fun s'=>QeE s' k t) noFill_list_mul F.fills_int_mul QgX repeat_list F.slot_int_index.lookup
  (Qby QgX (QeE s k t) F.entry_int_rmul (F.args_int_rmul_2 _ _) (int___rmul___int_list k t l ah.toArray n)
   ⟨e,rfl,⟨_,e,rfl⟩,Qby F.slot_list_mul ⟨_,e,rfl⟩ F.entry_list_mul (F.args_list_mul_2 _ _) (AutoListH.list___mul___list_int_3 l ah.toArray n k t yS fM jC) ⟨e,?_⟩⟩)
 rw[cZ];exact⟨.ref _,_,I.QeW (t':=s.toks) (r.rep k.toNat) (by rw[Pf,Nat.mul_comm];exact hz),O,q _ I.fresh⟩
section
variable {κ:Type} [DecidableEq κ]
def aU (kvs:List (κ×V)) (k:κ):Option V:=(kvs.find? fun kv=>decide (kv.1=k)).map (·.2)
def aO (kvs:List (κ×V)) (k:κ) (v:V):List (κ×V):=
 if (kvs.any fun kv=>decide (kv.1=k))=D' then kvs.map (fun kv=>if kv.1=k then(kv.1,v) else kv) else kvs++[(k,v)]
def d4 (kvs:List (κ×V)) (k:κ):List (κ×V):=kvs.filter fun kv=>decide (kv.1≠k)
theorem eO {p:κ×V}{r:List (κ×V)}{k:κ} (e:p.1=k):aU (p::r) k=B' p.2:=by simp[aU,Wc,e]
theorem dB {p:κ×V}{r:List (κ×V)}{k:κ} (e:¬ p.1=k):aU (p::r) k=aU r k:=by simp[aU,Wc,e]
theorem rH (k:κ):∀ kvs:List (κ×V),(kvs.any fun kv=>decide (kv.1=k))=(aU kvs k).isSome
 | []=>rfl
 | p::r=>by
  rw[V1];by_cases e:p.1=k
  .simp only[eO e,UW e,Bool.true_or,Option.isSome_some]
  .rw[dB e,Ve e,QgQ];exact rH k r
theorem Hh (k j:κ) (y:V):∀ kvs:List (κ×V),aU (kvs.map fun kv=>if kv.1=k then(kv.1,y) else kv) j=(aU kvs j).map fun x=>if j=k then y else x
 | []=>rfl
 | p::r=>by
  have ih:=Hh k j y r;rw[Vb];by_cases h:p.1=k
  .rw[XR h]
   by_cases e:p.1=j
   .rw[eO (p:=(p.1,y)) e,eO e,WK,XR (e.symm.trans h)]
   .rw[dB (p:=(p.1,y)) e,dB e,ih]
  .rw[W' h]
   by_cases e:p.1=j
   .rw[eO (p:=p) e,eO e,WK,W' (fun z=>h (e.trans z))]
   .rw[dB (p:=p) e,dB e,ih]
theorem xP (k j:κ) (y:V):∀ kvs:List (κ×V),aU kvs k=C'->aU (kvs++[(k,y)]) j=if j=k then B' y else aU kvs j
 | [],_=>by
  by_cases e:k=j
  .rw[XR e.symm];exact eO (p:=(k,y)) e
  .rw[W' (fun z=>e z.symm)];exact dB (p:=(k,y)) e
 | p::r,hn=>by
  rw[List.cons_append];have hk:¬ p.1=k:=fun z=>by rw[eO z] at hn;cases hn
  rw[dB hk] at hn;have ih:=xP k j y r hn;by_cases e:p.1=j
  .rw[eO e,eO e,W' (fun z=>hk (e.trans z))]
  .rw[dB e,dB e,ih]
theorem vi (kvs:List (κ×V)) (k j:κ) (y:V):aU (aO kvs k y) j=if j=k then B' y else aU kvs j:=by
 unfold aO;by_cases a:(kvs.any fun kv=>decide (kv.1=k))=D'
 .rw[XR a,Hh]
  rw[rH] at a;by_cases e:j=k
  .obtain⟨x,hx⟩:=ZI.mp a
   rw[XR e,e,hx,WK,XR rfl]
  .rw[W' e]
   cases aU kvs j with
   | none=>rfl
   | some x=>rw[WK,W' e]
 .rw[W' a]
  refine xP k j y kvs ?_;rw[rH] at a;cases q:aU kvs k with
  | none=>rfl
  | some x=>rw[q] at a;exact(a O).elim
theorem qR (kvs:List (κ×V)) (k:κ) (v:V):(aO kvs k v).length<=kvs.length+1:=by
 unfold aO;split
 .rw[Us];lia
 .rw[UB,UR,Qgz];lia
theorem BH {kvs:List (κ×V)}{k:κ} (v:V) (h:aU kvs k=C'):aO kvs k v=kvs++[(k,v)]:=by
 unfold aO;rw[rH,h];exact W' (by decide)
theorem eA.Qb8 {u:Option L'} (r:eA o u):o.isSome=u.isSome:=by
 cases o with
 | none=>cases u with
  | none=>rfl
  | some _=>exact(show False from r).elim
 | some _=>cases u with
  | none=>exact(show False from r).elim
  | some _=>rfl
theorem eA.getD {o:Option V}{u:Option L'}{d:V}{d':L'} (r:eA o u) (rd:aB d d'):aB (o.getD d) (u.getD d'):=by
 cases o with
 | none=>cases u with
  | none=>exact rd
  | some _=>exact(show False from r).elim
 | some _=>cases u with
  | none=>exact(show False from r).elim
  | some _=>exact r
theorem KV.val {kvs:List (κ×V)}{vs:List (κ×L')} (r:KV kvs vs) (k:κ):eA (aU kvs k) (QaS vs k):=by
 unfold KV at r
 induction r with
 | nil=>exact ZK
 | @cons p q ps qs h t ih=>
  obtain⟨h1,h2⟩:=h;by_cases e:p.1=k
  .have e':q.1=k:=h1.symm.trans e
   have b:QaS (q::qs) k=B' q.2:=by simp[QaS,Wc,e']
   rw[eO e,b];exact h2
  .have e':¬ q.1=k:=fun z=>e (h1.trans z)
   have b:QaS (q::qs) k=QaS qs k:=by simp[QaS,Wc,e']
   rw[dB e,b];exact ih
theorem KV.any {kvs:List (κ×V)}{vs:List (κ×L')} (r:KV kvs vs) (k:κ):(kvs.any fun kv=>decide (kv.1=k))=vs.any fun kv=>decide (kv.1=k):=by
 unfold KV at r
 induction r with
 | nil=>rfl
 | cons h t ih=>rw[V1,V1,ih,h.1]
theorem KV.Qdw {kvs:List (κ×V)}{vs:List (κ×L')} (r:KV kvs vs) (k:κ) (ry:aB y u) :
  KV (kvs.map fun kv=>if kv.1=k then(kv.1,y) else kv) (vs.map fun kv=>if kv.1=k then(kv.1,u) else kv):=by
 unfold KV at r ⊢
 induction r with
 | nil=>exact .nil
 | @cons p q ps qs h t ih=>
  rw[Vb,Vb];refine .cons ?_ ih;obtain⟨h1,h2⟩:=h;by_cases e:p.1=k
  .rw[XR e,XR (h1.symm.trans e)];exact⟨h1,ry⟩
  .rw[W' e,W' (fun z=>e (h1.trans z))];exact⟨h1,h2⟩
theorem KV.put {kvs:List (κ×V)}{vs:List (κ×L')} (r:KV kvs vs) (k:κ) (ry:aB y u):KV (aO kvs k y) (Qaq vs k u):=by
 unfold aO Qaq;rw[r.any k];by_cases e:(vs.any fun kv=>decide (kv.1=k))=D'
 .rw[XR e,XR e];exact r.Qdw k ry
 .rw[W' e,W' e];exact QgM r ⟨O,ry⟩
theorem KV.drop {kvs:List (κ×V)}{vs:List (κ×L')} (r:KV kvs vs) (k:κ):KV (d4 kvs k) (without vs k):=by
 unfold KV at r ⊢;unfold d4 without
 induction r with
 | nil=>exact .nil
 | @cons p q ps qs h t ih=>
  obtain⟨h1,h2⟩:=h;rw[UX,UX];by_cases e:p.1=k
  .have a:¬ decide (p.1≠k)=D':=by simp[e]
   have b:¬ decide (q.1≠k)=D':=by simp[h1.symm.trans e]
   rw[W' a,W' b];exact ih
  .have e':¬ q.1=k:=fun z=>e (h1.trans z)
   have a:decide (p.1≠k)=D':=by simp[e]
   have b:decide (q.1≠k)=D':=by simp[e']
   rw[XR a,XR b];exact .cons ⟨h1,h2⟩ ih
theorem KV.keys {kvs:List (κ×V)}{vs:List (κ×L')} (r:KV kvs vs):kvs.map (·.1)=vs.map (·.1):=by
 unfold KV at r
 induction r with
 | nil=>rfl
 | cons h t ih=>rw[Vb,Vb,ih,h.1]
theorem KV.length {kvs:List (κ×V)}{vs:List (κ×L')} (r:KV kvs vs):kvs.length=vs.length:=Qc8 r
theorem On (kvs:List (κ×V)) (k:κ):(d4 kvs k).length<=kvs.length:=U0 _ _
end
theorem jR {k:Key} (r:aB (kV k) u):(bV P w).is k u=D':=by
 cases k with
 | inl i=>obtain⟨t,e⟩:=(show ∃ t,u=Zn i t from r);subst e;exact Ra P w i t
 | inr x=>obtain⟨t,e⟩:=(show ∃ t,u=Qb0 x t from r);subst e;exact Rs P w x t
theorem JG {P:YE}{w:YF}:∀ {ks:List Key}{us:List L'},aC (ks.map kV) us->ItemsAre (bV P w) ks us
 | [],_,r=>by rw[W5] at r;cases r;exact .nil
 | k::ks,_,r=>by
  rw[Vb] at r;cases r with
  | cons h t=>exact .cons (jR h) (JG t)
abbrev KT (H:Hp):List (List Key×V)->List (List Key×F'×L')->Prop:=QbK fun p q=>p.1=q.1/\H q.2.1=B' (.tup (p.1.map kV))/\aB p.2 q.2.2
theorem KT.val (r:KT H kvs xs) (k:List Key):eA (aU kvs k) ((QaT xs k).map (·.2)):=by
 induction r with
 | nil=>exact ZK
 | @cons p q ps qs h t ih=>
  obtain⟨h1,_,h2⟩:=h;by_cases e:p.1=k
  .have e':q.1=k:=h1.symm.trans e
   have b:QaT (q::qs) k=B' q.2:=by simp[QaT,Wc,e']
   rw[eO e,b];exact h2
  .have e':¬ q.1=k:=fun z=>e (h1.trans z)
   have b:QaT (q::qs) k=QaT qs k:=by simp[QaT,Wc,e']
   rw[dB e,b];exact ih
theorem KT.Qdw (r:KT H kvs xs) (k:List Key) (ry:aB y u) :
  KT H (kvs.map fun kv=>if kv.1=k then(kv.1,y) else kv) (xs.map (putAt k u)):=by
 induction r with
 | nil=>exact .nil
 | @cons p q ps qs h t ih=>
  rw[Vb,Vb];refine .cons ?_ ih;obtain⟨h1,h2,h3⟩:=h;unfold putAt;by_cases e:p.1=k
  .rw[XR e,XR (h1.symm.trans e)];exact⟨h1,h2,ry⟩
  .rw[W' e,W' (fun z=>e (h1.trans z))];exact⟨h1,h2,h3⟩
theorem KT.put (r:KT H kvs xs) (k:List Key) (hb:H b=B' (.tup (k.map kV))) (ry:aB y u) :
  KT H (aO kvs k y) (storedH xs k b u):=by
 have e:(kvs.any fun kv=>decide (kv.1=k))=(QaT xs k).isSome:=by
  rw[rH,(r.val k).Qb8,WY]
 unfold aO storedH;rw[e];by_cases q:(QaT xs k).isSome=D'
 .rw[XR q,XR q];exact r.Qdw k ry
 .rw[W' q,W' q];exact QgM r ⟨O,hb,ry⟩
theorem KT.keeps (r:KT H kvs xs) (ht:∀ b ys,H b=B' (.tup ys)->H' b=B' (.tup ys)):KT H' kvs xs:=
 Paired.Qdp r fun _ _ z=>⟨z.1,ht _ _ z.2.1,z.2.2⟩
section
variable {h:Yg}
theorem QeX {u:HO} (ok:Yz P w H h) (e:Rd H a u):cO P w H h a u:=e.ok ok
theorem mB {kvs:List (Key×V)} (ok:Yz P w H h) (e:Rd H a (.dK kvs)):kvs.length<=XX/\(a == ZL)=R'/\∃ vs,KV kvs vs/\h.DictOf (bV P w) a vs:=
 show cO P w H h a (.dK kvs) from QeX ok e
theorem kK {kvs:List (Key×V)} (ok:Yz P w H h) (e:H a=B' (.dK kvs)):kvs.length<=XX/\(a == ZL)=R'/\∃ vs,KV kvs vs/\h.DictOf (bV P w) a vs:=mB ok (.inl e)
theorem p7 {ks:List Key} (ok:Yz P w H h) (e:H a=B' (.tup (ks.map kV))):(QbA (bV P w)).is h ks a:=by
 obtain⟨_,ah,r,o,h1,h2,n,h3⟩:=(show cO P w H h a (.tup (ks.map kV)) from ok a _ e);exact⟨o,ah.toArray,n,h1,h2,h3,by simpa using JG r⟩
theorem nZ (ok:Yz P w H h) (e:Rd H a (.dT kvs)):kvs.length<=XX/\(a == ZL)=R' /\
  ∃ xs,KT H kvs xs/\h.DictOfH (QbA (bV P w)) a xs:=by
 obtain⟨z,y,xs,r,o,es,ep,h1,h2,h3,h4,h5⟩:=(show cO P w H h a (.dT kvs) from QeX ok e);refine⟨z,y,xs,r,o,es,ep,h1,h2,h3,h4,fun x hx=>?_,h5⟩;have all:∀ {l:List (List Key×V)}{m:List (List Key×F'×L')},KT H l m->∀ x∈m,(QbA (bV P w)).is h x.1 x.2.1:=by
  intro l m q
  induction q with
  | nil=>intro x hx;exact nomatch hx
  | @cons p q ps qs hq t ih=>
   intro x hx;rcases U1.mp hx with e|hx
   .subst e
    exact p7 ok (by rw[<- hq.1];exact hq.2.1)
   .exact ih x hx
 exact all r x hx
theorem Qib (ok:Yz P w H h) (e:H a=B' (.dT kvs)):kvs.length<=XX/\(a == ZL)=R' /\
  ∃ xs,KT H kvs xs/\h.DictOfH (QbA (bV P w)) a xs:=nZ ok (.inl e)
end
def bS (H:Hp) (a:F') (y:V) (r:Option V):Prop:=
 (∃ kvs k,Rd H a (.dK kvs)/\y=kV k/\r=aU kvs k)\/∃ kvs k b,Rd H a (.dT kvs)/\y=.ref b/\H b=B' (.tup (k.map kV))/\r=aU kvs k
def nE (H:Hp) (a:F') (y v:V) (H':Hp):Prop:=
 (∃ kvs k,H a=B' (.dK kvs)/\y=kV k/\kvs.length<XX/\H'=upd H a (.dK (aO kvs k v))) \/
 ∃ kvs k b,H a=B' (.dT kvs)/\y=.ref b/\H b=B' (.tup (k.map kV))/\kvs.length<XX/\H'=upd H a (.dT (aO kvs k v))
theorem bS.k {H:Hp}{a:F'}{kvs:List (Key×V)}{k:Key} (e:H a=B' (.dK kvs)):bS H a (kV k) (aU kvs k):=.inl ⟨kvs,k,.inl e,O,O⟩
theorem nE.k {H:Hp}{a:F'}{kvs:List (Key×V)}{k:Key}{v:V} (e:H a=B' (.dK kvs)) (hl:kvs.length<XX):nE H a (kV k) v (upd H a (.dK (aO kvs k v))):=.inl ⟨kvs,k,e,O,hl,O⟩
section
variable {v:V}{r:L'}
theorem Inv.big (I:Inv X aa σ H s):ZL<s.heap.objs.size:=by
 have h:YW<s.heap.objs.size:=(I.mod.glob.keeps I.bk).lt;exact WL (by decide) h
theorem SJ (hu:A.units+1<Yr) (I:Inv X aa σ H s) (g:bS H a y (B' v)) (ry:aB y u) (h:∀ w' s',Inv X aa σ H s'->aB v w'->Q w' s') :
  N' (XS X.prog X.w) A (QbG (.ref a) u) Q E s:=by
 rcases g with⟨kvs,k,e,ey,l⟩|⟨kvs,k,b,e,ey,eb,l⟩
 .subst ey
  obtain⟨z,hd,vs,rel,dd⟩:=mB I.XU e;obtain⟨w',hw,dI⟩:=eA.some_of (v:=v) (o:=QaS vs k) (by rw[l];exact rel.val k);exact wpAny_getItem_of (jR ry) dd.mapOf hw (h w' _ (I.tok _) dI)
 .subst ey
  cases (show u=X2 b from ry)
  obtain⟨z,hd,xs,rel,dd⟩:=nZ I.XU e;obtain⟨w',hw,dI⟩:=eA.some_of (v:=v) (o:=(QaT xs k).map (·.2)) (by rw[l];exact rel.val k);obtain⟨p,hp,d8⟩:=QbP.mp hw;refine wpAny_getItem_heap (QbY hu) (p7 I.XU eb) dd hp ?_;rw[d8];exact h w' _ (I.tok _) dI
theorem Qic (hu:A.units+1<Yr) (I:Inv X aa σ H s) (g:bS H a y o) (ry:aB y u) (h:∀ s',Inv X aa σ H s'->Q (.bool o.isSome) s') :
  N' (XS X.prog X.w) A (Zr .In u (.ref a)) Q E s:=by
 rcases g with⟨kvs,k,e,ey,l⟩|⟨kvs,k,b,e,ey,eb,l⟩
 .subst ey
  obtain⟨z,hd,vs,rel,dd⟩:=mB I.XU e;refine wpAny_in_of (jR ry) hd dd.mapOf ?_;rw[<- (rel.val k).Qb8,<- l];exact h _ (I.tok _)
 .subst ey
  cases (show u=X2 b from ry)
  obtain⟨z,hd,xs,rel,dd⟩:=nZ I.XU e;refine wpAny_in_heap (QbY hu) (p7 I.XU eb) hd dd ?_;have q:=(rel.val k).Qb8;rw[WY] at q;rw[<- q,<- l];exact h _ (I.tok _)
theorem Qi (hu:A.units+1<Yr) (I:Inv X aa σ H s) (g:bS H a y o) (ry:aB y u) (h:∀ s',Inv X aa σ H s'->Q (.bool (!o.isSome)) s') :
  N' (XS X.prog X.w) A (Zr .NotIn u (.ref a)) Q E s:=by
 rcases g with⟨kvs,k,e,ey,l⟩|⟨kvs,k,b,e,ey,eb,l⟩
 .subst ey
  obtain⟨z,hd,vs,rel,dd⟩:=mB I.XU e;refine wpAny_notIn_of (jR ry) hd dd.mapOf ?_;rw[<- (rel.val k).Qb8,<- l];exact h _ (I.tok _)
 .subst ey
  cases (show u=X2 b from ry)
  obtain⟨z,hd,xs,rel,dd⟩:=nZ I.XU e;refine wpAny_notIn_heap (QbY hu) (p7 I.XU eb) hd dd ?_;have q:=(rel.val k).Qb8;rw[WY] at q;rw[<- q,<- l];exact h _ (I.tok _)
theorem xL {ob:HO} (I:Inv X aa σ H s) (mu:Mut (H a)) (hs:Zu a s.heap h') (he:∃ q,h'.get? a=B' q) (new:cO X.prog X.w (upd H a ob) h' a ob) :
  Inv X aa σ (upd H a ob) {s with heap:=h',toks:=t'}:=
 I.write (x:=a) (e:=a) mu (.inl O) (fun b q hb z=>(hs.2 b hb).trans z) he new
theorem B8 {kvs:List (Key×V)}{vs:List (Key×L')} (z:kvs.length<=XX) (hd:(a == ZL)=R') (rel:KV kvs vs) (dd:h'.DictOf (bV P w) a vs) :
  cO P w H' h' a (.dK kvs):=⟨z,hd,vs,rel,dd⟩
theorem Pm {Q:Unit->XT->Prop} (hu:A.units+1<Yr) (I:Inv X aa σ H s) (g:nE H a y v H') (ry:aB y u) (rv:aB v r) (h:∀ s',Inv X aa σ H' s'->Q () s') :
  N' (XS X.prog X.w) A (setItem (.ref a) u r) Q E s:=by
 rcases g with⟨kvs,k,e,ey,l,eH⟩|⟨kvs,k,b,e,ey,eb,l,eH⟩
 .subst ey eH
  obtain⟨z,hd,vs,rel,dd⟩:=kK I.XU e;have hz:vs.length<=XX:=by rw[<- rel.length];exact z
  have hl:(aO kvs k v).length<=XX:=by have:=qR kvs k v;lia
  refine wpAny_setItem_pairs (hsz:=hz) (jR ry) dd fun h' ke hs=>h _ ?_
  have he:∃ q,h'.get? a=B' q:=let ⟨q,_,_,hq,_⟩:=ke;⟨q,hq⟩
  exact xL I (by rw[e];exact ZK) hs he (B8 hl hd (rel.put k rv) ke)
 .subst ey eH
  cases (show u=X2 b from ry)
  obtain⟨z,hd,xs,rel,dd⟩:=Qib I.XU e;have hz:xs.length<=XX:=by rw[<- Qc8 rel];exact z
  have hl:(aO kvs k v).length<=XX:=by have:=qR kvs k v;lia
  refine wpAny_setItem_heap (hsz:=hz) (QbY hu) (p7 I.XU eb) dd fun h' ke hs=>h _ ?_
  obtain⟨q,es,ep,hq,h2,h3,h4,_,h5⟩:=ke;refine xL I (by rw[e];exact ZK) hs ⟨q,hq⟩ ⟨hl,hd,_,(rel.put k eb rv).keeps fun c ys ec=>?_,q,es,ep,hq,h2,h3,h4,h5⟩;rw[ak (cU ec e (fun z=>nomatch z))];exact ec
end
section
variable {kvs:List (Key×V)}{k:Key}
theorem Qid {v:V}{more:List L'} (I:Inv X aa σ H s) (e:H a=B' (.dK kvs)) (ry:aB (kV k) u) (l:aU kvs k=B' v) (hm:more=[]\/∃ x,more=[x])
  (h:∀ w' s',Inv X aa σ (upd H a (.dK (d4 kvs k))) s'->aB v w'->Q w' s'):N' (XS X.prog X.w) A (call (.builtin "dict.pop") (.ref a::u::more)) Q E s:=by
 obtain⟨z,hd,vs,rel,dd⟩:=kK I.XU e;obtain⟨w',hw,dI⟩:=eA.some_of (v:=v) (o:=QaS vs k) (by rw[<- l];exact rel.val k);have hp:(keyPart u).isSome=D':=by
  cases k with
  | inl i=>obtain⟨t,q⟩:=(show ∃ t,u=Zn i t from ry);subst q;rfl
  | inr x=>obtain⟨t,q⟩:=(show ∃ t,u=Qb0 x t from ry);subst q;rfl
 have ha:argsOk "dict.pop" ⟨.ref a::u::more,[]⟩:=by
  rcases hm with q|⟨x,q⟩
  .subst q;exact PySem.F.args_dict_pop_2 _ _
  .subst q;exact PySem.F.args_dict_pop_3 _ _ _
 refine Qbu QfY dd.typeIs PySem.F.entry_dict_pop ha (meets_dict_pop_there (bV X.prog X.w) a (jR ry) more hm hp)
  ⟨vs,w',dd,by rw[<- rel.length];exact z,hw,fun h' ke hs=>h w' _ ?_ dI⟩
 have he:∃ q,h'.get? a=B' q:=let ⟨q,_,_,hq,_⟩:=ke;⟨q,hq⟩
 exact xL I (by rw[e];exact ZK) hs he (B8 (U5 (On kvs k) z) hd (rel.drop k) ke)
theorem Qie (I:Inv X aa σ H s) (e:Rd H a (.dK kvs)) (h:∀ t s',Inv X aa σ H s'->Q (.int kvs.length t) s'):N' (XS X.prog X.w) A (call (.builtin "len") [.ref a]) Q E s:=by
 obtain⟨z,hd,vs,rel,dd⟩:=mB I.XU e;refine call_len_dict hd dd (by rw[<- rel.length];rw[Uz] at z;lia) ?_;rw[<- rel.length];exact h _ _ (I.tok _)
end
def QeY (i:X'):Prop:=∀ ov iv,Qde i R' ov iv=operate [ov,iv] (QbG ov iv)
theorem Ph {env:Za}{slice:X'}
  (hl:Qap (.type T) "__getitem__"=pure (B' (.builtin id))) (hs:QeY slice)
  (h:N' (XS prog w) A (X9 value env) (fun o s₁=>N' (XS prog w) A (X9 slice env) (fun i s₂=>s₂.TypeIs o T/\N' (XS prog w) A (QbG o i) Q E s₂) E s₁) E s) :
  N' (XS prog w) A (X9 (.Subscript value slice pos) env) Q E s:=by
 refine QeF (Vg h (fun o s₁ h₁=>Vg h₁ (fun i s₂ h₂=>?_) fun _ _ x=>x) fun _ _ x=>x);obtain⟨hT,h₂⟩:=h₂;unfold Qez;refine ow ?_;rw[getitemInPython_of_ne hT.not_modules];refine ow (Xd hT hl ?_);have aL:N' (XS prog w) A (Qde slice R' o i) (fun r s₃=>N' (XS prog w) A (letTemporaryGo value o r >>= fun _=>pure r) Q E s₃) E s₂:=by
  rw[hs o i];exact wpAny_operating (Vg h₂ (fun r s₃ h₃=>ow (wpAny_letTemporaryGo (Uu h₃))) fun _ _ x=>x)
 first
  | exact Uu (ow aL)
  | exact ow (Uu (ow aL))
  | exact ow aL
theorem SE (I:Inv X aa σ H s) (g:bS H a y o):s.TypeIs (.ref a) "dict":=by
 rcases g with⟨kvs,k,e,_,_⟩|⟨kvs,k,b,e,_,_,_⟩
 .obtain⟨_,_,vs,_,dd⟩:=mB I.XU e
  exact dd.typeIs
 .obtain⟨_,_,xs,_,dd⟩:=nZ I.XU e
  exact dd.typeIs
def Qif (td ty:TE):TE:=fun σ H Q=>td σ H fun x H1=>ty σ H1 fun y H2=>∃ a v,x=.ref a/\bS H2 a y (B' v)/\Q v H2
def Qig (ty td:TE):TE:=fun σ H Q=>ty σ H fun y H1=>td σ H1 fun x H2=>∃ a o,x=.ref a/\bS H2 a y o/\Q (.bl o.isSome) H2
def SS (ty td:TE):TE:=fun σ H Q=>ty σ H fun y H1=>td σ H1 fun x H2=>∃ a o,x=.ref a/\bS H2 a y o/\Q (.bl (!o.isSome)) H2
def Qih (td ty tv:TE):TS:=fun D σ H=>tv σ H fun v H1=>td σ H1 fun x H2=>ty σ H2 fun y H3=>∃ a H4,x=.ref a/\nE H3 a y v H4/\D.nx σ H4
section
variable {o i:X'}{a7 Qbd:YA}{td ty tv:TE}
theorem cN (hu:X.A.units+1<Yr) (ho:PE X o td) (hi:PE X i ty) (hs:QeY i):PE X (.Subscript o i pos) (Qif td ty):=by
 intro aa s σ H Q I h;refine Ph PySem.F.slot_dict_getitem.lookup hs (X3 (ho aa s σ H _ I h) fun u s1=>L2.Yc fun x H1 I1 rx q1=>X3 (hi aa s1 σ H1 _ I1 q1) fun iv s2=>L2.Yc fun y H2 I2 ry a8=>?_);obtain⟨a,v,ex,g,q2⟩:=a8;subst ex;obtain rfl:u=X2 a:=rx;exact⟨SE I2 g,SJ hu I2 g ry fun w' s3 I3 dI=>⟨v,H2,I3,dI,q2⟩⟩
theorem qV (hu:X.A.units+1<Yr) (hi:PE X i ty) (ho:PE X o td):PC X .In i o (Qig ty td):=by
 intro aa s σ H Q I h;refine X3 (hi aa s σ H _ I h) fun iv s1=>L2.Yc fun y H1 I1 ry q1=>X3 (ho aa s1 σ H1 _ I1 q1) fun u s2=>L2.Yc fun x H2 I2 rx a8=>?_
 obtain⟨a,ov,ex,g,q2⟩:=a8;subst ex;obtain rfl:u=X2 a:=rx;exact Qic hu I2 g ry fun s3 I3=>⟨.bl ov.isSome,H2,I3,O,q2⟩
theorem CQ (hu:X.A.units+1<Yr) (hi:PE X i ty) (ho:PE X o td):PC X .NotIn i o (SS ty td):=by
 intro aa s σ H Q I h;refine X3 (hi aa s σ H _ I h) fun iv s1=>L2.Yc fun y H1 I1 ry q1=>X3 (ho aa s1 σ H1 _ I1 q1) fun u s2=>L2.Yc fun x H2 I2 rx a8=>?_
 obtain⟨a,ov,ex,g,q2⟩:=a8;subst ex;obtain rfl:u=X2 a:=rx;exact Qi hu I2 g ry fun s3 I3=>⟨.bl (!ov.isSome),H2,I3,O,q2⟩
theorem jP (hu:X.A.units+1<Yr) (ho:PE X o td) (hi:PE X i ty) (hv:PE X value tv) (hs:QbB value (B' (.Subscript o i a7)) pos.line X.env=pure R') :
  PS X (.Assign [.Subscript o i a7] value pos) (Qih td ty tv):=by
 intro aa s σ H D I h;refine wpAny_Assign_Subscript (X3 (hv aa s σ H _ I h) fun r s1=>L2.Yc fun v H1 I1 rv q1=>X3 (ho aa s1 σ H1 _ I1 q1) fun u s2=>L2.Yc fun x H2 I2 rx q2=>X3 (hi aa s2 σ H2 _ I2 q2) fun iv s3=>L2.Yc fun y H3 I3 ry a8=>?_) hs;obtain⟨a,H4,ex,g,q3⟩:=a8;subst ex;obtain rfl:u=X2 a:=rx;exact Pm hu I3 g ry rv fun s4 I4=>⟨σ,H4,I4,q3⟩
end
theorem vp (h:Yg) (hb:ZL<h.objs.size):cO P w H (h.push {cls:=.type "dict",data:=.dict #[]}) h.objs.size (.dK []):=
 ⟨VJ _,QbX.mpr (XW (UE hb)),[],.nil,Qee h⟩
def Qii:TE:=fun _ H Q=>∀ p,H p=C'->Q (.ref p) (upd H p (.dK []))
theorem l8:PE X (.Dict [] [] pos) Qii:=fun aa s σ H Q I h=>
 wpAny_Dict_empty ⟨.ref s.heap.objs.size,_,I.laid (a:=s.heap.objs.size) (o:=.dK []) (t':=s.toks) (fun _ _ q=>Ut _ q) (Uv _) (vp s.heap I.big),O,h _ (I.XU.fresh (Uv _))⟩
def CG:List (TE×TE)->St->Hp->(List (V×V)->Hp->Prop)->Prop
 | [],_,H,Q=>Q [] H
 | (tk,tv)::r,σ,H,Q=>tk σ H fun x H1=>tv σ H1 fun y H2=>CG r σ H2 fun ps H3=>Q ((x,y)::ps) H3
abbrev VV:List (V×V)->List (L'×L')->Prop:=QbK fun p q=>aB p.1 q.1/\aB p.2 q.2
def PPs (X:Cx) (pos:YA) (keys:List (Option X')) (dm:List X') (kY:List (TE×TE)):Prop:=
 ∀ (aa:List (F'×X6)) (s:XT) (σ:St) (H:Hp) (Q:List (V×V)->Hp->Prop),Inv X aa σ H s->CG kY σ H Q ->
  N' (XS X.prog X.w) X.A (evalPairs (pairTrees keys dm X.env pos)) (fun vs s'=>∃ ps H',Inv X aa σ H' s'/\VV ps vs/\Q ps H') X.xe s
theorem Pi:PPs X pos [] [] []:=fun aa s σ H Q I h=>pairTrees_nil_walk ⟨[],H,I,.nil,h⟩
theorem Rm {k v:X'}{ks:List (Option X')}{vs:List X'}{tk tv:TE} (hk:PE X k tk) (hv:PE X v tv) (hr:PPs X pos ks vs kY) :
  PPs X pos (B' k::ks) (v::vs) ((tk,tv)::kY):=fun aa s σ H Q I h=>
 pairTrees_cons_walk (X3 (hk aa s σ H _ I h) fun u s1=>L2.Yc fun x H1 I1 rx q1=>X3 (hv aa s1 σ H1 _ I1 q1) fun w2 s2=>L2.Yc fun y H2 I2 ry q2=>
  X3 (hr aa s2 σ H2 _ I2 q2) fun ws s3 ⟨ps,H3,I3,rel,q3⟩=>⟨(x,y)::ps,H3,I3,.cons ⟨rx,ry⟩ rel,q3⟩)
def nO (kvs more:List (Key×V)):List (Key×V):=more.foldl (fun acc kv=>aO acc kv.1 kv.2) kvs
theorem KV.merge:∀ {more:List (Key×V)}{rs:List (Key×L')}{kvs:List (Key×V)}{vs:List (Key×L')},KV more rs->KV kvs vs->KV (nO kvs more) (merged vs rs):=by
 intro more rs kvs vs r;unfold KV at r
 induction r generalizing kvs vs with
 | nil=>intro q;exact q
 | @cons p q ps qs h t ih=>
  intro r0;have e:KV (aO kvs p.1 p.2) (Qaq vs q.1 q.2):=by
   have:=r0.put p.1 h.2;rw[<- h.1];exact this
  exact ih e
theorem ID:∀ (more kvs:List (Key×V)),(nO kvs more).length<=kvs.length+more.length
 | [],kvs=>by show kvs.length<=kvs.length+0;lia
 | p::r,kvs=>by
  have h1:=ID r (aO kvs p.1 p.2);have h2:=qR kvs p.1 p.2;show(nO (aO kvs p.1 p.2) r).length<=_;rw[UR];lia
theorem IU {P:YE}{w:YF}:∀ {kvs:List (Key×V)}{ws:List (L'×L')},VV (kvs.map fun kv=>(kV kv.1,kv.2)) ws->∃ rs,Carries (bV P w) ws rs/\KV kvs rs
 | [],_,r=>by rw[W5] at r;cases r;exact⟨[],ZK,.nil⟩
 | p::kvs,_,r=>by
  rw[Vb] at r;cases r with
  | @cons a b as bs h t=>
   obtain⟨rs,c,q⟩:=IU (P:=P) (w:=w) t;obtain⟨b1,b2⟩:=b;exact⟨(p.1,b2)::rs,⟨jR h.1,O,c⟩,.cons ⟨O,h.2⟩ q⟩
def Qij (kY:List (TE×TE)):TE:=fun σ H Q=>∀ p,H p=C'->CG kY σ (upd H p (.dK [])) fun ps H2=>H2 p=B' (.dK [])/\∃ kvs:List (Key×V),ps=kvs.map (fun kv=>(kV kv.1,kv.2))/\kvs.length<=15/\Q (.ref p) (upd H2 p (.dK (nO [] kvs)))
theorem RC {keys:List (Option X')}{dm:List X'} (h:PPs X pos keys dm kY) (pL:keys.all (·.isSome)=D') (hl:keys.length=dm.length) (h0:keys≠[])
  (wW:keys.length<=15):PE X (.Dict keys dm pos) (Qij kY):=by
 intro aa s σ H Q I q;have hn:=I.XU.fresh (Uv s.heap.objs.size);have I1:=I.laid (a:=s.heap.objs.size) (o:=.dK []) (h':=s.heap.push {cls:=.type "dict",data:=.dict #[]}) (t':=s.toks) (fun _ _ q=>Ut _ q) (Uv _) (vp s.heap I.big);refine wpAny_Dict_walk (knd:=bV X.prog X.w) pL hl h0 wW (X3 (h aa _ σ _ _ I1 (q _ hn)) fun ws s2=>L2.Yc fun ps H2 I2 rel a8=>?_);obtain⟨e,kvs,ep,lk,q2⟩:=a8;subst ep;obtain⟨rs,c,rk⟩:=IU (P:=X.prog) (w:=X.w) rel;obtain⟨z,hd,To,r0,dd⟩:=kK I2.XU e;cases r0
 refine⟨rs,c,dd,fun h' ke hs=>⟨.ref s.heap.objs.size,_,?_,O,q2⟩⟩;have hz:(nO [] kvs).length<=XX:=by
  have h1:=ID kvs [];rw[Qgz] at h1;rw[Uz];lia
 have he:∃ q,h'.get? s.heap.objs.size=B' q:=let ⟨q,_,_,hq,_⟩:=ke;⟨q,hq⟩
 exact xL I2 (by rw[e];exact ZK) hs he (B8 hz hd (rk.merge .nil) ke)
structure M1 (X:Cx) (o:X') (m:K') (aP:YA) (e:X') (aI:YA):Prop where
 base:Qbs o m X.env (X9 o X.env)=X9 o X.env
 few:((Yy aI (Yb [e] X.env)).all (fun x=>!x.1) && (ZC aI (Zz [] X.env)).all (fun x=>x.1.isSome)
  && decide (([e]:List X').length+([]:List QbI).length+(if ([]:List QbI).isEmpty then 0 else 1)<30))=D'
 line:(aP.endLine == aI.line)=D'
 trees:Yy aI (Yb [e] X.env)=[(R',X9 e X.env)]
structure M2 (X:Cx) (o:X') (m:K') (aP:YA) (e f:X') (aI:YA):Prop where
 base:Qbs o m X.env (X9 o X.env)=X9 o X.env
 few:((Yy aI (Yb [e,f] X.env)).all (fun x=>!x.1) && (ZC aI (Zz [] X.env)).all (fun x=>x.1.isSome)
  && decide (([e,f]:List X').length+([]:List QbI).length+(if ([]:List QbI).isEmpty then 0 else 1)<30))=D'
 line:(aP.endLine == aI.line)=D'
 trees:Yy aI (Yb [e,f] X.env)=[(R',X9 e X.env),(R',X9 f X.env)]
def IsD (H:Hp) (a:F'):Prop:=(∃ kvs,Rd H a (.dK kvs))\/∃ kvs,Rd H a (.dT kvs)
theorem Cv (I:Inv X aa σ H s) (d:IsD H a) :
  s.TypeIs (.ref a) "dict"/\(∀ b,X2 a=.ref b->∃ ob,s.heap.get? b=B' ob/\ob.dict=C')/\(a == ZL)=R':=by
 rcases d with⟨kvs,e⟩|⟨kvs,e⟩
 .obtain⟨_,hd,vs,_,dd⟩:=mB I.XU e
  refine⟨dd.typeIs,fun b q=>?_,hd⟩;cases q
  obtain⟨ob,_,_,h1,h2,_⟩:=dd;exact⟨ob,h1,h2.2.1⟩
 .obtain⟨_,hd,xs,_,dd⟩:=nZ I.XU e
  refine⟨dd.typeIs,fun b q=>?_,hd⟩;cases q
  obtain⟨ob,_,_,h1,h2,_⟩:=dd;exact⟨ob,h1,h2.2.1⟩
section
variable {d:V}{r:L'}
theorem Qik (hu:A.units+1<Yr) (I:Inv X aa σ H s) (g:bS H a y o) (ry:aB y u) (h:∀ w' s',Inv X aa σ H s'->aB (o.getD .X1) w'->Q w' s') :
  N' (XS X.prog X.w) A (call (.builtin "dict.get") [.ref a,u]) Q E s:=by
 rcases g with⟨kvs,k,e,ey,l⟩|⟨kvs,k,b,e,ey,eb,l⟩
 .subst ey
  obtain⟨z,hd,vs,rel,dd⟩:=mB I.XU e;refine Qbu QbQ dd.typeIs QcT (QfO _ _) (meets_dict_get (bV X.prog X.w) a (jR ry) hd) ⟨_,dd.mapOf,h _ _ (I.tok _) ?_⟩;rw[l];exact(rel.val k).getD rfl
 .subst ey
  cases (show u=X2 b from ry)
  obtain⟨z,hd,xs,rel,dd⟩:=nZ I.XU e;refine Qbu QbQ dd.typeIs QcT (QfO _ _) (meetsH_dict_get (QbA (bV X.prog X.w)) a b hd) ⟨QbY hu,k,xs,p7 I.XU eb,dd,h _ _ (I.tok _) ?_⟩;rw[l];exact(rel.val k).getD rfl
theorem Qil (hu:A.units+1<Yr) (I:Inv X aa σ H s) (g:bS H a y o) (ry:aB y u) (rd:aB d r) (h:∀ w' s',Inv X aa σ H s'->aB (o.getD d) w'->Q w' s') :
  N' (XS X.prog X.w) A (call (.builtin "dict.get") [.ref a,u,r]) Q E s:=by
 rcases g with⟨kvs,k,e,ey,l⟩|⟨kvs,k,b,e,ey,eb,l⟩
 .subst ey
  obtain⟨z,hd,vs,rel,dd⟩:=mB I.XU e;refine Qbu QbQ dd.typeIs QcT (QfN _ _ _) (meets_dict_get_default (bV X.prog X.w) a (jR ry) hd r) ⟨_,dd.mapOf,h _ _ (I.tok _) ?_⟩;rw[l];exact(rel.val k).getD rd
 .subst ey
  cases (show u=X2 b from ry)
  obtain⟨z,hd,xs,rel,dd⟩:=nZ I.XU e;refine Qbu QbQ dd.typeIs QcT (QfN _ _ _) (meetsH_dict_get_default (QbA (bV X.prog X.w)) a b hd r) ⟨QbY hu,k,xs,p7 I.XU eb,dd,h _ _ (I.tok _) ?_⟩;rw[l];exact(rel.val k).getD rd
end
def Qim (td ty:TE):TE:=fun σ H Q=>td σ H fun x H1=>∃ a,x=.ref a/\IsD H1 a/\ty σ H1 fun y H2=>∃ o,bS H2 a y o/\Q (o.getD .X1) H2
def Qin (td ty tx:TE):TE:=fun σ H Q=>td σ H fun x H1=>∃ a,x=.ref a/\IsD H1 a/\ty σ H1 fun y H2=>tx σ H2 fun z H3=>∃ o,bS H3 a y o/\Q (o.getD z) H3
def Qio (td ty:TE):TE:=fun σ H Q=>td σ H fun x H1=>∃ a,x=.ref a/\IsD H1 a/\ty σ H1 fun y H2=>∃ kvs k v,H2 a=B' (.dK kvs)/\y=kV k/\aU kvs k=B' v/\Q v (upd H2 a (.dK (d4 kvs k)))
section
variable {o f:X'}{aP aI:YA}{td ty tx:TE}
theorem QE (hu:X.A.units+1<Yr) (ho:PE X o td) (he:PE X e ty) (m:M1 X o "get" aP e aI):PE X (.Call (.Attribute o "get" aP) [e] [] aI) (Qim td ty):=by
 intro aa s σ H Q I h;refine WZ m.base m.few m.line Qci QbQ QfX (X3 (ho aa s σ H _ I h) fun u s1=>L2.Yc fun x H1 I1 rx a8=>?_);obtain⟨a,ex,d,q1⟩:=a8;subst ex;obtain rfl:u=X2 a:=rx;obtain⟨t1,t2,_⟩:=Cv I1 d;refine⟨t1,t2,?_⟩;rw[m.trees];refine Qcj O (QcX (Qbl (X3 (he aa s1 σ H1 _ I1 q1) fun iv s2 ⟨y,H2,I2,ry,ov,g,q2⟩=>QbW ?_)));exact Qik hu I2 g ry fun w' s3 I3 dI=>⟨_,H2,I3,dI,q2⟩
theorem S6 (hu:X.A.units+1<Yr) (ho:PE X o td) (he:PE X e ty) (hf:PE X f tx) (m:M2 X o "get" aP e f aI):PE X (.Call (.Attribute o "get" aP) [e,f] [] aI) (Qin td ty tx):=by
 intro aa s σ H Q I h;refine WZ m.base m.few m.line Qci QbQ QfX (X3 (ho aa s σ H _ I h) fun u s1=>L2.Yc fun x H1 I1 rx a8=>?_);obtain⟨a,ex,d,q1⟩:=a8;subst ex;obtain rfl:u=X2 a:=rx;obtain⟨t1,t2,_⟩:=Cv I1 d;refine⟨t1,t2,?_⟩;rw[m.trees];refine Qcj O (QcX (Qbl (X3 (he aa s1 σ H1 _ I1 q1) fun iv s2=>L2.Yc fun y H2 I2 ry q2=>
  Qbl (X3 (hf aa s2 σ H2 _ I2 q2) fun fv s3 ⟨z,H3,I3,rz,ov,g,q3⟩=>QbW ?_))))
 exact Qil hu I3 g ry rz fun w' s4 I4 dI=>⟨_,H3,I4,dI,q3⟩
theorem Sg (ho:PE X o td) (he:PE X e ty) (m:M1 X o "pop" aP e aI):PE X (.Call (.Attribute o "pop" aP) [e] [] aI) (Qio td ty):=by
 intro aa s σ H Q I h;refine WZ m.base m.few m.line Qci QfY PySem.F.type_dict_pop (X3 (ho aa s σ H _ I h) fun u s1=>L2.Yc fun x H1 I1 rx a8=>?_);obtain⟨a,ex,d,q1⟩:=a8;subst ex;obtain rfl:u=X2 a:=rx;obtain⟨t1,t2,_⟩:=Cv I1 d;refine⟨t1,t2,?_⟩;rw[m.trees];refine Qcj O (QcX (Qbl (X3 (he aa s1 σ H1 _ I1 q1) fun iv s2 ⟨y,H2,I2,ry,kvs,k,v,ea,ey,l,q2⟩=>QbW ?_)));subst ey;exact Qid I2 ea ry l (.inl O) fun w' s3 I3 dI=>⟨v,_,I3,dI,q2⟩
end
section
variable {kvs:List (Key×V)}
end
end L2
namespace Att
variable {P:Params}{h:Heap}{l:OpenLaw}{n:Nat}
open PySem PySem.W PySem.Calls PyProof.Rows
theorem P3:∀ (ns:List Int) (vs:List L'),WellAll P h vs (ns.map Qhd)->Qcp vs ns:=by
 intro ns
 induction ns with
 | nil=>
  intro vs w;rw[List.map_nil] at w;cases w
  exact .nil
 | cons n ns ih=>
  intro vs w;rw[List.map_cons] at w;cases w with
  | cons a b=>
   cases a
   exact .cons _ _ (ih _ b)
theorem PN (hn:l.most=B' n){args:List WData}{oV:List L'}
  (lG:l.row.toRowW.claim.pre args=D') (dR:WellAll P h oV args) :
  ∃ a vs ns,oV=[X2 a]/\args=[WData.list (ns.map Qhd)]/\h.get? a=B' {cls:=.type "list",data:=.seq vs.toArray}/\Qcp vs ns/\ns.length<=n:=by
 have MS:WShape.hasAll [] args [.list .int]=D':=(pre_splitW lG).1;have hc:l.pre.holds [] {args:=args}=D':=(pre_splitW lG).2;obtain⟨d,r,rfl,h1,h2⟩:=hasAllW_cons MS;obtain rfl:=hasAllW_nil h2;obtain⟨xs,rfl,h3⟩:=hasW_list h1;obtain⟨ns,rfl⟩:=items_int h3;have aw:ns.length<=n:=by
  unfold Qdo.pre at hc;have h4:(WTm.not (.lt (.lit (.int (n:Int))) (.len (.arg 0)))).holds [] {args:=[.list (ns.map .int)]}=D':=by
   have h4:=(holds_andW hc).1;rw[hn] at h4;exact h4
  have h5:=condW_of h4 (w_not (w_lt w_lit (w_len_list (w_arg O))));rw[List.length_map] at h5;refine Nat.le_of_not_lt fun q=>?_
  have q':(n:Int)<((ns.length:Nat):Int):=by lia
  first
   | (rw[decide_eq_true q'] at h5;exact X4 h5 (by decide))
   | (simp at h5;lia)
 cases dR with
 | cons w1 w2=>
  cases w2
  cases w1 with
  | list ho pL=>exact⟨_,_,ns,O,O,ho,P3 ns _ pL,aw⟩
theorem Qx (l:Qdo) (args:List WData):l.row.toRowW.claim.post args (.bool D') args=D':=
 postW_of (r:=l.row.toRowW) (X:=(D' == D'))
  (show QgT [] (.bool D') .bool=D' by first|rfl|decide|simp[QgT,WShape.arms,WShape.armsAll])
  (show(WTm.eq .res (.lit (.bool D'))).value [] {args:=args,res:=B' (.bool D'),after:=args}=B' (.bool (D' == D')) from w_eq_bool (w_res O) w_lit) rfl
theorem zhz {q:YE}{d7:List K'}{XP:(K'->Option L')->Yg->Prop}{YP:YF->Yg->Prop}{d:DefRec}
  (hn:l.most=B' n) (m8:d.params.defaults=[])
  (call:∀ (w:YF) (s₀ s₁:XT) (mg mb:K'->Option L') (fa:F') (o:X6) (pm cd bO:L') (a:F') (vs:List L') (ns:List Int),
   Ground q d7 [] XP w s₀ mg mb s₁.heap->YP w s₁.heap ->
   s₁.heap.get? fa=B' o->o.data=.func (docDef d.name d.params d.body d.scope pm cd bO)->s₁.heap.CodeRec cd d.name->mg d.name=B' (.ref fa) ->
   s₁.heap.get? a=B' {cls:=.type "list",data:=.seq vs.toArray}->Qcp vs ns->ns.length<=n->s₁.gens=#[] ->
   Y4 (XS l.prog w) QbH (.call (.ref fa) ⟨[.ref a],[]⟩) (fun r s'=>r=.ok (.ret (.bool D'))/\OldK s₁.heap s'.heap/\s'.os=s₁.os/\QaD s'.gens) s₁) :
  WalkO q d7 XP YP l.row.toRowW d [] (fun f vs=>Qey f vs):=by
 intro w s₀ s₁ mg mb G Y fa o pm cd bO dV kV ho hd gg hD tV hg args oV as lG Lx Uq dR Tw;obtain rfl:dV=.none:=Dflts.none hD m8;obtain rfl:kV=.none:=Dflts.noKw hD;obtain⟨a,vs,ns,rfl,rfl,pH,jI,aw⟩:=PN hn lG dR;refine enter_call (QaP (call w s₀ s₁ mg mb fa o pm cd bO a vs ns G Y ho (fd_plain hd) gg tV pH jI aw hg) fun r s' hq=>?_);obtain⟨rfl,h2,h3,h4⟩:=hq;exact⟨.inl ⟨.bool D',.bool D',[],O,fun _=>O,.bool D',Qx l _,fun _=>⟨QfQ,fun _ hm=>(nomatch hm)⟩⟩,h2,h3,h4⟩
section
variable {prog:YE}{w:YF}{A:YT}{E:L'->XT->Prop}{s:XT}{K:V'}
end
end Att
namespace L2
variable {A:Around}{C D T a b f fI it p:Addr}{CX:CXT}{E:Value->Shared->Prop}{H H' H1 H2 H₀:Hp}{M:Model}{N XN ps sn:List Str}{P prog:Program}{Q:Unit->Shared->Prop}{R:Result->Shared->Prop}{X:Cx}{a7 aI np pos:Pos}{aN xs ys:List V}{aa:List (Addr×Obj)}{ah bm ds jy sub us:List Value}{base h h' h₁:Heap}{c cd ct fl oc pm sJ u v:Value}{cap:List (Option Nat)}{ch fp:List Addr}{dM:Array (Option Value)}{dd dx:Option Addr}{e gR iter tg:Expr}{env:Env}{es gJ:List Expr}{fd:FuncData}{hs:List ExceptHandler}{i j n t:Nat}{mg:Str->Option Value}{name nm qual x:Str}{newId:String}{o oI oe ox:Obj}{r:List (Str×NameKind)}{s s':Shared}{scope:Scope}{sp:Sp}{st:Stmt}{ta:TE}{tb:Option (Addr×Value)}{tt:TT}{vs:Array Value}{w:World}{wi:TI}{σ σ' τ:St}
open PySem PySem.Spec PyProof.Rows
theorem Je:∀ {vs:List L'}{ns:List Int},Qcp vs ns->aC (ns.map V.int) vs
 | _,_,.nil=>.nil
 | _,_,.cons n t h=>.cons ⟨t,O⟩ (Je h)
def gk (s:Yd) (j:Nat):Yd:=match s with
 | .ClassDef _ _ _ body _ _ _ _ _ _ _=>body.getD j (.Pass ⟨0,0,0,0⟩)
 | _=>.Pass ⟨0,0,0,0⟩
def pS (s:Yd):Qdj:=match s with
 | .FunctionDef _ a _ _ _ _ _ _ _ _=>a
 | _=>{posonlyargs:=[],args:=[],vararg:=C',kwonlyargs:=[],kw_defaults:=[],kwarg:=C',defaults:=[]}
def kE (s:Yd):List Yd:=match s with
 | .FunctionDef _ _ b _ _ _ _ _ _ _=>b
 | _=>[]
def aF (s:Yd):ZD:=match s with
 | .FunctionDef _ _ _ _ _ _ sc _ _ _=>sc
 | _=>{kind:=.function,names:=[],isGenerator:=R',isCoroutine:=R'}
abbrev Yj:CXT:=fun _ _ _ _ _ _=>False
abbrev E0:XK:=fun _ _ _=>False
theorem vB:md Yj X E0:=fun _ _ _ _ _ _ _ h=>h.elim
structure Fun (K:V') (x qual:K') (st:Yd) (f:F') (fd:Z8):Prop where
 ex:∃ (oc:L') (od:Option F') (kV bO pm:L') (an:Option F') (aD ct:L') (dM:Array (Option L')),
  fd=QaO x qual (pS st) (kE st) (aF st) .none kV bO pm an aD ct/\K.lookup f=B' ⟨oc,od,.func fd,dM⟩/\Qau K aD qual=D'
 kp:Qae K (.ref f)=D'
section
variable {K:V'}
end
theorem bf {k:Nat} (hr:bn k A):A.units+1<Yr:=VM (Nat.add_le_add_left (by decide:1<=64) _) hr.units
theorem pv (i:Nat) (hN:X.N[i]?=B' x:=by rfl) (hv:Vis X.env.scope x:=by first|exact Or.inl rfl|exact Or.inr (Or.inl O)|exact Or.inr (Or.inr O)) (hd:(x == ("__debug__":K'))=R':=by decide)
  (gg:(x == ("__classdict__":K'))=R':=by decide):PE X (.Name x pos) (Qdq i):=Qhv hN hv hd gg
theorem Ig:fR X (.builtin "len") (fun xs H Q=>∃ a kvs,xs=[V.ref a]/\H a=B' (.dK kvs)/\Q (.int kvs.length) H):=by
 intro aa s σ H xs us Q I r h;obtain⟨a,kvs,rfl,ha,q⟩:=h;obtain⟨u,rfl,ru⟩:=gv r;cases ru
 exact Qie I (.inl ha) fun t s' I'=>⟨.int kvs.length,H,I',⟨t,O⟩,q⟩
theorem mC {A B:Prop} (h:B):if R'=D' then A else B:=by
 rw[W' UL];exact h
theorem fj {A B:Prop} (h:A):if D'=D' then A else B:=by
 rw[XR rfl];exact h
def af (H H':Hp):Prop:=∀ b o,H b=B' o->H' b=B' o
theorem af.refl (H:Hp):af H H:=fun _ _ h=>h
theorem af.trans (a:af H H1) (b:af H1 H2):af H H2:=fun c o h=>b c o (a c o h)
theorem af.seq {K:V'} (e:af H H') (h:M' K H a xs):M' K H' a xs:=by
 rcases h with(h|⟨o,h⟩)|h
 .exact .inl (.inl (e _ _ h))
 .exact .inl (.inr ⟨o,e _ _ h⟩)
 .exact .inr h
section
variable {κ:Type} [DecidableEq κ]
end
def dW (cells:List (K'×F')):List (K'×Qag)->List (K'×F')->List (K'×F')
 | [],acc=>acc
 | (n,k)::r,acc=>dW cells r (if (k == Zt)=D' then(n,(cells.lookup n).getD 0)::acc else acc)
theorem Ct (h:∀ y∈scope.names,y.2=.free->(env.cells.lookup y.1).isSome=D') :
  closureFor scope env=pure (dW env.cells scope.names []):=by
 simp only[closureFor]
 generalize scope.names=l at h ⊢;generalize ([]:List (K'×F'))=acc
 induction l generalizing acc with
 | nil=>rfl
 | cons x r ih=>
  obtain⟨n,k⟩:=x;have hr:=fun y hy=>h y (UI _ hy)
  by_cases hk:k=.free
  .subst hk
   obtain⟨c,hc⟩:=ZI.mp (h (n,.free) UQ O);have sB:=ih hr ((n,c)::acc);simp only[Wd,cellOf,hc,dW,Qbo,ZY,Option.getD_some] at sB ⊢
   exact sB
  .have hb:(k == Zt)=R':=by simpa using hk
   have sB:=ih hr acc;simp only[Wd,dW,hb,U9,Y3] at sB ⊢
   exact sB
theorem uZ {cells:List (K'×F')}{x:K'}{c:F'}:∀ {l:List (K'×Qag)}{acc:List (K'×F')},(∀ y∈l,y.2=.free->(cells.lookup y.1).isSome=D') ->
  (dW cells l acc).lookup x=B' c->acc.lookup x=B' c\/cells.lookup x=B' c
 | [],_,_,h=>.inl h
 | (n,k)::r,acc,hf,h=>by
  have hr:∀ y∈r,y.2=.free->(cells.lookup y.1).isSome=D':=fun y hy=>hf y (UI _ hy)
  by_cases hk:k=.free
  .subst hk
   rcases uZ (l:=r) hr (show(dW cells r ((n,(cells.lookup n).getD 0)::acc)).lookup x=B' c from h) with q|q
   .rw[Vt] at q
    by_cases hx:x=n
    .subst hx
     rw[Qbo] at q;obtain⟨c',hc⟩:=ZI.mp (hf (x,.free) UQ O);have hc:cells.lookup x=B' c':=hc;rw[hc] at q ⊢;exact .inr q
    .rw[QbX.mpr hx] at q
     exact .inl q
   .exact .inr q
  .have hb:¬ (k == Zt)=D':=by simpa using hk
   have h':(dW cells r (if (k == Zt)=D' then(n,(cells.lookup n).getD 0)::acc else acc)).lookup x=B' c:=h;rw[W' hb] at h';exact uZ hr h'
theorem vP {cells:List (K'×F')}{x:K'}:∀ {l:List (K'×Qag)}{acc:List (K'×F')},((x,Zt)∈l\/(acc.lookup x).isSome=D')->((dW cells l acc).lookup x).isSome=D'
 | [],_,h=>by
  rcases h with h|h
  .cases h
  .exact h
 | (n,k)::r,acc,h=>by
  show((dW cells r (if (k == Zt)=D' then(n,(cells.lookup n).getD 0)::acc else acc)).lookup x).isSome=D';refine vP ?_;rcases h with h|h
  .rcases U1.mp h with e|e
   .cases e
    right
    rw[XR (by rfl),Vt,Qbo];rfl
   .exact .inl e
  .right
   by_cases hb:(k == Zt)=D'
   .rw[XR hb,Vt]
    cases hx:x == n with
    | true=>rfl
    | false=>exact h
   .rw[W' hb]
    exact h
theorem Jx (c:Bool){n:K'}{k:Qag} (hx:(x == n)=D'):((if c=D' then(n,Qai) else(n,k))::r).lookup x=B' (if c=D' then .cell else k):=by
 cases c<;>simp[Vt,hx]
theorem Hy (c:Bool){n:K'}{k:Qag} (hx:(x == n)=R'):((if c=D' then(n,Qai) else(n,k))::r).lookup x=r.lookup x:=by
 cases c<;>simp[Vt,hx]
theorem IY {env:Za}:∀ {names:List (K'×Qag)}{x:K'},names.lookup x=B' .free ->
  (names.map fun(n,k)=>if (k == Zt && env.scope.kind == .function && env.kindOf n == B' .cell) then(n,Qai) else(n,k)).lookup x=B' .cell \/
  (names.map fun(n,k)=>if (k == Zt && env.scope.kind == .function && env.kindOf n == B' .cell) then(n,Qai) else(n,k)).lookup x=B' .free
 | [],_,h=>by simp at h
 | (n,k)::r,x,h=>by
  have ih:=@IY env r x;rw[Vt] at h;rw[Vb];cases hx:x == n with
  | true=>
   rw[hx] at h;cases h
   dsimp only;rw[Jx _ hx];cases (Zt == Zt && env.scope.kind == .function && env.kindOf n == B' .cell) with
   | true=>exact .inl rfl
   | false=>exact .inr rfl
  | false=>
   rw[hx] at h;dsimp only;rw[Hy _ hx];exact ih h
theorem Co {env:Za}:∀ {names:List (K'×Qag)}{x:K'}{k':Qag},(k'=.cell\/k'=.free) ->
  (names.map fun(n,k)=>if (k == Zt && env.scope.kind == .function && env.kindOf n == B' .cell) then(n,Qai) else(n,k)).lookup x=B' k' ->
  ∃ k,(k=.free\/k=.cell)/\(x,k)∈names
 | [],_,_,_,h=>by simp at h
 | (n,k)::r,x,k',hk,h=>by
  have ih:=@Co env r x k' hk;rw[Vb] at h;dsimp only at h;cases hx:x == n with
  | true=>
   have e:x=n:=eq_of_beq hx;subst e;rw[Jx _ hx] at h;cases hc:(k == Zt && env.scope.kind == .function && env.kindOf x == B' .cell) with
   | true=>
    simp only[UU,ZA] at hc
    obtain⟨⟨rfl,_⟩,_⟩:=hc;exact⟨.free,.inl O,UQ⟩
   | false=>
    rw[hc] at h;have h:B' k=B' k':=h;cases h
    rcases hk with rfl|rfl
    .exact⟨_,.inr O,UQ⟩
    .exact⟨_,.inl O,UQ⟩
  | false=>
   rw[Hy _ hx] at h;obtain⟨k2,h1,h2⟩:=ih h;exact⟨k2,h1,UI _ h2⟩
def iY (X:Cx) (scope:ZD) (cl:List (K'×F')) (C:F') (N:List K') (s:XT) (H:Hp) (fp:List F') (aa:List (F'×X6)):Cx:=
 {X with N:=N,s₀:=s,H₀:=H,env:=compEnvC scope cl C X.env,outer:=X.stack,stack:=X.stack,ex:=fp,fn:=fun _=>R',pn:=X.pn++aa,xe:=fun _ _=>False}
def iy (cap:List (Option Nat)) (σ:St):St:=cap.map fun o=>o.bind fun j=>(σ[j]?).join
def Qcu:Option Qag->Bool
 | some .cell=>D'
 | some .free=>D'
 | _=>R'
def hJ (sc:ZD) (XN:List K'):List (Option Nat)->List K'->Bool
 | [],[]=>D'
 | some j::r,x::xs=>(XN[j]? == B' x) && (sc.names.lookup x == B' Zt) && hJ sc XN r xs
 | none::r,_::xs=>hJ sc XN r xs
 | _,_=>R'
def eu (osc sc:ZD) (XN N:List K') (cap:List (Option Nat)):Bool:=
 (sc.kind == ScopeKind.function) && sc.names.all (fun y=>y.2 != Qai) && sc.names.all (fun y=>y.2 != Qag.local || sc.names.lookup y.1 == B' Qag.local) &&
 sc.names.all (fun y=>y.2 != Zt || Qcu (osc.names.lookup y.1)) && hJ sc XN cap N
theorem yt {sc:ZD}{XN:List K'}:∀ {cap:List (Option Nat)}{N:List K'},hJ sc XN cap N=D'->cap.length=N.length
 | [],[],_=>rfl
 | some _::r,_::xs,h=>by
  simp only[hJ,UU] at h
  simp[yt h.2]
 | none::r,_::xs,h=>by
  simp only[hJ] at h
  simp[yt h]
 | [],_::_,h=>by simp[hJ] at h
 | some _::_,[],h=>by simp[hJ] at h
 | none::_,[],h=>by simp[hJ] at h
theorem xA {sc:ZD}{XN:List K'}:∀ {cap:List (Option Nat)}{N:List K'}{i j:Nat}{x:K'},hJ sc XN cap N=D'->cap[i]?=B' (B' j)->N[i]?=B' x->XN[j]?=B' x/\sc.names.lookup x=B' .free
 | [],_,i,_,_,_,h,_=>by simp at h
 | some _::r,y::xs,0,j,x,h,h1,h2=>by
  simp only[hJ,UU,ZA] at h
  simp at h1 h2
  subst h1;subst h2
  exact⟨h.1.1,h.1.2⟩
 | some _::r,y::xs,i+1,j,x,h,h1,h2=>by
  simp only[hJ,UU] at h
  exact xA (i:=i) h.2 (by simpa using h1) (by simpa using h2)
 | none::r,y::xs,0,j,x,h,h1,h2=>by simp at h1
 | none::r,y::xs,i+1,j,x,h,h1,h2=>by
  simp only[hJ] at h
  exact xA (i:=i) h (by simpa using h1) (by simpa using h2)
 | some _::_,[],_,_,_,h,_,_=>by simp[hJ] at h
 | none::_,[],_,_,_,h,_,_=>by simp[hJ] at h
theorem Inv.QbN (I:Inv X aa σ H s) (ok:eu X.env.scope scope X.N N cap=D'):∀ y∈scope.names,y.2=.free->(X.env.cells.lookup y.1).isSome=D':=fun y hy hf=>by
 simp only[eu,UU,VN] at ok
 have h:=ok.1.2 y hy;rw[hf] at h;have h':Qcu (X.env.scope.names.lookup y.1)=D':=by simpa using h
 have hk:X.env.kindOf y.1=B' .cell\/X.env.kindOf y.1=B' .free:=by
  show X.env.scope.names.lookup y.1=_\/X.env.scope.names.lookup y.1=_;cases e:X.env.scope.names.lookup y.1 with
  | none=>rw[e] at h';cases h'
  | some k=>
   rw[e] at h';cases k<;>first|exact .inl rfl|exact .inr rfl|cases h'
 obtain⟨c,e⟩:=I.ok.has y.1 hk;rw[e];rfl
theorem Inv.comp (I:Inv X aa σ H s) (ok:eu X.env.scope scope X.N N cap=D') (f:∀ b∈fp,bE X aa H b) (fo:∀ b∈fp,∃ o,s.heap.get? b=B' o){tk:Nat}{Lo:X6}
  (hn:h₁.Ns (s.heap.push {cls:=.type "list",data:=.seq #[]}).objs.size (fun _=>C'))
  (hs:Zu (s.heap.push {cls:=.type "list",data:=.seq #[]}).objs.size ((s.heap.push {cls:=.type "list",data:=.seq #[]}).push Lo) h₁) :
  Inv (iY X scope (dW X.env.cells scope.names []) (s.heap.push {cls:=.type "list",data:=.seq #[]}).objs.size N {s with heap:=s.heap.push {cls:=.type "list",data:=.seq #[]} } (upd H s.heap.objs.size (.lst [])) fp aa)
   [] (iy cap σ) (upd H s.heap.objs.size (.lst [])) {s with heap:=h₁,toks:=tk}:=by
 have nj:=ok;simp only[eu,UU,VN,ZA] at ok
 obtain⟨⟨⟨⟨bu,bK⟩,_⟩,_⟩,fM⟩:=ok;have cl:=I.QbN nj;have hC:(s.heap.push {cls:=.type "list",data:=.seq #[]}).objs.size=s.heap.objs.size+1:=UY ..;generalize FN:(s.heap.push {cls:=.type "list",data:=.seq #[]}).objs.size=C at hn hs hC ⊢;have below:∀ b o,s.heap.get? b=B' o->b≠C/\b≠s.heap.objs.size:=fun b o e=>by
  have:=Uw e;exact⟨by rw[hC];exact UE (Vk this),UE this⟩
 have old:∀ b o,s.heap.get? b=B' o->h₁.get? b=B' o:=fun b o e=>hs.extBut b o (below b o e).1 (Ut _ (Ut _ e))
 have Ej:∀ b o,s.heap.get? b=B' o->(s.heap.push {cls:=.type "list",data:=.seq #[]}).get? b=B' o:=fun b o e=>Ut _ e
 have ur:∀ b o,(s.heap.push {cls:=.type "list",data:=.seq #[]}).get? b=B' o->h₁.get? b=B' o:=fun b o e=>by
  have:b<C:=by rw[<- FN];exact Uw e
  exact hs.extBut b o (UE this) (Ut _ e)
 have hD:H s.heap.objs.size=C':=I.XU.fresh (Uv _);have hU:∀ b o,s.heap.get? b=B' o->H b=C'->upd H s.heap.objs.size (.lst []) b=C':=fun b o e n=>by rw[ak (below b o e).2];exact n
 have MX:upd H s.heap.objs.size (.lst []) C=C':=by
  rw[ak (by rw[hC];exact Vs (Vi _))];exact I.XU.fresh (by rw[hC];exact Vm _)
 have aS:∀ x c,(dW X.env.cells scope.names []).lookup x=B' c->X.env.cells.lookup x=B' c:=fun x c e=>by
  rcases uZ cl e with q|q
  .simp at q
  .exact q
 have mX:∀ x c,(dW X.env.cells scope.names []).lookup x=B' c->∃ v o,s.heap.IsCell c v/\s.heap.get? c=B' o:=fun x c e=>by
  obtain⟨v,q⟩:=I.cell x c (aS x c e);obtain⟨o,ho,_⟩:=id q;exact⟨v,o,q,ho⟩
 have Bo:Yz X.prog X.w (upd H s.heap.objs.size (.lst [])) h₁:=I.XU.laid old (Uv _) (show cO X.prog X.w _ h₁ s.heap.objs.size (.lst []) from⟨VJ _,[],0,.nil,ur _ _ (UA _ O)⟩);have zS:∀ b∈YG X.stack,∃ o,s.heap.get? b=B' o:=fun b hb=>by
  obtain⟨_,o,ho,_⟩:=I.stack.mem hb;exact⟨o,ho⟩
 refine⟨⟨I.ok.mod,bu,I.ok.glob,I.ok.blt,Wy FN,fun y z c h1 h2=>I.ok.inj y z c (aS y c h1) (aS z c h2),fun y hy=>?_,fun y c hf _=>Qgs hf,I.QaW.new hD,I.ok.frames,.inl O,fun b hb=>?_,
   fun b o e=>⟨Ej b o (I.bs b o e).1,hU b o (I.bs b o e).1 (I.bs b o e).2⟩,?_,fun b o e hb=>?_,fun b hb NE=>?_,?_,fun b hb=>?_⟩,
  rfl,I.bare,Un.kept ur,⟨_,hn,fun i x v h1 h2 h3=>?_⟩,fun x c e=>?_,MX,fun x c e=>?_,fun p hp=>?_,Bo,?_⟩
 ·-- has
  have hy:(relabel scope X.env).names.lookup y=B' .cell\/(relabel scope X.env).names.lookup y=B' .free:=hy;have:(y,Zt)∈scope.names:=by
   rcases hy with q|q
   .obtain⟨k,hk,hm⟩:=Co (.inl O) q
    rcases hk with rfl|rfl
    .exact hm
    .exact X4 (show(Qai != Qai)=D' from bK _ hm) (by decide)
   .obtain⟨k,hk,hm⟩:=Co (.inr O) q
    rcases hk with rfl|rfl
    .exact hm
    .exact X4 (show(Qai != Qai)=D' from bK _ hm) (by decide)
  exact ZI.mp (vP (.inl this))
 ·-- exf
  obtain⟨o,e⟩:=fo b hb;exact⟨(below b o e).1,fun x c q=>(f b hb).2.2.2.2.1 x c (aS x c q)⟩
 ·-- bsz
  show X.base.objs.size<=(s.heap.push {cls:=.type "list",data:=.seq #[]}).objs.size;rw[UY];exact Vn (U5 I.ok.bsz I.sz)
 ·-- QaV
  rcases(f b hb).2.2.2.1 with q|q
  .exact I.ok.QaV b o e q
  .exact X4 (UN (Uw (I.ok.bs b o e).1) q) (UT _)
 ·-- Qbc
  rcases U1.mp (I.ZP b NE) with q|q
  .exact(f b hb).2.1 q
  .exact(f b hb).2.2.1 q
 ·-- ZO
  exact I.stack.of_keeps fun b o e _=>⟨o,Ej b o e,O⟩
 ·-- frf
  obtain⟨o,e⟩:=zS b hb;exact hU b o e (I.Qb4 b hb)
 ·-- loc
  have hi:∃ j,cap[i]?=B' (B' j)/\σ[j]?=B' (B' v):=by
   unfold iy at h2;rw[UJ] at h2;cases e:cap[i]? with
   | none=>rw[e] at h2;cases h2
   | some o=>
    rw[e] at h2;cases o with
    | none=>cases h2
    | some j=>
     refine⟨j,O,?_⟩;have eS:(σ[j]?).join=B' v:=YB h2;cases e2:σ[j]? with
     | none=>rw[e2] at eS;cases eS
     | some o2=>rw[e2] at eS;rw[show o2=B' v from eS]
  obtain⟨j,hj,hv⟩:=hi;obtain⟨hX,oK⟩:=xA fM hj h1;have jw:(x,Zt)∈scope.names:=QaI oK;have tE:=nj;simp only[eu,UU,VN] at tE
  have h':Qcu (X.env.scope.names.lookup x)=D':=by simpa using tE.1.2 _ jw
  have hk:X.env.scope.names.lookup x=B' .cell\/X.env.scope.names.lookup x=B' .free:=by
   cases e:X.env.scope.names.lookup x with
   | none=>rw[e] at h';cases h'
   | some k=>
    rw[e] at h';cases k<;>first|exact .inl rfl|exact .inr rfl|cases h'
  obtain⟨m,_,hl⟩:=I.loc;obtain⟨u,ru,lk⟩:=hl j x v hX hv (hk.elim (fun q=>.inr (.inl q)) fun q=>.inr (.inr q));refine⟨u,ru,.inr ⟨IY oK,?_⟩⟩;rcases lk with⟨q,_⟩|⟨_,c,hc,oN⟩
  .have q':X.env.scope.names.lookup x=B' .local:=q
   rcases hk with z|z
   .rw[z] at q';cases q'
   .rw[z] at q';cases q'
  .obtain⟨c',jD⟩:=ZI.mp (vP (cells:=X.env.cells) (acc:=[]) (.inl jw))
   have:c'=c:=by
    have:=aS x c' jD;rw[hc] at this;exact(YB this).symm
   subst this;obtain⟨o,ho,hd⟩:=oN;exact⟨c',jD,o,old c' o ho,hd⟩
 ·-- cell
  obtain⟨v,o,⟨o',ho,hd⟩,_⟩:=mX x c e;exact⟨v,o',old c o' ho,hd⟩
 ·-- Zg
  obtain⟨v,o,_,ho⟩:=mX x c e;exact hU c o ho (I.Zg x c (aS x c e))
 ·-- aa
  have MZ:p∈X.pn++aa:=by simpa [iY] using hp
  obtain⟨e,n,ne,nf,d⟩:=I.pin p MZ;refine⟨old _ _ e,hU _ _ e n,(below _ _ e).1,fun z=>?_,d⟩;rcases U1.mp (I.ZP p.1 z) with q|q
  .exact ne q
  .exact nf q
 ·-- len
  show(iy cap σ).length=N.length;unfold iy;rw[Us];exact yt fM
theorem OQ {cF:X'}{it acc:L'} (J:Nat->XT->Prop)
  (a9:∀ n s,J n s->N' (XS prog w) A (Yo it) (fun r s₁=>match r with
   | none=>R (.ok .next) s₁
   | some v=>N' (XS prog w) A (Qc9 cF it v) (fun _ s₂=>N' (XS prog w) A (Qa9 cF env v) (fun _ s₃=>
     N' (XS prog w) A (forIn gJ D' fun c r=>if r=D' then do let ok <- Qb3 c env (X9 c env);pure (Qc0 ok) else pure (Qc0 r)) (fun ok s₄=>
      if ok=D' then N' (XS prog w) A (X9 gR env) (fun x s₅=>
       N' (XS prog w) A (call (.builtin "list.append") [acc,x]) (fun _ s₆=>∃ m,m<n/\J m s₆) (fun _ _=>False) s₅) (fun _ _=>False) s₄
      else ∃ m,m<n/\J m s₄) (fun _ _=>False) s₃) (fun _ _=>False) s₂) (fun _ _=>False) s₁) (fun _ _=>False) s)
  (n:Nat) (h:J n s):Y4 (XS prog w) A (.compLoop (.ListComp gR [⟨cF,iter,gJ,0⟩] scope pos) 0 it acc env) R s:=by
 have no:∀ {E:L'->XT->Prop} (e:L') (s':XT),(fun(_:L') (_:XT)=>False) e s'->E e s':=fun _ _ z=>z.elim
 refine codeAny_loop O J (fun n s hI=>?_) n h;show N' _ A ((compTurn (.ListComp gR [⟨cF,iter,gJ,0⟩] scope pos) 0 it acc env).onRaise (fun x=>do Qdh x env;theTreesLotGoes x)) _ _ s;refine wpAny_noted ?_;rw[compTurn_list];refine ow (Wr (ow (Vg (a9 n s hI) (fun r s₁ h₁=>?_) no)));cases r with
 | none=>exact Uu h₁
 | some v=>
  refine ow (Vg h₁ (fun _ s₂ h₂=>ow (Vg h₂ (fun _ s₃ h₃=>ow (Vg h₃ (fun ok s₄ h₄=>?_) no)) no)) no);cases ok with
  | false=>exact Uu ⟨O,h₄⟩
  | true=>
   exact ow (ow (Vg h₄ (fun x s₅ h₅=>ow (Vg h₅ (fun _ s₆ h₆=>Uu (Uu ⟨O,h₆⟩)) no)) no))
def PIf (X:Cx) (cs:List X') (t:TT):Prop:=
 ∀ (aa:List (F'×X6)) (s:XT) (σ:St) (H:Hp) (Q:Bool->Hp->Prop),Inv X aa σ H s->t σ H Q ->
  N' (XS X.prog X.w) X.A (forIn cs D' fun c r=>if r=D' then do let ok <- Qb3 c X.env (X9 c X.env);pure (Qc0 ok) else pure (Qc0 r)) (TP X aa σ Q) X.xe s
def dY:TT:=fun _ H Q=>Q D' H
theorem dE:PIf X [] dY:=fun _ _ _ H _ I h=>wpAny_tests_nil ⟨H,I,h⟩
theorem qp {c:X'}{t:TT} (h:PT X c t):PIf X [c] t:=fun aa s σ H Q I hq=>wpAny_tests_one (h aa s σ H Q I hq)
def kJ (J:It) (D:F') (τ:St) (H:Hp) (g:TG) (tt:TT) (te:TE) (Q:VK):Prop:=
 ∃ W:Nat->Nat->St->Hp->Prop,(∃ m,W 0 m τ H)/\∀ i m τ H,W i m τ H ->
  (J.stop i H/\Q (.ref D) H)\/(J.go i H/\∃ M:St->Hp->Prop,(∀ τ' H',M τ' H'->∃ m',m'<m/\W (i+1) m' τ' H')/\∀ x H',J.yld i H x H'->g x τ H' fun τ2 H2=>tt τ2 H2 fun b H3=>
   if b=D' then te τ2 H3 fun y H4=>∃ ys,H4 D=B' (.lst ys)/\ys.length<XX/\M τ2 (upd H4 D (.lst (ys++[y]))) else M τ2 H3)
def QeZ (wi:TI) (cap:List (Option Nat)) (g:TG) (tt:TT) (te:TE):TE:=fun σ H Q=>wi σ H fun J H1=>∀ D,H1 D=C'->kJ J D (iy cap σ) (upd H1 D (.lst [])) g tt te Q
section
variable {g:TG}{te:TE}
theorem Iv {J:It}{tn:Nat->Yg->Prop}{Q:VK}{RR:L'->F'->Result->XT->Prop}
  (hc:X.calm=D') (ok:eu X.env.scope scope X.N N cap=D')
  (hg:∀ cl C s H fp aa,PG (iY X scope cl C N s H fp aa) tg g) (hf:∀ cl C s H fp aa,PIf (iY X scope cl C N s H fp aa) gJ tt) (he:∀ cl C s H fp aa,PE (iY X scope cl C N s H fp aa) gR te)
  (I:Inv X aa σ H s) (T:ma X.prog X.w X.K tg J fp it tn) (st:tn 0 s.heap) (f:∀ b∈fp,bE X aa H b)
  (q:∀ D,H D=C'->kJ J D (iy cap σ) (upd H D (.lst [])) g tt te Q)
  (aL:∀ D C H' s' m,Inv X aa σ H' s'->bE X aa H' C->s'.heap.Ns C m->Q (.ref D) H'->RR (.ref D) C (.ok .next) s') :
  N' (XS X.prog X.w) X.A (newList []) (fun acc s₃=>N' (XS X.prog X.w) X.A (newFunctionEnv scope X.env.globals (dW X.env.cells scope.names []) [] X.env.qual C' .none (B' X.env)) (fun tU s₄=>
   Y4 (XS X.prog X.w) X.A (.compStart (.ListComp gR [⟨tg,iter,gJ,0⟩] scope pos) 0 (.ref it) acc {tU with scope:=relabel scope X.env}) (RR acc tU.locals) s₄) E s₃) E s:=by
 have mR:=ok;simp only[eu,UU,VN,ZA] at mR
 obtain⟨⟨⟨⟨bu,bK⟩,_⟩,_⟩,fM⟩:=mR;refine V2 (Xp (fun y hy=>by simpa using bK y hy) (by intro y hy;simp at hy) (fun h₁ rY ph=>?_) bu);dsimp only at rY ph ⊢;have fo:∀ b∈fp,∃ o,s.heap.get? b=B' o:=fun b hb=>let ⟨o,e,_⟩:=T.obj _ _ st b hb;⟨o,e⟩
 have J0:=I.comp (h₁:=h₁) (tk:=s.toks+([]:List (K'×L')).length) ok f fo rY ph;have jE:H s.heap.objs.size=C':=I.XU.fresh (Uv _);obtain⟨W,⟨m0,w0⟩,a9⟩:=q _ jE;generalize hY:iY X scope (dW X.env.cells scope.names []) (s.heap.push {cls:=.type "list",data:=.seq #[]}).objs.size N {s with heap:=s.heap.push {cls:=.type "list",data:=.seq #[]} } (upd H s.heap.objs.size (.lst [])) fp aa=Y at J0;have below:∀ b∈fp,b<s.heap.objs.size:=fun b hb=>let ⟨o,e⟩:=fo b hb;Uw e
 have cl:=I.QbN ok;have gW:∀ {H':Hp},(∀ b∈fp,H' b=C')->∀ b∈fp,bE Y [] H' b:=fun {H'} hn b hb=>by
  subst hY;refine⟨hn b hb,?_,fun z=>?_,.inl hb,fun x c e=>?_,fun p hp=>?_⟩
  .show b≠(s.heap.push {cls:=.type "list",data:=.seq #[]}).objs.size
   rw[UY];exact UE (Vk (below b hb))
  .rcases U1.mp (I.ZP b z) with q|q
   .exact(f b hb).2.1 q
   .exact(f b hb).2.2.1 q
  .refine(f b hb).2.2.2.2.1 x c ?_
   rcases uZ cl e with z|z
   .simp at z
   .exact z
  .exact(f b hb).2.2.2.2.2 p (by simpa [iY] using hp)
 have Lz:PG Y tg g:=hY ▸ hg _ _ _ _ _ _;have Ni:PIf Y gJ tt:=hY ▸ hf _ _ _ _ _ _;have NL:PE Y gR te:=hY ▸ he _ _ _ _ _ _;have e1:Y.prog=X.prog:=by subst hY;rfl
 have e2:Y.w=X.w:=by subst hY;rfl
 have e3:Y.K=X.K:=by subst hY;rfl
 have e4:Y.calm=D':=by subst hY;exact hc
 have e5:Y.A=X.A:=by subst hY;rfl
 have e6:Y.env=compEnvC scope (dW X.env.cells scope.names []) (s.heap.push {cls:=.type "list",data:=.seq #[]}).objs.size X.env:=by subst hY;rfl
 have e7:Y.xe=fun _ _=>False:=by subst hY;rfl
 have zC:∀ b∈fp,upd H s.heap.objs.size (.lst []) b=C':=fun b hb=>by rw[ak (UE (below b hb))];exact(f b hb).1
 have st0:tn 0 h₁:=T.keep _ _ _ st fun b hb o e=>ph.extBut b o (by
  have:=below b hb;rw[UY];exact UE (Vk this)) (Ut _ (Ut _ e))
 have loop:∀ s₃:XT,s₃={s with heap:=h₁,toks:=s.toks+([]:List (K'×L')).length} ->
   Y4 (XS X.prog X.w) X.A (.compLoop (.ListComp gR [⟨tg,iter,gJ,0⟩] scope pos) 0 (.ref it) (.ref s.heap.objs.size)
    (compEnvC scope (dW X.env.cells scope.names []) (s.heap.push {cls:=.type "list",data:=.seq #[]}).objs.size X.env)) (RR (.ref s.heap.objs.size) (s.heap.push {cls:=.type "list",data:=.seq #[]}).objs.size) s₃:=by
  rintro s₃ rfl
  refine OQ (fun n s'=>∃ i τ H',Inv Y [] τ H' s'/\tn i s'.heap/\(∀ b∈fp,H' b=C')/\W i n τ H') ?_ m0 ⟨0,_,_,J0,st0,zC,w0⟩;rintro n s' ⟨i,τ,H',I',iq,rX,w'⟩
  rcases a9 i n τ H' w' with⟨stop,qn⟩|⟨go,M,hM,step⟩
  .have z:=T.done Y e1 e2 e3 e4 i [] s' τ H' (fun _ _=>False) I' (gW rX) iq stop
   rw[e5] at z;refine X3 z fun r s4 ⟨hr,I4⟩=>?_
   subst hr;subst hY;obtain⟨m,so,_⟩:=I4.loc;have ho:s4.os=s.os:=I4.os;have un:Un (YG X.stack) fp H H' s.heap s4.heap:=by
    have u1:Un (YG X.stack) fp H (upd H s.heap.objs.size (.lst [])) s.heap (s.heap.push {cls:=.type "list",data:=.seq #[]}):=Un.laid (fun b u e=>Ut _ e) (Uv _) jE;exact u1.trans I4.base
   have IX:Inv X aa σ H' s4:=I.QeK ho un I4.XU I4.bare fun b hb=>⟨(f b hb).2.2.2.1,(f b hb).2.1,(f b hb).2.2.2.2.1,(f b hb).2.2.2.2.2⟩
   exact aL _ _ H' s4 m IX (I.ZQ (by rw[UY];exact Vm _) I4.free) so qn
  .have z:=T.item Y e1 e2 e3 e4 i [] s' τ H' (fun _ _=>False) I' (gW rX) iq go
   rw[e5] at z;refine X3 z fun r s4 ⟨u,hr,h4⟩=>?_
   subst hr;refine X3 h4 fun _ s5=>L2.Yc fun x H5 I5 r5 a8=>?_
   obtain⟨y5,fE,yz⟩:=a8;have zw:=I5.pinned (gW yz) (T.obj _ _ fE);have zg:=Lz _ s5 τ H5 x u _ zw r5 (step x H5 y5);rw[e1,e2,e5,e6,e7] at zg;refine X3 zg fun _ s6 ⟨τ6,H6,I6,q6⟩=>?_
   have zf:=Ni _ s6 τ6 H6 _ I6 q6;rw[e1,e2,e5,e6,e7] at zf;refine X3 zf fun b s7=>L2.ex3 fun H7 I7 q7=>?_
   have again:∀ {H8:Hp}{s8:XT},Inv Y ([]++vO fp s5.heap) τ6 H8 s8->M τ6 H8->∃ m,m<n/\∃ i τ H',Inv Y [] τ H' s8/\tn i s8.heap/\(∀ b∈fp,H' b=C')/\W i m τ H':=fun {H8 s8} I8 w8=>by
    obtain⟨m',hm,w8⟩:=hM _ _ w8;refine⟨m',hm,i+1,τ6,H8,I8.Qcr,T.keep _ _ _ fE fun b hb o e=>(I8.pin (b,o) (UG _ (UG _ (xz hb e)))).1,fun b hb=>?_,w8⟩;obtain⟨o,e,d⟩:=T.obj _ _ fE b hb;exact(I8.pin (b,o) (UG _ (UG _ (xz hb e)))).2.1
   cases b with
   | false=>exact again I7 q7
   | true=>
    have ze:=NL _ s7 τ6 H7 _ I7 q7;rw[e1,e2,e5,e6,e7] at ze;refine X3 ze fun v s8=>L2.Yc fun y H8 I8 r8 a8=>?_
    obtain⟨ys,hD,hz,q8⟩:=a8;have za:=ek (X:=Y) _ s8 τ6 H8 (.ref s.heap.objs.size) [y] (.ref s.heap.objs.size) [v] (fun _ H9=>H9=upd H8 s.heap.objs.size (.lst (ys++[y]))) I8 O (.cons r8 .nil) ⟨_,ys,y,O,O,hD,hz,O⟩;rw[e1,e2,e5,e7] at za;refine X3 za fun _ s9 ⟨_,H9,I9,_,e9⟩=>?_
    subst e9;exact again I9 q8
 exact codeAny_compStart_list (loop _ O) (T.self X.A 0 _ _ _ st0 (loop _ O))
theorem cq {osc:ZD} (h1:X.env.scope=osc) (h2:X.N=XN) (ok:eu osc scope XN N cap=D'):eu X.env.scope scope X.N N cap=D':=by
 rw[h1,h2];exact ok
theorem dF (hc:X.calm=D') (ok:eu X.env.scope scope X.N N cap=D') (hi:PI X tg iter wi)
  (hg:∀ cl C s H fp aa,PG (iY X scope cl C N s H fp aa) tg g) (hf:∀ cl C s H fp aa,PIf (iY X scope cl C N s H fp aa) gJ tt) (he:∀ cl C s H fp aa,PE (iY X scope cl C N s H fp aa) gR te)
  (hs:∀ x,Qen iter X.env x=pure x:=by intro _;rfl):PE X (.ListComp gR [⟨tg,iter,gJ,0⟩] scope pos) (QeZ wi cap g tt te):=by
 intro aa s σ H Q I h;have mR:=ok;simp only[eu,UU,VN,ZA] at mR
 obtain⟨⟨⟨⟨bu,_⟩,gX⟩,_⟩,_⟩:=mR;rw[eval_ListComp];refine W6 (use:=C') O hs (Ct (I.QbN ok)) bu (fun y hy hl=>by simpa [hl] using gX y hy) (X3 (hi aa s σ H _ I h) fun xv s1 h1=>X3 h1 fun xb s2 h2=>?_);obtain⟨it,fp,tn,J,H2,e,I2,T,i7,f2,q⟩:=h2;subst e;refine Iv (RR:=fun acc C=>compPost (XS X.prog X.w) X.A X.xe C' (EP X aa σ Q) acc C) hc ok hg hf he I2 T i7 f2 q ?_;intro D C H' s' m I' fC hn qn;obtain⟨f0,f1,Kq,f3,f4,f5⟩:=fC;exact⟨m,hn,fun h' sb=>⟨.ref D,H',I'.turned (t':=s'.toks) (fun b o hb e=>sb.extBut b o hb e) f0 f1 f3 f4 f5,O,qn⟩⟩
theorem pR {tP:YA} (hN:X.N.Nodup) (Lj:X.N[i]?=B' x) (hx:X.env.scope.names.lookup x=B' .local) (hc:X.calm=D') (ok:eu X.env.scope scope X.N N cap=D') (hi:PI X tg iter wi)
  (hg:∀ cl C s H fp aa,PG (iY X scope cl C N s H fp aa) tg g) (hf:∀ cl C s H fp aa,PIf (iY X scope cl C N s H fp aa) gJ tt) (he:∀ cl C s H fp aa,PE (iY X scope cl C N s H fp aa) gR te)
  (hsw:QbB (.ListComp gR [⟨tg,iter,gJ,0⟩] scope pos) (B' (.Name x a7)) tP.line X.env=pure D')
  (hs:∀ x,Qen iter X.env x=pure x:=by intro _;rfl) :
  PS X (.Assign [.Name x a7] (.ListComp gR [⟨tg,iter,gJ,0⟩] scope pos) tP) (Qds (QeZ wi cap g tt te) (bN i)):=by
 intro aa s σ H D I h;have mR:=ok;simp only[eu,UU,VN,ZA] at mR
 obtain⟨⟨⟨⟨bu,_⟩,gX⟩,_⟩,_⟩:=mR;rw[exec_Assign_Name_used _ _ _ _ hsw];refine ow (Wr (ow ?_));show N' _ X.A (do let _ <- comprehension (.ListComp gR [⟨tg,iter,gJ,0⟩] scope pos) scope X.env _ (newList []) R' (X9 iter X.env) (B' (Qa9 (.Name x a7) X.env))) _ _ s;refine ow (Vg (W6 (use:=B' (Qa9 (.Name x a7) X.env)) (Q:=fun _ s'=>SP X aa D .next s') O hs (Ct (I.QbN ok)) bu (fun y hy hl=>by simpa [hl] using gX y hy)
  (X3 (hi aa s σ H _ I h) fun xv s1 h1=>X3 h1 fun xb s2 h2=>?_)) (fun _ s' hq=>Uu (Uu hq)) fun _ _ e=>e)
 obtain⟨it,fp,tn,J,H2,e,I2,T,i7,f2,q⟩:=h2;subst e;refine Iv (RR:=fun acc C=>compPost (XS X.prog X.w) X.A X.xe (B' (Qa9 (.Name x a7) X.env)) (fun _ s'=>SP X aa D .next s') acc C) hc ok hg hf he I2 T i7 f2 q ?_;intro Dd C H' s' m I' fC hn qn;obtain⟨f0,f1,Kq,f3,f4,f5⟩:=fC;show N' _ X.A (Qa9 (.Name x a7) X.env (.ref Dd)) _ _ _;refine XF (JC I' hN Lj (.inl hx) (v:=.ref Dd) O (fun s3 I3 ⟨a,sb,ha⟩=>?_) (.inr hx));have Kr:C≠a:=by
  rcases ha with z|z
  .rw[z];exact f1
  .exact fun w=>f4 x a z w.symm
 refine⟨m,hn.sameBut sb Kr,fun h' Lg=>?_⟩;exact⟨_,H',I3.turned (t':=s3.toks) (fun b o hb e=>Lg.extBut b o hb e) f0 f1 f3 f4 f5,qn⟩
theorem fQ {K:V'}{Q:VK} (Pv:Nat->St->Hp->Prop) (h0:Pv 0 τ H) (hl:∀ i τ H,i<=xs.length->Pv i τ H->M' K H a xs)
  (hs:∀ i x τ H,xs[i]?=B' x->Pv i τ H->g x τ H fun τ2 H2=>tt τ2 H2 fun b H3=>
   if b=D' then te τ2 H3 fun y H4=>∃ ys,H4 D=B' (.lst ys)/\ys.length<XX/\Pv (i+1) τ2 (upd H4 D (.lst (ys++[y]))) else Pv (i+1) τ2 H3)
  (hd:∀ τ H,Pv xs.length τ H->Q (.ref D) H):kJ (Itl K a) D τ H g tt te Q:=
 wk_ (n:=xs.length) Pv h0 (fun i σ H hi p=>⟨fun h=>⟨xs,xs[i],hl i σ H hi p,by simp[h]⟩,fun h=>⟨xs,hl i σ H hi p,h⟩⟩) (fun i x σ H H' hi p y=>by
 obtain⟨rfl,y⟩:=y;exact hs i x σ _ (y xs (hl i σ _ (VE hi) p)) p) hd
theorem B7 {lo:Int}{Q:VK} (Pv:Nat->St->Hp->Prop) (h0:Pv 0 τ H)
  (hs:∀ i τ H,i<n->Pv i τ H->g (.int (lo+i)) τ H fun τ2 H2=>tt τ2 H2 fun b H3=>
   if b=D' then te τ2 H3 fun y H4=>∃ ys,H4 D=B' (.lst ys)/\ys.length<XX/\Pv (i+1) τ2 (upd H4 D (.lst (ys++[y]))) else Pv (i+1) τ2 H3)
  (hd:∀ τ H,Pv n τ H->Q (.ref D) H):kJ (Itr lo n) D τ H g tt te Q:=
 wk_ (n:=n) Pv h0 (fun _ _ _ _ _=>⟨id,id⟩) (fun i x σ H H' hi p y=>by
 obtain⟨rfl,rfl⟩:=y;exact hs i σ _ hi p) hd
end
section
open PySem.SeqAt
inductive Dt where
 | X1 | bl (b:Bool) | int (i:Int) | str (x:K') | lst (xs:List Dt) | tup (xs:List Dt)
mutual
def YH (K:V') (H:Hp):Dt->V->Prop
 | .X1,x=>x=.X1
 | .bl b,x=>x=.bl b
 | .int i,x=>x=.int i
 | .str z,x=>x=.str z
 | .lst ds,x=>∃ a xs,x=.ref a/\M' K H a xs/\aK K H ds xs
 | .tup ds,x=>∃ a xs,x=.ref a/\Ya K H a xs/\aK K H ds xs
def aK (K:V') (H:Hp):List Dt->List V->Prop
 | [],xs=>xs=[]
 | d::ds,xs=>∃ y ys,xs=y::ys/\YH K H d y/\aK K H ds ys
end
mutual
def iS:Nat->Dt->Prop
 | n+1,.lst ds=>eU n ds
 | n+1,.tup ds=>eU n ds
 | 0,.lst _=>False
 | 0,.tup _=>False
 | _,.X1=>True
 | _,.bl _=>True
 | _,.int _=>True
 | _,.str _=>True
def eU:Nat->List Dt->Prop
 | _,[]=>True
 | n,d::ds=>iS n d/\eU n ds
end
mutual
def Y8:Dt->Dt->Bool
 | .X1,.X1=>D'
 | .bl a,.bl b=>a == b
 | .bl a,.int b=>(if a then 1 else 0) == b
 | .int a,.bl b=>a == (if b then 1 else 0)
 | .int a,.int b=>a == b
 | .str a,.str b=>a == b
 | .lst xs,.lst ys=>eX xs ys
 | .tup xs,.tup ys=>eX xs ys
 | _,_=>R'
def eX:List Dt->List Dt->Bool
 | [],[]=>D'
 | x::xs,y::ys=>Y8 x y && eX xs ys
 | _,_=>R'
end
mutual
theorem rJ:∀ d:Dt,Y8 d d=D'
 | .X1=>rfl
 | .bl b=>by simp[Y8]
 | .int i=>by simp[Y8]
 | .str x=>by simp[Y8]
 | .lst xs=>by
  rw[Y8];exact vF xs
 | .tup xs=>by
  rw[Y8];exact vF xs
theorem vF:∀ ds:List Dt,eX ds ds=D'
 | []=>rfl
 | d::ds=>by rw[eX,rJ d,vF ds];rfl
end
theorem aK.length {K:V'}{H:Hp}:∀ {ds:List Dt}{xs:List V},aK K H ds xs->ds.length=xs.length
 | [],xs,h=>by
  have e:xs=[]:=h;subst e;rfl
 | d::ds,xs,h=>by
  obtain⟨y,ys,e,_,h2⟩:=h;subst e;simp[aK.length h2]
theorem aK.get {K:V'}{H:Hp}:∀ {ds:List Dt}{xs:List V}{j:Nat}{d:Dt},aK K H ds xs->ds[j]?=B' d->∃ x,xs[j]?=B' x/\YH K H d x
 | [],_,_,_,_,e=>by simp at e
 | d::ds,xs,j,d',h,e=>by
  obtain⟨y,ys,e2,h1,h2⟩:=h;subst e2;cases j with
  | zero=>
   simp at e
   subst e;exact⟨y,O,h1⟩
  | succ j=>
   obtain⟨x,hx,hd⟩:=aK.get (j:=j) h2 (by simpa using e);exact⟨x,by simpa using hx,hd⟩
theorem aK.snoc {K:V'}{H:Hp}{d:Dt}{x:V} (hd:YH K H d x):∀ {ds:List Dt}{xs:List V},aK K H ds xs->aK K H (ds++[d]) (xs++[x])
 | [],xs,h=>by
  have e:xs=[]:=h;subst e;exact⟨x,[],O,hd,O⟩
 | e::ds,xs,h=>by
  obtain⟨y,ys,e2,h1,h2⟩:=h;subst e2;exact⟨y,ys++[x],O,h1,h2.snoc hd⟩
theorem aK.append {K:V'}{H:Hp}{es:List Dt}{zs:List V} (hd:aK K H es zs):∀ {ds:List Dt}{xs:List V},aK K H ds xs->aK K H (ds++es) (xs++zs)
 | [],xs,h=>by
  have e:xs=[]:=h;subst e;exact hd
 | e::ds,xs,h=>by
  obtain⟨y,ys,e2,h1,h2⟩:=h;subst e2;exact⟨y,ys++zs,O,h1,aK.append hd h2⟩
theorem eU.get {n:Nat}:∀ {ds:List Dt}{j:Nat}{d:Dt},eU n ds->ds[j]?=B' d->iS n d
 | [],_,_,_,e=>by simp at e
 | d::ds,j,d',h,e=>by
  cases j with
  | zero=>
   simp at e
   subst e;exact h.1
  | succ j=>exact eU.get (j:=j) h.2 (by simpa using e)
theorem eU.of {n:Nat}:∀ {ds:List Dt},(∀ d∈ds,iS n d)->eU n ds
 | [],_=>trivial
 | d::ds,h=>⟨h d UQ,eU.of fun e he=>h e (UI _ he)⟩
theorem af.YV {K:V'} (e:af H H') (h:M' K H a xs):M' K H' a xs:=e.seq h
theorem af.YJ {K:V'} (e:af H H') (h:Ya K H a xs):Ya K H' a xs:=by
 rcases h with(h|⟨o,h⟩)|h
 .exact .inl (.inl (e _ _ h))
 .exact .inl (.inr ⟨o,e _ _ h⟩)
 .exact .inr h
mutual
theorem af.dt {K:V'}{H H':Hp} (e:af H H'):∀ {d:Dt}{x:V},YH K H d x->YH K H' d x
 | .X1,_,h=>h
 | .bl _,_,h=>h
 | .int _,_,h=>h
 | .str _,_,h=>h
 | .lst ds,_,h=>by
  obtain⟨a,xs,e1,h1,h2⟩:=h;exact⟨a,xs,e1,e.YV h1,e.Yf h2⟩
 | .tup ds,_,h=>by
  obtain⟨a,xs,e1,h1,h2⟩:=h;exact⟨a,xs,e1,e.YJ h1,e.Yf h2⟩
theorem af.Yf {K:V'}{H H':Hp} (e:af H H'):∀ {ds:List Dt}{xs:List V},aK K H ds xs->aK K H' ds xs
 | [],_,h=>h
 | d::ds,_,h=>by
  obtain⟨y,ys,e1,h1,h2⟩:=h;exact⟨y,ys,e1,e.dt h1,e.Yf h2⟩
end
theorem af.new {o:HO} (h:H p=C'):af H (upd H p o):=fun b u e=>by
 rw[ak (av e h)];exact e
theorem Inv.Qe0 (I:Inv X aa σ H s) (h:M' X.K H a xs) (h':Ya X.K H a ys):False:=by
 obtain⟨ah,_,pl,_⟩:=I.list h;obtain⟨its',_,pt,_⟩:=I.tuple h';obtain⟨o,n,e,c,_⟩:=pl;obtain⟨o',e',c',_⟩:=pt;rw[e] at e';cases e'
 rw[c] at c';exact X4 c' (by simp)
mutual
theorem Inv.Qcv (I:Inv X aa σ H s):∀ {d e:Dt}{x:V},YH X.K H d x->YH X.K H e x->d=e
 | .X1,e,_,h,h'=>by
  have h:_=V.X1:=h;subst h;cases e with
  | X1=>rfl
  | bl _=>exact nomatch (show V.X1=_ from h')
  | int _=>exact nomatch (show V.X1=_ from h')
  | str _=>exact nomatch (show V.X1=_ from h')
  | lst _=>obtain⟨_,_,q,_⟩:=h';cases q
  | tup _=>obtain⟨_,_,q,_⟩:=h';cases q
 | .bl b,e,_,h,h'=>by
  have h:_=V.bl b:=h;subst h;cases e with
  | X1=>exact nomatch (show V.bl b=_ from h')
  | bl c=>
   have q:V.bl b=V.bl c:=h';cases q
   rfl
  | int _=>exact nomatch (show V.bl b=_ from h')
  | str _=>exact nomatch (show V.bl b=_ from h')
  | lst _=>obtain⟨_,_,q,_⟩:=h';cases q
  | tup _=>obtain⟨_,_,q,_⟩:=h';cases q
 | .int b,e,_,h,h'=>by
  have h:_=V.int b:=h;subst h;cases e with
  | X1=>exact nomatch (show V.int b=_ from h')
  | bl c=>exact nomatch (show V.int b=_ from h')
  | int c=>
   have q:V.int b=V.int c:=h';cases q
   rfl
  | str _=>exact nomatch (show V.int b=_ from h')
  | lst _=>obtain⟨_,_,q,_⟩:=h';cases q
  | tup _=>obtain⟨_,_,q,_⟩:=h';cases q
 | .str b,e,_,h,h'=>by
  have h:_=V.str b:=h;subst h;cases e with
  | X1=>exact nomatch (show V.str b=_ from h')
  | bl c=>exact nomatch (show V.str b=_ from h')
  | int _=>exact nomatch (show V.str b=_ from h')
  | str c=>
   have q:V.str b=V.str c:=h';cases q
   rfl
  | lst _=>obtain⟨_,_,q,_⟩:=h';cases q
  | tup _=>obtain⟨_,_,q,_⟩:=h';cases q
 | .lst ds,e,_,h,h'=>by
  obtain⟨a,xs,e1,h1,h2⟩:=h;subst e1;cases e with
  | X1=>exact nomatch (show V.ref a=_ from h')
  | bl c=>exact nomatch (show V.ref a=_ from h')
  | int _=>exact nomatch (show V.ref a=_ from h')
  | str _=>exact nomatch (show V.ref a=_ from h')
  | lst es=>
   obtain⟨b,ys,e2,h3,h4⟩:=h';cases e2
   have q:=I.QbM h1 h3;subst q;rw[I.Qdx h2 h4]
  | tup es=>
   obtain⟨b,ys,e2,h3,h4⟩:=h';cases e2
   exact(I.Qe0 h1 h3).elim
 | .tup ds,e,_,h,h'=>by
  obtain⟨a,xs,e1,h1,h2⟩:=h;subst e1;cases e with
  | X1=>exact nomatch (show V.ref a=_ from h')
  | bl c=>exact nomatch (show V.ref a=_ from h')
  | int _=>exact nomatch (show V.ref a=_ from h')
  | str _=>exact nomatch (show V.ref a=_ from h')
  | lst es=>
   obtain⟨b,ys,e2,h3,h4⟩:=h';cases e2
   exact(I.Qe0 h3 h1).elim
  | tup es=>
   obtain⟨b,ys,e2,h3,h4⟩:=h';cases e2
   have q:=I.QhE h1 h3;subst q;rw[I.Qdx h2 h4]
theorem Inv.Qdx (I:Inv X aa σ H s):∀ {ds es:List Dt}{xs:List V},aK X.K H ds xs->aK X.K H es xs->ds=es
 | [],es,_,h,h'=>by
  have h:_=[]:=h;subst h;cases es with
  | nil=>rfl
  | cons e es=>obtain⟨_,_,q,_⟩:=h';cases q
 | d::ds,es,_,h,h'=>by
  obtain⟨y,ys,e1,h1,h2⟩:=h;subst e1;cases es with
  | nil=>exact nomatch (show y::ys=[] from h')
  | cons e es=>
   obtain⟨z,zs,q,h3,h4⟩:=h';cases q
   rw[I.Qcv h1 h3,I.Qdx h2 h4]
end
def lZ (ds es:List Dt) (j:Nat):Bool:=Y8 (ds.getD j .X1) (es.getD j .X1)
theorem vX:∀ ds es:List Dt,((YM (min ds.length es.length)).all (lZ ds es) && ds.length == es.length)=eX ds es
 | [],[]=>rfl
 | [],_::_=>by simp[eX]
 | _::_,[]=>by simp[eX]
 | d::ds,e::es=>by
  have ih:=vX ds es;have e1:min (d::ds).length (e::es).length=min ds.length es.length+1:=by simp only[UR];lia
  have e2:((d::ds).length == (e::es).length)=(ds.length == es.length):=by simp
  have e3:(YM (min ds.length es.length+1)).all (lZ (d::ds) (e::es))=(Y8 d e && (YM (min ds.length es.length)).all (lZ ds es)):=by
   rw[WC,WE,Xy];rfl
  rw[e1,e2,e3,eX,<- ih,Bool.and_assoc]
theorem GO {ds es:List Dt} (h:ds.length=es.length):(YM ds.length).all (lZ ds es)=eX ds es:=by
 have:=vX ds es;rw[<- h,Nat.min_self] at this
 simpa using this
theorem Hq {ds es:List Dt} (h:ds.length≠es.length):eX ds es=R':=by
 rw[<- vX ds es];simp[h]
theorem Inv.isL (I:Inv X aa σ H s) (h:M' X.K H a xs):∃ ah:List L',aC xs ah/\s.heap.IsList a ah.toArray:=
 let ⟨ah,r,pl,_⟩:=I.list h
 ⟨ah,r,pl.isList⟩
theorem Inv.isT (I:Inv X aa σ H s) (h:Ya X.K H a xs):∃ ah:List L',aC xs ah/\s.heap.IsTuple a ah.toArray:=
 let ⟨ah,r,pt,_⟩:=I.tuple h
 ⟨ah,r,pt⟩
theorem BJ {ds es:List Dt}{d e:Dt} (h1:ds[j]?=B' d) (h2:es[j]?=B' e):lZ ds es j=Y8 d e:=by
 unfold lZ;rw[Ux,Ux,h1,h2];rfl
theorem eY {α:Type}{l:List α} (h:j<l.length):∃ x,l[j]?=B' x:=⟨l[j],by simp[h]⟩
mutual
theorem Inv.Qb9 (I:Inv X aa σ H s):∀ {d e:Dt}{x y:V}{u v:L'}{n:Nat}{A:YT},YH X.K H d x->YH X.K H e y->aB x u->aB y v->iS n d->A.units+n<Yr->EqAt A s u v (Y8 d e)
 | .X1,e,x,y,u,v,n,A,h,h',rx,ry,_,hu=>by
  have hu:A.units<Yr:=VM (U8 _ _) hu;have h:x=V.X1:=h;subst h;cases e with
  | X1=>
   have h':y=V.X1:=h';subst h';exact fV rx ry O rfl
  | bl c=>
   have h':y=V.bl c:=h';subst h';exact fV rx ry O rfl
  | int c=>
   have h':y=V.int c:=h';subst h';exact fV rx ry O rfl
  | str c=>
   have h':y=V.str c:=h';subst h';exact fV rx ry O rfl
  | lst es=>
   obtain⟨a,ys,rfl,h1,_⟩:=h';obtain rfl:v=X2 a:=ry;obtain⟨ah,_,hl⟩:=I.isL h1;obtain rfl:u=Yw:=rx;exact EqAt.none_list hl hu
  | tup es=>
   obtain⟨a,ys,rfl,h1,_⟩:=h';obtain rfl:v=X2 a:=ry;obtain⟨ah,_,hl⟩:=I.isT h1;obtain rfl:u=Yw:=rx;exact EqAt.none_tuple hl hu
 | .bl b,e,x,y,u,v,n,A,h,h',rx,ry,_,hu=>by
  have hu:A.units<Yr:=VM (U8 _ _) hu;have h:x=V.bl b:=h;subst h;cases e with
  | X1=>
   have h':y=V.X1:=h';subst h';exact fV rx ry O rfl
  | bl c=>
   have h':y=V.bl c:=h';subst h';exact fV rx ry O rfl
  | int c=>
   have h':y=V.int c:=h';subst h';exact fV rx ry O rfl
  | str c=>
   have h':y=V.str c:=h';subst h';exact fV rx ry O rfl
  | lst es=>
   obtain⟨a,ys,rfl,h1,_⟩:=h';obtain rfl:v=X2 a:=ry;obtain⟨ah,_,hl⟩:=I.isL h1;obtain rfl:u=Qaj b:=rx;exact EqAt.bool_list b hl hu
  | tup es=>
   obtain⟨a,ys,rfl,h1,_⟩:=h';obtain rfl:v=X2 a:=ry;obtain⟨ah,_,hl⟩:=I.isT h1;obtain rfl:u=Qaj b:=rx;exact EqAt.bool_tuple b hl hu
 | .int b,e,x,y,u,v,n,A,h,h',rx,ry,_,hu=>by
  have hu:A.units<Yr:=VM (U8 _ _) hu;have h:x=V.int b:=h;subst h;cases e with
  | X1=>
   have h':y=V.X1:=h';subst h';exact fV rx ry O rfl
  | bl c=>
   have h':y=V.bl c:=h';subst h';exact fV rx ry O rfl
  | int c=>
   have h':y=V.int c:=h';subst h';exact fV rx ry O rfl
  | str c=>
   have h':y=V.str c:=h';subst h';exact fV rx ry O rfl
  | lst es=>
   obtain⟨a,ys,rfl,h1,_⟩:=h';obtain rfl:v=X2 a:=ry;obtain⟨ah,_,hl⟩:=I.isL h1;obtain⟨t,rfl⟩:=rx;exact EqAt.int_list b t hl hu
  | tup es=>
   obtain⟨a,ys,rfl,h1,_⟩:=h';obtain rfl:v=X2 a:=ry;obtain⟨ah,_,hl⟩:=I.isT h1;obtain⟨t,rfl⟩:=rx;exact EqAt.int_tuple b t hl hu
 | .str b,e,x,y,u,v,n,A,h,h',rx,ry,_,hu=>by
  have hu:A.units<Yr:=VM (U8 _ _) hu;have h:x=V.str b:=h;subst h;cases e with
  | X1=>
   have h':y=V.X1:=h';subst h';exact fV rx ry O rfl
  | bl c=>
   have h':y=V.bl c:=h';subst h';exact fV rx ry O rfl
  | int c=>
   have h':y=V.int c:=h';subst h';exact fV rx ry O rfl
  | str c=>
   have h':y=V.str c:=h';subst h';exact fV rx ry O rfl
  | lst es=>
   obtain⟨a,ys,rfl,h1,_⟩:=h';obtain rfl:v=X2 a:=ry;obtain⟨ah,_,hl⟩:=I.isL h1;obtain⟨t,rfl⟩:=rx;exact EqAt.str_list b t hl hu
  | tup es=>
   obtain⟨a,ys,rfl,h1,_⟩:=h';obtain rfl:v=X2 a:=ry;obtain⟨ah,_,hl⟩:=I.isT h1;obtain⟨t,rfl⟩:=rx;exact EqAt.str_tuple b t hl hu
 | .lst ds,e,x,y,u,v,n,A,h,h',rx,ry,hd,hu=>by
  obtain⟨a,xs,rfl,g1,g2⟩:=h;obtain rfl:u=X2 a:=rx;obtain⟨ah,rv,hl⟩:=I.isL g1;cases n with
  | zero=>exact Zm hd
  | succ n=>
  have cY:A.units<Yr:=VM (U8 _ _) hu;cases e with
  | X1=>
   have h':y=V.X1:=h';subst h';obtain rfl:v=Yw:=ry;exact EqAt.list_none hl cY
  | bl c=>
   have h':y=V.bl c:=h';subst h';obtain rfl:v=Qaj c:=ry;exact EqAt.list_bool c hl cY
  | int c=>
   have h':y=V.int c:=h';subst h';obtain⟨t,rfl⟩:=ry;exact EqAt.list_int c t hl cY
  | str c=>
   have h':y=V.str c:=h';subst h';obtain⟨t,rfl⟩:=ry;exact EqAt.list_str c t hl cY
  | tup es=>
   obtain⟨b,ys,rfl,h1,_⟩:=h';obtain rfl:v=X2 b:=ry;obtain⟨its',_,dc⟩:=I.isT h1;exact EqAt.list_tuple hl dc cY
  | lst es=>
   obtain⟨b,ys,rfl,h1,h2⟩:=h';obtain rfl:v=X2 b:=ry;obtain⟨its',cH,dc⟩:=I.isL h1;show EqAt A s (.ref a) (.ref b) (eX ds es);by_cases qC:a=b
   .subst qC
    have e:Dt.lst ds=Dt.lst es:=I.Qcv ⟨a,xs,O,g1,g2⟩ ⟨a,ys,O,h1,h2⟩;injection e with e
    subst e;rw[vF];exact Qdg _
   .have n1:ds.length=ah.length:=g2.length.trans rv.length
    have n2:es.length=its'.length:=h2.length.trans cH.length;have items:∀ j (h1:j<ah.toArray.size) (h2:j<its'.toArray.size),EqAt A.in1 s ah.toArray[j] its'.toArray[j] (lZ ds es j):=fun j j1 j2=>by
     have j1:j<ah.length:=by simpa using j1
     have j2:j<its'.length:=by simpa using j2
     obtain⟨d',cJ⟩:=eY (l:=ds) (j:=j) (by lia);obtain⟨e',de⟩:=eY (l:=es) (j:=j) (by lia);obtain⟨x',jg,kx⟩:=g2.get cJ;obtain⟨y',cQ,ky⟩:=h2.get de;obtain⟨u',gC,ru⟩:=rv.get jg;obtain⟨v',dG,ux⟩:=cH.get cQ;have q1:ah.toArray[j]=u':=by
      have:=Yi.mp gC
      simpa using this.2
     have q2:its'.toArray[j]=v':=by
      have:=Yi.mp dG
      simpa using this.2
     rw[q1,q2,BJ cJ de];exact Inv.Qdy I ds j cJ kx ky ru ux (eU.get hd cJ) (show A.units+1+n<Yr by lia)
    by_cases hsz:ah.toArray.size=its'.toArray.size
    .have pN:ds.length=es.length:=by simpa [n1,n2] using hsz
     rw[<- GO pN,n1,<- UK];exact Qet qC (Qhe hl dc hsz cY items)
    .rw[Hq (by simpa [n1,n2] using hsz)]
     exact Qet qC (Qgg hl dc (by simpa using hsz) cY)
 | .tup ds,e,x,y,u,v,n,A,h,h',rx,ry,hd,hu=>by
  obtain⟨a,xs,rfl,g1,g2⟩:=h;obtain rfl:u=X2 a:=rx;obtain⟨ah,rv,hl⟩:=I.isT g1;cases n with
  | zero=>exact Zm hd
  | succ n=>
  have cY:A.units<Yr:=VM (U8 _ _) hu;cases e with
  | X1=>
   have h':y=V.X1:=h';subst h';obtain rfl:v=Yw:=ry;exact EqAt.tuple_none hl cY
  | bl c=>
   have h':y=V.bl c:=h';subst h';obtain rfl:v=Qaj c:=ry;exact EqAt.tuple_bool c hl cY
  | int c=>
   have h':y=V.int c:=h';subst h';obtain⟨t,rfl⟩:=ry;exact EqAt.tuple_int c t hl cY
  | str c=>
   have h':y=V.str c:=h';subst h';obtain⟨t,rfl⟩:=ry;exact EqAt.tuple_str c t hl cY
  | lst es=>
   obtain⟨b,ys,rfl,h1,_⟩:=h';obtain rfl:v=X2 b:=ry;obtain⟨its',_,dc⟩:=I.isL h1;exact EqAt.tuple_list hl dc cY
  | tup es=>
   obtain⟨b,ys,rfl,h1,h2⟩:=h';obtain rfl:v=X2 b:=ry;obtain⟨its',cH,dc⟩:=I.isT h1;show EqAt A s (.ref a) (.ref b) (eX ds es);by_cases qC:a=b
   .subst qC
    have e:Dt.tup ds=Dt.tup es:=I.Qcv ⟨a,xs,O,g1,g2⟩ ⟨a,ys,O,h1,h2⟩;injection e with e
    subst e;rw[vF];exact Qdg _
   .have n1:ds.length=ah.length:=g2.length.trans rv.length
    have n2:es.length=its'.length:=h2.length.trans cH.length;have items:∀ j (h1:j<ah.toArray.size) (h2:j<its'.toArray.size),EqAt A.in1 s ah.toArray[j] its'.toArray[j] (lZ ds es j):=fun j j1 j2=>by
     have j1:j<ah.length:=by simpa using j1
     have j2:j<its'.length:=by simpa using j2
     obtain⟨d',cJ⟩:=eY (l:=ds) (j:=j) (by lia);obtain⟨e',de⟩:=eY (l:=es) (j:=j) (by lia);obtain⟨x',jg,kx⟩:=g2.get cJ;obtain⟨y',cQ,ky⟩:=h2.get de;obtain⟨u',gC,ru⟩:=rv.get jg;obtain⟨v',dG,ux⟩:=cH.get cQ;have q1:ah.toArray[j]=u':=by
      have:=Yi.mp gC
      simpa using this.2
     have q2:its'.toArray[j]=v':=by
      have:=Yi.mp dG
      simpa using this.2
     rw[q1,q2,BJ cJ de];exact Inv.Qdy I ds j cJ kx ky ru ux (eU.get hd cJ) (show A.units+1+n<Yr by lia)
    have q:=Qet qC (Qg5 hl dc cY items);rw[<- vX ds es,n1,n2]
    simpa using q
theorem Inv.Qdy (I:Inv X aa σ H s):∀ (ds:List Dt) (j:Nat){d e:Dt}{x y:V}{u v:L'}{n:Nat}{A:YT},ds[j]?=B' d->YH X.K H d x->YH X.K H e y->aB x u->aB y v->iS n d->A.units+n<Yr->EqAt A s u v (Y8 d e)
 | [],j,_,_,_,_,_,_,_,_,h,_,_,_,_,_,_=>by simp at h
 | c::_,0,d,e,x,y,u,v,n,A,h,hx,hy,ru,rv,hd,hu=>by
  simp at h
  subst h;exact Inv.Qb9 I hx hy ru rv hd hu
 | _::cs,j+1,d,e,x,y,u,v,n,A,h,hx,hy,ru,rv,hd,hu=>Inv.Qdy I cs j (by simpa using h) hx hy ru rv hd hu
end
theorem Inv.items (I:Inv X aa σ H s){ds es:List Dt}{its':List L'} (g2:aK X.K H ds xs) (h2:aK X.K H es ys) (rv:aC xs ah) (cH:aC ys its') (hd:eU n ds)
  (hu:A.units+1+n<Yr):∀ j (h1:j<ah.toArray.size) (h2:j<its'.toArray.size),EqAt A.in1 s ah.toArray[j] its'.toArray[j] (lZ ds es j):=fun j j1 j2=>by
 have n1:ds.length=ah.length:=g2.length.trans rv.length;have n2:es.length=its'.length:=h2.length.trans cH.length;have j1:j<ah.length:=by simpa using j1
 have j2:j<its'.length:=by simpa using j2
 obtain⟨d',cJ⟩:=eY (l:=ds) (j:=j) (by lia);obtain⟨e',de⟩:=eY (l:=es) (j:=j) (by lia);obtain⟨x',jg,kx⟩:=g2.get cJ;obtain⟨y',cQ,ky⟩:=h2.get de;obtain⟨u',gC,ru⟩:=rv.get jg;obtain⟨v',dG,ux⟩:=cH.get cQ;have q1:ah.toArray[j]=u':=by
  have:=Yi.mp gC
  simpa using this.2
 have q2:its'.toArray[j]=v':=by
  have:=Yi.mp dG
  simpa using this.2
 rw[q1,q2,BJ cJ de];exact I.Qb9 kx ky ru ux (eU.get hd cJ) hu
def yw:Dt->Bool
 | .lst _=>D'
 | .tup _=>D'
 | _=>R'
theorem Inv.Qip (I:Inv X aa σ H s){d e:Dt}{x y:V} (bd:yw d=D') (be:yw e=D') (h:YH X.K H d x) (h':YH X.K H e y) (rx:aB x u) (ry:aB y v) (hd:iS n d) (hu:A.units+n<Yr) :
  RcAt A s u v (Y8 d e)/\RcNeAt A s u v (!Y8 d e):=by
 cases n with
 | zero=>cases d<;>first | exact Zm hd | cases bd
 | succ n=>
 have cY:A.units<Yr:=VM (U8 _ _) hu;have ki:A.units+1+n<Yr:=by lia
 cases d with
 | lst ds=>
  obtain⟨a,xs,rfl,g1,g2⟩:=h;obtain rfl:u=X2 a:=rx;obtain⟨ah,rv,hl⟩:=I.isL g1;cases e with
  | lst es=>
   obtain⟨b,ys,rfl,h1,h2⟩:=h';obtain rfl:v=X2 b:=ry;obtain⟨its',cH,dc⟩:=I.isL h1;have n1:ds.length=ah.length:=g2.length.trans rv.length;have n2:es.length=its'.length:=h2.length.trans cH.length;show RcAt A s (.ref a) (.ref b) (eX ds es)/\RcNeAt A s (.ref a) (.ref b) (!eX ds es);by_cases hsz:ah.toArray.size=its'.toArray.size
   .have pN:ds.length=es.length:=by simpa [n1,n2] using hsz
    rw[<- GO pN,n1,<- UK];exact⟨Qhe hl dc hsz cY (I.items g2 h2 rv cH hd ki),RcNeAt.lists hl dc hsz cY (I.items g2 h2 rv cH hd ki)⟩
   .rw[Hq (by simpa [n1,n2] using hsz)]
    exact⟨Qgg hl dc (by simpa using hsz) cY,RcNeAt.lists_lengths hl dc (by simpa using hsz) cY⟩
  | tup es=>
   obtain⟨b,ys,rfl,h1,_⟩:=h';obtain rfl:v=X2 b:=ry;obtain⟨its',_,dc⟩:=I.isT h1;exact⟨RcAt.list_tuple hl dc cY,RcNeAt.list_tuple hl dc cY⟩
  | _=>cases be
 | tup ds=>
  obtain⟨a,xs,rfl,g1,g2⟩:=h;obtain rfl:u=X2 a:=rx;obtain⟨ah,rv,hl⟩:=I.isT g1;cases e with
  | tup es=>
   obtain⟨b,ys,rfl,h1,h2⟩:=h';obtain rfl:v=X2 b:=ry;obtain⟨its',cH,dc⟩:=I.isT h1;have n1:ds.length=ah.length:=g2.length.trans rv.length;have n2:es.length=its'.length:=h2.length.trans cH.length;have q:=Qg5 hl dc cY (I.items g2 h2 rv cH hd ki);have q':=RcNeAt.tuples hl dc cY (I.items g2 h2 rv cH hd ki);show RcAt A s (.ref a) (.ref b) (eX ds es)/\RcNeAt A s (.ref a) (.ref b) (!eX ds es);rw[<- vX ds es,n1,n2];exact⟨by simpa using q,by simpa using q'⟩
  | lst es=>
   obtain⟨b,ys,rfl,h1,_⟩:=h';obtain rfl:v=X2 b:=ry;obtain⟨its',_,dc⟩:=I.isL h1;exact⟨RcAt.tuple_list hl dc cY,RcNeAt.tuple_list hl dc cY⟩
  | _=>cases be
 | _=>cases bd
def Qiq (K:V') (lW:Bool):R2:=fun x y H Q=>∃ d e,yw d=D'/\yw e=D'/\YH K H d x/\YH K H e y/\iS 60 d/\Q (.bl (if lW then !Y8 d e else Y8 d e)) H
theorem Ht (hu:X.A.units+64<Yr):YN X (Zr .NotEq) (Qiq X.K D'):=by
 intro aa s σ H x y v u Q I rx ry h;obtain⟨d,e,bd,be,h1,h2,hd,q⟩:=h;exact(I.Qip bd be h1 h2 rx ry hd (by lia)).2 X.prog X.w _ _ ⟨.bl _,H,I,O,q⟩
end
def Qe1:V->Option L'
 | .ref a=>B' (.ref a)
 | .ty n=>B' (.type n)
 | _=>C'
theorem PL {c:V}{k:L'} (r:aB c u) (e:Qe1 c=B' k):u=k:=by
 cases c with
 | ref a=>
  cases e
  exact r
 | ty n=>
  cases e
  exact r
 | _=>cases e
theorem vj:fR X (.builtin "isinstance") (fun xs H Q=>∃ x c k t b,xs=[x,c]/\Qe1 c=B' k/\iT X.K H x t/\Qbn X.K t k=B' b/\Q (.bl b) H):=by
 intro aa s σ H xs us Q I r h;obtain⟨x,c,k,t,b,rfl,ec,ty,eb,q⟩:=h;obtain⟨u,v,rfl,rx,rc⟩:=pT r;have e:=PL rc ec;subst e;exact Rx I rx ty eb fun tk=>⟨.bl b,H,I.tok tk,O,q⟩
structure ExcAt (H:Hp) (h:Yg) (a:F') (c:L') (dd:Option F') (tb:Option (F'×L')):Prop where
 ob:∃ o vs,h.get? a=B' o/\o.cls=c/\o.dict=dd/\o.data=.fields vs/\vs.size=6/\(∃ cs,jU H cs/\vs[2]?=B' (nxt cs 0))/\vs[1]?=B' (match tb with|none=>.none|some p=>.ref p.1)
 tr:∀ p,tb=B' p->p.1≠a/\∃ oT ts,h.get? p.1=B' oT/\oT.data=.fields ts/\ts[3]?=B' p.2
structure Exc (X:Cx) (aa:List (F'×X6)) (H:Hp) (h:Yg) (a:F') (c:L') (dd:Option F') (tb:Option (F'×L')):Prop where
 fp:bE X aa H a
 fpT:∀ p,tb=B' p->bE X aa H p.1
 at_:ExcAt H h a c dd tb
theorem Sh (o:X6) (f:Array L'->Array L'):(o.mapFields f).dict=o.dict:=by
 obtain⟨c,d,dt,sl⟩:=o;cases dt<;>rfl
theorem Inv.slot0 {tk:Nat} (I:Inv X aa σ H s) (fY:∀ b∈ch,bE X aa H b) (keep:∀ b o,b∉YG X.stack->b∉ch->s.heap.get? b=B' o->h'.get? b=B' o)
  (slot:∀ b o,b∈YG X.stack->s.heap.get? b=B' o->∃ sl,h'.get? b=B' {o with slots:=sl}):Inv X aa σ H {s with heap:=h',toks:=tk}:=by
 have any:∀ b o,b∉ch->s.heap.get? b=B' o->∃ sl,h'.get? b=B' {o with slots:=sl}:=fun b o hc e=>by
  by_cases hb:b∈YG X.stack
  .exact slot b o hb e
  .exact⟨o.slots,keep b o hb hc e⟩
 have sub:∀ b,b∈YG X.stack->b=X.env.locals\/b∈X.fs:=fun b hb=>U1.mp (I.ZP b hb)
 refine I.step (g':=s.gens) (d':=s.drawn) (ch:=ch) (fun b hb=>?_) (fun b o hL hf hc e _=>keep b o (fun z=>(sub b z).elim hL hf) hc e) (fun b o _ _ hc e _=>any b o hc e) (fun _ _ _ _ n=>n) (fun b o hc e=>?_)
  (fun _ _ e=>e) (fun _ _ _ e=>e) (fun _ _ _ e=>e) (fun m hm=>?_) (fun b u e=>?_) I.bare
 .obtain⟨_,f1,_,f3,f4,f5⟩:=fY b hb
  exact⟨f3,f1,f4,f5⟩
 .obtain⟨sl,q⟩:=any b o hc e
  exact⟨_,q⟩
 .obtain⟨o,es,ep,ho,r⟩:=hm
  obtain⟨sl,q⟩:=any _ o (fun z=>(fY _ z).2.1 O) ho;exact⟨_,es,ep,q,r⟩
 .have nf:∀ d v,H d=B' v->d∉YG X.stack/\d∉ch:=fun d v q=>⟨fun z=>(by rw[I.Qb4 d z] at q;cases q),fun z=>(by rw[(fY d z).1] at q;cases q)⟩
  refine(I.XU b u e).ZE (fun d v hd q=>?_) (fun _ q=>q) fun _ _ q=>q
  rcases hd with z|z
  .subst z
   exact keep d v (nf d _ e).1 (nf d _ e).2 q
  .exact keep d v (nf d _ z).1 (nf d _ z).2 q
theorem Inv.slots {tk:Nat} (I:Inv X aa σ H s) (fY:∀ b∈ch,bE X aa H b) (keep:∀ b o,b∉YG X.stack->b∉ch->s.heap.get? b=B' o->h'.get? b=B' o)
  (slot:∀ b o,b∈YG X.stack->s.heap.get? b=B' o->∃ sl,h'.get? b=B' {o with slots:=sl}) (_:∀ b∈ch,∀ o,s.heap.get? b=B' o->∃ o',h'.get? b=B' o'):Inv X aa σ H {s with heap:=h',toks:=tk}:=I.slot0 fY keep slot
def Body (X:Cx):Prop:=X.stack=X.env::X.outer/\X.env.frame=B' X.env.locals
theorem GC {lI:Bool} (B:Body X) (I:Inv X aa σ H s) (fp:bE X aa H a) (he:s.heap.get? a=B' o) (hd:o.data=.fields vs) (hz:vs.size=6)
  (hQ:∀ s' T,Inv X aa σ H s'->s.heap.objs.size<=T->bE X aa H T->T≠a->s'.heap.get? a=B' (o.mapFields (·.setIfInBounds 1 (.ref T)))->(∃ oT ts,s'.heap.get? T=B' oT/\oT.data=.fields ts/\ts[3]?=B' (Yk X.env.locals))->Q () s') :
  N' M X.A (do let f <- frameOf X.env;let pl <- entryPlaceOf X.env.locals lI;let b <- QfT sJ f .none (Yk X.env.locals) .none pl;Qb2 (.ref a) 1 b) Q E s:=by
 have hl:=I.stack;rw[B.1] at hl;have oK:X.A.frames=B' (X.env::X.outer):=by rw[I.ok.frames,B.1]
 have lH:∀ b,bE X aa H b->b∉YG X.stack:=fun b f z=>(U1.mp (I.ZP b z)).elim f.2.1 f.2.2.1
 refine ow (wpAny_frameOf_fun oK hl B.2 fun h₁ bF=>?_);rw[<- B.1] at bF;refine ow (wpAny_entryPlaceOf fun pl cv=>?_);simp only[QfT,newFields]
 refine ow (V2 ?_ (cv.sizeOk5 _ _ _ _ _));generalize Fe:({cls:=.type "traceback",dict:=C',data:=.fields ([sJ,.ref X.env.locals,.none,Yk X.env.locals,.none]++(if pl.isEmpty then X8 6 Yw else pl)).toArray}:X6)=oT;have e1:h₁.get? a=B' o:=(bF.2.1 a (lH a fp)).trans he;have e2:(h₁.push oT).get? a=B' o:=Ut _ e1;have hsz:s.heap.objs.size=h₁.objs.size:=bF.1.symm;have Ek:h₁.objs.size≠a:=Vs (Uw e1);have iF:=QbU hd (·.setIfInBounds 1 (X2 h₁.objs.size));have e3:=U4 (QaN (·.setIfInBounds 1 (X2 h₁.objs.size))) e2 (QcW iF);have eT:((h₁.push oT).update a (QaN (·.setIfInBounds 1 (X2 h₁.objs.size)))).get? h₁.objs.size=B' oT:=
  (UP _ _ (XW Ek)).trans (UA h₁ (by rw[<- Fe];rfl))
 have kp:∀ b q,b≠a->h₁.get? b=B' q->((h₁.push oT).update a (QaN (·.setIfInBounds 1 (X2 h₁.objs.size)))).get? b=B' q:=fun b q hb e=>
  (UP _ _ (XW hb)).trans (Ut _ e)
 refine VI e2 hd (by rw[hz];decide) ?_;refine hQ _ h₁.objs.size (I.slots (ch:=[a]) (tk:=s.toks) (fun b hb=>?_) (fun b q hb hc e=>?_) (fun b q hb e=>?_) (fun b hb q e=>?_)) (Wy hsz) (I.ZQ (Wy hsz) (I.XU.fresh (Wy hsz))) Ek e3 ⟨oT,_,eT,by rw[<- Fe],?_⟩
 .rw[XC.mp hb];exact fp
 .exact kp b q (fun z=>hc (by simp[z])) ((bF.2.1 b hb).trans e)
 .obtain⟨sl,q'⟩:=bF.2.2 b q e
  refine⟨sl,kp b _ (fun z=>?_) q'⟩;subst z;exact lH b fp hb
 .rw[XC.mp hb];exact⟨_,e3⟩
 .first|(simp;done)|(rcases cv with rfl|⟨_,_,_,_,_,_,_,rfl⟩<;>simp)
theorem Qir (hz:vs.size=6) (h2:∃ cs,jU H cs/\vs[2]?=B' (nxt cs 0)):(vs.setIfInBounds 1 v).size=6/\(∃ cs,jU H cs/\(vs.setIfInBounds 1 v)[2]?=B' (nxt cs 0))/\(vs.setIfInBounds 1 v)[1]?=B' v:=by
 refine⟨by simpa using hz,?_,?_⟩
 .obtain⟨cs,hc,h2⟩:=h2
  exact⟨cs,hc,by rw[WI (by decide)];exact h2⟩
 .simp[hz]
theorem Inv.note (B:Body X) (I:Inv X aa σ H s) (x:Exc X aa H s.heap a c dd tb) (je:∀ p,tb=B' p->p.2=.none\/p.2=Yk X.env.locals)
  (hQ:∀ s' T,Inv X aa σ H s'->Exc X aa H s'.heap a c dd (B' (T,Yk X.env.locals))->Q () s'):N' M X.A (Qdh (.ref a) X.env) Q E s:=by
 obtain⟨o,vs,h1,hc,gi,hd,hz,h2,qv⟩:=x.at_.ob;have aL:∀ s' T,Inv X aa σ H s'->bE X aa H T->T≠a->s'.heap.get? a=B' (o.mapFields (·.setIfInBounds 1 (.ref T)))->(∃ oT ts,s'.heap.get? T=B' oT/\oT.data=.fields ts/\ts[3]?=B' (Yk X.env.locals))->Q () s':=fun s' T I' fT ne e' tr=>by
  obtain⟨z1,z2,z3⟩:=Qir (v:=.ref T) hz h2;refine hQ s' T I' ⟨x.fp,fun p q=>?_,⟨_,_,e',(Qgq _ _).trans hc,(Sh _ _).trans gi,QbU hd _,z1,z2,z3⟩,fun p q=>?_⟩
  .cases q;exact fT
  .cases q;exact⟨ne,tr⟩
 unfold Qdh;simp only[B.2]
 cases tb with
 | none=>
  refine ow (UV h1 hd qv ?_);rw[W' (by decide)];exact GC B I x.fp h1 hd hz fun s' T I' _ fT ne e' tr=>aL s' T I' fT ne e' tr
 | some p=>
  obtain⟨T,fl⟩:=p;obtain⟨ne,oT,ts,hT,pG,h3⟩:=x.at_.tr _ rfl;refine ow (UV h1 hd qv ?_);rw[XR (show(X2 T != Yw)=D' from by simp)];refine ow (UV hT pG h3 ?_);rcases je _ rfl with z|z
  .have z:fl=.none:=z
   subst z;rw[W' (show ¬ ((Yw == Yk X.env.locals)=D') from by simp[Yk])];refine ow (VI hT pG (QdX.mp h3).1 ?_);have other:∀ b,b≠T->(s.heap.update T (QaN (·.setIfInBounds 3 Yw))).get? b=s.heap.get? b:=fun b hb=>UP _ _ (XW hb)
   have lH:T∉YG X.stack:=fun z=>(U1.mp (I.ZP T z)).elim (x.fpT _ O).2.1 (x.fpT _ O).2.2.1
   have I1:Inv X aa σ H {s with heap:=s.heap.update T (QaN (·.setIfInBounds 3 Yw))}:=I.slots (ch:=[T]) (tk:=s.toks) (fun b hb=>by rw[XC.mp hb];exact x.fpT _ O)
    (fun b q _ hc e=>(other b fun z=>hc (by simp[z])).trans e) (fun b q hb e=>⟨q.slots,(other b fun z=>lH (z ▸ hb)).trans e⟩)
    (fun b hb q e=>(by obtain rfl:=XC.mp hb;exact⟨_,U4 _ hT (QcW (QbU pG _))⟩))
   exact GC B I1 x.fp ((other a (XW ne)).trans h1) hd hz fun s' T' I' _ Lm MN e' tr=>aL s' T' I' Lm MN e' tr
  .have z:fl=Yk X.env.locals:=z
   subst z;rw[XR (show(Yk X.env.locals == Yk X.env.locals)=D' from Qbo _)];exact Uu (hQ s T I x)
theorem Inv.land (I:Inv X aa σ H s) (x:Exc X aa H s.heap a c dd (B' (T,fl)))
  (hQ:∀ s',Inv X aa σ H s'->Exc X aa H s'.heap a c dd (B' (T,.none))->Q () s'):N' M A (QeG (.ref a) C') Q E s:=by
 obtain⟨o,vs,h1,hc,gi,hd,hz,h2,qv⟩:=x.at_.ob;obtain⟨ne,oT,ts,hT,pG,h3⟩:=x.at_.tr _ rfl;have DY:3<ts.size:=(QdX.mp h3).1;unfold QeG;refine ow (UV h1 hd qv ?_);rw[XR (show(X2 T != Yw)=D' from by simp)];refine VI hT pG DY ?_;have other:∀ b,b≠T->(s.heap.update T (QaN (·.setIfInBounds 3 ((C':Option F').elim Yw fun f=>Yk f)))).get? b=s.heap.get? b:=fun b hb=>UP _ _ (XW hb)
 have self:=U4 (QaN (·.setIfInBounds 3 ((C':Option F').elim Yw fun f=>Yk f))) hT (QcW (QbU pG _));have lH:T∉YG X.stack:=fun z=>(U1.mp (I.ZP T z)).elim (x.fpT _ O).2.1 (x.fpT _ O).2.2.1
 refine hQ _ (I.slots (ch:=[T]) (tk:=s.toks) (fun b hb=>by rw[XC.mp hb];exact x.fpT _ O) (fun b q _ hc e=>(other b fun z=>hc (by simp[z])).trans e)
  (fun b q hb e=>⟨q.slots,(other b fun z=>lH (z ▸ hb)).trans e⟩) (fun b hb q e=>(by obtain rfl:=XC.mp hb;exact⟨_,self⟩))) ⟨x.fp,fun p q=>?_,⟨o,vs,(other a (XW ne)).trans h1,hc,gi,hd,hz,h2,qv⟩,fun p q=>?_⟩
 .cases q;exact x.fpT (T,fl) rfl
 .cases q;exact⟨ne,_,_,self,QbU pG _,by simp[DY]⟩
def Zh (P:YE) (w:YF):CXT:=fun outer H s E e s'=>∃ a c dd T H',e=.ref a/\s'.os=s.os/\QaD s'.gens/\Un (YG outer) [] H H' s.heap s'.heap/\Yz P w H' s'.heap /\
 (s.heap.objs.size<=a/\H' a=C')/\(s.heap.objs.size<=T/\H' T=C')/\ExcAt H' s'.heap a c dd (B' (T,.none))/\E c dd H'
abbrev RK:=St->XK
def PX (X:Cx) (R:RK):Prop:=∀ (aa:List (F'×X6)) (σ:St) (H:Hp) (s:XT) (a:F') (c:L') (dd:Option F') (tb:Option F'),Inv X aa σ H s->Exc X aa H s.heap a c dd (tb.map fun T=>(T,Yw))->R σ c dd H->X.xe (.ref a) s
theorem II {tb:Option F'}:∀ p,(tb.map fun T=>(T,Yw))=B' p->p.2=Yw\/p.2=v:=fun p e=>by
 cases tb with
 | none=>cases e
 | some T=>cases e;exact .inl rfl
theorem eN {K:V'}{outer:List Za}{E:XK} :
  PX (jQ (Zh P w) P w K mg base N qual scope f cd A outer s H E) (fun _=>E):=by
 intro aa σ H' s1 a c dd tb I x hE;have B:Body (jQ (Zh P w) P w K mg base N qual scope f cd A outer s H E):=⟨O,O⟩;show N' _ _ (leaving _ (.ref a)) _ _ s1;unfold leaving;refine ow (I.note B x II fun s2 T I2 x2=>?_);refine I2.land x2 fun s3 I3 x3=>?_
 have sz:∀ b,bE (jQ (Zh P w) P w K mg base N qual scope f cd A outer s H E) aa H' b->s.heap.objs.size<=b/\H' b=C':=fun b fb=>by
  refine⟨?_,fb.1⟩;rcases fb.2.2.2.1 with z|z
  .exact X4 (show b∈([]:List F') from z) (by simp)
  .exact z
 exact⟨a,c,dd,T,H',O,I3.os,I3.bare,I3.base,I3.XU,sz a x3.fp,sz T (x3.fpT _ O),x3.at_,hE⟩
theorem Q3 {R:RK} (hp:PX X R):∀ (aa:List (F'×X6)) (σ:St) (H:Hp) (s:XT) (e:L') (s':XT),Inv X aa σ H s->Zh X.prog X.w X.stack H s (R σ) e s'->X.xe e s':=by
 intro aa σ H s e s' I h;obtain⟨a,c,dd,T,H',rfl,os,bare,un,XU,ha,hT,x,hE⟩:=h;have I':Inv X aa σ H' s':=I.QeK os un XU bare fun b z=>X4 z (by simp)
 refine hp aa σ H' s' a c dd (B' T) I' ⟨I.ZQ ha.1 ha.2,fun p q=>?_,x⟩ hE;cases q
 exact I.ZQ hT.1 hT.2
section
variable {g:Array Qdm}{d:Drawn}{os:OsState}
variable {q:K'}{N:F'}{bs:List L'}{hdct:Bool}{ab:Bool}{col:Option Bool}{k0 k1 k2 k3 k5:Option L'}{B gE:String}
abbrev mj (C t:F'):X6:={cls:=.ref C,data:=.fields #[.ref t,.none,.none,.none,.bool R',.none]}
abbrev nQ (aZ:List L'):X6:={cls:=.type "tuple",data:=.seq aZ.toArray}
theorem Oj (F:ExcBaseFacts B newId gE jy) (T:OwnTail h jy bm){aZ:List L'}{Q:L'->XT->Prop}
  (oC:h.get? C=B' (Qdf nm q C N bs bm hdct sn sub ab col dd k0 k1 k2 k3 k5 newId)) (lk:QaM (XS prog w) h (Qap (.ref C) "__init__") (B' (.builtin gE))) (few:aZ.length<=XX)
  (aL:∀ h',(∀ b o,h.get? b=B' o->h'.get? b=B' o)->h'.get? (h.objs.size+1)=B' (mj C (h.objs.size+2))->Q (.ref (h.objs.size+1)) ⟨h',g,d,t,os⟩) :
  N' (XS prog w) A (call (.ref C) aZ) Q E ⟨h,g,d,t,os⟩:=by
 have l1:=tc_lookup;have l2:=tc_bind (.ref C);have JX:(⟨h,g,d,t,os⟩:XT).TypeIs (.ref C) "type":=⟨_,oC,O⟩;refine Wb (Qer ?_);show N' _ _ (callAny (.ref C) _) _ _ _
 repeat (any_goals (first|assumption|(with_reducible refine VP oC ?_)|wp_step))
 refine⟨O,Qge (Qbm _ (by decide +kernel)) Qhk (W3 oC ?_)⟩;show N' _ (A.under (.builtin "type.__call__" ⟨.ref C::aZ,[]⟩)) (Ze.«type.__call__» ⟨.ref C::aZ,[]⟩) _ _ _
 repeat (first|(with_reducible refine VP oC ?_)|(with_reducible refine QgZ oC ?_)|wp_step)
 refine Qf6 (Qbm _ F.quiet) (Xq F T oC (Qgv F T oC ?_ few));show N' _ _ _ _ _ _;have kk:∀ b o,h.get? b=B' o->((h.push (nQ aZ)).push (mj C h.objs.size)).get? b=B' o:=fun b o e=>Ut _ (Ut _ e)
 have xf:=kk _ _ oC;have oX:((h.push (nQ aZ)).push (mj C h.objs.size)).get? (h.objs.size+1)=B' {cls:=.ref C,data:=.fields #[.ref h.objs.size,.none,.none,.none,.bool R',.none]}:=by heap_get
 have AE:(X2 C::bm).contains (.ref C)=D':=by simp
 have T1:=T.keeps kk;unfold Qb1
 repeat (first|(with_reducible refine VP oX ?_)|(with_reducible refine WQ xf ?_;rw[AE])|wp_step)
 show N' _ _ (Qap (.ref C) _) _ _ _;refine lk _ _ _ _ kk ?_;refine U3 (ow (VG (F.init.bind _) (ow (Wb (QbS F.init.plain F.initEntry (wpAny_check_init_subT F T1 xf oX O ?_))))))
 wp_walk
 refine aL _ (fun b o hb=>?_) ?_
 .rw[UP _ _ (Vs (Vk (Uw hb)))]
  exact Ut _ (kk b o hb)
 .rw[U4 _ (Ut _ oX) rfl]
  simp only[UY];rfl
theorem PB (F:ExcBaseFacts B newId gE jy) (T:OwnTail h jy bm){aZ:List L'}{Q:L'->XT->Prop}
  (oC:h.get? C=B' (Qdf nm q C N bs bm hdct sn sub ab col dd k0 k1 k2 k3 k5 newId)) (lk:QaM (XS prog w) h (Qap (.ref C) "__init__") (B' (.ref fI))) (oF:h.get? fI=B' oI) (fF:oI.cls=.type "function") (few:aZ.length<=XX)
  (aL:N' (XS prog w) (A.under (.builtin "type.__call__" ⟨.ref C::aZ,[]⟩)) (call (.ref fI) (.ref (h.objs.size+1)::aZ)) (fun r s'=>r=.none/\Q (.ref (h.objs.size+1)) s') E ⟨(h.push (nQ aZ)).push (mj C h.objs.size),g,d,t,os⟩) :
  N' (XS prog w) A (call (.ref C) aZ) Q E ⟨h,g,d,t,os⟩:=by
 have l1:=tc_lookup;have l2:=tc_bind (.ref C);have JX:(⟨h,g,d,t,os⟩:XT).TypeIs (.ref C) "type":=⟨_,oC,O⟩;refine Wb (Qer ?_);show N' _ _ (callAny (.ref C) _) _ _ _
 repeat (any_goals (first|assumption|(with_reducible refine VP oC ?_)|wp_step))
 refine⟨O,Qge (Qbm _ (by decide +kernel)) Qhk (W3 oC ?_)⟩;show N' _ (A.under (.builtin "type.__call__" ⟨.ref C::aZ,[]⟩)) (Ze.«type.__call__» ⟨.ref C::aZ,[]⟩) _ _ _
 repeat (first|(with_reducible refine VP oC ?_)|(with_reducible refine QgZ oC ?_)|wp_step)
 refine Qf6 (Qbm _ F.quiet) (Xq F T oC (Qgv F T oC ?_ few));show N' _ _ _ _ _ _;have kk:∀ b o,h.get? b=B' o->((h.push (nQ aZ)).push (mj C h.objs.size)).get? b=B' o:=fun b o e=>Ut _ (Ut _ e)
 have xf:=kk _ _ oC;have Mx:=kk _ _ oF;have oX:((h.push (nQ aZ)).push (mj C h.objs.size)).get? (h.objs.size+1)=B' {cls:=.ref C,data:=.fields #[.ref h.objs.size,.none,.none,.none,.bool R',.none]}:=by heap_get
 have AE:(X2 C::bm).contains (.ref C)=D':=by simp
 unfold Qb1
 repeat (first|(with_reducible refine VP oX ?_)|(with_reducible refine WQ xf ?_;rw[AE])|wp_step)
 show N' _ _ (Qap (.ref C) _) _ _ _;refine lk _ _ _ _ kk ?_;refine U3 (ow ?_);unfold bindSpecial;refine ow (V6 (T:="function") ⟨_,Mx,fF⟩ ?_);rw[XR (by decide)];refine Uu (ow (Vg aL (fun r s' z=>?_) fun _ _ x=>x));obtain⟨rfl,z⟩:=z
 wp_walk
 exact z
theorem Pk {x:Y6 L'}{Q:Qal->XT->Prop} (hb:bm.contains (.type "BaseException")=D')
  (hx:N' M A x (fun v s₁=>∃ e t dx,v=.ref e/\s₁.heap.get? C=B' (Qdf nm q C N bs bm hdct sn sub ab col dd k0 k1 k2 k3 k5 newId)/\s₁.heap.get? e=B' {cls:=.ref C,dict:=dx,data:=.fields #[.ref t,.none,.none,.none,.bool R',.none]}/\N' M A (raiseNew (.ref e):Y6 Qal) Q E s₁) E s) :
  N' M A (raiseStmt env (B' x) C') Q E s:=by
 have KO:(X2 C::bm).contains (.type "BaseException")=D':=by rw[Xz,hb,Wl]
 unfold raiseStmt;refine ow (Vg hx (fun v s₁ z=>?_) fun _ _ y=>y);obtain⟨e,t,dx,rfl,oC,oe,z⟩:=z;obtain⟨hp,g,d,tk,os⟩:=s₁
 repeat (first|exact z|(with_reducible refine VP oe ?_)|(with_reducible refine VP oC ?_)|(with_reducible refine WQ oC ?_;rw[KO])|wp_step)
end
def vW (K:V') (C:F') (jy:List L') (newId:String):Bool:=match K.lookup C with
 | some ⟨.type "type",_,.cls cd,sl⟩=>(match cd.mro,sl.toList with
  | .ref C1::bm,[_,_,_,_,B' (.builtin n),_]=>C1 == C && n == newId && !cd.hasDel && PySem.W.tailIn K jy bm
  | _,_=>R')
 | _=>R'
structure Qe2 (h:Yg) (C:F') (jy bm:List L') (newId:String):Prop where
 obj:∃ nm q N bs hdct sn sub ab col dd k0 k1 k2 k3 k5,h.get? C=B' (Qdf nm q C N bs bm hdct sn sub ab col dd k0 k1 k2 k3 k5 newId)
 tail:OwnTail h jy bm
theorem vI {K:V'} (X:K.In h) (e:vW K C jy newId=D'):∃ bm,Qe2 h C jy bm newId:=by
 unfold vW at e;split at e
 .rename_i d1 c1 s1 at1
  split at e
  .rename_i C1 bm j0 j1 j2 j3 n1 j5 m1 z1
   simp only[UU,ZA,Wj] at e
   obtain⟨⟨⟨rfl,rfl⟩,nd⟩,tl⟩:=e;obtain⟨f1,f2,f3,f4,f5,f6,f7,f8,f9,NJ,T7⟩:=c1;dsimp only at m1 nd;subst m1 nd;obtain rfl:s1=#[j0,j1,j2,j3,B' (.builtin n1),j5]:=by
    obtain⟨l1⟩:=s1;simp only at z1
    rw[z1]
   exact⟨bm,⟨f1,f5,f4,f2,f6,f7,f8,f9,NJ,d1,j0,j1,j2,j3,j5,X _ _ at1⟩,PySem.W.tail_of_in X tl⟩
  .cases e
 .cases e
section
open PySem.Builtin.ObjectAttr
abbrev bmV:List L':=[.type "ValueError",.type "Exception",.type "BaseException",.type "object"]
theorem Qis (self:L'):refuseLoop self "__setattr__" bmV=pure ():=by kernel_rfl
def rO:List L'->Bool
 | .ref _::r=>rO r
 | l=>l == bmV
theorem Iy (self:L'):∀ {l:List L'},rO l=D'->refuseLoop self "__setattr__" l=pure ()
 | .ref c::r,e=>by rw[refuseLoop_ref];exact Iy self (l:=r) (by simpa [rO] using e)
 | [],e=>by cases e
 | .type n::r,e=>by rw[ZA.mp (show((QaQ n::r) == bmV)=D' from e)];exact Qis self
 | .none::r,e=>by cases e
 | .bool _::r,e=>by cases e
 | .int _ _::r,e=>by cases e
 | .str _ _::r,e=>by cases e
 | .bytes _ _::r,e=>by cases e
 | .float _ _::r,e=>by cases e
 | .builtin _::r,e=>by cases e
 | .notImplemented::r,e=>by cases e
 | .ellipsis::r,e=>by cases e
theorem Io:∀ {l:List L'},rO l=D'->l.contains (.type "object")=D'
 | .ref c::r,e=>by rw[Xz,Io (l:=r) (by simpa [rO] using e),Wl]
 | [],e=>by cases e
 | .type n::r,e=>by rw[ZA.mp (show((QaQ n::r) == bmV)=D' from e)];rfl
 | .none::r,e=>by cases e
 | .bool _::r,e=>by cases e
 | .int _ _::r,e=>by cases e
 | .str _ _::r,e=>by cases e
 | .bytes _ _::r,e=>by cases e
 | .float _ _::r,e=>by cases e
 | .builtin _::r,e=>by cases e
 | .notImplemented::r,e=>by cases e
 | .ellipsis::r,e=>by cases e
def Qit (K:V') (C:F'):Bool:=(Qgp K C).any fun cd=>rO cd.mro
structure Qcw (K:V') (C:F') (f:K'):Prop where
 sa:Y2 K (.ref C) "__setattr__"=B' (B' (.builtin "object.__setattr__"))
 ov:Qit K C=D'
 tk:Qc3 K C f=B' C'
 hd:QbV K C=D'
section
variable {K:V'}{x:F'}
theorem RN (X:K.In s.heap) (hx:s.heap.get? x=B' {cls:=.ref C,data:=.fields vs}) (Z:Qcw K C name)
  (aL:∀ h',(∀ b o,b≠x->s.heap.get? b=B' o->h'.get? b=B' o)->h'.get? x=B' {cls:=.ref C,dict:=B' s.heap.objs.size,data:=.fields vs} ->
   h'.Ns1 s.heap.objs.size (fun y=>if y=name then B' v else C')->Q () {s with heap:=h',toks:=s.toks+2}):N' (XS prog w) A (setAttr (.ref x) name v) Q E s:=by
 have J:Qgk s.heap x {cls:=.ref C,data:=.fields vs} C C':=⟨hx,O,O,ZK⟩;refine Qf7 X J Z.sa ?_;have SF:=PySem.F.store_object;obtain⟨cd,hc,ho⟩:=Qef Z.ov;have ne:cd.mro.isEmpty=R':=by cases q:cd.mro with|nil=>rw[q] at ho;cases ho|cons _ _=>rfl
 have JW:QaM (XS prog w) s.heap (Qb1 (.ref x) (.type "object")) D':=J.type.andThen (Qd7 X (by unfold Zq;rw[hc,Option.bind_some,W' (by rw[ne];decide),Io ho]));refine QbS SF.slot.plain SF.entry (@PySem.W.check_slot (XS prog w) _ _ {s with toks:=s.toks+1} "object.__setattr__" "object" "__setattr__" (.ref x) [.str name s.toks,v] [] _ SF.kind SF.split JW (SF.args (.ref x) (.str name s.toks) v) ?_);obtain⟨sU,ha,hr⟩:=QfU.mp Z.tk;have mr:QaM (XS prog w) s.heap (mroOf (.ref C)) cd.mro:=(Qd8 X hc).andThen .now;have tk:QaM (XS prog w) s.heap (storeTaker? sU) C':=by
  cases sU with
  | none=>cases hr;exact .now
  | some a=>
   obtain⟨b,hb,z⟩:=QbP.mp hr;refine(PySem.W.looks_takesIn X hb).andThen ?_;cases b with
   | true=>cases z
   | false=>exact .now
 rw[PySem.W.osa_eq,refuse_eq];refine ow (ow (Qbk (s:={s with toks:=s.toks+1}) J.type (ow (Qbk (s:={s with toks:=s.toks+1}) mr ?_))));rw[Iy _ ho];refine Uu (ow (Qbk (s:={s with toks:=s.toks+1}) J.type (ow (Qbk (s:={s with toks:=s.toks+1}) (QcV X ha) (ow (Qbk (s:={s with toks:=s.toks+1}) tk ?_))))));obtain⟨TW,jD,cJ⟩:=Qef Z.hd;refine ow (Uu (ow (ow (Xl hx (ow (Qbk (s:={s with toks:=s.toks+1}) (Qd8 X jD) ?_))))));rw[cJ];have lt:=Uw hx;have xs:x≠s.heap.objs.size:=UE lt;have D5:(s.heap.push {cls:=.type "dict",data:=.dict #[]}).get? x=B' {cls:=.ref C,data:=.fields vs}:=Ut _ hx;refine ow (wpAny_alloc' (ow (wpAny_update' D5 (Uu (ow (Uu (ow ?_)))))));generalize hG:(s.heap.push {cls:=.type "dict",data:=.dict #[]}).update x (fun o=>{cls:=o.cls,dict:=B' s.heap.objs.size,data:=o.data,slots:=o.slots})=G;have eD:∀ b,b≠x->G.get? b=(s.heap.push {cls:=.type "dict",data:=.dict #[]}).get? b:=fun b hb=>by rw[<- hG];exact UP _ _ (XW hb)
 have gd:G.get? s.heap.objs.size=B' {cls:=.type "dict",data:=.dict #[]}:=(eD _ (XW xs)).trans (UA _ O);have gx:G.get? x=B' {cls:=.ref C,dict:=B' s.heap.objs.size,data:=.fields vs}:=by rw[<- hG,U4 _ D5 rfl]
 have n0:G.Ns s.heap.objs.size (fun _=>C'):=⟨_,#[],_,gd,O,fun e he=>X4 he (by simp),fun _=>O⟩;refine wpAny_nsSet1 (s:=⟨G,s.gens,s.drawn,s.toks+1,s.os⟩) (XG n0) fun h' jV fu=>?_
 obtain⟨oD,J4,NO,AR,cS,Av⟩:=jV.count (ns:=[name]) (fun y hy=>by
  split at hy
  .rename_i z;simp[z]
  .exact X4 O hy)
 refine ow (Qg0 AR (by rw[cS];exact Qg2 (U5 Av (by simp[Uz]))) ?_);refine Uu (aL h' (fun b o hb q=>?_) ((fu.2 _ xs).trans gx) jV);exact(fu.2 b (UE (Uw q))).trans ((eD b hb).trans (Ut _ q))
end
structure Qe3 (K:V') (C:F') (f:K'):Prop where
 ga:Y2 K (.ref C) "__getattribute__"=B' (B' (.builtin "BaseException.__getattribute__"))
 gt:Y2 K (.ref C) "__getattr__"=B' C'
 ba:Zq K C (.type "BaseException")=B' D'
 na:Y2 K (.ref C) f=B' C'
 hd:QbV K C=D'
section
variable {K:V'}{x dx:F'}{mA:K'->Option L'}
end
end
def del (H:Hp) (a:F'):Hp:=fun b=>if b=a then C' else H b
theorem IN:del H a a=C':=by unfold del;rw[XR rfl]
theorem qm (h:b≠a):del H a b=H b:=by unfold del;rw[W' h]
def iB (C t a:F') (dx:Option F'):HO:=.ext fun h=>h.get? a=B' {cls:=.ref C,dict:=dx,data:=.fields #[.ref t,.none,.none,.none,.bool R',.none]}
theorem Inv.del {a:F'}{φ:Yg->Prop} (I:Inv X aa σ H s) (e:H a=B' (.ext φ)):Inv X aa σ (del H a) s:=by
 have ne:∀ b u,H b=B' u->(∀ ψ,u≠.ext ψ)->b≠a:=fun b u q n z=>by rw[z,e] at q;cases q;exact n _ rfl
 have un:Un X.fs X.ex X.H₀ (L2.del H a) X.s₀.heap s.heap:=by
  obtain⟨b1,b2,b3,b4,b5,b6,b7⟩:=I.base;refine⟨b1,b2,fun b o q n x=>?_,b4,fun b xs q=>?_,fun b o u q=>?_,fun b pp pq q=>?_⟩
  .unfold L2.del;split
   .rfl
   .exact b3 b o q n x
  .have:=b5 b xs q
   rw[qm (ne b _ this (by intro ψ z;cases z))];exact this
  .have:=b6 b o u q
   rw[qm (ne b _ this (by intro ψ z;cases z))];exact this
  .have:=b7 b pp pq q
   rw[qm (ne b _ this (by intro ψ z;cases z))];exact this
 have none_of:∀ b,H b=C'->L2.del H a b=C':=fun b q=>by unfold L2.del;split<;>first|rfl|exact q
 refine {I with base:=un,free:=none_of _ I.free,Zg:=fun x c q=>none_of _ (I.Zg x c q),pin:=fun p hp=>?_,XU:=fun b o q=>?_}
 .obtain⟨p1,p2,p3⟩:=I.pin p hp
  exact⟨p1,none_of _ p2,p3⟩
 .by_cases hb:b=a
  .subst hb;rw[IN] at q;cases q
  .rw[qm hb] at q
   refine(I.XU b o q).ZE (fun c u _ r=>r) (fun c r=>?_) (fun c xs r=>?_) fun c ob r=>?_
   .rw[qm (ne c _ r (by intro ψ z;cases z))];exact r
   .rw[qm (ne c _ r (by intro ψ z;cases z))];exact r
   .rw[qm (ne c _ r (by intro ψ z;cases z))];exact r
theorem IK {R:RK}{t:F'}{Q:Qal->XT->Prop} (hp:PX X R) (I:Inv X aa σ H s) (fp:bE X aa H a)
  (he:s.heap.get? a=B' {cls:=.ref C,dict:=dx,data:=.fields #[.ref t,.none,.none,.none,.bool R',.none]}) (hR:R σ (.ref C) dx H):N' (XS X.prog X.w) X.A (raiseNew (.ref a):Y6 Qal) Q X.xe s:=by
 obtain⟨f0,f1,f2,f3,f4,f5⟩:=id fp;refine CC (s:=s) ?_ he O (by simp) fun h' o' kj k1 k2 k3 k4 k5 k6 k7 k8=>?_
 .rcases I.QaW with z|⟨b,cs,z,c⟩
  .exact .inl z
  .exact .inr ⟨b,cs,z,c.chn I.XU,c.Qcq f0⟩
 .have I':Inv X aa σ H {s with heap:=h'}:=I.turned (t':=s.toks) k1 f0 f1 f3 f4 f5
  refine hp aa σ H _ a (.ref C) dx C' I' ⟨fp,fun p q=>(by cases q),⟨⟨o',kj,k2,k3,k4,k5,k6,?_,?_⟩,fun p q=>(by cases q)⟩⟩ hR
  .rcases I.QaW with z|⟨b,cs,z,c⟩
   .rw[z] at k8
    exact⟨[],⟨Wm,fun j a q=>by simp at q⟩,k8⟩
   .rw[z] at k8
    exact⟨b::cs,c,k8⟩
  .exact k7
structure XC0 (K:V') (C:F'):Prop where
 at_:vW K C bmV "ValueError.__new__"=D'
 kp:Qae K (.ref C)=D'
 init:Y2 K (.ref C) "__init__"=B' (B' (.builtin "ValueError.__init__"))
structure XCI (K:V') (C f:F'):Prop where
 at_:vW K C bmV "ValueError.__new__"=D'
 kp:Qae K (.ref C)=D'
 init:Y2 K (.ref C) "__init__"=B' (B' (.ref f))
 fn:Qa8 K (.ref f)=D'
def OX (C:F') (R:RK) (t:TA):TS:=fun _ σ H=>t σ H fun vs H1=>vs.length<=XX/\R σ (.ref C) C' H1
def JJ (C:F') (sp:Sp) (aN:List V) (R:RK) (t:TA):TS:=fun _ σ H=>t σ H fun vs H1=>vs.length<=XX/\∀ a t',H1 a=C' ->
 sp (.ref a::(vs++aN)) (upd H1 a (iB C t' a C')) (fun v H2=>v=.X1/\∃ dx,H2 a=B' (iB C t' a dx)/\R σ (.ref C) dx (del H2 a)) (R σ)
section
variable {R:RK}{t:TA}
theorem GS {a:List X'}{Q:Qal->XT->Prop} (hx:Qe2 s.heap C bmV bm "ValueError.__new__")
  (h:N' (XS X.prog X.w) X.A (X9 (.Call (.Name x np) a [] aI) X.env) (fun v s₁=>∃ b t dx,v=.ref b/\(∀ o,s.heap.get? C=B' o->s₁.heap.get? C=B' o)/\s₁.heap.get? b=B' {cls:=.ref C,dict:=dx,data:=.fields #[.ref t,.none,.none,.none,.bool R',.none]}/\N' (XS X.prog X.w) X.A (raiseNew (.ref b):Y6 Qal) Q X.xe s₁) X.xe s) :
  N' (XS X.prog X.w) X.A (exec (.Raise (B' (.Call (.Name x np) a [] aI)) C' pos) X.env) Q X.xe s:=by
 obtain⟨⟨nm,q,N,bs,hdct,sn,sub,ab,col,dd,k0,k1,k2,k3,k5,oC⟩,T⟩:=hx;rw[arm_exec_Raise];refine ow (Wr (Pk (C:=C) (nm:=nm) (q:=q) (N:=N) (bs:=bs) (bm:=bm) (hdct:=hdct) (sn:=sn) (sub:=sub) (ab:=ab) (col:=col) (dd:=dd) (k0:=k0) (k1:=k1) (k2:=k2) (k3:=k3) (k5:=k5) (newId:="ValueError.__new__") (T.hasType O) (ow (Vg h (fun v s1 z=>ow (Wr (Uu ?_))) fun _ _ y=>y))));obtain⟨b,t,dx,z1,z2,z3,z4⟩:=z;exact⟨b,t,dx,z1,z2 _ oC,z3,z4⟩
theorem QL {s0:XT}{Q:Qal->XT->Prop} (hp:PX X R) (c:XC0 X.K C) (I:Inv X aa σ H s) (hz:us.length<=XX) (hs:∀ o,s0.heap.get? C=B' o->s.heap.get? C=B' o) (hR:R σ (.ref C) C' H) :
  N' (XS X.prog X.w) X.A (call (.ref C) us) (fun v s₁=>∃ b t dx,v=.ref b/\(∀ o,s0.heap.get? C=B' o->s₁.heap.get? C=B' o)/\s₁.heap.get? b=B' {cls:=.ref C,dict:=dx,data:=.fields #[.ref t,.none,.none,.none,.bool R',.none]}/\N' (XS X.prog X.w) X.A (raiseNew (.ref b):Y6 Qal) Q X.xe s₁) X.xe s:=by
 obtain⟨bm,⟨nm,q,N,bs,hdct,sn,sub,ab,col,dd,k0,k1,k2,k3,k5,oC⟩,T⟩:=vI I.Yq c.at_;have I0:=I;obtain⟨h,g,d,tk,os⟩:=s;refine Oj QfH T oC (QcV I.Yq c.init) hz fun h' k' e'=>?_
 have I':Inv X aa σ H ⟨h',g,d,tk,os⟩:=I0.kept (t':=tk) k';refine⟨_,_,C',O,fun o q=>k' _ _ (hs o q),e',IK hp I' ?_ e' hR⟩;exact I0.ZQ (s:=⟨h,g,d,tk,os⟩) (Vm _) (I0.XU.fresh (Vm _))
theorem kt (hp:PX X R) (c:XC0 X.K C) (hg:Gl X x) (hm:X.mg x=B' (.ref C)) (YO:(x == ("__debug__":K'))=R':=by decide):PS X (.Raise (B' (.Call (.Name x np) [] [] aI)) C' pos) (OX C R nW):=by
 intro aa s σ H D I h;obtain⟨bm,xc⟩:=vI I.Yq c.at_;refine GS xc (Vl (p5 I hg hm ?_ YO));exact Qd9 I.Yq c.kp (QL hp c I h.1 (fun _ q=>q) h.2)
variable {k:Nat}
theorem OJ (hp:PX X R) (c:XCI X.K C f) (F:cy X.prog X.w X.K X.mg X.base CX k f fd ps sp) (hr:bn (k+1) X.A) (hb:eh X.K fd ps ds) (hd:aC aN ds) (uz:∀ σ,md CX X (R σ)) (hg:Gl X x) (hm:X.mg x=B' (.ref C)) (ha:PA X (e::es) t)
  (YO:(x == ("__debug__":K'))=R':=by decide) (he:Yb (e::es) X.env=(R',X9 e X.env)::Yb es X.env:=by rfl) (cv:(Yy aI (Yb es X.env)).any (·.1)=R':=by rfl) :
  PS X (.Raise (B' (.Call (.Name x np) (e::es) [] aI)) C' pos) (JJ C sp aN R t):=by
 intro aa s σ H D I h;obtain⟨Ts,xc⟩:=vI I.Yq c.at_;refine GS xc (Vl (p5 I hg hm ?_ YO));refine QbT (h₀:=X.base) I.ok.mod.kin c.kp (X3 (ha aI aa s σ H _ I h) fun us s1 ⟨vs,H1,I1,r,z,q⟩=>⟨I1.Yq,?_⟩) he cv;obtain⟨TY,⟨Tu,q2,N2,TV,DM,T4,Me,Uc,LU,TK,l0,l1,l2,l3,l5,EW⟩,_⟩:=vI I.ok.mod.kin c.at_;have C0:∀ o,s.heap.get? C=B' o->X.base.get? C=B' o:=fun o q=>by rw[I.bk _ _ EW] at q;rw[<- q];exact EW
 obtain⟨bm,⟨nm,qn,N,bs,hdct,sn,sub,ab,col,dd,k0,k1,k2,k3,k5,oC⟩,T⟩:=vI I1.Yq c.at_;have wj:(X.K.lookup f).map (·.cls)=B' (.type "function"):=ZA.mp c.fn;obtain⟨oF,hF,hFc⟩:∃ oF,X.K.lookup f=B' oF/\oF.cls=.type "function":=by
  cases hk:X.K.lookup f with
  | none=>rw[hk] at wj;cases wj
  | some oF=>rw[hk] at wj;exact⟨oF,O,YB wj⟩
 have hz:us.length<=XX:=by rw[<- r.length];exact z
 have J:=I1;obtain⟨bI,g,d,tk,os⟩:=s1;refine PB QfH T oC (QcV I1.Yq c.init) (I1.Yq _ _ hF) hFc hz ?_;have kk:∀ b o,bI.get? b=B' o->((bI.push (nQ us)).push (mj C bI.objs.size)).get? b=B' o:=fun b o e=>Ut _ (Ut _ e)
 have oX:((bI.push (nQ us)).push (mj C bI.objs.size)).get? (bI.objs.size+1)=B' {cls:=.ref C,data:=.fields #[.ref bI.objs.size,.none,.none,.none,.bool R',.none]}:=by heap_get
 have fr:H1 (bI.objs.size+1)=C':=J.XU.fresh (Vm _);have I2:Inv X aa σ (upd H1 (bI.objs.size+1) (iB C bI.objs.size (bI.objs.size+1) C')) ⟨(bI.push (nQ us)).push (mj C bI.objs.size),g,d,tk,os⟩:=
  J.laid (t':=tk) kk (Vm _) ⟨oX,⟨_,oX⟩,fun h1 h2 p1 p2=>p2 _ p1⟩
 have q':=q (bI.objs.size+1) bI.objs.size fr;have r2:aC (V.ref (bI.objs.size+1)::(vs++aN)) (X2 (bI.objs.size+1)::(us++ds)):=.cons O (r.append hd);have hl:(X2 (bI.objs.size+1)::us++ds).length=ps.length:=by
  have e:=r2.length;rw[F.len _ _ _ _ q'] at e;exact e.symm
 refine Wb (QaP (F.run _ X.stack _ _ ⟨X2 (bI.objs.size+1)::us,[]⟩ (X2 (bI.objs.size+1)::(us++ds)) _ _ (R σ) (hr.make C us []) (I2.Qct.make C us []) (hb _ (X2 (bI.objs.size+1)::us) I2.Yq hl) r2 q') fun rr s' gB=>?_);cases rr with
 | error e=>exact uz σ aa σ _ _ e s' I2 gB
 | ok fl=>
  cases fl with
  | ret u=>
   obtain⟨v,H',I3,rv,ev,dx,e3,q3⟩:=I2.after gB;subst ev;refine⟨rv,_,bI.objs.size,dx,O,fun o q=>I3.bk _ _ (C0 o q),(I3.XU _ _ e3).1,?_⟩;refine IK hp (I3.del e3) ?_ (I3.XU _ _ e3).1 q3;exact J.ZQ (s:=⟨bI,g,d,tk,os⟩) (Vm _) IN
  | next=>exact Zm gB
  | brk=>exact Zm gB
  | cont=>exact Zm gB
def Qiu (K:V') (ta tv:TE) (f:K'):TS:=fun D σ H=>tv σ H fun y H1=>ta σ H1 fun x H2=>∃ a C t,x=.ref a/\H2 a=B' (iB C t a C')/\Qcw K C f /\
 ∀ dx,H2 dx=C'->D.nx σ (upd (upd H2 dx (.xd [(f,y)])) a (iB C t a (B' dx)))
theorem FU {o value:X'}{tv:TE}{f:K'} (ha:PE X o ta) (hv:PE X value tv) (hs:QbB value (B' (.Attribute o f a7)) pos.line X.env=pure R'):PS X (.Assign [.Attribute o f a7] value pos) (Qiu X.K ta tv f):=by
 intro aa s σ H D I h;refine QfL (X3 (hv aa s σ H _ I h) fun v s1=>L2.Yc fun y H1 I1 ry q1=>X3 (ha aa s1 σ H1 _ I1 q1) fun u s2=>L2.Yc fun x H2 I2 rx q2=>?_) hs;obtain⟨a,C,t,rfl,e2,Z,q2⟩:=q2;obtain rfl:u=X2 a:=rx;have oa:=(I2.XU _ _ e2).1;refine RN I2.Yq oa Z fun h' k1 k2 k3=>?_
 have dn:H2 s2.heap.objs.size=C':=I2.XU.fresh (Uv _);have da:s2.heap.objs.size≠a:=(av e2 dn).symm;have old:∀ b o,s2.heap.get? b=B' o->b≠s2.heap.objs.size:=fun b o q=>UE (Uw q)
 have na:∀ b u,H2 b=B' u->(∀ ψ,u≠.ext ψ)->b≠a:=fun b u q n z=>by rw[z,e2] at q;cases q;exact n _ rfl
 have nd:∀ b u,H2 b=B' u->b≠s2.heap.objs.size:=fun b u q=>av q dn
 have bi:∀ b u,H2 b=B' u->(∀ ψ,u≠.ext ψ)->upd (upd H2 s2.heap.objs.size (.xd [(f,y)])) a (iB C t a (B' s2.heap.objs.size)) b=B' u:=fun b u q n=>by rw[ak (na b u q n),ak (nd b u q)];exact q
 refine⟨σ,_,I2.un (t':=s2.toks+2) ⟨fun b o q n _ _=>k1 b o (fun z=>?_) q,fun b o q n _ _=>⟨o.slots,k1 b o (fun z=>?_) q⟩,fun b o q n _=>?_,fun b o q _=>?_,fun b xs q=>?_,fun b o u q=>?_,fun b pp pq q=>?_⟩ (fun b o q=>?_),q2 _ dn⟩
 .rw[z,e2] at n;cases n
 .rw[z,e2] at n;cases n
 .rw[ak (fun z=>by rw[z,e2] at n;cases n),ak (old b o q)];exact n
 .by_cases z:b=a
  .subst z;exact⟨_,k2⟩
  .exact⟨o,k1 b o z q⟩
 .exact bi b _ q (by intro ψ z;cases z)
 .exact bi b _ q (by intro ψ z;cases z)
 .exact bi b _ q (by intro ψ z;cases z)
 .by_cases z:b=a
  .subst z
   rw[ai] at q;cases q
   exact⟨k2,⟨_,k2⟩,fun h1 h2 p1 p2=>p2 _ p1⟩
  .rw[ak z] at q
   by_cases z2:b=s2.heap.objs.size
   .subst z2
    rw[ai] at q;cases q
    refine⟨_,k3,fun g=>?_⟩;by_cases hg:g=f
    .subst hg;simpa [eA] using ry
    .have e0:([(f,y)]:List (K'×V)).lookup g=C':=by rw[Vt,show(g == f)=R' from by simpa using hg];rfl
     rw[e0,W' hg];exact ZK
   .rw[ak z2] at q
    refine(I2.XU b o q).ZE (fun c u hc r=>k1 c u ?_ r) (fun c r=>bi c _ r (by intro ψ z;cases z)) (fun c xs r=>bi c _ r (by intro ψ z;cases z)) fun c ob r=>bi c _ r (by intro ψ z;cases z)
    rcases hc with hc|hc
    .rw[hc];exact z
    .exact na c _ hc (by intro ψ z;cases z)
end
section
open PySem.Builtin.ObjectAttr
structure XIs (K:V') (C:F'):Prop where
 ga:Y2 K (.ref C) "__getattribute__"=B' (B' (.builtin "BaseException.__getattribute__"))
 gt:Y2 K (.ref C) "__getattr__"=B' C'
 ba:Zq K C (.type "BaseException")=B' D'
 ob:Zq K C (.type "object")=B' D'
 cl:Y2 K (.ref C) "__class__"=B' (B' (.builtin "object.__class__"))
 gs:Qec K (.builtin "object.__class__") "__get__"=B' (B' (.builtin "getset_descriptor.__get__"))
 tk:Qgf K (.builtin "object.__class__")=B' D'
 hd:QbV K C=D'
section
variable {K:V'}{x:F'}{od:Option X6}
end
structure IsX (H:Hp) (a C:F') (dd:Option F'):Prop where
 at_:∃ o u,H a=B' (.X7 o u)/\o.cls=.ref C/\o.dict=dd/\∃ vs,o.data=.fields vs
end
abbrev Cx.tr (X:Cx) (pn:List (F'×X6)) (E:L'->XT->Prop):Cx:={X with pn:=pn,xe:=E}
abbrev Cx.hnd (X:Cx) (a:F') (H₀:Hp):Cx:={X with A:=X.A.mark (B' (.ref a)),H₀:=H₀,xe:=fun _ _=>False}
def eL (H H₀:Hp):Hp:=fun b=>match H b with|some (.X7 o u)=>B' (.X7 o u)|_=>H₀ b
theorem CP {u:HO} (e:H b=B' (.X7 o u)):eL H H₀ b=B' (.X7 o u):=by unfold eL;rw[e]
theorem xm (n:∀ o u,H b≠B' (.X7 o u)):eL H H₀ b=H₀ b:=by
 unfold eL;split
 .rename_i o u e;exact X4 e (n o u)
 .rfl
theorem Inv.enter (hex:X.ex=[]) (I:Inv X aa σ H s) (x:Exc X aa H s.heap a c dd tb):∃ o,o.cls=c/\o.dict=dd/\(∃ vs,o.data=.fields vs)/\Inv (X.hnd a (eL (upd H a (.X7 o (.own a))) X.H₀)) aa σ (upd H a (.X7 o (.own a))) s:=by
 obtain⟨o,vs,h1,hc,gi,hd,hz,⟨cs,ch,h2⟩,qv⟩:=x.at_.ob;obtain⟨f0,f1,f2,f3,f4,f5⟩:=x.fp;have zM:X.s₀.heap.objs.size<=a:=by
  rcases f3 with z|z
  .rw[hex] at z;cases z
  .exact z
 refine⟨o,hc,gi,⟨vs,hd⟩,?_⟩;have na:∀ b u,H b=B' u->b≠a:=fun b u q=>av q f0
 have old:∀ b ob,X.s₀.heap.get? b=B' ob->b≠a:=fun b ob q=>UE (UN (Uw q) zM)
 have bi:∀ b u,H b=B' u->upd H a (.X7 o (.own a)) b=B' u:=fun b u q=>by rw[ak (na b u q)];exact q
 have fO:∀ b,b≠a->H b=C'->upd H a (.X7 o (.own a)) b=C':=fun b z q=>by rw[ak z];exact q
 have mG:∀ b,b≠a->H b=C'->eL (upd H a (.X7 o (.own a))) X.H₀ b=X.H₀ b:=fun b z q=>xm fun o' u' q'=>by rw[fO b z q] at q';cases q'
 have K:=I.ok;refine {I with ok:=?_,base:=?_,free:=fO _ (XW f1) I.free,Zg:=fun y cl q=>fO _ (f4 y cl q) (I.Zg y cl q),pin:=fun p hp=>?_,XU:=fun b u q=>?_}
 .refine {mod:=K.mod,kind:=K.kind,glob:=K.glob,blt:=K.blt,above:=K.above,inj:=K.inj,has:=K.has,cab:=K.cab,hd:=?_,frames:=K.frames,stk:=K.stk,exf:=K.exf,bs:=fun b ob q=>?_,bsz:=K.bsz,QaV:=K.QaV,Qbc:=K.Qbc,ZO:=K.ZO,frf:=fun b hb=>?_}
  .refine .inr ⟨a,cs,O,WN.mpr ⟨ch.Qcq f0,ch.1⟩,fun j b hj=>?_⟩
   cases j with
   | zero=>
    obtain rfl:a=b:=by simpa using hj
    exact⟨o,.own a,vs,CP ai,hd,h2⟩
   | succ j=>
    have KE:cs[j]?=B' b:=by simpa using hj
    obtain⟨o',u',kj,q1,q2,q3⟩:=ch.2 j b KE;exact⟨o',u',kj,CP (bi _ _ q1),q2,q3⟩
  .obtain⟨q1,q2⟩:=K.bs b ob q
   obtain⟨_,q3⟩:=I.bs b ob q;exact⟨q1,(mG b (old b ob q1) q3).trans q2⟩
  .have pK:b∈X.fs:=hb
   have:=K.frf b pK;have J5:b≠a:=fun z=>f2 (z ▸ pK)
   have h3:H b=C':=I.Qb4 b (by
    rcases K.stk with z|⟨z,y⟩
    .rw[z];exact pK
    .rw[z];unfold YG;rw[Wv,y];exact UI _ pK)
   exact(mG b J5 h3).trans this
 .obtain⟨b1,b2,b3,b4,b5,b6,b7⟩:=I.base
  have back:∀ b ob,X.s₀.heap.get? b=B' ob->eL (upd H a (.X7 o (.own a))) X.H₀ b=C'->X.H₀ b=C':=fun b ob q n=>by
   unfold eL at n;split at n
   .cases n
   .exact n
  refine⟨fun b ob q n=>b1 b ob q (back b ob q n),fun b ob q n=>b2 b ob q (back b ob q n),fun b ob q n z=>fO b (old b ob q) (b3 b ob q (back b ob q n) z),b4,fun b xs q=>?_,fun b ob u q=>?_,fun b pp pq q=>?_⟩
  .replace q:eL (upd H a (.X7 o (.own a))) X.H₀ b=_:=q
   unfold eL at q;split at q
   .cases q
   .exact bi _ _ (b5 b xs q)
  .replace q:eL (upd H a (.X7 o (.own a))) X.H₀ b=_:=q
   unfold eL at q;split at q
   .rename_i e;rw[<- q];exact e
   .exact bi _ _ (b6 b ob u q)
  .replace q:eL (upd H a (.X7 o (.own a))) X.H₀ b=_:=q
   unfold eL at q;split at q
   .cases q
   .exact bi _ _ (b7 b pp pq q)
 .obtain⟨p1,p2,p3⟩:=I.pin p hp
  exact⟨p1,fO _ (f5 p hp) p2,p3⟩
 .by_cases z:b=a
  .subst z
   rw[ai] at q;cases q
   exact⟨h1,⟨_,h1⟩⟩
  .rw[ak z] at q
   exact(I.XU b u q).ZE (fun c' u' _ r=>r) (fun c' r=>bi _ _ r) (fun c' xs r=>bi _ _ r) fun c' ob r=>bi _ _ r
theorem Inv.leave (hex:X.ex=[]) (I:Inv X aa σ H s) (fp:bE X aa H a) (J:Inv (X.hnd a (eL (upd H a (.X7 o (.own a))) X.H₀)) aa σ' H' s'):Inv X aa σ' H' s':=by
 obtain⟨f0,f1,f2,f3,f4,f5⟩:=fp;have zM:X.s₀.heap.objs.size<=a:=by
  rcases f3 with z|z
  .rw[hex] at z;cases z
  .exact z
 have na:∀ b u,H b=B' u->b≠a:=fun b u q=>av q f0
 have old:∀ b ob,X.s₀.heap.get? b=B' ob->b≠a:=fun b ob q=>UE (UN (Uw q) zM)
 have e1:∀ b ob,X.s₀.heap.get? b=B' ob->X.H₀ b=C'->eL (upd H a (.X7 o (.own a))) X.H₀ b=C':=fun b ob q n=>by
  have hb:H b=C':=I.base.free b ob q n (by rw[hex];simp);rw[xm fun o' u' q'=>by rw[ak (old b ob q),hb] at q';cases q'];exact n
 obtain⟨b1,b2,b3,b4,b5,b6,b7⟩:=J.base;refine {J with ok:=I.ok,base:=⟨fun b ob q n=>b1 b ob q (e1 b ob q n),fun b ob q n=>b2 b ob q (e1 b ob q n),fun b ob q n=>b3 b ob q (e1 b ob q n),b4,fun b xs q=>b5 b xs ?_,fun b ob u q=>b6 b ob u ?_,fun b pp pq q=>b7 b pp pq ?_⟩}
 .have h:=I.base.Qaa b xs q
  show eL _ _ _=_;rw[xm fun o' u' q'=>by rw[ak (na _ _ h),h] at q';cases q'];exact q
 .have h:=I.base.ZF b ob u q
  exact CP (by rw[ak (na _ _ h)];exact h)
 .have h:=I.base.ZZ b pp pq q
  show eL _ _ _=_;rw[xm fun o' u' q'=>by rw[ak (na _ _ h),h] at q';cases q'];exact q
theorem HY {Q:Bool->XT->Prop}{K:V'}{e:F'}{b:Bool} (X:K.In s.heap) (he:s.heap.get? e=B' oe) (hc:oe.cls=.ref C) (hb:Zq K C (.ref D)=B' b)
  (hB:Zq K D (.type "BaseException")=B' D') (hT:Qah K (.ref D)=B' (.type "type")) (aL:Q b s):N' M A (excMatches (.ref e) (.ref D)) Q E s:=by
 have L1:=PySem.W.looks_typeIn (M:=M) X hT;have L2:=Qd7 (M:=M) X hB;have L3:=Qd7 (M:=M) X hb;have L4:QaM M s.heap (isType (.ref D)) D':=by
  obtain⟨cd,h1,_⟩:=QfU.mp hB;unfold Qgp at h1;split at h1
  .rename_i c1 d1 e1 s1 at1
   intro A' Q' E' s' k q;unfold isType loadHead;exact ow (Xl (k _ _ (X _ _ at1)) (Uu q))
  .cases h1
 have L5:QaM M s.heap (Qb1 (.ref D) (.type "tuple")) R':=L1.andThen (QkS tc_notTuple);have L6:QaM M s.heap (typeOf (.ref e)) (.ref C):=(QkT he).andThen (by rw[hc];exact .now);have L7:QaM M s.heap (isExcClass (.ref D)) D':=L4.andThen L2;unfold excMatches;refine ow (L5.here ?_);simp only[U9,Y3]
 refine ow (Uu (ow ?_));simp only[Wd,WS]
 refine ow (ow (L7.here ?_));simp only[QgP,U9,Y3]
 refine Uu (Uu (ow (L6.here (ow (ow (ow (L3.here ?_)))))));cases b with
 | true=>
  simp only[ZY]
  exact Uu (Uu (Uu aL))
 | false=>
  simp only[U9,Y3]
  exact Uu (Uu (Uu aL))
theorem xR {n:K'} (I:Inv X aa σ H s) (hN:X.N.Nodup) (hi:X.N[i]?=B' n) (hk:X.env.kindOf n=B' .local)
  (aL:∀ s',Inv X aa (σ.set i C') H s'->Q () s'):N' M A (do bindName X.env n .none;Qgt X.env n pos) Q E s:=by
 obtain⟨m,hn,hl⟩:=id I.loc;have pF:(X.env.scope.kind == .class || (X.env.scope.kind == .module && X.env.locals != X.env.globals))=R':=by rw[I.ok.kind];rfl
 obtain⟨oL,_,_,Df,_⟩:=id hn;refine wpAny_nameGoes_keeps hk hn pF fun h' v kP hs=>aL _ ?_
 have lo:∀ b o,X.s₀.heap.get? b=B' o->b≠X.env.locals:=fun b o e=>UE (UN (Uw e) I.ok.above)
 refine {ok:=I.ok,os:=I.os,bare:=I.bare,base:=⟨fun b o e n hb hx=>(hs.2 b (lo b o e)).trans (I.base.keep b o e n hb hx),fun b o e n hb hx=>?_,I.base.free,fun b o e hx=>?_,I.base.Qaa,I.base.ZF,I.base.ZZ⟩,loc:=⟨_,kP,fun j y v' e1 e2 e3=>?_⟩,cell:=fun y c e=>?_,free:=I.free,Zg:=I.Zg,pin:=fun p hp=>?_,XU:=fun b ob e=>?_,len:=by simpa using I.len}
 .obtain⟨sl,e1⟩:=I.base.slot b o e n hb hx
  exact⟨sl,(hs.2 b (lo b o e)).trans e1⟩
 .obtain⟨o',e1⟩:=I.base.there b o e hx
  exact⟨o',(hs.2 b (lo b o e)).trans e1⟩
 .have hj:j≠i:=fun z=>by
   subst z;have wU:j<σ.length:=by rw[I.len];exact(Yi.mp hi).1
   rw[Wg wU] at e2;cases e2
  rw[Wp (XW hj)] at e2;obtain⟨u',r',q⟩:=hl j y v' e1 e2 e3;refine⟨u',r',?_⟩;rcases q with⟨k,e⟩|⟨k,c,e,z⟩
  .refine .inl ⟨k,?_⟩
   have:y≠n:=fun e=>hj (By hN e1 (e ▸ hi))
   simp[this,e]
  .exact .inr ⟨k,c,e,z.sameBut hs (I.cne y c e)⟩
 .obtain⟨w',z⟩:=I.cell y c e
  exact⟨w',z.sameBut hs (I.cne y c e)⟩
 .obtain⟨e,n,ne,nf,d⟩:=I.pin p hp
  exact⟨(hs.2 p.1 ne).trans e,n,ne,nf,d⟩
 .refine(I.XU b ob e).ZE (fun c w' hc q=>(hs.2 c ?_).trans q) (fun _ q=>q) fun _ _ q=>q
  rintro rfl
  rcases hc with hc|hc
  .rw[<- hc,I.free] at e;cases e
  .rw[I.free] at hc;cases hc
abbrev Hd1:=F'×Option Nat×TS
def dX.as (D:dX) (i:Nat):dX:=⟨fun σ H=>D.nx (σ.set i C') H,D.rt,fun σ H=>D.bk (σ.set i C') H,fun σ H=>D.ct (σ.set i C') H⟩
def xC (K:V'):List Hd1->dX->RK
 | [],_,_,_,_,_=>False
 | (D,i,t)::r,En,σ,c,dd,H=>∃ C b,c=.ref C/\Zq K C (.ref D)=B' b/\if b=D' then ∀ a o,H a=C'->o.cls=c->o.dict=dd->(∃ vs,o.data=.fields vs) ->
   (match i with|none=>t En σ (upd H a (.X7 o (.own a)))|some i=>t (En.as i) (σ.set i (B' (.ref a))) (upd H a (.X7 o (.own a)))) else xC K r En σ c dd H
inductive PHs (X:Cx):List Qdd->List Hd1->Prop where
 | nil:PHs X [] []
 | one {x:K'}{np pos:YA}{b₀:Yd}{su:List Yd}{D:F'}{t:TS}{hs:List Qdd}{ts:List Hd1} (hg:Gl X x) (hm:X.mg x=B' (.ref D)) (hB:Zq X.K D (.type "BaseException")=B' D') (hT:Qah X.K (.ref D)=B' (.type "type"))
   (YO:(x == ("__debug__":K'))=R') (hb:∀ a H₀,Zo (X.hnd a H₀) (b₀::su) t) (r:PHs X hs ts):PHs X (.ExceptHandler (B' (.Name x np)) C' (b₀::su) pos::hs) ((D,C',t)::ts)
 | as_ {x n:K'}{i:Nat}{np pos:YA}{b₀:Yd}{su:List Yd}{D:F'}{t:TS}{hs:List Qdd}{ts:List Hd1} (hg:Gl X x) (hm:X.mg x=B' (.ref D)) (hB:Zq X.K D (.type "BaseException")=B' D') (hT:Qah X.K (.ref D)=B' (.type "type"))
   (YO:(x == ("__debug__":K'))=R') (hN:X.N.Nodup) (hi:X.N[i]?=B' n) (hk:X.env.kindOf n=B' .local) (hb:∀ a H₀,Zo (X.hnd a H₀) (b₀::su) t) (r:PHs X hs ts):PHs X (.ExceptHandler (B' (.Name x np)) (B' n) (b₀::su) pos::hs) ((D,B' i,t)::ts)
theorem Hk {Q:L'->XT->Prop} (I:Inv X aa σ H s) (hg:Gl X x) (hm:X.mg x=B' u) (h:Q u s)
  (hd:(x == ("__debug__":K'))=R'):N' (XS X.prog X.w) A (X9 (.Name x pos) X.env) Q E s:=
 QdW I.ok.kind hg (QfZ (by rw[I.ok.glob];exact I.mod.glob.keeps I.bk) hm h) hd
theorem SP.leave {aa:List (F'×X6)}{σ:St}{H:Hp}{s s':XT}{a:F'}{o:X6}{D:dX}{f:Qal} (hex:X.ex=[]) (I:Inv X aa σ H s) (fp:bE X aa H a) (h:SP (X.hnd a (eL (upd H a (.X7 o (.own a))) X.H₀)) aa D f s'):SP X aa D f s':=by
 cases f with
 | next=>obtain⟨σ',H',J,q⟩:=h;exact⟨σ',H',I.leave hex fp J,q⟩
 | brk=>obtain⟨σ',H',J,q⟩:=h;exact⟨σ',H',I.leave hex fp J,q⟩
 | cont=>obtain⟨σ',H',J,q⟩:=h;exact⟨σ',H',I.leave hex fp J,q⟩
 | ret u=>obtain⟨v,σ',H',J,q⟩:=h;exact⟨v,σ',H',I.leave hex fp J,q⟩
theorem SP.as_ {A:YT}{E:L'->XT->Prop}{aa:List (F'×X6)}{s:XT}{i:Nat}{n:K'}{pos:YA}{D:dX}{f:Qal} (hN:X.N.Nodup) (hi:X.N[i]?=B' n) (hk:X.env.kindOf n=B' .local) (h:SP X aa (D.as i) f s) :
  N' (XS X.prog X.w) A (do bindName X.env n .none;Qgt X.env n pos) (fun _ s'=>SP X aa D f s') E s:=by
 cases f with
 | next=>obtain⟨σ',H',J,q⟩:=h;exact xR J hN hi hk fun s' J'=>⟨_,H',J',q⟩
 | brk=>obtain⟨σ',H',J,q⟩:=h;exact xR J hN hi hk fun s' J'=>⟨_,H',J',q⟩
 | cont=>obtain⟨σ',H',J,q⟩:=h;exact xR J hN hi hk fun s' J'=>⟨_,H',J',q⟩
 | ret u=>obtain⟨v,σ',H',J,q⟩:=h;exact xR J hN hi hk fun s' J'=>⟨v,_,H',J',q⟩
theorem Qc {ts:List Hd1} (hex:X.ex=[]) (P:PHs X hs ts):∀ {aa:List (F'×X6)}{σ:St}{H:Hp}{s:XT}{a:F'}{c:L'}{dd:Option F'}{T:F'}{D:dX},Inv X aa σ H s->Exc X aa H s.heap a c dd (B' (T,.none))->xC X.K ts D σ c dd H ->
  N' (XS X.prog X.w) X.A (handleBy (.ref a) X.env hs) (SP X aa D) X.xe s:=by
 induction P with
 | nil=>intro aa σ H s a c dd T D I x h;exact h.elim
 | @one x np pos b₀ su Dc t hs ts hg hm hB hT YO hb r ih=>
  intro aa σ H s a c dd T D I x h;obtain⟨C,b,rfl,pM,h⟩:=h;obtain⟨o,vs,h1,hc,_⟩:=x.at_.ob;refine Xr (Qgo (Hk I hg hm (HY I.Yq h1 hc pM hB hT ?_) YO)) (by intro q;cases q);cases b with
  | false=>exact ih I x (by simpa using h)
  | true=>
   refine codeAny_handlers_suite (I.land x fun s1 I1 x1=>?_);obtain⟨o1,g1,g2,g3,J⟩:=I1.enter hex x1;rw[XR rfl] at h;refine Vg (hb a _ aa s1 σ _ D J (h a o1 x1.fp.1 g1 g2 g3)) (fun f s2 z=>z.leave hex I1 x1.fp) fun _ _ z=>z.elim
 | @as_ x n i np pos b₀ su Dc t hs ts hg hm hB hT YO hN hi hk hb r ih=>
  intro aa σ H s a c dd T D I x h;obtain⟨C,b,rfl,pM,h⟩:=h;obtain⟨o,vs,h1,hc,_⟩:=x.at_.ob;refine Xr (Qgo (Hk I hg hm (HY I.Yq h1 hc pM hB hT ?_) YO)) (by intro q;cases q);cases b with
  | false=>exact ih I x (by simpa using h)
  | true=>
   refine codeAny_handlers_suite_as (I.land x fun s1 I1 x1=>?_);obtain⟨o1,g1,g2,g3,J⟩:=I1.enter hex x1;rw[XR rfl] at h;refine BP (X:=X.hnd a _) J hN hi (.inl hk) (v:=.ref a) O (fun s2 J2=>?_) (.inr hk);exact Vg (hb a _ aa s2 _ _ (D.as i) J2 (h a o1 x1.fp.1 g1 g2 g3)) (fun f s3 z=>(z.leave hex I1 x1.fp).as_ hN hi hk) fun _ _ z=>z.elim
def Qiv (K:V') (ts:List Hd1) (tb:RK->TS) (te:TS):TS:=fun D σ H=>tb (xC K ts D) {D with nx:=fun σ H=>te D σ H} σ H
theorem Qiw {body jv:List Yd}{h₀:Qdd}{ts:List Hd1}{tb:RK->TS}{te:TS} (B:Body X) (hex:X.ex=[]) (P:PHs X (h₀::hs) ts)
  (hb:∀ (pn:List (F'×X6)) (E:L'->XT->Prop) (R:RK),PX (X.tr pn E) R->QeI (XS X.prog X.w) X.A X.env E->Zo (X.tr pn E) body (tb R)) (he:Zo X jv te):PS X (.Try body (h₀::hs) jv [] pos) (Qiv X.K ts tb te):=by
 intro aa s σ H D I h;refine wpAny_Try_except ?_;have to:∀ {bT σ' H' s'},Inv X aa σ' H' s'->Inv (X.tr (X.pn++aa) bT) [] σ' H' s':=fun {bT σ' H' s'} J=>{J with pin:=fun p hp=>J.pin p (by simpa using hp),ok:={J.ok with} }
 have tj:∀ {E' bT σ' H' s'},Inv (X.tr (X.pn++aa) E') bT σ' H' s'->Inv X aa σ' H' s':=fun {E' bT σ' H' s'} J=>{J with pin:=fun p hp=>J.pin p (UZ _ hp),ok:={J.ok with} }
 refine Vg (hb (X.pn++aa) (fun e s₁=>N' (XS X.prog X.w) X.A (Qdh e X.env) (fun _ s₂=>N' (XS X.prog X.w) X.A (QeG e C') (fun _ s₃=>N' (XS X.prog X.w) X.A (handleBy e X.env (h₀::hs)) (SP X aa D) X.xe s₃) X.xe s₂) X.xe s₁)
  (xC X.K ts D) ?_ QeI.looking [] s σ H _ (to I) h) (fun f s1 z=>?_) fun _ _ z=>z
 .intro bT σ' H' s' a c dd tb J x hR
  have J':=tj J;have x':Exc X aa H' s'.heap a c dd (tb.map fun T=>(T,Yw)):=⟨⟨x.fp.1,x.fp.2.1,x.fp.2.2.1,x.fp.2.2.2.1,x.fp.2.2.2.2.1,fun p hp=>x.fp.2.2.2.2.2 p (UZ _ hp)⟩,fun p q=>by
   have y:=x.fpT p q;exact⟨y.1,y.2.1,y.2.2.1,y.2.2.2.1,y.2.2.2.2.1,fun p hp=>y.2.2.2.2.2 p (UZ _ hp)⟩,x.at_⟩
  refine J'.note B x' II fun s2 T I2 x2=>?_
  exact I2.land x2 fun s3 I3 x3=>Qc hex P I3 x3 hR
 .cases f with
  | next=>obtain⟨σ',H',J,q⟩:=z;exact he aa s1 σ' H' D (tj J) q
  | brk=>obtain⟨σ',H',J,q⟩:=z;exact⟨σ',H',tj J,q⟩
  | cont=>obtain⟨σ',H',J,q⟩:=z;exact⟨σ',H',tj J,q⟩
  | ret u=>obtain⟨v,σ',H',J,q⟩:=z;exact⟨v,σ',H',tj J,q⟩
structure eM (K:V') (x qual:K') (st:Yd) (f:F') (fd:Z8):Prop where
 ex:∃ (oc:L') (od:Option F') (dV kV bO pm:L') (an:Option F') (aD ct:L') (dM:Array (Option L')),
  fd=QaO x qual (pS st) (kE st) (aF st) dV kV bO pm an aD ct/\K.lookup f=B' ⟨oc,od,.func fd,dM⟩/\Qau K aD qual=D'
theorem rB {K:V'}{od an:Option F'}{dV kV bO aD:L'} (l:K.lookup f=B' ⟨oc,od,.func (QaO x qual (pS st) (kE st) (aF st) dV kV bO pm an aD ct),dM⟩)
  (c:Qau K aD qual=D'):eM K x qual st f (QaO x qual (pS st) (kE st) (aF st) dV kV bO pm an aD ct):=⟨⟨oc,od,dV,kV,bO,pm,an,aD,ct,dM,O,l,c⟩⟩
section
variable {K:V'}
theorem eM.ok {k:Nat} (F:eM K x qual st f fd) (S:aX N ps (aF st)) (len:∀ vs H Q E,sp vs H Q E->vs.length=ps.length)
  (dv:∀ (aD:L') (A:YT) (outer:List Za) (s:XT) (H:Hp) (vs:List V) (Q:VK) (E:XK),bn k (A.deeper (Qar qual (aF st) s.heap.objs.size f aD))->sp vs H Q E ->
   ∃ t,Zo (jQ Yj P w K mg base N qual (aF st) f aD A outer s H E).nox (kE st) t/\t {nx:=fun _ H'=>Q .X1 H',rt:=Q} (start N vs) H):cy P w K mg base Yj (k+1) f fd ps sp:=by
 obtain⟨oc,od,dV,kV,bO,pm,an,aD,ct,dM,rfl,lk,gg⟩:=F.ex;refine Ci lk gg S len fun A outer s H vs Q E hr i9=>?_
 obtain⟨t,h,q⟩:=dv aD A outer s H vs Q E hr i9;exact⟨t,h.nox,q⟩
theorem eM.okX {k:Nat} (F:eM K x qual st f fd) (S:aX N ps (aF st)) (len:∀ vs H Q E,sp vs H Q E->vs.length=ps.length)
  (dv:∀ (aD:L') (A:YT) (outer:List Za) (s:XT) (H:Hp) (vs:List V) (Q:VK) (E:XK),bn k (A.deeper (Qar qual (aF st) s.heap.objs.size f aD))->sp vs H Q E ->
   ∃ t,Zo (jQ (Zh P w) P w K mg base N qual (aF st) f aD A outer s H E) (kE st) t/\t {nx:=fun _ H'=>Q .X1 H',rt:=Q} (start N vs) H):cy P w K mg base (Zh P w) (k+1) f fd ps sp:=by
 obtain⟨oc,od,dV,kV,bO,pm,an,aD,ct,dM,rfl,lk,gg⟩:=F.ex;exact Ci lk gg S len fun A outer s H vs Q E hr i9=>dv aD A outer s H vs Q E hr i9
end
structure Def (K:V') (mg:K'->Option L') (x:K') (st:Yd) (ps:List K') (aN:List V):Prop where
 ex:∃ f fd ds,eM K x x st f fd/\mg x=B' (.ref f)/\Qae K (.ref f)=D'/\eh K fd ps ds/\aC aN ds
structure Met (K:V') (C:F') (m qual:K') (st:Yd) (ps:List K') (aN:List V):Prop where
 ex:∃ f fd ds,eM K m qual st f fd/\Qb5 K C m f/\eh K fd ps ds/\aC aN ds
structure Ini (K:V') (mg:K'->Option L') (C:F') (x qual:K') (st:Yd) (ps:List K'):Prop where
 ex:∃ f fd,eM K "__init__" qual st f fd/\Mk K C f/\mg x=B' (.ref C)/\eh K fd ps []
structure Qca (K:V') (mg:K'->Option L') (C:F') (x qual:K') (st:Yd) (ps:List K'):Prop where
 ex:∃ f fd,eM K "__init__" qual st f fd/\XCI K C f/\mg x=B' (.ref C)/\eh K fd ps []
structure YD (P:YE) (w:YF) (K:V') (mg:K'->Option L') (base:Yg) (CX:CXT) (k:Nat) (x:K') (ps:List K') (aN:List V) (sp:Sp):Prop where
 ex:∃ f fd ds,cy P w K mg base CX k f fd ps sp/\mg x=B' (.ref f)/\Qae K (.ref f)=D'/\eh K fd ps ds/\aC aN ds
structure gy (P:YE) (w:YF) (K:V') (mg:K'->Option L') (base:Yg) (CX:CXT) (k:Nat) (C:F') (m:K') (ps:List K') (aN:List V) (sp:Sp):Prop where
 ex:∃ f fd ds,cy P w K mg base CX k f fd ps sp/\Qb5 K C m f/\eh K fd ps ds/\aC aN ds
structure Qcb (P:YE) (w:YF) (K:V') (mg:K'->Option L') (base:Yg) (CX:CXT) (k:Nat) (C:F') (x:K') (ps:List K') (sp:Sp):Prop where
 ex:∃ f fd,cy P w K mg base CX k f fd ps sp/\Mk K C f/\mg x=B' (.ref C)/\eh K fd ps []
structure yu (P:YE) (w:YF) (K:V') (mg:K'->Option L') (base:Yg) (CX:CXT) (k:Nat) (C:F') (x:K') (ps:List K') (sp:Sp):Prop where
 ex:∃ f fd,cy P w K mg base CX k f fd ps sp/\XCI K C f/\mg x=B' (.ref C)/\eh K fd ps []
section
variable {K:V'}{k:Nat}{m:K'}
theorem Def.Ym (D:Def K mg x st ps aN) (h:∀ f fd,eM K x x st f fd->cy P w K mg base CX k f fd ps sp):YD P w K mg base CX k x ps aN sp:=
 let ⟨f,fd,ds,F,r⟩:=D.ex;⟨f,fd,ds,h f fd F,r⟩
theorem Met.Ym (D:Met K C m qual st ps aN) (h:∀ f fd,eM K m qual st f fd->cy P w K mg base CX k f fd ps sp):gy P w K mg base CX k C m ps aN sp:=
 let ⟨f,fd,ds,F,r⟩:=D.ex;⟨f,fd,ds,h f fd F,r⟩
theorem Ini.Ym (D:Ini K mg C x qual st ps) (h:∀ f fd,eM K "__init__" qual st f fd->cy P w K mg base CX k f fd ps sp):Qcb P w K mg base CX k C x ps sp:=
 let ⟨f,fd,F,r⟩:=D.ex;⟨f,fd,h f fd F,r⟩
theorem Qca.Ym (D:Qca K mg C x qual st ps) (h:∀ f fd,eM K "__init__" qual st f fd->cy P w K mg base CX k f fd ps sp):yu P w K mg base CX k C x ps sp:=
 let ⟨f,fd,F,r⟩:=D.ex;⟨f,fd,h f fd F,r⟩
end
def Qix (sp:Sp) (aN:List V) (R:RK) (t:TA):TE:=fun σ H Q=>t σ H fun vs H1=>sp (vs++aN) H1 Q (R σ)
variable {I S d i1 i2 l1 l2 z:F'}{P:List L'->Prop}{Q:Option L'->XT->Prop}{b:Bool}{c ep k1 k2:Nat}{cs wr:List F'}{g:TG}{kvs:List (Key×V)}{l:X'}{ns:List Int}{old res:L'}{t:Zf}{tb:TS}{te tl:TE}{Qbd:YA}
def Qiy (C:F') (m:K') (sp:Sp) (aN:List V) (R:RK) (ta:TE) (t:TA):TE:=fun σ H Q=>ta σ H fun x H1=>∃ a dx fs,x=.ref a/\H1 a=B' (.ins C dx fs)/\fs.lookup m=C' /\
 t σ H1 fun vs H2=>sp (x::(vs++aN)) H2 Q (R σ)
section
variable {k:Nat}{R:RK}{m:K'}{p aP:YA}{o:X'}{t:TA}
theorem xF:PX X (fun _ _ _ _=>False):=fun _ _ _ _ _ _ _ _ _ _ h=>h.elim
theorem Hv {Q:VK}{vs:List V} (F:cy X.prog X.w X.K X.mg X.base (Zh X.prog X.w) k f fd ps sp) (hp:PX X R) (hr:bn k X.A)
  (hb:eh X.K fd ps ds) (hd:aC aN ds) (I:Inv X aa σ H s) (r:aC vs us) (h:sp (vs++aN) H Q (R σ)):N' (XS X.prog X.w) X.A (call (.ref f) us) (EP X aa σ Q) X.xe s:=by
 have r2:aC (vs++aN) (us++ds):=r.append hd;have hl:(us++ds).length=ps.length:=by rw[<- r2.length];exact F.len _ _ _ _ h
 refine Wb (QaP (F.run X.A X.stack s H ⟨us,[]⟩ (us++ds) (vs++aN) Q (R σ) hr I.Qct (hb s us I.Yq hl) r2 h) fun r s' hq=>?_);cases r with
 | error e=>exact Q3 hp aa σ H s e s' I hq
 | ok fl=>cases fl<;>first | exact I.after hq | exact Zm hq
theorem bD (c:YD X.prog X.w X.K X.mg X.base Yj k x ps aN sp) (hr:bn k X.A) (hg:Gl X x) (ha:PA X (e::es) t) (YO:(x == ("__debug__":K'))=R':=by decide)
  (he:Yb (e::es) X.env=(R',X9 e X.env)::Yb es X.env:=by rfl) (cv:(Yy pos (Yb es X.env)).any (·.1)=R':=by rfl):PE X (.Call (.Name x p) (e::es) [] pos) (QeU sp aN E0 t):=by
 obtain⟨f,fd,ds,F,hm,hk,hb,hd⟩:=c.ex;exact RF F hr hg hm hk hb hd vB ha YO he cv
theorem CU (c:YD X.prog X.w X.K X.mg X.base (Zh X.prog X.w) k x ps aN sp) (hp:PX X R) (hr:bn k X.A) (hg:Gl X x) (ha:PA X (e::es) t) (YO:(x == ("__debug__":K'))=R':=by decide)
  (he:Yb (e::es) X.env=(R',X9 e X.env)::Yb es X.env:=by rfl) (cv:(Yy pos (Yb es X.env)).any (·.1)=R':=by rfl):PE X (.Call (.Name x p) (e::es) [] pos) (Qix sp aN R t):=by
 obtain⟨f,fd,ds,F,hm,hk,hb,hd⟩:=c.ex;intro aa s σ H Q I h;refine Vl (p5 I hg hm ?_ YO);refine QbT (h₀:=X.base) I.ok.mod.kin hk (X3 (ha pos aa s σ H _ I h) fun us s1=>L2.Yc fun vs H1 I1 r q=>⟨I1.Yq,?_⟩) he cv;exact Hv F hp hr hb hd I1 r q
theorem uX {pl:Y6 Bool} (he:PE X o ta) (cl:ZR X.K C) (c:gy X.prog X.w X.K X.mg X.base Yj k C m ps aN sp) (hr:bn k X.A) (ha:PA X (e::es) t)
  (cR:Yb (e::es) X.env=(R',X9 e X.env)::Yb es X.env:=by rfl) (cv:(Yy pos (Yb es X.env)).any (·.1)=R':=by rfl)
  (ht:X9 (.Call (.Attribute o m aP) (e::es) [] pos) X.env=(do
   let ov <- X9 o X.env
   QbF aP.atName
   let (f,first) <- Z9 [ov] (QbC ov m pl)
   QbD pos f first (Yy pos (Yb (e::es) X.env)) (ZC pos (Zz [] X.env))):=by rfl) :
  PE X (.Call (.Attribute o m aP) (e::es) [] pos) (xt C m sp aN E0 ta t):=by
 obtain⟨f,fd,ds,F,hm,hb,hd⟩:=c.ex;exact Oa (pl:=pl) he cl hm F hr hb hd vB ha cR cv ht
theorem kC {pl:Y6 Bool} (he:PE X o ta) (cl:ZR X.K C) (c:gy X.prog X.w X.K X.mg X.base Yj k C m ps aN sp) (hr:bn k X.A)
  (ht:X9 (.Call (.Attribute o m aP) [] [] pos) X.env=(do
   let ov <- X9 o X.env
   QbF aP.atName
   let (f,first) <- Z9 [ov] (QbC ov m pl)
   QbD pos f first (Yy pos (Yb [] X.env)) (ZC pos (Zz [] X.env))):=by rfl) :
  PE X (.Call (.Attribute o m aP) [] [] pos) (xt C m sp aN E0 ta nW):=by
 obtain⟨f,fd,ds,F,hm,hb,hd⟩:=c.ex;exact Rt (pl:=pl) he cl hm F hr hb hd vB ht
theorem mq {pl:Y6 Bool} (he:PE X o ta) (cl:ZR X.K C) (c:gy X.prog X.w X.K X.mg X.base (Zh X.prog X.w) k C m ps aN sp) (hp:PX X R) (hr:bn k X.A) (ha:PA X (e::es) t)
  (cR:Yb (e::es) X.env=(R',X9 e X.env)::Yb es X.env:=by rfl) (cv:(Yy pos (Yb es X.env)).any (·.1)=R':=by rfl)
  (ht:X9 (.Call (.Attribute o m aP) (e::es) [] pos) X.env=(do
   let ov <- X9 o X.env
   QbF aP.atName
   let (f,first) <- Z9 [ov] (QbC ov m pl)
   QbD pos f first (Yy pos (Yb (e::es) X.env)) (ZC pos (Zz [] X.env))):=by rfl) :
  PE X (.Call (.Attribute o m aP) (e::es) [] pos) (Qiy C m sp aN R ta t):=by
 obtain⟨f,fd,ds,F,hm,hb,hd⟩:=c.ex;intro aa s σ H Q I h;refine Qd4 (pl:=pl) (X3 (he aa s σ H _ I h) fun u s1=>L2.Yc fun x H1 I1 rx a8=>?_) ht;obtain⟨a,dx,fs,ex,ea,l,q⟩:=a8;subst ex;obtain rfl:u=X2 a:=rx;refine BU I1 ea cl hm l ?_;refine QbT (first:=[.ref a]) (h₀:=X.base) I.ok.mod.kin hm.kp (X3 (ha pos aa s1 σ H1 _ I1 q) fun us s2=>L2.Yc fun vs H2 I2 r q2=>⟨I2.Yq,?_⟩) cR cv;exact Hv (us:=.ref a::us) (vs:=.ref a::vs) F hp hr hb hd I2 (.cons O r) q2
theorem O9 (c:Qcb X.prog X.w X.K X.mg X.base Yj k C x ps sp) (hr:bn (k+1) X.A) (hg:Gl X x) (ha:PA X (e::es) t) (YO:(x == ("__debug__":K'))=R':=by decide)
  (he:Yb (e::es) X.env=(R',X9 e X.env)::Yb es X.env:=by rfl) (cv:(Yy pos (Yb es X.env)).any (·.1)=R':=by rfl):PE X (.Call (.Name x p) (e::es) [] pos) (xy C sp [] E0 t):=by
 obtain⟨f,fd,F,M,hm,hb⟩:=c.ex;exact O7 M F hr hg hm hb .nil vB ha YO he cv
theorem SR (c:Qcb X.prog X.w X.K X.mg X.base Yj k C x ps sp) (hr:bn (k+1) X.A) (hg:Gl X x) (YO:(x == ("__debug__":K'))=R':=by decide):PE X (.Call (.Name x p) [] [] pos) (xy C sp [] E0 nW):=by
 obtain⟨f,fd,F,M,hm,hb⟩:=c.ex;exact PR M F hr hg hm hb .nil vB YO
theorem Iw (hp:PX X R) (c:yu X.prog X.w X.K X.mg X.base Yj k C x ps sp) (hr:bn (k+1) X.A) (hg:Gl X x) (ha:PA X (e::es) t)
  (YO:(x == ("__debug__":K'))=R':=by decide) (he:Yb (e::es) X.env=(R',X9 e X.env)::Yb es X.env:=by rfl) (cv:(Yy aI (Yb es X.env)).any (·.1)=R':=by rfl) :
  PS X (.Raise (B' (.Call (.Name x np) (e::es) [] aI)) C' pos) (JJ C sp [] R t):=by
 obtain⟨f,fd,F,c',hm,hb⟩:=c.ex;exact OJ hp c' F hr hb .nil (fun _ _ _ _ _ _ _ _ z=>z.elim) hg hm ha YO he cv
theorem iZ {i:Int} (hg:Gl X x) (hm:∃ t,X.mg x=B' (.int i t)) (hd:(x == ("__debug__":K'))=R':=by decide):PE X (.Name x pos) (tC (.int i)):=let ⟨t,h⟩:=hm;Gd hg h ⟨t,O⟩ hd
theorem Q5 {i:K'} (hg:Gl X x) (hm:∃ t,X.mg x=B' (.str i t)) (hd:(x == ("__debug__":K'))=R':=by decide):PE X (.Name x pos) (tC (.str i)):=let ⟨t,h⟩:=hm;Gd hg h ⟨t,O⟩ hd
theorem uT {n:String} (hg:Gl X x) (hm:X.mg x=C') (hv:Zc x=B' (.type n)) (hn:x≠"__name__":=by decide) (hd:(x == ("__debug__":K'))=R':=by decide):PE X (.Name x pos) (tC (.ty n)):=Sq hg hm hv O hn hd
end
def YQ (A:YT) (cs:List F'):Prop:=(A.handled=C'/\cs=[])\/∃ a r,cs=a::r/\A.handled=B' (.ref a)
theorem Hd.chain (x:Hd A h):∃ cs,YQ A cs/\Yn h cs:=by
 rcases x with e|⟨a,cs,e,c⟩
 .exact⟨[],.inl ⟨e,O⟩,Wm,fun j a z=>by simp at z⟩
 .exact⟨a::cs,.inr ⟨a,cs,O,e⟩,c⟩
theorem YQ.hd (x:YQ A cs) (c:Yn h cs):Hd A h:=by
 rcases x with⟨e,rfl⟩|⟨a,r,rfl,e⟩
 .exact .inl e
 .exact .inr ⟨a,r,e,c⟩
theorem Yn.but (c:Yn h cs) (hI:it∉cs) (k:∀ b o,b≠it->h.get? b=B' o->h'.get? b=B' o):Yn h' cs:=
 c.mono fun b o hb e=>k b o (fun z=>hI (z ▸ hb)) e
section
theorem qT (hc:YQ A cs) (I ax:F') (eQ:ax≠I) (hI:I∉cs) (items:Array L') :
  QbL prog w A I (I::ax::cs) [I] items.size (fun i v=>items[i]?=B' v) (fun i h=>h.IsListIter I ax i/\h.IsList ax items/\Yn h cs) where
 sub:=fun b hb=>by simp at hb;simp[hb]
 frame:=fun _ _ _ st hk=>⟨st.1.at fun o e=>hk I (by simp) o e,st.2.1.at fun o e=>hk ax (by simp) o e,st.2.2.mono fun b o hb e=>hk b (by simp[hb]) o e⟩
 item:=fun i s Q E hi st hQ=>by
  refine Xg st.1 st.2.1 (x:=items[i]) (by simp[hi]) fun h' bP bh=>?_
  exact hQ _ h' s.toks (by simp[hi]) ⟨bP,st.2.1.extBut bh.extBut eQ,st.2.2.but hI bh.extBut⟩ fun b o hb e=>bh.extBut b o (fun h=>hb (by simp[h])) e
 done:=fun s Q E st hQ=>Gw (hc.hd st.2.2) st.1 st.2.1 (by simp) fun h' de=>hQ h' s.toks fun b o hb e=>de b o (fun h=>hb (by simp[h])) e
 self:=fun _ _ _ _ st hQ=>Xk st.1 hQ
theorem SL (hd:Hd A s.heap) (hit:s.heap.IsStrIter it "str_ascii_iterator" x t i) (hx:x.cps[i]?=C')
  (hQ:∀ h',Qaf it s.heap h'->Q C' {s with heap:=h'}):N' (XS prog w) A (Yo (.ref it)) Q E s:=by
 obtain⟨o,ho,hc,aA⟩:=id hit;unfold Yo;refine ow (VD (U6 (name:=Y0 "__next__") hit.typeIs QfK (Vh QfK hit.typeIs F.entry_str_ascii_iterator_next ?_ (F.args_str_ascii_iterator_next_1 _))));refine(show N' _ _ (Y5 (.ref it) 0 >>= _) _ _ s from ow (UV ho aA (x:=.str x t) O ?_));refine(show N' _ _ (Y5 (.ref it) 1 >>= _) _ _ s from ow (UV ho aA (x:=.int i 0) O ?_));simp only[UD,hx]
 refine ow (VS (ow (VI ho aA (by simp) (ow (VL ?_)))));refine nN (A:=A.in1) (hd.but ho (fun vs q=>.inl (by rw[aA] at q;cases q;simp)) (ZW ..).extBut) fun h' e k' ⟨o',e',c'⟩=>?_
 exact ow (Vr (T:="StopIteration") (b:=D') ⟨o',e',c'⟩ Qao (Uu (hQ h' fun b q hb hq=>k' b q ((ZW ..).extBut b q hb hq))))
theorem Tj (hd:Hd A s.heap) (hit:s.heap.IsStrIter it "str_iterator" x t i) (hx:x.cps[i]?=C')
  (hQ:∀ h',Qaf it s.heap h'->Q C' {s with heap:=h'}):N' (XS prog w) A (Yo (.ref it)) Q E s:=by
 obtain⟨o,ho,hc,aA⟩:=id hit;unfold Yo;refine ow (VD (U6 (name:=Y0 "__next__") hit.typeIs Qf5 (Vh Qf5 hit.typeIs F.entry_str_iterator_next ?_ (F.args_str_iterator_next_1 _))));refine(show N' _ _ (Y5 (.ref it) 0 >>= _) _ _ s from ow (UV ho aA (x:=.str x t) O ?_));refine(show N' _ _ (Y5 (.ref it) 1 >>= _) _ _ s from ow (UV ho aA (x:=.int i 0) O ?_));simp only[UD,hx]
 refine ow (VS (ow (VI ho aA (by simp) (ow (VL ?_)))));refine nN (A:=A.in1) (hd.but ho (fun vs q=>.inl (by rw[aA] at q;cases q;simp)) (ZW ..).extBut) fun h' e k' ⟨o',e',c'⟩=>?_
 exact ow (Vr (T:="StopIteration") (b:=D') ⟨o',e',c'⟩ Qao (Uu (hQ h' fun b q hb hq=>k' b q ((ZW ..).extBut b q hb hq))))
def nF (h:Yg) (I:F') (x:K') (t:Zf) (i:Nat):Prop:=h.IsStrIter I "str_ascii_iterator" x t i\/h.IsStrIter I "str_iterator" x t i
theorem nF.keep (y:nF h I x t i) (k:∀ o,h.get? I=B' o->h'.get? I=B' o):nF h' I x t i:=by
 rcases y with⟨o,e,r⟩|⟨o,e,r⟩
 .exact .inl ⟨o,k o e,r⟩
 .exact .inr ⟨o,k o e,r⟩
theorem Oh (hit:nF s.heap it x t i) (hx:x.cps[i]?=B' c)
  (hQ:∀ h' u tk,nF h' it x t (i+1)->Zu it s.heap h'->Q (B' (.str ⟨#[c]⟩ u)) {s with heap:=h',toks:=tk}):N' (XS prog w) A (Yo (.ref it)) Q E s:=by
 rcases hit with y|y
 .exact wpAny_pyNext_ascii_item y hx fun h' y' hs=>hQ h' _ _ (.inl y') hs
 .exact wpAny_pyNext_wide_item y hx fun h' y' hs=>hQ h' _ _ (.inr y') hs
theorem Rp (hd:Hd A s.heap) (hit:nF s.heap it x t i) (hx:x.cps[i]?=C')
  (hQ:∀ h',Qaf it s.heap h'->Q C' {s with heap:=h'}):N' (XS prog w) A (Yo (.ref it)) Q E s:=by
 rcases hit with y|y
 .exact SL hd y hx hQ
 .exact Tj hd y hx hQ
theorem rP {l:F'} {items}{Q:L'->XT->Prop} (hd:Hd A s.heap) (hit:s.heap.IsListIter it l i) (hl:s.heap.IsList l items) (hx:items[i]?=C')
  (hE:∀ h' e,Qaf it s.heap h'->(∃ o,h'.get? e=B' o/\o.cls=.type "StopIteration")->E (.ref e) {s with heap:=h'}):N' (XS prog w) A (Qat (.ref it)) Q E s:=by
 obtain⟨o,ho,hc,aA⟩:=id hit;obtain⟨ol,tL,_,nl,sX⟩:=hl;unfold Qat;refine ow (U6 (name:=Y0 "__next__") hit.typeIs Qc1 (Vh Qc1 hit.typeIs QgC ?_ (QgL _)));refine(show N' _ _ (Y5 (.ref it) 0 >>= _) _ _ s from ow (UV ho aA (x:=.ref l) O ?_));refine(show N' _ _ (if (X2 l == Yw)=D' then _ else _) _ _ s from ?_);rw[W' (show ¬ ((X2 l == Yw)=D') from UL)];refine(show N' _ _ (Y5 (.ref it) 1 >>= _) _ _ s from ow (UV ho aA (x:=.int i 0) O ?_));refine(show N' _ _ (Qay (.ref l) >>= _) _ _ s from ow (Vf tL sX ?_));simp only[UD,hx]
 refine ow (VS (ow (VI ho aA (by simp) ?_)));refine nN (A:=A.in1) (hd.but ho (fun vs q=>.inl (by rw[aA] at q;cases q;simp)) (ZW ..).extBut) fun h' e k' x=>hE h' e (fun b q hb hq=>k' b q ((ZW ..).extBut b q hb hq)) x
theorem Jy {TI TO:F'}{xs ys:Array L'}{a b:L'} (hc:YQ A cs) (c:Yn s.heap cs) (nz:z∉cs) (nT:TO∉cs) (n1:i1∉cs) (n2:i2∉cs) (D:QaB z TI TO i1 i2 l1 l2)
  (hz:QaE s.heap z TI TO .none) (cB:Z' s.heap TI (.ref i1) (.ref i2)) (d9:Z' s.heap TO a b) (h1:s.heap.IsListIter i1 l1 k1) (h2:s.heap.IsListIter i2 l2 k2) (cz:s.heap.IsList l1 xs) (bH:s.heap.IsList l2 ys) (iG:xs[k1]?=C'\/ys[k2]?=C')
  (hQ:∀ h',(∀ c o,c≠z->c≠TO->c≠i1->c≠i2->s.heap.get? c=B' o->h'.get? c=B' o)->Q C' {s with heap:=h'}):N' (XS prog w) A (Yo (.ref z)) Q E s:=by
 have hT:s.TypeIs (.ref z) "zip":=⟨_,hz,O⟩;have aL:∀ h' e,(∀ c o,c≠z->c≠TO->c≠i1->c≠i2->s.heap.get? c=B' o->h'.get? c=B' o)->(∃ o,h'.get? e=B' o/\o.cls=.type "StopIteration") ->
   N' (XS prog w) A (do if <- Qb1 (.ref e) (.type "StopIteration") then pure C' else throw (.ref e)) Q E {s with heap:=h'}:=fun h' e k ⟨o,ho,ly⟩=>
  ow (Vr (T:="StopIteration") (b:=D') ⟨o,ho,ly⟩ Qao (Uu (hQ _ k)))
 unfold Yo;refine ow (VD (U6 (name:=Y0 "__next__") hT QbZ (Vh QbZ hT Qeo ?_ (Qem _))));refine(show N' _ _ (Y5 (.ref z) 2 >>= _) _ _ _ from ow (UV hz O (x:=.bool R') O ?_));refine(show N' _ _ (Y5 (.ref z) 3 >>= _) _ _ _ from ow (UV hz O (x:=.ref TI) O (ow (Vf cB O ?_))));refine(show N' _ _ (Qa2 (.ref z) >>= _) _ _ _ from ow ?_);unfold Qa2;refine ow (UV hz O (x:=.none) O (Uu ?_));simp only[ZY]
 refine ow (VS (ow (UV hz O (x:=.ref TO) O (ow (VH hz (by simp) fun h₁ oB bF=>?_)))))
 replace oB:QaE h₁ z TI TO .ellipsis:=oB
 have c₁:Yn h₁ cs:=c.but nz bF.extBut;refine ow ?_;simp only[Qgr,List.zipIdx_nil,Wd,WS]
 refine ow (ow (wpAny_onRaise ?_));cases hx:xs[k1]? with
 | none=>
  refine(show N' _ _ (Qat (.ref i1) >>= _) _ _ _ from ow (rP (A:=A.in1) (YQ.hd (A:=A.in1) hc c₁) (h1.extBut bF.extBut D.i1z) (cz.extBut bF.extBut D.l1z) hx fun h₂ e dC he=>?_));obtain⟨oe,oj,sH⟩:=he;have DT:QaE h₂ z TI TO .ellipsis:=dC _ _ D.i1z.symm oB;have zi:e≠z:=fun x=>by subst x;rw[DT] at oj;cases oj;simp at sH
  exact VH DT (by simp) fun h₃ _ fz=>aL h₃ e (fun c o c1 _ c3 _ x=>fz.extBut _ _ c1 (dC _ _ c3 (bF.extBut _ _ c1 x))) ⟨oe,fz.extBut _ _ zi oj,sH⟩
 | some x=>
  have hy:ys[k2]?=C':=by rcases iG with h|h;rw[hx] at h;cases h;exact h
  refine(show N' _ _ (Qat (.ref i1) >>= _) _ _ _ from ow (VZ (h1.extBut bF.extBut D.i1z) (cz.extBut bF.extBut D.l1z) hx fun h₂ yG dC=>Uu ?_));have tI:Z' h₂ TO a b:=dC.extBut _ _ D.TOi1 (bF.extBut _ _ D.TOz d9);refine ow (Vf tI O (ow (wpAny_updateSeq_pair tI fun h₃ KA fz=>ow (VL (Uu ?_)))));refine ow (ow (wpAny_onRaise ?_));have c₃:Yn h₃ cs:=(c₁.but n1 dC.extBut).but nT fz.extBut;refine(show N' _ _ (Qat (.ref i2) >>= _) _ _ _ from ow (rP (A:=A.in1) (YQ.hd (A:=A.in1) hc c₃) (((h2.extBut bF.extBut D.i2z).extBut dC.extBut D.i12.symm).extBut fz.extBut D.TOi2.symm)
   (((bH.extBut bF.extBut D.l2z).extBut dC.extBut D.l2i1).extBut fz.extBut D.l2TO) hy fun h₄ e DO he=>?_))
  obtain⟨oe,oj,sH⟩:=he;have Ep:QaE h₄ z TI TO .ellipsis:=DO _ _ D.i2z.symm (fz.extBut _ _ D.TOz.symm (dC.extBut _ _ D.i1z.symm oB));have zi:e≠z:=fun x=>by subst x;rw[Ep] at oj;cases oj;simp at sH
  exact VH Ep (by simp) fun h₅ _ EM=>aL h₅ e (fun c o c1 c2 c3 c4 x=>EM.extBut _ _ c1 (DO _ _ c4 (fz.extBut _ _ c2 (dC.extBut _ _ c3 (bF.extBut _ _ c1 x))))) ⟨oe,EM.extBut _ _ zi oj,sH⟩
section
variable {κ:Type} [DecidableEq κ] {knd:KeyKind prog w κ}
theorem FR {kvs:List (κ×L')} (hd:Hd A s.heap) (hit:s.heap.IsKeyIter it d i kvs.length ep) (hm:s.heap.DictAt knd d kvs ep) (hx:kvs[i]?=C')
  (hQ:∀ h',Qaf it s.heap h'->Q C' {s with heap:=h'}):N' (XS prog w) A (Yo (.ref it)) Q E s:=by
 obtain⟨o,ho,hc,aA⟩:=id hit;obtain⟨od,es,li,gg,gi,hk,hp,hn⟩:=id hm;have hsz:es.size=kvs.length:=by rw[<- hp.length];simp
 have lJ:es.size<=i:=by rw[hsz];simpa using hx
 have pC:Qfx "dict_keyiterator"=R':=by decide
 unfold Yo;refine ow (VD (U6 (name:=Y0 "__next__") hit.typeIs QfS (Vh QfS hit.typeIs F.entry_dict_keyiterator_next ?_ (F.args_dict_keyiterator_next_1 _))));refine ow (Uu (ow (ow ?_)))
 first|refine ow (WP hit.typeIs (Uu (ow (WT ho aA ?_))))|refine ow (W7 hit.typeIs (Uu (ow (WT ho aA ?_))))
 simp only[pC,U9,Y3]
 show N' _ _ (if (X2 d == Yw)=D' then _ else _) _ _ s;rw[W' (show ¬ ((X2 d == Yw)=D') from UL)];refine ow (Uu (ow (XI li gi ?_)));rw[W' (by rw[hsz];simp)];refine ow (Uu (ow (Qhc li gi ?_)));rw[W' (by simp)];refine Uu ?_;simp only[show ¬ ((i:Int)<0) from by lia,Y3,UD,WD lJ]
 refine ow ?_
 first|refine ow (WP hit.typeIs (Uu ?_))|refine ow (W7 hit.typeIs (Uu ?_))
 refine(show N' _ _ (Qb2 (.ref it) 0 .none >>= _) _ _ s from ow (VI ho aA (by simp) ?_));refine nN (A:=A.in1) (hd.but ho (fun vs q=>.inr (by rw[aA] at q;cases q;simp)) (ZW ..).extBut) fun h' e k' ⟨o',e',c'⟩=>?_
 exact ow (Vr (T:="StopIteration") (b:=D') ⟨o',e',c'⟩ Qao (Uu (hQ h' fun b q hb hq=>k' b q ((ZW ..).extBut b q hb hq))))
theorem QB (hc:YQ A cs) (I d:F') (eQ:d≠I) (hI:I∉cs) (kvs:List (κ×L')) (ep:Nat) :
  QbL prog w A I (I::d::cs) [I] kvs.length (fun i v=>∃ k x,kvs[i]?=B' (k,x)/\knd.is k v=D') (fun i h=>h.IsKeyIter I d i kvs.length ep/\h.DictAt knd d kvs ep/\Yn h cs) where
 sub:=fun b hb=>by simp at hb;simp[hb]
 frame:=fun _ _ _ st hk=>⟨st.1.at fun o e=>hk I (by simp) o e,st.2.1.at' fun o e=>hk d (by simp) o e,st.2.2.mono fun b o hb e=>hk b (by simp[hb]) o e⟩
 item:=fun i s Q E hi st hQ=>by
  obtain⟨⟨k,x⟩,hx⟩:∃ p,kvs[i]?=B' p:=⟨kvs[i],by simp[hi]⟩;refine Xi st.1 st.2.1 hx fun key h' cu bP bh=>?_
  exact hQ key h' s.toks ⟨k,x,hx,cu⟩ ⟨bP,st.2.1.extBut bh.extBut eQ,st.2.2.but hI bh.extBut⟩ fun b o hb e=>bh.extBut b o (fun h=>hb (by simp[h])) e
 done:=fun s Q E st hQ=>FR (hc.hd st.2.2) st.1 st.2.1 (by simp) fun h' de=>hQ h' s.toks fun b o hb e=>de b o (fun h=>hb (by simp[h])) e
 self:=fun _ _ _ _ st hQ=>wpAny_pyIter_keyiter st.1 hQ
theorem PZ {kvs:List (κ×L')}{ok ov:L'} (hc:YQ A cs) (c:Yn s.heap cs) (hI:it∉cs) (hit:IsItemIter s.heap it d i kvs.length ep ok ov) (hm:s.heap.DictAt knd d kvs ep) (hx:kvs[i]?=C')
  (hQ:∀ h',Qaf it s.heap h'->Q C' {s with heap:=h'}):N' (XS prog w) A (Yo (.ref it)) Q E s:=by
 obtain⟨od,es,li,gg,gi,hk,hp,hn⟩:=id hm;have hT:s.TypeIs (.ref it) "dict_itemiterator":=⟨_,hit,O⟩;have hsz:es.size=kvs.length:=by rw[<- hp.length];simp
 have lJ:es.size<=i:=by rw[hsz];simpa using hx
 have pC:Qfx "dict_itemiterator"=D':=by decide
 unfold Yo;refine ow (VD (U6 (name:=Y0 "__next__") hT QdV (Vh QdV hT F.entry_dict_itemiterator_next ?_ (F.args_dict_itemiterator_next_1 _))));refine ow (Uu (ow (ow ?_)))
 first|refine ow (WM hT (Uu (ow (WT hit O ?_))))|refine ow (W4 hT (Uu (ow (WT hit O ?_))))
 simp only[pC,ZY]
 show N' _ _ (if (X2 d == Yw)=D' then _ else _) _ _ s;rw[W' (show ¬ ((X2 d == Yw)=D') from UL)];refine ow (Uu (ow (XI li gi ?_)));rw[W' (by rw[hsz];simp)];refine ow (Uu (ow (Qhc li gi ?_)));rw[W' (by simp)];refine Uu ?_;simp only[show ¬ ((i:Int)<0) from by lia,Y3,UD,WD lJ]
 refine ow ?_
 first|refine ow (WM hT (Uu ?_))|refine ow (W4 hT (Uu ?_))
 refine(show N' _ _ (Qb2 (.ref it) 2 .none >>= _) _ _ s from ow (VI hit O (by simp) ?_));refine nN (A:=A.in1) (YQ.hd (A:=A.in1) hc (c.but hI (ZW ..).extBut)) fun h' e k' ⟨o',e',c'⟩=>?_
 exact ow (Vr (T:="StopIteration") (b:=D') ⟨o',e',c'⟩ Qao (Uu (hQ h' fun b q hb hq=>k' b q ((ZW ..).extBut b q hb hq))))
theorem Q0:Qap (.type "dict") "__len__"=pure (B' (.builtin "dict.__len__")):=by rw[typeLookup_type,builtinLookup_eq_fast];kernel_rfl
theorem OL (hc:YQ A cs){kvs:List (κ×L')}{c₀:Nat} (hd:(d == ZL)=R') (hm:s.heap.DictAt knd d kvs ep) (c:Yn s.heap cs) (hS:s.heap.get? S=B' {cls:=.type "list",data:=.seq #[] c₀}) (zR:S≠d) (ui:S∉cs) (hn:kvs.length<=XX)
  (hR:∀ s' acc c',Moved (S::[s.heap.objs.size]) (fun a b=>b=a) s s'->s'.heap.get? S=B' {cls:=.type "list",dict:=C',data:=.seq acc c',slots:=#[]}->Qco (fun i v=>∃ k x,kvs[i]?=B' (k,x)/\knd.is k v=D') acc kvs.length->R (.ok (.ret res)) s') :
  N' (XS prog w) A.in1 (Qa3 (.ref S) (.ref d) res) (fun aL s'=>match aL with|.done f=>R (.ok f) s'|.again c'=>c'.quiet=D'/\Y4 (XS prog w) A c' R s') (fun e s'=>R (.error e) s') s:=by
 have hT:s.TypeIs (.ref d) "dict":=hm.dictOf.typeIs;have h1:QcP (.ref S) (.ref d)=R':=by simp[QcP,zR]
 unfold Qa3;refine ow (V6 hT ?_);rw[W' (by rw[h1];decide)];refine ow (XJ hd hm ?_);have m1:=hm.push {cls:=.type "dict_keyiterator",data:=.fields #[.ref d,.int 0 0,.int kvs.length 0,.int ep 0]};have yH:Qc7 {s with heap:=s.heap.push {cls:=.type "dict_keyiterator",data:=.fields #[.ref d,.int 0 0,.int kvs.length 0,.int ep 0]} } (.ref d) "dict":=m1.dictOf.typeIs;refine ow (U3 ?_);unfold Qli;refine ow (Xd yH Q0 ?_);generalize EX:("dict.__len__":String)=id0
 wp_delta
 rw[show splitId id0=B' ("dict","__len__") from by subst EX;decide +kernel];subst EX;refine ow (Vr (b:=D') yH (by rw[isSubtype_type];kernel_rfl) ?_);simp only[QgP,U9,Y3]
 rw[XR (by decide +kernel)];refine ow (V6 yH (Uu ?_));rw[XR (by decide +kernel)];refine ow (VS (ow ?_));have bp:S<s.heap.objs.size:=Uw hS;have ug:S≠s.heap.objs.size:=UE bp;have Bb:d≠s.heap.objs.size:=UE hm.lt_size;have pI:s.heap.objs.size∉cs:=fun z=>UT _ (c.lt _ z)
 have qJ:=Ut {cls:=.type "dict_keyiterator",data:=.fields #[.ref d,.int 0 0,.int kvs.length 0,.int ep 0]} hS;refine(show N' _ A.in1 (Qax S (·.push .none) >>= fun _=>Qax S (·.pop)) _ _ _ from ow (Vx qJ rfl ?_));have lS:=U4 (Zd (·.push Yw)) qJ rfl;refine Vx (hz:=by seq_fits) lS rfl ?_;have wQ:=U4 (Zd (·.pop)) lS rfl;generalize hG:((s.heap.push {cls:=.type "dict_keyiterator",data:=.fields #[.ref d,.int 0 0,.int kvs.length 0,.int ep 0]}).update S (Zd (·.push Yw))).update S (Zd (·.pop))=G at wQ;have eD:∀ b o,b≠S->(s.heap.push {cls:=.type "dict_keyiterator",data:=.fields #[.ref d,.int 0 0,.int kvs.length 0,.int ep 0]}).get? b=B' o->G.get? b=B' o:=fun b o hb e=>by
  rw[<- hG];exact(UP _ _ (XW hb)).trans ((UP _ _ (XW hb)).trans e)
 have W:=(QB (prog:=prog) (w:=w) (knd:=knd) (A:=A.in1) hc s.heap.objs.size d Bb pI kvs ep).toS;have K4:G.IsKeyIter s.heap.objs.size d 0 kvs.length ep:=⟨_,eD _ _ (XW ug) (UA _ O),O,O⟩;have d0:G.DictAt knd d kvs ep:=m1.at' fun o e=>eD d o (XW zR) e
 have c0:Yn G cs:=c.mono fun b o hb e=>eD b o (fun z=>ui (z ▸ hb)) (Ut _ e)
 have hV:S∉s.heap.objs.size::d::cs:=by simp[ug,zR,ui]
 refine Uu ⟨Zy Qeg _,Qgu W hn S hV res kvs.length 0 _ _ _ O (VJ _) ⟨K4,d0,c0⟩ wQ (QgE _) fun s' eE c' M4 ir eK=>?_⟩;have Ko:Moved (S::[s.heap.objs.size]) (fun a b=>b=a) s {s with heap:=G}:=⟨fun b o hb e=>eD b o (fun z=>hb (U1.mpr (.inl z))) (Ut _ e),O,O,O,Uv _⟩;exact hR s' eE c' (Qex (fun _ _ _ h1 h2=>h2.trans h1) Ko M4) ir eK
theorem Pq {Q:L'->XT->Prop} (hc:YQ A cs){kvs:List (κ×L')} (hd:(d == ZL)=R') (hm:s.heap.DictAt knd d kvs ep) (c:Yn s.heap cs) (hn:kvs.length<=XX)
  (hQ:∀ s' acc c',(∀ b o,s.heap.get? b=B' o->s'.heap.get? b=B' o)->s'.gens=s.gens->s'.drawn=s.drawn->s'.os=s.os->s'.heap.get? s.heap.objs.size=B' {cls:=.type "list",dict:=C',data:=.seq acc c',slots:=#[]} ->
   Qco (fun i v=>∃ k x,kvs[i]?=B' (k,x)/\knd.is k v=D') acc kvs.length->Q (.ref s.heap.objs.size) s'):N' (XS prog w) A (call (.type "list") [.ref d]) Q E s:=by
 refine Qdc (Q₁:=fun obj s₁=>obj=.ref s.heap.objs.size/\s₁={s with heap:=s.heap.push {cls:=.type "list",data:=.seq #[]} }) Qhf (QgF _) QgH (code_list_new _ ⟨O,O⟩) fun obj s₁ h₁=>?_
 obtain⟨rfl,rfl⟩:=h₁;have hS:(s.heap.push {cls:=.type "list",data:=.seq #[]}).get? s.heap.objs.size=B' {cls:=.type "list",data:=.seq #[]}:=UA _ rfl;have Bb:s.heap.objs.size≠d:=XW (UE hm.lt_size);have pI:s.heap.objs.size∉cs:=fun z=>UT _ (c.lt _ z)
 refine⟨⟨_,hS,O⟩,Qgw _ _,?_⟩;refine(show N' _ A.in1.in1 (do let old <- QcR (.ref s.heap.objs.size);QfE (.ref s.heap.objs.size) (fun _=>#[]);letGo old.toList.reverse;Qa3 (.ref s.heap.objs.size) (.ref d) .none) _ _ _ from ow ?_);unfold QcR;refine ow (Vf hS O (Uu ?_));refine(show N' _ A.in1.in1 (Qax s.heap.objs.size (fun _=>#[]) >>= fun _=>letGo (#[]:Array L').toList.reverse >>= fun _=>Qa3 (.ref s.heap.objs.size) (.ref d) .none) _ _ _ from ow (Vx hS O (ow (VL ?_))));have lS:=U4 (Zd (fun _=>(#[]:Array L'))) hS rfl;have eD:∀ b o,s.heap.get? b=B' o->((s.heap.push {cls:=.type "list",data:=.seq #[]}).update s.heap.objs.size (Zd (fun _=>(#[]:Array L')))).get? b=B' o:=fun b o e=>
  (UP _ _ (XW (UE (Uw e)))).trans (Ut _ e)
 have sz:((s.heap.push {cls:=.type "list",data:=.seq #[]}).update s.heap.objs.size (Zd (fun _=>(#[]:Array L')))).objs.size=s.heap.objs.size+1:=by rw[Yg.size_update,UY]
 refine OL (A:=A.in1) hc hd (hm.at' fun o e=>eD d o e) (c.mono fun b o _ e=>eD b o e) lS Bb pI hn fun s' acc c' mv ir eK=>⟨O,?_⟩
 refine hQ s' acc c' (fun b o e=>mv.heap b o (fun z=>?_) (eD b o e)) mv.gens mv.drawn mv.os ir eK;have lt:=Uw e;simp only[U1,US,YX] at z
 rcases z with z|z
 .exact X4 lt (by rw[z];exact UT _)
 .exact X4 lt (by rw[z,sz];exact Qcl.mpr (Vm _))
end
end
def Its (x:K'):It:=⟨fun i _=>i<x.cps.size,fun i H v H'=>H'=H/\∃ c,x.cps[i]?=B' c/\v=.str ⟨#[c]⟩,fun i _=>x.cps.size<=i⟩
theorem SM {P:YE}{K:V'} (x:K') (t:Zf) (it:F'):ma P w K tg (Its x) [it] it (fun i h=>nF h it x t i) where
 mem:=by simp
 obj:=fun i h st b hb=>by
  have e:b=it:=by simpa using hb
  subst e;rcases st with⟨o,e,c,d⟩|⟨o,e,c,d⟩<;>exact⟨o,e,fun v z=>by rw[d] at z;cases z⟩
 keep:=fun i h h' st k=>st.keep fun o e=>k it (by simp) o e
 item:=by
  intro X hP hw hK hc i aa s σ H E I hf st hg;subst hP hw hK;obtain⟨f0,f1,f2,f3,f4,f5⟩:=hf it (by simp);have KF:i<x.cps.size:=hg;have hx:x.cps[i]?=B' x.cps[i]:=by simp[KF]
  refine Oh st hx fun h' u tk iq sb=>?_
  have I1:Inv X aa σ H {s with heap:=h',toks:=tk}:=I.turned (fun b o hb e=>(sb.2 b hb).trans e) f0 f1 f3 f4 f5;rcases id iq with⟨o,e,c,d⟩|⟨o,e,c,d⟩
  .exact⟨_,O,yv (s:={s with heap:=h',toks:=tk}) e c d (by decide) ⟨.str ⟨#[x.cps[i]]⟩,H,I1,⟨u,O⟩,⟨O,_,hx,O⟩,iq,fun b hb=>(hf b hb).1⟩⟩
  .exact⟨_,O,yv (s:={s with heap:=h',toks:=tk}) e c d (by decide) ⟨.str ⟨#[x.cps[i]]⟩,H,I1,⟨u,O⟩,⟨O,_,hx,O⟩,iq,fun b hb=>(hf b hb).1⟩⟩
 done:=by
  intro X hP hw hK hc i aa s σ H E I hf st hg;subst hP hw hK;obtain⟨f0,f1,f2,f3,f4,f5⟩:=hf it (by simp);exact Rp I.hd st (WD hg) fun h' eb=>⟨O,I.turned (t':=s.toks) (fun b o hb e=>eb b o hb e) f0 f1 f3 f4 f5⟩
 self:=fun _ _ _ _ _ st h=>by
  rcases st with y|y
  .exact wpAny_pyIter_striter_ascii y h
  .exact wpAny_pyIter_striter_wide y h
def Qiz (tl:TE):TI:=fun σ H R=>tl σ H fun x H1=>∃ z,x=.str z/\R (Its z) H1
theorem QiA (hl:PE X l tl):PI X tg l (Qiz tl):=by
 intro aa s σ H R I h;refine X3 (hl aa s σ H _ I h) fun v s1=>L2.Yc fun x H1 I1 r1 a8=>?_
 obtain⟨z,e,q⟩:=a8;subst e;obtain⟨t,rfl⟩:=r1;have aL:∀ ob:X6,nF (s1.heap.push ob) s1.heap.objs.size z t 0->PIE X aa σ tg R (.ref s1.heap.objs.size) {s1 with heap:=s1.heap.push ob}:=fun ob st=>
  ⟨s1.heap.objs.size,[s1.heap.objs.size],_,Its z,H1,rfl,I1.kept (t':=s1.toks) fun b o e=>Ut _ e,SM z t _,st,fun b hb=>by
   have e:b=s1.heap.objs.size:=by simpa using hb
   subst e;exact I1.ZQ (Uv _) (I1.XU.fresh (Uv _)),q⟩
 cases ha:z.cps.all (·<128)
 .exact wpAny_pyIter_wide ha (aL _ (.inr ⟨_,UA _ O,O,O⟩))
 .exact wpAny_pyIter_ascii ha (aL _ (.inl ⟨_,UA _ O,O,O⟩))
theorem Q8 {Q:VK} (Pv:Nat->St->Hp->Prop) (h0:Pv 0 τ H)
  (hs:∀ i c τ H,x.cps[i]?=B' c->Pv i τ H->g (.str ⟨#[c]⟩) τ H fun τ2 H2=>tt τ2 H2 fun b H3=>
   if b=D' then te τ2 H3 fun y H4=>∃ ys,H4 D=B' (.lst ys)/\ys.length<XX/\Pv (i+1) τ2 (upd H4 D (.lst (ys++[y]))) else Pv (i+1) τ2 H3)
  (hd:∀ τ H,Pv x.cps.size τ H->Q (.ref D) H):kJ (Its x) D τ H g tt te Q:=by
 refine⟨fun i m τ H=>m=x.cps.size-i/\i<=x.cps.size/\Pv i τ H,⟨x.cps.size,by simp,VJ _,h0⟩,?_⟩;rintro i m τ H ⟨rfl,hi,p⟩
 by_cases bp:i<x.cps.size
 .refine .inr ⟨bp,Pv (i+1),fun τ' H' p'=>⟨x.cps.size-(i+1),by lia,O,bp,p'⟩,fun v H' y=>?_⟩
  obtain⟨e,c,hc,ev⟩:=y;subst e ev;exact hs i c τ _ hc p
 .have e:i=x.cps.size:=by lia
  subst e;exact .inl ⟨Uv _,hd τ H p⟩
def Itz (K:V') (l1 l2:F'):It:=
  ⟨fun i H=>∃ xs ys x y,M' K H l1 xs/\M' K H l2 ys/\xs[i]?=B' x/\ys[i]?=B' y,
   fun i H v H'=>∃ T x y,v=.ref T/\H T=C'/\H'=upd H T (.tup [x,y])/\(∀ xs,M' K H l1 xs->xs[i]?=B' x)/\∀ ys,M' K H l2 ys->ys[i]?=B' y,
   fun i H=>∃ xs ys,M' K H l1 xs/\M' K H l2 ys/\(xs.length<=i\/ys.length<=i)⟩
def QiB (h:Yg) (z TI TO i1 i2 l1 l2:F') (i:Nat):Prop:=QaE h z TI TO .none/\Z' h TI (.ref i1) (.ref i2)/\(∃ a b,Z' h TO a b)/\h.IsListIter i1 l1 i/\h.IsListIter i2 l2 i
theorem OA {P:YE}{K:V'}{k:Nat}{TI TO:F'} (D:QaB z TI TO i1 i2 l1 l2) :
  ma P w K (.Tuple es k pos) (Itz K l1 l2) [z,TI,TO,i1,i2] z (fun i h=>QiB h z TI TO i1 i2 l1 l2 i) where
 mem:=by simp
 obj:=fun i h st b hb=>by
  obtain⟨hz,cB,⟨a,c,d9⟩,⟨o1,e1,c1,d1⟩,⟨o2,e2,c2,d2⟩⟩:=st;simp only[U1,US,YX] at hb
  rcases hb with rfl|rfl|rfl|rfl|rfl
  .exact⟨_,hz,fun v q=>by simp at q⟩
  .exact⟨_,cB,fun v q=>by simp at q⟩
  .exact⟨_,d9,fun v q=>by simp at q⟩
  .exact⟨_,e1,fun v q=>by rw[d1] at q;cases q⟩
  .exact⟨_,e2,fun v q=>by rw[d2] at q;cases q⟩
 keep:=fun i h h' st k=>by
  obtain⟨hz,cB,⟨a,c,d9⟩,h1,h2⟩:=st;exact⟨k z (by simp) _ hz,k TI (by simp) _ cB,⟨a,c,k TO (by simp) _ d9⟩,h1.at fun o e=>k i1 (by simp) o e,h2.at fun o e=>k i2 (by simp) o e⟩
 item:=by
  intro X hP hw hK hc i aa s σ H E I hf st hg;subst hP hw hK;obtain⟨xs,ys,x,y,q1,q2,hx,hy⟩:=hg;obtain⟨hz,cB,⟨a,c,d9⟩,h1,h2⟩:=st;obtain⟨ah,rv,pl,_⟩:=I.list q1;obtain⟨its',cH,kd,_⟩:=I.list q2;obtain⟨u,hu,ru⟩:=rv.get hx;obtain⟨u',gC,uG⟩:=cH.get hy;have nf:∀ b∈[z,TI,TO,i1,i2],b∉YG X.stack:=fun b hb q=>(U1.mp (I.ZP b q)).elim (hf b hb).2.1 (hf b hb).2.2.1
  refine Xm D hz cB d9 h1 h2 pl.isList kd.isList (x:=u) (y:=u') (by simpa using hu) (by simpa using gC) fun h' a1 a2 a3 a4 a5 a6 hk=>⟨_,O,?_⟩
  refine wpAny_letOwnedTupleGo_zip (s:={s with heap:=h'}) a1 fun cX jB bh=>?_
  have pi:H s.heap.objs.size=C':=I.XU.fresh (Uv _);have Ug:=Uw hz;have old:∀ b o,b≠z->b≠TO->b≠i1->b≠i2->s.heap.get? b=B' o->cX.get? b=B' o:=fun b o n1 n2 n3 n4 e=>bh.extBut b o n1 (hk b o n1 n2 n3 n4 e)
  have I1:Inv X aa σ (upd H s.heap.objs.size (.tup [x,y])) {s with heap:=s.heap.push {cls:=.type "tuple",data:=.seq #[u,u']} }:=
   I.laid (t':=s.toks) (fun b o e=>Ut _ e) (Uv _) ⟨by show 2<=XX;decide,[u,u'],.cons ru (.cons uG .nil),⟨_,UA _ rfl,O,_,O⟩⟩
  have mZ:∀ b∈[z,TI,TO,i1,i2],bE X aa (upd H s.heap.objs.size (.tup [x,y])) b:=fun b hb=>by
   obtain⟨f0,r⟩:=hf b hb;refine⟨?_,r⟩;have lt:b<s.heap.objs.size:=by
    simp only[U1,US,YX] at hb
    rcases hb with rfl|rfl|rfl|rfl|rfl
    .exact Uw hz
    .exact Uw cB
    .exact Uw d9
    .obtain⟨o,e,_⟩:=h1;exact Uw e
    .obtain⟨o,e,_⟩:=h2;exact Uw e
   rw[ak (UE lt)];exact f0
  have I2:Inv X aa σ (upd H s.heap.objs.size (.tup [x,y])) {s with heap:=cX}:=by
   have back:∀ b o,(s.heap.push {cls:=.type "tuple",data:=.seq #[u,u']}).get? b=B' o->b≠z->b≠TO->b≠i1->b≠i2->cX.get? b=B' o:=fun b o e n1 n2 n3 n4=>by
    rcases Wq e with⟨rfl,rfl⟩|e
    .exact bh.extBut _ _ n1 a5
    .exact old b o n1 n2 n3 n4 e
   refine I1.slots (ch:=[z,TO,i1,i2]) (tk:=s.toks) (fun b hb=>mZ b (by simp only[U1,US,YX] at hb ⊢;rcases hb with e|e|e|e<;>simp[e])) (fun b o _ hc e=>?_) (fun b o hb e=>⟨o.slots,?_⟩) (fun b hb o e=>?_)
   .simp only[U1,US,YX,not_or] at hc
    exact back b o e hc.1 hc.2.1 hc.2.2.1 hc.2.2.2
   .exact back b o e (fun q=>nf z (by simp) (q ▸ hb)) (fun q=>nf TO (by simp) (q ▸ hb)) (fun q=>nf i1 (by simp) (q ▸ hb)) (fun q=>nf i2 (by simp) (q ▸ hb))
   .simp only[U1,US,YX] at hb
    rcases hb with rfl|rfl|rfl|rfl
    .exact⟨_,jB⟩
    .exact⟨_,bh.extBut _ _ D.TOz a2⟩
    .obtain⟨o,e,_⟩:=a3;exact⟨_,bh.extBut _ _ D.i1z e⟩
    .obtain⟨o,e,_⟩:=a4;exact⟨_,bh.extBut _ _ D.i2z e⟩
  refine⟨.ref s.heap.objs.size,_,I2,O,⟨_,x,y,O,pi,O,fun FM q=>by rw[I.QbM q q1];exact hx,fun kO q=>by rw[I.QbM q q2];exact hy⟩,?_,fun b hb=>(mZ b hb).1⟩;exact⟨jB,old TI _ D.TIz D.TITO D.TIi1 D.TIi2 cB,⟨_,_,bh.extBut _ _ D.TOz a2⟩,a3.extBut bh.extBut D.i1z,a4.extBut bh.extBut D.i2z⟩
 done:=by
  intro X hP hw hK hc i aa s σ H E I hf st hg;subst hP hw hK;obtain⟨xs,ys,q1,q2,aw⟩:=hg;obtain⟨hz,cB,⟨a,c,d9⟩,h1,h2⟩:=st;obtain⟨ah,rv,pl,_⟩:=I.list q1;obtain⟨its',cH,kd,_⟩:=I.list q2;have e1:=rv.length;have e2:=cH.length;have nf:∀ b∈[z,TI,TO,i1,i2],b∉YG X.stack:=fun b hb q=>(U1.mp (I.ZP b q)).elim (hf b hb).2.1 (hf b hb).2.2.1
  have nc:∃ cs,YQ X.A cs/\Yn s.heap cs/\∀ b∈[z,TI,TO,i1,i2],b∉cs:=by
   rcases I.QaW with e|⟨b,cs,e,c⟩
   .exact⟨[],.inl ⟨e,O⟩,⟨Wm,fun j a q=>by simp at q⟩,fun b _ q=>by simp at q⟩
   .exact⟨b::cs,.inr ⟨b,cs,O,e⟩,c.chn I.XU,fun d hd=>c.Qcq (hf d hd).1⟩
  obtain⟨cs,cK,ch,qP⟩:=nc;refine Jy cK ch (qP z (by simp)) (qP TO (by simp)) (qP i1 (by simp)) (qP i2 (by simp)) D hz cB d9 h1 h2 pl.isList kd.isList (by rcases aw with q|q;(left;simp;lia);(right;simp;lia)) fun h' hk=>⟨O,?_⟩
  refine I.slot0 (ch:=[z,TI,TO,i1,i2]) (tk:=s.toks) hf (fun b o _ hc e=>?_) (fun b o hb e=>⟨o.slots,?_⟩)
  .simp only[U1,US,YX,not_or] at hc
   exact hk b o hc.1 hc.2.2.1 hc.2.2.2.1 hc.2.2.2.2 e
  .exact hk b o (fun q=>nf z (by simp) (q ▸ hb)) (fun q=>nf TO (by simp) (q ▸ hb)) (fun q=>nf i1 (by simp) (q ▸ hb)) (fun q=>nf i2 (by simp) (q ▸ hb)) e
 self:=fun _ _ _ _ _ st h=>W8 st.1 h
def QiC (K:V') (ta:TA):TI:=fun σ H R=>ta σ H fun vs H1=>∃ l1 l2,vs=[.ref l1,.ref l2]/\(∃ xs,M' K H1 l1 xs)/\(∃ ys,M' K H1 l2 ys)/\R (Itz K l1 l2) H1
theorem yc {k:Nat}{p:YA}{a b:X'}{ta:TA} (hg:Gl X "zip") (hm:X.mg "zip"=C') (ha:PA X [a,b] ta) (hs:Yb [a,b] X.env=[(R',X9 a X.env),(R',X9 b X.env)]:=by rfl) (fu:Yb [b] X.env=[(R',X9 b X.env)]:=by rfl) :
  PI X (.Tuple es k Qbd) (.Call (.Name "zip" p) [a,b] [] pos) (QiC X.K ta):=by
 intro aa s σ H R I h;refine Call_ (iV I hg hm boot_zip (Qa4 (X3 (ha pos aa s σ H _ I h) fun us s1=>L2.Yc fun vs H1 I1 r1 a8=>?_) (by rw[hs,fu]) (by rw[fu];rfl)));obtain⟨l1,l2,e,⟨xs,q1⟩,⟨ys,q2⟩,q⟩:=a8;subst e;obtain⟨u,u',rfl,ru,uG⟩:=pT r1;obtain rfl:u=X2 l1:=ru;obtain rfl:u'=X2 l2:=uG;obtain⟨ah,rv,pl,_⟩:=I1.list q1;obtain⟨its',cH,kd,_⟩:=I1.list q2;refine call_zip_2 pl.isList kd.isList fun h' b1 b2 b3 b4 b5 b6 hk=>?_
 refine W8 (s:={s1 with heap:=h'}) b1 ?_;have iI:l1<s1.heap.objs.size:=by obtain⟨o,e,_⟩:=pl.isList;exact Uw e
 have lM:l2<s1.heap.objs.size:=by obtain⟨o,e,_⟩:=kd.isList;exact Uw e
 have nn:∀ (x y:Nat),x<y->∀ j:Nat,x≠y+j:=fun x y h j e=>by lia
 have n0:∀ (y i j:Nat),i≠j->y+i≠y+j:=fun y i j h e=>by lia
 have D:QaB (s1.heap.objs.size+4) (s1.heap.objs.size+2) (s1.heap.objs.size+3) s1.heap.objs.size (s1.heap.objs.size+1) l1 l2:=
  ⟨n0 _ 2 4 (by decide),n0 _ 3 4 (by decide),n0 _ 0 4 (by decide),n0 _ 1 4 (by decide),n0 _ 2 3 (by decide),n0 _ 2 0 (by decide),n0 _ 2 1 (by decide),n0 _ 3 0 (by decide),n0 _ 3 1 (by decide),n0 _ 0 1 (by decide),
   nn _ _ iI 4,nn _ _ iI 3,nn _ _ iI 0,nn _ _ iI 1,nn _ _ lM 4,nn _ _ lM 3,nn _ _ lM 0,nn _ _ lM 1⟩
 refine⟨s1.heap.objs.size+4,[s1.heap.objs.size+4,s1.heap.objs.size+2,s1.heap.objs.size+3,s1.heap.objs.size,s1.heap.objs.size+1],_,_,H1,O,I1.kept (t':=s1.toks) hk,OA D,⟨b1,b2,⟨_,_,b3⟩,b4,b5⟩,fun b hb=>?_,q⟩;have ge:s1.heap.objs.size<=b:=by
  simp only[U1,US,YX] at hb
  rcases hb with rfl|rfl|rfl|rfl|rfl
  .exact U8 _ _
  .exact U8 _ _
  .exact U8 _ _
  .exact Uv _
  .exact U8 _ _
 exact I1.ZQ ge (I1.XU.fresh ge)
theorem Inv.freeze (I:Inv X aa σ H s) (e:H d=B' (.dK kvs)) (ho:s.heap.get? d=B' o):Inv X aa σ (upd H d (.X7 o (.dK kvs))) s:=by
 have ne:∀ b u,H b=B' u->u≠.dK kvs->b≠d:=fun b u q n z=>by rw[z,e] at q;cases q;exact n rfl
 have kp:∀ b u,H b=B' u->u≠.dK kvs->upd H d (.X7 o (.dK kvs)) b=B' u:=fun b u q n=>by rw[ak (ne b u q n)];exact q
 refine I.un (h':=s.heap) (t':=s.toks) ⟨fun b _ q _ _ _=>q,fun b ob q _ _ _=>⟨ob.slots,q⟩,fun b ob q n _=>?_,fun b ob q _=>⟨ob,q⟩,fun b xs q=>kp b _ q (by intro z;cases z),fun b ob u q=>kp b _ q (by intro z;cases z),fun b pp pq q=>kp b _ q (by intro z;cases z)⟩ fun b u q=>?_
 .rw[ak (fun z=>by rw[z,e] at n;cases n)];exact n
 .by_cases hb:b=d
  .subst hb
   rw[ai] at q;cases q
   exact⟨ho,(I.XU _ _ e)⟩
  .rw[ak hb] at q
   exact(I.XU b u q).ZE (fun c v _ r=>r) (fun c r=>kp c _ r (by intro z;cases z)) (fun c xs r=>kp c _ r (by intro z;cases z)) fun c ob r=>kp c _ r (by intro z;cases z)
theorem Inv.Qe4 (I:Inv X aa σ H s) (hX:∀ o u,X.H₀ d≠B' (.X7 o u)) (e:H d=B' (.X7 o (.dK kvs))):Inv X aa σ (upd H d (.dK kvs)) s:=by
 have ne:∀ b u,H b=B' u->(∀ o v,u≠.X7 o v)->b≠d:=fun b u q n z=>by rw[z,e] at q;cases q;exact n _ _ rfl
 have kp:∀ b u,H b=B' u->(∀ o v,u≠.X7 o v)->upd H d (.dK kvs) b=B' u:=fun b u q n=>by rw[ak (ne b u q n)];exact q
 have nn:∀ b,H b=C'->upd H d (.dK kvs) b=C':=fun b q=>by rw[ak (fun z=>by rw[z,e] at q;cases q)];exact q
 have un:Un X.fs X.ex X.H₀ (upd H d (.dK kvs)) X.s₀.heap s.heap:=by
  obtain⟨b1,b2,b3,b4,b5,b6,b7⟩:=I.base;refine⟨b1,b2,fun b ob q n x=>nn b (b3 b ob q n x),b4,fun b xs q=>kp b _ (b5 b xs q) (by intro _ _ z;cases z),fun b ob u q=>?_,fun b pp pq q=>?_⟩
  .rw[ak (fun z=>hX ob u (by rw[<- z];exact q))];exact b6 b ob u q
  .exact kp b _ (b7 b pp pq q) (by intro _ _ z;cases z)
 refine {I with base:=un,free:=nn _ I.free,Zg:=fun x c q=>nn _ (I.Zg x c q),pin:=fun p hp=>?_,XU:=fun b u q=>?_}
 .obtain⟨p1,p2,p3⟩:=I.pin p hp
  exact⟨p1,nn _ p2,p3⟩
 .by_cases hb:b=d
  .subst hb
   rw[ai] at q;cases q
   exact(I.XU _ _ e).2
  .rw[ak hb] at q
   exact(I.XU b u q).ZE (fun c v _ r=>r) (fun c r=>kp c _ r (by intro _ _ z;cases z)) (fun c xs r=>kp c _ r (by intro _ _ z;cases z)) fun c ob r=>by rw[ak (fun z=>by rw[z,e] at r;cases r)];exact r
theorem Inv.Qe5 (I:Inv X aa σ H s) (e:H d=B' (.dK kvs)):∀ o u,X.H₀ d≠B' (.X7 o u):=fun o u q=>by
 have:=I.base.ZF d o u q;rw[e] at this;cases this
def QiD (t:TE):TE:=fun σ H Q=>∃ d kvs,H d=B' (.dK kvs)/\t σ H fun v H1=>∃ o,H1 d=B' (.X7 o (.dK kvs))/\Q v (upd H1 d (.dK kvs))
theorem Oo {t:TE} (h:PE X e t):PE X e (QiD t):=by
 intro aa s σ H Q I q;obtain⟨d,kvs,hd,q⟩:=q;exact X3 (h aa s σ H _ I q) fun u s1 ⟨x,H1,I1,r,o,e1,q1⟩=>⟨x,_,I1.Qe4 (I.Qe5 hd) e1,r,q1⟩
def kG (v d:F'):HO:=.ext fun h=>h.IsItemsView v d
def QiE:V->List V->Hp->VK->Prop:=fun x vs H Q=>∃ d kvs,x=.ref d/\vs=[]/\H d=B' (.dK kvs)/\∀ v,H v=C'->Q (.ref v) (upd H v (kG v d))
theorem HE:MtR X "dict.items" QiE:=by
 intro aa s σ H x xs v us Q I rx r h;obtain⟨d,kvs,rfl,rfl,e,q⟩:=h;obtain rfl:v=X2 d:=rx;cases r
 obtain⟨z,hd,vs,rel,dd⟩:=kK I.XU e;refine Qbu Qd0 dd.typeIs PySem.F.entry_dict_items (PySem.F.args_dict_items_1 _) (meets_dict_items (bV X.prog X.w) d hd) ⟨⟨vs,dd⟩,?_⟩;refine⟨.ref s.heap.objs.size,_,I.laid (t':=s.toks) (o:=kG s.heap.objs.size d) (fun b ob q=>Ut _ q) (Uv _) ?_,O,q _ (I.XU.fresh (Uv _))⟩;exact⟨⟨_,UA _ O,O,O⟩,⟨_,UA _ O⟩,fun h1 h2 ⟨o,a,r⟩ k=>⟨o,k o a,r⟩⟩
def Iti (d:F') (o:X6) (kvs:List (Key×V)):It:=
 ⟨fun i H=>H d=B' (.X7 o (.dK kvs))/\i<kvs.length,fun i H v H'=>∃ T k x,v=.ref T/\H T=C'/\kvs[i]?=B' (k,x)/\H'=upd H T (.tup [kV k,x]),fun i H=>H d=B' (.X7 o (.dK kvs))/\kvs.length<=i⟩
def QiF (h:Yg) (it d:F') (o:X6) (n i:Nat):Prop:=∃ es ep ok ov,o.data=.dict es ep/\IsItemIter h it d i n ep ok ov
theorem Cy {P:YE}{k:Key} (h:(bV P w).is k u=D'):aB (kV k) u:=by
 rcases ku (show pU k u=D' from h) with⟨i,t,rfl,rfl⟩|⟨x,t,rfl,rfl⟩
 .exact⟨t,O⟩
 .exact⟨t,O⟩
theorem KV.get {kvs:List (Key×V)}{vs:List (Key×L')} (r:KV kvs vs):∀ {i:Nat}{k:Key}{x:V},kvs[i]?=B' (k,x)->∃ u,vs[i]?=B' (k,u)/\aB x u:=by
 induction r with
 | nil=>intro i k x e;simp at e
 | @cons p q l1 l2 h t ih=>
  intro i k x e;cases i with
  | zero=>
   simp at e
   subst e;exact⟨q.2,by simp only[List.getElem?_cons_zero,Qlk];exact Prod.ext h.1.symm O,h.2⟩
  | succ i=>exact ih (by simpa using e)
theorem OH:Qcn table "dict_itemiterator.__iter__"=B' Ze.«dict_keyiterator.__iter__»:=Qhl (id':="dict_keyiterator.__iter__") (by kernel_rfl) rfl (by decide +kernel) (by kernel_rfl)
theorem SW {P:YE}{K:V'}{k:Nat}:ma P w K (.Tuple es k pos) (Iti d o kvs) [it] it (fun i h=>QiF h it d o kvs.length i) where
 mem:=by simp
 obj:=fun i h st b hb=>by
  have e:b=it:=by simpa using hb
  subst e;obtain⟨_,_,_,_,_,e⟩:=st;exact⟨_,e,fun v q=>by simp at q⟩
 keep:=fun i h h' st kk=>by
  obtain⟨a,b,c,e,q,y⟩:=st;exact⟨a,b,c,e,q,kk it (by simp) _ y⟩
 item:=by
  intro X hP hw hK hc i aa s σ H E I hf st hg;subst hP hw hK;obtain⟨hd,bp⟩:=hg;obtain⟨ig,ep,ok,ov,aA,hit⟩:=st;obtain⟨f0,f1,f2,f3,f4,f5⟩:=hf it (by simp);obtain⟨ho,tf⟩:=I.XU _ _ hd;obtain⟨z,lB,vs,rel,⟨o',Fs,El,jX,lT,c9,r2⟩⟩:=tf;rw[ho] at jX;cases jX
  rw[aA] at c9;cases c9
  have iK:s.heap.DictAt (bV X.prog X.w) d vs ep:=⟨o,ig,ho,lT,aA,r2⟩;obtain⟨⟨kk,x⟩,hx⟩:∃ p,kvs[i]?=B' p:=⟨kvs[i],by simp[bp]⟩;obtain⟨u,hu,ru⟩:=rel.get hx;have aw:kvs.length=vs.length:=rel.length;rw[aw] at hit;refine wpAny_pyNext_items_item hit iK hu fun key h' cu a1 a2 a3 Mh=>⟨_,O,?_⟩
  refine wpAny_letOwnedTupleGo_items (s:={s with heap:=h'}) a1 fun cX bP bh=>?_
  have pi:H s.heap.objs.size=C':=I.XU.fresh (Uv _);have nT:s.heap.objs.size≠it:=XW (UE (Uw hit));have I1:Inv X aa σ (upd H s.heap.objs.size (.tup [kV kk,x])) {s with heap:=s.heap.push {cls:=.type "tuple",data:=.seq #[key,u]} }:=
   I.laid (t':=s.toks) (fun b o e=>Ut _ e) (Uv _) ⟨by show 2<=XX;decide,[key,u],.cons (Cy cu) (.cons ru .nil),⟨_,UA _ rfl,O,_,O⟩⟩
  have Ez:upd H s.heap.objs.size (.tup [kV kk,x]) it=C':=by rw[ak (XW nT)];exact f0
  have I2:Inv X aa σ (upd H s.heap.objs.size (.tup [kV kk,x])) {s with heap:=cX}:=I1.turned (t':=s.toks) (fun b ob hb e=>by
   rcases Wq e with⟨rfl,rfl⟩|e
   .exact bh.extBut _ _ hb a2
   .exact bh.extBut _ _ hb (Mh b ob hb e)) Ez f1 f3 f4 f5
  refine⟨.ref s.heap.objs.size,_,I2,O,⟨_,kk,x,O,pi,hx,O⟩,⟨ig,ep,key,u,aA,by rw[aw];exact bP⟩,fun b hb=>?_⟩;have e:b=it:=by simpa using hb
  subst e;exact Ez
 done:=by
  intro X hP hw hK hc i aa s σ H E I hf st hg;subst hP hw hK;obtain⟨hd,lJ⟩:=hg;obtain⟨ig,ep,ok,ov,aA,hit⟩:=st;obtain⟨f0,f1,f2,f3,f4,f5⟩:=hf it (by simp);obtain⟨ho,tf⟩:=I.XU _ _ hd;obtain⟨z,lB,vs,rel,⟨o',Fs,El,jX,lT,c9,r2⟩⟩:=tf;rw[ho] at jX;cases jX
  rw[aA] at c9;cases c9
  have iK:s.heap.DictAt (bV X.prog X.w) d vs ep:=⟨o,ig,ho,lT,aA,r2⟩;have aw:kvs.length=vs.length:=rel.length;rw[aw] at hit;have nc:∃ cs,YQ X.A cs/\Yn s.heap cs/\it∉cs:=by
   rcases I.QaW with e|⟨b,cs,e,c⟩
   .exact⟨[],.inl ⟨e,O⟩,⟨Wm,fun j a q=>by simp at q⟩,by simp⟩
   .exact⟨b::cs,.inr ⟨b,cs,O,e⟩,c.chn I.XU,c.Qcq f0⟩
  obtain⟨cs,cK,ch,qP⟩:=nc;exact PZ cK ch qP hit iK (WH (by rw[<- aw];exact lJ)) fun h' eb=>⟨O,I.turned (t':=s.toks) (fun b o hb e=>eb b o hb e) f0 f1 f3 f4 f5⟩
 self:=fun A i s Q E st h=>by
  obtain⟨ig,ep,ok,ov,aA,hit⟩:=st;have hT:s.TypeIs (.ref it) "dict_itemiterator":=⟨_,hit,O⟩;refine wpAny_pyIter_slot hT Qfz (Vh Qfz hT OH ?_ (PySem.F.args_dict_itemiterator_iter_1 _));show N' _ _ (ret (.ref it)) _ _ s;exact Uu ⟨_,O,"dict_itemiterator",_,hT,QdV.lookup,h⟩
def QiG (tl:TE):TI:=fun σ H R=>tl σ H fun x H1=>∃ v d kvs,x=.ref v/\H1 v=B' (kG v d)/\H1 d=B' (.dK kvs)/\∀ o,R (Iti d o kvs) (upd H1 d (.X7 o (.dK kvs)))
theorem Jv {k:Nat} (hl:PE X l tl):PI X (.Tuple es k Qbd) l (QiG tl):=by
 intro aa s σ H R I h;refine X3 (hl aa s σ H _ I h) fun w s1=>L2.Yc fun x H1 I1 r1 a8=>?_
 obtain⟨v,d,kvs,e,hv,hd,q⟩:=a8;subst e;obtain rfl:w=X2 v:=r1;obtain⟨z,lB,vs,rel,dd⟩:=kK I1.XU hd;obtain⟨o,ig,ep,ho,hx,aA,r⟩:=id dd;have iK:s1.heap.DictAt (bV X.prog X.w) d vs ep:=⟨o,ig,ho,hx,aA,r⟩;refine wpAny_pyIter_items (I1.XU _ _ hv).1 iK ?_;have I2:=(I1.freeze hd ho).kept (t':=s1.toks) (h':=s1.heap.push {cls:=.type "dict_itemiterator",data:=.fields #[.none,.bool R',.ref d,.int 0 0,.int vs.length 0,.int ep 0,.none,.none]}) fun b o e=>Ut _ e
 refine⟨s1.heap.objs.size,[s1.heap.objs.size],_,_,_,O,I2,SW,⟨ig,ep,.none,.none,aA,?_⟩,fun b hb=>?_,q o⟩
 .rw[rel.length];exact UA _ rfl
 .have e:b=s1.heap.objs.size:=by simpa using hb
  subst e;refine I1.ZQ (Uv _) ?_;rw[ak (XW (UE (Uw ho)))];exact I1.XU.fresh (Uv _)
theorem S8 {Q:VK} (Pv:Nat->St->Hp->Prop) (h0:Pv 0 τ H) (hf:∀ i τ H,i<=kvs.length->Pv i τ H->H d=B' (.X7 o (.dK kvs)))
  (hs:∀ i k x T τ H,kvs[i]?=B' (k,x)->H T=C'->Pv i τ H->g (.ref T) τ (upd H T (.tup [kV k,x])) fun τ2 H2=>tt τ2 H2 fun b H3=>
   if b=D' then te τ2 H3 fun y H4=>∃ ys,H4 D=B' (.lst ys)/\ys.length<XX/\Pv (i+1) τ2 (upd H4 D (.lst (ys++[y]))) else Pv (i+1) τ2 H3)
  (hd:∀ τ H,Pv kvs.length τ H->Q (.ref D) H):kJ (Iti d o kvs) D τ H g tt te Q:=
 wk_ (n:=kvs.length) Pv h0 (fun i σ H hi p=>⟨fun h=>⟨hf i σ H hi p,h⟩,fun h=>⟨hf i σ H hi p,h⟩⟩) (fun i v σ H H' hi p y=>by
 obtain⟨T,k,x,rfl,hT,hx,rfl⟩:=y;exact hs i k x T σ H hx hT p) hd
theorem Jq {K:V'}{Q:VK} (aw:xs.length=ys.length) (Pv:Nat->St->Hp->Prop) (h0:Pv 0 τ H) (hl:∀ i τ H,i<=xs.length->Pv i τ H->M' K H l1 xs/\M' K H l2 ys)
  (hs:∀ i x y T τ H,xs[i]?=B' x->ys[i]?=B' y->H T=C'->Pv i τ H->g (.ref T) τ (upd H T (.tup [x,y])) fun τ2 H2=>tt τ2 H2 fun b H3=>
   if b=D' then te τ2 H3 fun y H4=>∃ ys,H4 D=B' (.lst ys)/\ys.length<XX/\Pv (i+1) τ2 (upd H4 D (.lst (ys++[y]))) else Pv (i+1) τ2 H3)
  (hd:∀ τ H,Pv xs.length τ H->Q (.ref D) H):kJ (Itz K l1 l2) D τ H g tt te Q:=
 wk_ (n:=xs.length) Pv h0 (fun i σ H hi p=>⟨fun h=>⟨xs,ys,xs[i],ys[i],(hl i σ H hi p).1,(hl i σ H hi p).2,by simp[h],by simp[show i<ys.length by lia]⟩,fun h=>⟨xs,ys,(hl i σ H hi p).1,(hl i σ H hi p).2,.inl h⟩⟩) (fun i v σ H H' hi p y=>by
 obtain⟨T,x,y,rfl,hT,rfl,hx,hy⟩:=y;exact hs i x y T σ H (hx xs (hl i σ H (VE hi) p).1) (hy ys (hl i σ H (VE hi) p).2) hT p) hd
theorem QiH:Zc "int"=B' (.type "int"):=by decide +kernel
theorem QiI:Zc "str"=B' (.type "str"):=by decide +kernel
theorem S1:Zc "bool"=B' (.type "bool"):=by decide +kernel
theorem uU:Zc "list"=B' (.type "list"):=by decide +kernel
theorem S7:Zc "tuple"=B' (.type "tuple"):=by decide +kernel
theorem yk:Zc "dict"=B' (.type "dict"):=by decide +kernel
theorem vU:Zc "isinstance"=B' (.builtin "isinstance"):=by decide +kernel
theorem QiJ:Zc "all"=B' (.builtin "all"):=by decide +kernel
theorem QiK:Zc "any"=B' (.builtin "any"):=by decide +kernel
theorem dZ:Zc "len"=B' (.builtin "len"):=by decide +kernel
theorem Jh:Zc "abs"=B' (.builtin "abs"):=by decide +kernel
theorem Ca:Zc "min"=B' (.builtin "min"):=by decide +kernel
theorem GH:Zc "max"=B' (.builtin "max"):=by decide +kernel
theorem JH:Zc "sum"=B' (.builtin "sum"):=by decide +kernel
theorem PJ (bs:List Bool) (d:Bool):(YM bs.length).all (fun i=>bs.getD i d)=bs.all id:=by
 induction bs with
 | nil=>rfl
 | cons b bs ih=>
  rw[UR,WC,WE,Xy,WE,<- ih];rfl
theorem S5 (bs:List Bool) (d:Bool):(YM bs.length).any (fun i=>bs.getD i d)=bs.any id:=by
 induction bs with
 | nil=>rfl
 | cons b bs ih=>
  rw[UR,WC,V1,XA,V1,<- ih];rfl
theorem Gh {bs:List Bool} (r:aC (bs.map V.bl) us) (h:us[i]?=B' v):v=.bool (bs.getD i D'):=by
 have hl:(bs.map V.bl).length=us.length:=r.length;have hi:i<bs.length:=by
  have:=(Yi.mp h).1;rw[Us] at hl;lia
 obtain⟨u,hu,ru⟩:=r.get (i:=i) (x:=.bl bs[i]) (by simp[hi]);rw[h] at hu;cases hu
 rw[Ux,Uy hi];exact ru
theorem OZ:fR X (.builtin "all") (fun xs H Q=>∃ p,∃ bs:List Bool,xs=[.ref p]/\M' X.K H p (bs.map V.bl)/\Q (.bl (bs.all id)) H):=by
 intro aa s σ H xs us Q I r h;obtain⟨p,bs,rfl,hq,q⟩:=h;obtain⟨u,rfl,ru⟩:=gv r;obtain rfl:u=X2 p:=ru;obtain⟨ah,rv,pl,_⟩:=I.list hq;obtain⟨cs,cK,ch⟩:=I.hd.chain;have bp:p<s.heap.objs.size:=by obtain⟨o,e,_⟩:=pl.isList;exact Uw e
 have dP:s.heap.objs.size∉cs:=fun z=>UT _ (ch.lt _ z)
 have aw:ah.length=bs.length:=by rw[<- rv.length,Us]
 refine call_all_walk (VC pl.isList ⟨s.heap.objs.size,_,_,_,_,_,fun i=>bs.getD i D',O,qT (A:=X.A.in1) cK s.heap.objs.size p (UE bp) dP ah.toArray,⟨⟨_,UA _ O,O,O⟩,pl.isList.push _,ch.mono fun b o _ e=>Ut _ e⟩,?_,fun h' tk hk=>?_⟩)
 .intro i v s' Q' E' hv zv
  have dG:ah[i]?=B' v:=by simpa using hv
  rw[Gh rv dG];exact Vv zv
 .have e:(YM ah.toArray.size).all (fun i=>bs.getD i D')=bs.all id:=by rw[UK,aw];exact PJ bs D'
  rw[e];exact⟨.bl _,H,I.kept fun b o e=>hk b o (fun z=>by
   have:b=s.heap.objs.size:=by simpa using z
   exact X4 (Uw e) (by rw[this];exact UT _)) (Ut _ e),O,q⟩
theorem Ol:fR X (.builtin "any") (fun xs H Q=>∃ p,∃ bs:List Bool,xs=[.ref p]/\M' X.K H p (bs.map V.bl)/\Q (.bl (bs.any id)) H):=by
 intro aa s σ H xs us Q I r h;obtain⟨p,bs,rfl,hq,q⟩:=h;obtain⟨u,rfl,ru⟩:=gv r;obtain rfl:u=X2 p:=ru;obtain⟨ah,rv,pl,_⟩:=I.list hq;obtain⟨cs,cK,ch⟩:=I.hd.chain;have bp:p<s.heap.objs.size:=by obtain⟨o,e,_⟩:=pl.isList;exact Uw e
 have dP:s.heap.objs.size∉cs:=fun z=>UT _ (ch.lt _ z)
 have aw:ah.length=bs.length:=by rw[<- rv.length,Us]
 refine call_any_walk (VC pl.isList ⟨s.heap.objs.size,_,_,_,_,_,fun i=>bs.getD i D',O,qT (A:=X.A.in1) cK s.heap.objs.size p (UE bp) dP ah.toArray,⟨⟨_,UA _ O,O,O⟩,pl.isList.push _,ch.mono fun b o _ e=>Ut _ e⟩,?_,fun h' tk hk=>?_⟩)
 .intro i v s' Q' E' hv zv
  have dG:ah[i]?=B' v:=by simpa using hv
  rw[Gh rv dG];exact Vv zv
 .have e:(YM ah.toArray.size).any (fun i=>bs.getD i D')=bs.any id:=by rw[UK,aw];exact S5 bs D'
  rw[e];exact⟨.bl _,H,I.kept fun b o e=>hk b o (fun z=>by
   have:b=s.heap.objs.size:=by simpa using z
   exact X4 (Uw e) (by rw[this];exact UT _)) (Ut _ e),O,q⟩
theorem Px {P:YE}:∀ {kvs:List (Key×V)}{vs:List (Key×L')}{acc:List L'},KV kvs vs->acc.length=vs.length->(∀ (i:Nat) (v:L'),acc[i]?=B' v->∃ k x,vs[i]?=B' (k,x)/\(bV P w).is k v=D')->aC (kvs.map fun kv=>kV kv.1) acc:=by
 intro kvs vs acc r
 induction r generalizing acc with
 | nil=>
  intro hl _;cases acc with
  | nil=>exact .nil
  | cons _ _=>simp at hl
 | @cons p q ps qs h t ih=>
  intro hl hk;cases acc with
  | nil=>simp at hl
  | cons v acc=>
   obtain⟨k,x,e,hv⟩:=hk 0 v rfl;simp at e
   subst e;refine .cons ?_ (ih (by simpa using hl) fun i v' dG=>by simpa using hk (i+1) v' (by simpa using dG));show aB (kV p.1) v;rw[h.1];exact Cy hv
theorem QQ:fR X (.type "list") (fun xs H Q=>∃ d kvs,xs=[.ref d]/\H d=B' (.dK kvs)/\∀ l,H l=C'->Q (.ref l) (upd H l (.lst (kvs.map fun kv=>kV kv.1)))):=by
 intro aa s σ H xs us Q I r h;obtain⟨d,kvs,rfl,hd,q⟩:=h;obtain⟨u,rfl,ru⟩:=gv r;obtain rfl:u=X2 d:=ru;obtain⟨z,lB,vs,rel,dd⟩:=kK I.XU hd;obtain⟨ep,iK⟩:=dd.dictAt;obtain⟨cs,cK,ch⟩:=I.hd.chain;refine Pq cK lB iK ch (by rw[<- rel.length];exact z) fun s' acc c' kp g1 g2 g3 hS ha=>?_
 have rv:aC (kvs.map fun kv=>kV kv.1) acc.toList:=Px rel (by simpa using ha.1) fun i v hv=>ha.2 i v (by simpa using hv)
 have I':Inv X aa σ (upd H s.heap.objs.size (.lst (kvs.map fun kv=>kV kv.1))) {s with heap:=s'.heap,toks:=s'.toks}:=
  I.laid kp (Uv _) ⟨by rw[Us];exact z,acc.toList,c',rv,by simpa using hS⟩
 obtain⟨h',g',d',t',wd⟩:=s';dsimp only at g1 g2 g3 I';subst g1 g2 g3;exact⟨.ref s.heap.objs.size,_,I',O,q _ (I.XU.fresh (Uv _))⟩
section
variable {K:V'} (hK:X.K=K)
include hK
theorem vQ:IxR X (QeV K):=hK ▸ aT
theorem jt:IxR X (Qdv K):=hK ▸ ff
theorem CO {f:K'} (he:PE X e ta) (hb:Qbs e f X.env (X9 e X.env)=X9 e X.env):PE X (.Attribute e f pos) (QeT K ta f):=hK ▸ bg he hb
theorem jS {k:Nat}{t:TGs} (hc:X.calm=D') (h:PGs X es t) (hn:(Qaw es X.env).length=n:=by rfl) (cR:(Qaw es X.env).findIdx? (·.1)=C':=by rfl):PG X (.Tuple es k pos) (QeN K n t):=hK ▸ fe hc h hn cR
end
section
theorem GG (hc:YQ A cs) (I ax:F') (eQ:ax≠I) (hI:I∉cs) (items:Array L') :
  QbL prog w A I (I::ax::cs) [I] items.size (fun i v=>items[i]?=B' v) (fun i h=>h.IsTupleIter I ax i/\h.IsTuple ax items/\Yn h cs) where
 sub:=fun b hb=>by simp at hb;simp[hb]
 frame:=fun _ _ _ st hk=>⟨st.1.at fun o e=>hk I (by simp) o e,st.2.1.at fun o e=>hk ax (by simp) o e,st.2.2.mono fun b o hb e=>hk b (by simp[hb]) o e⟩
 item:=fun i s Q E hi st hQ=>by
  refine wpAny_pyNext_tuple_item st.1 st.2.1 (x:=items[i]) (by simp[hi]) fun h' bP bh=>?_
  exact hQ _ h' s.toks (by simp[hi]) ⟨bP,st.2.1.extBut bh.extBut eQ,st.2.2.but hI bh.extBut⟩ fun b o hb e=>bh.extBut b o (fun h=>hb (by simp[h])) e
 done:=fun s Q E st hQ=>Jc (hc.hd st.2.2) st.1 st.2.1 (by simp) fun h' de=>hQ h' s.toks fun b o hb e=>de b o (fun h=>hb (by simp[h])) e
 self:=fun _ _ _ _ st hQ=>wpAny_pyIter_tupleiter st.1 hQ
theorem QiL {a b:Int}{u:Zf}{Q:L'->XT->Prop} (hc:YQ A cs) (ch:Yn s.heap cs)
  (h:∀ h' tk,(∀ c o,s.heap.get? c=B' o->h'.get? c=B' o)->Q (if b<a then .int b u else .int a t) {s with heap:=h',toks:=tk}) :
  N' (XS prog w) A (call (.builtin "min") [.int a t,.int b u]) Q E s:=by
 have hT:(s.heap.push {cls:=.type "tuple",data:=.seq #[.int a t,.int b u]}).IsTuple s.heap.objs.size (Zv #[(a,t),(b,u)]):=⟨_,UA _ O,O,0,by simp[Zv]⟩;refine call_min_two (XB hT ?_);have hsz:(s.heap.push {cls:=.type "tuple",data:=.seq #[.int a t,.int b u]}).objs.size=s.heap.objs.size+1:=UY ..;have ns:∀ k,s.heap.objs.size<=k->k∉cs:=fun k hk z=>X4 (ch.lt _ z) (Qcl.mpr hk)
 refine⟨_,_,[_],_,_,_,_,O,GG (A:=A.in1) hc _ s.heap.objs.size (by rw[hsz];exact UE (Vi _)) (ns _ (by rw[hsz];exact Vm _)) (Zv #[(a,t),(b,u)]),
  ⟨⟨_,UA _ rfl,rfl,rfl⟩,hT.push _,ch.mono fun b o _ e=>Ut _ (Ut _ e)⟩,fun c hc=>?_,by simp[Zv],Qep (Zw #[(a,t),(b,u)]) (fun _ _=>intItems_at),fun v h' tk hP hk=>?_⟩
 .show c<((s.heap.push _).push _).objs.size
  rw[UY,hsz];rcases U1.mp hc with rfl|hc
  .rw[hsz];exact Vi _
  .rcases U1.mp hc with rfl|hc
   .exact Vk (Vi _)
   .exact UN (ch.lt _ hc) (by lia)
 .have oW:∀ c o,s.heap.get? c=B' o->h'.get? c=B' o:=fun c o e=>by
   refine hk c o (fun hm=>?_) (Ut _ (Ut _ e));have e1:=XC.mp hm;have:=Uw e;rw[e1,hsz] at this;exact UT _ (W0 this)
  have:=h h' tk oW;have hv:v=if b<a then Zn b u else Zn a t:=by
   have gF:(Zv #[(a,t),(b,u)])[YC (fun i j=>decide (Zw #[(a,t),(b,u)] i<Zw #[(a,t),(b,u)] j)) 1]?=B' v:=by
    have oP:(Zv #[(a,t),(b,u)]).size-1=1:=by simp[Zv]
    rw[<- oP];exact hP
   by_cases kM:b<a
   .have e:YC (fun i j=>decide (Zw #[(a,t),(b,u)] i<Zw #[(a,t),(b,u)] j)) 1=1:=by simp[YC,Zw,kM]
    rw[e] at gF
    simpa [Zv,kM] using gF.symm
   .have e:YC (fun i j=>decide (Zw #[(a,t),(b,u)] i<Zw #[(a,t),(b,u)] j)) 1=0:=by simp[YC,Zw,kM]
    rw[e] at gF
    simpa [Zv,kM] using gF.symm
  rw[hv];exact this
section
variable {κ:Type} [DecidableEq κ] {knd:KeyKind prog w κ}
end
end
theorem OR:fR X (.builtin "min") (fun xs H Q=>∃ i j,xs=[.int i,.int j]/\Q (.int (if j<i then j else i)) H):=by
 intro aa s σ H xs us Q I r h;obtain⟨i,j,rfl,q⟩:=h;obtain⟨u,w',rfl,⟨t,rfl⟩,⟨t',rfl⟩⟩:=pT r;obtain⟨cs,cK,ch⟩:=I.hd.chain;refine QiL cK ch fun h' tk k=>⟨_,H,I.kept k,?_,q⟩
 by_cases hj:j<i
 .rw[XR hj,XR hj];exact⟨_,O⟩
 .rw[W' hj,W' hj];exact⟨_,O⟩
theorem QiM {a b:Int}{u:Zf}{Q:L'->XT->Prop} (hc:YQ A cs) (ch:Yn s.heap cs)
  (h:∀ h' tk,(∀ c o,s.heap.get? c=B' o->h'.get? c=B' o)->Q (if b > a then .int b u else .int a t) {s with heap:=h',toks:=tk}) :
  N' (XS prog w) A (call (.builtin "max") [.int a t,.int b u]) Q E s:=by
 have hT:(s.heap.push {cls:=.type "tuple",data:=.seq #[.int a t,.int b u]}).IsTuple s.heap.objs.size (Zv #[(a,t),(b,u)]):=⟨_,UA _ O,O,0,by simp[Zv]⟩;refine call_max_two (XB hT ?_);have hsz:(s.heap.push {cls:=.type "tuple",data:=.seq #[.int a t,.int b u]}).objs.size=s.heap.objs.size+1:=UY ..;have ns:∀ k,s.heap.objs.size<=k->k∉cs:=fun k hk z=>X4 (ch.lt _ z) (Qcl.mpr hk)
 refine⟨_,_,[_],_,_,_,_,O,GG (A:=A.in1) hc _ s.heap.objs.size (by rw[hsz];exact UE (Vi _)) (ns _ (by rw[hsz];exact Vm _)) (Zv #[(a,t),(b,u)]),
  ⟨⟨_,UA _ rfl,rfl,rfl⟩,hT.push _,ch.mono fun b o _ e=>Ut _ (Ut _ e)⟩,fun c hc=>?_,by simp[Zv],QgJ (Zw #[(a,t),(b,u)]) (fun _ _=>intItems_at),fun v h' tk hP hk=>?_⟩
 .show c<((s.heap.push _).push _).objs.size
  rw[UY,hsz];rcases U1.mp hc with rfl|hc
  .rw[hsz];exact Vi _
  .rcases U1.mp hc with rfl|hc
   .exact Vk (Vi _)
   .exact UN (ch.lt _ hc) (by lia)
 .have oW:∀ c o,s.heap.get? c=B' o->h'.get? c=B' o:=fun c o e=>by
   refine hk c o (fun hm=>?_) (Ut _ (Ut _ e));have e1:=XC.mp hm;have:=Uw e;rw[e1,hsz] at this;exact UT _ (W0 this)
  have:=h h' tk oW;have hv:v=if b > a then Zn b u else Zn a t:=by
   have gF:(Zv #[(a,t),(b,u)])[YC (fun i j=>decide (Zw #[(a,t),(b,u)] i > Zw #[(a,t),(b,u)] j)) 1]?=B' v:=by
    have oP:(Zv #[(a,t),(b,u)]).size-1=1:=by simp[Zv]
    rw[<- oP];exact hP
   by_cases kM:b > a
   .have e:YC (fun i j=>decide (Zw #[(a,t),(b,u)] i > Zw #[(a,t),(b,u)] j)) 1=1:=by simp[YC,Zw,kM]
    rw[e] at gF
    simpa [Zv,kM] using gF.symm
   .have e:YC (fun i j=>decide (Zw #[(a,t),(b,u)] i > Zw #[(a,t),(b,u)] j)) 1=0:=by simp[YC,Zw,kM]
    rw[e] at gF
    simpa [Zv,kM] using gF.symm
  rw[hv];exact this
theorem Tl:fR X (.builtin "max") (fun xs H Q=>∃ i j,xs=[.int i,.int j]/\Q (.int (if j > i then j else i)) H):=by
 intro aa s σ H xs us Q I r h;obtain⟨i,j,rfl,q⟩:=h;obtain⟨u,w',rfl,⟨t,rfl⟩,⟨t',rfl⟩⟩:=pT r;obtain⟨cs,cK,ch⟩:=I.hd.chain;refine QiM cK ch fun h' tk k=>⟨_,H,I.kept k,?_,q⟩
 by_cases hj:j > i
 .rw[XR hj,XR hj];exact⟨_,O⟩
 .rw[W' hj,W' hj];exact⟨_,O⟩
theorem vN (r:aC (ns.map V.int) us) (h:us[i]?=B' v):∃ t,v=.int (ns.getD i 0) t:=by
 induction ns generalizing us i with
 | nil=>
  cases r
  simp at h
 | cons n ns ih=>
  cases r with
  | cons rv rr=>
   cases i with
   | zero=>
    obtain⟨t,rfl⟩:=rv;simp at h
    exact⟨t,h.symm⟩
   | succ i=>exact ih rr (by simpa using h)
theorem Ov (f:Nat->Int) (ns:List Int) (h:∀ i,f i=ns.getD i 0):preSum f ns.length=ns.sum:=by
 have e:f=fun i=>ns.getD i 0:=funext h
 rw[e,preSum_getD,UO]
theorem Jk:fR X (.builtin "sum") (fun xs H Q=>∃ p,∃ ns:List Int,xs=[.ref p]/\M' X.K H p (ns.map V.int)/\Q (.int ns.sum) H):=by
 intro aa s σ H xs us Q I r h;obtain⟨p,ns,rfl,hq,q⟩:=h;obtain⟨u,rfl,ru⟩:=gv r;obtain rfl:u=X2 p:=ru;obtain⟨ah,rv,pl,_⟩:=I.list hq;obtain⟨cs,cK,ch⟩:=I.hd.chain;have bp:p<s.heap.objs.size:=by obtain⟨o,e,_⟩:=pl.isList;exact Uw e
 have dP:s.heap.objs.size∉cs:=fun z=>UT _ (ch.lt _ z)
 have aw:ah.length=ns.length:=by rw[<- rv.length,Us]
 refine call_sum_walkG (VC pl.isList ⟨s.heap.objs.size,_,_,_,_,_,fun i=>ns.getD i 0,O,qT (A:=X.A.in1) cK s.heap.objs.size p (UE bp) dP ah.toArray,⟨⟨_,UA _ O,O,O⟩,pl.isList.push _,ch.mono fun b o _ e=>Ut _ e⟩,?_,?_,fun h' tk t' hk=>?_⟩)
 .intro b hb
  show b<(s.heap.push _).objs.size;rw[UY];rcases U1.mp hb with rfl|hb
  .exact Vi _
  .rcases U1.mp hb with rfl|hb
   .exact Vk bp
   .exact Vk (ch.lt _ hb)
 .intro i v hv
  exact vN rv (by simpa using hv)
 .have e:preSum (fun i=>ns.getD i 0) ah.toArray.size=ns.sum:=by rw[UK,aw];exact Ov _ _ fun _=>rfl
  rw[e];exact⟨.int _,H,I.kept fun b o e=>hk b o (fun z=>by
   have:b=s.heap.objs.size:=by simpa using z
   exact X4 (Uw e) (by rw[this];exact UT _)) (Ut _ e),⟨_,O⟩,q⟩
theorem len0 (h:P []) (us:List L') (e:us.length=0):P us:=by
 rw[Qd3.mp e];exact h
theorem qS (h:∀ a us,us.length=n->P (a::us)) (us:List L') (e:us.length=n+1):P us:=by
 cases us with
 | nil=>cases e
 | cons a us=>exact h a us (Nat.succ.inj e)
theorem len1 (h:∀ a0,P [a0]):∀ us:List L',us.length=1->P us:=qS fun a=>len0 (P:=fun r=>P (a::r)) (h a)
theorem len2 (h:∀ a0 a1,P [a0,a1]):∀ us:List L',us.length=2->P us:=qS fun a=>len1 (P:=fun r=>P (a::r)) (h a)
theorem len3 (h:∀ a0 a1 a2,P [a0,a1,a2]):∀ us:List L',us.length=3->P us:=qS fun a=>len2 (P:=fun r=>P (a::r)) (h a)
theorem len4 (h:∀ a0 a1 a2 a3,P [a0,a1,a2,a3]):∀ us:List L',us.length=4->P us:=qS fun a=>len3 (P:=fun r=>P (a::r)) (h a)
theorem len5 (h:∀ a0 a1 a2 a3 a4,P [a0,a1,a2,a3,a4]):∀ us:List L',us.length=5->P us:=qS fun a=>len4 (P:=fun r=>P (a::r)) (h a)
theorem len6 (h:∀ a0 a1 a2 a3 a4 a5,P [a0,a1,a2,a3,a4,a5]):∀ us:List L',us.length=6->P us:=qS fun a=>len5 (P:=fun r=>P (a::r)) (h a)
theorem jO {A B:Prop} (hb:b=R') (h:B):if b=D' then A else B:=by
 subst hb;exact mC h
theorem uW {A B:Prop} (hb:b=D') (h:A):if b=D' then A else B:=by
 subst hb;exact fj h
theorem bo {A B:Prop} (h1:b=D'->A) (h2:b=R'->B):if b=D' then A else B:=by
 cases b with
 | true=>exact fj (h1 O)
 | false=>exact mC (h2 O)
def isTup:HO->Bool
 | .tup _=>D'
 | .X7 _ (.tup _)=>D'
 | _=>R'
def Tk (H H':Hp):Prop:=∀ b o,H b=B' o->isTup o=D'->H' b=B' o
theorem Tk.of (e:af H H'):Tk H H':=fun b o h _=>e b o h
theorem Tk.trans (a:Tk H H1) (b:Tk H1 H2):Tk H H2:=fun c o h z=>b c o (a c o h z) z
theorem Tk.upd {H:Hp}{c:F'}{u o:HO} (h:H c=B' u) (n:isTup u=R'):Tk H (L2.upd H c o):=fun b w e z=>by
 have:b≠c:=fun q=>by subst q;rw[h] at e;cases e;rw[n] at z;cases z
 rw[ak this];exact e
theorem Tk.YJ {K:V'} (e:Tk H H') (h:Ya K H a xs):Ya K H' a xs:=by
 rcases h with(h|⟨o,h⟩)|h
 .exact .inl (.inl (e _ _ h O))
 .exact .inl (.inr ⟨o,e _ _ h O⟩)
 .exact .inr h
mutual
def xZ:Dt->Bool
 | .lst _=>R'
 | .tup ds=>uS ds
 | _=>D'
def uS:List Dt->Bool
 | []=>D'
 | d::ds=>xZ d && uS ds
end
mutual
theorem Tk.dt {K:V'}{H H':Hp} (e:Tk H H'):∀ {d:Dt}{x:V},xZ d=D'->YH K H d x->YH K H' d x
 | .X1,_,_,h=>h
 | .bl _,_,_,h=>h
 | .int _,_,_,h=>h
 | .str _,_,_,h=>h
 | .lst ds,_,z,h=>by cases z
 | .tup ds,_,z,h=>by
  obtain⟨a,xs,e1,h1,h2⟩:=h;exact⟨a,xs,e1,e.YJ h1,e.Yf z h2⟩
theorem Tk.Yf {K:V'}{H H':Hp} (e:Tk H H'):∀ {ds:List Dt}{xs:List V},uS ds=D'->aK K H ds xs->aK K H' ds xs
 | [],_,_,h=>h
 | d::ds,_,z,h=>by
  obtain⟨y,ys,e1,h1,h2⟩:=h;have z':=(UU _ _).mp z;exact⟨y,ys,e1,e.dt z'.1 h1,e.Yf z'.2 h2⟩
end
theorem cf {α:Type}{f:α->Dt} (h:∀ x,xZ (f x)=D'):∀ l:List α,uS (l.map f)=D'
 | []=>rfl
 | x::l=>by
  show(xZ (f x) && uS (l.map f))=D';rw[h x,cf h l];rfl
theorem B6 {α:Type}{f:α->Dt} (h:∀ x,iS n (f x)) (l:List α):eU n (l.map f):=eU.of fun d hd=>by
 obtain⟨x,_,rfl⟩:=YL.mp hd;exact h x
theorem dU {K:V'}{α:Type}{f:α->Dt}{l:List α}{x:V} (h:aK K H (l.map f) xs) (e:xs[i]?=B' x):∃ q,l[i]?=B' q/\YH K H (f q) x:=by
 have hi:i<l.length:=by
  have h1:=h.length;rw[Us] at h1;have:=(Yi.mp e).1;lia
 obtain⟨q,hq⟩:=eY hi;obtain⟨y,hy,hd⟩:=h.get (j:=i) (d:=f q) (by rw[UJ,hq];rfl);rw[e] at hy;cases hy
 exact⟨q,hq,hd⟩
theorem bx {α:Type}{l:List α}{q:α} (h:l[i]?=B' q):l.take (i+1)=l.take i++[q]:=by
 rw[WA,h];rfl
def Zi (H:Hp) (xs:List V):Prop:=∀ x∈xs,∃ q zs,x=V.ref q/\H q=B' (.tup zs)
theorem Zi.tk (h:Zi H xs) (e:Tk H H'):Zi H' xs:=fun x hx=>by
 obtain⟨q,zs,rfl,hq⟩:=h x hx;exact⟨q,zs,O,e _ _ hq O⟩
theorem Zi.snoc {zs:List V} (h:Zi H xs) (hz:H z=B' (.tup zs)):Zi H (xs++[.ref z]):=fun x hx=>by
 rcases YK.mp hx with q|q
 .exact h x q
 .exact⟨z,zs,XC.mp q,hz⟩
theorem Zi.nil:Zi H []:=fun x hx=>by simp at hx
theorem NV (ns:List Int) (lo hi:Option Int):∃ ms:List Int,iU (ns.map V.int) lo hi=ms.map V.int/\ms.length<=ns.length:=by
 refine⟨(ns.drop (HT.Y7 (ns.map V.int).length 0 lo)).take (HT.Y7 (ns.map V.int).length (ns.map V.int).length hi-HT.Y7 (ns.map V.int).length 0 lo),?_,?_⟩
 .unfold iU
  rw[QgO,List.map_drop]
 .rw[UH,WF]
  exact Nat.le_trans (Nat.min_le_right _ _) (Nat.sub_le _ _)
def pz (ps:List Int) (k:Int):Int:=ps.getD k.toNat 0
theorem QiN {ps:List Int}{k:Int} (h0:0<=k) (h1:k<ps.length):YU (ps.map V.int) k=B' (.int (pz ps k)):=by
 unfold YU ixN pz;rw[XR h0,XR (by rw[Us];exact h1)];show(ps.map V.int)[k.toNat]?=_;rw[UJ,Ux,Uy (show k.toNat<ps.length by lia)];rfl
theorem nV {k:Int} (h0:0<=k) (h1:k<n):ixN n k=B' k.toNat:=by
 unfold ixN;rw[XR h0,XR h1]
theorem iX {α:Type}{xs:List α}{k:Int} (h0:0<=k):YU xs k=xs[k.toNat]?:=by
 unfold YU ixN;rw[XR h0];by_cases h:k<xs.length
 .rw[XR h];rfl
 .rw[W' h]
  show C'=_;rw[WH (by lia)]
theorem Cw {K:V'}{H:Hp}:∀ ns:List Int,aK K H (ns.map Dt.int) (ns.map V.int)
 | []=>rfl
 | _::r=>⟨_,_,O,O,Cw r⟩
theorem Pd (ns:List Int):eU n (ns.map Dt.int):=B6 (fun _=>by cases n<;>trivial) _
def Ite (K:V') (l:F'):It:=
  ⟨fun i H=>∃ xs x,M' K H l xs/\xs[i]?=B' x,
   fun i H v H'=>∃ T x,v=.ref T/\H T=C'/\H'=upd H T (.tup [.int i,x])/\∀ xs,M' K H l xs->xs[i]?=B' x,
   fun i H=>∃ xs,M' K H l xs/\xs.length<=i⟩
theorem QX {e l:F'}{items:Array L'} (hd:Hd A s.heap)
  (he:Qak s.heap e it i old) (hit:s.heap.IsListIter it l i) (hl:s.heap.IsList l items) (hx:items[i]?=C')
  (hQ:∀ h',Qaf it s.heap h'->Q C' {s with heap:=h'}):N' (XS prog w) A (Yo (.ref e)) Q E s:=by
 have ht:s.TypeIs (.ref e) "enumerate":=⟨_,he,O⟩;unfold Yo;refine ow (VD (U6 (name:=Y0 "__next__") ht QbR (Vh QbR ht Qea ?_ (Qd5 _))));refine(show N' _ _ (Y5 (.ref e) 2 >>= _) _ _ _ from ow (UV he O (x:=.ref it) O ?_));refine ow (rP (A:=A.in1) hd hit hl hx fun h' x de jg=>?_);obtain⟨o,ho,hc⟩:=jg;exact ow (Vr (T:="StopIteration") (b:=D') ⟨o,ho,hc⟩ Qao (Uu (hQ _ de)))
def QiO (h:Yg) (e it l:F') (i:Nat):Prop:=∃ old,Qak h e it (i:Int) old/\h.IsListIter it l i
theorem Rf {P:YE}{K:V'}{k:Nat}{e l:F'} (eQ:e≠it) :
  ma P w K (.Tuple es k pos) (Ite K l) [e,it] e (fun i h=>QiO h e it l i) where
 mem:=by simp
 obj:=fun i h st b hb=>by
  obtain⟨old,he,⟨o1,e1,c1,d1⟩⟩:=st;simp only[U1,US,YX] at hb
  rcases hb with rfl|rfl
  .exact⟨_,he,fun v q=>by simp at q⟩
  .exact⟨_,e1,fun v q=>by rw[d1] at q;cases q⟩
 keep:=fun i h h' st k=>by
  obtain⟨old,he,h1⟩:=st;exact⟨old,k e (by simp) _ he,h1.at fun o q=>k it (by simp) o q⟩
 item:=by
  intro X hP hw hK hc i aa s σ H E I hf st hg;subst hP hw hK;obtain⟨xs,x,q1,hx⟩:=hg;obtain⟨old,he,h1⟩:=st;obtain⟨ah,rv,pl,_⟩:=I.list q1;obtain⟨u,hu,ru⟩:=rv.get hx;have nf:∀ b∈[e,it],b∉YG X.stack:=fun b hb q=>(U1.mp (I.ZP b q)).elim (hf b hb).2.1 (hf b hb).2.2.1
  refine wpAny_pyNext_enum_item he h1 pl.isList (x:=u) (by simpa using hu) eQ fun h' a1 a2 a3 a4 hk=>⟨_,O,?_⟩
  refine WX (s:={s with heap:=h',toks:=s.toks+1}) a1 fun cX jB bh=>?_
  replace bh:Zu e h' cX:=bh
  have pi:H s.heap.objs.size=C':=I.XU.fresh (Uv _);have zt:=Uw he;have pE:∀ b o,b≠e->b≠it->s.heap.get? b=B' o->cX.get? b=B' o:=fun b o n1 n2 q=>bh.extBut b o n1 (hk b o n1 n2 q)
  have I1:Inv X aa σ (upd H s.heap.objs.size (.tup [.int i,x])) {s with heap:=s.heap.push {cls:=.type "tuple",data:=.seq #[.int i s.toks,u]},toks:=s.toks+1}:=
   I.laid (t':=s.toks+1) (fun b o q=>Ut _ q) (Uv _) ⟨by show 2<=XX;decide,[.int i s.toks,u],.cons ⟨_,O⟩ (.cons ru .nil),⟨_,UA _ rfl,O,_,O⟩⟩
  have mZ:∀ b∈[e,it],bE X aa (upd H s.heap.objs.size (.tup [.int i,x])) b:=fun b hb=>by
   obtain⟨f0,r⟩:=hf b hb;refine⟨?_,r⟩;have lt:b<s.heap.objs.size:=by
    simp only[U1,US,YX] at hb
    rcases hb with rfl|rfl
    .exact zt
    .obtain⟨o,q,_⟩:=h1;exact Uw q
   rw[ak (UE lt)];exact f0
  have I2:Inv X aa σ (upd H s.heap.objs.size (.tup [.int i,x])) {s with heap:=cX,toks:=s.toks+1}:=by
   have back:∀ b o,(s.heap.push {cls:=.type "tuple",data:=.seq #[.int i s.toks,u]}).get? b=B' o->b≠e->b≠it->cX.get? b=B' o:=fun b o q n1 n2=>by
    rcases Wq q with⟨rfl,rfl⟩|q
    .exact bh.extBut _ _ n1 a3
    .exact pE b o n1 n2 q
   refine I1.slots (ch:=[e,it]) (tk:=s.toks+1) mZ (fun b o _ hc q=>?_) (fun b o hb q=>⟨o.slots,?_⟩) (fun b hb o q=>?_)
   .simp only[U1,US,YX,not_or] at hc
    exact back b o q hc.1 hc.2
   .exact back b o q (fun z=>nf e (by simp) (z ▸ hb)) (fun z=>nf it (by simp) (z ▸ hb))
   .simp only[U1,US,YX] at hb
    rcases hb with rfl|rfl
    .exact⟨_,jB⟩
    .obtain⟨o,q,_⟩:=a2;exact⟨_,bh.extBut _ _ eQ.symm q⟩
  refine⟨.ref s.heap.objs.size,_,I2,O,⟨_,x,O,pi,O,fun FM q=>by rw[I.QbM q q1];exact hx⟩,?_,fun b hb=>(mZ b hb).1⟩;exact⟨u,jB,a2.extBut bh.extBut eQ.symm⟩
 done:=by
  intro X hP hw hK hc i aa s σ H E I hf st hg;subst hP hw hK;obtain⟨xs,q1,aw⟩:=hg;obtain⟨old,he,h1⟩:=st;obtain⟨ah,rv,pl,_⟩:=I.list q1;have e1:=rv.length;have nf:∀ b∈[e,it],b∉YG X.stack:=fun b hb q=>(U1.mp (I.ZP b q)).elim (hf b hb).2.1 (hf b hb).2.2.1
  refine QX I.hd he h1 pl.isList (by simp;lia) fun h' hk=>⟨O,?_⟩
  refine I.slot0 (ch:=[e,it]) (tk:=s.toks) hf (fun b o _ hc q=>?_) (fun b o hb q=>⟨o.slots,?_⟩)
  .simp only[U1,US,YX,not_or] at hc
   exact hk b o hc.2 q
  .exact hk b o (fun z=>nf it (by simp) (z ▸ hb)) q
 self:=fun _ _ s _ _ st h=>by
  obtain⟨old,he,_⟩:=st;exact WB he h
def QiP (K:V') (ta:TA):TI:=fun σ H R=>ta σ H fun vs H1=>∃ l,vs=[.ref l]/\(∃ xs,M' K H1 l xs)/\R (Ite K l) H1
theorem mz {k:Nat}{p:YA}{a:X'}{ta:TA} (hg:Gl X "enumerate") (hm:X.mg "enumerate"=C') (ha:PA X [a] ta) (hs:Yb [a] X.env=[(R',X9 a X.env)]:=by rfl) :
  PI X (.Tuple es k Qbd) (.Call (.Name "enumerate" p) [a] [] pos) (QiP X.K ta):=by
 intro aa s σ H R I h;refine Call_ (iV I hg hm Qhn (Qa4 (X3 (ha pos aa s σ H _ I h) fun us s1=>L2.Yc fun vs H1 I1 r1 a8=>?_) hs O));obtain⟨l,e,⟨xs,q1⟩,q⟩:=a8;subst e;obtain⟨u,rfl,ru⟩:=gv r1;obtain rfl:u=X2 l:=ru;obtain⟨ah,rv,pl,_⟩:=I1.list q1;refine call_enumerate_list pl.isList fun h' b1 b2 b3 hk=>?_
 refine WB (s:={s1 with heap:=h'}) b1 ?_;refine⟨s1.heap.objs.size+1,[s1.heap.objs.size+1,s1.heap.objs.size],_,_,H1,O,I1.kept (t':=s1.toks) hk,Rf (Vs (Vi _)),⟨_,b1,b2⟩,fun b hb=>?_,q⟩;have ge:s1.heap.objs.size<=b:=by
  simp only[U1,US,YX] at hb
  rcases hb with rfl|rfl
  .exact U8 _ _
  .exact Uv _
 exact I1.ZQ ge (I1.XU.fresh ge)
theorem IZ {K:V'}{l:F'}{Q:VK} (Pv:Nat->St->Hp->Prop) (h0:Pv 0 τ H) (hl:∀ i τ H,i<=xs.length->Pv i τ H->M' K H l xs)
  (hs:∀ i x T τ H,xs[i]?=B' x->H T=C'->Pv i τ H->g (.ref T) τ (upd H T (.tup [.int i,x])) fun τ2 H2=>tt τ2 H2 fun b H3=>
   if b=D' then te τ2 H3 fun y H4=>∃ ys,H4 D=B' (.lst ys)/\ys.length<XX/\Pv (i+1) τ2 (upd H4 D (.lst (ys++[y]))) else Pv (i+1) τ2 H3)
  (hd:∀ τ H,Pv xs.length τ H->Q (.ref D) H):kJ (Ite K l) D τ H g tt te Q:=
 wk_ (n:=xs.length) Pv h0 (fun i σ H hi p=>⟨fun h=>⟨xs,xs[i],hl i σ H hi p,by simp[h]⟩,fun h=>⟨xs,hl i σ H hi p,h⟩⟩) (fun i v σ H H' hi p y=>by
 obtain⟨T,x,rfl,hT,rfl,hx⟩:=y;exact hs i x T σ H (hx xs (hl i σ H (VE hi) p)) hT p) hd
theorem qr {K:V'}{l:F'}{D:dX} (Pv:Nat->St->Hp->Prop) (h0:Pv 0 σ H) (hl:∀ i σ H,i<=xs.length->Pv i σ H->M' K H l xs)
  (hs:∀ i x T σ H,xs[i]?=B' x->H T=C'->Pv i σ H->g (.ref T) σ (upd H T (.tup [.int i,x])) fun σ2 H2=>tb {D with nx:=Pv (i+1),ct:=Pv (i+1),bk:=D.nx} σ2 H2) (hd:∀ σ H,Pv xs.length σ H->D.nx σ H):rg (Ite K l) D g tb σ H:=
 wk_ (n:=xs.length) Pv h0 (fun i σ H hi p=>⟨fun h=>⟨xs,xs[i],hl i σ H hi p,by simp[h]⟩,fun h=>⟨xs,hl i σ H hi p,h⟩⟩) (fun i v σ H H' hi p y=>by
 obtain⟨T,x,rfl,hT,rfl,hx⟩:=y;exact hs i x T σ H (hx xs (hl i σ H (VE hi) p)) hT p) hd
theorem JN {K:V'}{D:dX} (aw:xs.length=ys.length) (Pv:Nat->St->Hp->Prop) (h0:Pv 0 σ H) (hl:∀ i σ H,i<=xs.length->Pv i σ H->M' K H l1 xs/\M' K H l2 ys)
  (hs:∀ i x y T σ H,xs[i]?=B' x->ys[i]?=B' y->H T=C'->Pv i σ H->g (.ref T) σ (upd H T (.tup [x,y])) fun σ2 H2=>tb {D with nx:=Pv (i+1),ct:=Pv (i+1),bk:=D.nx} σ2 H2) (hd:∀ σ H,Pv xs.length σ H->D.nx σ H):rg (Itz K l1 l2) D g tb σ H:=
 wk_ (n:=xs.length) Pv h0 (fun i σ H hi p=>⟨fun h=>⟨xs,ys,xs[i],ys[i],(hl i σ H hi p).1,(hl i σ H hi p).2,by simp[h],by simp[show i<ys.length by lia]⟩,fun h=>⟨xs,ys,(hl i σ H hi p).1,(hl i σ H hi p).2,.inl h⟩⟩) (fun i v σ H H' hi p y=>by
 obtain⟨T,x,y,rfl,hT,rfl,hx,hy⟩:=y;exact hs i x y T σ H (hx xs (hl i σ H (VE hi) p).1) (hy ys (hl i σ H (VE hi) p).2) hT p) hd
theorem F0 (h:i<ns.length):ns.getD i 0∈ns:=by
 rw[Ux,Uy h];exact VX h
theorem Jt {x:Int} (h:x∈ns):∃ j,j<ns.length/\ns.getD j 0=x:=by
 obtain⟨j,hj,e⟩:=WR h;exact⟨j,hj,by rw[Ux,Uy hj];exact e⟩
theorem Hg (f:Nat->Int):∀ k,YC (fun i j=>decide (f i<f j)) k<=k/\∀ j,j<=k->f (YC (fun i j=>decide (f i<f j)) k)<=f j
 | 0=>⟨Uv _,fun j hj=>by rw[Qhh.mp hj];exact VA _⟩
 | k+1=>by
  obtain⟨h1,h2⟩:=Hg f k;by_cases hb:f (k+1)<f (YC (fun i j=>decide (f i<f j)) k)
  .have e:YC (fun i j=>decide (f i<f j)) (k+1)=k+1:=by simp[YC,hb]
   rw[e];refine⟨Uv _,fun j hj=>?_⟩;rcases VF j (k+1) with z|z
   .have:=h2 j (by lia);lia
   .rw[show j=k+1 by lia];exact VA _
  .have e:YC (fun i j=>decide (f i<f j)) (k+1)=YC (fun i j=>decide (f i<f j)) k:=by simp[YC,hb]
   rw[e];refine⟨by lia,fun j hj=>?_⟩;rcases VF j (k+1) with z|z
   .exact h2 j (by lia)
   .rw[show j=k+1 by lia];lia
theorem HJ (f:Nat->Int):∀ k,YC (fun i j=>decide (f i > f j)) k<=k/\∀ j,j<=k->f (YC (fun i j=>decide (f i > f j)) k) >= f j
 | 0=>⟨Uv _,fun j hj=>by rw[Qhh.mp hj];exact VA _⟩
 | k+1=>by
  obtain⟨h1,h2⟩:=HJ f k;by_cases hb:f (k+1) > f (YC (fun i j=>decide (f i > f j)) k)
  .have e:YC (fun i j=>decide (f i > f j)) (k+1)=k+1:=by simp[YC,hb]
   rw[e];refine⟨Uv _,fun j hj=>?_⟩;rcases VF j (k+1) with z|z
   .have:=h2 j (by lia);lia
   .rw[show j=k+1 by lia];exact VA _
  .have e:YC (fun i j=>decide (f i > f j)) (k+1)=YC (fun i j=>decide (f i > f j)) k:=by simp[YC,hb]
   rw[e];refine⟨by lia,fun j hj=>?_⟩;rcases VF j (k+1) with z|z
   .exact h2 j (by lia)
   .rw[show j=k+1 by lia];lia
section
variable {P:Nat->L'->Prop}{St:Nat->Yg->Prop}
end
theorem RV:fR X (.builtin "min") (fun xs H Q=>∃ p,∃ ns:List Int,xs=[.ref p]/\M' X.K H p (ns.map V.int)/\ns≠[]/\∀ m∈ns,(∀ x∈ns,m<=x)->Q (.int m) H):=by
 intro aa s σ H xs us Q I r h;obtain⟨p,ns,rfl,hq,eQ,q⟩:=h;obtain⟨u,rfl,ru⟩:=gv r;obtain rfl:u=X2 p:=ru;obtain⟨ah,rv,pl,_⟩:=I.list hq;obtain⟨cs,cK,ch⟩:=I.hd.chain;have bp:p<s.heap.objs.size:=by obtain⟨o,e,_⟩:=pl.isList;exact Uw e
 have dP:s.heap.objs.size∉cs:=fun z=>UT _ (ch.lt _ z)
 have aw:ah.length=ns.length:=by rw[<- rv.length,Us]
 have yF:0<ns.length:=Qgd.mpr eQ;refine call_min_walk (VC pl.isList ⟨s.heap.objs.size,_,_,_,_,_,fun i j=>decide (ns.getD i 0<ns.getD j 0),O,qT (A:=X.A.in1) cK s.heap.objs.size p (UE bp) dP ah.toArray,⟨⟨_,UA _ O,O,O⟩,pl.isList.push _,ch.mono fun b o _ e=>Ut _ e⟩,?_,by simp;lia,Qep (fun i=>ns.getD i 0) fun i v hv=>vN rv (by simpa using hv),fun v h' tk hv hk=>?_⟩)
 .intro b hb
  show b<(s.heap.push _).objs.size;rw[UY];rcases U1.mp hb with rfl|hb
  .exact Vi _
  .rcases U1.mp hb with rfl|hb
   .exact Vk bp
   .exact Vk (ch.lt _ hb)
 .have dG:ah.toArray[YC (fun i j=>decide (ns.getD i 0<ns.getD j 0)) (ah.toArray.size-1)]?=B' v:=hv
  rw[Xn] at dG;obtain⟨t,rfl⟩:=vN rv dG;obtain⟨b1,b2⟩:=Hg (fun i=>ns.getD i 0) (ah.toArray.size-1);have e1:ah.toArray.size=ns.length:=by simp[aw]
  rw[e1] at b1 b2;have sD:∀ b o,s.heap.get? b=B' o->h'.get? b=B' o:=fun b o e=>hk b o (fun z=>by
   have:b=s.heap.objs.size:=by simpa using z
   exact X4 (Uw e) (by rw[this];exact UT _)) (Ut _ e)
  refine⟨.int _,H,I.kept sD,⟨_,O⟩,?_⟩;rw[e1];exact q _ (F0 (by lia)) fun x hx=>by
   obtain⟨j,hj,rfl⟩:=Jt hx;exact b2 j (by lia)
section
variable {P:Nat->L'->Prop}{St:Nat->Yg->Prop}
theorem Rq (kw:List (K'×L')) (W:QbL prog w A.in1 I fp wr n P St) (bt:Nat->Nat->Bool) (oH:CmpOf prog w A.in1 .Gt P bt) (S:F') (hV:S∉fp) :
  ∀ (k j:Nat) (s:XT) (vb:L') (c:Nat),n-(j+1)=k->j+1<=n->St (j+1) s.heap->P (YC bt j) vb->s.heap.get? S=B' {cls:=.type "list",dict:=C',data:=.seq #[vb,vb] c,slots:=#[]} ->
  (∀ v h' tk,P (YC bt (n-1)) v->(∀ b o,b∉wr->b≠S->s.heap.get? b=B' o->h'.get? b=B' o)->R (.ok (.ret v)) {s with heap:=h',toks:=tk}) ->
  Y4 (XS prog w) A (.builtin "max.loop" ⟨[.ref I,.none,.ref S],kw⟩) R s:=by
 have wv:S∉wr:=fun h=>hV (W.sub _ h)
 have cE:(toString "max"++toString ".loop":String)="max.loop":=by decide
 intro k
 induction k with
 | zero=>
  intro j s vb c hk hj cR w6 hS hR;have Yp:j+1=n:=by lia
  refine ZX Qc6 ?_;rw[Qad Qa6 _];refine(show N' _ A.in1 (Qay (.ref S) >>= _) _ _ s from ow (Vf hS O ?_));refine(show N' _ A.in1 (tryCatch (Yo (.ref I)) _ >>= _) _ _ s from ow (Vw (W.done s _ _ (Yp ▸ cR) fun h' tk dH=>?_)));refine(show N' _ A.in1 (Qax S (fun _=>#[]) >>= _) _ _ _ from ow (Vx (dH S _ wv hS) O (ow (VL (Uu ?_)))));exact hR vb _ tk (by rw[<- Yp];exact w6) fun b o j4 kX e=>(UP _ _ (XW kX)).trans (dH b o j4 e)
 | succ k ih=>
  intro j s vb c hk hj cR w6 hS hR;have bp:j+1<n:=by lia
  refine ZX Qc6 ?_;rw[Qad Qa6 _];refine(show N' _ A.in1 (Qay (.ref S) >>= _) _ _ s from ow (Vf hS O ?_));refine(show N' _ A.in1 (tryCatch (Yo (.ref I)) _ >>= _) _ _ s from ow (Vw (W.item (j+1) s _ _ bp cR fun v h' tk hP iH dH=>?_)));have ir:=dH S _ wv hS;refine(show N' _ A.in1 (tryCatch (Z9 [v,v] (Qck .Gt v vb >>= _)) _ >>= _) _ _ _ from ow (Vw (U3 (ow (oH (j+1) (YC bt j) v vb _ _ _ hP w6 ?_)))));refine ow (U3 (Vv (ow (VL (Uu ?_)))));cases hb:bt (j+1) (YC bt j) with
  | true=>
   simp only[ZY]
   refine ow (Vx ir O (ow (VL ?_)));rw[cE];refine Uu ⟨Zy Qa6 _,ih (j+1) _ v _ (by lia) bp (W.frame _ _ _ iH fun b yB o e=>(UP _ _ (fun h:S=b=>hV (by rw[h];exact yB))).trans e) (by simp only[YC,hb,ZY];exact hP) (U4 _ ir O) fun v' cX jG gF jA=>?_⟩;exact hR v' cX jG gF fun b o j4 kX e=>jA b o j4 kX ((UP _ _ (XW kX)).trans (dH b o j4 e))
  | false=>
   simp only[U9,Y3]
   refine ow (VL ?_);rw[cE];exact Uu ⟨Zy Qa6 _,ih (j+1) _ vb c (by lia) bp iH (by simp only[YC,hb,U9,Y3];exact w6) ir fun v' cX jG gF jA=>hR v' cX jG gF fun b o j4 kX e=>jA b o j4 kX (dH b o j4 e)⟩
theorem Qj (kw:List (K'×L')) (W:QbL prog w A.in1 I fp wr n P St) (bt:Nat->Nat->Bool) (oH:CmpOf prog w A.in1 .Gt P bt) (S:F') (hV:S∉fp) (hn:0<n) (cR:St 0 s.heap)
  (hS:s.heap.get? S=B' {cls:=.type "list",dict:=C',data:=.seq #[] c,slots:=#[]})
  (hR:∀ v h' tk,P (YC bt (n-1)) v->(∀ b o,b∉wr->b≠S->s.heap.get? b=B' o->h'.get? b=B' o)->R (.ok (.ret v)) {s with heap:=h',toks:=tk}) :
  Y4 (XS prog w) A (.builtin "max.loop" ⟨[.ref I,.none,.ref S],kw⟩) R s:=by
 have wv:S∉wr:=fun h=>hV (W.sub _ h)
 have cE:(toString "max"++toString ".loop":String)="max.loop":=by decide
 refine ZX Qc6 ?_;rw[Qad Qa6 _];refine(show N' _ A.in1 (Qay (.ref S) >>= _) _ _ s from ow (Vf hS O ?_));refine(show N' _ A.in1 (tryCatch (Yo (.ref I)) _ >>= _) _ _ s from ow (Vw (W.item 0 s _ _ hn cR fun v h' tk hP iH dH=>?_)));have ir:=dH S _ wv hS;refine(show N' _ A.in1 (Qax S (fun _=>#[v,v]) >>= _) _ _ _ from ow (Vx ir O ?_));rw[cE];exact Uu ⟨Zy Qa6 _,Rq kw W bt oH S hV _ 0 _ v _ O hn (W.frame _ _ _ iH fun b yB o e=>(UP _ _ (fun h:S=b=>hV (by rw[h];exact yB))).trans e) hP (U4 _ ir O) fun v' cX jG gF jA=>hR v' cX jG gF fun b o j4 kX e=>jA b o j4 kX ((UP _ _ (XW kX)).trans (dH b o j4 e))⟩
theorem RU (W:QbL prog w A.in1 I fp wr 0 P St) (S:F') (hV:S∉fp){d:L'} (cR:St 0 s.heap) (hS:s.heap.get? S=B' {cls:=.type "list",dict:=C',data:=.seq #[] c,slots:=#[]})
  (hR:∀ h' tk,(∀ b o,b∉wr->s.heap.get? b=B' o->h'.get? b=B' o)->R (.ok (.ret d)) {s with heap:=h',toks:=tk}) :
  Y4 (XS prog w) A (.builtin "max.loop" ⟨[.ref I,.none,.ref S],[(nm,d)]⟩) R s:=by
 refine ZX Qc6 ?_;rw[Qad Qa6 _];refine(show N' _ A.in1 (Qay (.ref S) >>= _) _ _ s from ow (Vf hS O ?_));refine(show N' _ A.in1 (tryCatch (Yo (.ref I)) _ >>= _) _ _ s from ow (Vw (W.done s _ _ cR fun h' tk dH=>?_)));exact ow (VS (Uu (hR h' tk dH)))
end
variable {P q:YE}{ah xs ys:Array L'}{body:X'}{fo oa ol:X6}{kS l r:F'}{key:V->Int}{od:Option F'}{p2:YA}{params:Qdj}{st0 t':Nat}{ta:TA}
theorem O8 (a v:L'):argsOk "max" ⟨[a],[(Y0 "default",v)]⟩:=by unfold argsOk;kernel_rfl
theorem SV {a:X'}{i:Int}{p bQ:YA} (hg:Gl X "max") (hm:X.mg "max"=C') (ha:PA X [a] ta)
  (hs:Yy pos (Yb [a] X.env)=(R',X9 a X.env)::Yy pos (Yb [] X.env):=by rfl) (hp:(Yy pos (Yb [a] X.env)).any (·.1)=R':=by rfl) (t8:(ZC pos (Zz [⟨B' "default",.Constant (.int i) j aI,bQ⟩] X.env)).all (·.1.isSome)=D':=by rfl)
  (tW:(ZC pos (Zz [⟨B' "default",.Constant (.int i) j aI,bQ⟩] X.env)).any (·.1.isNone)=R':=by rfl) (n9:∀ u:L',((ZC pos (Zz [⟨B' "default",.Constant (.int i) j aI,bQ⟩] X.env)).filterMap (·.1)).zip [u]=[(Y0 "default",u)]:=by intro u;rfl) :
  PE X (.Call (.Name "max" p) [a] [⟨B' "default",.Constant (.int i) j aI,bQ⟩] pos) (fun σ H Q=>ta σ H fun vs H1=>∃ q,∃ ns:List Int,vs=[.ref q]/\M' X.K H1 q (ns.map V.int)/\(ns=[]->Q (.int i) H1)/\∀ m∈ns,(∀ x∈ns,x<=m)->Q (.int m) H1):=by
 intro aa s σ H Q I h;refine Vl (iV I hg hm GH ?_);refine QfD (X3 (ha pos aa s σ H _ I h) fun us s1=>L2.Yc fun vs H1 I1 r1 a8=>?_) hs hp t8 tW;obtain⟨l,ns,e,q1,k0,k1⟩:=a8;subst e;obtain⟨u,rfl,ru⟩:=gv r1;obtain rfl:u=X2 l:=ru;refine QdZ (Xw (Qd1 ?_));rw[n9];obtain⟨ah,rv,pl,_⟩:=I1.list q1;obtain⟨cs,cK,ch⟩:=I1.hd.chain;have bp:l<s1.heap.objs.size:=by obtain⟨o,e,_⟩:=pl.isList;exact Uw e
 have dP:s1.heap.objs.size∉cs:=fun z=>UT _ (ch.lt _ z)
 have aw:ah.length=ns.length:=by rw[<- rv.length,Us]
 have cE:(toString "max"++toString ".loop":String)="max.loop":=by decide
 refine kmk_tree PySem.F.kind_max PySem.F.plain_max PySem.F.entry_max (O8 _ _) ?_;refine(show N' _ _ (QcN "max" ["key","default"] 0 ⟨[],[(Y0 "default",_)]⟩ >>= _) _ _ _ from ow (VG (show QcN "max" ["key","default"] 0 ⟨[],[(Y0 "default",_)]⟩=pure [C',B' _] from rfl) ?_));refine ow (Uu ?_);refine ow (VC (s:={s1 with toks:=s1.toks+1}) pl.isList ?_);refine ow (wpAny_newList ?_ (VJ _));rw[cE];have hz:(s1.heap.push {cls:=.type "list_iterator",data:=.fields #[.ref l,.int 0 0]}).objs.size=s1.heap.objs.size+1:=UY ..;have W:=qT (prog:=X.prog) (w:=X.w) (A:=X.A.in1) cK s1.heap.objs.size l (UE bp) dP ah.toArray;have hV:(s1.heap.push {cls:=.type "list_iterator",data:=.fields #[.ref l,.int 0 0]}).objs.size∉s1.heap.objs.size::l::cs:=by
  rw[hz];intro z;rcases U1.mp z with z|z
  .exact X4 z (Vs (Vi _))
  .rcases U1.mp z with z|z
   .exact X4 z (Vs (Vk bp))
   .exact X4 (ch.lt _ z) (Qcl.mpr (Vm _))
 have st0:((s1.heap.push {cls:=.type "list_iterator",data:=.fields #[.ref l,.int 0 0]}).push (ZN "list" #[] 0)).IsListIter s1.heap.objs.size l 0/\((s1.heap.push {cls:=.type "list_iterator",data:=.fields #[.ref l,.int 0 0]}).push (ZN "list" #[] 0)).IsList l ah.toArray/\Yn ((s1.heap.push {cls:=.type "list_iterator",data:=.fields #[.ref l,.int 0 0]}).push (ZN "list" #[] 0)) cs:=
  ⟨⟨_,Ut _ (UA _ rfl),rfl,rfl⟩,(pl.isList.push _).push _,ch.mono fun b o _ e=>Ut _ (Ut _ e)⟩
 refine Uu ⟨Zy Qa6 _,?_⟩;have back:∀ (h':Yg),(∀ b o,b∉[s1.heap.objs.size]->b≠(s1.heap.push {cls:=.type "list_iterator",data:=.fields #[.ref l,.int 0 0]}).objs.size->((s1.heap.push {cls:=.type "list_iterator",data:=.fields #[.ref l,.int 0 0]}).push (ZN "list" #[] 0)).get? b=B' o->h'.get? b=B' o)->∀ b o,s1.heap.get? b=B' o->h'.get? b=B' o:=fun h' hk b o e=>by
  have lt:=Uw e;refine hk b o (fun z=>?_) (fun z=>?_) (Ut _ (Ut _ e))
  .rw[XC.mp z] at lt;exact UT _ lt
  .rw[z,hz] at lt;exact UT _ (W0 lt)
 by_cases hn:ns=[]
 .subst hn
  have e0:ah=[]:=Qd3.mp (by rw[aw];rfl);subst e0;exact RU W _ hV st0 (UA _ O) fun h' tk hk=>⟨.int i,H1,I1.kept (back h' fun b o h1 _ e=>hk b o h1 e),⟨_,O⟩,k0 O⟩
 .have yF:0<ns.length:=Qgd.mpr hn
  refine Qj _ W (fun i j=>decide (ns.getD i 0 > ns.getD j 0)) (QgJ (fun i=>ns.getD i 0) fun i v hv=>vN rv (by simpa using hv)) _ hV (by simp;lia) st0 (UA _ rfl) fun v h' tk hv hk=>?_
  have dG:ah.toArray[YC (fun i j=>decide (ns.getD i 0 > ns.getD j 0)) (ah.toArray.size-1)]?=B' v:=hv;rw[Xn] at dG;obtain⟨t,rfl⟩:=vN rv dG;obtain⟨b1,b2⟩:=HJ (fun i=>ns.getD i 0) (ah.toArray.size-1);have e1:ah.toArray.size=ns.length:=by simp[aw]
  rw[e1] at b1 b2;refine⟨.int _,H1,I1.kept (back h' hk),⟨_,O⟩,?_⟩;rw[e1];exact k1 _ (F0 (by lia)) fun x hx=>by
   obtain⟨j,hj,rfl⟩:=Jt hx;exact b2 j (by lia)
def QiQ (K:V'):V->V->Hp->VK->Prop:=fun o i H Q=>∃ p xs k v,o=.ref p/\i=.int k/\M' K H p xs/\0<=k/\xs[k.toNat]?=B' v/\Q v H
theorem pW:QeO X (QiQ X.K):=by
 intro aa s σ H o i ov iv Q I ro ri h;obtain⟨p,xs,k,v,rfl,rfl,hq,h0,hv,q⟩:=h;cases ro
 obtain⟨t,rfl⟩:=ri;obtain⟨ah,r,pl,hz⟩:=I.list hq;obtain⟨u,hu,ru⟩:=r.get hv;have h1:=(Yi.mp hv).1;have hl:=r.length;have hn:=qj;exact wpAny_getItem_list pl.isList h0 (by lia) (by simpa using hu) ⟨v,H,I,ru,q⟩
def Qe6 (K:V') (lW:Bool):R2:=fun x y H Q=>∃ p ds xs d,y=.ref p/\M' K H p xs/\aK K H ds xs/\YH K H d x/\eU 50 ds/\Q (.bl (if lW then !(ds.any fun e=>Y8 e d) else ds.any fun e=>Y8 e d)) H
open Classical in
theorem Inv.QiR (I:Inv X aa σ H s){ds:List Dt}{xs:List V}{ah:List L'}{d:Dt}{x:V} (h:aK X.K H ds xs) (rv:aC xs ah) (hx:YH X.K H d x) (rx:aB x v) (hd:eU 50 ds) (hu:A.units+50<Yr) :
  ∃ f:L'->Bool,(∀ u∈ah,SeqAt.EqAt A s u v (f u))/\ah.any f=ds.any fun e=>Y8 e d:=by
 let f:L'->Bool:=fun u=>decide (∃ (j:Nat) (e:Dt),ah[j]?=B' u/\ds[j]?=B' e/\Y8 e d=D')
 have hl:ds.length=ah.length:=h.length.trans rv.length;have one:∀ (j:Nat) (u:L') (e:Dt),ah[j]?=B' u->ds[j]?=B' e->f u=Y8 e d:=fun j u e h1 h2=>by
  show decide _=_;rw[Wa,decide_eq_true_iff]
  constructor
  .rintro⟨j',e',oY,eS,h3⟩
   obtain⟨y,hy,dy⟩:=h.get h2;obtain⟨y',cQ,MJ⟩:=h.get eS;obtain⟨u1,ki,r1⟩:=rv.get hy;obtain⟨u2,E2,r2⟩:=rv.get cQ;rw[h1] at ki;rw[oY] at E2;cases ki
   cases E2
   rw[r1.inj r2] at dy;rw[I.Qcv dy MJ];exact h3
  .intro h3
   exact⟨j,e,h1,h2,h3⟩
 refine⟨f,fun u gC=>?_,?_⟩
 .obtain⟨j,hj,e⟩:=WR gC
  have h1:ah[j]?=B' u:=by rw[Uy hj,e]
  obtain⟨e',de⟩:=eY (l:=ds) (j:=j) (by lia);obtain⟨y,hy,dy⟩:=h.get de;obtain⟨u1,ki,r1⟩:=rv.get hy;rw[h1] at ki;cases ki
  rw[one j u e' h1 de];exact I.Qb9 dy hx r1 rx (hd.get de) hu
 .rw[Wa,Qa5,Qa5]
  constructor
  .rintro⟨u,gC,hf⟩
   obtain⟨j,e,h1,h2,h3⟩:=UM hf;exact⟨e,UF h2,h3⟩
  .rintro⟨e,he,h3⟩
   obtain⟨j,hj,e2⟩:=WR he;have h2:ds[j]?=B' e:=by rw[Uy hj,e2]
   obtain⟨u,gC⟩:=eY (l:=ah) (j:=j) (by lia);exact⟨u,UF gC,by rw[one j u e gC h2];exact h3⟩
theorem QZ (hu:X.A.units+64<Yr):YN X (Zr .NotIn) (Qe6 X.K D'):=by
 intro aa s σ H x y v u Q I rx ry h;obtain⟨p,ds,xs,d,rfl,hq,hd,hx,dl,q⟩:=h;cases ry
 obtain⟨ah,r,pl,hz⟩:=I.list hq;obtain⟨f,h1,h2⟩:=I.QiR (A:=X.A.in1) hd r hx rx dl (by show X.A.units+1+50<Yr;lia);refine Qgc f pl.isList (fun w hw=>h1 w (by simpa using hw)) ⟨.bl _,H,I,O,?_⟩;rw[show ah.toArray.any f=ah.any f by simp,h2];exact q
theorem Ps {K:V'} (hK:X.K=K) (hu:X.A.units+64<Yr):YN X (Zr .NotIn) (Qe6 K D'):=hK ▸ QZ hu
def O2:V->List V->Hp->VK->Prop:=fun x vs H Q=>∃ l xs i y,x=.ref l/\vs=[.int i,y]/\H l=B' (.lst xs)/\0<=i/\i<=xs.length/\xs.length<XX/\Q .X1 (upd H l (.lst (xs.take i.toNat++y::xs.drop i.toNat)))
theorem GT:MtM X "list.insert" O2:=by
 intro aa s σ H x vs v us Q I rx rv h;obtain⟨l,xs,i,y,rfl,rfl,hH,h0,h1,hz,q⟩:=h;cases rx
 obtain⟨u,w',rfl,⟨t,rfl⟩,ru⟩:=pT rv;obtain⟨z,ah,n,r,hl,e⟩:=I.QaF hH;have hf:QdU i=D':=by
  unfold QdU;rw[Uz] at hz;simp only[UU,VW]
  constructor<;>lia
 refine Qby Qej ⟨_,e,O⟩ F.entry_list_insert (F.args_list_insert_3 _ _ _) (AutoSeq1.list_insert_list_int_val_1 l ah.toArray n i t w' (by simp[hf]) (by rw[UK];lia)) ⟨e,?_⟩;refine⟨.X1,_,I.Qb7 (its':=ah.take i.toNat++w'::ah.drop i.toNat) hH e ?_ ((r.take _).append (.cons ru (r.drop _))) ?_,O,q⟩
 .show(ah.toArray.extract 0 (if i<0 then(i+(ah.toArray.size:Int)).toNat else min i.toNat ah.toArray.size)).push w'++ah.toArray.extract (if i<0 then(i+(ah.toArray.size:Int)).toNat else min i.toNat ah.toArray.size)=_
  rw[W' (by lia),UK,Xf (by lia)];apply Array.toList_inj.mp;simp
  exact Vd (by simp)
 .rw[UB,UR,UH,WF]
  lia
theorem rG {k:Key}{v:V} (e:H a=B' (.dK kvs)) (h:aU kvs k=B' v):bS H a (kV k) (B' v):=h ▸ bS.k e
theorem none_of (s:af H H') (h:H' r=C'):H r=C':=by
 cases e:H r with
 | none=>rfl
 | some o=>
  rw[s _ _ e] at h;cases h
theorem c8 {o:HO} (nd:H d=C') (s:af H H'):af H (upd H' d o):=fun b u e=>by
 rw[ak (av e nd)];exact s b u e
theorem qk {ss:List K'}{x:V} (h:(ss.map V.str)[i]?=B' x):∃ r,ss[i]?=B' r/\x=.str r:=by
 rw[UJ] at h;cases e:ss[i]? with
 | none=>rw[e] at h;cases h
 | some n=>rw[e] at h;exact⟨n,O,(YB h).symm⟩
theorem Jb:fR X (.type "dict") (fun xs H Q=>∃ d kvs,xs=[.ref d]/\H d=B' (.dK kvs)/\∀ l,H l=C'->Q (.ref l) (upd H l (.dK kvs))):=by
 intro aa s σ H xs us Q I r h;obtain⟨d,kvs,rfl,e,q⟩:=h;obtain⟨u,rfl,ru⟩:=gv r;obtain rfl:u=X2 d:=ru;obtain⟨z,lB,vs,rel,dd⟩:=kK I.XU e;refine kt_call_dict lB dd (by rw[<- rel.length];exact z) fun h' cJ bh=>?_
 have ne:(s.heap.objs.size == ZL)=R':=(vp (P:=X.prog) (w:=X.w) (H:=H) s.heap I.big).2.1;refine⟨.ref s.heap.objs.size,_,I.laid (a:=s.heap.objs.size) (o:=.dK kvs) (t':=s.toks) (fun b o q=>bh.extBut b o (UE (Uw q)) (Ut _ q)) (Uv _) ⟨z,ne,vs,rel,cJ⟩,O,q _ (I.XU.fresh (Uv _))⟩
def pP:List X'->Option (List K')
 | []=>B' []
 | .Constant (.str x) _ _::es=>(pP es).map (x::·)
 | _=>C'
theorem xQ:∀ {es:List X'}{xs:List K'},pP es=B' xs->PA X es (fun _ H Q=>Q (xs.map V.str) H)
 | [],_,h=>by
  cases h
  exact aj
 | e::es,xs,h=>by
  cases e with
  | Constant c j p=>
   cases c with
   | str x=>
    cases q:pP es with
    | none=>
     unfold pP at h;rw[q] at h;cases h
    | some ys=>
     unfold pP at h;rw[q] at h;cases h
     exact ag B1 (xQ q) rfl
   | _=>cases h
  | _=>cases h
section
variable {K:V'} (hK:X.K=K)
include hK
end
theorem PV:Qap (.type "list") "keys"=pure C':=Qda (by kernel_rfl)
theorem Jp {α:Type}{o:L'}{Fm:K'}{Q:α->XT->Prop} (hd:Hd A s.heap)
  (h:∀ h' tk e,(∀ b ob,s.heap.get? b=B' ob->h'.get? b=B' ob)->(∃ o',h'.get? e=B' o'/\o'.cls=.type "AttributeError")->E (.ref e) {s with heap:=h',toks:=tk}) (hm:Fm.length<=XX:=by size_fits) :
  N' (XS prog w) A (raiseAttrError o name Fm:Y6 α) Q E s:=by
 unfold raiseAttrError;refine ow (wpAny_mkStr (ow ?_) hm);unfold newExc Qdk;refine ow (V2 ?_ (by size_fits));refine ow (m:=Qdb _ _) (VG (a:=Yw) (by simp only[Qdb,attrError_no_first];rfl) ?_);rw[ownMembersOf_AttributeError];refine V2 ?_ (by size_fits);obtain⟨hp,g,d,tk,os⟩:=s;have f1:=Qel
 repeat (any_goals (first|assumption|wp_step))
 dsimp only;have iI:∀ b ob,hp.get? b=B' ob->b<hp.objs.size+1:=fun b ob q=>Vk (Uw q)
 refine CC ?_ (U4 _ (UA _ O) O) O (by simp) fun h' o' kj k' e' c' _ _ _ _ _=>
  h h' _ _ (fun b ob q=>k' b ob ?_ ((UP _ _ ?_).trans (Ut _ (Ut _ q)))) ⟨o',e',c'⟩
 .rcases hd with hn|⟨a,cs,ha,c⟩
  .exact .inl hn
  .have lt:∀ b∈a::cs,b<hp.objs.size:=c.lt
   refine .inr ⟨a,cs,ha,c.mono fun b ob hb q=>(UP _ _ ?_).trans (Ut _ (Ut _ q)),fun z=>?_⟩
   .simp only[UY]
    exact Vs (iI b ob q)
   .have:=lt _ z
    simp only[UY] at this
    exact X4 (UN this (Vm _)) (UT _)
 .simp only[UY]
  exact UE (iI b ob q)
 .simp only[UY]
  exact Vs (iI b ob q)
theorem Of {tk:Zf}{Q:Fin->XT->Prop} (hd:Hd A s.heap) (ho:s.heap.get? l=B' ol) (hc:ol.cls=.type "list") (qx:ol.dict=C'){nn:Nat} (o8:ol.data=.seq ah nn)
  (h:∀ h' tk e,(∀ b ob,s.heap.get? b=B' ob->h'.get? b=B' ob)->(∃ o',h'.get? e=B' o'/\o'.cls=.type "AttributeError")->E (.ref e) {s with heap:=h',toks:=tk}) :
  N' (XS prog w) A (Ze.«object.__getattribute__» ⟨[.ref l,.str "keys" tk],[]⟩) Q E s:=by
 have hT:s.TypeIs (.ref l) "list":=⟨_,ho,hc⟩;have f4:=PV;unfold Ze.«object.__getattribute__»;obtain⟨hp,g,d,iQ,os⟩:=s;obtain⟨oc,od,Tz,dM⟩:=ol;dsimp only at hc qx o8;subst hc qx o8
 repeat (any_goals (first|assumption|wp_step))
 exact Jp hd h (attrMsg_fits (by decide +kernel) (by size_fits))
theorem OC (hd:Hd A s.heap) (ho:s.heap.get? l=B' ol) (hc:ol.cls=.type "list") (qx:ol.dict=C'){nn:Nat} (o8:ol.data=.seq ah nn)
  (h:∀ h' tk,(∀ b ob,s.heap.get? b=B' ob->h'.get? b=B' ob)->Q C' {s with heap:=h',toks:=tk}) :
  N' (XS prog w) A (Qdl (.ref l) "keys") Q E s:=by
 unfold Qdl getAttrBy?;obtain⟨hp,g,d,iQ,os⟩:=s;have hT:(⟨hp,g,d,iQ+1,os⟩:XT).TypeIs (.ref l) "list":=⟨_,ho,hc⟩;have f1:=Qel;have f2:=QcS.lookup;have f3:=QcS.bind (.ref l);have f5:Qap (.type "list") "__getattr__"=pure C':=Qda (by kernel_rfl);unfold getAttrBy
 repeat (any_goals (first|assumption|wp_step))
 refine QbS QcS.plain F.entry_list_ga (QcS.check _ _ _ _ _ _ _ _ hT (F.args_list_getattribute_2 _ _) (Of (s:=⟨hp,g,d,iQ+1,os⟩) hd ho hc qx o8 fun h' lR e k' ⟨o',e1,e2⟩=>?_));dsimp only;show N' _ _ (Qc2 _ _ _ _ _ _ _) _ _ _;unfold Qc2;have hE:(⟨h',g,d,lR,os⟩:XT).TypeIs (.ref e) "AttributeError":=⟨_,e1,e2⟩
 repeat (any_goals (first|assumption|wp_step))
 exact h h' lR k'
theorem x8:Qcn table "dict.update.loop"=B' Ze.«dict.update.loop»:=Qg4 (by kernel_rfl)
theorem nL:plainId "dict.update.loop"=D':=by decide +kernel
section
variable {κ:Type} [DecidableEq κ] {knd:KeyKind prog w κ}{G:Array Qdm->Array Qdm->Prop}{P:Nat->L'->Prop}{St:Nat->XT->Prop}
theorem Td (W:WalksS prog w A.in1 I fp wr G n P St) (m8:d∉fp) (hn:n<=1000) (s0:XT) (ks:Nat->κ) (vs:Nat->L') (kvs:Nat->List (κ×L')) (res:L')
  (gT:∀ i v,P i v->∃ t key,v=.ref t/\s0.heap.IsTuple t #[key,vs i]/\t∉d::wr/\knd.is (ks i) key=D')
  (hs:∀ i,kvs (i+1)=Qaq (kvs i) (ks i) (vs i)) (hl:∀ i,(kvs i).length<=i+1000) :
  ∀ (k i:Nat) (s:XT),n-i=k->i<=n->St i s->Moved (d::wr) G s0 s->s.heap.DictOf knd d (kvs i) ->
   (∀ s',Moved (d::wr) G s0 s'->s'.heap.DictOf knd d (kvs n)->R (.ok (.ret res)) s') ->
   Y4 (XS prog w) A (.builtin "dict.update.loop" ⟨[.ref d,.ref I,.int i 0,res],[]⟩) R s:=by
 have DK:d∉wr:=fun h=>m8 (W.sub _ h)
 have sw:∀ b∈wr,b∈d::wr:=fun b hb=>UI _ hb
 intro k
 induction k with
 | zero=>
  intro i s hk hi cR m0 hD hR;have Yp:i=n:=by lia
  subst Yp;refine ZX x8 ?_;rw[Qad nL _];show N' _ A.in1 (Yo (.ref I) >>= _) _ _ s;refine ow (W.done s _ _ cR fun s' hm=>?_);show N' _ A.in1 (pure () >>= fun _=>ret res) _ _ s';exact ow (Uu (Uu (hR s' (Qex W.gtrans m0 (hm.mono sw)) (by
   obtain⟨o,es,ep,ho,aZ⟩:=hD;exact⟨o,es,ep,hm.heap d _ DK ho,aZ⟩))))
 | succ k ih=>
  intro i s hk hi cR m0 hD hR;have bp:i<n:=by lia
  refine ZX x8 ?_;rw[Qad nL _];show N' _ A.in1 (Yo (.ref I) >>= _) _ _ s;refine ow (W.item i s _ _ bp cR fun v s' hP iH hm=>?_);obtain⟨t,key,rfl,⟨ot,wz,Dw,nt,LW⟩,Mn,cu⟩:=gT i v hP;have m1:Moved (d::wr) G s0 s':=Qex W.gtrans m0 (hm.mono sw);have zk:s'.heap.DictOf knd d (kvs i):=by
   obtain⟨o,es,ep,ho,aZ⟩:=hD;exact⟨o,es,ep,hm.heap d _ DK ho,aZ⟩
  have tO:=m1.heap t _ Mn wz;have hT:s'.TypeIs (.ref t) "tuple":=⟨_,tO,Dw⟩;dsimp only;refine ow (U3 (ow (Vw ?_)));unfold QfG;refine ow (V6 hT ?_);rw[XR (by decide)];refine ow (Vf tO LW (Uu ?_));show N' _ _ (Z9 [key,vs i] (dictSet d key (vs i))) _ _ s';refine U3 (Xs (knd:=knd) cu zk (fun h' cJ ou=>?_) (by rw[Uz];have:=hl i;lia));have e1:kvs (i+1)=Qaq (kvs i) (ks i) (vs i):=hs i;rw[<- e1] at cJ;refine Uu ⟨Zy nL _,ih (i+1) _ (by lia) bp (W.frame _ s' _ _ iH (Vm _) fun b hb o e=>?_) ?_ cJ hR⟩
  .rw[ou.2 b (fun h:b=d=>m8 (by rw[<- h];exact hb))];exact e
  .refine m1.then_heap (Vm _) fun b o hb e=>?_
   rw[ou.2 b (fun h:b=d=>hb (by rw[h];exact UQ))];exact e
end
section
variable {κ:Type} [DecidableEq κ] {knd:KeyKind prog w κ}
theorem QC {nn:Nat}{Q:L'->XT->Prop} (hc:YQ A cs) (ch:Yn s.heap cs) (ho:s.heap.get? l=B' ol) (ly:ol.cls=.type "list") (qx:ol.dict=C') (o8:ol.data=.seq ah nn) (hz:ah.size<=1000)
  (ks:Nat->κ) (vs:Nat->L') (kvs:Nat->List (κ×L')) (h0:kvs 0=[]) (hs:∀ i,kvs (i+1)=Qaq (kvs i) (ks i) (vs i)) (hl:∀ i,(kvs i).length<=i)
  (gT:∀ i v,ah[i]?=B' v->∃ t key,v=.ref t/\s.heap.IsTuple t #[key,vs i]/\knd.is (ks i) key=D')
  (h:∀ h' tk,h'.DictOf knd s.heap.objs.size (kvs ah.size)->(∀ b o,s.heap.get? b=B' o->h'.get? b=B' o)->Q (.ref s.heap.objs.size) {s with heap:=h',toks:=tk}) :
  N' (XS prog w) A (call (.type "dict") [.ref l]) Q E s:=by
 refine Qdc (Q₁:=fun obj s₁=>obj=.ref s.heap.objs.size/\s₁={s with heap:=s.heap.push {cls:=.type "dict",data:=.dict #[]} }) QgN (Qgl _) QgI (Qg3 _ ⟨O,O⟩) ?_;rintro obj s₁ ⟨rfl,rfl⟩
 have cZ:(s.heap.push {cls:=.type "dict",data:=.dict #[]}).DictOf knd s.heap.objs.size []:=Qee s.heap;have i0:(s.heap.push {cls:=.type "dict",data:=.dict #[]}).get? l=B' ol:=Ut _ ho;have mJ:Yn (s.heap.push {cls:=.type "dict",data:=.dict #[]}) cs:=ch.mono fun b o _ e=>Ut _ e
 have lt:∀ b∈cs,b<s.heap.objs.size:=ch.lt;have hsz:(s.heap.push {cls:=.type "dict",data:=.dict #[]}).objs.size=s.heap.objs.size+1:=UY ..;have keep:∀ b o,s.heap.get? b=B' o->(s.heap.push {cls:=.type "dict",data:=.dict #[]}).get? b=B' o:=fun b o e=>Ut _ e
 generalize s.heap.push {cls:=.type "dict",data:=.dict #[]}=hp at cZ i0 mJ hsz keep ⊢;refine⟨cZ.typeIs,Qgx _ _,?_⟩;unfold Ze.«dict.__init__»;refine ow ?_;unfold QfC;refine ow (Xo cZ.typeIs ?_);show N' _ _ (pure (s.heap.objs.size,[X2 l])) _ _ _;refine Uu ?_;show N' _ _ (QcQ "dict.__init__" s.heap.objs.size (.ref l) [] .none) _ _ _;unfold QcQ;have hT:Qc7 {s with heap:=hp} (.ref l) "list":=⟨_,i0,ly⟩;refine ow (V6 hT ?_);rw[XR (by decide)];refine ow ?_;refine OC (s:={s with heap:=hp}) (YQ.hd (A:=A.in1.in1) hc mJ) i0 ly qx o8 fun h2 lR k2=>?_
 have jX:=k2 _ _ i0;have bH:h2.IsList l ah:=⟨_,jX,ly,nn,o8⟩;have AX:Yn h2 cs:=mJ.mono fun b o _ e=>k2 b o e
 rw[XR (show(C':Option L').isNone=D' from rfl)];refine ow (VS ?_);refine ow (VC bH ?_);have sI:s.heap.objs.size<h2.objs.size:=by
  obtain⟨o,es,ep,hg,_⟩:=cZ;exact Uw (k2 _ _ hg)
 have ll:l<s.heap.objs.size:=Uw ho;have W:=(qT (prog:=prog) (w:=w) (A:=A.in1.in1) hc h2.objs.size l (UE (WL ll sI)) (fun z=>X4 (WL (lt _ z) sI) (UT _)) ah).toS;refine Uu ⟨Zy nL _,Td (knd:=knd) (A:=A.in1) W (fun z=>?_) hz _ ks vs kvs .none (fun i v hv=>?_) hs (fun i=>U5 (hl i) (U8 _ _)) (ah.size-0) 0 _ O (VJ _) ⟨⟨_,UA _ O,O,O⟩,bH.push _,AX.mono fun b o _ e=>Ut _ e⟩ ⟨fun _ _ _ e=>e,W.grefl _,O,O,Uv _⟩ ?_ fun s' hm hD=>?_⟩
 .rcases U1.mp z with z|z
  .exact X4 z (UE sI)
  .rcases U1.mp z with z|z
   .exact X4 z (Vs ll)
   .exact UT _ (lt _ z)
 .obtain⟨t,key,e1,⟨ot,wz,r⟩,hk⟩:=gT i v hv
  have tl:=Uw wz;refine⟨t,key,e1,⟨ot,Ut _ (k2 _ _ (keep _ _ wz)),r⟩,fun z=>?_,hk⟩;rcases U1.mp z with z|z
  .exact X4 z (UE tl)
  .exact X4 (XC.mp z) (UE (WL tl sI))
 .rw[h0]
  obtain⟨o,es,ep,hg,aZ⟩:=cZ;exact⟨o,es,ep,Ut _ (k2 _ _ hg),aZ⟩
 .obtain⟨h',g',d',iQ,wd⟩:=s'
  have eg:g'=s.gens:=hm.gens;have ed:d'=s.drawn:=hm.drawn;have eo:wd=s.os:=hm.os;subst eg;subst ed;subst eo
  refine⟨O,h h' iQ hD fun b o e=>hm.heap b o (fun z=>?_) (Ut _ (k2 _ _ (keep _ _ e)))⟩;have bl:=Uw e;rcases U1.mp z with z|z
  .exact X4 z (UE bl)
  .exact X4 (XC.mp z) (UE (WL bl sI))
end
def fh (K:V') (H:Hp):List (Key×V)->List V->Prop
 | [],ys=>ys=[]
 | kv::r,ys=>∃ t kO,ys=.ref t::kO/\Ya K H t [kV kv.1,kv.2]/\fh K H r kO
def fU (m:List (Key×V)) (kv:Key×V):List (Key×V):=aO m kv.1 kv.2
def ZG (kvs:List (Key×V)):List (Key×V):=kvs.foldl fU []
def stN (us:List (Key×L')):Nat->List (Key×L')
 | 0=>[]
 | i+1=>Qaq (stN us i) (us.getD i (XY 0,.none)).1 (us.getD i (XY 0,.none)).2
theorem BB (us:List (Key×L')):∀ i,(stN us i).length<=i
 | 0=>Uv _
 | i+1=>U5 (stored_length_le _ _ _) (V5 (BB us i))
theorem Qdz:∀ (kvs m:List (Key×V)),(kvs.foldl fU m).length<=m.length+kvs.length
 | [],_=>Uv _
 | kv::r,m=>by
  have h1:=Qdz r (fU m kv);have h2:=qR m kv.1 kv.2;show(r.foldl fU (fU m kv)).length<=_;unfold fU at h1 ⊢;rw[UR];lia
theorem GK (I:Inv X aa σ H s):∀ {kvs:List (Key×V)}{ys:List V}{ah:List L'},fh X.K H kvs ys->aC ys ah->∃ us:List (Key×L'),us.length=ah.length/\kvs.length=us.length /\
  (∀ i v,ah[i]?=B' v->∃ t key,v=.ref t/\s.heap.IsTuple t #[key,(us.getD i (XY 0,.none)).2]/\(bV X.prog X.w).is (us.getD i (XY 0,.none)).1 key=D') /\
  ∀ i kv,kvs[i]?=B' kv->kv.1=(us.getD i (XY 0,.none)).1/\aB kv.2 (us.getD i (XY 0,.none)).2
 | [],_,_,h,r=>by
  obtain rfl:_=[]:=h;cases r
  exact⟨[],O,O,(fun i v hv=>by simp at hv),fun i kv hk=>by simp at hk⟩
 | kv::kvs,_,_,h,r=>by
  obtain⟨t,kO,rfl,ht,h'⟩:=h;cases r with
  | cons r1 r2=>
   obtain rfl:=(show _=X2 t from r1);obtain⟨us,e1,e2,e3,e4⟩:=GK I h' r2;obtain⟨ti,rv,hT,_⟩:=I.tuple ht;obtain⟨key,u,rfl,q1,q2⟩:=pT rv;refine⟨(kv.1,u)::us,by rw[UR,UR,e1],by rw[UR,UR,e2],fun i v hv=>?_,fun i Fv hk=>?_⟩
   .cases i with
    | zero=>
     obtain rfl:X2 t=v:=YB hv;exact⟨t,key,O,hT,jR q1⟩
    | succ i=>exact e3 i v hv
   .cases i with
    | zero=>
     obtain rfl:kv=Fv:=YB hk;exact⟨O,q2⟩
    | succ i=>exact e4 i Fv hk
theorem BK {kvs:List (Key×V)}{us:List (Key×L')} (h:∀ i kv,kvs[i]?=B' kv->kv.1=(us.getD i (XY 0,.none)).1/\aB kv.2 (us.getD i (XY 0,.none)).2):∀ i,i<=kvs.length->KV ((kvs.take i).foldl fU []) (stN us i)
 | 0,_=>by rw[VY];exact .nil
 | i+1,hi=>by
  obtain⟨kv,hk⟩:∃ kv,kvs[i]?=B' kv:=⟨_,Uy (by lia)⟩;obtain⟨e1,e2⟩:=h i kv hk;have ih:=BK h i (by lia);rw[WA,hk,Vq];show KV (fU ((kvs.take i).foldl fU []) kv) (Qaq (stN us i) _ _);rw[<- e1];exact ih.put _ e2
theorem P6:fR X (.type "dict") (fun xs H Q=>∃ p ys kvs,xs=[.ref p]/\M' X.K H p ys/\fh X.K H kvs ys/\kvs.length<=1000/\∀ d,H d=C'->Q (.ref d) (upd H d (.dK (ZG kvs)))):=by
 intro aa s σ H xs us Q I r h;obtain⟨p,ys,kvs,rfl,hq,hP,aw,q⟩:=h;obtain⟨u,rfl,ru⟩:=gv r;obtain rfl:u=X2 p:=ru;obtain⟨ah,rv,⟨ol,nn,e1,e2,e3,e4⟩,_⟩:=I.list hq;obtain⟨us,l1,l2,p1,p2⟩:=GK I hP rv;obtain⟨cs,cK,ch⟩:=I.hd.chain;have hz:ah.toArray.size=kvs.length:=by simp[l2,l1]
 refine QC (knd:=bV X.prog X.w) cK ch e1 e2 e3 e4 (by rw[hz];exact aw) (fun i=>(us.getD i (XY 0,.none)).1) (fun i=>(us.getD i (XY 0,.none)).2) (stN us) O (fun _=>O) (BB us) (fun i v hv=>p1 i v (by simpa using hv)) fun h' tk hD hk=>?_
 have ne:(s.heap.objs.size == ZL)=R':=(vp (P:=X.prog) (w:=X.w) (H:=H) s.heap I.big).2.1;have rel:=BK p2 kvs.length (Uv _);rw[UO] at rel;rw[hz] at hD;have z:(ZG kvs).length<=XX:=by
  have:=Qdz kvs [];have z0:([]:List (Key×V)).length=0:=rfl;rw[Uz];unfold ZG;lia
 refine⟨.ref s.heap.objs.size,_,I.laid (a:=s.heap.objs.size) (o:=.dK (ZG kvs)) (t':=tk) (fun b o e=>hk b o e) (Uv _) ⟨z,ne,_,rel,hD⟩,O,q _ (I.XU.fresh (Uv _))⟩
theorem Sb {e1 e2:List X'}{x1 x2:List K'}{p0 p1:YA} (h1:pP e1=B' x1) (h2:pP e2=B' x2) (hN:X.N.Nodup) (hi:X.N[i]?=B' x) (hx:Loc X.env.scope x)
  (hs:QbB (.List [.List e1 p1,.List e2 p2] p0) (B' (.Name x a7)) pos.line X.env=pure R') (hf:X.fn x=D'\/X.env.scope.names.lookup x=B' .local) :
  PS X (.Assign [.Name x a7] (.List [.List e1 p1,.List e2 p2] p0) pos) (Qds (Qb6 (BL (Qb6 fun _ H Q=>Q (x1.map V.str) H) (BL (Qb6 fun _ H Q=>Q (x2.map V.str) H) nW))) (bN i))=True:=
 eq_true (aQ hN hi hx (bZ (ag (bZ (xQ h1)) (ag (bZ (xQ h2)) aj))) hs hf)
section
open PySem.SeqAt
open AutoSeq1 (wpAny_loadPart')
def EqP (prog:YE) (w:YF) (A:YT) (s:XT) (u v:L'):Prop:=
 ∀ (E:L'->XT->Prop) (Q:Bool->XT->Prop),Q D' s->N' (XS prog w) A (eqBool u v) Q E s
theorem EqP.of (h:EqAt A s u v D'):EqP prog w A s u v:=fun E Q q=>h prog w E Q q
theorem EqP.refs {b:F'} (h:∀ (E:L'->XT->Prop) (Q:L'->XT->Prop),Q (.bool D') s->N' (XS prog w) A (Qck .Eq (.ref a) (.ref b)) Q E s):EqP prog w A s (.ref a) (.ref b):=fun E Q q=>by
 by_cases e:a=b
 .subst e
  exact EqP.of (Qdg _) E Q q
 .unfold eqBool
  refine U3 (Qhb (fun z=>?_) fun _=>ow (h E _ (Vv q)));have z':=eq_of_beq z;injection z' with z'
  exact(e z').elim
def uY (K:V') (H:Hp) (kvs:List (Key×V)):Prop:=∀ p∈kvs,∃ d,YH K H d p.2/\iS 20 d
theorem Oi:(kvs.map (·.1)).Nodup->∀ p∈kvs,aU kvs p.1=B' p.2:=by
 induction kvs with
 | nil=>intro _ p hp;cases hp
 | cons q r ih=>
  intro nd p hp;rw[Vb,WN] at nd;rcases U1.mp hp with rfl|hp
  .exact eO rfl
  .rw[dB (fun e=>nd.1 (by rw[e];exact List.mem_map_of_mem hp))]
   exact ih nd.2 p hp
theorem Inv.QiS (I:Inv X aa σ H s){kb:List (Key×L')} (rb:KV kvs kb) (nd:(kvs.map (·.1)).Nodup) (f:uY X.K H kvs) (hu:A.units+20<Yr) :
  ∀ {l:List (Key×V)}{ka:List (Key×L')},KV l ka->(∀ p∈l,p∈kvs)->PySem.W.KeqHits A s kb ka D':=by
 intro l ka r
 induction r with
 | nil=>exact fun _=>.nil
 | @cons p p' l ka r0 r ih=>
  intro m;obtain⟨k,y⟩:=p;obtain⟨k',v⟩:=p';have e:k=k':=r0.1;have ry:aB y v:=r0.2;subst e;have hv:=Oi nd (k,y) (m _ UQ);have rel:=rb.val k;dsimp only at hv;rw[hv] at rel;cases e:QaS kb k with
  | none=>rw[e] at rel;exact rel.elim
  | some v'=>
   rw[e] at rel;obtain⟨d,hd,dd⟩:=f _ (m _ UQ);have q:=I.Qb9 (A:=A) hd hd ry rel dd hu;rw[rJ] at q;exact .hit e q (ih fun p hp=>m p (UI _ hp))
def CZ (K:V') (H:Hp) (x y:V):Prop:=(∃ d,YH K H d x/\YH K H d y/\iS 30 d)\/∃ a b kvs,x=.ref a/\y=.ref b/\H a=B' (.dK kvs)/\H b=B' (.dK kvs)/\uY K H kvs
def nB (K:V') (H:Hp):List V->List V->Prop
 | [],[]=>True
 | x::xs,y::ys=>CZ K H x y/\nB K H xs ys
 | _,_=>False
theorem nB.len {K:V'}{H:Hp}:∀ {xs ys:List V},nB K H xs ys->xs.length=ys.length
 | [],[],_=>rfl
 | _::_,_::_,h=>by rw[UR,UR,nB.len h.2]
 | [],_::_,h=>h.elim
 | _::_,[],h=>h.elim
theorem nB.at {K:V'}{H:Hp}:∀ {xs ys:List V}{j:Nat}{x y:V},nB K H xs ys->xs[j]?=B' x->ys[j]?=B' y->CZ K H x y
 | x::xs,y::ys,0,_,_,h,e1,e2=>by
  cases e1
  cases e2
  exact h.1
 | x::xs,y::ys,j+1,_,_,h,e1,e2=>nB.at (j:=j) h.2 (by simpa using e1) (by simpa using e2)
 | [],[],_,_,_,_,e1,_=>by simp at e1
 | [],_::_,_,_,_,h,_,_=>h.elim
 | _::_,[],_,_,_,h,_,_=>h.elim
theorem Inv.Qe7 (I:Inv X aa σ H s){b:F'} (ha:H a=B' (.dK kvs)) (hb:H b=B' (.dK kvs)) (f:uY X.K H kvs) (hu:A.units+21<Yr){Q:L'->XT->Prop} (q:Q (.bool D') s) :
  N' (XS X.prog X.w) A (Qck .Eq (.ref a) (.ref b)) Q E s:=by
 obtain⟨_,na,va,ra,da⟩:=kK I.XU ha;obtain⟨_,nb,vb,rb,db⟩:=kK I.XU hb;have nd:(kvs.map (·.1)).Nodup:=by
  obtain⟨_,_,_,_,_,_,_,_,nd⟩:=da;rw[ra.keys];exact nd
 refine PySem.W.keq_eq na nb da db (by lia) (fun _=>I.QiS (A:=A.in1) rb nd f (show A.units+1+20<Yr by lia) ra fun p hp=>hp) ?_;rw[<- ra.length,<- rb.length]
 simpa using q
theorem Inv.alike (I:Inv X aa σ H s){x y:V} (h:CZ X.K H x y) (rx:aB x u) (ry:aB y v) (hu:A.units+31<Yr):EqP X.prog X.w A s u v:=by
 rcases h with⟨d,h1,h2,hd⟩|⟨a,b,kvs,rfl,rfl,ha,hb,f⟩
 .have q:=I.Qb9 (A:=A) h1 h2 rx ry hd (by lia)
  rw[rJ] at q;exact EqP.of q
 .obtain rfl:u=X2 a:=rx
  obtain rfl:v=X2 b:=ry;exact EqP.refs fun E Q q=>I.Qe7 ha hb f (by lia) q
def QiT (K:V'):R2:=fun x y H Q=>∃ a b kvs,x=.ref a/\y=.ref b/\H a=B' (.dK kvs)/\H b=B' (.dK kvs)/\uY K H kvs/\Q (.bl D') H
theorem QiU (hu:X.A.units+64<Yr):YN X (Zr .Eq) (QiT X.K):=by
 intro aa s σ H x y v u Q I rx ry h;obtain⟨a,b,kvs,rfl,rfl,ha,hb,f,q⟩:=h;obtain rfl:v=X2 a:=rx;obtain rfl:u=X2 b:=ry;exact I.Qe7 ha hb f (by lia) ⟨.bl D',H,I,O,q⟩
end
section
variable {st:X'}{ts:TE}
end
theorem Ja:YN X (QaA .FloorDiv) (rI (fun _ j=>0<j/\j<2 ^ 62) fun i j=>.int (i / j)):=opI fun i j _ _ _ _ _ hc q=>by
 have h1:(0:Int)<j:=hc.1;have h2:j<2 ^ 62:=hc.2;refine floordiv_int (by lia) (by rw[WW i (by lia)];exact q) (.inl (PyProof.noPylong_of_log2 ?_));exact(Nat.log2_lt (by lia)).mpr (UN (by lia:j.natAbs<2 ^ 62) (WO (by decide) (by decide)))
section
open Sem (wp)
theorem Oe {T:String}{x:Y6 L'}{aZ:List (Bool×Y6 L')}{oG:List (Option K'×Y6 L')}{Q:L'->XT->Prop}
  (hp:aZ.any (·.1)=R') (hk:oG.any (·.1.isNone)=R') (ha:oG.all (·.1.isSome)=D')
  (h:N' M A (Qdn ((R',x)::aZ)) (fun vs s1=>N' M A (evalAll (oG.map (·.2))) (fun ks s2=>N' M A (call (.type T) vs ((oG.filterMap (·.1)).zip ks)) Q E s2) E s1) E s) :
  N' M A (QbD pos (.type T) [] ((R',x)::aZ) oG) Q E s:=by
 unfold QbD;refine ow (U3 (evalArgs_kwB ha (Vg h (fun vs s1 h1=>Vg h1 (fun ks s2 h2=>?_) fun _ _ z=>z) fun _ _ z=>z)));refine ow (Wr ?_);have hs:(((R',x)::aZ).any (·.1) || oG.any (·.1.isNone))=R':=by rw[V1,hp,hk];rfl
 simp only[hs]
 refine ow (Uu ?_);exact ow (Vg h2 (fun r s3 hr=>ow (U3 (wpAny_point (Uu hr)))) fun _ _ z=>z)
theorem Rv (l:F') (items:Array L') (n:Nat) (yJ:Option F') (sl:Array (Option L')) (k:Nat) (t:Zf) (hk:k<2 ^ 62) :
  Meets (Ze.«enumerate.__new__» ⟨[.type "enumerate",.ref l],[(Y0 "start",.int k t)]⟩) (fun _ R s=>s.heap.get? l=B' {cls:=.type "list",dict:=yJ,data:=.seq items n,slots:=sl} /\
   R (.ok (.ret (.ref (s.heap.push {cls:=.type "list_iterator",data:=.fields #[.ref l,.int 0 0]}).objs.size))) {s with heap:=(s.heap.push {cls:=.type "list_iterator",data:=.fields #[.ref l,.int 0 0]}).push {cls:=.type "enumerate",data:=.fields #[.none,.bool R',.ref s.heap.objs.size,Yk k,.none,.none]} }):=
 .of_wp fun prog w A R s h=>by
  obtain⟨hp,g,d,tk,os⟩:=s;obtain⟨hl,h⟩:=h;have sub:=sub_enumerate;have hL:Yg.IsList (XT.heap ⟨hp,g,d,tk,os⟩) l items:=⟨_,hl,O,n,O⟩
  wp_walk using AutoSeq1.wpAny_loadPart' hl
  have fit:(!Qfw (k:Int))=R':=by
   unfold Qfw;rw[UW (by lia),UW (by lia)];rfl
  refine wpAny_stack_any fun st=>Uu ?_
  split
  .rename_i c _ _ _ _ _
   cases (c == QaQ "enumerate")
   .simp only[U9,Y3]
    refine ow ?_;refine VG (a:=(X2 l,B' (Zn (k:Int) t))) ?e1 ?_
    case e1=>kernel_rfl
    refine ow ?_;refine VG (a:=Zn (k:Int) t) ?e2 ?_
    case e2=>rfl
    refine ow ?_;refine VG (a:=B' (k:Int)) ?e3 ?_
    case e3=>rfl
    dsimp only;rw[W' (by rw[fit];exact UL)];refine ow (VC hL ?_)
    wp_walk
    exact⟨_,O,h⟩
   .simp only[ZY]
    refine ow ?_;refine VG (a:=(X2 l,B' (Zn (k:Int) t))) ?e1 ?_
    case e1=>kernel_rfl
    refine ow ?_;refine VG (a:=Zn (k:Int) t) ?e2 ?_
    case e2=>rfl
    refine ow ?_;refine VG (a:=B' (k:Int)) ?e3 ?_
    case e3=>rfl
    dsimp only;rw[W' (by rw[fit];exact UL)];refine ow (VC hL ?_)
    wp_walk
    exact⟨_,O,h⟩
  .simp only[U9,Y3]
   refine ow ?_;refine VG (a:=(X2 l,B' (Zn (k:Int) t))) ?e1 ?_
   case e1=>kernel_rfl
   refine ow ?_;refine VG (a:=Zn (k:Int) t) ?e2 ?_
   case e2=>rfl
   refine ow ?_;refine VG (a:=B' (k:Int)) ?e3 ?_
   case e3=>rfl
   dsimp only;rw[W' (by rw[fit];exact UL)];refine ow (VC hL ?_)
   wp_walk
   exact⟨_,O,h⟩
theorem PK {T nw:String}{Bn:Ze}{as:List L'}{kw:List (K'×L')}{S:PySem.Spec}{Q:L'->XT->Prop} (ft:TypeCalled T nw "object.__init__")
  (eQ:(B' nw != B' "object.__new__")=D') (Dw:checkTypeCall T ⟨as,kw⟩=pure ()) (JV:checkBuiltinCall nw ⟨.type T::as,kw⟩=pure ()) (XU:∀ o,argsOk "object.__init__" ⟨o::as,kw⟩)
  (Yp:∀ o,Meets (Ze.«object.__init__» ⟨o::as,kw⟩) (fun _ R s=>s.TypeIs o T/\R (.ok (.ret .none)) s))
  (en:Qcn table nw=B' Bn) (g:Meets (Bn ⟨.type T::as,kw⟩) S) (h:S A.in1 (wants (fun o s1=>s1.TypeIs o T/\Q o s1) E) s):N' (XS prog w) A (call (.type T) as kw) Q E s:=by
 obtain⟨c1,TJ,LB⟩:=ft.mro;have f1:=ft.made;have f2:=ft.sub;have f3:=ft.notType;have f4:=ft.canCreate;refine Wb (Qer (show N' _ _ (callAny (.type T) _) _ _ _ from Uu ⟨Qbm _ (by decide +kernel),ZX F.entry_type_call ?_⟩));rw[YT.under_plain (weight_type_call_type T as kw) (units_type_call_type T as kw)]
 repeat (any_goals (first|assumption|wp_step))
 refine QaP (QbS ft.plain en (VG JV (g prog w A.in1 _ s h))) fun r s1 hr=>?_
 match r,hr with
 | .error _,hr=>exact hr
 | .ok (.ret o),hr=>
  obtain⟨hT,hq⟩:=hr;have i1:=ft.init.lookup;have i2:=ft.init.bind o
  repeat (any_goals (first|assumption|wp_step))
  refine QaP (QbS ft.init.plain F.entry_object_init (ft.init.check _ _ _ _ _ _ _ _ hT (XU o) (Yp o prog w A.in1 (wants (fun r s2=>r=.none/\s2=s1) (fun _ _=>False)) s1 ⟨hT,O,O⟩))) fun r2 s2 jJ=>?_
  match r2,jJ with
  | .error _,jJ=>exact jJ.elim
  | .ok (.ret v),jJ=>
   obtain⟨rfl,rfl⟩:=jJ
   repeat (any_goals (first|assumption|wp_step))
  | .ok .next,jJ=>exact jJ.elim
  | .ok .brk,jJ=>exact jJ.elim
  | .ok .cont,jJ=>exact jJ.elim
 | .ok .next,hr=>exact hr.elim
 | .ok .brk,hr=>exact hr.elim
 | .ok .cont,hr=>exact hr.elim
theorem Qt (o x:L') (kw:List (K'×L')):Meets (Ze.«object.__init__» ⟨[o,x],kw⟩) (fun _ R s=>s.TypeIs o "enumerate"/\R (.ok (.ret .none)) s):=by
 refine Meets.of_wp fun prog w A R s hs=>?_
 obtain⟨hT,hq⟩:=hs;have l1:=Qek.init.lookup;have l2:=Qek.made
 repeat (any_goals (first|assumption|wp_step))
 exact⟨_,O,hq⟩
theorem Sy {items:Array L'}{k:Nat} (hk:k<2 ^ 62){Q:L'->XT->Prop} (hL:s.heap.IsList l items)
  (h:∀ h',Qak h' (s.heap.objs.size+1) s.heap.objs.size k .none->h'.IsListIter s.heap.objs.size l 0->(∀ b o,s.heap.get? b=B' o->h'.get? b=B' o)->Q (.ref (s.heap.objs.size+1)) {s with heap:=h'}) :
  N' (XS prog w) A (call (.type "enumerate") [.ref l] [(Y0 "start",.int k t)]) Q E s:=by
 obtain⟨⟨c,yJ,dt,sl⟩,hl,hc,n,hd⟩:=hL;dsimp only at hc hd;subst hc hd;have hz:(s.heap.push {cls:=.type "list_iterator",data:=.fields #[.ref l,.int 0 0]}).objs.size=s.heap.objs.size+1:=UY ..;refine PK Qek (by decide) (by kernel_rfl) (by kernel_rfl) (fun o=>by first|rfl|kernel_rfl) (fun o=>Qt o _ _) F.entry_enumerate_new (Rv l items n yJ sl k t hk) ⟨hl,?_⟩;show _/\_;rw[hz];have he:=UA (s.heap.push {cls:=.type "list_iterator",data:=.fields #[.ref l,.int 0 0]}) (o:={cls:=.type "enumerate",data:=.fields #[.none,.bool R',.ref s.heap.objs.size,Yk k,.none,.none]}) rfl;rw[hz] at he;exact⟨⟨_,he,O⟩,h _ he ⟨_,Ut _ (UA _ O),O,O⟩ fun b o e=>Ut _ (Ut _ e)⟩
theorem SU {e:F'}{j:Int}{x:L'}{Q:L'->XT->Prop} (he:Qak s.heap e it j old) (hit:s.heap.IsListIter it l i) (hl:s.heap.IsList l xs) (hx:xs[i]?=B' x) (ne:e≠it)
  (hQ:∀ h',Qdi h' e it (j+1) x s.heap.objs.size->h'.IsListIter it l (i+1)->h'.get? s.heap.objs.size=B' {cls:=.type "tuple",data:=.seq #[.int j s.toks,x]}->(∀ b o,b≠e->b≠it->s.heap.get? b=B' o->h'.get? b=B' o) ->
   Q (.ref s.heap.objs.size) {s with heap:=h',toks:=s.toks+1}) :
  N' (XS prog w) A (Ze.«enumerate.__next__» ⟨[.ref e],[]⟩) (fun aL s'=>∃ v,aL=.done (.ret v)/\Q v s') E s:=by
 obtain⟨hp,gn,dr,tk,os⟩:=s;refine(show N' _ _ (Y5 (.ref e) 2 >>= _) _ _ _ from ow (UV he O (x:=.ref it) O (ow (VZ hit hl hx fun g1 Nc b1=>?_))))
 replace b1:Zu it hp g1:=b1
 have e1:Qak g1 e it j old:=(b1.2 e ne).trans he;refine(show N' _ _ (Y5 (.ref e) 3 >>= _) _ _ ⟨g1,gn,dr,tk,os⟩ from ow (UV e1 O (x:=Yk j) O ?_));refine(show N' _ _ (Y5 (.ref e) 4 >>= _) _ _ ⟨g1,gn,dr,tk,os⟩ from ow (UV e1 O (x:=.none) O ?_));refine(show N' _ _ (mkInt j >>= _) _ _ ⟨g1,gn,dr,tk,os⟩ from ow (wpAny_mkInt ?_));refine(show N' _ _ (Qb2 (.ref e) 3 (Yk (j+1)) >>= _) _ _ ⟨g1,gn,dr,tk+1,os⟩ from ow (VH e1 (by simp) fun g2 e2 b2=>?_))
 replace b2:Zu e g1 g2:=b2
 replace e2:Qak g2 e it (j+1) old:=e2
 refine(show N' _ _ (Qb2 (.ref e) 4 .none >>= _) _ _ ⟨g2,gn,dr,tk+1,os⟩ from ow (VH e2 (by simp) fun g3 e3 b3=>?_))
 replace b3:Zu e g2 g3:=b3
 replace e3:Qak g3 e it (j+1) old:=e3
 refine(show N' _ _ (Qdk [.int j tk,x] >>= _) _ _ ⟨g3,gn,dr,tk+1,os⟩ from ow (Qhi ?_));have e4:Qak (g3.push {cls:=.type "tuple",data:=.seq #[.int j tk,x]}) e it (j+1) old:=Ut _ e3;have z3:g3.objs.size=hp.objs.size:=by rw[b3.1,b2.1,b1.1]
 have el:e<hp.objs.size:=Uw he;have tu:(g3.push {cls:=.type "tuple",data:=.seq #[.int j tk,x]}).get? hp.objs.size=B' {cls:=.type "tuple",data:=.seq #[.int j tk,x]}:=by
  rw[<- z3];exact UA _ rfl
 have kp:∀ b o,b≠e->b≠it->hp.get? b=B' o->(g3.push {cls:=.type "tuple",data:=.seq #[.int j tk,x]}).get? b=B' o:=fun b o n1 n2 q=>Ut _ (b3.extBut b o n1 (b2.extBut b o n1 (b1.extBut b o n2 q)))
 have E6:(g3.push {cls:=.type "tuple",data:=.seq #[.int j tk,x]}).IsListIter it l (i+1):=by
  obtain⟨o,ho,r⟩:=(Nc.extBut b2.extBut (XW ne)).extBut b3.extBut (XW ne);exact⟨o,Ut _ ho,r⟩
 generalize g3.push {cls:=.type "tuple",data:=.seq #[.int j tk,x]}=g4 at e4 tu kp E6;refine(show N' _ _ (Qa2 (.ref e) >>= _) _ _ ⟨g4,gn,dr,tk+1,os⟩ from ?_);rw[z3];refine ow ?_;unfold Qa2;refine ow (UV e4 O (x:=.none) O (Uu ?_));simp only[ZY]
 refine ow (VS (ow (UV e4 O (x:=old) O (ow (VH e4 (by simp) fun g5 e5 b5=>?_)))))
 replace b5:Zu e g4 g5:=b5
 replace e5:Qak g5 e it (j+1) x:=e5
 refine(show N' _ _ (Qfv (.ref e) (.ref hp.objs.size) >>= _) _ _ ⟨g5,gn,dr,tk+1,os⟩ from ow ?_);unfold Qfv;refine ow (VH e5 (by simp) fun g6 e6 b6=>?_)
 replace b6:Zu e g5 g6:=b6
 replace e6:Qdi g6 e it (j+1) x hp.objs.size:=e6
 refine VH e6 (by simp) fun g7 e7 b7=>?_
 replace b7:Zu e g6 g7:=b7
 replace e7:Qdi g7 e it (j+1) x hp.objs.size:=e7
 have on:∀ b o,b≠e->g4.get? b=B' o->g7.get? b=B' o:=fun b o n q=>b7.extBut b o n (b6.extBut b o n (b5.extBut b o n q))
 refine ow (VL (Uu ⟨_,O,hQ g7 e7 ?_ (on _ _ (Vs el) tu) fun b o n1 n2 q=>on b o n1 (kp b o n1 n2 q)⟩));exact((E6.extBut b5.extBut (XW ne)).extBut b6.extBut (XW ne)).extBut b7.extBut (XW ne)
theorem Tg {e:F'}{j:Int}{x:L'} (he:Qak s.heap e it j old) (hit:s.heap.IsListIter it l i) (hl:s.heap.IsList l xs) (hx:xs[i]?=B' x) (ne:e≠it)
  (hQ:∀ h',Qdi h' e it (j+1) x s.heap.objs.size->h'.IsListIter it l (i+1)->h'.get? s.heap.objs.size=B' {cls:=.type "tuple",data:=.seq #[.int j s.toks,x]}->(∀ b o,b≠e->b≠it->s.heap.get? b=B' o->h'.get? b=B' o) ->
   Q (B' (.ref s.heap.objs.size)) {s with heap:=h',toks:=s.toks+1}):N' (XS prog w) A (Yo (.ref e)) Q E s:=by
 have ty:s.TypeIs (.ref e) "enumerate":=⟨_,he,O⟩;unfold Yo;refine ow (VD (U6 (name:=Y0 "__next__") ty QbR (Vh QbR ty Qea ?_ (Qd5 _))));exact SU he hit hl hx ne fun h' a b c d=>Uu (hQ h' a b c d)
theorem Tf {e:F'}{j:Int}{items:Array L'} (hd:Hd A s.heap)
  (he:Qak s.heap e it j old) (hit:s.heap.IsListIter it l i) (hl:s.heap.IsList l items) (hx:items[i]?=C')
  (hQ:∀ h',Qaf it s.heap h'->Q C' {s with heap:=h'}):N' (XS prog w) A (Yo (.ref e)) Q E s:=by
 have ht:s.TypeIs (.ref e) "enumerate":=⟨_,he,O⟩;unfold Yo;refine ow (VD (U6 (name:=Y0 "__next__") ht QbR (Vh QbR ht Qea ?_ (Qd5 _))));refine(show N' _ _ (Y5 (.ref e) 2 >>= _) _ _ _ from ow (UV he O (x:=.ref it) O ?_));refine ow (rP (A:=A.in1) hd hit hl hx fun h' x de jg=>?_);obtain⟨o,ho,hc⟩:=jg;exact ow (Vr (T:="StopIteration") (b:=D') ⟨o,ho,hc⟩ Qao (Uu (hQ _ de)))
def QdA (K:V') (l:F') (k:Nat):It:=
  ⟨fun i H=>∃ xs x,M' K H l xs/\xs[i]?=B' x,
   fun i H v H'=>∃ T x,v=.ref T/\H T=C'/\H'=upd H T (.tup [.int ((k:Int)+i),x])/\∀ xs,M' K H l xs->xs[i]?=B' x,
   fun i H=>∃ xs,M' K H l xs/\xs.length<=i⟩
def PQ (h:Yg) (e it l:F') (k i:Nat):Prop:=∃ old,Qak h e it ((k:Int)+i) old/\h.IsListIter it l i
theorem QT {K:V'}{kx:Nat}{e:F'} (eQ:e≠it) :
  ma P w K (.Tuple es kx pos) (QdA K l st0) [e,it] e (fun i h=>PQ h e it l st0 i) where
 mem:=by simp
 obj:=fun i h st b hb=>by
  obtain⟨old,he,⟨o1,e1,c1,d1⟩⟩:=st;simp only[U1,US,YX] at hb
  rcases hb with rfl|rfl
  .exact⟨_,he,fun v q=>by simp at q⟩
  .exact⟨_,e1,fun v q=>by rw[d1] at q;cases q⟩
 keep:=fun i h h' st k=>by
  obtain⟨old,he,h1⟩:=st;exact⟨old,k e (by simp) _ he,h1.at fun o q=>k it (by simp) o q⟩
 item:=by
  intro X hP hw hK hc i aa s σ H E I hf st hg;subst hP hw hK;obtain⟨xs,x,q1,hx⟩:=hg;obtain⟨old,he,h1⟩:=st;obtain⟨ah,rv,pl,_⟩:=I.list q1;obtain⟨u,hu,ru⟩:=rv.get hx;have nf:∀ b∈[e,it],b∉YG X.stack:=fun b hb q=>(U1.mp (I.ZP b q)).elim (hf b hb).2.1 (hf b hb).2.2.1
  refine Tg he h1 pl.isList (x:=u) (by simpa using hu) eQ fun h' a1 a2 a3 hk=>⟨_,O,?_⟩
  refine WX (s:={s with heap:=h',toks:=s.toks+1}) a1 fun cX jB bh=>?_
  replace bh:Zu e h' cX:=bh
  have pi:H s.heap.objs.size=C':=I.XU.fresh (Uv _);have zt:=Uw he;have pE:∀ b o,b≠e->b≠it->s.heap.get? b=B' o->cX.get? b=B' o:=fun b o n1 n2 q=>bh.extBut b o n1 (hk b o n1 n2 q)
  have I1:Inv X aa σ (upd H s.heap.objs.size (.tup [.int ((st0:Int)+i),x])) {s with heap:=s.heap.push {cls:=.type "tuple",data:=.seq #[.int ((st0:Int)+i) s.toks,u]},toks:=s.toks+1}:=
   I.laid (t':=s.toks+1) (fun b o q=>Ut _ q) (Uv _) ⟨by show 2<=XX;decide,[.int ((st0:Int)+i) s.toks,u],.cons ⟨_,O⟩ (.cons ru .nil),⟨_,UA _ rfl,O,_,O⟩⟩
  have mZ:∀ b∈[e,it],bE X aa (upd H s.heap.objs.size (.tup [.int ((st0:Int)+i),x])) b:=fun b hb=>by
   obtain⟨f0,r⟩:=hf b hb;refine⟨?_,r⟩;have lt:b<s.heap.objs.size:=by
    simp only[U1,US,YX] at hb
    rcases hb with rfl|rfl
    .exact zt
    .obtain⟨o,q,_⟩:=h1;exact Uw q
   rw[ak (UE lt)];exact f0
  have I2:Inv X aa σ (upd H s.heap.objs.size (.tup [.int ((st0:Int)+i),x])) {s with heap:=cX,toks:=s.toks+1}:=by
   have back:∀ b o,(s.heap.push {cls:=.type "tuple",data:=.seq #[.int ((st0:Int)+i) s.toks,u]}).get? b=B' o->b≠e->b≠it->cX.get? b=B' o:=fun b o q n1 n2=>by
    rcases Wq q with⟨rfl,rfl⟩|q
    .exact bh.extBut _ _ n1 a3
    .exact pE b o n1 n2 q
   refine I1.slots (ch:=[e,it]) (tk:=s.toks+1) mZ (fun b o _ hc q=>?_) (fun b o hb q=>⟨o.slots,?_⟩) (fun b hb o q=>?_)
   .simp only[U1,US,YX,not_or] at hc
    exact back b o q hc.1 hc.2
   .exact back b o q (fun z=>nf e (by simp) (z ▸ hb)) (fun z=>nf it (by simp) (z ▸ hb))
   .simp only[U1,US,YX] at hb
    rcases hb with rfl|rfl
    .exact⟨_,jB⟩
    .obtain⟨o,q,_⟩:=a2;exact⟨_,bh.extBut _ _ eQ.symm q⟩
  refine⟨.ref s.heap.objs.size,_,I2,O,⟨_,x,O,pi,O,fun FM q=>by rw[I.QbM q q1];exact hx⟩,?_,fun b hb=>(mZ b hb).1⟩;exact⟨u,by rw[show((st0:Int)+((i+1:Nat):Int))=(st0:Int)+i+1 by lia];exact jB,a2.extBut bh.extBut eQ.symm⟩
 done:=by
  intro X hP hw hK hc i aa s σ H E I hf st hg;subst hP hw hK;obtain⟨xs,q1,aw⟩:=hg;obtain⟨old,he,h1⟩:=st;obtain⟨ah,rv,pl,_⟩:=I.list q1;have e1:=rv.length;have nf:∀ b∈[e,it],b∉YG X.stack:=fun b hb q=>(U1.mp (I.ZP b q)).elim (hf b hb).2.1 (hf b hb).2.2.1
  refine Tf I.hd he h1 pl.isList (by simp;lia) fun h' hk=>⟨O,?_⟩
  refine I.slot0 (ch:=[e,it]) (tk:=s.toks) hf (fun b o _ hc q=>?_) (fun b o hb q=>⟨o.slots,?_⟩)
  .simp only[U1,US,YX,not_or] at hc
   exact hk b o hc.2 q
  .exact hk b o (fun z=>nf it (by simp) (z ▸ hb)) q
 self:=fun _ _ s _ _ st h=>by
  obtain⟨old,he,_⟩:=st;exact WB he h
def QiV (K:V') (ta:TA) (tb:TE):TI:=fun σ H R=>ta σ H fun vs H1=>tb σ H1 fun y H2=>∃ l,∃ k:Nat,vs=[.ref l]/\y=.int k/\k<2 ^ 62/\(∃ xs,M' K H2 l xs)/\R (QdA K l k) H2
theorem Ry {kx:Nat}{p bQ:YA}{a b:X'}{tb:TE} (hg:Gl X "enumerate") (hm:X.mg "enumerate"=C') (ha:PA X [a] ta) (hb:PE X b tb)
  (hs:Yy pos (Yb [a] X.env)=(R',X9 a X.env)::Yy pos (Yb [] X.env):=by rfl) (hp:(Yy pos (Yb [] X.env)).any (·.1)=R':=by rfl)
  (t8:(ZC pos (Zz [⟨B' "start",b,bQ⟩] X.env)).all (·.1.isSome)=D':=by rfl) (tW:(ZC pos (Zz [⟨B' "start",b,bQ⟩] X.env)).any (·.1.isNone)=R':=by rfl)
  (n9:∀ u:L',((ZC pos (Zz [⟨B' "start",b,bQ⟩] X.env)).filterMap (·.1)).zip [u]=[(Y0 "start",u)]:=by intro u;rfl) :
  PI X (.Tuple es kx Qbd) (.Call (.Name "enumerate" p) [a] [⟨B' "start",b,bQ⟩] pos) (QiV X.K ta tb):=by
 intro aa s σ H R I h;refine Vl (iV I hg hm Qhn ?_);have z:=ha pos aa s σ H _ I h;rw[hs] at z ⊢;refine Oe hp tW t8 (X3 z fun us s1=>L2.Yc fun vs H1 I1 r1 q1=>?_);refine QdZ (X3 (hb aa s1 σ H1 _ I1 q1) fun u s2 ⟨y,H2,I2,r2,l,k,e1,e2,hk,⟨xs,hx⟩,q⟩=>Qd1 ?_);rw[n9];subst e1 e2;obtain⟨v,rfl,rv⟩:=gv r1;obtain rfl:v=X2 l:=rv;obtain⟨t,rfl⟩:=r2;obtain⟨ah,rx,pl,_⟩:=I2.list hx;refine Sy hk pl.isList fun h' b1 b2 ko=>?_
 refine WB (s:={s2 with heap:=h'}) b1 ?_;refine⟨s2.heap.objs.size+1,[s2.heap.objs.size+1,s2.heap.objs.size],_,_,H2,O,I2.kept (t':=s2.toks) ko,QT (st0:=k) (Vs (Vi _)),⟨_,by rw[show((k:Int)+((0:Nat):Int))=k by lia];exact b1,b2⟩,fun b hb=>?_,q⟩;have ge:s2.heap.objs.size<=b:=by
  simp only[U1,US,YX] at hb
  rcases hb with rfl|rfl
  .exact U8 _ _
  .exact Uv _
 exact I2.ZQ ge (I2.XU.fresh ge)
theorem SB {K:V'}{xs:List V}{D:dX} (Pv:Nat->St->Hp->Prop) (h0:Pv 0 σ H) (hl:∀ i σ H,i<=xs.length->Pv i σ H->M' K H l xs)
  (hs:∀ i x T σ H,xs[i]?=B' x->H T=C'->Pv i σ H->g (.ref T) σ (upd H T (.tup [.int ((st0:Int)+i),x])) fun σ2 H2=>tb {D with nx:=Pv (i+1),ct:=Pv (i+1),bk:=D.nx} σ2 H2) (hd:∀ σ H,Pv xs.length σ H->D.nx σ H):rg (QdA K l st0) D g tb σ H:=
 wk_ (n:=xs.length) Pv h0 (fun i σ H hi p=>⟨fun h=>⟨xs,xs[i],hl i σ H hi p,by simp[h]⟩,fun h=>⟨xs,hl i σ H hi p,h⟩⟩) (fun i v σ H H' hi p y=>by
 obtain⟨T,x,rfl,hT,rfl,hx⟩:=y;exact hs i x T σ H (hx xs (hl i σ H (VE hi) p)) hT p) hd
end
def alike (c:Int) (l:List QaU):List QaU:=l.filter fun p=>numOf p.1 == c
structure Dn (X0:List QaU) (x ED:Nat) (l U B C O1:List QaU) (b:Int):Prop where
 arr:l=U++B++C
 org:X0=O1++B++C
 len:U.length+B.length=x
 lb:B.length=ED+1
 fil:∀ c,alike c U=(alike c O1).reverse
 eqb:∀ p∈B,numOf p.1=b
 gt:∀ p∈U,b<numOf p.1
 dec:U.Pairwise fun p q=>numOf q.1<=numOf p.1
section
variable {X0 U B C O1:List QaU}{x ED:Nat}{b:Int}{xs:Array QaU}{p:QaU}
end
section
variable {Ar:YT}{a₀:Array QaU}{X0:List QaU}
end
section
variable {c P:F'}
abbrev me (X:Cx):K':=X.env.qual++"<lambda>"
def yj (X:Cx) (scope:ZD) (params:Qdj) (body:X') (pm:L') (c':F') (gh:L'):X6:=
 PySem.W.kla_obj "<lambda>" (me X) params body scope (dW X.env.cells scope.names []) pm c' gh
def uR (H:Hp) (c' P:F') (qual:K'):Prop:=∃ oc vs t,H c'=B' (.X7 oc (.own P))/\oc.data=.fields vs/\vs[1]?=B' (.str qual t)
theorem uR.rec {c' P:F'} (x:uR H c' P qual) (k:Yz prog w H h):h.CodeRec (.ref c') qual:=by
 obtain⟨oc,vs,t,e1,e2,e3⟩:=x;obtain⟨z,_⟩:=k c' _ e1;exact⟨c',oc,vs,t,O,z,e2,e3⟩
theorem Op {Q:L'->XT->Prop} (I:Inv X aa σ H s) (iu:X.env.code=.ref c) (hc:QaK X.K c P=D') (hP:H P=B' (.Y1 pos (me X)))
  (ok:eu X.env.scope scope X.N N cap=D') (oM:defaultsOf params X.env=([],[]))
  (h:∀ f c' pm gh H' s',Inv X aa σ H' s'->af H H'->s.heap.objs.size<=f->H' f=C'->s'.heap.get? f=B' (yj X scope params body pm c' gh)->uR H' c' P (me X)->Q (.ref f) s') :
  N' M A (X9 (.Lambda params body scope pos) X.env) Q E s:=by
 have tb:=I.XU P _ hP;obtain⟨bm,ob,b1,b2,b3,b4,b5,b6⟩:=I.ok.mod.bmain;have hg:s.heap.Ns YW X.mg:=I.ok.mod.glob.keeps I.bk;have cl:=Ct (I.QbN ok);have Kh:YW≠P:=fun z=>by
  obtain⟨o,_,_,e,_⟩:=I.ok.mod.glob;have:=(I.bs _ _ e).2;rw[z,hP] at this;cases this
 have Md:bm≠P:=fun z=>by
  have:=(I.bs _ _ b3).2;rw[z,hP] at this;cases this
 have Lq:bm≠YW:=fun z=>by
  obtain⟨o,es,ep,e,hd,_⟩:=I.ok.mod.glob;rw[z,e] at b3;cases b3;rw[hd] at b6;cases b6
 have C:=Qf3 I.Yq hc;have hb:s.heap.BuiltinsAt X.mg P:=⟨bm,ob,b1,b2,Lq,Md,I.bk _ _ b3,b4,b5,b6⟩;refine PySem.W.kla_eval oM ?_;rcases tb with tb|⟨c',oc,vs,t,e1,e2,e3,tb⟩
 .refine PySem.W.kla_makeFunction cl I.ok.glob hg iu C tb trivial O Kh hb fun c' gh h' tk hx lJ bp AN iP=>?_
  obtain⟨c₂,oc,vs,t,q,sx,hd,hv⟩:=AN;cases q
  have hn:H c'=C':=I.XU.fresh lJ;have Uj:c'≠P:=fun z=>by rw[z,hP] at hn;cases hn
  have nP:∀ b,H b=C'->b≠P:=fun b n z=>by rw[z,hP] at n;cases n
  have k:∀ (o:X6) b u,b≠P->s.heap.get? b=B' u->(h'.push o).get? b=B' u:=fun o b u n q=>Ut _ (hx b u n q)
  have tF:∀ o:X6,(h'.push o).get? P=B' (Qc4 (#[]++#[Yk pos.line,Yk pos.col,.ref c'])):=fun o=>Ut _ iP
  have o7:∀ b u,H b=B' u->upd H c' (.X7 oc (.own P)) b=B' u:=fun b u q=>by rw[ak (av q hn)];exact q
  have un:∀ o:X6,Un X.fs [] H (upd H c' (.X7 oc (.own P))) s.heap (h'.push o):=fun o=>by
   refine⟨fun b u q n _ _=>k o b u (nP b n) q,fun b u q n _ _=>⟨u.slots,k o b u (nP b n) q⟩,fun b u q n _=>?_,fun b u q _=>?_,fun b xs q=>o7 _ _ q,fun b u v q=>o7 _ _ q,fun b p r q=>o7 _ _ q⟩
   .rw[ak (UE (UN (Uw q) lJ))];exact n
   .by_cases z:b=P
    .exact⟨_,z ▸ tF o⟩
    .exact⟨u,k o b u z q⟩
  have XU:∀ o:X6,Yz X.prog X.w (upd H c' (.X7 oc (.own P))) (h'.push o):=fun o b u q=>by
   by_cases z:b=c'
   .subst z
    rw[ai] at q;cases q
    exact⟨Ut _ sx,_,Ut _ sx⟩
   .rw[ak z] at q
    by_cases z2:b=P
    .subst z2
     rw[hP] at q;cases q
     exact .inr ⟨c',oc,vs,t,ai,hd,hv,tF o⟩
    .refine(I.XU b u q).ZE (fun d v hd q'=>k o d v ?_ q') (fun d r=>o7 _ _ r) (fun d xs r=>o7 _ _ r) fun d ob r=>o7 _ _ r
     rcases hd with hd|hd
     .rw[hd];exact z2
     .intro z3
      rw[z3,hP] at hd;cases hd
  have hsz:s.heap.objs.size<=h'.objs.size:=U5 lJ (VE bp);refine h _ c' _ gh (upd H c' (.X7 oc (.own P))) _ (I.un (t':=tk) (un _) (XU _)) (fun b u q=>o7 b u q) hsz ?_ (UA _ O) ⟨oc,vs,t,ai,hd,hv⟩;rw[ak (Vs bp)];exact I.XU.fresh hsz
 .have ht:TriplesOk (#[Yk pos.line,Yk pos.col,X2 c']:Array L').toList:=by simp[TriplesOk,Yk]
  have hf:codeAmong pos (#[Yk pos.line,Yk pos.col,X2 c']:Array L').toList=B' (.ref c'):=by simp[codeAmong,Yk]
  refine PySem.W.kla_makeFunctionHit cl I.ok.glob hg iu C tb ht hf hb fun gh h' tk hk hsz=>?_
  exact h _ c' _ gh H _ (I.kept (t':=tk) fun b u q=>Ut _ (hk b u q)) (af.refl H) hsz (I.XU.fresh hsz) (UA _ O) ⟨oc,vs,t,e1,e2,e3⟩
abbrev vV (X:Cx) (scope:ZD) (f:F') (cd:L') (L:F'):Za:=PySem.W.envX (me X) scope L f cd (dW X.env.cells scope.names [])
def vS (X:Cx) (scope:ZD) (N:List K') (f:F') (cd:L') (A:YT) (s:XT) (H:Hp):Cx:=
 {X with A:=A.deeper (vV X scope f cd s.heap.objs.size),N:=N,s₀:=s,H₀:=H,env:=vV X scope f cd s.heap.objs.size,outer:=X.stack,stack:=vV X scope f cd s.heap.objs.size::X.stack,ex:=[],fn:=fun _=>R',calm:=D',pn:=[],xe:=fun _ _=>False}
abbrev Qcx (cap:List (Option Nat)) (σ:St) (v:V):St:=(iy cap σ).set 0 (B' v)
theorem SI {v:V}{tk:Nat} (I:Inv X aa σ H s) (hA:A.frames=X.A.frames) (hh:A.handled=X.A.handled) (ok:eu X.env.scope scope X.N N cap=D')
  (hx:N[0]?=B' x) (hl:scope.names.lookup x=B' .local) (sC:cap[0]?=B' C') (rv:aB v u)
  (hn:h₁.Ns s.heap.objs.size (fun y=>[(x,u)].reverse.lookup y)) (hs:Zu s.heap.objs.size (s.heap.push fo) h₁) :
  Inv (vS X scope N f cd A s H) [] (Qcx cap σ v) H {s with heap:=h₁,toks:=tk}:=by
 have nj:=ok;simp only[eu,UU,VN,ZA] at ok
 obtain⟨⟨⟨⟨bu,bK⟩,_⟩,_⟩,fM⟩:=ok;have cl:=I.QbN nj;have old:∀ b o,s.heap.get? b=B' o->h₁.get? b=B' o:=fun b o e=>hs.extBut b o (UE (Uw e)) (Ut _ e)
 have aS:∀ x c,(dW X.env.cells scope.names []).lookup x=B' c->X.env.cells.lookup x=B' c:=fun x c e=>by
  rcases uZ cl e with q|q
  .simp at q
  .exact q
 have oJ:∀ b:F',b∉(vS X scope N f cd A s H).ex:=fun b z=>X4 (show b∈([]:List F') from z) (by simp)
 have hd:jn (A.deeper (vV X scope f cd s.heap.objs.size)) H:=by
  rcases I.QaW with z|⟨a,cs,z,r⟩
  .exact .inl (hh.trans z)
  .exact .inr ⟨a,cs,hh.trans z,r⟩
 refine⟨⟨I.ok.mod,bu,O,O,Uv _,fun y z c h1 h2=>I.ok.inj y z c (aS y c h1) (aS z c h2),fun y hy=>?_,fun y c hf _=>Qgs hf,hd,Qf4 (hA.trans I.ok.frames),.inr ⟨O,O⟩,fun b z=>X4 z (oJ b),
   I.bs,U5 I.ok.bsz I.sz,fun b _ _=>oJ b,fun b z=>X4 z (oJ b),I.stack,I.Qb4⟩,
  rfl,I.bare,Un.kept old,⟨_,hn,fun i y v' h1 h2 h3=>?_⟩,fun y c e=>?_,I.XU.fresh (Uv _),fun y c e=>I.Zg y c (aS y c e),fun p hp=>X4 (show p∈([]:List (F'×X6)) from hp) (by simp),I.XU.kept old,?_⟩
 .have hy:scope.names.lookup y=B' .cell\/scope.names.lookup y=B' .free:=hy
  rcases hy with hy|hy
  .exact X4 (show(Qai != Qai)=D' from bK _ (QaI hy)) (by decide)
  .exact ZI.mp (vP (.inl (QaI hy)))
 .have h1:N[i]?=B' y:=h1
  by_cases hi:i=0
  .subst hi
   rw[hx] at h1;cases h1
   have aw:0<(iy cap σ).length:=by
    unfold iy;rw[Us];exact(Yi.mp sC).1
   have h2:((iy cap σ).set 0 (B' v))[0]?=B' (B' v'):=h2;rw[Wg aw] at h2;cases h2
   refine⟨u,rv,.inl ⟨hl,?_⟩⟩;show(([(x,u)]:List (K'×L')).lookup x)=B' u;rw[Vt,Qbo]
  .have h2:((iy cap σ).set 0 (B' v))[i]?=B' (B' v'):=h2
   rw[Wp (XW hi)] at h2;have hj:∃ j,cap[i]?=B' (B' j)/\σ[j]?=B' (B' v'):=by
    unfold iy at h2;rw[UJ] at h2;cases e:cap[i]? with
    | none=>rw[e] at h2;cases h2
    | some o=>
     rw[e] at h2;cases o with
     | none=>cases h2
     | some j=>
      refine⟨j,O,?_⟩;have eS:(σ[j]?).join=B' v':=YB h2;cases e2:σ[j]? with
      | none=>rw[e2] at eS;cases eS
      | some o2=>rw[e2] at eS;rw[show o2=B' v' from eS]
   obtain⟨j,hj,hv⟩:=hj;obtain⟨hX,oK⟩:=xA fM hj h1;have jw:(y,Zt)∈scope.names:=QaI oK;have tE:=nj;simp only[eu,UU,VN] at tE
   have h':Qcu (X.env.scope.names.lookup y)=D':=by simpa using tE.1.2 _ jw
   have hk:X.env.scope.names.lookup y=B' .cell\/X.env.scope.names.lookup y=B' .free:=by
    cases e:X.env.scope.names.lookup y with
    | none=>rw[e] at h';cases h'
    | some k=>
     rw[e] at h';cases k<;>first|exact .inl rfl|exact .inr rfl|cases h'
   obtain⟨m,_,L9⟩:=I.loc;obtain⟨u',ru,lk⟩:=L9 j y v' hX hv (hk.elim (fun q=>.inr (.inl q)) fun q=>.inr (.inr q));refine⟨u',ru,.inr ⟨.inr oK,?_⟩⟩;rcases lk with⟨q,_⟩|⟨_,c,hc,o,ho,li⟩
   .have q:X.env.scope.names.lookup y=B' .local:=q
    rcases hk with z|z<;>rw[q] at z<;>cases z
   .obtain⟨c2,jW⟩:=ZI.mp (vP (cells:=X.env.cells) (acc:=[]) (.inl jw))
    have:=aS y c2 jW;rw[hc] at this;cases this
    exact⟨c,jW,o,old c o ho,li⟩
 .obtain⟨w',o,ho,li⟩:=I.cell y c (aS y c e)
  exact⟨w',o,old c o ho,li⟩
 .show((iy cap σ).set 0 (B' v)).length=N.length
  rw[Vo];unfold iy;rw[Us];exact yt fM
theorem Sz {c':F'}{gh:L'}{v:V}{Q:VK} (I:Inv X aa σ H s) (hA:A.frames=X.A.frames) (hh:A.handled=X.A.handled) (sk:A.depth<Qev)
  (ho:s.heap.get? f=B' (yj X scope params body pm c' gh)) (jD:uR H c' P (me X)) (ok:eu X.env.scope scope X.N N cap=D') (hx:N[0]?=B' x) (hl:scope.names.lookup x=B' .local) (sC:cap[0]?=B' C')
  (fK:QbE (Qgj "<lambda>" (me X) params body scope (dW X.env.cells scope.names []) pm (.ref c') gh) ⟨[u],[]⟩=pure [(x,u)]) (zb:scope.isCoroutine=R') (py:scope.isGenerator=R') (rv:aB v u)
  (he:PE (vS X scope N f (.ref c') A s H) body te) (ht:te (Qcx cap σ v) H Q) :
  Y4 (XS X.prog X.w) A (.call (.ref f) ⟨[u],[]⟩) (fun r s'=>∃ u',r=.ok (.ret u')/\CE X.stack X.prog X.w H s Q u' s') s:=by
 have nj:=ok;simp only[eu,UU,VN,ZA] at nj
 obtain⟨⟨⟨⟨bu,bK⟩,_⟩,_⟩,_⟩:=nj;have lim:s.heap.NoLimit:=I.ok.mod.nolimit.keeps I.bk;refine PySem.W.kla_callFunE sk ho O zb py O (jD.rec I.XU) ?_;rw[fK];refine Uu (Xp (fun y hy=>by simpa using bK y hy) (fun y hy=>by rw[XC.mp hy];exact hl) (fun h₁ wP ou=>⟨lim.fresh _ ou,?_⟩) bu);show Y4 _ _ (.expr body (vV X scope f (.ref c') s.heap.objs.size)) _ _;have J:Inv (vS X scope N f (.ref c') A s H) [] (Qcx cap σ v) H {s with heap:=h₁,toks:=s.toks + [(x,u)].length}:=SI I hA hh ok hx hl sC rv wP ou;refine PySem.W.kla_codeExpr (Vg (he [] _ _ H Q J ht) (fun w' s' hq=>?_) fun _ _ z=>z.elim);obtain⟨v',H',J',r',q'⟩:=hq;exact⟨w',O,v',H',J'.os,J'.bare,J'.base,J'.XU,r',q'⟩
end
section
theorem Inv.QdB {o':X6} (I:Inv X (aa++[(kS,o)]) σ H s) (fp:bE X aa H1 kS) (k:∀ b u,b≠kS->s.heap.get? b=B' u->h'.get? b=B' u) (e:h'.get? kS=B' o') (hd:∀ v,o'.data≠.cell v) :
  Inv X (aa++[(kS,o')]) σ H {s with heap:=h',toks:=t'}:=by
 obtain⟨_,f1,f2,f3,f4,f5⟩:=fp;have pk:=I.pin (kS,o) (UG _ (UG _ (XC.mpr O)));have I0:Inv X aa σ H s:=I.QaX fun p hp=>I.pin p (UG _ (UZ _ hp))
 have I1:=I0.turned (t':=t') k pk.2.1 f1 f3 f4 f5;refine I1.QaX fun p hp=>?_
 rcases YK.mp hp with z|z
 .exact I1.pin p (UG _ z)
 .rw[XC.mp z]
  exact⟨e,pk.2.1,f1,f2,hd⟩
def xo (X:Cx) (A:YT) (f:F') (fo:X6) (σ:St) (H1:Hp) (key:V->Int) (xs:List V):Prop:=
 ∀ (x:V) (u:L') (aa:List (F'×X6)) (Hi:Hp) (si:XT),x∈xs->aB x u->Inv X aa σ Hi si->af H1 Hi->si.heap.get? f=B' fo ->
  N' (XS X.prog X.w) A (call (.ref f) [u]) (EP X aa σ fun k H3=>k=.int (key x)/\af Hi H3) (fun _ _=>False) si
variable {P:PySem.Fin->XT->Prop}{xs:List V}{vs:List L'}{e1:Nat}
end
def xr (K:V') (f:F'):Option L':=match K.lookup f with
 | some ⟨_,_,.func fd,_⟩=>B' fd.code
 | _=>C'
theorem Sc {K:V'}{c:F'}{sl:Array (Option L')} (l:K.lookup f=B' ⟨oc,od,.func fd,sl⟩) (h:fd.code=.ref c):xr K f=B' (.ref c):=by
 unfold xr;rw[l];exact QaC B' h
structure CK (K:V') (f P:F'):Prop where
 ex:∃ c,xr K f=B' (.ref c)/\QaK K c P=D'
 no:K.lookup P=C'
structure BA (K:V') (mg:K'->Option L') (x:K') (P:F'):Prop where
 ex:∃ f,mg x=B' (.ref f)/\CK K f P
section
variable {K:V'}
theorem eM.okL {TP:F'}{k:Nat} (F:eM K x qual st f fd) (L:CK K f TP) (S:aX N ps (aF st)) (len:∀ vs H Q E,sp vs H Q E->vs.length=ps.length)
  (dv:∀ (c:F') (A:YT) (outer:List Za) (s:XT) (H:Hp) (vs:List V) (Q:VK) (E:XK),QaK K c TP=D'->bn k (A.deeper (Qar qual (aF st) s.heap.objs.size f (.ref c)))->sp vs H Q E ->
   ∃ t,Zo (jQ Yj P w K mg base N qual (aF st) f (.ref c) A outer s H E).nox (kE st) t/\t {nx:=fun _ H'=>Q .X1 H',rt:=Q} (start N vs) H):cy P w K mg base Yj (k+1) f fd ps sp:=by
 obtain⟨oc,od,dV,kV,bO,pm,an,aD,ct,dM,rfl,lk,gg⟩:=F.ex;obtain⟨c,e1,e2⟩:=L.ex;have e:aD=.ref c:=by
  unfold xr at e1;rw[lk] at e1;exact YB e1
 subst e;refine Ci lk gg S len fun A outer s H vs Q E hr i9=>?_
 obtain⟨t,h,q⟩:=dv c A outer s H vs Q E e2 hr i9;exact⟨t,h.nox,q⟩
theorem Def.QiW {k:Nat}{TP:F'} (D:Def K mg x st ps aN) (L:BA K mg x TP) (h:∀ f fd,eM K x x st f fd->CK K f TP->cy P w K mg base CX k f fd ps sp):YD P w K mg base CX k x ps aN sp:=by
 obtain⟨f,fd,ds,F,e,r⟩:=D.ex;obtain⟨f',e',l⟩:=L.ex;rw[e] at e';cases e'
 exact⟨f,fd,ds,h f fd F l,e,r⟩
end
abbrev Tab:=F'×YA×K'
def vD (ts:List Tab) (H:Hp):Prop:=(∀ t∈ts,H t.1=B' (.Y1 t.2.1 t.2.2))/\∀ b u,H b=B' u->(∃ o xs,u=.X7 o (.lst xs))\/∃ t∈ts,b=t.1/\u=.Y1 t.2.1 t.2.2
def qe:List Tab->Hp->Hp
 | [],H=>H
 | t::ts,H=>upd (qe ts H) t.1 (.Y1 t.2.1 t.2.2)
theorem BI:∀ {ts:List Tab}{H:Hp},(ts.map (·.1)).Nodup->∀ t∈ts,qe ts H t.1=B' (.Y1 t.2.1 t.2.2)
 | [],_,_,t,h=>by simp at h
 | q::ts,H,nd,t,h=>by
  rcases U1.mp h with z|z
  .rw[z];exact ai
  .have n:t.1≠q.1:=fun y=>(WN.mp (show(q.1::ts.map (·.1)).Nodup from nd)).1 (YL.mpr ⟨t,z,y⟩)
   show upd _ _ _ _=_;rw[ak n];exact BI (WN.mp nd).2 t z
theorem C5:∀ {ts:List Tab}{H:Hp}{b:F'}{u:HO},qe ts H b=B' u->H b=B' u\/∃ t∈ts,b=t.1/\u=.Y1 t.2.1 t.2.2
 | [],_,_,_,h=>.inl h
 | q::ts,H,b,u,h=>by
  have h:upd (qe ts H) q.1 (.Y1 q.2.1 q.2.2) b=B' u:=h;by_cases z:b=q.1
  .rw[z,ai] at h
   exact .inr ⟨q,UQ,z,(YB h).symm⟩
  .rw[ak z] at h
   rcases C5 h with y|⟨t,h1,h2⟩
   .exact .inl y
   .exact .inr ⟨t,UI _ h1,h2⟩
theorem JE:∀ {ts:List Tab}{H:Hp}{b:F'},(∀ t∈ts,b≠t.1)->qe ts H b=H b
 | [],_,_,_=>rfl
 | q::ts,H,b,h=>by
  show upd _ _ _ _=_;rw[ak (h q UQ)];exact JE fun t ht=>h t (UI _ ht)
theorem NQ {K:V'}{mb:K'->Option L'}{k:Nat}{fa:F'}{s₁:XT}{vs:List L'}{ts:List Tab}
  (KX:K.In s₁.heap) (wP:s₁.heap.Ns YW mg) (hb:s₁.heap.Ns Qbz mb) (JS:∀ x:K',x≠"__name__"->mb x=Zc x) (AD:s₁.heap.NoLimit)
  (zX:∃ bm ob,mg "__builtins__"=B' (.ref bm)/\bm≠Qbz/\s₁.heap.get? bm=B' ob/\ob.cls=.type "module"/\ob.dict=B' Qbz/\ob.data=.plain) (hg:s₁.gens=#[])
  (ha:s₁.heap.get? a=B' {cls:=.type "list",data:=.seq vs.toArray}) (hi:Qcp vs ns) (hl:ns.length<=XX) (hr:bn k QbH)
  (nd:(ts.map (·.1)).Nodup) (sy:∀ t∈ts,s₁.heap.get? t.1=B' (Qc4 #[])/\(∃ c,QaK K c t.1=D')/\K.lookup t.1=C')
  (F:∀ base:Yg,K.In base->base.Ns YW mg->cy P w K mg base CX k fa fd [x] sp) (fK:∀ (s:XT) (u:L'),QbJ s fd ⟨[u],[]⟩ [(x,u)])
  (i9:∀ H:Hp,vD ts H->M' K H a (ns.map V.int)->sp [.ref a] H (fun v _=>v=.bl D') fun _ _ _=>False)
  (Mw:∀ H e s',CX [] H s₁ (fun _ _ _=>False) e s'->False) :
  Y4 (XS P w) QbH (.call (.ref fa) ⟨[.ref a],[]⟩) (fun r s'=>r=.ok (.ret (.bool D'))/\OldK s₁.heap s'.heap/\s'.os=s₁.os/\QaD s'.gens) s₁:=by
 have rv:=Je hi;have Bm:=hi.length;have tS:∀ H:Hp,(∀ t∈ts,H t.1=B' (.Y1 t.2.1 t.2.2))->(∀ b u,H b=B' u->(b=a/\K.lookup a=C'/\u=.X7 {cls:=.type "list",data:=.seq vs.toArray} (.lst (ns.map V.int)))\/∃ t∈ts,b=t.1/\u=.Y1 t.2.1 t.2.2)->M' K H a (ns.map V.int) ->
   Y4 (XS P w) QbH (.call (.ref fa) ⟨[.ref a],[]⟩) (fun r s'=>r=.ok (.ret (.bool D'))/\OldK s₁.heap s'.heap/\s'.os=s₁.os/\QaD s'.gens) s₁:=by
  intro H h1 h2 hS;have hO:vD ts H:=⟨h1,fun b u q=>(h2 b u q).elim (fun z=>.inl ⟨_,_,z.2.2⟩) .inr⟩;have XU:Yz P w H s₁.heap:=fun b u q=>by
   rcases h2 b u q with⟨rfl,_,rfl⟩|⟨t,ht,rfl,rfl⟩
   .exact⟨ha,by rw[Us];exact hl,vs,_,rv,ha⟩
   .exact .inl (sy t ht).1
  have free:∀ {b:F'}{o:X6},s₁.heap.get? b=B' o->(∀ xs n,o.data≠.seq xs n)->(∀ xs,o.data≠.fields xs)->H b=C':=fun {b o} e n1 n2=>by
   cases q:H b with
   | none=>rfl
   | some u=>
    rcases h2 b u q with⟨rfl,_,_⟩|⟨t,ht,rfl,_⟩
    .rw[ha] at e;cases e
     exact(n1 _ _ O).elim
    .rw[(sy t ht).1] at e;cases e
     exact(n2 _ O).elim
  have wZ:∀ {b:F'}{m:K'->Option L'},s₁.heap.Ns b m->(nY s₁.heap H).Ns b m:=fun {b m} ⟨o,es,ep,e,d,r⟩=>⟨o,es,ep,CW e (free e (by rw[d];intro _ _ z;cases z) (by rw[d];intro _ z;cases z)),d,r⟩
  have Di:K.In (nY s₁.heap H):=fun b o e=>CW (KX b o e) (by
   cases q:H b with
   | none=>rfl
   | some u=>
    rcases h2 b u q with⟨rfl,z,_⟩|⟨t,ht,rfl,_⟩
    .rw[z] at e;cases e
    .rw[(sy t ht).2.2] at e;cases e)
  have hM:Mod K mg (nY s₁.heap H):=⟨Di,wZ wP,⟨mb,wZ hb,JS⟩,let ⟨mc,y1,y2⟩:=AD;⟨mc,wZ y1,y2⟩,by
   obtain⟨bm,ob,a1,a2,a3,a4,a5,a6⟩:=zX;exact⟨bm,ob,a1,a2,CW a3 (free a3 (by rw[a6];intro _ _ z;cases z) (by rw[a6];intro _ z;cases z)),a4,a5,a6⟩⟩
  have e0:ql P w K mg (nY s₁.heap H) QbH [] s₁ H:=⟨O,hM,fun b o e=>Ot e,Wy (OD _ _),trivial,fun b hb=>X4 (show b∈([]:List F') from hb) (by simp),XU,.of_eq hg,.inl rfl⟩;refine QaP ((F _ Di (wZ wP)).run QbH [] s₁ H ⟨[.ref a],[]⟩ [.ref a] [.ref a] _ _ hr e0 (fK s₁ (.ref a)) (.cons O .nil) (i9 H hO hS)) fun r s' h=>?_
  cases r with
  | error e=>exact(Mw H e s' h).elim
  | ok fl=>
   cases fl with
   | next=>exact Zm h
   | brk=>exact Zm h
   | cont=>exact Zm h
   | ret u=>
    obtain⟨v,H',os,bare,un,tz,r',q⟩:=h;have q':v=.bl D':=q;subst q';obtain rfl:u=Qaj D':=r';have no:∀ b:F',b∉YG []:=fun b z=>X4 (show b∈([]:List F') from z) (by simp)
    refine⟨O,⟨fun b o e=>?_,fun b o e=>un.there b o e (by simp)⟩,os,bare⟩;cases q:H b with
    | none=>exact .inl (un.keep b o e q (no b) (by simp))
    | some u=>
     rcases h2 b u q with⟨rfl,_,rfl⟩|⟨t,ht,rfl,rfl⟩
     .obtain⟨y1,_⟩:=XU _ _ q
      obtain⟨y2,_⟩:=tz _ _ (un.ZF _ _ _ q);rw[e] at y1;cases y1
      exact .inl y2
     .obtain⟨g1,⟨c,g2⟩,_⟩:=sy t ht
      rw[e] at g1;cases g1
      rcases tz _ _ (un.ZZ _ _ _ q) with y|⟨c',oc,xs,tt,_,_,_,y⟩
      .exact .inl y
      .exact .inr (.inl ⟨((Qf3 KX g2).tab e).isCodeTable,O,#[],#[Yk t.2.1.line,Yk t.2.1.col,.ref c'],O,y⟩)
 have apart:∀ t∈ts,a≠t.1:=fun t ht z=>by
  have y:=(sy t ht).1;rw[<- z,ha] at y;cases y
 cases hk:K.lookup a with
 | some o=>
  have e:=KX a o hk;rw[ha] at e;cases e
  refine tS (qe ts fun _=>C') (BI nd) (fun b u q=>.inr ((C5 q).elim (fun z=>by cases z) id)) (.inr ⟨_,vs.toArray,_,hk,rfl,rfl,rfl,by rw[UK,Bm];exact hl,by simpa using rv⟩)
 | none=>
  refine tS (qe ts (upd (fun _=>C') a (.X7 {cls:=.type "list",data:=.seq vs.toArray} (.lst (ns.map V.int))))) (BI nd) (fun b u q=>?_) (.inl (.inr ⟨_,by rw[JE apart];exact ai⟩));rcases C5 q with z|z
  .by_cases y:b=a
   .rw[y,ai] at z
    exact .inl ⟨y,hk,(YB z).symm⟩
   .rw[ak y] at z;cases z
  .exact .inr z
theorem zmy {l:Qdo}{k:Nat}{d7:List K'}{XP:(K'->Option L')->Yg->Prop}{YP:YF->Yg->Prop}{d:DefRec}{K:Params->V'}{TS:List F'}
  (hn:l.most=B' n) (jV:n<=XX) (m8:d.params.defaults=[]) (hr:bn k QbH)
  (hY:∀ (w:YF) (h:Yg),YP w h->(K w.params).In h/\∀ P∈TS,h.get? P=B' (Qc4 #[]))
  (F:∀ (w:YF) (mg:K'->Option L') (fa:F') (h:Yg),(K w.params).In h->h.Ns YW mg->mg d.name=B' (.ref fa) ->
   ∃ (fd:Z8) (ts:List Tab) (sp:Sp),(∀ (s:XT) (u:L'),QbJ s fd ⟨[u],[]⟩ [(x,u)])/\(ts.map (·.1)).Nodup/\(∀ t∈ts,t.1∈TS/\(∃ c,QaK (K w.params) c t.1=D')/\(K w.params).lookup t.1=C') /\
    (∀ (H:Hp) (a:F') (ns:List Int),ns.length<=n->vD ts H->M' (K w.params) H a (ns.map V.int)->sp [.ref a] H (fun v _=>v=.bl D') fun _ _ _=>False) /\
    ∀ base:Yg,(K w.params).In base->base.Ns YW mg->cy l.prog w (K w.params) mg base Yj k fa fd [x] sp) :
  PySem.W.WalkO q d7 XP YP l.row.toRowW d [] (fun f vs=>Qey f vs):=by
 refine Att.zhz hn m8 fun w s₀ s₁ mg mb fa o pm cd bO a vs ns G Y ho hd gg tV pH jI aw hg=>?_
 obtain⟨KX,tb⟩:=hY w _ Y;obtain⟨fd,ts,sp,hb,nd,ht,i9,hF⟩:=F w mg fa _ KX G.T.g tV;exact NQ KX G.T.g G.T.b G.T.builtins G.T.nolimit G.T.bmain hg pH jI (U5 aw jV) hr nd (fun t m=>⟨tb _ (ht t m).1,(ht t m).2⟩) hF hb (fun H hO hS=>i9 H a ns aw hO hS) fun H e s' z=>z
section
variable {a b:X'}{aZ:List X'}{ta tb:TE}
end
theorem vJ {i:Int} (h1:-(2 ^ 62)<=i) (h2:i<=2 ^ 62):QfA i=D':=by
 unfold QfA;rw[UW (by lia),UW (by lia)];rfl
def l9 (key:V->Int) (xs:List V) (m:V):Prop:=∃ i:Nat,xs[i]?=B' m/\(∀ (j:Nat) x,xs[j]?=B' x->key m<=key x)/\∀ (j:Nat) x,j<i->xs[j]?=B' x->key m<key x
section
theorem bE.more {b:F'} (fp:bE X aa H a) (ne:b≠a):bE X (aa++[(b,o)]) H a:=by
 obtain⟨g0,g1,g2,g3,g4,g5⟩:=fp;refine⟨g0,g1,g2,g3,g4,fun p hp=>?_⟩;rcases YK.mp hp with z|z
 .exact g5 p (UZ _ z)
 .rcases YK.mp z with y|y
  .exact g5 p (UG _ y)
  .rw[XC.mp y]
   exact ne
theorem Inv.swap {p q:F'×X6} (I:Inv X ((aa++[p])++[q]) σ H s):Inv X ((aa++[q])++[p]) σ H s:=I.QaX fun r hr=>I.pin r (UG _ (by
  simp only[YK,XC] at hr ⊢
  rcases hr with(h|h)|h
  .exact .inl (.inl h)
  .exact .inr h
  .exact .inl (.inr h)))
theorem Inv.less {p:F'×X6} (I:Inv X (aa++[p]) σ H s):Inv X aa σ H s:=I.QaX fun r hr=>I.pin r (UG _ (UZ _ hr))
variable {es:Array DictEntry}
theorem JL (I:Inv X aa σ H s) (hd:H d=B' (.X7 o (.dK kvs))) (aA:o.data=.dict es ep):∃ vs,KV kvs vs/\s.heap.DictAt (bV X.prog X.w) d vs ep:=by
 obtain⟨ho,tf⟩:=I.XU _ _ hd;obtain⟨z,lB,vs,rel,⟨o',Fs,El,jX,lT,c9,r2⟩⟩:=tf;rw[ho] at jX;cases jX
 rw[aA] at c9;cases c9
 exact⟨vs,rel,⟨o,es,ho,lT,aA,r2⟩⟩
theorem Gv {k:Key}{x:V} (im:bE X aa H1 it) (I:Inv X (aa++[(it,oI)]) σ H s) (hd:H d=B' (.X7 o (.dK kvs))) (aA:o.data=.dict es ep) (hit:s.heap.IsKeyIter it d j kvs.length ep) (hx:kvs[j]?=B' (k,x))
  (h:∀ u h' kQ,aB (kV k) u->Inv X (aa++[(it,kQ)]) σ H {s with heap:=h'}->h'.IsKeyIter it d (j+1) kvs.length ep->h'.get? it=B' kQ->Q (B' u) {s with heap:=h'}):N' (XS X.prog X.w) A (Yo (.ref it)) Q E s:=by
 obtain⟨vs,rel,iK⟩:=JL I hd aA;obtain⟨u,hu,ru⟩:=rel.get hx;have aw:kvs.length=vs.length:=rel.length;rw[aw] at hit;refine Xi hit iK hu fun v h' cu bP bh=>?_
 obtain⟨oi,ei,ci,di⟩:=id bP;have I1:=I.QdB (t':=s.toks) (h':=h') im (fun b o hb e=>bh.extBut b o hb e) ei (by intro v z;rw[di] at z;cases z);exact h v h' oi (Cy cu) I1 (by rw[aw];exact bP) ei
theorem RH (hh:A.handled=X.A.handled) (im:bE X aa H1 it) (I:Inv X (aa++[(it,oI)]) σ H s) (hd:H d=B' (.X7 o (.dK kvs))) (aA:o.data=.dict es ep) (hit:s.heap.IsKeyIter it d kvs.length kvs.length ep)
  (h:∀ h',Inv X aa σ H {s with heap:=h'}->Q C' {s with heap:=h'}):N' (XS X.prog X.w) A (Yo (.ref it)) Q E s:=by
 obtain⟨vs,rel,iK⟩:=JL I hd aA;have aw:kvs.length=vs.length:=rel.length;obtain⟨f0,f1,f2,f3,f4,f5⟩:=im;have hn:=(I.pin (it,oI) (UG _ (UG _ (XC.mpr O)))).2.1;rw[aw] at hit;have I0:=I.less;refine FR (by have:=I.hd;unfold Hd at this ⊢;rw[hh];exact this) hit iK (WH (Uv _)) fun h' eb=>h h' (I0.turned (t':=s.toks) (fun b o hb e=>eb b o hb e) hn f1 f3 f4 f5)
def Ys (kvs:List (Key×V)):List V:=kvs.map fun p=>kV p.1
def Cp (key:V->Int) (xs:List V) (i n:Nat):Prop:=∀ (j:Nat) x m,j<n->xs[j]?=B' x->xs[i]?=B' m->key m<=key x/\(j<i->key m<key x)
theorem Rw (hh:A.handled=X.A.handled) (kr:xo X A.in1 f fo σ H1 key (Ys kvs)) (hf:(f,fo)∈aa) (hd:H1 d=B' (.X7 o (.dK kvs))) (aA:o.data=.dict es ep) (im:bE X aa H1 it) (j9:bE X aa H1 S) (ne:S≠it)
  (hR:∀ i m v H' s',(Ys kvs)[i]?=B' m->aB m v->Cp key (Ys kvs) i kvs.length->Inv X aa σ H' s'->af H1 H'->R (.ok (.ret v)) s') :
  ∀ (r j i:Nat) (s:XT) (H:Hp) (m:V) (vb:L') (tb:Zf) (c:Nat) (oI:X6),kvs.length-(j+1)=r->j+1<=kvs.length->Inv X ((aa++[(S,ZN "list" #[vb,.int (key m) tb] c)])++[(it,oI)]) σ H s->af H1 H->s.heap.IsKeyIter it d (j+1) kvs.length ep ->
   (Ys kvs)[i]?=B' m->aB m vb->i<=j->Cp key (Ys kvs) i (j+1)->Y4 (XS X.prog X.w) A (.builtin "min.loop" ⟨[.ref it,.ref f,.ref S],[]⟩) R s:=by
 have d5:(toString "min"++toString ".loop":String)="min.loop":=by decide
 have Uk:(Ys kvs).length=kvs.length:=Us _;have Lf:A.in1.handled=X.A.handled:=hh;intro r
 induction r with
 | zero=>
  intro j i s H m vb tb c oI hr hj I sm hit hm rm EC fw;have Yp:j+1=kvs.length:=by lia
  rw[Yp] at hit fw;have nS:=I.pin (S,ZN "list" #[vb,.int (key m) tb] c) (by simp);refine ZX Qd2 ?_;rw[Qad Qbj _];show N' _ A.in1 (Qay (.ref S) >>= _) _ _ _;refine ow (Vf nS.1 O ?_);show N' _ A.in1 (tryCatch (Yo (.ref it)) _ >>= _) _ _ _;refine ow (Vw (RH Lf (im.more ne) I (sm _ _ hd) aA hit fun h' I1=>?_));have FI:=I1.pin (S,ZN "list" #[vb,.int (key m) tb] c) (by simp);have s1:=ZW h' S (Zd fun _=>(#[]:Array L'));show N' _ A.in1 (Qax S (fun _=>#[]) >>= _) _ _ _;refine ow ?_;refine Vx FI.1 O (ow (VL (Uu ?_)));obtain⟨f0,f1,f2,f3,f4,f5⟩:=j9;exact hR i m vb H _ hm rm fw (I1.less.turned (t':=s.toks) (fun b o z q=>(s1.2 b z).trans q) FI.2.1 f1 f3 f4 f5) sm
 | succ r ih=>
  intro j i s H m vb tb c oI hr hj I sm hit hm rm EC fw;have bp:j+1<kvs.length:=by lia
  have nS:=I.pin (S,ZN "list" #[vb,.int (key m) tb] c) (by simp);refine ZX Qd2 ?_;rw[Qad Qbj _];show N' _ A.in1 (Qay (.ref S) >>= _) _ _ _;refine ow (Vf nS.1 O ?_);show N' _ A.in1 (tryCatch (Yo (.ref it)) _ >>= _) _ _ _;obtain⟨⟨k,y⟩,hx⟩:∃ p,kvs[j+1]?=B' p:=⟨kvs[j+1],by simp[bp]⟩;have mY:(Ys kvs)[j+1]?=B' (kV k):=by unfold Ys;rw[UJ,hx];rfl
  refine ow (Vw (Gv (im.more ne) I (sm _ _ hd) aA hit hx fun v h' kQ rv I1 bP pc=>?_));show N' _ A.in1 (tryCatch (Z9 [v] (call (.ref f) [v])) _ >>= _) _ _ _;have pf:=I1.pin (f,fo) (UG _ (UZ _ (UZ _ hf)));refine ow (Vw (U3 (Vg (kr (kV k) v _ H _ (UF mY) rv I1 sm pf.1) (fun kv s2 hq=>?_) fun _ _ z=>z.elim)));obtain⟨kk,H3,I3,rk,rfl,wE⟩:=hq;obtain⟨t2,rfl⟩:∃ t,kv=Zn (key (kV k)) t:=rk;have tN:=I3.pin (S,ZN "list" #[vb,.int (key m) tb] c) (by simp);have yy:=I3.pin (it,kQ) (by simp);have uk:s2.heap.IsKeyIter it d (j+1+1) kvs.length ep:=by
   obtain⟨o2,e2,c2,d2⟩:=bP;rw[pc] at e2;cases e2
   exact⟨_,yy.1,c2,d2⟩
  show N' _ A.in1 (tryCatch (Z9 [v,.int (key (kV k)) t2] (Qck .Lt (.int (key (kV k)) t2) (.int (key m) tb) >>= _)) _ >>= _) _ _ _;refine ow (Vw (U3 (ow (Qep (prog:=X.prog) (w:=X.w) (A:=A.in1) (P:=fun i v=>∃ t,v=.int (if i=0 then key m else key (kV k)) t) (fun i=>if i=0 then key m else key (kV k)) (fun i v h=>h) 1 0 _ _ _ _ _ ⟨t2,O⟩ ⟨tb,O⟩ ?_))));refine ow (U3 (Vv ?_));refine ow (VL (Uu ?_));show N' _ A.in1 (if decide (key (kV k)<key m)=D' then _ else _) _ _ _;by_cases hb:key (kV k)<key m
  .have s1:=ZW s2.heap S (Zd fun _=>#[v,.int (key (kV k)) t2])
   rw[XR (UW hb)];refine ow ?_;refine Vx tN.1 O (ow (VL ?_));rw[d5];have I4:=I3.swap.QdB (t':=s2.toks) (j9.more ne.symm) (fun b o z q=>(s1.2 b z).trans q) (Qhg tN.1 fun _=>#[v,.int (key (kV k)) t2]) (by intro v z;cases z);refine Uu ⟨Zy Qbj _,ih (j+1) (j+1) _ H3 (kV k) v t2 _ kQ (by lia) bp I4.swap (sm.trans wE) ?_ mY rv (Uv _) ?_⟩
   .obtain⟨o2,e2,c2,d2⟩:=uk
    exact⟨o2,(s1.2 it (XW ne)).trans e2,c2,d2⟩
   .intro j' x m' h1 h2 h3
    rw[mY] at h3;cases h3
    by_cases e:j'=j+1
    .subst e
     rw[mY] at h2;cases h2
     exact⟨VA _,fun z=>X4 z (UT _)⟩
    .have q:=(fw j' x m (by lia) h2 hm).1
     exact⟨by lia,fun _=>by lia⟩
  .rw[W' (by rw[Ve hb];decide)]
   refine ow (VL ?_);rw[d5];refine Uu ⟨Zy Qbj _,ih (j+1) i _ H3 m vb tb c kQ (by lia) bp I3 (sm.trans wE) uk hm rm (by lia) ?_⟩;intro j' x m' h1 h2 h3;by_cases e:j'=j+1
   .subst e
    rw[mY] at h2;rw[hm] at h3;cases h2
    cases h3
    exact⟨by lia,fun z=>by lia⟩
   .exact fw j' x m' (by lia) h2 h3
theorem R7 (hh:A.handled=X.A.handled) (kr:xo X A.in1 f fo σ H1 key (Ys kvs)) (hf:(f,fo)∈aa) (hd:H1 d=B' (.X7 o (.dK kvs))) (aA:o.data=.dict es ep) (im:bE X aa H1 it) (j9:bE X aa H1 S) (ne:S≠it) (hn:0<kvs.length)
  (I:Inv X ((aa++[(S,ZN "list" #[] c)])++[(it,oI)]) σ H s) (sm:af H1 H) (hit:s.heap.IsKeyIter it d 0 kvs.length ep)
  (hR:∀ i m v H' s',(Ys kvs)[i]?=B' m->aB m v->Cp key (Ys kvs) i kvs.length->Inv X aa σ H' s'->af H1 H'->R (.ok (.ret v)) s'):Y4 (XS X.prog X.w) A (.builtin "min.loop" ⟨[.ref it,.ref f,.ref S],[]⟩) R s:=by
 have d5:(toString "min"++toString ".loop":String)="min.loop":=by decide
 have nS:=I.pin (S,ZN "list" #[] c) (by simp);refine ZX Qd2 ?_;rw[Qad Qbj _];show N' _ A.in1 (Qay (.ref S) >>= _) _ _ _;refine ow (Vf nS.1 O ?_);show N' _ A.in1 (tryCatch (Yo (.ref it)) _ >>= _) _ _ _;obtain⟨⟨k,y⟩,hx⟩:∃ p,kvs[0]?=B' p:=⟨kvs[0],by simp[hn]⟩;have mY:(Ys kvs)[0]?=B' (kV k):=by unfold Ys;rw[UJ,hx];rfl
 refine ow (Vw (Gv (im.more ne) I (sm _ _ hd) aA hit hx fun v h' kQ rv I1 bP pc=>?_));show N' _ A.in1 (tryCatch (Z9 [v] (call (.ref f) [v])) _ >>= _) _ _ _;have pf:=I1.pin (f,fo) (UG _ (UZ _ (UZ _ hf)));refine ow (Vw (U3 (Vg (kr (kV k) v _ H _ (UF mY) rv I1 sm pf.1) (fun kv s2 hq=>?_) fun _ _ z=>z.elim)));obtain⟨kk,H3,I3,rk,rfl,wE⟩:=hq;obtain⟨t2,rfl⟩:∃ t,kv=Zn (key (kV k)) t:=rk;have tN:=I3.pin (S,ZN "list" #[] c) (by simp);have yy:=I3.pin (it,kQ) (by simp);have s1:=ZW s2.heap S (Zd fun _=>#[v,.int (key (kV k)) t2]);show N' _ A.in1 (Qax S (fun _=>#[v,.int (key (kV k)) t2]) >>= _) _ _ _;refine ow (Vx tN.1 O ?_);rw[d5];have I4:=I3.swap.QdB (t':=s2.toks) (j9.more ne.symm) (fun b o z q=>(s1.2 b z).trans q) (Qhg tN.1 fun _=>#[v,.int (key (kV k)) t2]) (by intro v z;cases z);refine Uu ⟨Zy Qbj _,Rw hh kr hf hd aA im j9 ne hR _ 0 0 _ H3 (kV k) v t2 _ kQ O hn I4.swap (sm.trans wE) ?_ mY rv (Uv _) ?_⟩
 .obtain⟨o2,e2,c2,d2⟩:=bP
  rw[pc] at e2;cases e2
  exact⟨_,(s1.2 it (XW ne)).trans yy.1,c2,d2⟩
 .intro j' x m' h1 h2 h3
  obtain rfl:j'=0:=by lia
  rw[h2] at h3;cases h3
  exact⟨VA _,fun z=>X4 z (UT _)⟩
theorem QJ {Q:L'->XT->Prop} (hd:H d=B' (.dK kvs)) (hn:0<kvs.length) (hf:(f,fo)∈aa) (I:Inv X aa σ H s)
  (kr:∀ o,xo X X.A.in1 f fo σ (upd H d (.X7 o (.dK kvs))) key (Ys kvs))
  (h:∀ m v H' s',l9 key (Ys kvs) m->aB m v->Inv X aa σ H' s'->af H H'->Q v s') :
  N' (XS X.prog X.w) X.A (call (.builtin "min") [.ref d] [(Y0 "key",.ref f)]) Q E s:=by
 obtain⟨z,lB,vs,rel,dd⟩:=kK I.XU hd;obtain⟨o,ig,ep,ho,hx,aA,r⟩:=id dd;have iK:s.heap.DictAt (bV X.prog X.w) d vs ep:=⟨o,ig,ho,hx,aA,r⟩;have nf:=I.Qe5 hd;have d5:(toString "min"++toString ".loop":String)="min.loop":=by decide
 refine kmk_tree PySem.F.kind_min PySem.F.plain_min PySem.F.entry_min (kmk_min_key _ _) ?_;refine(show N' _ _ (QcN "min" ["key","default"] 0 ⟨[],[(Y0 "key",X2 f)]⟩ >>= _) _ _ _ from ow (VG (show QcN "min" ["key","default"] 0 ⟨[],[(Y0 "key",X2 f)]⟩=pure [B' (X2 f),C'] from rfl) ?_));refine ow (Uu ?_);refine ow (XJ lB iK ?_);refine ow (wpAny_newList ?_ (VJ _));rw[d5];refine Uu ⟨Zy Qbj _,?_⟩;have hz:(s.heap.push {cls:=.type "dict_keyiterator",data:=.fields #[.ref d,.int 0 0,.int vs.length 0,.int ep 0]}).objs.size=s.heap.objs.size+1:=UY ..;have nd:∀ b,s.heap.objs.size<=b->upd H d (.X7 o (.dK kvs)) b=C':=fun b hb=>by
  rw[ak (XW (UE (UN (Uw ho) hb)))];exact I.XU.fresh hb
 have If:=I.freeze hd ho;have im:bE X aa (upd H d (.X7 o (.dK kvs))) s.heap.objs.size:=If.ZQ (Uv _) (nd _ (Uv _));have j9:bE X aa (upd H d (.X7 o (.dK kvs))) (s.heap.objs.size+1):=If.ZQ (Vm _) (nd _ (Vm _));rw[hz];have ne:s.heap.objs.size+1≠s.heap.objs.size:=Nat.succ_ne_self _;have I2:=If.kept (t':=s.toks) (h':=(s.heap.push {cls:=.type "dict_keyiterator",data:=.fields #[.ref d,.int 0 0,.int vs.length 0,.int ep 0]}).push (ZN "list" #[] 0)) fun b o e=>Ut _ (Ut _ e)
 have oS:((s.heap.push {cls:=.type "dict_keyiterator",data:=.fields #[.ref d,.int 0 0,.int vs.length 0,.int ep 0]}).push (ZN "list" #[] 0)).get? (s.heap.objs.size+1)=B' (ZN "list" #[] 0):=by
  rw[<- hz];exact UA _ rfl
 have oI:((s.heap.push {cls:=.type "dict_keyiterator",data:=.fields #[.ref d,.int 0 0,.int vs.length 0,.int ep 0]}).push (ZN "list" #[] 0)).get? s.heap.objs.size=B' {cls:=.type "dict_keyiterator",data:=.fields #[.ref d,.int 0 0,.int vs.length 0,.int ep 0]}:=Ut _ (UA _ O);refine R7 (S:=s.heap.objs.size+1) (it:=s.heap.objs.size) (c:=0) (oI:={cls:=.type "dict_keyiterator",data:=.fields #[.ref d,.int 0 0,.int vs.length 0,.int ep 0]}) O (kr o) hf ai aA im j9 ne hn (I2.QaX fun p hp=>?_) (af.refl _) ?_ fun i m v H' s' hm rm fw I' sm=>?_
 .rcases YK.mp hp with z|z
  .rcases YK.mp z with y|y
   .exact I2.pin p (UG _ y)
   .rw[XC.mp y]
    exact⟨oS,j9.1,j9.2.1,j9.2.2.1,by intro v z;cases z⟩
  .rw[XC.mp z]
   exact⟨oI,im.1,im.2.1,im.2.2.1,by intro v z;cases z⟩
 .rw[rel.length]
  exact⟨_,oI,O,O⟩
 .have e':=sm d _ ai
  refine h m v _ s' ⟨i,hm,fun j x hx=>(fw j x m (by have:=(Yi.mp hx).1;unfold Ys at this;rw[Us] at this;exact this) hx hm).1,fun j x hj hx=>(fw j x m (by have:=(Yi.mp hx).1;unfold Ys at this;rw[Us] at this;exact this) hx hm).2 hj⟩ rm (I'.Qe4 nf e') fun b u q=>?_
  by_cases c:b=d
  .subst c
   rw[hd] at q;cases q
   exact ai
  .rw[ak c]
   exact sm b u (by rw[ak c];exact q)
end
def QiX (P:F') (gP:YA) (qual:K') (cap:List (Option Nat)) (ta:TA) (te:TE):TE:=fun σ H Q=>ta σ H fun us H1=>∃ (d:F') (kvs:List (Key×V)) (key:V->Int),us=[.ref d]/\H1 d=B' (.dK kvs)/\0<kvs.length/\H1 P=B' (.Y1 gP qual) /\
 (∀ x∈Ys kvs,∀ o H2,af (upd H1 d (.X7 o (.dK kvs))) H2->te (Qcx cap σ x) H2 fun k H3=>k=.int (key x)/\af H2 H3)/\∀ m H',af H1 H'->l9 key (Ys kvs) m->Q m H'
theorem Sw {a:X'}{p bQ gP:YA}{c P:F'}{k:Nat} (hg:Gl X "min") (hm:X.mg "min"=C') (hr:bn k X.A) (ha:PA X [a] ta)
  (iu:X.env.code=.ref c) (hc:QaK X.K c P=D') (ok:eu X.env.scope scope X.N N cap=D')
  (he:∀ f c' s H,PE (vS X scope N f (.ref c') X.A.in1 s H) body te)
  (hx:N[0]?=B' x:=by rfl) (hl:scope.names.lookup x=B' .local:=by rfl) (sC:cap[0]?=B' C':=by rfl)
  (zb:scope.isCoroutine=R':=by rfl) (py:scope.isGenerator=R':=by rfl)
  (oM:defaultsOf params X.env=([],[]):=by rfl)
  (fK:∀ pm c' gh u,QbE (Qgj "<lambda>" (me X) params body scope (dW X.env.cells scope.names []) pm (.ref c') gh) ⟨[u],[]⟩=pure [(x,u)]:=by intro _ _ _ _;rfl)
  (hs:Yy pos (Yb [a] X.env)=(R',X9 a X.env)::Yy pos (Yb [] X.env):=by rfl) (hp:(Yy pos (Yb [a] X.env)).any (·.1)=R':=by rfl) (t8:(ZC pos (Zz [⟨B' "key",.Lambda params body scope gP,bQ⟩] X.env)).all (·.1.isSome)=D':=by rfl)
  (tW:(ZC pos (Zz [⟨B' "key",.Lambda params body scope gP,bQ⟩] X.env)).any (·.1.isNone)=R':=by rfl)
  (n9:∀ u:L',((ZC pos (Zz [⟨B' "key",.Lambda params body scope gP,bQ⟩] X.env)).filterMap (·.1)).zip [u]=[(Y0 "key",u)]:=by intro u;rfl) :
  PE X (.Call (.Name "min" p) [a] [⟨B' "key",.Lambda params body scope gP,bQ⟩] pos) (QiX P gP (me X) cap ta te):=by
 intro aa s σ H Q I h;refine Vl (iV I hg hm Ca ?_);refine QfD (X3 (ha pos aa s σ H _ I h) fun us s1=>L2.Yc fun vs H1 I1 r1 a8=>?_) hs hp t8 tW;obtain⟨d,kvs,key,e,q1,hn,hP,cu,aL⟩:=a8;subst e;obtain⟨u,rfl,ru⟩:=gv r1;obtain rfl:u=X2 d:=ru;refine QdZ (Op I1 iu hc hP ok oM fun f c' pm gh H2 s2 I2 qy hsz Kw Mm lc=>Qd1 ?_);rw[n9];have I3:Inv X (aa++[(f,yj X scope params body pm c' gh)]) σ H2 s2:=I2.QaX fun q hq=>by
  rcases YK.mp hq with z|z
  .exact I2.pin q (UG _ z)
  .rw[XC.mp z]
   exact⟨Mm,Kw,Vs (UN I1.lt hsz),I1.QeJ hsz,by intro v y;cases y⟩
 have Nd:∀ o,af (upd H1 d (.X7 o (.dK kvs))) (upd H2 d (.X7 o (.dK kvs))):=fun o b u q=>by
  by_cases z:b=d
  .subst z
   rw[ai] at q ⊢;exact q
  .rw[ak z] at q ⊢
   exact qy b u q
 have kr:∀ o,xo X X.A.in1 f (yj X scope params body pm c' gh) σ (upd H2 d (.X7 o (.dK kvs))) key (Ys kvs):=by
  intro o v u bT Hi si hv rv Ii Fa Kk;have Mc:uR Hi c' P (me X):=by
   obtain⟨oc,ws,t,e1,e2,e3⟩:=lc;exact⟨oc,ws,t,Fa _ _ (by rw[ak (fun z=>by rw[z,qy _ _ q1] at e1;cases e1)];exact e1),e2,e3⟩
  have zW:=Sz (A:=X.A.in1) (x:=x) (Q:=fun k H3=>k=.int (key v)/\af Hi H3) Ii O O hr.depth Kk Mc ok hx hl sC (fK pm c' gh u) zb py rv (he f c' si Hi) (cu v hv o Hi ((Nd o).trans Fa));refine Wb (QaP zW fun r s' hq=>?_);obtain⟨u',rfl,ce⟩:=hq;exact Ii.after ce
 refine QJ (qy _ _ q1) hn (UG _ (XC.mpr O)) I3 kr fun m v H' s' fm rm I' sm=>?_
 exact⟨m,H',I'.less,rm,aL m H' (qy.trans sm) fm⟩
theorem SQ (hc:YQ A cs) (I:F') (hI:I∉cs) (n:Nat):QbL prog w A I (I::cs) [I] n (fun i v=>∃ t,v=.int i t) (fun i h=>Qbx h I (i:Nat) ((n:Int)-(i:Nat)) 1/\Yn h cs) where
 sub:=fun b hb=>by simp at hb;simp[hb]
 frame:=fun _ _ _ x hk=>⟨hk I (by simp) _ x.1,x.2.mono fun b o hb e=>hk b (by simp[hb]) o e⟩
 item:=fun i s Q E hi x hQ=>by
  refine Xb x.1 (by lia) fun h' bP bh=>?_
  refine hQ _ h' _ ⟨_,O⟩ ⟨?_,x.2.but hI bh.extBut⟩ fun b o hb e=>bh.extBut b o (fun h=>hb (by simp[h])) e
  rw[show(((i+1:Nat):Int))=(i:Int)+1 by lia,show(n:Int)-((i:Int)+1)=(n:Int)-(i:Int)-1 by lia];exact bP
 done:=fun s Q E x hQ=>Gq (hc.hd x.2) x.1 (by lia) fun h' de=>hQ h' s.toks fun b o hb e=>de b o (fun h=>hb (by simp[h])) e
 self:=fun _ _ _ _ x hQ=>Xh x.1 hQ
theorem RJ (hc:YQ A cs){u v:Zf} (hr:IsRange s.heap r 0 n 1 t u v) (c:Yn s.heap cs) (aw:n<=2 ^ 24) (S:F') (res:L') (c₀:Nat) (hS:s.heap.get? S=B' {cls:=.type "list",data:=.seq #[] c₀}) (ui:S∉cs)
  (hR:∀ h' tk eE c',(∀ b o,b≠S->s.heap.get? b=B' o->h'.get? b=B' o)->h'.get? S=B' {cls:=.type "list",dict:=C',data:=.seq eE c',slots:=#[]}->Qco (fun i v=>∃ t,v=.int i t) eE n->R (.ok (.ret res)) {s with heap:=h',toks:=tk}) :
  N' (XS prog w) A.in1 (Qa3 (.ref S) (.ref r) res) (fun aL s'=>match aL with|.done f=>R (.ok f) s'|.again c'=>c'.quiet=D'/\Y4 (XS prog w) A c' R s') (fun e s'=>R (.error e) s') s:=by
 have hn:QfB 0 n 1=n:=by rw[rangeSize_one];split<;>lia
 have pD:QfI 0 n 1=D':=by
  unfold QfI;rw[vJ (i:=0) (by decide) (by decide),vJ (i:=(n:Int)) (by lia) (by lia),vJ (i:=1) (by decide) (by decide),hn,vJ (i:=(n:Int)) (by lia) (by lia),XR (by decide),vJ (i:=(n:Int)+(1-1)) (by lia) (by lia),Wl];rfl
 have Nz:S≠r:=fun e=>by rw[e,hr] at hS;simp at hS
 have ug:S≠s.heap.objs.size:=UE (Uw hS);have pI:s.heap.objs.size∉cs:=fun z=>UT _ (c.lt _ z)
 have hV:S∉s.heap.objs.size::cs:=by simp[ug,ui]
 have W:=(SQ (prog:=prog) (w:=w) (A:=A.in1) hc s.heap.objs.size pI n).toS;have key:∀ (h:Yg) (c₁ tk:Nat),Qbx h s.heap.objs.size ((0:Nat):Int) ((n:Int)-((0:Nat):Int)) 1->Yn h cs->(∀ b o,b≠S->s.heap.get? b=B' o->h.get? b=B' o) ->
   h.get? S=B' {cls:=.type "list",data:=.seq #[] c₁}->Y4 (XS prog w) A (.builtin "list.extend.loop" ⟨[.ref S,.ref s.heap.objs.size,res],[]⟩) R {s with heap:=h,toks:=tk}:=by
  intro h c₁ tk hit ch hk MM;refine Qgu W (by rw[Uz];lia) S hV res n 0 _ #[] c₁ rfl (VJ _) ⟨hit,ch⟩ MM (QgE _) fun s' eE c' mv ir eK=>?_
  rw[Moved.eq_with mv];refine hR s'.heap s'.toks eE c' (fun b o hb e=>mv.heap b o (fun z=>?_) (hk b o hb e)) ir eK;rcases U1.mp z with e'|z
  .exact hb e'
  .exact X4 (Uw e) (by rw[XC.mp z];exact UT _)
 unfold Qa3;refine ow (V6 (T:="range") ⟨_,hr,O⟩ ?_);have h1:QcP (.ref S) (.ref r)=R':=by simp[QcP,Nz]
 have h2:(QaQ "range" == QaQ "list")=R':=by decide
 have h3:(QaQ "range" == QaQ "tuple")=R':=by decide
 simp only[h1,h2,h3,Bool.or_false,U9,Y3]
 refine ow (Xx hr pD ?_);refine ow (U3 (wpAny_hint_range (n:=n) (Ut _ hr) hn aw ?_));rw[hn];have uv:Qbx (s.heap.push {cls:=.type "range_iterator",data:=.fields #[Yk 0,Yk n,Yk 1]}) s.heap.objs.size ((0:Nat):Int) ((n:Int)-((0:Nat):Int)) 1:=by
  rw[show(n:Int)-((0:Nat):Int)=n by lia];exact UA _ rfl
 have qJ:=Ut {cls:=.type "range_iterator",data:=.fields #[Yk 0,Yk n,Yk 1]} hS;have D0:Yn (s.heap.push {cls:=.type "range_iterator",data:=.fields #[Yk 0,Yk n,Yk 1]}) cs:=c.mono fun b o _ e=>Ut _ e
 refine Qhb (fun _=>?_) (fun _=>Uu ⟨Zy Qeg _,key _ c₀ _ uv D0 (fun b o _ e=>Ut _ e) qJ⟩);refine ow (VS ?_);refine ow ?_;show N' _ _ (Qax S (·.push .none) >>= fun _=>Qax S (·.pop)) _ _ _;refine ow (Vx qJ O ?_);have lS:=U4 (Zd (·.push Yw)) qJ rfl;refine Vx (hz:=by seq_fits) lS rfl ?_;have wQ:=U4 (Zd (·.pop)) lS rfl;have eD:∀ b o,b≠S->(s.heap.push {cls:=.type "range_iterator",data:=.fields #[Yk 0,Yk n,Yk 1]}).get? b=B' o->(((s.heap.push {cls:=.type "range_iterator",data:=.fields #[Yk 0,Yk n,Yk 1]}).update S (Zd (·.push Yw))).update S (Zd (·.pop))).get? b=B' o:=fun b o hb e=>
  (UP _ _ (XW hb)).trans ((UP _ _ (XW hb)).trans e)
 exact Uu ⟨Zy Qeg _,key _ _ _ (eD _ _ (XW ug) uv) (D0.mono fun b o hb e=>eD b o (fun z=>ui (by rw[<- z];exact hb)) e) (fun b o hb e=>eD b o hb (Ut _ e)) wQ⟩
theorem Sr {Q:L'->XT->Prop} (hc:YQ A cs){u v:Zf} (hr:IsRange s.heap r 0 n 1 t u v) (c:Yn s.heap cs) (aw:n<=2 ^ 24)
  (hQ:∀ h' tk eE c',(∀ b o,s.heap.get? b=B' o->h'.get? b=B' o)->h'.get? s.heap.objs.size=B' {cls:=.type "list",dict:=C',data:=.seq eE c',slots:=#[]}->Qco (fun i v=>∃ t,v=.int i t) eE n->Q (.ref s.heap.objs.size) {s with heap:=h',toks:=tk}) :
  N' (XS prog w) A (call (.type "list") [.ref r]) Q E s:=by
 refine Qdc (Q₁:=fun obj s₁=>obj=.ref s.heap.objs.size/\s₁={s with heap:=s.heap.push {cls:=.type "list",data:=.seq #[]} }) Qhf (QgF _) QgH (code_list_new _ ⟨O,O⟩) fun obj s₁ h₁=>?_
 obtain⟨rfl,rfl⟩:=h₁;have hS:(s.heap.push {cls:=.type "list",data:=.seq #[]}).get? s.heap.objs.size=B' {cls:=.type "list",data:=.seq #[]}:=UA _ rfl;have pI:s.heap.objs.size∉cs:=fun z=>UT _ (c.lt _ z)
 refine⟨⟨_,hS,O⟩,Qgw _ _,?_⟩;refine(show N' _ A.in1.in1 (do let old <- QcR (.ref s.heap.objs.size);QfE (.ref s.heap.objs.size) (fun _=>#[]);letGo old.toList.reverse;Qa3 (.ref s.heap.objs.size) (.ref r) .none) _ _ _ from ow ?_);unfold QcR;refine ow (Vf hS O (Uu ?_));refine(show N' _ A.in1.in1 (Qax s.heap.objs.size (fun _=>#[]) >>= fun _=>letGo (#[]:Array L').toList.reverse >>= fun _=>Qa3 (.ref s.heap.objs.size) (.ref r) .none) _ _ _ from ow (Vx hS O (ow (VL ?_))));have lS:=U4 (Zd (fun _=>(#[]:Array L'))) hS rfl;have eD:∀ b o,s.heap.get? b=B' o->((s.heap.push {cls:=.type "list",data:=.seq #[]}).update s.heap.objs.size (Zd (fun _=>(#[]:Array L')))).get? b=B' o:=fun b o e=>
  (UP _ _ (XW (UE (Uw e)))).trans (Ut _ e)
 exact RJ (A:=A.in1) hc (eD r _ hr) (c.mono fun b o _ e=>eD b o e) aw _ .none _ lS pI fun h' tk acc c' k ir eK=>⟨O,hQ h' tk acc c' (fun b o e=>k b o (UE (Uw e)) (eD b o e)) ir eK⟩
def rng (n:Nat):List V:=(YM n).map fun i=>V.int (i:Nat)
theorem Pa {acc:Array L'} (h:Qco (fun i v=>∃ t,v=Zn i t) acc n):aC (rng n) acc.toList:=by
 have gen:∀ (k m:Nat) (us:List L'),us.length=k->(∀ i u,us[i]?=B' u->∃ t,u=Zn ((m+i:Nat):Int) t)->aC ((List.range' m k).map fun i=>V.int (i:Nat)) us:=fun k=>by
  induction k with
  | zero=>
   intro m us hl _;obtain rfl:=Qd3.mp hl;exact .nil
  | succ k ih=>
   intro m us hl hu;cases us with
   | nil=>cases hl
   | cons u us=>
    refine .cons ?_ (ih (m+1) us (by simpa using hl) fun i x e=>?_)
    .obtain⟨t,e⟩:=hu 0 u rfl
     exact⟨t,e⟩
    .obtain⟨t,e⟩:=hu (i+1) x (by simpa using e)
     refine⟨t,?_⟩;rw[e,show m+(i+1)=m+1+i by lia]
 unfold rng;rw[List.range_eq_range'];refine gen n 0 acc.toList (by rw[V8];exact h.1) fun i u e=>?_
 rw[XD];exact h.2 i u (by rw[WG] at e;exact e)
theorem Qy {a:X'}{p eB:YA} (KQ:Gl X "list") (Kj:X.mg "list"=C') (hg:Gl X "range") (hm:X.mg "range"=C') (ha:PA X [a] ta) (hs:Yb [a] X.env=[(R',X9 a X.env)]:=by rfl)
  (fu:Yb [.Call (.Name "range" p2) [a] [] eB] X.env=[(R',X9 (.Call (.Name "range" p2) [a] [] eB) X.env)]:=by rfl) :
  PE X (.Call (.Name "list" p) [.Call (.Name "range" p2) [a] [] eB] [] pos) (fun σ H Q=>ta σ H fun vs H1=>∃ j:Nat,vs=[.int j]/\j<=10000/\∀ r,H1 r=C'->Q (.ref r) (upd H1 r (.lst (rng j)))):=by
 intro aa s σ H Q I h;refine Vl (iV I KQ Kj uU ?_);refine Qa4 ?_ fu rfl;rw[fu];refine Qbl ?_;refine Call_ (iV I hg hm boot_range (Qa4 (X3 (ha eB aa s σ H _ I h) fun us s1=>L2.Yc fun vs H1 I1 r1 q1=>?_) hs O));obtain⟨j,e,j1,q⟩:=q1;subst e;cases r1 with
 | cons r rr=>
  cases rr
  obtain⟨t,rfl⟩:=r;refine call_range_1 (QbW ?_);obtain⟨cs,cK,ch⟩:=I1.hd.chain;have hz:(s1.heap.push {cls:=.type "range",data:=.fields #[.int 0 s1.toks,.int j t,.int 1 (s1.toks+1)]}).objs.size=s1.heap.objs.size+1:=UY ..;refine Sr (s:={s1 with heap:=s1.heap.push {cls:=.type "range",data:=.fields #[.int 0 s1.toks,.int j t,.int 1 (s1.toks+1)]},toks:=s1.toks+1+1}) cK (r:=s1.heap.objs.size) (n:=j) (UA _ O) (ch.mono fun b o _ e=>Ut _ e) (by lia) fun h' tk acc c' k hS eK=>?_
  dsimp only at k hS;rw[hz] at hS;have fr:H1 (s1.heap.objs.size+1)=C':=I1.XU.fresh (Vm _);refine⟨.ref (s1.heap.objs.size+1),upd H1 (s1.heap.objs.size+1) (.lst (rng j)),I1.laid (t':=tk) (fun b o e=>k b o (Ut _ e)) (Vm _) ⟨by unfold rng;rw[Us,U7,Uz];lia,acc.toList,c',Pa eK,by simpa using hS⟩,?_,q _ fr⟩;show X2 _=X2 _;rw[hz]
theorem QU {D:dX} (Pv:Nat->St->Hp->Prop) (h0:Pv 0 σ H) (hf:∀ i σ H,i<=kvs.length->Pv i σ H->H d=B' (.X7 o (.dK kvs)))
  (hs:∀ i k x T σ H,kvs[i]?=B' (k,x)->H T=C'->Pv i σ H->g (.ref T) σ (upd H T (.tup [kV k,x])) fun σ2 H2=>tb {D with nx:=Pv (i+1),ct:=Pv (i+1),bk:=D.nx} σ2 H2) (hd:∀ σ H,Pv kvs.length σ H->D.nx σ H):rg (Iti d o kvs) D g tb σ H:=
 wk_ (n:=kvs.length) Pv h0 (fun i σ H hi p=>⟨fun h=>⟨hf i σ H hi p,h⟩,fun h=>⟨hf i σ H hi p,h⟩⟩) (fun i v σ H H' hi p y=>by
 obtain⟨T,k,x,rfl,hT,hx,rfl⟩:=y;exact hs i k x T σ H hx hT p) hd
abbrev pZ (h:Yg) (z TI TO T:F') (f:Bool):Prop:=h.get? z=B' {cls:=.type "zip",dict:=C',data:=.fields #[Yk T,.bool f,.bool R',.ref TI,.ref TO],slots:=#[]}
theorem HN {TI TO:F'}{f:Bool}{Q:Bool->XT->Prop} (hz:pZ s.heap z TI TO T f) (ha:s.heap.get? T=B' oa) (h:∀ h',pZ h' z TI TO T D'->Zu z s.heap h'->Q R' {s with heap:=h'}) :
  N' (XS prog w) A (Qa2 (.ref z)) Q E s:=by
 unfold Qa2;refine ow (UV hz O (x:=Yk T) O ?_);show N' _ _ (loadIfAlive ((T:Int).toNat) >>= _) _ _ _;rw[UD];refine ow (PySem.W.kdx_alive ha ?_);simp only[Option.isNone_some,U9,Y3]
 refine ow (UV hz O (x:=.bool f) O ?_);cases f with
 | true=>
  rw[W' (show ¬ ((Qaj D' != Qaj D')=D') from UL)];exact Uu (h s.heap hz (Qk3 _ _))
 | false=>
  rw[XR (show(Qaj R' != Qaj D')=D' from rfl)];refine ow (VH hz (by simp) fun h₃ K5 fz=>?_);exact Uu (h h₃ K5 fz)
theorem Q7 {TI TO:F'}{f:Bool}{x y:L'} (D:QaB z TI TO i1 i2 l1 l2)
  (hz:pZ s.heap z TI TO T f) (ha:s.heap.get? T=B' oa) (cB:Z' s.heap TI (.ref i1) (.ref i2))
  (h1:s.heap.IsListIter i1 l1 k1) (h2:s.heap.IsListIter i2 l2 k2) (cz:s.heap.IsList l1 xs) (bH:s.heap.IsList l2 ys) (hx:xs[k1]?=B' x) (hy:ys[k2]?=B' y)
  (hQ:∀ h',pZ h' z TI TO T D'->h'.IsListIter i1 l1 (k1+1)->h'.IsListIter i2 l2 (k2+1)->Z' h' s.heap.objs.size x y ->
   (∀ c o,c≠z->c≠i1->c≠i2->s.heap.get? c=B' o->h'.get? c=B' o)->Q (B' (.ref s.heap.objs.size)) {s with heap:=h'}) :
  N' (XS prog w) A (Yo (.ref z)) Q E s:=by
 have hT:s.TypeIs (.ref z) "zip":=⟨_,hz,O⟩;unfold Yo;refine ow (VD (U6 (name:=Y0 "__next__") hT QbZ (Vh QbZ hT Qeo ?_ (Qem _))));refine(show N' _ _ (Y5 (.ref z) 2 >>= _) _ _ _ from ow (UV hz O (x:=.bool R') O ?_));refine(show N' _ _ (Y5 (.ref z) 3 >>= _) _ _ _ from ow (UV hz O (x:=.ref TI) O (ow (Vf cB O ?_))));refine(show N' _ _ (Qa2 (.ref z) >>= _) _ _ _ from ow (HN hz ha fun h₁ oB bF=>?_));simp only[U9,Y3,XE,Wd,WS]
 refine ow (ow (ow (U3 ?_)));refine(show N' _ _ (Qat (.ref i1) >>= _) _ _ _ from ow (VZ (h1.extBut bF.extBut D.i1z) (cz.extBut bF.extBut D.l1z) hx fun h₂ yG dC=>Uu (Uu ?_)));refine ow (ow (U3 ?_));refine(show N' _ _ (Qat (.ref i2) >>= _) _ _ _ from ow (VZ ((h2.extBut bF.extBut D.i2z).extBut dC.extBut D.i12.symm) ((bH.extBut bF.extBut D.l2z).extBut dC.extBut D.l2i1) hy fun h₃ Nk fz=>Uu (Uu (Uu ?_))));refine(show N' _ _ (Qdk [x,y] >>= _) _ _ _ from ow (Qhi ?_));have hsz:h₃.objs.size=s.heap.objs.size:=by rw[fz.1,dC.1,bF.1]
 have up:∀ c o,c≠z->c≠i1->c≠i2->s.heap.get? c=B' o->(h₃.push {cls:=.type "tuple",data:=.seq #[x,y]}).get? c=B' o:=fun c o c1 c2 c3 e=>
  Ut _ (fz.extBut _ _ c3 (dC.extBut _ _ c2 (bF.extBut _ _ c1 e)))
 have KN:pZ (h₃.push {cls:=.type "tuple",data:=.seq #[x,y]}) z TI TO T D':=Ut _ (fz.extBut _ _ D.i2z.symm (dC.extBut _ _ D.i1z.symm oB));have DG:Z' (h₃.push {cls:=.type "tuple",data:=.seq #[x,y]}) h₃.objs.size x y:=UA _ rfl;have Kb:(h₃.push {cls:=.type "tuple",data:=.seq #[x,y]}).IsListIter i1 l1 (k1+1):=yG.at fun o e=>Ut _ (fz.extBut _ _ D.i12 e)
 have Kv:(h₃.push {cls:=.type "tuple",data:=.seq #[x,y]}).IsListIter i2 l2 (k2+1):=Nk.at fun o e=>Ut _ e
 rw[hsz] at DG;refine Uu ⟨_,O,Uu ?_⟩;have aL:=hQ _ KN Kb Kv DG up;rw[<- hsz] at aL;exact aL
theorem OK {TI TO:F'}{f:Bool} (hc:YQ A cs) (c:Yn s.heap cs) (nz:z∉cs) (n1:i1∉cs) (D:QaB z TI TO i1 i2 l1 l2)
  (hz:pZ s.heap z TI TO T f) (ha:s.heap.get? T=B' oa) (cB:Z' s.heap TI (.ref i1) (.ref i2))
  (h1:s.heap.IsListIter i1 l1 k1) (h2:s.heap.IsListIter i2 l2 k2) (cz:s.heap.IsList l1 xs) (bH:s.heap.IsList l2 ys) (iG:xs[k1]?=C'\/ys[k2]?=C')
  (hQ:∀ h',(∀ c o,c≠z->c≠i1->c≠i2->s.heap.get? c=B' o->h'.get? c=B' o)->Q C' {s with heap:=h'}):N' (XS prog w) A (Yo (.ref z)) Q E s:=by
 have hT:s.TypeIs (.ref z) "zip":=⟨_,hz,O⟩;have aL:∀ h' e,(∀ c o,c≠z->c≠i1->c≠i2->s.heap.get? c=B' o->h'.get? c=B' o)->(∃ o,h'.get? e=B' o/\o.cls=.type "StopIteration") ->
   N' (XS prog w) A (do if <- Qb1 (.ref e) (.type "StopIteration") then pure C' else throw (.ref e)) Q E {s with heap:=h'}:=fun h' e k ⟨o,ho,ly⟩=>
  ow (Vr (T:="StopIteration") (b:=D') ⟨o,ho,ly⟩ Qao (Uu (hQ _ k)))
 unfold Yo;refine ow (VD (U6 (name:=Y0 "__next__") hT QbZ (Vh QbZ hT Qeo ?_ (Qem _))));refine(show N' _ _ (Y5 (.ref z) 2 >>= _) _ _ _ from ow (UV hz O (x:=.bool R') O ?_));refine(show N' _ _ (Y5 (.ref z) 3 >>= _) _ _ _ from ow (UV hz O (x:=.ref TI) O (ow (Vf cB O ?_))));refine(show N' _ _ (Qa2 (.ref z) >>= _) _ _ _ from ow (HN hz ha fun h₁ oB bF=>?_));have c₁:Yn h₁ cs:=c.but nz bF.extBut;simp only[U9,Y3,XE,Wd,WS]
 refine ow (ow (ow (U3 ?_)));cases hx:xs[k1]? with
 | none=>
  exact(show N' _ _ (Qat (.ref i1) >>= _) _ _ _ from ow (rP (A:=A.in1) (YQ.hd (A:=A.in1) hc c₁) (h1.extBut bF.extBut D.i1z) (cz.extBut bF.extBut D.l1z) hx fun h₂ e dC he=>
   aL h₂ e (fun c o c1 c3 _ x=>dC _ _ c3 (bF.extBut _ _ c1 x)) he))
 | some x=>
  have hy:ys[k2]?=C':=by rcases iG with h|h;rw[hx] at h;cases h;exact h
  refine(show N' _ _ (Qat (.ref i1) >>= _) _ _ _ from ow (VZ (h1.extBut bF.extBut D.i1z) (cz.extBut bF.extBut D.l1z) hx fun h₂ yG dC=>Uu (Uu ?_)));refine ow (ow (U3 ?_));have c₂:Yn h₂ cs:=c₁.but n1 dC.extBut;exact(show N' _ _ (Qat (.ref i2) >>= _) _ _ _ from ow (rP (A:=A.in1) (YQ.hd (A:=A.in1) hc c₂) ((h2.extBut bF.extBut D.i2z).extBut dC.extBut D.i12.symm) ((bH.extBut bF.extBut D.l2z).extBut dC.extBut D.l2i1) hy fun h₃ e fz he=>
   aL h₃ e (fun c o c1 c2 c3 x=>fz _ _ c3 (dC.extBut _ _ c2 (bF.extBut _ _ c1 x))) he))
def ZS (h:Yg) (z TI TO i1 i2 l1 l2 d:F') (xs ys:Array L') (i:Nat):Prop:=
 (QaE h z TI TO .none\/∃ T f oa,pZ h z TI TO T f/\h.get? T=B' oa/\T≠z/\T≠i1/\T≠i2/\T≠d)/\Z' h TI (.ref i1) (.ref i2)/\(∃ a b,Z' h TO a b)/\h.IsListIter i1 l1 i/\h.IsListIter i2 l2 i/\h.IsList l1 xs/\h.IsList l2 ys
theorem Pc {TI TO:F'}{x y:L'} (D:QaB z TI TO i1 i2 l1 l2) (dl:d<s.heap.objs.size) (st:ZS s.heap z TI TO i1 i2 l1 l2 d xs ys i) (hx:xs[i]?=B' x) (hy:ys[i]?=B' y)
  (hQ:∀ h',ZS h' z TI TO i1 i2 l1 l2 d xs ys (i+1)->Z' h' s.heap.objs.size x y->(∀ c o,c≠z->c≠TO->c≠i1->c≠i2->s.heap.get? c=B' o->h'.get? c=B' o)->Q (B' (.ref s.heap.objs.size)) {s with heap:=h'}) :
  N' (XS prog w) A (Yo (.ref z)) Q E s:=by
 obtain⟨zs,cB,⟨a,b,d9⟩,h1,h2,cz,bH⟩:=st;have lt:∀ {c o},s.heap.get? c=B' o->s.heap.objs.size≠c:=fun e=>Vs (Uw e)
 have n1:s.heap.objs.size≠i1:=by obtain⟨_,e,_⟩:=h1;exact lt e
 have n2:s.heap.objs.size≠i2:=by obtain⟨_,e,_⟩:=h2;exact lt e
 rcases zs with hz|⟨T,f,oa,hz,ha,t1,t2,t3,t4⟩
 .refine Xm D hz cB d9 h1 h2 cz bH hx hy fun h' a1 a2 a3 a4 a5 a6 hk=>?_
  exact hQ h' ⟨.inr ⟨s.heap.objs.size,R',_,a1,a5,lt hz,n1,n2,Vs dl⟩,hk _ _ D.TIz D.TITO D.TIi1 D.TIi2 cB,⟨_,_,a2⟩,a3,a4,cz.at fun o e=>hk _ o D.l1z D.l1TO D.l1i1 D.l1i2 e,bH.at fun o e=>hk _ o D.l2z D.l2TO D.l2i1 D.l2i2 e⟩ a5 hk
 .refine Q7 D hz ha cB h1 h2 cz bH hx hy fun h' a1 a3 a4 a5 hk=>?_
  exact hQ h' ⟨.inr ⟨T,D',oa,a1,hk _ _ t1 t2 t3 ha,t1,t2,t3,t4⟩,hk _ _ D.TIz D.TIi1 D.TIi2 cB,⟨_,_,hk _ _ D.TOz D.TOi1 D.TOi2 d9⟩,a3,a4,cz.at fun o e=>hk _ o D.l1z D.l1i1 D.l1i2 e,bH.at fun o e=>hk _ o D.l2z D.l2i1 D.l2i2 e⟩ a5
   fun c o c1 _ c3 c4 e=>hk c o c1 c3 c4 e
theorem QiY {TI TO:F'} (hc:YQ A cs) (c:Yn s.heap cs) (nz:z∉cs) (nT:TO∉cs) (n1:i1∉cs) (n2:i2∉cs) (D:QaB z TI TO i1 i2 l1 l2) (st:ZS s.heap z TI TO i1 i2 l1 l2 d xs ys i) (iG:xs[i]?=C'\/ys[i]?=C')
  (hQ:∀ h',(∀ c o,c≠z->c≠TO->c≠i1->c≠i2->s.heap.get? c=B' o->h'.get? c=B' o)->Q C' {s with heap:=h'}):N' (XS prog w) A (Yo (.ref z)) Q E s:=by
 obtain⟨zs,cB,⟨a,b,d9⟩,h1,h2,cz,bH⟩:=st;rcases zs with hz|⟨T,f,oa,hz,ha,t1,t2,t3,t4⟩
 .exact Jy hc c nz nT n1 n2 D hz cB d9 h1 h2 cz bH iG hQ
 .exact OK hc c nz n1 D hz ha cB h1 h2 cz bH iG fun h' hk=>hQ h' fun c o c1 _ c3 c4 e=>hk c o c1 c3 c4 e
structure B3 (z TI TO i1 i2 l1 l2 d:F'):Prop where
 z:z≠d
 TI:TI≠d
 TO:TO≠d
 i1:i1≠d
 i2:i2≠d
 l1:l1≠d
 l2:l2≠d
theorem ZS.but {TI TO:F'} (N:B3 z TI TO i1 i2 l1 l2 d) (st:ZS h z TI TO i1 i2 l1 l2 d xs ys i) (hk:∀ c o,c≠d->h.get? c=B' o->h'.get? c=B' o):ZS h' z TI TO i1 i2 l1 l2 d xs ys i:=by
 obtain⟨zs,cB,⟨a,b,d9⟩,h1,h2,cz,bH⟩:=st;refine⟨?_,hk _ _ N.TI cB,⟨a,b,hk _ _ N.TO d9⟩,h1.at fun o e=>hk _ o N.i1 e,h2.at fun o e=>hk _ o N.i2 e,cz.at fun o e=>hk _ o N.l1 e,bH.at fun o e=>hk _ o N.l2 e⟩;rcases zs with hz|⟨T,f,oa,hz,ha,t1,t2,t3,t4⟩
 .exact .inl (hk _ _ N.z hz)
 .exact .inr ⟨T,f,oa,hk _ _ N.z hz,hk _ _ t4 ha,t1,t2,t3,t4⟩
section
variable {κ:Type} [DecidableEq κ] {knd:KeyKind prog w κ}
theorem Pl {TI TO:F'} (D:QaB z TI TO i1 i2 l1 l2) (N:B3 z TI TO i1 i2 l1 l2 d) (hc:YQ A cs) (nz:z∉cs) (nT:TO∉cs) (n1:i1∉cs) (n2:i2∉cs) (nd:d∉cs) (aw:xs.size<=ys.size) (hn:xs.size<=1000)
  (ks:Nat->κ) (vs:Nat->L') (kvs:Nat->List (κ×L')) (res:L') (gT:∀ i x y,xs[i]?=B' x->ys[i]?=B' y->knd.is (ks i) x=D'/\y=vs i)
  (hs:∀ i,kvs (i+1)=Qaq (kvs i) (ks i) (vs i)) (hl:∀ i,(kvs i).length<=i) (s0:XT) :
  ∀ (k i:Nat) (h:Yg) (tk:Nat),xs.size-i=k->i<=xs.size->ZS h z TI TO i1 i2 l1 l2 d xs ys i->Yn h cs->h.DictOf knd d (kvs i)->(∀ b o,b≠d->b≠z->b≠TO->b≠i1->b≠i2->s0.heap.get? b=B' o->h.get? b=B' o) ->
   (∀ h' iQ,(∀ b o,b≠d->b≠z->b≠TO->b≠i1->b≠i2->s0.heap.get? b=B' o->h'.get? b=B' o)->h'.DictOf knd d (kvs xs.size)->R (.ok (.ret res)) {s0 with heap:=h',toks:=iQ}) ->
   Y4 (XS prog w) A (.builtin "dict.update.loop" ⟨[.ref d,.ref z,.int i 0,res],[]⟩) R {s0 with heap:=h,toks:=tk}:=by
 intro k
 induction k with
 | zero=>
  intro i h tk hk hi st ch hD keep hR;have Yp:i=xs.size:=by lia
  subst Yp;refine ZX x8 ?_;rw[Qad nL _];show N' _ A.in1 (Yo (.ref z) >>= _) _ _ _;refine ow (QiY (A:=A.in1) (s:={s0 with heap:=h,toks:=tk}) hc ch nz nT n1 n2 D st (.inl (by simp)) fun h' dH=>?_);show N' _ A.in1 (pure () >>= fun _=>ret res) _ _ _;refine ow (Uu (Uu (hR h' tk (fun b o b0 b1 b2 b3 b4 e=>dH b o b1 b2 b3 b4 (keep b o b0 b1 b2 b3 b4 e)) ?_)));obtain⟨o,es,ep,ho,aZ⟩:=hD;exact⟨o,es,ep,dH _ _ (XW N.z) (XW N.TO) (XW N.i1) (XW N.i2) ho,aZ⟩
 | succ k ih=>
  intro i h tk hk hi st ch hD keep hR;have bp:i<xs.size:=by lia
  refine ZX x8 ?_;rw[Qad nL _];show N' _ A.in1 (Yo (.ref z) >>= _) _ _ _;have dl:d<h.objs.size:=by
   obtain⟨o,es,ep,ho,aZ⟩:=hD;exact Uw ho
  have hx:xs[i]?=B' xs[i]:=V4 bp;have hy:ys[i]?=B' (ys[i]'(by lia)):=V4 (by lia);obtain⟨cu,hv⟩:=gT i _ _ hx hy;refine ow (Pc (A:=A.in1) (s:={s0 with heap:=h,toks:=tk}) D dl st hx hy fun h' iq hP dH=>?_);rw[hv] at hP;generalize xs[i]=key at cu hP hx;have tn:∀ b o,h.get? b=B' o->b≠h.objs.size:=fun b o e=>UE (Uw e)
  have zk:h'.DictOf knd d (kvs i):=by
   obtain⟨o,es,ep,ho,aZ⟩:=hD;exact⟨o,es,ep,dH _ _ (XW N.z) (XW N.TO) (XW N.i1) (XW N.i2) ho,aZ⟩
  have hT:Qc7 {s0 with heap:=h',toks:=tk} (.ref h.objs.size) "tuple":=⟨_,hP,O⟩;have mJ:Yn h' cs:=ch.mono fun b o hb e=>dH b o (fun q=>nz (q ▸ hb)) (fun q=>nT (q ▸ hb)) (fun q=>n1 (q ▸ hb)) (fun q=>n2 (q ▸ hb)) e
  dsimp only;refine ow (U3 (ow (Vw ?_)));unfold QfG;refine ow (V6 hT ?_);rw[XR (by decide)];refine ow (Vf hP O (Uu ?_));show N' _ _ (Z9 [key,vs i] (dictSet d key (vs i))) _ _ _;refine U3 (Xs (knd:=knd) (s:={s0 with heap:=h',toks:=tk}) cu zk (fun cX rT ou=>?_) (by rw[Uz];have:=hl i;lia));have e1:kvs (i+1)=Qaq (kvs i) (ks i) (vs i):=hs i;rw[<- e1] at rT;have kb:∀ c o,c≠d->h'.get? c=B' o->cX.get? c=B' o:=fun c o eQ e=>by rw[ou.2 c eQ];exact e
  exact Uu ⟨Zy nL _,ih (i+1) cX _ (by lia) bp (iq.but N kb) (mJ.mono fun b o hb e=>kb b o (fun q=>nd (q ▸ hb)) e) rT (fun b o b0 b1 b2 b3 b4 e=>kb b o b0 (dH b o b1 b2 b3 b4 (keep b o b0 b1 b2 b3 b4 e))) hR⟩
end
theorem Rj:Qap (.type "zip") "keys"=pure C':=Qda (by kernel_rfl)
theorem Sx:Qcn table "zip.__getattribute__"=B' Ze.«object.__getattribute__»:=Qhl (id':="object.__getattribute__") (by kernel_rfl) (by first|rfl|decide +kernel) (by decide +kernel) (by kernel_rfl)
theorem RY {TI TO:F'}{tk:Zf}{Q:Fin->XT->Prop} (hd:Hd A s.heap) (ho:QaE s.heap z TI TO .none)
  (h:∀ h' tk e,(∀ b ob,s.heap.get? b=B' ob->h'.get? b=B' ob)->(∃ o',h'.get? e=B' o'/\o'.cls=.type "AttributeError")->E (.ref e) {s with heap:=h',toks:=tk}) :
  N' (XS prog w) A (Ze.«object.__getattribute__» ⟨[.ref z,.str "keys" tk],[]⟩) Q E s:=by
 have hT:s.TypeIs (.ref z) "zip":=⟨_,ho,O⟩;have f4:=Rj;unfold Ze.«object.__getattribute__»;obtain⟨hp,g,d,iQ,os⟩:=s
 repeat (any_goals (first|assumption|wp_step))
 exact Jp hd h (attrMsg_fits (by decide +kernel) (by size_fits))
theorem O5 {TI TO:F'} (hd:Hd A s.heap) (ho:QaE s.heap z TI TO .none)
  (h:∀ h' tk,(∀ b ob,s.heap.get? b=B' ob->h'.get? b=B' ob)->Q C' {s with heap:=h',toks:=tk}) :
  N' (XS prog w) A (Qdl (.ref z) "keys") Q E s:=by
 unfold Qdl getAttrBy?;obtain⟨hp,g,d,iQ,os⟩:=s;have hT:(⟨hp,g,d,iQ+1,os⟩:XT).TypeIs (.ref z) "zip":=⟨_,ho,O⟩;have f1:=Qel;have f2:=QcU.lookup;have f3:=QcU.bind (.ref z);have f5:Qap (.type "zip") "__getattr__"=pure C':=Qda (by kernel_rfl);unfold getAttrBy
 repeat (any_goals (first|assumption|wp_step))
 refine QbS QcU.plain Sx (QcU.check _ _ _ _ _ _ _ _ hT (F.args_zip_getattribute_2 _ _) (RY (s:=⟨hp,g,d,iQ+1,os⟩) hd ho fun h' lR e k' ⟨o',e1,e2⟩=>?_));dsimp only;show N' _ _ (Qc2 _ _ _ _ _ _ _) _ _ _;unfold Qc2;have hE:(⟨h',g,d,lR,os⟩:XT).TypeIs (.ref e) "AttributeError":=⟨_,e1,e2⟩
 repeat (any_goals (first|assumption|wp_step))
 exact h h' lR k'
section
variable {κ:Type} [DecidableEq κ] {knd:KeyKind prog w κ}
theorem Qo {TI TO:F'}{a b:L'}{Q:L'->XT->Prop} (hc:YQ A cs) (ch:Yn s.heap cs) (nz:z∉cs) (nT:TO∉cs) (n1:i1∉cs) (n2:i2∉cs) (D:QaB z TI TO i1 i2 l1 l2)
  (hz:QaE s.heap z TI TO .none) (cB:Z' s.heap TI (.ref i1) (.ref i2)) (d9:Z' s.heap TO a b) (h1:s.heap.IsListIter i1 l1 0) (h2:s.heap.IsListIter i2 l2 0) (cz:s.heap.IsList l1 xs) (bH:s.heap.IsList l2 ys) (aw:xs.size<=ys.size) (hn:xs.size<=1000)
  (ks:Nat->κ) (vs:Nat->L') (kvs:Nat->List (κ×L')) (h0:kvs 0=[]) (hs:∀ i,kvs (i+1)=Qaq (kvs i) (ks i) (vs i)) (hl:∀ i,(kvs i).length<=i)
  (gT:∀ i x y,xs[i]?=B' x->ys[i]?=B' y->knd.is (ks i) x=D'/\y=vs i)
  (h:∀ h' tk,h'.DictOf knd s.heap.objs.size (kvs xs.size)->(∀ b o,b≠z->b≠TO->b≠i1->b≠i2->s.heap.get? b=B' o->h'.get? b=B' o)->Q (.ref s.heap.objs.size) {s with heap:=h',toks:=tk}) :
  N' (XS prog w) A (call (.type "dict") [.ref z]) Q E s:=by
 refine Qdc (Q₁:=fun obj s₁=>obj=.ref s.heap.objs.size/\s₁={s with heap:=s.heap.push {cls:=.type "dict",data:=.dict #[]} }) QgN (Qgl _) QgI (Qg3 _ ⟨O,O⟩) ?_;rintro obj s₁ ⟨rfl,rfl⟩
 have cZ:(s.heap.push {cls:=.type "dict",data:=.dict #[]}).DictOf knd s.heap.objs.size []:=Qee s.heap;have keep:∀ b o,s.heap.get? b=B' o->(s.heap.push {cls:=.type "dict",data:=.dict #[]}).get? b=B' o:=fun b o e=>Ut _ e
 have lt:∀ b∈cs,b<s.heap.objs.size:=ch.lt;have gl:∀ {b o},s.heap.get? b=B' o->b≠s.heap.objs.size:=fun e=>UE (Uw e)
 have N:B3 z TI TO i1 i2 l1 l2 s.heap.objs.size:=⟨gl hz,gl cB,gl d9,by obtain⟨_,e,_⟩:=h1;exact gl e,by obtain⟨_,e,_⟩:=h2;exact gl e,by obtain⟨_,e,_⟩:=cz;exact gl e,by obtain⟨_,e,_⟩:=bH;exact gl e⟩;generalize s.heap.push {cls:=.type "dict",data:=.dict #[]}=hp at cZ keep ⊢;have mJ:Yn hp cs:=ch.mono fun b o _ e=>keep b o e
 have jB:QaE hp z TI TO .none:=keep _ _ hz;refine⟨cZ.typeIs,Qgx _ _,?_⟩;unfold Ze.«dict.__init__»;refine ow ?_;unfold QfC;refine ow (Xo cZ.typeIs ?_);show N' _ _ (pure (s.heap.objs.size,[X2 z])) _ _ _;refine Uu ?_;show N' _ _ (QcQ "dict.__init__" s.heap.objs.size (.ref z) [] .none) _ _ _;unfold QcQ;have hT:Qc7 {s with heap:=hp} (.ref z) "zip":=⟨_,jB,O⟩;refine ow (V6 hT ?_);rw[XR (by decide)];refine ow ?_;refine O5 (s:={s with heap:=hp}) (YQ.hd (A:=A.in1.in1) hc mJ) jB fun eS lR k2=>?_
 have all2:∀ b o,s.heap.get? b=B' o->eS.get? b=B' o:=fun b o e=>k2 b o (keep b o e)
 have AX:Yn eS cs:=mJ.mono fun b o _ e=>k2 b o e
 rw[XR (show(C':Option L').isNone=D' from rfl)];refine ow (VS ?_);refine ow (W8 (s:={s with heap:=eS,toks:=lR}) (all2 _ _ hz) ?_);have gD:eS.DictOf knd s.heap.objs.size (kvs 0):=by
  rw[h0];obtain⟨o,es,ep,hg,aZ⟩:=cZ;exact⟨o,es,ep,k2 _ _ hg,aZ⟩
 have st:ZS eS z TI TO i1 i2 l1 l2 s.heap.objs.size xs ys 0:=⟨.inl (all2 _ _ hz),all2 _ _ cB,⟨_,_,all2 _ _ d9⟩,h1.at fun o e=>all2 _ o e,h2.at fun o e=>all2 _ o e,cz.at fun o e=>all2 _ o e,bH.at fun o e=>all2 _ o e⟩;refine Uu ⟨Zy nL _,Pl (knd:=knd) (A:=A.in1) D N hc nz nT n1 n2 (fun q=>UT _ (lt _ q)) aw hn ks vs kvs .none gT hs hl s xs.size 0 eS lR O (VJ _) st AX gD (fun b o b0 _ _ _ _ e=>all2 b o e) fun h' iQ hk hD=>?_⟩;exact⟨O,h h' iQ hD fun b o c1 c2 c3 c4 e=>hk b o (gl e) c1 c2 c3 c4 e⟩
end
theorem Qs {p eB:YA}{a b:X'} (hg:Gl X "dict") (hm:X.mg "dict"=C') (pJ:Gl X "zip") (JT:X.mg "zip"=C') (ha:PA X [a,b] ta) (hs:Yb [a,b] X.env=[(R',X9 a X.env),(R',X9 b X.env)]:=by rfl) (fu:Yb [b] X.env=[(R',X9 b X.env)]:=by rfl)
  (he:Yb [.Call (.Name "zip" p2) [a,b] [] eB] X.env=(R',X9 (.Call (.Name "zip" p2) [a,b] [] eB) X.env)::Yb [] X.env:=by rfl) (cv:(Yy pos (Yb [] X.env)).any (·.1)=R':=by rfl) :
  PE X (.Call (.Name "dict" p) [.Call (.Name "zip" p2) [a,b] [] eB] [] pos) (fun σ H Q=>ta σ H fun vs H1=>∃ l1 l2,∃ ns:List Key,∃ ms:List V,vs=[.ref l1,.ref l2]/\M' X.K H1 l1 (ns.map kV)/\M' X.K H1 l2 ms/\ns.length<=ms.length/\ns.length<=1000/\∀ d,H1 d=C'->Q (.ref d) (upd H1 d (.dK (ZG (ns.zip ms))))):=by
 intro aa s σ H Q I h;refine Vl (iV I hg hm yk ?_);refine Qa4 ?_ he cv;rw[he];show N' _ _ (Qdn ((R',X9 _ X.env)::Yy pos (Yb [] X.env))) _ _ s;refine Qbl ?_;refine Call_ (iV I pJ JT boot_zip (Qa4 (X3 (ha eB aa s σ H _ I h) fun us s1=>L2.Yc fun vs H1 I1 r1 a8=>?_) (by rw[hs,fu]) (by rw[fu];rfl)));obtain⟨l1,l2,ns,ms,e,q1,q2,aw,uF,q⟩:=a8;subst e;obtain⟨u,u',rfl,ru,uG⟩:=pT r1;obtain rfl:u=X2 l1:=ru;obtain rfl:u'=X2 l2:=uG;obtain⟨ah,rv,pl,_⟩:=I1.list q1;obtain⟨its',cH,kd,_⟩:=I1.list q2;refine call_zip_2 pl.isList kd.isList fun h' b1 b2 b3 b4 b5 b6 hk=>?_
 refine QbW ?_;have I2:Inv X aa σ H1 {s1 with heap:=h'}:=I1.kept (t':=s1.toks) hk;obtain⟨cs,cK,ch⟩:=I1.hd.chain;have lt:∀ b∈cs,b<s1.heap.objs.size:=ch.lt;have iI:l1<s1.heap.objs.size:=by obtain⟨o,e,_⟩:=pl.isList;exact Uw e
 have lM:l2<s1.heap.objs.size:=by obtain⟨o,e,_⟩:=kd.isList;exact Uw e
 have nn:∀ (x y:Nat),x<y->∀ j:Nat,x≠y+j:=fun x y h j e=>by lia
 have n0:∀ (y i j:Nat),i≠j->y+i≠y+j:=fun y i j h e=>by lia
 have D:QaB (s1.heap.objs.size+4) (s1.heap.objs.size+2) (s1.heap.objs.size+3) s1.heap.objs.size (s1.heap.objs.size+1) l1 l2:=
  ⟨n0 _ 2 4 (by decide),n0 _ 3 4 (by decide),n0 _ 0 4 (by decide),n0 _ 1 4 (by decide),n0 _ 2 3 (by decide),n0 _ 2 0 (by decide),n0 _ 2 1 (by decide),n0 _ 3 0 (by decide),n0 _ 3 1 (by decide),n0 _ 0 1 (by decide),
   nn _ _ iI 4,nn _ _ iI 3,nn _ _ iI 0,nn _ _ iI 1,nn _ _ lM 4,nn _ _ lM 3,nn _ _ lM 0,nn _ _ lM 1⟩
 have nc:∀ j:Nat,s1.heap.objs.size+j∉cs:=fun j q=>X4 (lt _ q) (Qcl.mpr (U8 _ _))
 have e1:=rv.length;have e2:=cH.length;rw[Us] at e1;have rV:∀ i k y,ns[i]?=B' k->its'[i]?=B' y->(ns.zip its').getD i (XY 0,.none)=(k,y):=fun i k y q1 q2=>by
  have q:(ns.zip its')[i]?=B' (k,y):=by
   rw[VB];exact⟨q1,q2⟩
  rw[Ux,q];rfl
 have hz:ah.toArray.size=ns.length:=by simp[e1]
 have zl:(ns.zip ms).length=ns.length:=by rw[VQ];lia
 refine Qo (s:={s1 with heap:=h'}) (knd:=bV X.prog X.w) cK (ch.mono fun b o _ e=>hk b o e) (nc 4) (nc 3) (nc 0) (nc 1) D b1 b2 b3 b4 b5 (pl.isList.at fun o e=>hk _ o e) (kd.isList.at fun o e=>hk _ o e) (by simp;lia) (by rw[hz];exact uF)
  (fun i=>((ns.zip its').getD i (XY 0,.none)).1) (fun i=>((ns.zip its').getD i (XY 0,.none)).2) (stN (ns.zip its')) O (fun _=>O) (BB _) (fun i x y hx hy=>?_) fun cX tk hD keep=>?_
 .have hx:ah[i]?=B' x:=by simpa using hx
  have hy:its'[i]?=B' y:=by simpa using hy
  have hi:i<ns.length:=by
   have:=(Yi.mp hx).1;lia
  have dH:ns[i]?=B' ns[i]:=Uy hi;obtain⟨u,hu,ru⟩:=rv.get (i:=i) (x:=kV ns[i]) (by rw[UJ,dH];rfl);rw[hx] at hu;obtain rfl:=YB hu;rw[rV i _ y dH hy];exact⟨jR ru,O⟩
 have rel:=BK (kvs:=ns.zip ms) (us:=ns.zip its') (fun i kv NN=>by
  obtain⟨g1,g2⟩:=VB.mp NN;obtain⟨u,hu,ru⟩:=cH.get g2;rw[rV i _ u g1 hu];exact⟨O,ru⟩) (ns.zip ms).length (Uv _)
 rw[UO,zl] at rel;rw[hz] at hD;have ne:(h'.objs.size == ZL)=R':=(vp (P:=X.prog) (w:=X.w) (H:=H1) h' I2.big).2.1;have z:(ZG (ns.zip ms)).length<=XX:=by
  have:=Qdz (ns.zip ms) [];have z0:([]:List (Key×V)).length=0:=rfl;rw[Uz];unfold ZG;lia
 have le:s1.heap.objs.size<=h'.objs.size:=by lia
 refine⟨.ref h'.objs.size,_,I1.laid (a:=h'.objs.size) (o:=.dK (ZG (ns.zip ms))) (t':=tk) (fun b o e=>?_) le ⟨z,ne,_,rel,hD⟩,O,q _ (I1.XU.fresh le)⟩;have bl:=Uw e;exact keep b o (UE (UN bl (U8 _ 4))) (UE (UN bl (U8 _ 3))) (UE bl) (UE (UN bl (U8 _ 1))) (hk b o e)
section
variable {κ:Type} [DecidableEq κ] {knd:KeyKind prog w κ}
end
theorem aX.of {P:List K'}{sc:ZD} (h:sc.kind=.function/\sc.isCoroutine=R'/\sc.isGenerator=R'/\N.Nodup/\N.take P.length=P/\(∀ x∈P,sc.names.lookup x=B' .local\/sc.names.lookup x=B' .cell)/\∀ y∈sc.names,y.2≠.free):aX N P sc:=⟨h.1,h.2.1,h.2.2.1,h.2.2.2.1,h.2.2.2.2.1,h.2.2.2.2.2.1,h.2.2.2.2.2.2⟩
section
variable {K:V'}{m:K'}{cL TP:F'}{Lu:L'}{an Mu:Option F'}{Mi:Array (Option L')}{kV bO aD:L'}
abbrev fnN (x qual:K') (st:Yd) (kV bO pm:L') (an:Option F') (aD ct:L'):Z8:=QaO x qual (pS st) (kE st) (aF st) .none kV bO pm an aD ct
theorem def_mk (X:K.In h) (G:h.Ns YW mg) (a:Qbq K YW x=B' (B' (.ref f))) (l:K.lookup f=B' ⟨oc,od,.func (fnN x x st kV bO pm an aD ct),dM⟩) (c:Qau K aD x=D') (k:Qae K (.ref f)=D')
  (b:∀ us:List L',us.length=ps.length->QbE (fnN x x st kV bO pm an aD ct) ⟨us,[]⟩=pure (ps.zip us)):Def K mg x st ps []:=⟨⟨_,_,[],rB l c,Qbp X G a,k,.all b,.nil⟩⟩
theorem met_mk (a:Y2 K (.ref C) m=B' (B' (.ref f))) (i:Qa8 K (.ref f)=D') (l:K.lookup f=B' ⟨oc,od,.func (fnN m qual st kV bO pm an aD ct),dM⟩) (c:Qau K aD qual=D') (k:Qae K (.ref f)=D')
  (b:∀ us:List L',us.length=ps.length->QbE (fnN m qual st kV bO pm an aD ct) ⟨us,[]⟩=pure (ps.zip us)):Met K C m qual st ps []:=⟨⟨f,_,[],rB l c,⟨a,i,k⟩,.all b,.nil⟩⟩
theorem zhI {Tt:F'}{Eg:L'}{Ds:Option F'}{Dq:Array (Option L')}{nT:Nat}{D:Array L'} (a:Y2 K (.ref C) m=B' (B' (.ref f))) (i:Qa8 K (.ref f)=D') (l:K.lookup f=B' ⟨oc,od,.func (QaO m qual (pS st) (kE st) (aF st) (.ref Tt) kV bO pm an aD ct),dM⟩) (c:Qau K aD qual=D') (k:Qae K (.ref f)=D') (td:K.lookup Tt=B' ⟨Eg,Ds,.seq D nT,Dq⟩) (v:aC aN ds)
  (b:K.lookup Tt=B' ⟨Eg,Ds,.seq D nT,Dq⟩->eh K (QaO m qual (pS st) (kE st) (aF st) (.ref Tt) kV bO pm an aD ct) ps ds):Met K C m qual st ps aN:=⟨⟨f,_,ds,rB l c,⟨a,i,k⟩,b td,v⟩⟩
theorem vals1i {i:Int}:aC [.int i] [.int i t]:=.cons ⟨t,O⟩ .nil
theorem vals2i {i j:Int}{u:Zf}:aC [.int i,.int j] [.int i t,.int j u]:=.cons ⟨t,O⟩ (.cons ⟨u,O⟩ .nil)
theorem ini_mk (X:K.In h) (G:h.Ns YW mg) (g:Qbq K YW x=B' (B' (.ref C))) (mk:Qei K C=D') (kc:Qae K (.ref C)=D') (a:Y2 K (.ref C) "__init__"=B' (B' (.ref f))) (i:Qa8 K (.ref f)=D') (l:K.lookup f=B' ⟨oc,od,.func (fnN "__init__" qual st kV bO pm an aD ct),dM⟩) (c:Qau K aD qual=D')
  (b:∀ us:List L',us.length=ps.length->QbE (fnN "__init__" qual st kV bO pm an aD ct) ⟨us,[]⟩=pure (ps.zip us)):Ini K mg C x qual st ps:=⟨⟨f,_,rB l c,⟨mk,a,i,kc⟩,Qbp X G g,.all b⟩⟩
theorem zot (X:K.In h) (G:h.Ns YW mg) (g:Qbq K YW x=B' (B' (.ref C))) (xa:vW K C bmV "ValueError.__new__"=D') (kc:Qae K (.ref C)=D') (a:Y2 K (.ref C) "__init__"=B' (B' (.ref f))) (i:Qa8 K (.ref f)=D') (l:K.lookup f=B' ⟨oc,od,.func (fnN "__init__" qual st kV bO pm an aD ct),dM⟩) (c:Qau K aD qual=D')
  (b:∀ us:List L',us.length=ps.length->QbE (fnN "__init__" qual st kV bO pm an aD ct) ⟨us,[]⟩=pure (ps.zip us)):Qca K mg C x qual st ps:=⟨⟨f,_,rB l c,⟨xa,kc,a,i⟩,Qbp X G g,.all b⟩⟩
theorem int_mk {n:Int} (X:K.In h) (G:h.Ns YW mg) (a:Qbq K YW x=B' (B' (.int n t))):∃ t,mg x=B' (.int n t):=⟨t,Qbp X G a⟩
theorem str_mk {n:K'} (X:K.In h) (G:h.Ns YW mg) (a:Qbq K YW x=B' (B' (.str n t))):∃ t,mg x=B' (.str n t):=⟨t,Qbp X G a⟩
theorem lam_mk (X:K.In h) (G:h.Ns YW mg) (a:Qbq K YW x=B' (B' (.ref f))) (l:K.lookup f=B' ⟨oc,od,.func fd,dM⟩) (lc:fd.code=.ref cL) (lk:K.lookup cL=B' ⟨Lu,Mu,.fields vs,Mi⟩) (lt:vs[11]?=B' (.ref TP)) (lh:QaK K cL TP=D') (ln:K.lookup TP=C'):BA K mg x TP:=⟨⟨f,Qbp X G a,⟨cL,Sc l lc,lh⟩,ln⟩⟩
end
section
open PySem.SeqAt
open AutoSeq1 (wpAny_loadPart')
theorem R8 {b:F'} (ha:s.heap.IsList a xs) (hb:s.heap.IsList b ys) (sz:xs.size=ys.size) (al:∀ j (h1:j<xs.size) (h2:j<ys.size),EqP prog w A.in1 s xs[j] ys[j]) (q:R (.ok (.ret (.bool R'))) s) :
  ∀ (k i:Nat),i+k=xs.size->Y4 (XS prog w) A (.builtin "list.__eq__.loop" ⟨[.ref a,.ref b,Yk i,Yk 3],[]⟩) R s:=by
 obtain⟨⟨c1,d1,p1,l1⟩,o1,e1,n1,f1⟩:=id ha;obtain⟨⟨c2,d2,p2,l2⟩,o2,e2,n2,f2⟩:=id hb;dsimp only at e1 f1 e2 f2;subst e1 f1 e2 f2;obtain⟨hp,gn,dd,tk,os⟩:=s;have sub:=QfP;intro k
 induction k with
 | zero=>
  intro i hi;refine ZX Qfy ?_;rw[Qad QcM _];have z1:xs[i]?=C':=by simp;lia
  unfold Ze.«list.__eq__.loop»
  wp_walk using VU o1,VU o2
  simp only[UD,z1]
  wp_walk using VU o1,VU o2
  have e:(xs.size != ys.size)=R':=by simp[sz]
  show R (.ok (.ret (.bool (xs.size != ys.size)))) _;rw[e];exact q
 | succ k ih=>
  intro i hi;have h1:i<xs.size:=by lia
  have h2:i<ys.size:=by lia
  refine ZX Qfy ?_;rw[Qad QcM _];unfold Ze.«list.__eq__.loop»
  wp_walk using VU o1,VU o2
  simp only[UD,V4 h1,V4 h2]
  refine ow (al i h1 h2 _ _ ?_);rw[XR rfl];exact Uu ⟨Zy QcM _,ih (i+1) (by lia)⟩
theorem Ow {b:F'} (ha:s.heap.IsList a xs) (hb:s.heap.IsList b ys) (sz:xs.size=ys.size) (hu:A.units<Yr)
  (al:∀ j (h1:j<xs.size) (h2:j<ys.size),EqP prog w A.in1 s xs[j] ys[j]){Q:L'->XT->Prop} (q:Q (.bool R') s):N' (XS prog w) A (Qck .NotEq (.ref a) (.ref b)) Q E s:=by
 have lp:=fun(R:Result->XT->Prop) (q:R (.ok (.ret (.bool R'))) s)=>R8 (prog:=prog) (w:=w) (A:=A) ha hb sz al (R:=R) q xs.size 0 (by lia)
 obtain⟨⟨c1,d1,p1,l1⟩,o1,e1,n1,f1⟩:=id ha;obtain⟨⟨c2,d2,p2,l2⟩,o2,e2,n2,f2⟩:=id hb;dsimp only at e1 f1 e2 f2;subst e1 f1 e2 f2;have t1:s.TypeIs (.ref a) "list":=⟨_,o1,O⟩;have t2:s.TypeIs (.ref b) "list":=⟨_,o2,O⟩;refine wpAny_richCompare_same_room (op:=.NotEq) t1 t2 Qf2 (Qbu (S:=fun A R s=>N' (XS prog w) A.in1 (Ze.«list.__ne__» ⟨[.ref a,.ref b],[]⟩) (fun aL s'=>match aL with
  | Fin.done f=>R (Except.ok f) s'
  | Fin.again c'=>c'.quiet=D'/\Y4 (XS prog w) A c' R s') (fun e s'=>R (Except.error e) s') s) Qf2 t1 PySem.F.entry_list_ne (PySem.F.args_list_ne_2 _ _) (fun _ _ _ h=>h) ?_) hu
 obtain⟨hp,gn,dd,tk,os⟩:=s;have sub:=QfP
 wp_walk using VU o1,VU o2
 .exact⟨Zy QcM _,lp _ ⟨nofun,q⟩⟩
def QiZ (K:V'):R2:=fun x y H Q=>∃ a b xs ys,x=.ref a/\y=.ref b/\M' K H a xs/\M' K H b ys/\nB K H xs ys/\Q (.bl R') H
theorem Qi0 (hu:X.A.units+64<Yr):YN X (Zr .NotEq) (QiZ X.K):=by
 intro aa s σ H x y v u Q I rx ry h;obtain⟨a,b,xs,ys,rfl,rfl,ha,hb,al,q⟩:=h;obtain rfl:v=X2 a:=rx;obtain rfl:u=X2 b:=ry;obtain⟨ah,rv,hl⟩:=I.isL ha;obtain⟨its',cH,dc⟩:=I.isL hb;have n1:xs.length=ah.length:=rv.length;have n2:ys.length=its'.length:=cH.length;have n3:=al.len;refine Ow hl dc (by simp;lia) (by lia) (fun j j1 j2=>?_) ⟨.bl R',H,I,O,q⟩;have j1:j<ah.length:=by simpa using j1
 have j2:j<its'.length:=by simpa using j2
 obtain⟨x',jg⟩:=eY (l:=xs) (j:=j) (by lia);obtain⟨y',cQ⟩:=eY (l:=ys) (j:=j) (by lia);obtain⟨u',gC,ru⟩:=rv.get jg;obtain⟨v',dG,dI⟩:=cH.get cQ;have q1:ah.toArray[j]=u':=by simpa using (Yi.mp gC).2
 have q2:its'.toArray[j]=v':=by simpa using (Yi.mp dG).2
 rw[q1,q2];exact I.alike (al.at jg cQ) ru dI (show X.A.units+1+31<Yr by lia)
end
section
variable {κ:Type} [DecidableEq κ] {knd:KeyKind prog w κ}
end
section
open PySem.Builtin
open PySem.Builtin.Str
def jl (c:Nat):List (List Nat)->List Nat
 | []=>[]
 | [x]=>x
 | x::y::r=>x++c::jl c (y::r)
end
end L2
namespace HT
open PySem PySem.Spec PyProof.Rows
section
variable {prog:YE}{w:YF}{A:YT}{E:L'->XT->Prop}{s:XT}
end
end HT
namespace L2
variable {A:Around}{E:Value->Shared->Prop}{R:RK}{X:Cx}{pos:Pos}{s:Shared}
open PySem PySem.Spec PyProof.Rows
section
variable {e st:X'}{te ts:TE}{p2:YA}
end
section
variable {aa:List (F'×X6)}{σ:St}{H:Hp}
end
section
variable {nm q:K'}{C N:F'}{bs bm:List L'}{hdct:Bool}{sn:List K'}{sub:List L'}{ab:Bool}{col:Option Bool}{dd:Option F'}{k0 k1 k2 k3 k5:Option L'}{newId:String}
end
section
variable {C:F'}{x:K'}{np aI p1:YA}{j:Nat}{e:X'}{es:List X'}{t:TA}
variable {k:Nat}{ps:List K'}{sp:Sp}{f:F'}{fd:Z8}{aN:List V}{ds:List L'}
end
section
variable {prog:YE}{w:YF}
end
def Qe8:Option V->Option K'
 | some (.str x)=>B' x
 | _=>C'
abbrev Txs:=List (Option K')
structure PStr (X:Cx) (e:X') (f:Txs->Option K'):Prop where
 pe:PE X e (fun σ H Q=>∃ x,f (σ.map Qe8)=B' x/\Q (.str x) H)
structure PStrs (X:Cx) (es:List X') (f:Txs->Option (List K')):Prop where
 pa:PA X es (fun σ H Q=>∃ l,f (σ.map Qe8)=B' l/\Q (l.map V.str) H)
end L2
namespace K81
open PySem L2
def top (i:Nat):Yd:=QkQ.main.body.getD i (.Pass ⟨0,0,0,0⟩)
abbrev Ix:Yd:=gk (top 8) 0
theorem OI:aX ["self","name"] ["self","name"] (aF Ix):=.of (by decide +kernel)
abbrev IS:Yd:=gk (top 9) 0
theorem Sn:aX ["self","ring"] ["self","ring"] (aF IS):=.of (by decide +kernel)
abbrev Cz:Yd:=top 11
theorem R6:aX ["wishes"] ["wishes"] (aF Cz):=.of (by decide +kernel)
abbrev GD:Yd:=top 12
theorem x9:aX ["count","wishes","amounts","left","wish","amount"] ["count","wishes","amounts"] (aF GD):=.of (by decide +kernel)
abbrev pQ:Yd:=gk (top 15) 0
theorem Cs:aX ["self","count","wishes","number","wish"] ["self","count","wishes"] (aF pQ):=.of (by decide +kernel)
abbrev HV:Yd:=gk (top 15) 1
theorem R5:aX ["self","number"] ["self","number"] (aF HV):=.of (by decide +kernel)
abbrev Ji:Yd:=gk (top 15) 2
theorem RO:aX ["self","number","point"] ["self","number","point"] (aF Ji):=.of (by decide +kernel)
abbrev Qe9:Yd:=top 16
theorem rD:aX ["layout","count","pushers","pushed","time"] ["layout"] (aF Qe9):=.of (by decide +kernel)
abbrev Hm:Yd:=top 17
theorem rA:aX ["layout","pushers","pushed","number","other","lacking"] ["layout","pushers"] (aF Hm):=.of (by decide +kernel)
abbrev IR:Yd:=top 18
theorem xN:aX ["layout","pushers","point","time","ring"] ["layout","pushers","point"] (aF IR):=.of (by decide +kernel)
abbrev FP:Yd:=top 19
theorem rN:aX ["layout","far","came_by","end","point","distance"] ["layout"] (aF FP):=.of (by decide +kernel)
abbrev CF:Yd:=top 20
theorem vf:aX ["layout","far","came_by","waiting","point","need"] ["layout","far","came_by"] (aF CF):=.of (by decide +kernel)
abbrev yg:Yd:=top 21
theorem rM:aX ["layout","point","far","waiting","came_by","steps","number","slack","neighbour","distance"] ["layout","point","far","waiting","came_by"] (aF yg):=.of (by decide +kernel)
abbrev Ik:Yd:=top 22
theorem ye:aX ["layout","came_by","end","steps","point"] ["layout","came_by","end"] (aF Ik):=.of (by decide +kernel)
abbrev xD:Yd:=top 23
theorem pY:aX ["layout","steps","end","last","start","back","amount","number","point"] ["layout","steps","end"] (aF xD):=.of (by decide +kernel)
abbrev BO:Yd:=top 24
theorem qQ:aX ["count","wishes","parts","wish","old","new"] ["count","wishes"] (aF BO):=.of (by decide +kernel)
abbrev Da:Yd:=top 25
theorem xk:aX ["places","parts","least","place","part"] ["places","parts"] (aF Da):=.of (by decide +kernel)
abbrev HC:Yd:=top 26
theorem IA:aX ["weights","worths"] ["weights"] (aF HC):=.of (by decide +kernel)
abbrev vy:Yd:=top 27
theorem xu:aX ["count","wishes","layout","weights","worth"] ["count","wishes"] (aF vy):=.of (by decide +kernel)
abbrev B9:Yd:=top 39
theorem OO:aX ["name"] ["name"] (aF B9):=.of (by decide +kernel)
abbrev GP:Yd:=top 40
theorem R0:aX ["number"] ["number"] (aF GP):=.of (by decide +kernel)
abbrev Iu:Yd:=top 41
theorem RG:aX ["number","least","greatest"] ["number","least","greatest"] (aF Iu):=.of (by decide +kernel)
abbrev IM:Yd:=gk (top 42) 0
theorem P0:aX ["self"] ["self"] (aF IM):=.of (by decide +kernel)
abbrev xU:Yd:=gk (top 42) 1
theorem Sf:aX ["self","name","half"] ["self","name","half"] (aF xU):=.of (by decide +kernel)
abbrev vM:Yd:=gk (top 42) 2
theorem JO:aX ["self","one","other","span","weight","number"] ["self","one","other","span","weight"] (aF vM):=.of (by decide +kernel)
abbrev Ge:Yd:=gk (top 42) 3
theorem NT:aX ["self","one","other"] ["self","one","other"] (aF Ge):=.of (by decide +kernel)
abbrev GU:Yd:=gk (top 42) 4
theorem Oc:aX ["self","one","other","number"] ["self","one","other","number"] (aF GU):=.of (by decide +kernel)
abbrev Gg:Yd:=gk (top 42) 6
theorem S2:aX ["self"] ["self"] (aF Gg):=.of (by decide +kernel)
abbrev BN:Yd:=gk (top 42) 8
theorem N0:aX ["self"] ["self"] (aF BN):=.of (by decide +kernel)
abbrev CA:Yd:=gk (top 42) 9
theorem Th:aX ["self"] ["self"] (aF CA):=.of (by decide +kernel)
abbrev CJ:Yd:=gk (top 42) 10
theorem Og:aX ["self"] ["self"] (aF CJ):=.of (by decide +kernel)
abbrev GF:Yd:=gk (top 42) 11
theorem OM:aX ["self","name"] ["self","name"] (aF GF):=.of (by decide +kernel)
abbrev Go:Yd:=gk (top 42) 12
theorem OY:aX ["self","one","other"] ["self","one","other"] (aF Go):=.of (by decide +kernel)
abbrev Qfa:Yd:=top 44
theorem mh:aX ["arrows","start","end","ways","waiting","point","number","one","other","span","weight"] ["arrows","start","end"] (aF Qfa):=.of (by decide +kernel)
abbrev IL:Yd:=top 45
theorem Cj:aX ["net","kept","arrow"] ["net"] (aF IL):=.of (by decide +kernel)
abbrev BM:Yd:=top 46
theorem JM:aX ["net","kept"] ["net"] (aF BM):=.of (by decide +kernel)
abbrev BX:Yd:=top 48
theorem iC:aX ["net","numbers","turned_about","wishes","number","one","other","span","weight"] ["net"] (aF BX):=.of (by decide +kernel)
abbrev JI:Yd:=top 49
theorem CY:aX ["net","points","answer"] ["net"] (aF JI):=.of (by decide +kernel)
abbrev C2:Yd:=top 51
theorem QP:aX ["net","old","levels"] ["net","old","levels"] (aF C2):=.of (by decide +kernel)
abbrev rR:Yd:=top 52
theorem nX:aX ["net","old","flow","points","net_wishes","ground","wishes","helped","helper","point"] ["net","old","flow"] (aF rR):=.of (by decide +kernel)
abbrev Hz:Yd:=top 54
theorem PU:aX ["_law_script","_law_k"] ["_law_script","_law_k"] (aF Hz):=.of (by decide +kernel)
abbrev JF:Yd:=top 55
theorem rj:aX ["_law_cell","_law_many","_law_found","_law_number","_law_k"] ["_law_cell","_law_many"] (aF JF):=.of (by decide +kernel)
abbrev GM:Yd:=top 56
theorem nu:aX ["_law_names","_law_script","_law_net_here","_law_name","_law_cell","_law_xs","_law_one","_law_other","_law_span"] ["_law_names","_law_script"] (aF GM):=.of (by decide +kernel)
abbrev Gn:Yd:=top 57
theorem yh:aX ["_law_names","_law_xs","_law_old_here","_law_k","_law_name"] ["_law_names","_law_xs"] (aF Gn):=.of (by decide +kernel)
abbrev Cf:Yd:=top 58
theorem FQ:aX ["_law_net_here","_law_xs","_law_flow_here"] ["_law_net_here","_law_xs"] (aF Cf):=.of (by decide +kernel)
abbrev Cm:Yd:=top 59
theorem lX:aX ["_law_names","_law_wishes","_law_old_here","_law_flow_here","_law_due_here","_law_k","_law_wish","_law_helper","_law_name"] ["_law_names","_law_wishes","_law_old_here","_law_flow_here"] (aF Cm):=.of (by decide +kernel)
abbrev rF:Yd:=top 60
theorem iA:aX ["_law_script","_law_cell","_law_names","_law_net_here","_law_xs","_law_old_here","_law_flow_here","_law_handed","_law_told","_law_levels","_law_k","_law_name","_law_moves"] ["_law_script"] (aF rF):=.of (by decide +kernel)
variable {C q:F'}{D a am d:Int}{H H' H1:Hp}{Lk mP:Nat->Nat->Int->Prop}{P fl nd w:Nat->Int}{S:List F'}{base:Yg}{cm pu:Nat->Option Nat}{far wt:Nat->Option Int}{i j n p s size x:Nat}{l:List Int}{mg:K'->Option L'}{rk t:Nat->Nat}{v:V}{σ:St}
def lY:YA:=⟨95,33,95,69⟩
def mw:K':=(("search":K')++(".<locals>.":K'))++("<lambda>":K')
structure Zx where
 DrawError:F'
 NoName:F'
 Taken:F'
 Alone:F'
 NoNumber:F'
 TooMany:F'
 NoPoint:F'
 Ring:F'
 Layout:F'
 Net:F'
 QaZ:F'
structure Tx (K:V') (mg:K'->Option L') (a:Zx):Prop where
 g_DrawError:mg "DrawError"=B' (.ref a.DrawError)
 xb_DrawError:Zq K a.DrawError (.type "BaseException")=B' D'
 xt_DrawError:Qah K (.ref a.DrawError)=B' (.type "type")
 Qi1:mg "NoName"=B' (.ref a.NoName)
 xb_NoName:Zq K a.NoName (.type "BaseException")=B' D'
 xt_NoName:Qah K (.ref a.NoName)=B' (.type "type")
 Qi2:XC0 K a.NoName
 Qi3:mg "Taken"=B' (.ref a.Taken)
 xb_Taken:Zq K a.Taken (.type "BaseException")=B' D'
 xt_Taken:Qah K (.ref a.Taken)=B' (.type "type")
 Qi4:XC0 K a.Taken
 Qi5:mg "Alone"=B' (.ref a.Alone)
 xb_Alone:Zq K a.Alone (.type "BaseException")=B' D'
 xt_Alone:Qah K (.ref a.Alone)=B' (.type "type")
 Qi6:XC0 K a.Alone
 QdC:mg "NoNumber"=B' (.ref a.NoNumber)
 xb_NoNumber:Zq K a.NoNumber (.type "BaseException")=B' D'
 xt_NoNumber:Qah K (.ref a.NoNumber)=B' (.type "type")
 QdD:XC0 K a.NoNumber
 Qcy:mg "TooMany"=B' (.ref a.TooMany)
 xb_TooMany:Zq K a.TooMany (.type "BaseException")=B' D'
 xt_TooMany:Qah K (.ref a.TooMany)=B' (.type "type")
 Qcz:XC0 K a.TooMany
 g_NoPoint:mg "NoPoint"=B' (.ref a.NoPoint)
 xb_NoPoint:Zq K a.NoPoint (.type "BaseException")=B' D'
 xt_NoPoint:Qah K (.ref a.NoPoint)=B' (.type "type")
 Qi7:mg "Ring"=B' (.ref a.Ring)
 Qi8:Zq K a.Ring (.type "BaseException")=B' D'
 Qi9:Qah K (.ref a.Ring)=B' (.type "type")
 g_Layout:mg "Layout"=B' (.ref a.Layout)
 Yl:ZR K a.Layout
 QdE:zbt K a.Layout "coming"
 Qbe:zbt K a.Layout "flow"
 QdF:zbt K a.Layout "going"
 Qfb:zbt K a.Layout "leasts"
 QaG:zbt K a.Layout "needs"
 Qbf:zbt K a.Layout "ones"
 QbO:zbt K a.Layout "others"
 Qa0:zbt K a.Layout "places"
 g_Net:mg "Net"=B' (.ref a.Net)
 Yu:ZR K a.Net
 QcA:zbt K a.Net "arrows_by_number"
 Qcc:zbt K a.Net "halves"
 QcB:zbt K a.Net "most_bounds"
 QdG:zbt K a.Net "next_number"
 QcC:zbt K a.Net "same_pairs"
 Qja:Qca K mg a.NoPoint "NoPoint" "NoPoint.__init__" Ix ["self","name"]
 Qjb:Qcw K a.NoPoint "name"
 xg_NoPoint_name:Qe3 K a.NoPoint "name"
 Qjc:Qca K mg a.Ring "Ring" "Ring.__init__" IS ["self","ring"]
 Qjd:Qcw K a.Ring "ring"
 xg_Ring_ring:Qe3 K a.Ring "ring"
 Qje:Def K mg "weights_of" Cz ["wishes"] []
 Qjf:Def K mg "left_at_points" GD ["count","wishes","amounts"] []
 QdH:Ini K mg a.Layout "Layout" "Layout.__init__" pQ ["self","count","wishes"]
 Qcd:Met K a.Layout "slack" "Layout.slack" HV ["self","number"] []
 Qbg:Met K a.Layout "end_across" "Layout.end_across" Ji ["self","number","point"] []
 Qjg:Def K mg "fit" Qe9 ["layout"] []
 Qjh:Def K mg "push_once" Hm ["layout","pushers"] []
 Qji:Def K mg "ring_behind" IR ["layout","pushers","point"] []
 Qjj:Def K mg "send_once" FP ["layout"] []
 Qjk:Def K mg "search" CF ["layout","far","came_by"] []
 Qjl:Def K mg "look_around" yg ["layout","point","far","waiting","came_by"] []
 Qjm:Def K mg "way_back" Ik ["layout","came_by","end"] []
 Qjn:Def K mg "send_along" xD ["layout","steps","end"] []
 Qjo:Def K mg "parts_of" BO ["count","wishes"] []
 Qjp:Def K mg "from_nought" Da ["places","parts"] []
 Qjq:Def K mg "figure_worths" HC ["weights"] []
 Qjr:Def K mg "laid" vy ["count","wishes"] []
 Qjs:Def K mg "is_name" B9 ["name"] []
 Qjt:Def K mg "is_whole" GP ["number"] []
 Qju:Def K mg "in_range" Iu ["number","least","greatest"] []
 QdI:Ini K mg a.Net "Net" "Net.__init__" IM ["self"]
 m_Net_put_point:Met K a.Net "put_point" "Net.put_point" xU ["self","name","half"] []
 QdJ:Met K a.Net "put_point" "Net.put_point" xU ["self","name","half"] [.int 0]
 QdK:Met K a.Net "put_arrow" "Net.put_arrow" vM ["self","one","other","span","weight"] []
 m_Net_put_arrow3:Met K a.Net "put_arrow" "Net.put_arrow" vM ["self","one","other","span","weight"] [.int 1]
 m_Net_put_arrow2:Met K a.Net "put_arrow" "Net.put_arrow" vM ["self","one","other","span","weight"] [.int 1,.int 1]
 QdL:Met K a.Net "put_same" "Net.put_same" Ge ["self","one","other"] []
 QdM:Met K a.Net "put_most" "Net.put_most" GU ["self","one","other","number"] []
 Qam:Met K a.Net "points" "Net.points" Gg ["self"] []
 Qbh:Met K a.Net "arrows" "Net.arrows" BN ["self"] []
 QdN:Met K a.Net "sames" "Net.sames" CA ["self"] []
 QdO:Met K a.Net "mosts" "Net.mosts" CJ ["self"] []
 QcD:Met K a.Net "need_point" "Net.need_point" GF ["self","name"] []
 Qbi:Met K a.Net "need_two_points" "Net.need_two_points" Go ["self","one","other"] []
 Qjv:Def K mg "way" Qfa ["arrows","start","end"] []
 Qjw:Def K mg "kept_arrows" IL ["net"] []
 Qjx:Def K mg "turned" BM ["net"] []
 Qjy:Def K mg "wishes_of" BX ["net"] []
 Qjz:Def K mg "levelled" JI ["net"] []
 QjA:Def K mg "moves_of" C2 ["net","old","levels"] []
 QjB:Def K mg "wishes_again" rR ["net","old","flow"] []
 QjC:Def K mg "_law_cell_at" Hz ["_law_script","_law_k"] []
 QjD:Def K mg "_law_stream" JF ["_law_cell","_law_many"] []
 QjE:Def K mg "_law_net" GM ["_law_names","_law_script"] []
 QjF:Def K mg "_law_old" Gn ["_law_names","_law_xs"] []
 QjG:Def K mg "_law_flow" Cf ["_law_net_here","_law_xs"] []
 QjH:Def K mg "_law_due" Cm ["_law_names","_law_wishes","_law_old_here","_law_flow_here"] []
 d_law:Def K mg "law" rF ["_law_script"] []
 QcE:∃ t,mg "BASE"=B' (.int 16 t)
 QjI:∃ t,mg "GREATEST_MOST"=B' (.int 99 t)
 QjJ:∃ t,mg "GREATEST_WEIGHT"=B' (.int 1000000 t)
 QjK:∃ t,mg "LONGEST_NAME"=B' (.int 8 t)
 QjL:∃ t,mg "LONGEST_SPAN"=B' (.int 20 t)
 QjM:∃ t,mg "MOST_ARROWS"=B' (.int 40 t)
 QjN:∃ t,mg "MOST_MOSTS"=B' (.int 20 t)
 QjO:∃ t,mg "MOST_POINTS"=B' (.int 20 t)
 QjP:∃ t,mg "MOST_SAMES"=B' (.int 20 t)
 QjQ:∃ t,mg "SMALL_LETTERS"=B' (.str "abcdefghijklmnopqrstuvwxyz" t)
 QjR:∃ t,mg "WIDEST_HALF"=B' (.int 50 t)
 Qfc:BA K mg "search" a.QaZ
 QjS:Zq K a.Ring (.ref a.Ring)=B' D'
 QjT:Qbn K (.type "str") (.type "str")=B' D'
 QjU:Qbn K (.type "int") (.type "int")=B' D'
 QjV:Qbn K (.type "int") (.type "bool")=B' R'
 QjW:Qbn K (.type "list") (.type "list")=B' D'
 QjX:Qbn K (.type "tuple") (.type "tuple")=B' D'
 Qfd:mg "abs"=C'
 QjY:mg "all"=C'
 QjZ:mg "any"=C'
 Qj0:mg "bool"=C'
 QcF:mg "dict"=C'
 Qas:mg "enumerate"=C'
 Qj1:mg "int"=C'
 Qce:mg "isinstance"=C'
 Zb:mg "len"=C'
 Qcf:mg "list"=C'
 Qfe:mg "max"=C'
 QdP:mg "min"=C'
 Qa1:mg "range"=C'
 Qj2:mg "str"=C'
 Qff:mg "sum"=C'
 Qj3:mg "tuple"=C'
 Qcg:mg "zip"=C'
theorem Qj4 {a b c:TS}{D:dX} (I:St->Hp->Prop) (h:∀ σ H,I σ H->c D σ H) (g:∀ F:St->Hp->Prop,(∀ σ H,I σ H->F σ H)->fS a b {D with nx:=F} σ H):fS a (fS b c) D σ H:=g _ h
theorem Qj5 {a b c d e f o r:TS}{D:dX} (I:St->Hp->Prop) (h:∀ σ H,I σ H->r D σ H) (g:∀ F:St->Hp->Prop,(∀ σ H,I σ H->F σ H)->fS a (fS b (fS c (fS d (fS e (fS f o))))) {D with nx:=F} σ H):fS a (fS b (fS c (fS d (fS e (fS f (fS o r)))))) D σ H:=g _ h
def U' {α:Type} (f:α->α):Nat->α->α
 | 0,a=>a
 | k+1,a=>f (U' f k a)
theorem vL {α:Type} (f:α->α) (i:Nat) (a:α):∀ j,U' f (i+j) a=U' f j (U' f i a)
 | 0=>rfl
 | j+1=>by
  show f (U' f (i+j) a)=f (U' f j (U' f i a));rw[vL f i a j]
theorem IW:∀ (c:Nat) (f:Nat->Nat),(∀ i,i<=c->f i<c)->∃ i j,i<j/\j<=c/\f i=f j
 | 0,f,h=>X4 (h 0 (Uv _)) (Vy _)
 | c+1,f,h=>by
  by_cases e:∃ i,i<=c/\f i=f (c+1)
  .obtain⟨i,hi,q⟩:=e
   exact⟨i,c+1,by lia,Uv _,q⟩
  .have ne:∀ i,i<=c->f i≠f (c+1):=fun i hi q=>e ⟨i,hi,q⟩
   have hl:=h (c+1) (Uv _);obtain⟨i,j,ij,jc,q⟩:=IW c (fun i=>if f i=c then f (c+1) else f i) fun i hi=>by
    have h1:=h i (by lia);have h2:=ne i hi;show(if f i=c then f (c+1) else f i)<c;split<;>lia
   refine⟨i,j,ij,by lia,?_⟩;have n1:=ne i (by lia);have n2:=ne j jc;have q:(if f i=c then f (c+1) else f i)=if f j=c then f (c+1) else f j:=q;split at q<;>split at q<;>lia
structure Wn where
 c:Nat
 m:Nat
 on:Nat->Nat
 ot:Nat->Nat
 le:Nat->Int
structure Wn.Ok (N:Wn):Prop where
 on:∀ n,n<N.m->N.on n<N.c
 ot:∀ n,n<N.m->N.ot n<N.c
def Yh (N:Wn) (P:Nat->Int) (n:Nat):Int:=P (N.ot n)-P (N.on n)-N.le n
def up {α:Type} (f:Nat->α) (k:Nat) (v:α):Nat->α:=fun i=>if i=k then v else f i
theorem aY {α:Type} (f:Nat->α) (k:Nat) (v:α):up f k v k=v:=XR rfl
theorem aR {α:Type} (f:Nat->α){k:Nat} (v:α) (h:i≠k):up f k v i=f i:=W' h
def bk (N:Wn) (pu:Nat->Option Nat) (v:Nat):Nat:=match pu v with
 | some n=>N.on n
 | none=>v
def iD (N:Wn) (pu:Nat->Option Nat) (p:Nat):Nat->Int
 | 0=>0
 | k+1=>iD N pu p k+(match pu (U' (bk N pu) k p) with
  | some n=>N.le n
  | none=>0)
def Rg (N:Wn) (pu:Nat->Option Nat):Prop:=∀ p k,0<k->(∀ i,i<k->(pu (U' (bk N pu) i p)).isSome=D')->U' (bk N pu) k p=p->0<iD N pu p k
structure Fi (N:Wn) (t:Nat->Nat) (P:Nat->Int) (pu:Nat->Option Nat):Prop where
 a:∀ v n,pu v=B' n->n<N.m/\N.ot n=v/\P v<=P (N.on n)+N.le n
 b:Rg N pu
 c:∀ v,1<=t v->∃ n,pu v=B' n/\t v<=t (N.on n)+1
structure Rd (N:Wn) (t:Nat->Nat) (P:Nat->Int) (r k:Nat):Prop where
 g:∀ v,t v<=r
 d:∀ n,n<k->n<N.m->0<=Yh N P n\/r<=t (N.on n)
 e:∀ n,k<=n->n<N.m->0<=Yh N P n\/r<=t (N.on n)+1
theorem Fi.start (N:Wn):Fi N (fun _=>0) (fun _=>0) (fun _=>C'):=⟨fun v n h=>(by cases h),fun p k h1 h2=>X4 (h2 0 h1) (by decide),fun v h=>X4 h (by decide)⟩
theorem Rd.start (N:Wn) (P:Nat->Int):Rd N (fun _=>0) P 1 0:=⟨fun _=>VJ _,fun n h=>X4 h (Vy _),fun n _ _=>.inr (by lia)⟩
theorem Rd.next {N:Wn}{r:Nat} (h:Rd N t P r N.m):Rd N t P (r+1) 0:=by
 refine⟨fun v=>Vn (h.g v),fun n h=>X4 h (Vy _),fun n _ hm=>?_⟩;rcases h.d n hm hm with q|q
 .exact .inl q
 .exact .inr (by lia)
theorem Rd.skip {N:Wn}{r k:Nat} (h:Rd N t P r k) (s:0<=Yh N P k):Rd N t P r (k+1):=by
 refine⟨h.g,fun n h1 h2=>?_,fun n h1 h2=>h.e n (by lia) h2⟩;rcases VF n k with q|q
 .exact h.d n q h2
 .obtain rfl:n=k:=by lia
  exact .inl s
theorem IG {N:Wn}{pu:Nat->Option Nat}{P:Nat->Int}{p:Nat}:∀ k,(∀ i,i<k->∃ n,pu (U' (bk N pu) i p)=B' n/\P (U' (bk N pu) i p)<=P (N.on n)+N.le n)->P p<=P (U' (bk N pu) k p)+iD N pu p k
 | 0,_=>by
  show P p<=P p+0;lia
 | k+1,h=>by
  have ih:=IG k fun i hi=>h i (by lia)
  obtain⟨n,e,q⟩:=h k (by lia);have e2:U' (bk N pu) (k+1) p=N.on n:=by
   show bk N pu (U' (bk N pu) k p)=_;unfold bk;unfold bk at e;rw[e]
  have e3:iD N pu p (k+1)=iD N pu p k+N.le n:=by
   show iD N pu p k+_=_;rw[e]
  rw[e2,e3];lia
theorem GL {N:Wn}{pu:Nat->Option Nat}{P:Nat->Int}{p j:Nat}:∀ k,j<k->(∀ i,i<k->∃ n,pu (U' (bk N pu) i p)=B' n/\P (U' (bk N pu) i p)<=P (N.on n)+N.le n)->(∃ n,pu (U' (bk N pu) j p)=B' n/\P (U' (bk N pu) j p)<P (N.on n)+N.le n)->P p<P (U' (bk N pu) k p)+iD N pu p k
 | 0,hj,_,_=>X4 hj (Vy _)
 | k+1,hj,h,s=>by
  obtain⟨n,e,q⟩:=h k (by lia);have e2:U' (bk N pu) (k+1) p=N.on n:=by
   show bk N pu (U' (bk N pu) k p)=_;unfold bk;unfold bk at e;rw[e]
  have e3:iD N pu p (k+1)=iD N pu p k+N.le n:=by
   show iD N pu p k+_=_;rw[e]
  rw[e2,e3];by_cases c:j<k
  .have ih:=GL k c (fun i hi=>h i (by lia)) s
   lia
  .obtain rfl:j=k:=by lia
   obtain⟨n',e',q'⟩:=s;rw[e] at e';cases e'
   have:=IG j fun i hi=>h i (by lia)
   lia
section
variable {N:Wn}{r k:Nat}
theorem CL (s:Yh N P k<0) (w:Nat):P w<=up P (N.ot k) (P (N.ot k)+(0-Yh N P k)) w:=by
 unfold up;split
 .rename_i e
  rw[e];lia
 .lia
theorem Qfg (g:∀ v,t v<=r) (w:Nat):t w<=up t (N.ot k) r w:=by
 unfold up;split
 .exact g w
 .exact Uv _
theorem PY (f:Fi N t P pu) (h:Rd N t P r k) (hk:k<N.m) (s:Yh N P k<0):Fi N (up t (N.ot k) r) (up P (N.ot k) (P (N.ot k)+(0-Yh N P k))) (up pu (N.ot k) (B' k)):=by
 refine⟨fun w n e=>?_,fun p k' h0 hs hc=>?_,fun w hw=>?_⟩
 .by_cases c:w=N.ot k
  .subst c
   rw[aY] at e;cases e
   refine⟨hk,O,?_⟩;rw[aY];have:=CL s (N.on k);unfold Yh at this ⊢;lia
  .rw[aR _ _ c] at e
   obtain⟨a1,a2,a3⟩:=f.a w n e;refine⟨a1,a2,?_⟩;rw[aR _ _ c];have:=CL s (N.on n);lia
 .have old:∀ i,i<k'->∃ n,up pu (N.ot k) (B' k) (U' (bk N (up pu (N.ot k) (B' k))) i p)=B' n/\P (U' (bk N (up pu (N.ot k) (B' k))) i p)<=P (N.on n)+N.le n:=fun i hi=>by
   obtain⟨n,e⟩:=ZI.mp (hs i hi);refine⟨n,e,?_⟩;generalize U' (bk N (up pu (N.ot k) (B' k))) i p=w at e;by_cases c:w=N.ot k
   .subst c
    rw[aY] at e;cases e
    unfold Yh at s;lia
   .rw[aR _ _ c] at e
    exact(f.a w n e).2.2
  by_cases c:∃ j,j<k'/\U' (bk N (up pu (N.ot k) (B' k))) j p=N.ot k
  .obtain⟨j,hj,e⟩:=c
   have z:=GL k' hj old ⟨k,by rw[e,aY],by
    rw[e];unfold Yh at s;lia⟩
   rw[hc] at z;lia
  .have ne:∀ i,i<k'->U' (bk N (up pu (N.ot k) (B' k))) i p≠N.ot k:=fun i hi e=>c ⟨i,hi,e⟩
   have same:∀ i,i<=k'->U' (bk N (up pu (N.ot k) (B' k))) i p=U' (bk N pu) i p/\iD N (up pu (N.ot k) (B' k)) p i=iD N pu p i:=fun i=>by
    induction i with
    | zero=>exact fun _=>⟨O,O⟩
    | succ i ih=>
     intro hi;obtain⟨e1,e2⟩:=ih (by lia);have n1:=ne i (by lia);rw[e1] at n1
     constructor
     .show bk N (up pu (N.ot k) (B' k)) (U' (bk N (up pu (N.ot k) (B' k))) i p)=bk N pu (U' (bk N pu) i p)
      rw[e1];unfold bk at n1 ⊢;rw[aR _ _ n1]
     .show iD N (up pu (N.ot k) (B' k)) p i+_=iD N pu p i+_
      rw[e1,e2,aR _ _ n1]
   rw[(same k' (Uv _)).2];refine f.b p k' h0 (fun i hi=>?_) ?_
   .have:=hs i hi
    have n1:=ne i hi;rw[(same i (by lia)).1] at this n1;rw[aR _ _ n1] at this;exact this
   .rw[<- (same k' (Uv _)).1]
    exact hc
 .by_cases c:w=N.ot k
  .subst c
   refine⟨k,aY _ _ _,?_⟩;rw[aY];rcases h.e k (Uv _) hk with q|q
   .lia
   .have:=Qfg (N:=N) (k:=k) h.g (N.on k)
    lia
  .rw[aR _ _ c] at hw
   obtain⟨n,e1,e2⟩:=f.c w hw;refine⟨n,by rw[aR _ _ c];exact e1,?_⟩;rw[aR t r c];have:=Qfg (N:=N) (k:=k) h.g (N.on n);lia
theorem Ij (s:Yh N P k<0) (n:Nat) (c:N.on n≠N.ot k):Yh N P n<=Yh N (up P (N.ot k) (P (N.ot k)+(0-Yh N P k))) n:=by
 have:=CL s (N.ot n);generalize e:Yh N P k=z at this s;unfold Yh;rw[aR _ _ c];lia
theorem Qg (h:Rd N t P r k) (s:Yh N P k<0):Rd N (up t (N.ot k) r) (up P (N.ot k) (P (N.ot k)+(0-Yh N P k))) r (k+1):=by
 refine⟨fun w=>?_,fun n h1 h2=>?_,fun n h1 h2=>?_⟩
 .unfold up
  split
  .exact Uv _
  .exact h.g w
 .by_cases c:N.on n=N.ot k
  .right
   rw[c,aY];exact Uv _
  .rcases VF n k with q|q
   .rcases h.d n q h2 with z|z
    .left
     have:=Ij s n c;lia
    .right
     rw[aR _ _ c];exact z
   .obtain rfl:n=k:=by lia
    left
    have e:Yh N (up P (N.ot n) (P (N.ot n)+(0-Yh N P n))) n=0:=by
     generalize ez:Yh N P n=z;unfold Yh at ez ⊢;rw[aR _ _ c,aY];lia
    lia
 .by_cases c:N.on n=N.ot k
  .right
   rw[c,aY];lia
  .rcases h.e n (by lia) h2 with z|z
   .left
    have:=Ij s n c;lia
   .right
    rw[aR _ _ c];exact z
theorem Sm (ok:N.Ok) (f:Fi N t P pu){v:Nat} (ht:N.c<=t v) (hv:v<N.c):(∀ i,(pu (U' (bk N pu) i v)).isSome=D')/\∃ d,0<d/\d<=N.c/\U' (bk N pu) d (U' (bk N pu) N.c v)=U' (bk N pu) N.c v:=by
 have st:∀ w n,pu w=B' n->bk N pu w=N.on n:=fun w n e=>by unfold bk;rw[e]
 have tt:∀ i,i<=N.c->N.c<=t (U' (bk N pu) i v)+i:=fun i=>by
  induction i with
  | zero=>exact fun _=>ht
  | succ i ih=>
   intro hi;have q:=ih (by lia);obtain⟨n,e1,e2⟩:=f.c _ (show 1<=t (U' (bk N pu) i v) by lia);show N.c<=t (bk N pu (U' (bk N pu) i v))+(i+1);rw[st _ _ e1];lia
 have pd:∀ i,i<N.c->∃ n,pu (U' (bk N pu) i v)=B' n:=fun i hi=>by
  have q:=tt i (by lia);obtain⟨n,e1,_⟩:=f.c _ (show 1<=t (U' (bk N pu) i v) by lia);exact⟨n,e1⟩
 have lt:∀ i,i<=N.c->U' (bk N pu) i v<N.c:=fun i hi=>by
  cases i with
  | zero=>exact hv
  | succ i=>
   obtain⟨n,e⟩:=pd i (by lia);show bk N pu (U' (bk N pu) i v)<N.c;rw[st _ _ e];exact ok.on n (f.a _ _ e).1
 obtain⟨i,j,ij,jc,q⟩:=IW N.c (fun i=>U' (bk N pu) i v) lt;have q:U' (bk N pu) i v=U' (bk N pu) j v:=q;have Dm:∀ s,j<=s->U' (bk N pu) s v=U' (bk N pu) (s-(j-i)) v:=fun s hs=>by
  have e1:s=j+(s-j):=by lia
  have e2:s-(j-i)=i+(s-j):=by lia
  rw[e2,vL,q,<- vL,<- e1]
 refine⟨fun s=>?_,j-i,by lia,by lia,?_⟩
 .induction s using Nat.strongRecOn with
  | ind s ih=>
   by_cases c:s<N.c
   .obtain⟨n,e⟩:=pd s c
    rw[e];rfl
   .rw[Dm s (by lia)]
    exact ih _ (by lia)
 .rw[<- vL,Dm (N.c+(j-i)) (by lia)]
  congr 1;lia
end
def sm (f:Nat->Int):Nat->Int
 | 0=>0
 | n+1=>sm f n+f n
theorem gm {f g:Nat->Int}:∀ n,(∀ i,i<n->f i=g i)->sm f n=sm g n
 | 0,_=>rfl
 | n+1,h=>by
  show sm f n+f n=sm g n+g n;rw[gm n fun i hi=>h i (by lia),h n (by lia)]
theorem qf:∀ n,sm (fun _=>0) n=0
 | 0=>rfl
 | n+1=>by
  show sm (fun _=>0) n+0=0;rw[qf n];rfl
theorem rK (f g:Nat->Int):∀ n,sm (fun i=>f i+g i) n=sm f n+sm g n
 | 0=>rfl
 | n+1=>by
  show sm (fun i=>f i+g i) n+(f n+g n)=sm f n+f n+(sm g n+g n);rw[rK f g n];lia
theorem nR (f g:Nat->Int):∀ n,sm (fun i=>f i-g i) n=sm f n-sm g n
 | 0=>rfl
 | n+1=>by
  show sm (fun i=>f i-g i) n+(f n-g n)=sm f n+f n-(sm g n+g n);rw[nR f g n];lia
theorem HH (k:Int) (f:Nat->Int):∀ n,sm (fun i=>k*f i) n=k*sm f n
 | 0=>(Int.mul_zero k).symm
 | n+1=>by
  show sm (fun i=>k*f i) n+k*f n=k*(sm f n+f n);rw[HH k f n,Int.mul_add]
theorem Gx (f:Nat->Nat->Int) (m:Nat):∀ n,sm (fun i=>sm (f i) m) n=sm (fun j=>sm (fun i=>f i j) n) m
 | 0=>(qf m).symm
 | n+1=>by
  show sm (fun i=>sm (f i) m) n+sm (f n) m=sm (fun j=>sm (fun i=>f i j) n+f n j) m;rw[Gx f m n,rK]
theorem vz {f:Nat->Int}:∀ n,(∀ i,i<n->0<=f i)->0<=sm f n
 | 0,_=>VA _
 | n+1,h=>by
  have:=vz n fun i hi=>h i (by lia)
  have:=h n (by lia);show 0<=sm f n+f n;lia
theorem vK (k:Nat) (v:Int):∀ n,sm (fun i=>if i=k then v else 0) n=if k<n then v else 0
 | 0=>rfl
 | n+1=>by
  show sm (fun i=>if i=k then v else 0) n+(if n=k then v else 0)=_;rw[vK k v n];by_cases c1:k<n
  .rw[XR c1,W' (by lia),XR (by lia)]
   lia
  .by_cases c2:n=k
   .rw[W' c1,XR c2,XR (by lia)]
    lia
   .rw[W' c1,W' c2,W' (by lia)]
    lia
theorem xp {f:Nat->Int}{k:Nat}:∀ n,(∀ i,i<n->f i<=0)->k<n->f k<0->sm f n<0
 | 0,_,h,_=>X4 h (Vy _)
 | n+1,h,hk,hf=>by
  show sm f n+f n<0;have:=h n (by lia);have nn:sm f n<=0:=by
   have:=vz (f:=fun i=>0-f i) n fun i hi=>by
    have:=h i (by lia);lia
   rw[nR,qf] at this;lia
  by_cases c:k<n
  .have:=xp n (fun i hi=>h i (by lia)) c hf
   lia
  .obtain rfl:k=n:=by lia
   lia
def Ye (N:Wn) (a:Nat->Int) (p:Nat):Int:=sm (fun n=>(if N.ot n=p then a n else 0)-(if N.on n=p then a n else 0)) N.m
theorem pick (S:Nat->Bool){q c:Nat} (hq:q<c) (x:Int):sm (fun p=>if S p=D' then(if q=p then x else 0) else 0) c=if S q=D' then x else 0:=by
 have e:sm (fun p=>if S p=D' then(if q=p then x else 0) else 0) c=sm (fun p=>if p=q then(if S q=D' then x else 0) else 0) c:=gm c fun p _=>by
  by_cases h:p=q
  .subst h
   simp
  .rw[W' h,W' (show ¬ q=p from fun z=>h z.symm)]
   simp
 rw[e,vK,XR hq]
theorem yn {N:Wn} (ok:N.Ok) (a:Nat->Int) (S:Nat->Bool):sm (fun p=>if S p=D' then Ye N a p else 0) N.c=sm (fun n=>(if S (N.ot n)=D' then a n else 0)-(if S (N.on n)=D' then a n else 0)) N.m:=by
 have e:sm (fun p=>if S p=D' then Ye N a p else 0) N.c=sm (fun p=>sm (fun n=>if S p=D' then((if N.ot n=p then a n else 0)-(if N.on n=p then a n else 0)) else 0) N.m) N.c:=gm _ fun p _=>by
  by_cases h:S p=D'
  .rw[XR h]
   unfold Ye;exact gm _ fun n _=>(XR h).symm
  .rw[W' h]
   refine(qf N.m).symm.trans (gm _ fun n _=>(W' h).symm)
 rw[e,Gx];refine gm _ fun n hn=>?_
 have e2:sm (fun p=>if S p=D' then((if N.ot n=p then a n else 0)-(if N.on n=p then a n else 0)) else 0) N.c=sm (fun p=>(if S p=D' then(if N.ot n=p then a n else 0) else 0)-(if S p=D' then(if N.on n=p then a n else 0) else 0)) N.c:=gm _ fun p _=>by
  by_cases h:S p=D'<;>simp[h]
 rw[e2,nR,pick S (ok.ot n hn),pick S (ok.on n hn)]
theorem cut {N:Wn} (ok:N.Ok) (hw:∀ n,n<N.m->0<=w n) (hnd:∀ p,p<N.c->nd p=Ye N w p-Ye N fl p) (hf:∀ n,n<N.m->0<=fl n) (S:Nat->Bool)
  (h1:∀ n,n<N.m->S (N.on n)=D'->S (N.ot n)=D') (h2:∀ n,n<N.m->S (N.ot n)=D'->0<fl n->S (N.on n)=D'):0<=sm (fun p=>if S p=D' then nd p else 0) N.c:=by
 have e:sm (fun p=>if S p=D' then nd p else 0) N.c=sm (fun p=>(if S p=D' then Ye N w p else 0)-(if S p=D' then Ye N fl p else 0)) N.c:=gm _ fun p hp=>by
  by_cases h:S p=D'
  .rw[XR h,XR h,XR h,hnd p hp]
  .rw[W' h,W' h,W' h]
   rfl
 rw[e,nR,yn ok,yn ok,<- nR];refine vz _ fun n hn=>?_
 have a1:=h1 n hn;have a2:=h2 n hn;have a3:=hw n hn;have a4:=hf n hn;by_cases c1:S (N.on n)=D'
 .rw[XR (a1 c1),XR (a1 c1),XR c1,XR c1]
  lia
 .by_cases c2:S (N.ot n)=D'
  .rw[XR c2,XR c2,W' c1,W' c1]
   have:¬ 0<fl n:=fun z=>c1 (a2 c2 z)
   lia
  .rw[W' c2,W' c2,W' c1,W' c1]
   lia
theorem Jz {N:Wn} (ok:N.Ok) (hnd:∀ p,p<N.c->nd p=Ye N w p-Ye N fl p):sm nd N.c=0:=by
 have e:sm nd N.c=sm (fun p=>(if (fun _=>D') p=D' then Ye N w p else 0)-(if (fun _=>D') p=D' then Ye N fl p else 0)) N.c:=gm _ fun p hp=>by
  rw[XR rfl,XR rfl,hnd p hp]
 rw[e,nR,yn ok,yn ok,<- nR,<- qf N.m];refine gm _ fun n _=>?_
 simp
theorem RX {N:Wn} (ok:N.Ok) (hnd:∀ p,p<N.c->nd p=Ye N w p-Ye N fl p){k:Nat} (hk:k<N.c) (pos:0<nd k):∃ p,p<N.c/\nd p<0:=by
 by_cases c:∃ p,p<N.c/\nd p<0
 .exact c
 .exfalso
  have z:=Jz ok hnd;have q:=xp (f:=fun p=>0-nd p) (k:=k) N.c (fun i hi=>by
   have:¬ nd i<0:=fun z=>c ⟨i,hi,z⟩
   lia) hk (by lia)
  rw[nR,qf,z] at q;lia
def Y9 (N:Wn) (P fl:Nat->Int) (q p n:Nat) (d:Int):Prop:=n<N.m/\((N.on n=q/\N.ot n=p/\d=Yh N P n)\/(N.ot n=q/\N.on n=p/\0<fl n/\d=0))
structure Ti (N:Wn) (P fl:Nat->Int):Prop where
 s:∀ n,n<N.m->0<=Yh N P n
 f:∀ n,n<N.m->0<=fl n
 t:∀ n,n<N.m->0<fl n->Yh N P n=0
theorem Y9.nn {N:Wn}{q:Nat} (h:Ti N P fl) (a:Y9 N P fl q p n d):0<=d:=by
 obtain⟨hn,⟨_,_,rfl⟩|⟨_,_,_,rfl⟩⟩:=a
 .exact h.s n hn
 .exact VA _
theorem Y9.lt {N:Wn}{q:Nat} (ok:N.Ok) (a:Y9 N P fl q p n d):p<N.c:=by
 obtain⟨hn,⟨_,rfl,_⟩|⟨_,rfl,_⟩⟩:=a
 .exact ok.ot n hn
 .exact ok.on n hn
structure Se (N:Wn) (P fl nd:Nat->Int) (far wt:Nat->Option Int) (cm:Nat->Option Nat) (rk:Nat->Nat) (size:Nat) (Lk:Nat->Nat->Int->Prop):Prop where
 dj:∀ p a,far p=B' a->wt p=C'
 lo:∀ p a q b,far p=B' a->wt q=B' b->a<=b
 nn:∀ p a,far p=B' a\/wt p=B' a->0<=a/\p<N.c
 ro:∀ p,p<N.c->nd p<0->(far p=B' 0\/wt p=B' 0)/\cm p=C'
 cb:∀ p a,far p=B' a\/wt p=B' a->¬ nd p<0->∃ n q d b,cm p=B' n/\Y9 N P fl q p n d/\far q=B' b/\a=b+d/\q≠p/\(far p=B' a->rk q<rk p)
 ck:∀ p n,cm p=B' n->∃ a,far p=B' a\/wt p=B' a
 rk:∀ p a,far p=B' a->rk p<size
 ar:∀ q n d p a,Y9 N P fl q p n d->Lk q n d->far q=B' a->∃ b,(far p=B' b\/wt p=B' b)/\b<=a+d
section
variable {N:Wn}
theorem Se.start (h:∀ p,wt p=if p<N.c/\nd p<0 then B' 0 else C') (rk:Nat->Nat) (Lk:Nat->Nat->Int->Prop):Se N P fl nd (fun _=>C') wt (fun _=>C') rk 0 Lk:=by
 have z:∀ p a,wt p=B' a->a=0/\p<N.c/\nd p<0:=fun p a e=>by
  rw[h p] at e;split at e
  .cases e
   exact⟨O,by assumption⟩
  .cases e
 refine⟨fun p a e=>(by cases e),fun p a q b e=>(by cases e),fun p a e=>?_,fun p h1 h2=>⟨.inr ?_,O⟩,fun p a e ne=>?_,fun p n e=>(by cases e),fun p a e=>(by cases e),fun q n d p a _ _ e=>(by cases e)⟩
 .rcases e with e|e
  .cases e
  .obtain⟨rfl,h1,_⟩:=z p a e
   exact⟨VA _,h1⟩
 .rw[h p,XR ⟨h1,h2⟩]
 .rcases e with e|e
  .cases e
  .exact X4 (z p a e).2.2 ne
theorem Se.pop (h:Se N P fl nd far wt cm rk size fun q _ _=>far q≠C') (hx:wt x=B' a) (mn:∀ q b,wt q=B' b->a<=b) :
  Se N P fl nd (up far x (B' a)) (up wt x C') cm (up rk x size) (size+1) (fun q _ _=>far q≠C')/\(∀ q b,up far x (B' a) q=B' b->b<=a)/\far x=C':=by
 have fx:far x=C':=by
  cases e:far x with
  | none=>rfl
  | some b=>
   have:=h.dj x b e;rw[hx] at this;cases this
 have nx:∀ q b,far q=B' b->q≠x:=fun q b e z=>by
  rw[z,fx] at e;cases e
 have val:∀ p b,up far x (B' a) p=B' b\/up wt x C' p=B' b->far p=B' b\/wt p=B' b:=fun p b e=>by
  by_cases c:p=x
  .subst c
   rw[aY,aY] at e;rcases e with e|e
   .cases e
    exact .inr hx
   .cases e
  .rw[aR _ _ c,aR _ _ c] at e
   exact e
 have oO:∀ p b,far p=B' b\/wt p=B' b->up far x (B' a) p=B' b\/up wt x C' p=B' b:=fun p b e=>by
  by_cases c:p=x
  .subst c
   rw[aY];rw[fx,hx] at e;rcases e with e|e
   .cases e
   .cases e
    exact .inl rfl
  .rw[aR _ _ c,aR _ _ c]
   exact e
 refine⟨⟨fun p b e=>?_,fun p b q b' e e'=>?_,fun p b e=>h.nn p b (val p b e),fun p h1 h2=>?_,fun p b e ne=>?_,fun p n e=>?_,fun p b e=>?_,fun q n d p b A L e=>?_⟩,fun q b e=>?_,fx⟩
 .by_cases c:p=x
  .rw[c,aY]
  .rw[aR _ _ c] at e ⊢
   exact h.dj p b e
 .by_cases c':q=x
  .rw[c',aY] at e'
   cases e'
  .rw[aR _ _ c'] at e'
   by_cases c:p=x
   .rw[c,aY] at e
    cases e
    exact mn q b' e'
   .rw[aR _ _ c] at e
    exact h.lo p b q b' e e'
 .obtain⟨r1,r2⟩:=h.ro p h1 h2
  exact⟨oO p 0 r1,r2⟩
 .obtain⟨n,q,d,b',e1,e2,e3,e4,e5,e6⟩:=h.cb p b (val p b e) ne
  have nq:=nx q b' e3;refine⟨n,q,d,b',e1,e2,by rw[aR _ _ nq];exact e3,e4,e5,fun ep=>?_⟩;rw[aR rk size nq];by_cases c:p=x
  .rw[c,aY]
   exact h.rk q b' e3
  .rw[aR _ _ c] at ep ⊢
   exact e6 ep
 .obtain⟨b,e1⟩:=h.ck p n e
  exact⟨b,oO p b e1⟩
 .by_cases c:p=x
  .rw[c,aY]
   lia
  .rw[aR _ _ c] at e ⊢
   have:=h.rk p b e;lia
 .have nq:q≠x:=fun z=>L (by rw[z];exact fx)
  rw[aR _ _ nq] at e;obtain⟨b',e1,e2⟩:=h.ar q n d p b A L e;exact⟨b',oO p b' e1,e2⟩
 .by_cases c:q=x
  .rw[c,aY] at e
   cases e
   exact VA _
  .rw[aR _ _ c] at e
   exact h.lo q b x a e hx
theorem Se.keep (ti:Ti N P fl) (h:Se N P fl nd far wt cm rk size Lk) (hx:far x=B' a) (mx:∀ q b,far q=B' b->b<=a) (A:Y9 N P fl x p n d)
  (st:(∃ b,far p=B' b)\/∃ b,wt p=B' b/\b<=a+d) (hl:∀ q n' d',mP q n' d'->Lk q n' d'\/(q=x/\n'=n/\d'=d)) (ta:∀ p',Y9 N P fl x p' n d->p'=p):Se N P fl nd far wt cm rk size mP:=by
 refine⟨h.dj,h.lo,h.nn,h.ro,h.cb,h.ck,h.rk,fun q n' d' p' b A' L e=>?_⟩;rcases hl q n' d' L with l|⟨rfl,rfl,rfl⟩
 .exact h.ar q n' d' p' b A' l e
 .rw[hx] at e
  cases e
  obtain rfl:=ta p' A';rcases st with⟨b,e1⟩|⟨b,e1,e2⟩
  .have:=mx p' b e1
   have:=A.nn ti;exact⟨b,.inl e1,by lia⟩
  .exact⟨b,.inr e1,e2⟩
theorem Se.near (ok:N.Ok) (ti:Ti N P fl) (h:Se N P fl nd far wt cm rk size Lk) (hx:far x=B' a) (mx:∀ q b,far q=B' b->b<=a) (A:Y9 N P fl x p n d)
  (fp:far p=C') (st:∀ b,wt p=B' b->a+d<b) (hl:∀ q n' d',mP q n' d'->Lk q n' d'\/(q=x/\n'=n/\d'=d)) (ta:∀ p',Y9 N P fl x p' n d->p'=p) :
  Se N P fl nd far (up wt p (B' (a+d))) (up cm p (B' n)) rk size mP:=by
 have dn:=A.nn ti;have an:=(h.nn x a (.inl hx)).1;have Kl:x≠p:=fun z=>by
  rw[z,fp] at hx;cases hx
 refine⟨fun q b e=>?_,fun q b q' b' e e'=>?_,fun q b e=>?_,fun q h1 h2=>?_,fun q b e ne=>?_,fun q n' e=>?_,h.rk,fun q n' d' p' b A' L e=>?_⟩
 .have c:q≠p:=fun z=>by
   rw[z,fp] at e;cases e
  rw[aR _ _ c];exact h.dj q b e
 .by_cases c:q'=p
  .rw[c,aY] at e'
   cases e'
   have:=mx q b e;lia
  .rw[aR _ _ c] at e'
   exact h.lo q b q' b' e e'
 .by_cases c:q=p
  .rw[c,aY,fp] at e
   rcases e with e|e
   .cases e
   .cases e
    rw[c];exact⟨by lia,A.lt ok⟩
  .rw[aR _ _ c] at e
   exact h.nn q b e
 .obtain⟨r1,r2⟩:=h.ro q h1 h2
  have c:q≠p:=fun z=>by
   rw[z,fp] at r1;rcases r1 with r1|r1
   .cases r1
   .have:=st 0 r1
    lia
  rw[aR _ _ c,aR _ _ c];exact⟨r1,r2⟩
 .by_cases c:q=p
  .rw[c,aY,fp] at e
   rcases e with e|e
   .cases e
   .cases e
    rw[c];exact⟨n,x,d,a,aY _ _ _,A,hx,O,Kl,fun z=>by rw[fp] at z;cases z⟩
  .rw[aR _ _ c] at e
   obtain⟨n',q',d',b',e1,e2⟩:=h.cb q b e ne;exact⟨n',q',d',b',by rw[aR _ _ c];exact e1,e2⟩
 .by_cases c:q=p
  .rw[c,aY]
   exact⟨a+d,.inr O⟩
  .rw[aR _ _ c] at e ⊢
   exact h.ck q n' e
 .have aL:∀ b',(far p'=B' b'\/wt p'=B' b')->b'<=b+d'->∃ Bi,(far p'=B' Bi\/up wt p (B' (a+d)) p'=B' Bi)/\Bi<=b+d':=fun b' e1 e2=>by
   by_cases c:p'=p
   .rw[c,fp] at e1
    rcases e1 with e1|e1
    .cases e1
    .have:=st b' e1
     exact⟨a+d,.inr (by rw[c,aY]),by lia⟩
   .exact⟨b',by rw[aR _ _ c];exact e1,e2⟩
  rcases hl q n' d' L with l|⟨rfl,rfl,rfl⟩
  .obtain⟨b',e1,e2⟩:=h.ar q n' d' p' b A' l e
   exact aL b' e1 e2
  .rw[hx] at e
   cases e
   obtain rfl:=ta p' A';exact⟨a+d',.inr (aY _ _ _),VA _⟩
theorem Se.more (ok:N.Ok) (hw:∀ n,n<N.m->0<=w n) (hnd:∀ p,p<N.c->nd p=Ye N w p-Ye N fl p) (ti:Ti N P fl) (h:Se N P fl nd far wt cm rk size fun q _ _=>far q≠C')
  (np:∀ p a,far p=B' a->nd p<=0){k:Nat} (hk:k<N.c) (pos:0<nd k):∃ p a,wt p=B' a:=by
 by_cases c:∃ p a,wt p=B' a
 .exact c
 .exfalso
  have nw:∀ p a,wt p=B' a->False:=fun p a e=>c ⟨p,a,e⟩
  obtain⟨r,hr,lW⟩:=RX ok hnd hk pos;have cl:∀ q p n d,Y9 N P fl q p n d->(far q).isSome=D'->(far p).isSome=D':=fun q p n d A e=>by
   obtain⟨a,e⟩:=ZI.mp e;obtain⟨b,e1,_⟩:=h.ar q n d p a A (by rw[e];exact fun z=>by cases z) e;rcases e1 with e1|e1
   .rw[e1]
    rfl
   .exact(nw _ _ e1).elim
  have z:=cut ok hw hnd ti.f (fun p=>(far p).isSome) (fun n hn e=>cl _ _ n _ ⟨hn,.inl ⟨O,O,O⟩⟩ e) (fun n hn e f=>cl _ _ n 0 ⟨hn,.inr ⟨O,O,f,O⟩⟩ e);have y:=xp (f:=fun p=>if (far p).isSome=D' then nd p else 0) (k:=r) N.c (fun i _=>by
   by_cases e:(far i).isSome=D'
   .obtain⟨a,e'⟩:=ZI.mp e
    rw[XR e];exact np i a e'
   .rw[W' e]
    exact VA _) hr (by
   have e:(far r).isSome=D':=by
    rcases(h.ro r hr lW).1 with e|e
    .rw[e]
     rfl
    .exact(nw _ _ e).elim
   rw[XR e];exact lW)
  lia
def mv (P:Nat->Int) (far:Nat->Option Int) (D:Int) (p:Nat):Int:=match far p with
 | some b=>P p+(D-b)
 | none=>P p
theorem Se.moved (ti:Ti N P fl) (h:Se N P fl nd far wt cm rk size fun q _ _=>q≠x/\far q≠C') (hx:far x=B' D) (mx:∀ q b,far q=B' b->b<=D) (wl:∀ q b,wt q=B' b->D<=b):Ti N (mv P far D) fl:=by
 have E7:∀ q p n d,Y9 N P fl q p n d->q≠x->∀ a,far q=B' a->(∃ b,far p=B' b/\b<=a+d)\/(D<=a+d/\far p=C'):=fun q p n d A ne a e=>by
  obtain⟨b,e1,e2⟩:=h.ar q n d p a A ⟨ne,by rw[e];exact fun z=>by cases z⟩ e;rcases e1 with e1|e1
  .exact .inl ⟨b,e1,e2⟩
  .have:=wl p b e1
   refine .inr ⟨by lia,?_⟩;cases e3:far p with
   | none=>rfl
   | some z=>
    rw[h.dj p z e3] at e1;cases e1
 have qM:∀ p b,far p=B' b->mv P far D p=P p+(D-b):=fun p b e=>by unfold mv;rw[e]
 have Aj:∀ p,far p=C'->mv P far D p=P p:=fun p e=>by unfold mv;rw[e]
 have EA:∀ p,P p<=mv P far D p:=fun p=>by
  cases e:far p with
  | none=>rw[Aj p e];exact VA _
  | some b=>
   rw[qM p b e];have:=mx p b e;lia
 have Dg:mv P far D x=P x:=by rw[qM x D hx];lia
 have sl:∀ n,n<N.m->0<=Yh N (mv P far D) n:=fun n hn=>by
  have s0:=ti.s n hn;have g:=EA (N.ot n);unfold Yh at s0 ⊢;by_cases c:N.on n=x
  .rw[c,Dg]
   rw[c] at s0;lia
  .cases e:far (N.on n) with
   | none=>
    rw[Aj _ e];lia
   | some a=>
    rw[qM _ _ e];rcases E7 (N.on n) (N.ot n) n _ ⟨hn,.inl ⟨rfl,rfl,rfl⟩⟩ c a e with⟨b,e1,e2⟩|⟨e1,e2⟩
    .rw[qM _ _ e1]
     unfold Yh at e2;lia
    .unfold Yh at e1
     lia
 refine⟨sl,ti.f,fun n hn f=>?_⟩;have t0:=ti.t n hn f;have s1:=sl n hn;have:Yh N (mv P far D) n<=0:=by
  have g:=EA (N.on n);unfold Yh at t0 ⊢;by_cases c:N.ot n=x
  .rw[c,Dg]
   rw[c] at t0;lia
  .cases e:far (N.ot n) with
   | none=>
    rw[Aj _ e];lia
   | some a=>
    rw[qM _ _ e];rcases E7 (N.ot n) (N.on n) n 0 ⟨hn,.inr ⟨rfl,rfl,f,rfl⟩⟩ c a e with⟨b,e1,e2⟩|⟨e1,e2⟩
    .rw[qM _ _ e1]
     lia
    .have:=mx _ _ e
     lia
 lia
end
def ac (N:Wn) (n p:Nat):Nat:=if N.ot n=p then N.on n else N.ot n
def bc (N:Wn) (cm:Nat->Option Nat) (p:Nat):Nat:=match cm p with
 | some n=>ac N n p
 | none=>p
theorem qU {N:Wn} (e:cm p=B' n):bc N cm p=ac N n p:=by
 unfold bc;rw[e]
theorem Y9.ac {N:Wn}{P fl:Nat->Int}{q p n:Nat}{d:Int} (A:Y9 N P fl q p n d) (ne:q≠p):ac N n p=q/\K81.ac N n q=p:=by
 unfold K81.ac;obtain⟨_,⟨rfl,rfl,_⟩|⟨rfl,rfl,_⟩⟩:=A
 .exact⟨XR O,W' (XW ne)⟩
 .exact⟨W' ne,XR O⟩
theorem Qj6 {N:Wn}{a:Nat->Int} (hn:n<N.m) (e:Int) (v:Nat):Ye N (up a n (a n+e)) v=Ye N a v+(if N.ot n=v then e else 0)-(if N.on n=v then e else 0):=by
 have q:Ye N (up a n (a n+e)) v=sm (fun i=>((if N.ot i=v then a i else 0)-(if N.on i=v then a i else 0))+(if i=n then(if N.ot n=v then e else 0)-(if N.on n=v then e else 0) else 0)) N.m:=gm _ fun i _=>by
  by_cases c:i=n
  .subst c
   rw[aY,XR rfl];by_cases c1:N.ot i=v<;>by_cases c2:N.on i=v<;>simp[c1,c2]<;>lia
  .rw[aR _ _ c,W' c]
   lia
 rw[q,rK,vK,XR hn];show Ye N a v+_=_;lia
theorem Ju {N:Wn} (k:Int) (a b:Nat->Int) (v:Nat):Ye N (fun n=>k*a n+b n) v=k*Ye N a v+Ye N b v:=by
 unfold Ye;rw[<- HH,<- rK];refine gm _ fun i _=>?_
 by_cases c1:N.ot i=v<;>by_cases c2:N.on i=v<;>simp[c1,c2,Int.mul_neg]<;>lia
theorem Sl {N:Wn} (v:Nat):Ye N (fun _=>0) v=0:=by
 unfold Ye;rw[<- qf N.m];refine gm _ fun i _=>?_
 simp
section
variable {N:Wn}
theorem Se.back (h:Se N P fl nd far wt cm rk size Lk) (fp:far p=B' a) (e:cm p=B' n):∃ d b,Y9 N P fl (ac N n p) p n d/\far (ac N n p)=B' b/\a=b+d/\ac N n p≠p/\rk (ac N n p)<rk p:=by
 have ne:¬ nd p<0:=fun z=>by
  have:=(h.ro p (h.nn p a (.inl fp)).2 z).2;rw[e] at this;cases this
 obtain⟨n',q,d,b,e1,e2,e3,e4,e5,e6⟩:=h.cb p a (.inl fp) ne;rw[e] at e1;cases e1
 have q':=(e2.ac e5).1;rw[q'];exact⟨d,b,e2,e3,e4,e5,e6 fp⟩
theorem Se.root (h:Se N P fl nd far wt cm rk size Lk) (fp:far p=B' a) (e:cm p=C'):nd p<0:=by
 by_cases c:nd p<0
 .exact c
 .obtain⟨n',q,d,b,e1,_⟩:=h.cb p a (.inl fp) c
  rw[e] at e1;cases e1
theorem Se.way (h:Se N P fl nd far wt cm rk size Lk){x:Nat}{D:Int} (hx:far x=B' D):∀ i,∃ a,far (U' (bc N cm) i x)=B' a
 | 0=>⟨D,hx⟩
 | i+1=>by
  obtain⟨a,e⟩:=h.way hx i;show ∃ a,far (bc N cm (U' (bc N cm) i x))=B' a;cases c:cm (U' (bc N cm) i x) with
  | none=>
   refine⟨a,?_⟩;unfold bc at e c ⊢;rw[c];exact e
  | some n=>
   obtain⟨d,b,_,fb,_⟩:=h.back e c;rw[qU c];exact⟨b,fb⟩
theorem Se.QdQ (h:Se N P fl nd far wt cm rk size Lk) (hx:far x=B' D) (c:(cm (U' (bc N cm) i x)).isSome=D'):rk (U' (bc N cm) (i+1) x)<rk (U' (bc N cm) i x):=by
 obtain⟨a,e⟩:=h.way hx i;obtain⟨n,c⟩:=ZI.mp c;obtain⟨d,b,_,_,_,_,r⟩:=h.back e c;show rk (bc N cm (U' (bc N cm) i x))<_;rw[qU c];exact r
theorem Se.Qfh (h:Se N P fl nd far wt cm rk size Lk){x:Nat}{D:Int} (hx:far x=B' D){k:Nat} (c:∀ i,i<k->(cm (U' (bc N cm) i x)).isSome=D'){j:Nat}:∀ {i},j<i->i<=k->rk (U' (bc N cm) i x)<rk (U' (bc N cm) j x)
 | 0,h1,_=>X4 h1 (Vy _)
 | i+1,h1,h2=>by
  have s:=h.QdQ hx (c i (by lia));by_cases e:j=i
  .rw[e]
   exact s
  .have:=h.Qfh hx c (j:=j) (i:=i) (by lia) (by lia)
   lia
def cn (cm:Nat->Option Nat) (p:Nat):Nat:=(cm p).getD 0
theorem kq (h:(cm p).isSome=D'):cm p=B' (cn cm p):=by
 obtain⟨n,e⟩:=ZI.mp h;unfold cn;rw[e];rfl
theorem Se.once (h:Se N P fl nd far wt cm rk size Lk) (hx:far x=B' D){k:Nat} (c:∀ i,i<k->(cm (U' (bc N cm) i x)).isSome=D') (ji:j<i) (ik:i<k):cn cm (U' (bc N cm) j x)≠cn cm (U' (bc N cm) i x):=fun z=>by
 obtain⟨a,ea⟩:=h.way hx i;obtain⟨b,eb⟩:=h.way hx j;have ci:=kq (c i ik);have cj:=kq (c j (by lia));have r1:=h.Qfh hx c ji (by lia);have r2:=h.QdQ hx (c i ik);have si:U' (bc N cm) (i+1) x=ac N (cn cm (U' (bc N cm) i x)) (U' (bc N cm) i x):=qU ci;rw[si] at r2;obtain⟨d1,b1,A1,_,_,n1,_⟩:=h.back ea ci;obtain⟨d2,b2,A2,_,_,n2,_⟩:=h.back eb cj;rw[<- z] at A1 n1 r2;generalize U' (bc N cm) i x=xi at *;generalize U' (bc N cm) j x=xj at *;generalize cn cm xj=n at *;have e1:=A1.ac n1;have e2:=A2.ac n2;have ends:xi=xj\/xi=ac N n xj:=by
  obtain⟨_,⟨p1,p2,_⟩|⟨p1,p2,_⟩⟩:=A1<;>obtain⟨_,⟨q1,q2,_⟩|⟨q1,q2,_⟩⟩:=A2
  .exact .inl (p2.symm.trans q2)
  .exact .inr (p2.symm.trans q1)
  .exact .inr (p2.symm.trans q1)
  .exact .inl (p2.symm.trans q2)
 rcases ends with e|e
 .rw[e] at r1
  lia
 .rw[e,e2.2] at r2
  rw[e] at r1;lia
def fs (N:Wn) (cm:Nat->Option Nat) (x:Nat) (am:Int) (fl:Nat->Int):Nat->Nat->Int
 | 0=>fl
 | i+1=>up (fs N cm x am fl i) (cn cm (U' (bc N cm) i x)) (fs N cm x am fl i (cn cm (U' (bc N cm) i x))+(if N.ot (cn cm (U' (bc N cm) i x))=U' (bc N cm) i x then am else 0-am))
theorem GW {x:Nat}{am:Int}{n:Nat}:∀ i,(∀ j,j<i->cn cm (U' (bc N cm) j x)≠n)->fs N cm x am fl i n=fl n
 | 0,_=>rfl
 | i+1,h=>by
  show up _ _ _ n=_;rw[aR _ _ (XW (h i (by lia))),GW i fun j hj=>h j (by lia)]
theorem Se.Qfi (h:Se N P fl nd far wt cm rk size Lk){x:Nat}{D am:Int} (hx:far x=B' D) (v:Nat):∀ k,(∀ i,i<k->(cm (U' (bc N cm) i x)).isSome=D')->Ye N (fs N cm x am fl k) v=Ye N fl v+(if x=v then am else 0)-(if U' (bc N cm) k x=v then am else 0)
 | 0,_=>by
  show Ye N fl v=Ye N fl v+(if x=v then am else 0)-(if x=v then am else 0);lia
 | i+1,c=>by
  have ih:=h.Qfi hx v (am:=am) i fun j hj=>c j (by lia)
  obtain⟨a,e⟩:=h.way hx i;have ci:=kq (c i (by lia));obtain⟨d,b,A,_,_,ne,_⟩:=h.back e ci;have si:U' (bc N cm) (i+1) x=ac N (cn cm (U' (bc N cm) i x)) (U' (bc N cm) i x):=qU ci;show Ye N (up (fs N cm x am fl i) (cn cm (U' (bc N cm) i x)) _) v=_;rw[Qj6 A.1,ih,si];generalize U' (bc N cm) i x=xi at *;generalize cn cm xi=n at *;obtain⟨_,⟨p1,p2,_⟩|⟨p1,p2,_⟩⟩:=A
  .rw[p1,p2,XR rfl]
   lia
  .rw[p1,p2,W' ne]
   by_cases c1:ac N n xi=v<;>by_cases c2:xi=v<;>simp[c1,c2]<;>lia
theorem Se.Qfj (h:Se N P fl nd far wt cm rk size Lk){x:Nat}{D am:Int} (hx:far x=B' D) (ti:Ti N (mv P far D) fl) (sP:0<=am):∀ k,(∀ i,i<k->(cm (U' (bc N cm) i x)).isSome=D') ->
  (∀ i,i<k->N.on (cn cm (U' (bc N cm) i x))=U' (bc N cm) i x->am<=fl (cn cm (U' (bc N cm) i x)))->Ti N (mv P far D) (fs N cm x am fl k)
 | 0,_,_=>ti
 | i+1,c,hm=>by
  have ih:=h.Qfj hx ti sP i (fun j hj=>c j (by lia)) (fun j hj=>hm j (by lia));obtain⟨a,e⟩:=h.way hx i;have ci:=kq (c i (by lia));obtain⟨d,b,A,fb,Uh,ne,_⟩:=h.back e ci;have same:fs N cm x am fl i (cn cm (U' (bc N cm) i x))=fl (cn cm (U' (bc N cm) i x)):=GW i fun j hj=>h.once hx c hj (by lia)
  have JU:=hm i (by lia);have key:0<=fl (cn cm (U' (bc N cm) i x))+(if N.ot (cn cm (U' (bc N cm) i x))=U' (bc N cm) i x then am else 0-am)/\Yh N (mv P far D) (cn cm (U' (bc N cm) i x))=0:=by
   generalize U' (bc N cm) i x=xi at *;generalize cn cm xi=n at *;have f0:=ti.f n A.1;obtain⟨hn,⟨p1,p2,p3⟩|⟨p1,p2,p3,p4⟩⟩:=A
   .refine⟨by rw[p2,XR rfl];lia,?_⟩
    have m1:mv P far D xi=P xi+(D-a):=by unfold mv;rw[e]
    have m2:mv P far D (ac N n xi)=P (ac N n xi)+(D-b):=by unfold mv;rw[fb]
    unfold Yh at p3 ⊢;rw[p1,p2] at p3 ⊢;rw[m1,m2];lia
   .have:=JU p2
    refine⟨by rw[p1,W' ne];lia,ti.t n hn p3⟩
  refine⟨ih.s,fun n hn=>?_,fun n hn f=>?_⟩
  .by_cases z:n=cn cm (U' (bc N cm) i x)
   .rw[z]
    show 0<=up _ _ _ _;rw[aY,same];exact key.1
   .show 0<=up _ _ _ _
    rw[aR _ _ z];exact ih.f n hn
  .by_cases z:n=cn cm (U' (bc N cm) i x)
   .rw[z]
    exact key.2
   .refine ih.t n hn ?_
    have f:0<up (fs N cm x am fl i) (cn cm (U' (bc N cm) i x)) _ n:=f;rw[aR _ _ z] at f;exact f
end
def nU (N:Wn) (nd:Nat->Int):Nat:=(sm (fun p=>max (nd p) 0) N.c).toNat
theorem Pb {N:Wn} (h:sm nd N.c=0) (np:∀ p,p<N.c->nd p<=0):∀ p,p<N.c->nd p=0:=fun p hp=>by
 by_cases c:nd p=0
 .exact c
 .have:=np p hp
  have:=xp (f:=nd) (k:=p) N.c np hp (by lia);lia
theorem OT {N:Wn}{bA:Nat->Int}{e:Nat} (hs:s<N.c) (he:e<N.c) (sP:0<am) (h1:am<=nd e) (h2:am<=0-nd s) (hn:∀ p,p<N.c->bA p=nd p+(if s=p then am else 0)-(if e=p then am else 0)):nU N bA<nU N nd:=by
 have q:sm (fun p=>max (nd p) 0) N.c=sm (fun p=>max (bA p) 0+(if p=e then am else 0)) N.c:=gm _ fun p hp=>by
  rw[hn p hp];by_cases c1:p=e
  .subst c1
   have:s≠p:=fun z=>by
    subst z;lia
   rw[XR rfl,W' this];lia
  .by_cases c2:s=p
   .subst c2
    rw[XR rfl,W' (XW c1),W' c1];lia
   .rw[W' c2,W' (XW c1),W' c1]
    lia
 rw[rK,vK,XR he] at q;have nn:=vz (f:=fun p=>max (bA p) 0) N.c fun p _=>by lia
 unfold nU;lia
abbrev XZ:=List (Key×V)
abbrev Wt:=Nat×Nat×Int×Int
def wn (ws:List Wt) (c:Nat):Wn:=⟨c,ws.length,fun n=>(ws.getD n (0,0,0,0)).1,fun n=>(ws.getD n (0,0,0,0)).2.1,fun n=>(ws.getD n (0,0,0,0)).2.2.1⟩
def Zj (ws:List Wt) (n:Nat):Int:=(ws.getD n (0,0,0,0)).2.2.2
def fn (l:List Int) (i:Nat):Int:=l.getD i 0
structure LR where
 o:F'
 t:F'
 l:F'
 p:F'
 f:F'
 n:F'
 g:F'
 c:F'
def b9 (r:LR):List (K'×V):=[("ones",.ref r.o),("others",.ref r.t),("leasts",.ref r.l),("places",.ref r.p),("flow",.ref r.f),("needs",.ref r.n),("going",.ref r.g),("coming",.ref r.c)]
theorem Z1 {a:K'}{r:List (K'×V)}:(((a,v)::r):List (K'×V)).lookup a=B' v:=by
 rw[Vt,Qbo]
theorem Yv {a b:K'}{r:List (K'×V)} (h:(a == b)=R'):(((b,v)::r):List (K'×V)).lookup a=r.lookup a:=by
 rw[Vt,h]
theorem qY {r:LR}:(b9 r).lookup ("ones":K')=B' (.ref r.o):=Z1
theorem uV {r:LR}:(b9 r).lookup ("others":K')=B' (.ref r.t):=(Yv (by decide +kernel)).trans Z1
theorem SO {r:LR}:(b9 r).lookup ("leasts":K')=B' (.ref r.l):=(Yv (by decide +kernel)).trans ((Yv (by decide +kernel)).trans Z1)
theorem qh {r:LR}:(b9 r).lookup ("places":K')=B' (.ref r.p):=(Yv (by decide +kernel)).trans ((Yv (by decide +kernel)).trans ((Yv (by decide +kernel)).trans Z1))
theorem vH {r:LR}:(b9 r).lookup ("flow":K')=B' (.ref r.f):=(Yv (by decide +kernel)).trans ((Yv (by decide +kernel)).trans ((Yv (by decide +kernel)).trans ((Yv (by decide +kernel)).trans Z1)))
theorem p6 {r:LR}:(b9 r).lookup ("needs":K')=B' (.ref r.n):=(Yv (by decide +kernel)).trans ((Yv (by decide +kernel)).trans ((Yv (by decide +kernel)).trans ((Yv (by decide +kernel)).trans ((Yv (by decide +kernel)).trans Z1))))
theorem FW {r:LR}:(b9 r).lookup ("going":K')=B' (.ref r.g):=(Yv (by decide +kernel)).trans ((Yv (by decide +kernel)).trans ((Yv (by decide +kernel)).trans ((Yv (by decide +kernel)).trans ((Yv (by decide +kernel)).trans ((Yv (by decide +kernel)).trans Z1)))))
theorem Hu {r:LR}:(b9 r).lookup ("coming":K')=B' (.ref r.c):=(Yv (by decide +kernel)).trans ((Yv (by decide +kernel)).trans ((Yv (by decide +kernel)).trans ((Yv (by decide +kernel)).trans ((Yv (by decide +kernel)).trans ((Yv (by decide +kernel)).trans ((Yv (by decide +kernel)).trans Z1))))))
def Nq (r:LR) (a:F'):Prop:=a≠r.p/\a≠r.f/\a≠r.n
def goN (ws:List Wt) (i:Nat):List Nat:=(YM ws.length).filter fun n=>decide ((ws.getD n (0,0,0,0)).1=i)
def coN (ws:List Wt) (i:Nat):List Nat:=(YM ws.length).filter fun n=>decide ((ws.getD n (0,0,0,0)).2.1=i)
def nums (l:List Nat):List V:=l.map fun n=>V.int (n:Nat)
structure bR (C:F') (H:Hp) (q:F') (r:LR) (ws:List Wt) (cnt:Nat):Prop where
 ex:∃ dx,H q=B' (.ins C dx (b9 r))
 ho:H r.o=B' (.lst (ws.map fun w=>V.int (w.1:Nat)))
 ht:H r.t=B' (.lst (ws.map fun w=>V.int (w.2.1:Nat)))
 hl:H r.l=B' (.lst (ws.map fun w=>V.int w.2.2.1))
 hg:∃ gs:List F',H r.g=B' (.lst (gs.map V.ref))/\gs.length=cnt/\∀ i a,gs[i]?=B' a->H a=B' (.lst (nums (goN ws i)))/\Nq r a
 hc:∃ gs:List F',H r.c=B' (.lst (gs.map V.ref))/\gs.length=cnt/\∀ i a,gs[i]?=B' a->H a=B' (.lst (nums (coN ws i)))/\Nq r a
 no:Nq r r.o
 nt:Nq r r.t
 nl:Nq r r.l
 ng:Nq r r.g
 nc:Nq r r.c
 nq:Nq r q
 pf:r.p≠r.f
 pn:r.p≠r.n
 fn:r.f≠r.n
def Kx (S:List F') (H H':Hp):Prop:=∀ b o,H b=B' o->b∉S->H' b=B' o
theorem Kx.of (e:af H H'):Kx S H H':=fun b o h _=>e b o h
theorem Kx.trans {H2:Hp} (a:Kx S H H1) (b:Kx S H1 H2):Kx S H H2:=fun c o h z=>b c o (a c o h z) z
theorem Kx.mono {S':List F'} (a:Kx S H H') (h:∀ x∈S,x∈S'):Kx S' H H':=fun c o q z=>a c o q fun y=>z (h c y)
theorem Kx.upd {S:List F'}{H:Hp}{a:F'}{o:HO} (h:a∈S):Kx S H (L2.upd H a o):=fun b u e z=>by
 rw[ak (fun y=>z (by rw[y];exact h))];exact e
def Dc (H:Hp) (a:F'):Prop:=∃ kvs,H a=B' (.dK kvs)
theorem bR.kx {r:LR}{ws:List Wt}{cnt:Nat} (h:bR C H q r ws cnt) (k:Kx S H H') (hs:∀ a∈S,a=r.p\/a=r.f\/a=r.n\/Dc H a):bR C H' q r ws cnt:=by
 have lst:∀ a xs,H a=B' (.lst xs)->Nq r a->H' a=B' (.lst xs):=fun a xs e n=>k a _ e fun z=>by
  rcases hs a z with y|y|y|⟨kvs,y⟩
  .exact n.1 y
  .exact n.2.1 y
  .exact n.2.2 y
  .rw[e] at y
   cases y
 obtain⟨dx,ex⟩:=h.ex;obtain⟨gs,g1,g2,g3⟩:=h.hg;obtain⟨cs,c1,c2,c3⟩:=h.hc;refine⟨⟨dx,k _ _ ex fun z=>?_⟩,lst _ _ h.ho h.no,lst _ _ h.ht h.nt,lst _ _ h.hl h.nl,⟨gs,lst _ _ g1 h.ng,g2,fun i a e=>⟨lst _ _ (g3 i a e).1 (g3 i a e).2,(g3 i a e).2⟩⟩,⟨cs,lst _ _ c1 h.nc,c2,fun i a e=>⟨lst _ _ (c3 i a e).1 (c3 i a e).2,(c3 i a e).2⟩⟩,h.no,h.nt,h.nl,h.ng,h.nc,h.nq,h.pf,h.pn,h.fn⟩;rcases hs q z with y|y|y|⟨kvs,y⟩
 .exact h.nq.1 y
 .exact h.nq.2.1 y
 .exact h.nq.2.2 y
 .rw[ex] at y
  cases y
theorem bR.same {r:LR}{ws:List Wt}{cnt:Nat} (h:bR C H q r ws cnt) (e:af H H'):bR C H' q r ws cnt:=by
 obtain⟨dx,ex⟩:=h.ex;obtain⟨gs,g1,g2,g3⟩:=h.hg;obtain⟨cs,c1,c2,c3⟩:=h.hc;exact⟨⟨dx,e _ _ ex⟩,e _ _ h.ho,e _ _ h.ht,e _ _ h.hl,⟨gs,e _ _ g1,g2,fun i a q=>⟨e _ _ (g3 i a q).1,(g3 i a q).2⟩⟩,⟨cs,e _ _ c1,c2,fun i a q=>⟨e _ _ (c3 i a q).1,(c3 i a q).2⟩⟩,h.no,h.nt,h.nl,h.ng,h.nc,h.nq,h.pf,h.pn,h.fn⟩
theorem qc (h:i<l.length):YU (l.map V.int) (i:Int)=B' (.int (fn l i)):=by
 rw[iX (by lia),UD,UJ,Uy h];unfold fn;rw[Ux,Uy h];rfl
theorem my {ws:List Wt} (f:Wt->V) (h:n<ws.length):YU (ws.map f) (n:Int)=B' (f (ws.getD n (0,0,0,0))):=by
 rw[iX (by lia),UD,UJ,Uy h,Ux,Uy h];rfl
theorem vR (h:i<l.length):(l.map V.int)[((i:Nat):Int).toNat]?=B' (.int (fn l i)):=by
 rw[UD,UJ,Uy h];unfold fn;rw[Ux,Uy h];rfl
theorem rE (kvs:XZ) (k:Key) (v:V):(aO kvs k v).length<=kvs.length+1:=by
 unfold aO;split
 .rw[Us]
  lia
 .rw[UB]
  exact Uv _
theorem nH (h:i<l.length) (v:Int):fn (l.set i v)=up (fn l) i v:=by
 funext j
 show(l.set i v).getD j 0=if j=i then v else l.getD j 0;rw[Ux,Ux,List.getElem?_set];by_cases c:i=j
 .subst c
  simp[h]
 .simp[c,XW c]
section
variable {P:YE}{w:YF}{K:V'}{a:Zx}
def NS (C:F'):Sp:=fun vs H Q _=>∃ q r ws c p,∃ n:Nat,vs=[.ref q,.int n]/\bR C H q r ws c/\H r.p=B' (.lst ((p:List Int).map V.int))/\p.length=c/\n<ws.length/\(wn ws c).Ok/\Q (.int (Yh (wn ws c) (fn p) n)) H
theorem Ie (T:Tx K mg a):gy P w K mg base Yj 1 a.Layout "slack" ["self","number"] [] (NS a.Layout):=T.Qcd.Ym fun f fd F=>by
 refine F.ok R5 (fun vs H Q E h=>?_) (fun aD A outer s H vs Q E hr h=>?_)
 .obtain⟨q,r,ws,c,p,n,rfl,_⟩:=h
  rfl
 .obtain⟨q,r,ws,c,p,n,rfl,L,hp,hc,hn,ok,k⟩:=h
  obtain⟨dx,ex⟩:=L.ex;have o1:(ws.getD n (0,0,0,0)).1<p.length:=by rw[hc];exact ok.on n hn
  have o2:(ws.getD n (0,0,0,0)).2.1<p.length:=by rw[hc];exact ok.ot n hn
  refine⟨_,(ay (bv (aH g8 (aH g8 (aG aT (bg (pv 0) O) (aG aT (bg (pv 0) O) (pv 1) (fun _ _=>O)) (fun _ _=>O)) (aG aT (bg (pv 0) O) (aG aT (bg (pv 0) O) (pv 1) (fun _ _=>O)) (fun _ _=>O))) (aG aT (bg (pv 0) O) (pv 1) (fun _ _=>O))))),?_⟩;exact⟨_,O,q,a.Layout,dx,_,_,O,ex,T.Yl,T.Qa0,qh,_,O,q,a.Layout,dx,_,_,O,ex,T.Yl,T.QbO,uV,_,O,r.t,_,_,_,O,O,M'.of L.ht,my _ hn,r.p,_,_,_,O,O,M'.of hp,qc o2,
   _,rfl,q,a.Layout,dx,_,_,rfl,ex,T.Yl,T.Qa0,qh,_,rfl,q,a.Layout,dx,_,_,rfl,ex,T.Yl,T.Qbf,qY,_,rfl,r.o,_,_,_,rfl,rfl,M'.of L.ho,my _ hn,r.p,_,_,_,rfl,rfl,M'.of hp,qc o1,_,_,rfl,rfl,
   _,rfl,q,a.Layout,dx,_,_,rfl,ex,T.Yl,T.Qfb,SO,_,rfl,r.l,_,_,_,rfl,rfl,M'.of L.hl,my _ hn,_,_,rfl,rfl,k⟩
def QD (C:F'):Sp:=fun vs H Q _=>∃ q r ws c,∃ n p:Nat,vs=[.ref q,.int n,.int p]/\bR C H q r ws c/\n<ws.length/\Q (.int (ac (wn ws c) n p:Nat)) H
theorem Ck (T:Tx K mg a):gy P w K mg base Yj 1 a.Layout "end_across" ["self","number","point"] [] (QD a.Layout):=T.Qbg.Ym fun f fd F=>by
 refine F.ok RO (fun vs H Q E h=>?_) (fun aD A outer s H vs Q E hr h=>?_)
 .obtain⟨q,r,ws,c,n,p,rfl,_⟩:=h
  rfl
 .obtain⟨q,r,ws,c,n,p,rfl,L,hn,k⟩:=h
  obtain⟨dx,ex⟩:=L.ex;refine⟨_,(ay (bv (CN (bG mE (aG aT (bg (pv 0) O) (pv 1) (fun _ _=>O)) (pv 2) (bB _)) (aG aT (bg (pv 0) O) (pv 1) (fun _ _=>O)) (aG aT (bg (pv 0) O) (pv 1) (fun _ _=>O))))),?_⟩;refine⟨_,O,q,a.Layout,dx,_,_,O,ex,T.Yl,T.QbO,uV,_,O,r.t,_,_,_,O,O,M'.of L.ht,my _ hn,_,O,O,_,O,?_⟩;refine bo (fun c1=>?_) (fun c1=>?_)
  .refine⟨_,O,q,a.Layout,dx,_,_,O,ex,T.Yl,T.Qbf,qY,_,O,r.o,_,_,_,O,O,M'.of L.ho,my _ hn,?_⟩
   have e:ac (wn ws c) n p=(ws.getD n (0,0,0,0)).1:=XR (by have:=UM c1;injection this with z;exact Qav z);rw[e] at k;exact k
  .refine⟨_,O,q,a.Layout,dx,_,_,O,ex,T.Yl,T.QbO,uV,_,O,r.t,_,_,_,O,O,M'.of L.ht,my _ hn,?_⟩
   have e:ac (wn ws c) n p=(ws.getD n (0,0,0,0)).2.1:=W' (fun z=>by have:=U2 c1;exact this (by rw[show(ws.getD n (0,0,0,0)).2.1=p from z]));rw[e] at k;exact k
end
variable {P:YE}{a:Zx}{c v:Nat}{s st:Nat×Int}{w:YF}{ws:List Wt}{xs:List V}
def B0:Option Nat->V
 | none=>.X1
 | some v=>.int (v:Nat)
def Yt (ws:List Wt) (c:Nat) (P:List Int) (kvs:XZ):Nat->List Int×XZ×Option Nat
 | 0=>(P,kvs,C')
 | k+1=>if Yh (wn ws c) (fn (Yt ws c P kvs k).1) k<0 then
   ((Yt ws c P kvs k).1.set ((wn ws c).ot k) (fn (Yt ws c P kvs k).1 ((wn ws c).ot k)+(0-Yh (wn ws c) (fn (Yt ws c P kvs k).1) k)),aO (Yt ws c P kvs k).2.1 (XY (((wn ws c).ot k:Nat):Int)) (.int (k:Nat)),B' ((wn ws c).ot k))
  else Yt ws c P kvs k
theorem xH (ws:List Wt) (c:Nat) (P:List Int) (kvs:XZ):∀ k,(Yt ws c P kvs k).1.length=P.length/\(Yt ws c P kvs k).2.1.length<=kvs.length+k
 | 0=>⟨O,Uv _⟩
 | k+1=>by
  obtain⟨h1,h2⟩:=xH ws c P kvs k;unfold Yt;split
  .refine⟨by rw[Vo];exact h1,?_⟩
   have:=rE (Yt ws c P kvs k).2.1 (XY (((wn ws c).ot k:Nat):Int)) (.int (k:Nat));show(aO _ _ _).length<=_;lia
  .exact⟨h1,by lia⟩
section
variable {K:V'}
def Qj7 (C:F'):Sp:=fun vs H Q _=>∃ q r ws c p d kvs,vs=[.ref q,.ref d]/\bR C H q r ws c/\H r.p=B' (.lst ((p:List Int).map V.int))/\p.length=c/\(wn ws c).Ok/\ws.length<=1000/\H d=B' (.dK kvs)/\kvs.length<=100000 /\
 ∀ H',Kx [r.p,d] H H'->H' r.p=B' (.lst ((Yt ws c p kvs ws.length).1.map V.int))->H' d=B' (.dK (Yt ws c p kvs ws.length).2.1)->Q (B0 (Yt ws c p kvs ws.length).2.2) H'
theorem Oq (T:Tx K mg a):YD P w K mg base Yj 2 "push_once" ["layout","pushers"] [] (Qj7 a.Layout):=T.Qjh.Ym fun f fd F=>by
 have Qcd:=Ie (P:=P) (w:=w) (base:=base) T;refine F.ok rA (fun vs H Q E h=>?_) (fun aD A outer s H vs Q E hr h=>?_)
 .obtain⟨q,r,ws,c,p,d,kvs,rfl,_⟩:=h
  rfl
 .obtain⟨q,r,ws,c,p,d,kvs,rfl,L,hp,hc,ok,hw,hd,hk,k⟩:=h
  have Au:r.p≠d:=cU hp hd (by intro z;cases z);have lay:∀ G,Kx [r.p,d] H G->bR a.Layout G q r ws c:=fun G kx=>L.kx kx fun x hx=>by
   rcases U1.mp hx with z|z
   .exact .inl z
   .rw[XC.mp z]
    exact .inr (.inr (.inr ⟨kvs,hd⟩))
  obtain⟨dx,ex⟩:=L.ex;refine⟨_,(aq (aQ (i:=2) rA.nd O (.inl O) FT)
   (aq (cV YS rfl (mz rfl T.Qas (ag (bg (pv 0) rfl) aj)) (fe rfl (aM (aE (i:=3) rA.nd O (.inl O)) (aM (aE (i:=4) rA.nd O (.inl O)) cD))) (aq (aQ (i:=5) rA.nd O (.inl O) (aH g8 ao (uX (pv 0) T.Yl Qcd (hr.mono (by decide)) (ag (pv 3) aj))))
   (ay (bU (bG nJ (pv 5) ao (bB _)) (aq (pX (bg (pv 0) rfl) (pv 4) pW (pv 5) vC qi)
   (aq (jP (bf hr) (pv 1) (pv 4) (pv 3) rfl)
   (ay (aQ (i:=2) rA.nd O (.inl O) (pv 4))))) cr))))
   (ay (bv (pv 2))))),?_⟩
  refine⟨_,O,q,a.Layout,dx,_,_,O,ex,T.Yl,T.QbO,uV,r.t,O,⟨_,M'.of L.ht⟩,qr (K:=K) (l:=r.t) (xs:=ws.map fun w=>V.int (w.2.1:Nat)) (fun i σ G=>∃ v3 v4 v5,σ=[B' (.ref q),B' (.ref d),B' (B0 (Yt ws c p kvs i).2.2),v3,v4,v5]/\Kx [r.p,d] H G/\G r.p=B' (.lst ((Yt ws c p kvs i).1.map V.int))/\G d=B' (.dK (Yt ws c p kvs i).2.1))
   ⟨C',C',C',rfl,Kx.of (af.refl _),hp,hd⟩ ?_ ?_ ?_⟩
  .rintro i σ G _ ⟨_,_,_,rfl,kx,_⟩
   exact M'.of (lay G kx).ht
  .rintro i x tt σ G hx nt ⟨v3,v4,v5,rfl,kx,hG,lQ⟩
   have hi:i<ws.length:=by
    have:=(Yi.mp hx).1;rw[Us] at this;exact this
   have Dl:x=.int ((wn ws c).ot i:Nat):=by
    rw[UJ,Uy hi] at hx;have z:=YB hx;rw[<- z];show V.int ((ws[i].2.1:Nat):Int)=V.int (((ws.getD i (0,0,0,0)).2.1:Nat):Int);rw[Ux,Uy hi];rfl
   subst Dl;obtain⟨l1,l2⟩:=xH ws c p kvs i;have oi:(wn ws c).ot i<c:=ok.ot i hi;have s3:af G (upd G tt (.tup [.int i,.int ((wn ws c).ot i:Nat)])):=af.new nt;have h3:upd G tt (.tup [.int i,.int ((wn ws c).ot i:Nat)]) tt=B' (.tup [.int i,.int ((wn ws c).ot i:Nat)]):=ai;generalize upd G tt (.tup [.int i,.int ((wn ws c).ot i:Nat)])=G3 at s3 h3 ⊢;have fq:Kx [r.p,d] H G3:=kx.trans (Kx.of s3);have ic:=s3 _ _ hG;have iF:=s3 _ _ lQ;have L3:=lay G3 fq;obtain⟨qu,ex3⟩:=L3.ex;have st:Yt ws c p kvs (i+1)=if Yh (wn ws c) (fn (Yt ws c p kvs i).1) i<0 then
     ((Yt ws c p kvs i).1.set ((wn ws c).ot i) (fn (Yt ws c p kvs i).1 ((wn ws c).ot i)+(0-Yh (wn ws c) (fn (Yt ws c p kvs i).1) i)),aO (Yt ws c p kvs i).2.1 (XY (((wn ws c).ot i:Nat):Int)) (.int (i:Nat)),B' ((wn ws c).ot i))
    else Yt ws c p kvs i:=rfl
   rw[st];generalize Yt ws c p kvs i=now at ic iF l1 l2 st ⊢;refine⟨tt,_,O,Ya.of h3,O,_,_,O,_,_,O,O,?_⟩;refine⟨_,O,q,qu,_,O,ex3,by rfl,_,O,q,r,ws,c,now.1,i,O,L3,ic,by lia,hi,ok,_,_,O,O,?_⟩;refine⟨_,O,_,_,O,O,_,O,?_⟩;refine bo (fun c1=>?_) (fun c1=>?_)
   .have c2:Yh (wn ws c) (fn now.1) i<0:=by have:=UM c1;lia
    rw[XR c2];have M8:(wn ws c).ot i<now.1.length:=by lia
    refine⟨_,O,q,a.Layout,qu,_,_,O,ex3,T.Yl,T.Qa0,qh,_,O,r.p,_,_,_,O,O,M'.of ic,by lia,vR M8,_,O,_,_,O,O,r.p,_,_,_,O,O,ic,nV (by lia) (by rw[Us];lia),?_⟩;rw[UD,<- V7];have fJ:Kx [r.p,d] H (upd G3 r.p (.lst ((now.1.set ((wn ws c).ot i) (fn now.1 ((wn ws c).ot i)+(0-Yh (wn ws c) (fn now.1) i))).map V.int))):=fq.trans (Kx.upd (by simp));have h4:upd G3 r.p (.lst ((now.1.set ((wn ws c).ot i) (fn now.1 ((wn ws c).ot i)+(0-Yh (wn ws c) (fn now.1) i))).map V.int)) r.p=B' (.lst ((now.1.set ((wn ws c).ot i) (fn now.1 ((wn ws c).ot i)+(0-Yh (wn ws c) (fn now.1) i))).map V.int)):=ai;have h5:upd G3 r.p (.lst ((now.1.set ((wn ws c).ot i) (fn now.1 ((wn ws c).ot i)+(0-Yh (wn ws c) (fn now.1) i))).map V.int)) d=B' (.dK now.2.1):=by rw[ak (XW Au)];exact iF
    refine⟨_,O,_,O,_,O,d,_,O,.inl ⟨now.2.1,XY (((wn ws c).ot i:Nat):Int),h5,O,by rw[Uz];lia,O⟩,?_⟩;refine⟨_,O,_,_,_,O,fJ.trans (Kx.upd (by simp)),?_,ai⟩;rw[ak Au];exact h4
   .have c2:¬ Yh (wn ws c) (fn now.1) i<0:=by have:=U2 c1;lia
    rw[W' c2];exact⟨_,_,_,O,fq,ic,iF⟩
  .rintro σ G ⟨v3,v4,v5,rfl,kx,hG,lQ⟩
   rw[Us] at hG lQ ⊢;exact⟨_,O,k G kx hG lQ⟩
end
def jm (kvs:XZ) (pu:Nat->Option Nat):Prop:=∀ v:Nat,aU kvs (XY (v:Int))=(pu v).map fun n=>V.int (n:Nat)
theorem jm.nil:jm [] (fun _=>C'):=fun _=>rfl
theorem jm.put {kvs:XZ} (h:jm kvs pu) (v n:Nat):jm (aO kvs (XY (v:Int)) (.int (n:Nat))) (up pu v (B' n)):=fun u=>by
 rw[vi];by_cases c:u=v
 .subst c
  rw[XR rfl,aY];rfl
 .rw[W' (fun z=>c (by injection z with z;exact Qav z)),aR _ _ c]
  exact h u
theorem jm.QaH {d:F'}{kvs:XZ} (h:jm kvs pu) (hd:H d=B' (.dK kvs)) (e:pu v=B' n):bS H d (.int (v:Nat)) (B' (.int (n:Nat))):=.inl ⟨kvs,XY (v:Int),.inl hd,O,by rw[h v,e];rfl⟩
theorem Ib {ws:List Wt}{c:Nat}{P:List Int}{kvs:XZ}{t:Nat->Nat}{pu:Nat->Option Nat}{r:Nat} (hc:P.length=c) (ok:(wn ws c).Ok) (hp:jm kvs pu) (f:Fi (wn ws c) t (fn P) pu) (h:Rd (wn ws c) t (fn P) r 0):∀ k,k<=ws.length ->
  ∃ t' oR,jm (Yt ws c P kvs k).2.1 oR/\Fi (wn ws c) t' (fn (Yt ws c P kvs k).1) oR/\Rd (wn ws c) t' (fn (Yt ws c P kvs k).1) r k/\((Yt ws c P kvs k).2.2=C'->Yt ws c P kvs k=(P,kvs,C')/\∀ n,n<k->0<=Yh (wn ws c) (fn P) n)/\∀ v,(Yt ws c P kvs k).2.2=B' v->r<=t' v/\v<c
 | 0,_=>⟨t,pu,hp,f,h,fun _=>⟨O,fun n hn=>X4 hn (Vy _)⟩,fun v e=>by cases e⟩
 | k+1,hk=>by
  obtain⟨t',oR,i1,i2,i3,i4,i5⟩:=Ib hc ok hp f h k (by lia);have l1:=(xH ws c P kvs k).1;have oi:(wn ws c).ot k<c:=ok.ot k (by show k<ws.length;lia);unfold Yt;by_cases s:Yh (wn ws c) (fn (Yt ws c P kvs k).1) k<0
  .rw[XR s]
   refine⟨up t' ((wn ws c).ot k) r,up oR ((wn ws c).ot k) (B' k),i1.put _ _,?_,?_,fun e=>(by cases e),fun v e=>?_⟩
   .show Fi _ _ (fn ((Yt ws c P kvs k).1.set _ _)) _
    rw[nH (by lia)];exact PY i2 i3 (by show k<ws.length;lia) s
   .show Rd _ _ (fn ((Yt ws c P kvs k).1.set _ _)) _ _
    rw[nH (by lia)];exact Qg i3 s
   .obtain rfl:(wn ws c).ot k=v:=YB e
    rw[aY];exact⟨Uv _,oi⟩
  .rw[W' s]
   refine⟨t',oR,i1,i2,i3.skip (by lia),fun e=>?_,i5⟩;obtain⟨e1,e2⟩:=i4 e;refine⟨e1,fun n hn=>?_⟩;rcases VF n k with z|z
   .exact e2 n z
   .obtain rfl:n=k:=by lia
    rw[e1] at s;exact Int.not_lt.mp s
def rgL (N:Wn) (pu:Nat->Option Nat) (p:Nat):Nat->List Nat
 | 0=>[]
 | k+1=>cn pu (U' (bk N pu) k p)::rgL N pu p k
theorem BR (N:Wn) (pu:Nat->Option Nat) (p:Nat):∀ k,(rgL N pu p k).length=k
 | 0=>rfl
 | k+1=>by
  show(rgL N pu p k).length+1=k+1;rw[BR N pu p k]
structure BE (N:Wn) (ring:List Nat):Prop where
 QcG:∃ P t pu p k,Fi N t P pu/\p<N.c/\(∀ i,(pu (U' (bk N pu) i p)).isSome=D')/\ring=rgL N pu p (k+1)/\U' (bk N pu) (k+1) p=p/\∀ s,1<=s->s<=k->U' (bk N pu) s p≠p
theorem Js {N:Wn} (h:(pu v).isSome=D'):bk N pu v=N.on (cn pu v):=by
 unfold bk;rw[kq h]
theorem at0 {x:V}:YU (x::xs) 0=B' x:=by
 rw[show(0:Int)=((0:Nat):Int) from rfl,iX (by lia)];rfl
section
variable {K:V'}
def Qj8 (C:F'):Sp:=fun vs H Q _=>∃ q r ws c p d kvs t pu,∃ v:Nat,vs=[.ref q,.ref d,.int v]/\bR C H q r ws c/\H r.p=B' (.lst ((p:List Int).map V.int))/\p.length=c/\(wn ws c).Ok/\c<=1000/\H d=B' (.dK kvs)/\jm kvs pu/\Fi (wn ws c) t (fn p) pu/\c<=t v/\v<c /\
 ∀ g ring H',af H H'->H' g=B' (.lst (nums ring))->H g=C'->BE (wn ws c) ring->ring.length<=c+1->Q (.ref g) H'
theorem OG (T:Tx K mg a):YD P w K mg base Yj 2 "ring_behind" ["layout","pushers","point"] [] (Qj8 a.Layout):=T.Qji.Ym fun f fd F=>by
 refine F.ok xN (fun vs H Q E h=>?_) (fun aD A outer s H vs Q E hr h=>?_)
 .obtain⟨q,r,ws,c,p,d,kvs,t,pu,v,rfl,_⟩:=h
  rfl
 .obtain⟨q,r,ws,c,p,d,kvs,t,pu,v,rfl,L,hp,hc,ok,T5,hd,LD,fi,ht,hv,k⟩:=h
  obtain⟨all,dd,zp,FA,gi⟩:=Sm ok fi ht hv;have FA:dd<=c:=FA;have num:∀ x,(pu x).isSome=D'->cn pu x<ws.length:=fun x e=>(fi.a x _ (kq e)).1
  obtain⟨dx,ex⟩:=L.ex;have dg:∀ G,af H G->∀ x,(pu x).isSome=D'->bS G d (.int (x:Nat)) (B' (.int (cn pu x:Nat))):=fun G sg x e=>LD.QaH (sg _ _ hd) (kq e)
  have one:∀ G,af H G->∀ x,(pu x).isSome=D'->M' K G r.o (ws.map fun w=>V.int (w.1:Nat))/\YU (ws.map fun w=>V.int (w.1:Nat)) ((cn pu x:Nat):Int)=B' (.int (bk (wn ws c) pu x:Nat)):=fun G sg x e=>⟨M'.of (sg _ _ L.ho),by rw[my _ (num x e),Js e];rfl⟩
  refine⟨_,(aq (cV YS O (bY (bg (pv 0) O)) (aE (i:=3) xN.nd O (.inl O)) (ay (aQ (i:=2) xN.nd O (.inl O) (aG aT (bg (pv 0) O) (cN (bf hr) (pv 1) (pv 2) (fun _ _=>O)) (fun _ _=>O)))))
   (aq (aQ (i:=4) xN.nd O (.inl O) (bZ (ag (cN (bf hr) (pv 1) (pv 2) (fun _ _=>O)) aj)))
   (aq (rQ YS (bG vn (aG aT (bg (pv 0) rfl) (aG aT (pv 4) ao (fun _ _=>O)) (fun _ _=>O)) (pv 2) (bB _)) (ay (bC (c7 YY Qej QfJ GT (pv 4) (ag ao (ag (cN (bf hr) (pv 1) (aG aT (bg (pv 0) O) (aG aT (pv 4) ao (fun _ _=>O)) (fun _ _=>O)) (fun _ _=>O)) aj))))))
   (ay (bv (pv 4)))))),?_⟩
  refine⟨_,O,q,a.Layout,dx,_,_,O,ex,T.Yl,T.Qa0,qh,r.p,O,⟨_,M'.of hp⟩,jr (K:=K) (a:=r.p) (xs:=p.map V.int) (fun i σ G=>∃ v3,σ=[B' (.ref q),B' (.ref d),B' (.int (U' (bk (wn ws c) pu) i v:Nat)),v3,C']/\af H G)
   ⟨C',rfl,af.refl _⟩ ?_ ?_ ?_⟩
  .rintro i σ G _ ⟨_,rfl,sg⟩
   exact M'.of (sg _ _ hp)
  .rintro i x σ G hx ⟨v3,rfl,sg⟩
   have o:=one G sg _ (all i);dsimp only[bN];exact⟨_,O,q,a.Layout,dx,_,_,O,sg _ _ ex,T.Yl,T.Qbf,qY,_,O,_,O,d,_,O,dg G sg _ (all i),r.o,_,_,_,O,O,o.1,o.2,_,O,sg⟩
  .rintro σ G ⟨v3,rfl,sg⟩
   rw[Us,hc];have al:∀ i,(pu (U' (bk (wn ws c) pu) i (U' (bk (wn ws c) pu) c v))).isSome=D':=fun i=>by rw[<- vL];exact all _
   have jW:(wn ws c).c=c:=rfl;rw[jW] at gi;generalize MR:U' (bk (wn ws c) pu) c v=x0 at al gi;have M9:x0<c:=by
    rw[<- MR];cases c with
    | zero=>exact X4 hv (Vy _)
    | succ c'=>
     have e:U' (bk (wn ws (c'+1)) pu) (c'+1) v=(wn ws (c'+1)).on (cn pu (U' (bk (wn ws (c'+1)) pu) c' v)):=Js (all c');rw[e];exact ok.on _ (num _ (all c'))
   refine⟨_,O,_,O,d,_,O,dg G sg _ (al 0),(by show 1<=XX;decide),fun g ng=>?_⟩;have s1:af G (upd G g (.lst [.int (cn pu x0:Nat)])):=af.new ng;have h1:upd G g (.lst [.int (cn pu x0:Nat)]) g=B' (.lst [.int (cn pu x0:Nat)]):=ai;have oZ:H g=C':=none_of sg ng;generalize upd G g (.lst [.int (cn pu x0:Nat)])=H1 at s1 h1 ⊢;refine⟨fun m σ H'=>∃ j,m=dd-(j+1)/\j<dd/\σ=[B' (.ref q),B' (.ref d),B' (.int (x0:Nat)),v3,B' (.ref g)]/\af H H'/\H' g=B' (.lst (nums (rgL (wn ws c) pu x0 (j+1))))/\∀ s,1<=s->s<=j->U' (bk (wn ws c) pu) s x0≠x0,
    ⟨_,0,rfl,zp,rfl,sg.trans s1,h1,fun s h1 h2=>X4 h1 (by lia)⟩,?_⟩
   rintro m σ H2 ⟨j,rfl,jd,rfl,s2,pJ,ne⟩
   have o:=one H2 s2 _ (al j);refine⟨_,O,q,a.Layout,dx,_,_,O,s2 _ _ ex,T.Yl,T.Qbf,qY,_,O,g,_,_,_,O,O,M'.of pJ,at0,r.o,_,_,_,O,O,o.1,o.2,_,O,O,_,O,?_⟩;have e1:bk (wn ws c) pu (U' (bk (wn ws c) pu) j x0)=U' (bk (wn ws c) pu) (j+1) x0:=rfl;refine bo (fun c1=>?_) (fun c1=>?_)
   .have n1:U' (bk (wn ws c) pu) (j+1) x0≠x0:=fun z=>by
     rw[e1,z,UW rfl] at c1;cases c1
    have LP:j+1<dd:=by
     rcases VF (j+1) dd with z|z
     .exact z
     .exact X4 (by rw[show j+1=dd by lia];exact gi) n1
    refine⟨_,fun σ' H' h=>h,?_⟩;have len:=BR (wn ws c) pu x0 (j+1);have lz:(nums (rgL (wn ws c) pu x0 (j+1))).length=j+1:=by unfold nums;rw[Us,len]
    refine⟨_,O,.inl ⟨O,_,M'.of pJ⟩,_,O,_,O,q,a.Layout,dx,_,_,O,s2 _ _ ex,T.Yl,T.Qbf,qY,_,O,g,_,_,_,O,O,M'.of pJ,at0,r.o,_,_,_,O,O,o.1,o.2,d,_,O,dg H2 s2 _ (al (j+1)),g,_,0,_,O,O,pJ,by lia,by lia,?_,?_⟩
    .rw[lz,Uz]
     lia
    .exact⟨dd-(j+1+1),by lia,j+1,O,LP,O,c8 oZ s2,ai,fun s h1 h2=>by
      rcases VF s (j+1) with z|z
      .exact ne s h1 (by lia)
      .rw[show s=j+1 by lia]
       exact n1⟩
   .have e2:U' (bk (wn ws c) pu) (j+1) x0=x0:=by
     by_cases z:U' (bk (wn ws c) pu) (j+1) x0=x0
     .exact z
     .rw[e1,Ve (fun y=>z (by injection y with y;exact Qav y))] at c1
      cases c1
    exact⟨_,O,k g _ H2 s2 pJ oZ ⟨_,t,pu,x0,j,fi,M9,al,O,e2,ne⟩ (by rw[BR];lia)⟩
end
def YI (ws:List Wt) (c:Nat) (P:List Int):Nat->List Int×XZ×Option Nat
 | 0=>(P,[],C')
 | j+1=>Yt ws c (YI ws c P j).1 (YI ws c P j).2.1 ws.length
def nC (ws:List Wt) (c:Nat):List Int:=(YI ws c (X8 c 0) c).1
theorem Ip {ws:List Wt}{c:Nat}{P:List Int}{kvs:XZ} (h:∀ n,n<ws.length->0<=Yh (wn ws c) (fn P) n):∀ k,k<=ws.length->Yt ws c P kvs k=(P,kvs,C')
 | 0,_=>rfl
 | k+1,hk=>by
  have ih:=Ip h (kvs:=kvs) k (by lia);unfold Yt;rw[ih,W' (by have:=h k (by lia);show ¬ Yh (wn ws c) (fn P) k<0;lia)]
theorem Jj {ws:List Wt}{c:Nat}{P:List Int}{j:Nat} (h:∀ n,n<ws.length->0<=Yh (wn ws c) (fn (YI ws c P j).1) n):∀ i,(YI ws c P (j+i)).1=(YI ws c P j).1
 | 0=>rfl
 | i+1=>by
  have ih:=Jj h i;show(Yt ws c (YI ws c P (j+i)).1 (YI ws c P (j+i)).2.1 ws.length).1=_;rw[ih,Ip h _ (Uv _)]
theorem xT (ws:List Wt) (c:Nat) (P:List Int):∀ j,(YI ws c P j).1.length=P.length/\(YI ws c P j).2.1.length<=j*ws.length
 | 0=>⟨O,VJ _⟩
 | j+1=>by
  obtain⟨h1,h2⟩:=xT ws c P j;obtain⟨h3,h4⟩:=xH ws c (YI ws c P j).1 (YI ws c P j).2.1 ws.length;refine⟨h3.trans h1,U5 h4 ?_⟩;rw[Qg7];lia
theorem xY (c:Nat):fn (X8 c 0)=fun _=>0:=by
 funext i
 unfold fn;rw[Ux,Xc];split<;>rfl
def p9 (ws:List Wt) (c:Nat) (i:Nat):Prop:=∃ t pu,jm (YI ws c (X8 c 0) i).2.1 pu/\Fi (wn ws c) t (fn (YI ws c (X8 c 0) i).1) pu/\Rd (wn ws c) t (fn (YI ws c (X8 c 0) i).1) (i+1) 0/\∀ v,(YI ws c (X8 c 0) i).2.2=B' v->i<=t v/\v<c
theorem p9.start (ws:List Wt) (c:Nat):p9 ws c 0:=by
 refine⟨fun _=>0,fun _=>C',jm.nil,?_,?_,fun v e=>by cases e⟩
 .show Fi _ _ (fn (X8 c 0)) _
  rw[xY];exact Fi.start _
 .exact Rd.start _ _
theorem p9.next {ws:List Wt}{c i:Nat} (ok:(wn ws c).Ok) (h:p9 ws c i):p9 ws c (i+1)/\((YI ws c (X8 c 0) (i+1)).2.2=C'->(YI ws c (X8 c 0) (i+1)).1=(YI ws c (X8 c 0) i).1/\∀ n,n<ws.length->0<=Yh (wn ws c) (fn (YI ws c (X8 c 0) i).1) n):=by
 obtain⟨t,pu,h1,h2,h3,_⟩:=h;have hl:(YI ws c (X8 c 0) i).1.length=c:=by rw[(xT ws c _ i).1,Vu]
 obtain⟨t',oR,i1,i2,i3,i4,i5⟩:=Ib hl ok h1 h2 h3 ws.length (Uv _);refine⟨⟨t',oR,i1,i2,Rd.next i3,i5⟩,fun e=>?_⟩;obtain⟨e1,e2⟩:=i4 e;refine⟨?_,e2⟩;show(Yt ws c (YI ws c (X8 c 0) i).1 (YI ws c (X8 c 0) i).2.1 ws.length).1=_;rw[e1]
section
variable {K:V'}
def Oy (C:F'):Sp:=fun vs H Q _=>∃ x t g ys,vs=[.ref x,.ref g]/\H x=B' (iB C t x C')/\H g=B' (.lst ys)/\∀ l,H l=C'->∀ dx,upd H l (.lst ys) dx=C'->Q .X1 (upd (upd (upd H l (.lst ys)) dx (.xd [("ring",.ref l)])) x (iB C t x (B' dx)))
theorem RL (T:Tx K mg a):yu P w K mg base Yj 1 a.Ring "Ring" ["self","ring"] (Oy a.Ring):=T.Qjc.Ym fun f fd F=>by
 refine F.ok Sn (fun vs H Q E h=>?_) (fun aD A outer s H vs Q E hr h=>?_)
 .obtain⟨x,t,g,ys,rfl,_⟩:=h
  rfl
 .obtain⟨x,t,g,ys,rfl,hx,hg,k⟩:=h
  refine⟨_,(ay (FU (pv 0) (rh Hw O T.Qcf uU (ag (pv 1) aj)) O)),?_⟩;exact⟨_,O,g,_,O,.inl (M'.of hg),fun l nl=>⟨_,O,x,a.Ring,t,O,by rw[ak (av hx nl)];exact hx,T.Qjd,fun dx nd=>k l nl dx nd⟩⟩
def Qj9 (a:Zx):Sp:=fun vs H Q E=>∃ q r ws c,vs=[.ref q]/\bR a.Layout H q r ws c/\H r.p=B' (.lst ((X8 c (0:Int)).map V.int))/\(wn ws c).Ok/\ws.length<=200/\c<=200 /\
 ((∀ n,n<ws.length->0<=Yh (wn ws c) (fn (nC ws c)) n)->(nC ws c).length=c->∀ H',Kx [r.p] H H'->H' r.p=B' (.lst ((nC ws c).map V.int))->Q .X1 H') /\
 ∀ ring l dx H',Kx [r.p] H H'->H' dx=B' (.xd [("ring",.ref l)])->H' l=B' (.lst (nums ring))->BE (wn ws c) ring->ring.length<=c+1->E (.ref a.Ring) (B' dx) H'
theorem Qka (T:Tx K mg a):YD P w K mg base (Zh P w) 3 "fit" ["layout"] [] (Qj9 a):=T.Qjg.Ym fun f fd F=>by
 have fL:=Oq (P:=P) (w:=w) (base:=base) T;have dQ:=OG (P:=P) (w:=w) (base:=base) T;have pj:=RL (P:=P) (w:=w) (base:=base) T;refine F.okX rD (fun vs H Q E h=>?_) (fun aD A outer s H vs Q E hr h=>?_)
 .obtain⟨q,r,ws,c,rfl,_⟩:=h
  rfl
 .obtain⟨q,r,ws,c,rfl,L,hp,ok,hw,hc,k1,k2⟩:=h
  obtain⟨dx,ex⟩:=L.ex;refine⟨_,(aq (aQ (i:=1) rD.nd O (.inl O) (bM fW O T.Zb dZ (ag (bg (pv 0) O) aj)))
   (aq (aQ (i:=2) rD.nd O (.inl O) l8)
   (aq (aQ (i:=3) rD.nd O (.inl O) FT)
   (aq (cV Qeb rfl (qo rfl T.Qa1 (ag (pv 1) aj)) (aE (i:=4) rD.nd O (.inl O)) (aq (aQ (i:=3) rD.nd O (.inl O) (bD fL (hr.mono (by decide)) rfl (ag (pv 0) (ag (pv 2) aj))))
   (ay (bU (jq (FX (pv 3))) (ay RI) cr))))
   (ay (bU (jq (R9 (pv 3))) (ay (Iw eN pj (hr.mono (by decide)) rfl (ag (bD dQ (hr.mono (by decide)) rfl (ag (pv 0) (ag (pv 2) (ag (pv 3) aj)))) aj))) cr)))))),?_⟩
  refine⟨_,O,q,a.Layout,dx,_,_,O,ex,T.Yl,T.Qa0,qh,r.p,_,O,.inl (M'.of hp),fun d nd=>?_⟩;have lz:((X8 c (0:Int)).map V.int).length=c:=by rw[Us,Vu]
  have Au:r.p≠d:=av hp nd;have s1:af H (upd H d (.dK [])):=af.new nd;have h1:upd H d (.dK []) d=B' (.dK []):=ai;generalize upd H d (.dK [])=H1 at s1 h1 ⊢;have L1:=L.same s1;have lay:∀ G,Kx [r.p,d] H1 G->bR a.Layout G q r ws c:=fun G kx=>L1.kx kx fun x hx=>by
   rcases U1.mp hx with z|z
   .exact .inl z
   .rw[XC.mp z]
    exact .inr (.inr (.inr ⟨[],h1⟩))
  have ut:∀ G,Kx [r.p,d] H1 G->Kx [r.p] H G:=fun G kx b o e z=>kx b o (s1 b o e) fun y=>by
   rcases U1.mp y with y|y
   .exact z (by rw[y];simp)
   .rw[XC.mp y,nd] at e
    cases e
  rw[lz];refine⟨_,O,_,O,by lia,by lia,C4 (lo:=0) (n:=((c:Nat):Int).toNat) (fun i σ G=>∃ v4,σ=[B' (.ref q),B' (.int (c:Nat)),B' (.ref d),B' (B0 (YI ws c (X8 c 0) i).2.2),v4]/\p9 ws c i/\Kx [r.p,d] H1 G/\G r.p=B' (.lst ((YI ws c (X8 c 0) i).1.map V.int))/\G d=B' (.dK (YI ws c (X8 c 0) i).2.1)/\(0<i->(YI ws c (X8 c 0) i).2.2≠C'))
   ⟨C',rfl,p9.start ws c,Kx.of (af.refl _),s1 _ _ hp,h1,fun z=>X4 z (UT _)⟩ ?_ ?_⟩
  .rintro i σ G hi ⟨v4,rfl,ro,kx,hG,lQ,_⟩
   rw[UD] at hi;obtain⟨l1,l2⟩:=xT ws c (X8 c 0) i;rw[Vu] at l1;have l3:i*ws.length<=200*200:=Nat.mul_le_mul (by lia) hw;dsimp only[bN];refine⟨_,O,_,O,q,r,ws,c,_,d,_,O,lay G kx,hG,l1,ok,by lia,lQ,by lia,fun H2 ib h2 c9=>?_⟩;obtain⟨J8,X1⟩:=ro.next ok;have st:Yt ws c (YI ws c (X8 c 0) i).1 (YI ws c (X8 c 0) i).2.1 ws.length=YI ws c (X8 c 0) (i+1):=rfl;rw[st] at h2 c9 ⊢;refine⟨_,O,_,O,?_⟩;cases e:(YI ws c (X8 c 0) (i+1)).2.2 with
   | none=>
    refine fj ?_;obtain⟨e1,e2⟩:=X1 e;have ni:=Jj e2 (c-i);rw[show i+(c-i)=c by lia] at ni;have fp:nC ws c=(YI ws c (X8 c 0) (i+1)).1:=ni.trans e1.symm;refine k1 ?_ ?_ H2 (ut _ (kx.trans ib)) (by rw[fp];exact h2)
    .rw[fp,e1]
     exact e2
    .rw[fp,e1]
     exact l1
   | some v=>
    refine mC ?_;exact⟨_,O,J8,kx.trans ib,h2,c9,fun _ z=>by cases z⟩
  .rintro σ G ⟨v4,rfl,ro,kx,hG,lQ,ne⟩
   rw[UD] at ro hG lQ ne ⊢;obtain⟨l1,l2⟩:=xT ws c (X8 c 0) c;rw[Vu] at l1;refine⟨_,O,_,O,?_⟩;cases e:(YI ws c (X8 c 0) c).2.2 with
   | none=>
    refine mC ?_;have c0:c=0:=by
     rcases WU c with z|z
     .exact z
     .exact X4 e (ne z)
    refine k1 (fun n hn=>?_) l1 G (ut _ kx) hG;have z:(wn ws c).on n<c:=ok.on n hn;lia
   | some v=>
    refine fj ?_;obtain⟨t,pu,r1,r2,r3,r4⟩:=ro;obtain⟨t1,t2⟩:=r4 v e;refine⟨_,O,_,O,_,O,q,r,ws,c,_,d,_,t,pu,v,O,lay G kx,hG,l1,ok,by lia,lQ,r1,r2,t1,t2,fun g ring H2 s2 hg ng QcG len=>?_⟩;refine⟨by show 1<=XX;decide,fun x tk hx=>⟨x,tk,g,nums ring,O,ai,by rw[ak (av hg hx)];exact hg,fun l nl d2 jK=>⟨O,B' d2,ai,?_⟩⟩⟩;have lx:l≠x:=fun z=>by rw[z,ai] at nl;cases nl
    have dl:d2≠l:=fun z=>by rw[z,ai] at jK;cases jK
    rw[ak dl] at jK;have Ea:d2≠x:=fun z=>by rw[z,ai] at jK;cases jK
    rw[ak Ea] at jK;rw[ak lx] at nl;have e:del (upd (upd (upd (upd H2 x (iB a.Ring tk x C')) l (.lst (nums ring))) d2 (.xd [("ring",.ref l)])) x (iB a.Ring tk x (B' d2))) x=upd (upd H2 l (.lst (nums ring))) d2 (.xd [("ring",.ref l)]):=by
     funext b
     unfold del;by_cases h1:b=x
     .subst h1
      rw[XR rfl,ak (XW Ea),ak (XW lx),hx]
     .rw[W' h1,ak h1]
      by_cases h2:b=d2
      .subst h2;rw[ai,ai]
      .rw[ak h2,ak h2]
       by_cases h3:b=l
       .subst h3;rw[ai,ai]
       .rw[ak h3,ak h1,ak h3]
    show E _ _ _;rw[e];have sl:af H2 (upd H2 l (.lst (nums ring))):=af.new nl;have NF:upd H2 l (.lst (nums ring)) d2=C':=by rw[ak dl];exact jK
    have sd:af (upd H2 l (.lst (nums ring))) (upd (upd H2 l (.lst (nums ring))) d2 (.xd [("ring",.ref l)])):=af.new NF;exact k2 ring l d2 _ ((ut _ kx).trans (Kx.of (s2.trans (sl.trans sd)))) ai (by rw[ak (XW dl)];exact ai) QcG len
end
def intOf:Option V->Option Int
 | some (.int i)=>B' i
 | _=>C'
def gI (kvs:XZ) (v:Nat):Option Int:=intOf (aU kvs (XY (v:Int)))
def Wf (kvs:XZ):Prop:=∀ p∈kvs,∃ (v:Nat) (i:Int),p=(XY (v:Int),V.int i)
theorem Wf.val {kvs:XZ} (h:Wf kvs) (v:Nat):aU kvs (XY (v:Int))=(gI kvs v).map V.int:=by
 unfold gI;cases e:aU kvs (XY (v:Int)) with
 | none=>rfl
 | some x=>
  unfold aU at e;obtain⟨p,e1,e2⟩:=QbP.mp e;obtain⟨u,i,e3⟩:=h p (Ww e1);rw[e3] at e2;rw[<- e2];rfl
theorem Wf.put {kvs:XZ} (h:Wf kvs) (v:Nat) (i:Int):Wf (aO kvs (XY (v:Int)) (.int i)):=fun p hp=>by
 unfold aO at hp;split at hp
 .obtain⟨p',h1,h2⟩:=YL.mp hp
  obtain⟨u,j,rfl⟩:=h p' h1;split at h2
  .exact⟨u,i,h2.symm⟩
  .exact⟨u,j,h2.symm⟩
 .rcases YK.mp hp with z|z
  .exact h p z
  .exact⟨v,i,XC.mp z⟩
theorem jj (kvs:XZ) (v:Nat) (i:Int):gI (aO kvs (XY (v:Int)) (.int i))=up (gI kvs) v (B' i):=by
 funext u
 unfold gI;rw[vi];by_cases c:u=v
 .subst c
  rw[XR rfl,aY];rfl
 .rw[W' (fun z=>c (by injection z with z;exact Qav z)),aR _ _ c]
theorem Wf.QaH {d:F'}{kvs:XZ} (h:Wf kvs) (hd:H d=B' (.dK kvs)):bS H d (.int (v:Nat)) ((gI kvs v).map V.int):=.inl ⟨kvs,XY (v:Int),.inl hd,O,(h.val v).symm⟩
def stD (s:Nat×Int):Dt:=.tup [.int s.1,.int s.2]
def Y' (ws:List Wt) (c:Nat) (P fl:List Int) (x:Nat):List (Nat×Int):=(goN ws x).map (fun n=>(n,Yh (wn ws c) (fn P) n))++((coN ws x).filter fun n=>decide (0<fn fl n)).map fun n=>(n,0)
def near:Option Int->Int->Bool
 | none,_=>D'
 | some b,e=>decide (e<b)
def Yx (ws:List Wt) (c:Nat) (far:XZ) (x:Nat) (a:Int) (s:XZ×XZ) (st:Nat×Int):XZ×XZ:=
 if (!(gI far (ac (wn ws c) st.1 x)).isSome && near (gI s.1 (ac (wn ws c) st.1 x)) (a+st.2))=D' then
  (aO s.1 (XY ((ac (wn ws c) st.1 x:Nat):Int)) (.int (a+st.2)),aO s.2 (XY ((ac (wn ws c) st.1 x:Nat):Int)) (.int (st.1:Nat))) else s
def iW (ws:List Wt) (c:Nat) (P fl:List Int) (far:XZ) (x:Nat) (a:Int) (s:XZ×XZ):XZ×XZ:=(Y' ws c P fl x).foldl (Yx ws c far x a) s
theorem IT {far:XZ}{a:Int}{s:XZ×XZ} (h:Wf s.1/\Wf s.2):(Wf (Yx ws c far x a s st).1/\Wf (Yx ws c far x a s st).2)/\(Yx ws c far x a s st).1.length<=s.1.length+1/\(Yx ws c far x a s st).2.length<=s.2.length+1:=by
 unfold Yx;split
 .exact⟨⟨h.1.put _ _,h.2.put _ _⟩,rE _ _ _,rE _ _ _⟩
 .exact⟨h,by lia,by lia⟩
theorem Cd (h:n∈goN ws x):n<ws.length:=QaL.mp (ZJ.mp h).1
theorem CH (h:n∈coN ws x):n<ws.length:=QaL.mp (ZJ.mp h).1
theorem Qkb {P fl:List Int} (h:s∈Y' ws c P fl x):s.1<ws.length:=by
 rcases YK.mp h with z|z
 .obtain⟨n,hn,rfl⟩:=YL.mp z
  exact Cd hn
 .obtain⟨n,hn,rfl⟩:=YL.mp z
  exact CH (ZJ.mp hn).1
theorem HX (ws:List Wt) (x:Nat):(goN ws x).length<=ws.length:=by
 have:=U0 (fun n=>decide ((ws.getD n (0,0,0,0)).1=x)) (YM ws.length);rw[U7] at this;exact this
theorem HW (ws:List Wt) (x:Nat):(coN ws x).length<=ws.length:=by
 have:=U0 (fun n=>decide ((ws.getD n (0,0,0,0)).2.1=x)) (YM ws.length);rw[U7] at this;exact this
theorem GV {K:V'}{H:Hp}:∀ {ds:List Dt}{xs:List V}{es:List Dt}{ys:List V},aK K H ds xs->aK K H es ys->aK K H (ds++es) (xs++ys)
 | [],xs,es,ys,h,h'=>by
  have e:xs=[]:=h;subst e;exact h'
 | d::ds,xs,es,ys,h,h'=>by
  obtain⟨y,r,e,h1,h2⟩:=h;subst e;exact⟨y,r++ys,O,h1,GV h2 h'⟩
theorem xG {K:V'}{x:V} (h:YH K H (stD s) x):∃ t,x=.ref t/\Ya K H t [.int s.1,.int s.2]:=by
 obtain⟨t,xs,rfl,h,y1,r1,rfl,e1,y2,r2,rfl,e2,e3⟩:=h;have z1:y1=.int s.1:=e1;have z2:y2=.int s.2:=e2;have z3:r2=[]:=e3;subst z1 z2 z3;exact⟨t,O,h⟩
theorem vT {l:List Nat}{x:V} (h:(nums l)[j]?=B' x):∃ n,l[j]?=B' n/\x=.int (n:Nat):=by
 unfold nums at h;rw[UJ] at h;cases e:l[j]? with
 | none=>rw[e] at h;cases h
 | some n=>rw[e] at h;exact⟨n,O,(YB h).symm⟩
section
variable {K:V'}
def Qkc (C:F'):Sp:=fun vs H Q _=>∃ q r ws c p fl fA wA cA far wt cm,∃ (x:Nat) (e:Int),vs=[.ref q,.int x,.ref fA,.ref wA,.ref cA]/\bR C H q r ws c/\H r.p=B' (.lst ((p:List Int).map V.int))/\p.length=c/\H r.f=B' (.lst ((fl:List Int).map V.int))/\fl.length=ws.length/\(wn ws c).Ok/\ws.length<=200/\x<c /\
 H fA=B' (.dK far)/\Wf far/\gI far x=B' e/\H wA=B' (.dK wt)/\Wf wt/\wt.length<=1000000/\H cA=B' (.dK cm)/\Wf cm/\cm.length<=1000000/\fA≠wA/\fA≠cA/\wA≠cA /\
 ∀ H',Kx [wA,cA] H H'->H' wA=B' (.dK (iW ws c p fl far x e (wt,cm)).1)->H' cA=B' (.dK (iW ws c p fl far x e (wt,cm)).2)->Q .X1 H'
theorem Pz (T:Tx K mg a):YD P w K mg base Yj 2 "look_around" ["layout","point","far","waiting","came_by"] [] (Qkc a.Layout):=T.Qjl.Ym fun f fd F=>by
 have Qcd:=Ie (P:=P) (w:=w) (base:=base) T;have Qbg:=Ck (P:=P) (w:=w) (base:=base) T;refine F.ok rM (fun vs H Q E h=>?_) (fun aD A outer s H vs Q E hr h=>?_)
 .obtain⟨q,r,ws,c,p,fl,fA,wA,cA,far,wt,cm,x,e,rfl,_⟩:=h
  rfl
 .obtain⟨q,r,ws,c,p,fl,fA,wA,cA,far,wt,cm,x,e,rfl,L,hp,hc,hf,je,ok,hw,hx,lU,lL,ge,Nn,KC,dR,mL,Br,ly,n1,n2,n3,k⟩:=h
  obtain⟨dx,ex⟩:=L.ex;obtain⟨gs,g1,g2,g3⟩:=L.hg;obtain⟨cs,c1,c2,c3⟩:=L.hc;obtain⟨ga,kZ⟩:=eY (l:=gs) (j:=x) (by lia);obtain⟨ca,m9⟩:=eY (l:=cs) (j:=x) (by lia);have lD:=(g3 x ga kZ).1;have DN:=(c3 x ca m9).1;have AH:YU (gs.map V.ref) (x:Int)=B' (.ref ga):=by rw[iX (by lia),UD,UJ,kZ];rfl
  have yZ:YU (cs.map V.ref) (x:Int)=B' (.ref ca):=by rw[iX (by lia),UD,UJ,m9];rfl
  have gl:=HX ws x;have cl:=HW ws x;refine⟨_,(aq (pR (i:=5) rM.nd O O (N:=["number","layout"]) (cap:=[C',B' 0]) O (cq (osc:=aF yg) (XN:=["layout","point","far","waiting","came_by","steps","number","slack","neighbour","distance"]) O O (by decide +kernel)) (bY (aG aT (bg (pv 0) rfl) (pv 1) (fun _ _=>O))) (fun cl C s H fp aa=>(aE (i:=0) (show(["number","layout"]:List K').Nodup by decide +kernel) rfl (.inl rfl))) (fun cl C s H fp aa=>dE) (fun cl C s H fp aa=>(cw (ag (pv 0) (ag (uX (pv 1) T.Yl Qcd (hr.mono (by decide)) (ag (pv 0) aj)) aj)))) (hsw:=O))
   (aq (bC (c7 YY QcZ QdY Ce (pv 5) (ag (dF (N:=["number","layout"]) (cap:=[C',B' 0]) O (cq (osc:=aF yg) (XN:=["layout","point","far","waiting","came_by","steps","number","slack","neighbour","distance"]) O O (by decide +kernel)) (bY (aG aT (bg (pv 0) rfl) (pv 1) (fun _ _=>O))) (fun cl C s H fp aa=>(aE (i:=0) (show(["number","layout"]:List K').Nodup by decide +kernel) rfl (.inl rfl))) (fun cl C s H fp aa=>qp (bG nJ (aG (vQ (K:=K) O) (CO (K:=K) O (pv 1) O) (pv 0) (fun _ _=>O)) ao (bB _))) (fun cl C s H fp aa=>(cw (ag (pv 0) (ag ao aj))))) aj)))
   (ay (cV YS rfl (bY (pv 5)) (fe rfl (aM (aE (i:=6) rM.nd O (.inl O)) (aM (aE (i:=7) rM.nd O (.inl O)) cD))) (aq (aQ (i:=8) rM.nd O (.inl O) (uX (pv 0) T.Yl Qbg (hr.mono (by decide)) (ag (pv 6) (ag (pv 1) aj))))
   (aq (aQ (i:=9) rM.nd O (.inl O) (aH ee (cN (bf hr) (pv 2) (pv 1) (fun _ _=>O)) (pv 7)))
   (ay (bU (PW.pt (xB (jq (CQ (bf hr) (pv 8) (pv 2))) (xS (PW.pt (pV (jq (CQ (bf hr) (pv 8) (pv 3))) (vg (bG uQ (pv 9) (cN (bf hr) (pv 3) (pv 8) (fun _ _=>O)) (bB _)))))))) (aq (jP (bf hr) (pv 3) (pv 8) (pv 9) O)
   (ay (jP (bf hr) (pv 4) (pv 8) (pv 6) rfl))) cr)))))))),?_⟩
  refine⟨_,O,q,a.Layout,dx,_,_,O,ex,T.Yl,T.QdF,FW,_,O,r.g,_,_,_,O,O,M'.of g1,AH,ga,O,⟨_,M'.of lD⟩,fun D hD=>?_⟩;refine fQ (K:=K) (a:=ga) (xs:=nums (goN ws x)) (fun j τ G=>∃ v1 ys,τ=[v1,B' (.ref q)]/\af H G/\G D=B' (.lst ys)/\aK K G ((((goN ws x).take j).map fun n=>(n,Yh (wn ws c) (fn p) n)).map stD) ys) ⟨C',[],O,af.new hD,ai,O⟩ ?_ ?_ ?_
  .rintro j τ G _ ⟨_,_,rfl,sg,_⟩
   exact M'.of (sg _ _ lD)
  .rintro j y τ G hy ⟨v1,ys,rfl,sg,E9,eI⟩
   obtain⟨n,hn,rfl⟩:=vT hy;have nl:=Cd (UF hn);have kn:ys.length<=200:=by
    have:=eI.length;rw[Us,Us,UH] at this;lia
   dsimp only[bN,dY];rw[XR rfl];refine⟨_,O,_,O,q,dx,_,O,sg _ _ ex,by rfl,_,O,q,r,ws,c,p,n,O,L.same sg,sg _ _ hp,hc,nl,ok,(by show 2<=XX;decide),fun z nz=>?_⟩;have s5:af G (upd G z (.tup [.int (n:Nat),.int (Yh (wn ws c) (fn p) n)])):=af.new nz;have h5:upd G z (.tup [.int (n:Nat),.int (Yh (wn ws c) (fn p) n)]) z=B' (.tup [.int (n:Nat),.int (Yh (wn ws c) (fn p) n)]):=ai;generalize upd G z (.tup [.int (n:Nat),.int (Yh (wn ws c) (fn p) n)])=H5 at s5 h5 ⊢;refine⟨_,s5 _ _ E9,by rw[Uz];lia,_,_,O,c8 hD (sg.trans s5),ai,?_⟩;rw[bx hn,UC,UC];have kp:Tk H5 (upd H5 D (.lst (ys++[.ref z]))):=Tk.upd (s5 _ _ E9) rfl;exact aK.snoc (d:=stD (n,Yh (wn ws c) (fn p) n)) (kp.dt O ⟨z,_,O,Ya.of h5,_,_,O,O,_,_,O,O,O⟩) (kp.Yf (cf (fun _=>O) _) (s5.Yf eI))
  rintro τ H1 ⟨v1,ys,rfl,s1,jZ,lV⟩
  rw[Vd (by unfold nums;rw[Us];exact Uv _)] at lV;have ky:ys.length<=200:=by
   have:=lV.length;rw[Us,Us] at this;lia
  have Uo:H D=C':=hD;refine⟨_,O,.inl ⟨O,_,M'.of jZ⟩,_,O,q,a.Layout,dx,_,_,O,s1 _ _ ex,T.Yl,T.QdE,Hu,_,O,r.c,_,_,_,O,O,M'.of (s1 _ _ c1),yZ,ca,O,⟨_,M'.of (s1 _ _ DN)⟩,fun Z hZ=>?_⟩;refine fQ (K:=K) (a:=ca) (xs:=nums (coN ws x)) (fun j τ G=>∃ v1 zs,τ=[v1,B' (.ref q)]/\af H1 G/\G Z=B' (.lst zs)/\aK K G (((((coN ws x).take j).filter fun n=>decide (0<fn fl n)).map fun n=>(n,(0:Int))).map stD) zs) ⟨C',[],O,af.new hZ,ai,O⟩ ?_ ?_ ?_
  .rintro j τ G _ ⟨_,_,rfl,sg,_⟩
   exact M'.of (sg _ _ (s1 _ _ DN))
  .rintro j y τ G hy ⟨v1,zs,rfl,sg,yI,eI⟩
   obtain⟨n,hn,rfl⟩:=vT hy;have nl:=CH (UF hn);have tg:=s1.trans sg;have kn:zs.length<=200:=by
    have e1:=eI.length;have e2:=U0 (fun n=>decide (0<fn fl n)) ((coN ws x).take j);rw[Us,Us] at e1;rw[UH] at e2;lia
   dsimp only[bN];refine⟨_,O,q,a.Layout,dx,_,_,O,tg _ _ ex,T.Yl,T.Qbe,vH,_,O,r.f,_,_,_,O,O,M'.of (tg _ _ hf),qc (by lia),_,_,O,O,_,O,?_⟩;refine bo (fun b1=>?_) (fun b1=>?_)
   .have b2:decide (0<fn fl n)=D':=UW (UM b1)
    refine⟨_,O,(by show 2<=XX;decide),fun z nz=>?_⟩;have s5:af G (upd G z (.tup [.int (n:Nat),.int 0])):=af.new nz;have h5:upd G z (.tup [.int (n:Nat),.int 0]) z=B' (.tup [.int (n:Nat),.int 0]):=ai;generalize upd G z (.tup [.int (n:Nat),.int 0])=H5 at s5 h5 ⊢;refine⟨_,s5 _ _ yI,by rw[Uz];lia,_,_,O,c8 hZ (sg.trans s5),ai,?_⟩;rw[bx hn,Vz,UX,XR b2,We,UC,UC];have kp:Tk H5 (upd H5 Z (.lst (zs++[.ref z]))):=Tk.upd (s5 _ _ yI) rfl;exact aK.snoc (d:=stD (n,0)) (kp.dt O ⟨z,_,O,Ya.of h5,_,_,O,O,_,_,O,O,O⟩) (kp.Yf (cf (fun _=>O) _) (s5.Yf eI))
   .have b2:decide (0<fn fl n)=R':=Ve (U2 b1)
    refine⟨_,zs,O,sg,yI,?_⟩;rw[bx hn,Vz,UX,W' (by rw[b2];decide),We,Vc];exact eI
  rintro τ H2 ⟨v2,zs,rfl,s2,EK,lK⟩
  rw[Vd (by unfold nums;rw[Us];exact Uv _)] at lK;have kz:zs.length<=200:=by
   have e1:=lK.length;have e2:=U0 (fun n=>decide (0<fn fl n)) (coN ws x);rw[Us,Us] at e1;lia
  have gD:=s2 _ _ jZ;refine⟨D,Z,ys,zs,O,O,gD,EK,by rw[Uz];lia,?_⟩;have i6:Tk H2 (upd H2 D (.lst (ys++zs))):=Tk.upd gD rfl;have jF:aK K (upd H2 D (.lst (ys++zs))) ((Y' ws c p fl x).map stD) (ys++zs):=by
   unfold Y';rw[UC];exact GV (i6.Yf (cf (fun _=>O) _) (s2.Yf lV)) (i6.Yf (cf (fun _=>O) _) lK)
  have s3:af H (upd H2 D (.lst (ys++zs))):=c8 hD (s1.trans s2);have h3:upd H2 D (.lst (ys++zs)) D=B' (.lst (ys++zs)):=ai;generalize upd H2 D (.lst (ys++zs))=H3 at jF s3 h3 ⊢;clear lV lK jZ gD EK i6 s1 s2;have Bp:=s3 _ _ lU;have lE:=s3 _ _ Nn;have kW:=s3 _ _ mL;have L3:=L.same s3;generalize cR:Y' ws c p fl x=st at jF;have qt:∀ s∈st,s.1<ws.length:=fun s hs=>Qkb (by rw[cR];exact hs)
  have Ud:st.length<=400:=by
   have:=jF.length;rw[Us,UB] at this;lia
  have lay:∀ G,Kx [wA,cA] H3 G->bR a.Layout G q r ws c:=fun G kx=>L3.kx kx fun y hy=>by
   rcases U1.mp hy with z|z
   .rw[z]
    exact .inr (.inr (.inr ⟨wt,lE⟩))
   .rw[XC.mp z]
    exact .inr (.inr (.inr ⟨cm,kW⟩))
  have sQ:∀ G,Kx [wA,cA] H3 G->Tk H3 G:=fun G kx b o e z=>kx b o e fun y=>by
   rcases U1.mp y with y|y
   .rw[y,lE] at e
    cases e
    cases z
   .rw[XC.mp y,kW] at e
    cases e
    cases z
  have kD:∀ G,Kx [wA,cA] H3 G->G D=B' (.lst (ys++zs)):=fun G kx=>kx _ _ h3 fun y=>by
   rcases U1.mp y with y|y
   .rw[y,lE] at h3
    cases h3
   .rw[XC.mp y,kW] at h3
    cases h3
  have kF:∀ G,Kx [wA,cA] H3 G->G fA=B' (.dK far):=fun G kx=>kx _ _ Bp fun y=>by
   rcases U1.mp y with y|y
   .exact n1 y
   .exact n2 (XC.mp y)
  refine⟨_,O,D,O,⟨_,M'.of h3⟩,jr (K:=K) (a:=D) (xs:=ys++zs) (fun i σ G=>∃ v6 v7 v8 v9,σ=[B' (.ref q),B' (.int (x:Nat)),B' (.ref fA),B' (.ref wA),B' (.ref cA),B' (.ref D),v6,v7,v8,v9]/\Kx [wA,cA] H3 G/\G wA=B' (.dK ((st.take i).foldl (Yx ws c far x e) (wt,cm)).1)/\G cA=B' (.dK ((st.take i).foldl (Yx ws c far x e) (wt,cm)).2)/\(Wf ((st.take i).foldl (Yx ws c far x e) (wt,cm)).1/\Wf ((st.take i).foldl (Yx ws c far x e) (wt,cm)).2)/\((st.take i).foldl (Yx ws c far x e) (wt,cm)).1.length<=1000000+i/\((st.take i).foldl (Yx ws c far x e) (wt,cm)).2.length<=1000000+i)
   ⟨C',C',C',C',rfl,Kx.of (af.refl _),lE,kW,⟨KC,Br⟩,dR,ly⟩ ?_ ?_ ?_⟩
  .rintro i σ G _ ⟨_,_,_,_,rfl,kx,_⟩
   exact M'.of (kD G kx)
  .rintro i y σ G hy ⟨v6,v7,v8,v9,rfl,kx,kN,mT,wf,lw,lc⟩
   obtain⟨⟨n,d⟩,hs,ds⟩:=dU jF hy;have hi:i<st.length:=(Yi.mp hs).1;have nl:=qt _ (UF hs);obtain⟨t,rfl,ht⟩:=xG ((sQ G kx).dt O ds);have LG:=lay G kx;obtain⟨qu,ex3⟩:=LG.ex;have fo:(st.take (i+1)).foldl (Yx ws c far x e) (wt,cm)=Yx ws c far x e ((st.take i).foldl (Yx ws c far x e) (wt,cm)) (n,d):=by rw[bx hs,Vq];rfl
   rw[fo];obtain⟨r1,r2,r3⟩:=IT (ws:=ws) (c:=c) (far:=far) (x:=x) (a:=e) (st:=(n,d)) wf;generalize (st.take i).foldl (Yx ws c far x e) (wt,cm)=now at kN mT wf lw lc r1 r2 r3 ⊢;refine⟨t,_,O,ht,O,_,_,O,_,_,O,O,?_⟩;refine⟨_,O,q,qu,_,O,ex3,by rfl,_,O,_,O,q,r,ws,c,n,x,O,LG,nl,?_⟩;have gf:=lL.QaH (v:=x) (kF G kx);rw[ge] at gf;refine⟨_,O,_,O,fA,_,O,gf,_,O,_,_,O,O,?_⟩;generalize wT:ac (wn ws c) n x=nb;have gn:=lL.QaH (v:=nb) (kF G kx);have gw:=wf.1.QaH (v:=nb) kN;have rx:Yx ws c far x e now (n,d)=if (!(gI far nb).isSome && near (gI now.1 nb) (e+d))=D' then(aO now.1 (XY ((nb:Nat):Int)) (.int (e+d)),aO now.2 (XY ((nb:Nat):Int)) (.int (n:Nat))) else now:=by rw[<- wT];rfl
   dsimp only[bN];refine⟨_,O,_,O,fA,_,O,gn,_,O,?_⟩;cases ef:gI far nb with
   | some b=>
    rw[ef] at rx;have rx:Yx ws c far x e now (n,d)=now:=rx;refine mC (mC ⟨_,_,_,_,O,kx,?_,?_,r1,by lia,by lia⟩)
    .rw[rx];exact kN
    .rw[rx];exact mT
   | none=>
    rw[ef] at rx;refine fj ?_;refine⟨_,O,_,O,wA,_,O,gw,_,O,?_⟩;cases ew:gI now.1 nb with
    | none=>
     rw[ew] at rx;have rx:Yx ws c far x e now (n,d)=(aO now.1 (XY ((nb:Nat):Int)) (.int (e+d)),aO now.2 (XY ((nb:Nat):Int)) (.int (n:Nat))):=rx;refine fj (fj ?_);refine⟨_,O,_,O,_,O,wA,_,O,.inl ⟨now.1,XY ((nb:Nat):Int),kN,O,by rw[Uz];lia,O⟩,?_⟩;refine⟨_,O,_,O,_,O,cA,_,O,.inl ⟨now.2,XY ((nb:Nat):Int),by rw[ak (XW n3)];exact mT,O,by rw[Uz];lia,O⟩,?_⟩;refine⟨_,_,_,_,O,(kx.trans (Kx.upd (by simp))).trans (Kx.upd (by simp)),?_,?_,r1,by lia,by lia⟩
     .rw[ak n3,ai,rx]
     .rw[ai,rx]
    | some b=>
     rw[ew] at rx gw;refine mC ?_;refine⟨_,O,_,O,_,O,wA,_,O,gw,_,_,O,O,_,O,?_⟩;refine bo (fun b1=>?_) (fun b1=>?_)
     .have b2:decide (e+d<b)=D':=b1
      have rx:Yx ws c far x e now (n,d)=(aO now.1 (XY ((nb:Nat):Int)) (.int (e+d)),aO now.2 (XY ((nb:Nat):Int)) (.int (n:Nat))):=by
       rw[rx];exact XR b2
      refine⟨_,O,_,O,_,O,wA,_,O,.inl ⟨now.1,XY ((nb:Nat):Int),kN,O,by rw[Uz];lia,O⟩,?_⟩;refine⟨_,O,_,O,_,O,cA,_,O,.inl ⟨now.2,XY ((nb:Nat):Int),by rw[ak (XW n3)];exact mT,O,by rw[Uz];lia,O⟩,?_⟩;refine⟨_,_,_,_,O,(kx.trans (Kx.upd (by simp))).trans (Kx.upd (by simp)),?_,?_,r1,by lia,by lia⟩
      .rw[ak n3,ai,rx]
      .rw[ai,rx]
     .have b2:decide (e+d<b)=R':=b1
      have rx:Yx ws c far x e now (n,d)=now:=by
       rw[rx];exact W' (by show ¬ decide (e+d<b)=D';rw[b2];decide)
      refine⟨_,_,_,_,O,kx,?_,?_,r1,by lia,by lia⟩
      .rw[rx];exact kN
      .rw[rx];exact mT
  .rintro σ G ⟨v6,v7,v8,v9,rfl,kx,kN,mT,_⟩
   have hl:(ys++zs).length=st.length:=by rw[<- jF.length,Us]
   rw[hl,UO] at kN mT;refine k G (fun b o q z=>kx b o (s3 b o q) z) ?_ ?_
   .rw[kN]
    unfold iW;rw[cR]
   .rw[mT]
    unfold iW;rw[cR]
end
def cI (kvs:XZ) (v:Nat):Option Nat:=(gI kvs v).map ZM
theorem Gj (kvs:XZ) (v n:Nat):cI (aO kvs (XY (v:Int)) (.int (n:Nat)))=up (cI kvs) v (B' n):=by
 funext u
 unfold cI;rw[jj];by_cases c:u=v
 .subst c
  rw[aY,aY];rfl
 .rw[aR _ _ c,aR _ _ c]
theorem Y9.to {N:Wn}{P:Nat->Int}{q:Nat} (A:Y9 N P fl q p n d):p=K81.ac N n q:=by
 unfold K81.ac;obtain⟨_,⟨h1,h2,_⟩|⟨h1,h2,_⟩⟩:=A
 .by_cases c:N.ot n=q
  .rw[XR c,h1,<- c,h2]
  .rw[W' c,h2]
 .rw[XR h1,h2]
theorem RT {P fl:List Int} (h:(n,d)∈Y' ws c P fl x):Y9 (wn ws c) (fn P) (fn fl) x (ac (wn ws c) n x) n d:=by
 have key:∀ p,Y9 (wn ws c) (fn P) (fn fl) x p n d->Y9 (wn ws c) (fn P) (fn fl) x (ac (wn ws c) n x) n d:=fun p A=>by
  have e:=A.to;rw[<- e];exact A
 rcases YK.mp h with z|z
 .obtain⟨n',hn,e⟩:=YL.mp z
  cases e
  exact key ((wn ws c).ot n) ⟨Cd hn,.inl ⟨UM (ZJ.mp hn).2,O,O⟩⟩
 .obtain⟨n',hn,e⟩:=YL.mp z
  cases e
  obtain⟨h1,h2⟩:=ZJ.mp hn;exact key ((wn ws c).on n) ⟨CH h1,.inr ⟨UM (ZJ.mp h1).2,O,UM h2,O⟩⟩
theorem P1 {P fl:List Int} (A:Y9 (wn ws c) (fn P) (fn fl) x p n d):(n,d)∈Y' ws c P fl x:=by
 obtain⟨hn,⟨h1,h2,h3⟩|⟨h1,h2,h3,h4⟩⟩:=A
 .exact UZ _ (YL.mpr ⟨n,ZJ.mpr ⟨QaL.mpr hn,UW h1⟩,by rw[h3]⟩)
 .exact UG _ (YL.mpr ⟨n,ZJ.mpr ⟨ZJ.mpr ⟨QaL.mpr hn,UW h1⟩,UW h3⟩,by rw[h4]⟩)
theorem Pt {P fl:List Int}{far wt cm:XZ}{a:Int} (ok:(wn ws c).Ok) (ti:Ti (wn ws c) (fn P) (fn fl)) (hx:gI far x=B' a) (mx:∀ q b,gI far q=B' b->b<=a)
  (h:Se (wn ws c) (fn P) (fn fl) nd (gI far) (gI wt) (cI cm) rk size fun q _ _=>q≠x/\gI far q≠C') :
  Se (wn ws c) (fn P) (fn fl) nd (gI far) (gI (iW ws c P fl far x a (wt,cm)).1) (cI (iW ws c P fl far x a (wt,cm)).2) rk size fun q _ _=>gI far q≠C':=by
 have gen:∀ j,j<=(Y' ws c P fl x).length->Se (wn ws c) (fn P) (fn fl) nd (gI far) (gI (((Y' ws c P fl x).take j).foldl (Yx ws c far x a) (wt,cm)).1) (cI (((Y' ws c P fl x).take j).foldl (Yx ws c far x a) (wt,cm)).2) rk size fun q n d=>(q≠x/\gI far q≠C')\/(q=x/\(n,d)∈(Y' ws c P fl x).take j):=fun j=>by
  induction j with
  | zero=>
   intro _;refine⟨h.dj,h.lo,h.nn,h.ro,h.cb,h.ck,h.rk,fun q n d p b A L e=>h.ar q n d p b A ?_ e⟩;rcases L with L|⟨_,L⟩
   .exact L
   .cases L
  | succ j ih=>
   intro hj;have ih:=ih (by lia);obtain⟨⟨n,d⟩,hs⟩:∃ s,(Y' ws c P fl x)[j]?=B' s:=⟨(Y' ws c P fl x)[j],Uy (by lia)⟩;have A:=RT (UF hs);have tk:(Y' ws c P fl x).take (j+1)=(Y' ws c P fl x).take j++[(n,d)]:=by rw[WA,hs];rfl
   have hl:∀ q n' d',((q≠x/\gI far q≠C')\/(q=x/\(n',d')∈(Y' ws c P fl x).take (j+1)))->((q≠x/\gI far q≠C')\/(q=x/\(n',d')∈(Y' ws c P fl x).take j))\/(q=x/\n'=n/\d'=d):=fun q n' d' z=>by
    rcases z with z|⟨z1,z2⟩
    .exact .inl (.inl z)
    .rw[tk] at z2
     rcases YK.mp z2 with y|y
     .exact .inl (.inr ⟨z1,y⟩)
     .have e:=XC.mp y
      injection e with e1 e2
      exact .inr ⟨z1,e1,e2⟩
   have ta:∀ p',Y9 (wn ws c) (fn P) (fn fl) x p' n d->p'=ac (wn ws c) n x:=fun p' A'=>A'.to
   have fo:((Y' ws c P fl x).take (j+1)).foldl (Yx ws c far x a) (wt,cm)=Yx ws c far x a (((Y' ws c P fl x).take j).foldl (Yx ws c far x a) (wt,cm)) (n,d):=by rw[tk,Vq];rfl
   rw[fo];generalize ((Y' ws c P fl x).take j).foldl (Yx ws c far x a) (wt,cm)=now at ih ⊢;unfold Yx;cases ef:gI far (ac (wn ws c) n x) with
   | some b=>
    have e:(!(gI far (ac (wn ws c) n x)).isSome && near (gI now.1 (ac (wn ws c) n x)) (a+d))=R':=by rw[ef];rfl
    rw[W' (by rw[ef] at e;rw[e];decide)];exact ih.keep ti hx mx A (.inl ⟨b,ef⟩) hl ta
   | none=>
    cases ew:gI now.1 (ac (wn ws c) n x) with
    | none=>
     rw[XR (show(!(C':Option Int).isSome && near C' (a+d))=D' from rfl),jj,Gj];exact ih.near ok ti hx mx A ef (fun b z=>by rw[ew] at z;cases z) hl ta
    | some b=>
     by_cases cc:a+d<b
     .rw[XR (by show(D' && decide (a+d<b))=D';rw[UW cc];rfl),jj,Gj]
      exact ih.near ok ti hx mx A ef (fun b' z=>by rw[ew] at z;cases z;exact cc) hl ta
     .rw[W' (by show ¬ (D' && decide (a+d<b))=D';rw[Ve cc];decide)]
      exact ih.keep ti hx mx A (.inr ⟨b,ew,by lia⟩) hl ta
 have aL:=gen _ (Uv _);rw[UO] at aL;refine⟨aL.dj,aL.lo,aL.nn,aL.ro,aL.cb,aL.ck,aL.rk,fun q n d p b A L e=>aL.ar q n d p b A ?_ e⟩;by_cases z:q=x
 .exact .inr ⟨z,by rw[z] at A;exact P1 A⟩
 .exact .inl ⟨z,L⟩
theorem Qa {key:V->Int}{m m':V} (h:l9 key xs m) (h':l9 key xs m'):m=m':=by
 obtain⟨i,e,l,f⟩:=h;obtain⟨i',e',l',f'⟩:=h';rcases Nat.lt_trichotomy i i' with c|c|c
 .have:=f' i m c e
  have:=l i' m' e';lia
 .subst c
  rw[e] at e';exact YB e'
 .have:=f i' m' c e'
  have:=l' i m e;lia
def kyF (wt:XZ):V->Int
 | .int i=>(gI wt i.toNat).getD 0
 | _=>0
open Classical in
def mn (wt:XZ):Nat:=if h:∃ x:Nat,l9 (kyF wt) (L2.Ys wt) (.int (x:Nat)) then Classical.choose h else 0
theorem Qkd {wt:XZ} (h:l9 (kyF wt) (L2.Ys wt) (.int (x:Nat))):mn wt=x:=by
 have e:∃ x:Nat,l9 (kyF wt) (L2.Ys wt) (.int (x:Nat)):=⟨x,h⟩;unfold mn;rw[dif_pos e];have z:=Qa (Classical.choose_spec e) h;injection z with z
 exact Qav z
theorem Wf.drop {kvs:XZ} (h:Wf kvs) (k:Key):Wf (d4 kvs k):=fun p hp=>h p (ZJ.mp hp).1
theorem Rc (kvs:XZ) (k:Key):(d4 kvs k).length<=kvs.length:=U0 _ _
theorem Jd (k j:Key):∀ kvs:XZ,aU (d4 kvs k) j=if j=k then C' else aU kvs j
 | []=>by split<;>rfl
 | p::r=>by
  have ih:=Jd k j r;unfold d4 at ih ⊢;by_cases c:p.1=k
  .rw[UX,W' (by simp[c]),ih]
   by_cases c2:j=k
   .rw[XR c2,XR c2]
   .rw[W' c2,W' c2,dB (fun z=>c2 (by rw[<- z,c]))]
  .rw[UX,XR (by simp[c])]
   by_cases c3:p.1=j
   .rw[eO c3,W' (fun z=>c (by rw[c3,z])),eO c3]
   .rw[dB c3,ih,dB c3]
theorem Jn (kvs:XZ) (v:Nat):gI (d4 kvs (XY (v:Int)))=up (gI kvs) v C':=by
 funext u
 unfold gI;rw[Jd];by_cases c:u=v
 .subst c
  rw[XR rfl,aY];rfl
 .rw[W' (fun z=>c (by injection z with z;exact Qav z)),aR _ _ c]
theorem Wf.has {kvs:XZ} (h:Wf kvs){p:Key×V} (hp:p∈kvs):∃ v i,p.1=XY ((v:Nat):Int)/\gI kvs v=B' i:=by
 obtain⟨v,i,rfl⟩:=h p hp;have z:(aU kvs (XY (v:Int))).isSome=D':=by
  rw[<- rH];exact Qa5.mpr ⟨_,hp,UW O⟩
 rw[h.val v] at z;obtain⟨y,e⟩:=ZI.mp z;cases g:gI kvs v with
 | none=>rw[g] at e;cases e
 | some j=>exact⟨v,j,O,g⟩
theorem Wf.mem {kvs:XZ}{i:Int} (g:gI kvs v=B' i):V.int (v:Nat)∈L2.Ys kvs:=by
 unfold gI at g;cases e:aU kvs (XY (v:Int)) with
 | none=>rw[e] at g;cases g
 | some x=>
  unfold aU at e;obtain⟨p,e1,e2⟩:=QbP.mp e;have m:=Ww e1;have c:=QgA e1;unfold L2.Ys;refine YL.mpr ⟨p,m,?_⟩;rw[show p.1=XY (v:Int) from UM c];rfl
theorem Wf.least {kvs:XZ} (h:Wf kvs){m:V} (f:l9 (kyF kvs) (L2.Ys kvs) m):m=.int (mn kvs:Nat)/\∃ a,gI kvs (mn kvs)=B' a/\∀ q b,gI kvs q=B' b->a<=b:=by
 obtain⟨i,e,l,fl⟩:=id f;have mm:=UF e;unfold L2.Ys at mm;obtain⟨p,hp,rfl⟩:=YL.mp mm;obtain⟨v,a,e1,e2⟩:=h.has hp;rw[e1] at f l ⊢;have f:l9 (kyF kvs) (L2.Ys kvs) (.int (v:Nat)):=f;have z:=Qkd f;rw[z];refine⟨O,a,e2,fun q b g=>?_⟩;obtain⟨j,hj⟩:=Qac.mp (Wf.mem g);have y:=l j _ hj;have y1:kyF kvs (kV (XY ((v:Nat):Int)))=a:=by
  show(gI kvs ((v:Nat):Int).toNat).getD 0=a;rw[UD,e2];rfl
 have y2:kyF kvs (V.int (q:Nat))=b:=by
  show(gI kvs ((q:Nat):Int).toNat).getD 0=b;rw[UD,g];rfl
 rw[y1,y2] at y;exact y
def left (far:Nat->Option Int) (c:Nat):Nat:=(sm (fun v=>if (far v).isSome=D' then 0 else 1) c).toNat
theorem P4 {a:Int} (hx:x<c) (h:far x=C'):left (up far x (B' a)) c<left far c:=by
 have e:sm (fun v=>if (far v).isSome=D' then 0 else 1) c=sm (fun v=>(if (up far x (B' a) v).isSome=D' then 0 else 1)+(if v=x then 1 else 0)) c:=gm c fun v _=>by
  by_cases z:v=x
  .subst z
   rw[h,aY,XR (show v=v from rfl)];rfl
  .rw[aR _ _ z,W' z]
   lia
 rw[rK,vK,XR hx] at e;have nn:=vz (f:=fun v=>if (up far x (B' a) v).isSome=D' then 0 else 1) c fun v _=>by
  show(0:Int)<=if (up far x (B' a) v).isSome=D' then 0 else 1;split<;>decide
 unfold left;lia
def w0 (nd:List Int):Nat->XZ
 | 0=>[]
 | k+1=>if fn nd k<0 then aO (w0 nd k) (XY ((k:Nat):Int)) (.int 0) else w0 nd k
theorem CI (nd:List Int):∀ k,Wf (w0 nd k)/\(w0 nd k).length<=k/\∀ p,gI (w0 nd k) p=if p<k/\fn nd p<0 then B' 0 else C'
 | 0=>⟨(fun p hp=>by cases hp),Uv _,fun p=>by rw[W' (fun z=>X4 z.1 (Vy _))];rfl⟩
 | k+1=>by
  obtain⟨h1,h2,h3⟩:=CI nd k;unfold w0;by_cases c:fn nd k<0
  .rw[XR c]
   refine⟨h1.put _ _,U5 (rE _ _ _) (by lia),fun p=>?_⟩;rw[jj];by_cases z:p=k
   .subst z
    rw[aY,XR ⟨Vi _,c⟩]
   .rw[aR _ _ z,h3]
    by_cases y:p<k/\fn nd p<0
    .rw[XR y,XR ⟨by lia,y.2⟩]
    .rw[W' y,W' (fun q=>y ⟨by lia,q.2⟩)]
  .rw[W' c]
   refine⟨h1,by lia,fun p=>?_⟩;rw[h3];by_cases z:p=k
   .subst z
    rw[W' (fun q=>c q.2),W' (fun q=>c q.2)]
   .by_cases y:p<k/\fn nd p<0
    .rw[XR y,XR ⟨by lia,y.2⟩]
    .rw[W' y,W' (fun q=>y ⟨by lia,q.2⟩)]
theorem NZ (ws:List Wt) (c:Nat) (P fl:List Int) (x:Nat):(Y' ws c P fl x).length<=2*ws.length:=by
 unfold Y';rw[UB,Us,Us];have h1:=HX ws x;have h2:=HW ws x;have h3:=U0 (fun n=>decide (0<fn fl n)) (coN ws x);lia
theorem Iq {ws:List Wt}{c:Nat}{far:XZ}{x:Nat}{a:Int}:∀ (st:List (Nat×Int)){s:XZ×XZ},Wf s.1/\Wf s.2->(Wf (st.foldl (Yx ws c far x a) s).1/\Wf (st.foldl (Yx ws c far x a) s).2)/\(st.foldl (Yx ws c far x a) s).1.length<=s.1.length+st.length/\(st.foldl (Yx ws c far x a) s).2.length<=s.2.length+st.length
 | [],s,h=>⟨h,Uv _,Uv _⟩
 | t::st,s,h=>by
  obtain⟨r1,r2,r3⟩:=IT (ws:=ws) (c:=c) (far:=far) (x:=x) (a:=a) (st:=t) h;obtain⟨f1,f2,f3⟩:=Iq (ws:=ws) (c:=c) (far:=far) (x:=x) (a:=a) st r1;refine⟨f1,?_,?_⟩
  .show(st.foldl _ (Yx ws c far x a s t)).1.length<=_
   rw[UR];lia
  .show(st.foldl _ (Yx ws c far x a s t)).2.length<=_
   rw[UR];lia
theorem OE {P fl:List Int}{far:XZ}{a:Int}{s:XZ×XZ} (h:Wf s.1/\Wf s.2):(Wf (iW ws c P fl far x a s).1/\Wf (iW ws c P fl far x a s).2)/\(iW ws c P fl far x a s).1.length<=s.1.length+2*ws.length/\(iW ws c P fl far x a s).2.length<=s.2.length+2*ws.length:=by
 obtain⟨f1,f2,f3⟩:=Iq (ws:=ws) (c:=c) (far:=far) (x:=x) (a:=a) (Y' ws c P fl x) h;have:=NZ ws c P fl x;exact⟨f1,U5 f2 (by lia),U5 f3 (by lia)⟩
abbrev Sst:=XZ×XZ×XZ
def tkF (s:Sst):XZ:=aO s.1 (XY ((mn s.2.1:Nat):Int)) (.int ((gI s.2.1 (mn s.2.1)).getD 0))
def a9 (ws:List Wt) (c:Nat) (P fl:List Int) (s:Sst):Sst:=(tkF s,iW ws c P fl (tkF s) (mn s.2.1) ((gI s.2.1 (mn s.2.1)).getD 0) (d4 s.2.1 (XY ((mn s.2.1:Nat):Int)),s.2.2))
theorem FS (far:Nat->Option Int):∀ c,left far c<=c/\0<=sm (fun v=>if (far v).isSome=D' then 0 else 1) c
 | 0=>⟨Uv _,VA _⟩
 | c+1=>by
  obtain⟨h1,h2⟩:=FS far c;unfold left at h1 ⊢;have e:sm (fun v=>if (far v).isSome=D' then 0 else 1) (c+1)=sm (fun v=>if (far v).isSome=D' then 0 else 1) c+(if (far c).isSome=D' then 0 else 1):=rfl;rw[e];by_cases z:(far c).isSome=D'
  .rw[XR z]
   lia
  .rw[W' z]
   lia
structure rq (ws:List Wt) (c:Nat) (P fl nd:List Int) (k x:Nat) (far cm:XZ):Prop where
 at_:x=mn (U' (a9 ws c P fl) k ([],w0 nd c,[])).2.1
 far:far=tkF (U' (a9 ws c P fl) k ([],w0 nd c,[]))
 cm:cm=(U' (a9 ws c P fl) k ([],w0 nd c,[])).2.2
 pos:0<fn nd x
 no:∀ j,j<k->¬ 0<fn nd (mn (U' (a9 ws c P fl) j ([],w0 nd c,[])).2.1)
theorem Se.less {N:Wn}{P:Nat->Int} (h:Se N P fl nd far wt cm rk size Lk) (hl:∀ q n d,mP q n d->Lk q n d):Se N P fl nd far wt cm rk size mP:=
 ⟨h.dj,h.lo,h.nn,h.ro,h.cb,h.ck,h.rk,fun q n d p b A L e=>h.ar q n d p b A (hl q n d L) e⟩
section
variable {K:V'}
def SK (t:Zx):Sp:=fun vs H Q _=>∃ q r ws c p fl nd fA cA fk,∃ k0:Nat,vs=[.ref q,.ref fA,.ref cA]/\bR t.Layout H q r ws c/\H r.p=B' (.lst ((p:List Int).map V.int))/\p.length=c/\H r.f=B' (.lst ((fl:List Int).map V.int))/\fl.length=ws.length/\H r.n=B' (.lst ((nd:List Int).map V.int))/\nd.length=c/\(wn ws c).Ok/\ws.length<=200/\c<=200 /\
 H fA=B' (.dK [])/\H cA=B' (.dK [])/\fA≠cA/\Ti (wn ws c) (fn p) (fn fl)/\(∀ n,n<ws.length->0<=fk n)/\(∀ v,v<c->fn nd v=Ye (wn ws c) fk v-Ye (wn ws c) (fn fl) v)/\k0<c/\0<fn nd k0 /\
 H t.QaZ=B' (.Y1 lY mw) /\
 ∀ k x far cm H',Kx [fA,cA] H H'->rq ws c p fl nd k x far cm->H' fA=B' (.dK far)->H' cA=B' (.dK cm)->Wf far->Wf cm->far.length<=1000000->cm.length<=1000000 ->
  (∃ wt rk size D,size<=1000/\Se (wn ws c) (fn p) (fn fl) (fn nd) (gI far) wt (cI cm) rk size (fun q _ _=>q≠x/\gI far q≠C')/\gI far x=B' D/\(∀ q b,gI far q=B' b->b<=D)/\∀ q b,wt q=B' b->D<=b)->Q (.int (x:Nat)) H'
theorem OB (T:Tx K mg a):YD P w K mg base Yj 4 "search" ["layout","far","came_by"] [] (SK a):=T.Qjk.QiW T.Qfc fun f fd F LM=>by
 have dN:=Pz (P:=P) (w:=w) (base:=base) T;refine F.okL LM vf (fun vs H Q E h=>?_) (fun cc A outer s H vs Q E hc hr h=>?_)
 .obtain⟨q,r,ws,c,p,fl,nd,fA,cA,fk,k0,rfl,_⟩:=h
  rfl
 .obtain⟨q,r,ws,c,p,fl,nd,fA,cA,fk,k0,rfl,L,hp,j7,hf,je,hn,dP,ok,hw,jW,lU,mL,oy,ti,um,hnd,Al,oq,iP,k⟩:=h
  obtain⟨dx,ex⟩:=L.ex;refine⟨_,(aq (aQ (i:=3) vf.nd O (.inr O) l8)
   (aq (cV YS rfl (mz rfl T.Qas (ag (bg (pv 0) rfl) aj)) (fe rfl (aM (aE (i:=4) vf.nd O (.inl O)) (aM (aE (i:=5) vf.nd O (.inl O)) cD))) (ay (bU (bG uQ (pv 5) ao (bB _)) (ay (jP (bf hr) (pv 3) (pv 4) ao O)) cr)))
   (ay (rQ YS (kB vh) (aq (aQ (i:=4) vf.nd O (.inl O) (Sw (N:=["candidate","waiting"]) (cap:=[C',B' 3]) O T.QdP hr (ag (pv 3) aj) O hc (cq (osc:=aF CF) (XN:=["layout","far","came_by","waiting","point","need"]) O O (by decide +kernel)) (fun f c' s H=>(cN (bf (bn.deeper (k:=0) (bn.in1 (hr.mono (by decide))) _)) (pv 1) (pv 0) (fun _ _=>O)))))
   (aq (jP (bf hr) (pv 1) (pv 4) (Sg (pv 3) (pv 4) ⟨rfl,rfl,rfl,rfl⟩) rfl)
   (aq (bU (bG nJ (aG aT (bg (pv 0) rfl) (pv 4) (fun _ _=>O)) ao (bB _)) (ay (bv (pv 4))) cr)
   (ay (bC (bD dN (hr.mono (by decide)) rfl (ag (pv 0) (ag (pv 4) (ag (pv 1) (ag (pv 3) (ag (pv 2) aj))))))))))))))),?_⟩
  refine fun wA we=>?_
  have uC:fA≠wA:=av lU we;have Bg:cA≠wA:=av mL we;have s1:af H (upd H wA (.dK [])):=af.new we;have h1:upd H wA (.dK []) wA=B' (.dK []):=ai;generalize upd H wA (.dK [])=H1 at s1 h1 ⊢;have Fj:∀ y∈[fA,cA,wA],Dc H1 y:=fun y hy=>by
   simp only[U1,US,YX] at hy
   rcases hy with z|z|z<;>rw[z]
   .exact⟨_,s1 _ _ lU⟩
   .exact⟨_,s1 _ _ mL⟩
   .exact⟨_,h1⟩
  have lay:∀ G,Kx [fA,cA,wA] H1 G->bR a.Layout G q r ws c:=fun G kx=>(L.same s1).kx kx fun y hy=>.inr (.inr (.inr (Fj y hy)))
  have keep:∀ G,Kx [fA,cA,wA] H1 G->∀ b o,H1 b=B' o->(∀ kvs,o≠.dK kvs)->G b=B' o:=fun G kx b o e z=>kx b o e fun y=>by
   obtain⟨kvs,q⟩:=Fj b y;rw[e] at q;cases q
   exact z _ rfl
  refine⟨_,O,q,a.Layout,dx,_,_,O,s1 _ _ ex,T.Yl,T.QaG,p6,r.n,O,⟨_,M'.of (s1 _ _ hn)⟩,qr (K:=K) (l:=r.n) (xs:=nd.map V.int) (fun i σ G=>∃ v4 v5,σ=[B' (.ref q),B' (.ref fA),B' (.ref cA),B' (.ref wA),v4,v5]/\Kx [wA] H1 G/\G wA=B' (.dK (w0 nd i)))
   ⟨C',C',rfl,Kx.of (af.refl _),h1⟩ ?_ ?_ ?_⟩
  .rintro i σ G _ ⟨_,_,rfl,kx,_⟩
   exact M'.of (keep G (kx.mono (by simp)) _ _ (s1 _ _ hn) (fun _ z=>by cases z))
  .rintro i y tt σ G hy nt ⟨v4,v5,rfl,kx,hG⟩
   have hi:i<nd.length:=by
    have:=(Yi.mp hy).1;rw[Us] at this;exact this
   have ey:y=.int (fn nd i):=by
    rw[UJ,Uy hi] at hy;rw[<- YB hy];unfold fn;rw[Ux,Uy hi];rfl
   subst ey;have s3:af G (upd G tt (.tup [.int i,.int (fn nd i)])):=af.new nt;have h3:upd G tt (.tup [.int i,.int (fn nd i)]) tt=B' (.tup [.int i,.int (fn nd i)]):=ai;generalize upd G tt (.tup [.int i,.int (fn nd i)])=G3 at s3 h3 ⊢;have st:w0 nd (i+1)=if fn nd i<0 then aO (w0 nd i) (XY ((i:Nat):Int)) (.int 0) else w0 nd i:=rfl;have wl:=(CI nd i).2.1;refine⟨tt,_,O,Ya.of h3,O,_,_,O,_,_,O,O,?_⟩;refine⟨_,O,_,_,O,O,_,O,?_⟩;refine bo (fun c1=>?_) (fun c1=>?_)
   .rw[st,XR (UM c1)]
    exact⟨_,O,_,O,wA,_,O,.inl ⟨w0 nd i,XY ((i:Nat):Int),s3 _ _ hG,O,by rw[Uz];lia,O⟩,_,_,O,(kx.trans (Kx.of s3)).trans (Kx.upd (by simp)),ai⟩
   .rw[st,W' (U2 c1)]
    exact⟨_,_,O,kx.trans (Kx.of s3),s3 _ _ hG⟩
  .rintro σ G0 ⟨v4,v5,rfl,rW,EV⟩
   rw[Us,dP] at EV;have A5:Kx [fA,cA,wA] H1 G0:=rW.mono (by simp);have A0:G0 fA=B' (.dK []):=rW _ _ (s1 _ _ lU) (by simp[uC]);have zJ:G0 cA=B' (.dK []):=rW _ _ (s1 _ _ mL) (by simp[Bg]);obtain⟨w1,w2,w3⟩:=CI nd c;have ut:∀ G,Kx [fA,cA,wA] H1 G->Kx [fA,cA] H G:=fun G kx b o e z=>kx b o (s1 b o e) fun y=>by
    simp only[U1,US,YX] at y z
    rcases y with y|y|y
    .exact z (.inl y)
    .exact z (.inr y)
    .rw[y,we] at e
     cases e
   have Du:Wf ([]:XZ):=fun p hp=>by cases hp
   refine⟨fun m σ G=>∃ j v4 v5 rk,σ=[B' (.ref q),B' (.ref fA),B' (.ref cA),B' (.ref wA),v4,v5]/\Kx [fA,cA,wA] H1 G/\m=left (gI (U' (a9 ws c p fl) j ([],w0 nd c,[])).1) c/\j+left (gI (U' (a9 ws c p fl) j ([],w0 nd c,[])).1) c<=c /\
     G fA=B' (.dK (U' (a9 ws c p fl) j ([],w0 nd c,[])).1)/\G wA=B' (.dK (U' (a9 ws c p fl) j ([],w0 nd c,[])).2.1)/\G cA=B' (.dK (U' (a9 ws c p fl) j ([],w0 nd c,[])).2.2)/\(Wf (U' (a9 ws c p fl) j ([],w0 nd c,[])).1/\Wf (U' (a9 ws c p fl) j ([],w0 nd c,[])).2.1/\Wf (U' (a9 ws c p fl) j ([],w0 nd c,[])).2.2) /\
     ((U' (a9 ws c p fl) j ([],w0 nd c,[])).1.length<=j/\(U' (a9 ws c p fl) j ([],w0 nd c,[])).2.1.length<=c+400*j/\(U' (a9 ws c p fl) j ([],w0 nd c,[])).2.2.length<=400*j) /\
     Se (wn ws c) (fn p) (fn fl) (fn nd) (gI (U' (a9 ws c p fl) j ([],w0 nd c,[])).1) (gI (U' (a9 ws c p fl) j ([],w0 nd c,[])).2.1) (cI (U' (a9 ws c p fl) j ([],w0 nd c,[])).2.2) rk j (fun q _ _=>gI (U' (a9 ws c p fl) j ([],w0 nd c,[])).1 q≠C') /\
     (∀ v b,gI (U' (a9 ws c p fl) j ([],w0 nd c,[])).1 v=B' b->fn nd v<=0)/\∀ i,i<j->¬ 0<fn nd (mn (U' (a9 ws c p fl) i ([],w0 nd c,[])).2.1),
    ⟨_,0,v4,v5,fun _=>0,O,A5,O,?_,A0,EV,zJ,⟨Du,w1,Du⟩,⟨Uv _,U5 w2 (U8 _ _),Uv _⟩,?_,fun v b z=>(by cases z),fun i z=>X4 z (Vy _)⟩,?_⟩
   .have:=(FS (gI ([]:XZ)) c).1
    show 0+left (gI ([]:XZ)) c<=c;lia
   .exact Se.start (N:=wn ws c) (nd:=fn nd) w3 _ _
   rintro m σ G ⟨j,v4,v5,rk,rfl,kx,rfl,hj,gf,gw,gc,⟨zZ,qz,zm⟩,⟨l1,l2,l3⟩,se,np,no⟩
   have sj:U' (a9 ws c p fl) (j+1) ([],w0 nd c,[])=a9 ws c p fl (U' (a9 ws c p fl) j ([],w0 nd c,[])):=rfl;have hS:rq ws c p fl nd j (mn (U' (a9 ws c p fl) j ([],w0 nd c,[])).2.1) (tkF (U' (a9 ws c p fl) j ([],w0 nd c,[]))) (U' (a9 ws c p fl) j ([],w0 nd c,[])).2.2\/¬ 0<fn nd (mn (U' (a9 ws c p fl) j ([],w0 nd c,[])).2.1):=by
    by_cases z:0<fn nd (mn (U' (a9 ws c p fl) j ([],w0 nd c,[])).2.1)
    .exact .inl ⟨O,O,O,z,no⟩
    .exact .inr z
   have Ma:¬ 0<fn nd (mn (U' (a9 ws c p fl) j ([],w0 nd c,[])).2.1)->∀ i,i<j+1->¬ 0<fn nd (mn (U' (a9 ws c p fl) i ([],w0 nd c,[])).2.1):=fun z i hi=>by
    rcases VF i j with y|y
    .exact no i y
    .rw[show i=j by lia]
     exact z
   obtain⟨v0,b0,e0⟩:=se.more ok um hnd ti np Al oq;refine⟨_,O,fj ⟨_,fun σ' H' h=>h,?_⟩⟩;simp only[sj]
   generalize U' (a9 ws c p fl) j ([],w0 nd c,[])=S at *;obtain⟨far,wt,cm⟩:=S;dsimp only at *;have Bl:0<wt.length:=by
    cases wt with
    | nil=>cases e0
    | cons _ _=>exact Nat.succ_pos _
   refine⟨_,O,wA,wt,kyF wt,O,gw,Bl,keep G kx _ _ (s1 _ _ iP) (fun _ z=>by cases z),fun y hy o H2 qy=>?_,fun m H2 sm fm=>?_⟩
   .unfold L2.Ys at hy
    obtain⟨pp,Km,rfl⟩:=YL.mp hy;obtain⟨v,i,e1,e2⟩:=qz.has Km;rw[e1];refine⟨_,O,_,O,wA,.int i,O,.inl ⟨wt,XY (v:Int),.inr ⟨o,qy _ _ ai⟩,O,by rw[qz.val v,e2];rfl⟩,?_,af.refl _⟩;show V.int i=V.int ((gI wt ((v:Nat):Int).toNat).getD 0);rw[UD,e2];rfl
   obtain⟨rfl,a0,ga,Bt⟩:=qz.least fm;obtain⟨Fp,mx,fx⟩:=se.pop ga Bt;have xc:=(se.nn _ _ (.inr ga)).2;have tk:tkF (far,wt,cm)=aO far (XY ((mn wt:Nat):Int)) (.int a0):=by
    show aO far _ (.int ((gI wt (mn wt)).getD 0))=_;rw[ga];rfl
   have tn:a9 ws c p fl (far,wt,cm)=(aO far (XY ((mn wt:Nat):Int)) (.int a0),iW ws c p fl (aO far (XY ((mn wt:Nat):Int)) (.int a0)) (mn wt) a0 (d4 wt (XY ((mn wt:Nat):Int)),cm)):=by
    unfold a9;rw[tk];show(_,iW ws c p fl _ (mn wt) ((gI wt (mn wt)).getD 0) _)=_;rw[ga];rfl
   rw[tk] at hS;simp only[tn]
   generalize mn wt=x at *;have ib:Kx [fA,cA,wA] H1 H2:=kx.trans (Kx.of sm);refine⟨_,O,wA,O,.inl ⟨wt,.inl (sm _ _ gw)⟩,_,O,wt,XY ((x:Nat):Int),.int a0,sm _ _ gw,O,by rw[qz.val x,ga];rfl,_,O,_,O,fA,_,O,.inl ⟨far,XY ((x:Nat):Int),by rw[ak uC];exact sm _ _ gf,O,by rw[Uz];lia,O⟩,?_⟩;have fJ:Kx [fA,cA,wA] H1 (upd (upd H2 wA (.dK (d4 wt (XY ((x:Nat):Int))))) fA (.dK (aO far (XY ((x:Nat):Int)) (.int a0)))):=(ib.trans (Kx.upd (by simp))).trans (Kx.upd (by simp));have f4:upd (upd H2 wA (.dK (d4 wt (XY ((x:Nat):Int))))) fA (.dK (aO far (XY ((x:Nat):Int)) (.int a0))) fA=B' (.dK (aO far (XY ((x:Nat):Int)) (.int a0))):=ai;have w4:upd (upd H2 wA (.dK (d4 wt (XY ((x:Nat):Int))))) fA (.dK (aO far (XY ((x:Nat):Int)) (.int a0))) wA=B' (.dK (d4 wt (XY ((x:Nat):Int)))):=by rw[ak (XW uC),ai]
   have c4:upd (upd H2 wA (.dK (d4 wt (XY ((x:Nat):Int))))) fA (.dK (aO far (XY ((x:Nat):Int)) (.int a0))) cA=B' (.dK cm):=by rw[ak (XW oy),ak Bg];exact sm _ _ gc
   generalize upd (upd H2 wA (.dK (d4 wt (XY ((x:Nat):Int))))) fA (.dK (aO far (XY ((x:Nat):Int)) (.int a0)))=H4 at fJ f4 w4 c4 ⊢;have L4:=lay H4 fJ;obtain⟨Ks,ex4⟩:=L4.ex;have so:=keep H4 fJ _ _ (s1 _ _ hn) (fun _ z=>by cases z);have MY:=keep H4 fJ _ _ (s1 _ _ hp) (fun _ z=>by cases z);have Lr:=keep H4 fJ _ _ (s1 _ _ hf) (fun _ z=>by cases z);have Fh:x<c:=xc;have Fq:=rE far (XY ((x:Nat):Int)) (.int a0);have dl:=Rc wt (XY ((x:Nat):Int));have gx:gI (aO far (XY ((x:Nat):Int)) (.int a0)) x=B' a0:=by rw[jj,aY]
   rw[<- jj,<- Jn] at Fp;rw[<- jj] at mx;have DZ:Se (wn ws c) (fn p) (fn fl) (fn nd) (gI (aO far (XY ((x:Nat):Int)) (.int a0))) (gI (d4 wt (XY ((x:Nat):Int)))) (cI cm) (up rk x j) (j+1) fun q _ _=>q≠x/\gI (aO far (XY ((x:Nat):Int)) (.int a0)) q≠C':=Fp.less fun q n d z=>by
    have z2:=z.2;rw[jj,aR _ _ z.1] at z2;exact z2
   refine⟨_,O,q,a.Layout,Ks,_,_,O,ex4,T.Yl,T.QaG,p6,_,O,r.n,_,_,_,O,O,M'.of so,qc (by lia),_,_,O,O,_,O,?_⟩;refine bo (fun c1=>?_) (fun c1=>?_)
   .have c2:0<fn nd x:=UM c1
    rcases hS with hS|hS
    .refine⟨_,O,k j x _ cm H4 (ut _ fJ) hS f4 c4 (zZ.put _ _) zm (by lia) (by lia) ⟨_,_,j+1,a0,by lia,DZ,gx,mx,fun q b e=>?_⟩⟩
     rw[Jn] at e;by_cases z:q=x
     .rw[z,aY] at e
      cases e
     .rw[aR _ _ z] at e
      exact Bt q b e
    .exact X4 c2 hS
   .have c2:¬ 0<fn nd x:=U2 c1
    refine⟨_,O,_,O,_,O,_,O,_,O,q,r,ws,c,p,fl,fA,wA,cA,_,_,cm,x,a0,O,L4,MY,j7,Lr,je,ok,hw,Fh,f4,zZ.put _ _,gx,w4,qz.drop _,by lia,c4,zm,by lia,uC,oy,XW Bg,fun H5 ja MV KP=>?_⟩;obtain⟨o1,o2,o3⟩:=OE (ws:=ws) (c:=c) (P:=p) (fl:=fl) (far:=aO far (XY ((x:Nat):Int)) (.int a0)) (x:=x) (a:=a0) (s:=(d4 wt (XY ((x:Nat):Int)),cm)) ⟨qz.drop _,zm⟩;have ll:left (gI (aO far (XY ((x:Nat):Int)) (.int a0))) c<left (gI far) c:=by
     rw[jj];exact P4 Fh fx
    rw[tn] at sj;refine⟨left (gI (U' (a9 ws c p fl) (j+1) ([],w0 nd c,[])).1) c,by rw[sj];exact ll,j+1,B' (.int (x:Nat)),v5,up rk x j,?_⟩;rw[sj];refine⟨O,fJ.trans (ja.mono (by simp)),O,?_,?_,MV,KP,⟨zZ.put _ _,o1.1,o1.2⟩,⟨?_,?_,?_⟩,Pt ok ti gx mx DZ,fun v b e=>?_,Ma c2⟩
    .show j+1+left (gI (aO far (XY ((x:Nat):Int)) (.int a0))) c<=c
     lia
    .exact ja _ _ f4 (by simp[uC,oy])
    .show(aO far (XY ((x:Nat):Int)) (.int a0)).length<=j+1
     lia
    .refine U5 o2 ?_
     show(d4 wt (XY ((x:Nat):Int))).length+2*ws.length<=c+400*(j+1);lia
    .refine U5 o3 ?_
     show cm.length+2*ws.length<=400*(j+1);lia
    .have e:gI (aO far (XY ((x:Nat):Int)) (.int a0)) v=B' b:=e
     rw[jj] at e;by_cases z:v=x
     .rw[z]
      lia
     .rw[aR _ _ z] at e
      exact np v b e
end
def YZ (N:Wn) (cm:Nat->Option Nat) (e k:Nat):List (Nat×Int):=(YM k).map fun i=>(cn cm (U' (bc N cm) i e),((U' (bc N cm) i e:Nat):Int))
theorem BW (N:Wn) (cm:Nat->Option Nat) (e k:Nat):YZ N cm e (k+1)=YZ N cm e k++[(cn cm (U' (bc N cm) k e),((U' (bc N cm) k e:Nat):Int))]:=by
 unfold YZ;rw[Wx,UC];rfl
section
variable {K:V'}
def BS (K:V') (C:F'):Sp:=fun vs H Q _=>∃ q r ws c cA cm,∃ (rk:Nat->Nat) (e:Nat),vs=[.ref q,.ref cA,.int e]/\bR C H q r ws c/\H cA=B' (.dK cm)/\Wf cm/\(∀ x i,gI cm x=B' i->0<=i) /\
 (∀ i,(cI cm (U' (bc (wn ws c) (cI cm)) i e)).isSome=D'->cn (cI cm) (U' (bc (wn ws c) (cI cm)) i e)<ws.length/\rk (U' (bc (wn ws c) (cI cm)) (i+1) e)<rk (U' (bc (wn ws c) (cI cm)) i e))/\rk e<=10000 /\
 ∀ k g xs H',af H H'->H g=C'->H' g=B' (.lst xs)->aK K H' ((YZ (wn ws c) (cI cm) e k).map stD) xs->cI cm (U' (bc (wn ws c) (cI cm)) k e)=C'->(∀ i,i<k->(cI cm (U' (bc (wn ws c) (cI cm)) i e)).isSome=D')->k<=10000->Q (.ref g) H'
theorem Cb (T:Tx K mg a):YD P w K mg base Yj 2 "way_back" ["layout","came_by","end"] [] (BS K a.Layout):=T.Qjm.Ym fun f fd F=>by
 have Qbg:=Ck (P:=P) (w:=w) (base:=base) T;refine F.ok ye (fun vs H Q E h=>?_) (fun aD A outer s H vs Q E hr h=>?_)
 .obtain⟨q,r,ws,c,cA,cm,rk,e,rfl,_⟩:=h
  rfl
 .obtain⟨q,r,ws,c,cA,cm,rk,e,rfl,L,mL,wf,nn,MA,re,k⟩:=h
  obtain⟨dx,ex⟩:=L.ex;refine⟨_,(aq (aQ (i:=3) ye.nd O (.inl O) (bZ aj))
   (aq (aQ (i:=4) ye.nd O (.inl O) (pv 2))
   (aq (rQ YS (jq (qV (bf hr) (pv 4) (pv 1))) (aq (bC (c7 YY Zl Zp ek (pv 3) (ag (cw (ag (cN (bf hr) (pv 1) (pv 4) (fun _ _=>O)) (ag (pv 4) aj))) aj)))
   (ay (aQ (i:=4) ye.nd O (.inl O) (uX (pv 0) T.Yl Qbg (hr.mono (by decide)) (ag (cN (bf hr) (pv 1) (pv 4) (fun _ _=>O)) (ag (pv 4) aj)))))))
   (ay (bv (pv 3)))))),?_⟩
  refine⟨(by show 0<=XX;decide),fun g ng=>?_⟩;have s1:af H (upd H g (.lst [])):=af.new ng;have h1:upd H g (.lst []) g=B' (.lst []):=ai;generalize upd H g (.lst [])=H1 at s1 h1 ⊢;refine⟨_,O,?_⟩;refine⟨fun m σ G=>∃ i xs,m=rk (U' (bc (wn ws c) (cI cm)) i e)/\σ=[B' (.ref q),B' (.ref cA),B' (.int (e:Nat)),B' (.ref g),B' (.int (U' (bc (wn ws c) (cI cm)) i e:Nat))]/\af H G/\G g=B' (.lst xs)/\aK K G ((YZ (wn ws c) (cI cm) e i).map stD) xs/\(∀ j,j<i->(cI cm (U' (bc (wn ws c) (cI cm)) j e)).isSome=D')/\i+rk (U' (bc (wn ws c) (cI cm)) i e)<=10000,
   ⟨_,0,[],rfl,rfl,s1,h1,rfl,fun j z=>X4 z (Vy _),by show 0+rk e<=10000;lia⟩,?_⟩
  rintro m σ G ⟨i,xs,rfl,rfl,sg,hg,eI,all,hi⟩
  have gd:=wf.QaH (v:=U' (bc (wn ws c) (cI cm)) i e) (sg _ _ mL);refine⟨_,O,_,O,cA,_,O,gd,_,O,?_⟩;cases eg:gI cm (U' (bc (wn ws c) (cI cm)) i e) with
  | none=>
   refine mC ⟨_,O,k i g xs G sg ng hg eI ?_ all (by lia)⟩;show(gI cm (U' (bc (wn ws c) (cI cm)) i e)).map ZM=C';rw[eg];rfl
  | some z=>
   have z0:=nn _ _ eg;obtain⟨n,rfl⟩:∃ n:Nat,z=(n:Int):=⟨z.toNat,by lia⟩;have cs:cI cm (U' (bc (wn ws c) (cI cm)) i e)=B' n:=by
    show(gI cm (U' (bc (wn ws c) (cI cm)) i e)).map ZM=B' n;rw[eg];rfl
   have ER:cn (cI cm) (U' (bc (wn ws c) (cI cm)) i e)=n:=by
    unfold cn;rw[cs];rfl
   obtain⟨nl,rl⟩:=MA i (by rw[cs];rfl);rw[ER] at nl;rw[eg] at gd;have lx:xs.length<=10000:=by
    have:=eI.length;unfold YZ at this;rw[Us,Us,U7] at this;lia
   refine fj ⟨_,fun σ' H' h=>h,?_⟩;refine⟨_,O,.inl ⟨O,_,M'.of hg⟩,_,O,_,O,cA,_,O,gd,_,O,(by show 2<=XX;decide),fun t nt=>⟨g,_,_,O,O,af.new nt _ _ hg,by rw[Uz];lia,?_⟩⟩;have s5:af G (upd G t (.tup [.int (n:Nat),.int (U' (bc (wn ws c) (cI cm)) i e:Nat)])):=af.new nt;have h5:upd G t (.tup [.int (n:Nat),.int (U' (bc (wn ws c) (cI cm)) i e:Nat)]) t=B' (.tup [.int (n:Nat),.int (U' (bc (wn ws c) (cI cm)) i e:Nat)]):=ai;generalize upd G t (.tup [.int (n:Nat),.int (U' (bc (wn ws c) (cI cm)) i e:Nat)])=H5 at s5 h5 ⊢;have s6:af H (upd H5 g (.lst (xs++[.ref t]))):=c8 ng (sg.trans s5);have kp:Tk H5 (upd H5 g (.lst (xs++[.ref t]))):=Tk.upd (s5 _ _ hg) rfl;have h6:upd H5 g (.lst (xs++[.ref t])) g=B' (.lst (xs++[.ref t])):=ai;have Dr:aK K (upd H5 g (.lst (xs++[.ref t]))) ((YZ (wn ws c) (cI cm) e (i+1)).map stD) (xs++[.ref t]):=by
    rw[BW,UC,ER];exact aK.snoc (d:=stD (n,((U' (bc (wn ws c) (cI cm)) i e:Nat):Int))) (kp.dt O ⟨t,_,O,Ya.of h5,_,_,O,O,_,_,O,O,O⟩) (kp.Yf (cf (fun _=>O) _) (s5.Yf eI))
   generalize upd H5 g (.lst (xs++[.ref t]))=H6 at s6 h6 Dr ⊢;have DR:=wf.QaH (v:=U' (bc (wn ws c) (cI cm)) i e) (s6 _ _ mL);rw[eg] at DR;refine⟨_,O,q,dx,_,O,s6 _ _ ex,by rfl,_,O,_,O,cA,_,O,DR,_,O,q,r,ws,c,n,_,O,L.same s6,nl,?_⟩;have nx:U' (bc (wn ws c) (cI cm)) (i+1) e=ac (wn ws c) n (U' (bc (wn ws c) (cI cm)) i e):=qU cs;refine⟨rk (U' (bc (wn ws c) (cI cm)) (i+1) e),rl,i+1,xs++[.ref t],O,?_,s6,h6,Dr,fun j hj=>?_,by lia⟩
   .rw[nx]
    rfl
   .rcases VF j i with y|y
    .exact all j y
    .rw[show j=i by lia,cs]
     rfl
end
def ZU (N:Wn) (fl nd:Nat->Int) (st:List (Nat×Int)) (e s:Nat):List Int:=nd e::(0-nd s)::((st.filter fun x=>decide (((N.on x.1:Nat):Int)=x.2)).map fun x=>fl x.1)
def YR (N:Wn) (am:Int) (f:List Int) (x:Nat×Int):List Int:=f.set x.1 (fn f x.1+(if ((N.ot x.1:Nat):Int)=x.2 then am else 0-am))
def ndS (nd:List Int) (s e:Nat) (am:Int):List Int:=(nd.set s (fn nd s+am)).set e (fn (nd.set s (fn nd s+am)) e-am)
theorem yi (N:Wn) (am:Int):∀ (st:List (Nat×Int)) (f:List Int),(st.foldl (YR N am) f).length=f.length
 | [],_=>rfl
 | x::st,f=>by
  show(st.foldl (YR N am) (YR N am f x)).length=_;rw[yi N am st];unfold YR;rw[Vo]
theorem Qke {x:V} (h:xs[xs.length-1]?=B' x):YU xs (-1)=B' x:=by
 have hp:0<xs.length:=by
  have:=(Yi.mp h).1;lia
 unfold YU ixN;rw[W' (by decide),XR (by lia)];have e2:((-1:Int)+(xs.length:Int)).toNat=xs.length-1:=by lia
 rw[e2];exact h
section
variable {K:V'}
def Q1 (K:V') (C:F'):Sp:=fun vs H Q _=>∃ q r ws c fl nd sA st xs,∃ e ln lp:Nat,vs=[.ref q,.ref sA,.int e]/\bR C H q r ws c/\H r.f=B' (.lst ((fl:List Int).map V.int))/\fl.length=ws.length/\H r.n=B' (.lst ((nd:List Int).map V.int))/\nd.length=c /\
 H sA=B' (.lst xs)/\sA≠r.f/\sA≠r.n/\aK K H ((st:List (Nat×Int)).map stD) xs/\st.length<=10000/\(∀ x∈st,x.1<ws.length)/\st[st.length-1]?=B' (ln,((lp:Nat):Int))/\e<c/\ac (wn ws c) ln lp<c /\
 ∀ am H',am∈ZU (wn ws c) (fn fl) (fn nd) st e (ac (wn ws c) ln lp)->(∀ x∈ZU (wn ws c) (fn fl) (fn nd) st e (ac (wn ws c) ln lp),am<=x)->Kx [r.f,r.n] H H' ->
  H' r.f=B' (.lst ((st.foldl (YR (wn ws c) am) fl).map V.int))->H' r.n=B' (.lst ((ndS nd (ac (wn ws c) ln lp) e am).map V.int))->Q .X1 H'
theorem SZ (T:Tx K mg a):YD P w K mg base Yj 2 "send_along" ["layout","steps","end"] [] (Q1 K a.Layout):=T.Qjn.Ym fun f fd F=>by
 have Qbg:=Ck (P:=P) (w:=w) (base:=base) T;refine F.ok pY (fun vs H Q E h=>?_) (fun aD A outer s H vs Q E hr h=>?_)
 .obtain⟨q,r,ws,c,fl,nd,sA,st,xs,e,ln,lp,rfl,_⟩:=h
  rfl
 .obtain⟨q,r,ws,c,fl,nd,sA,st,xs,e,ln,lp,rfl,L,hf,je,hn,dP,hs,sf,sn,eI,cR,qt,zh,Ue,TF,k⟩:=h
  obtain⟨dx,ex⟩:=L.ex;have lx:st.length=xs.length:=by rw[<- eI.length,Us]
  have pos:0<st.length:=by
   have:=(Yi.mp zh).1;lia
  have MK:ln<ws.length:=qt _ (UF zh);obtain⟨xl,bw⟩:=eY (l:=xs) (j:=xs.length-1) (by lia);obtain⟨s0,D1,J1⟩:=dU eI bw;rw[<- lx,zh] at D1;obtain rfl:=YB D1;obtain⟨tl,rfl,FL⟩:=xG J1;refine⟨_,(aq (aQ (i:=3) pY.nd O (.inl O) (aG aT (pv 1) (QhS QhV ao) (fun _ _=>O)))
   (aq (aQ (i:=4) pY.nd O (.inl O) (uX (pv 0) T.Yl Qbg (hr.mono (by decide)) (ag (aG ff (pv 3) ao (fun _ _=>O)) (ag (aG ff (pv 3) ao (fun _ _=>O)) aj))))
   (aq (pR (i:=5) pY.nd O O (N:=["number","point","layout"]) (cap:=[C',C',B' 0]) O (cq (osc:=aF xD) (XN:=["layout","steps","end","last","start","back","amount","number","point"]) O O (by decide +kernel)) (bY (pv 1)) (fun cl C s H fp aa=>(jS (K:=K) (n:=2) O O (aM (aE (i:=0) (show(["number","point","layout"]:List K').Nodup by decide +kernel) rfl (.inl rfl)) (aM (aE (i:=1) (show(["number","point","layout"]:List K').Nodup by decide +kernel) rfl (.inl rfl)) cD)))) (fun cl C s H fp aa=>qp (bG mE (aG (vQ (K:=K) O) (CO (K:=K) O (pv 2) O) (pv 0) (fun _ _=>O)) (pv 1) (bB _))) (fun cl C s H fp aa=>(pv 0)) (hsw:=O))
   (aq (aQ (i:=6) pY.nd O (.inl O) (bM RV O T.QdP Ca (ag (aH vG (bZ (ag (aG aT (bg (pv 0) O) (pv 2) (fun _ _=>O)) (ag (aH g8 ao (aG aT (bg (pv 0) O) (pv 4) (fun _ _=>O))) aj))) (dF (N:=["number","layout"]) (cap:=[C',B' 0]) O (cq (osc:=aF xD) (XN:=["layout","steps","end","last","start","back","amount","number","point"]) O O (by decide +kernel)) (bY (pv 5)) (fun cl C s H fp aa=>(aE (i:=0) (show(["number","layout"]:List K').Nodup by decide +kernel) rfl (.inl rfl))) (fun cl C s H fp aa=>dE) (fun cl C s H fp aa=>(aG (vQ (K:=K) O) (CO (K:=K) O (pv 1) O) (pv 0) (fun _ _=>O))))) aj)))
   (aq (cV YS rfl (bY (pv 1)) (fe rfl (aM (aE (i:=7) pY.nd O (.inl O)) (aM (aE (i:=8) pY.nd O (.inl O)) cD))) (ay (pX (bg (pv 0) O) (pv 7) pW (CN (bG mE (aG aT (bg (pv 0) O) (pv 7) (fun _ _=>O)) (pv 8) (bB _)) (pv 6) (aH g8 ao (pv 6))) vC qi)))
   (aq (pX (bg (pv 0) rfl) (pv 4) pW (pv 6) vC qi)
   (ay (pX (bg (pv 0) rfl) (pv 2) pW (pv 6) Iz qi)))))))),?_⟩
  refine⟨_,O,_,O,sA,_,_,_,O,O,M'.of hs,Qke bw,?_⟩;refine⟨_,O,q,dx,_,O,ex,by rfl,_,O,tl,_,_,_,O,O,FL,O,_,O,tl,_,_,_,O,O,FL,O,q,r,ws,c,ln,lp,O,L,MK,?_⟩;generalize ac (wn ws c) ln lp=ss at *;refine⟨_,O,sA,O,⟨_,M'.of hs⟩,fun D hD=>?_⟩;refine fQ (K:=K) (a:=sA) (xs:=xs) (fun j τ G=>∃ v1 v2,τ=[v1,v2,B' (.ref q)]/\af H G/\G D=B' (.lst (nums (((st.take j).filter fun x=>decide ((((wn ws c).on x.1:Nat):Int)=x.2)).map fun x=>x.1)))) ⟨C',C',O,af.new hD,ai⟩ ?_ ?_ ?_
  .rintro j τ G _ ⟨_,_,rfl,sg,_⟩
   exact M'.of (sg _ _ hs)
  .rintro j y τ G hy ⟨v1,v2,rfl,sg,hG⟩
   obtain⟨⟨n,d⟩,qB,dj⟩:=dU eI hy;have nl:=qt _ (UF qB);obtain⟨t,rfl,ht⟩:=xG (sg.dt dj);refine⟨t,_,O,ht,O,_,_,O,_,_,O,O,?_⟩;refine⟨_,O,q,a.Layout,dx,_,_,O,sg _ _ ex,T.Yl,T.Qbf,qY,_,O,r.o,_,_,_,O,O,M'.of (sg _ _ L.ho),my _ nl,_,O,O,_,O,?_⟩;have jz:(((st.take j).filter fun x=>decide ((((wn ws c).on x.1:Nat):Int)=x.2)).map fun x=>x.1).length<=10000:=by
    rw[Us];have e1:=U0 (fun x:Nat×Int=>decide ((((wn ws c).on x.1:Nat):Int)=x.2)) (st.take j);have e2:=V9 j st;rw[UH] at e1;lia
   refine bo (fun b1=>?_) (fun b1=>?_)
   .have b2:decide ((((wn ws c).on n:Nat):Int)=d)=D':=by
     have:=UM b1;injection this with z
     exact UW z
    refine⟨_,O,_,hG,?_,_,_,O,c8 hD sg,?_⟩
    .show(nums _).length<XX
     unfold nums;rw[Us,Uz];lia
    .rw[ai,bx qB,Vz,UX,XR b2,We,UC]
     unfold nums;rw[UC];rfl
   .have b2:decide ((((wn ws c).on n:Nat):Int)=d)=R':=by
     refine Ve fun z=>?_
     have:=U2 b1;exact this (by rw[<- z];rfl)
    refine⟨_,_,O,sg,?_⟩;rw[bx qB,Vz,UX,W' (by rw[b2];decide),We,Vc];exact hG
  rintro τ H1 ⟨v1,v2,rfl,s1,jZ⟩
  rw[Vd (by lia)] at jZ;have Fn:=s1 _ _ ex;have Dp:=s1 _ _ hn;refine⟨_,O,q,a.Layout,dx,_,_,O,Fn,T.Yl,T.QaG,p6,_,O,r.n,_,_,_,O,O,M'.of Dp,qc (by lia),_,O,q,a.Layout,dx,_,_,O,Fn,T.Yl,T.QaG,p6,_,O,r.n,_,_,_,O,O,M'.of Dp,qc (by lia),_,_,O,O,(by show 2<=XX;decide),fun g1 DD=>?_⟩;have s2:af H (upd H1 g1 (.lst [.int (fn nd e),.int (0-fn nd ss)])):=s1.trans (af.new DD);have h2:upd H1 g1 (.lst [.int (fn nd e),.int (0-fn nd ss)]) g1=B' (.lst [.int (fn nd e),.int (0-fn nd ss)]):=ai;have gD:=af.new DD (o:=.lst [.int (fn nd e),.int (0-fn nd ss)]) _ _ jZ;generalize upd H1 g1 (.lst [.int (fn nd e),.int (0-fn nd ss)])=H2 at s2 h2 gD ⊢;generalize yT:(st.filter fun x=>decide ((((wn ws c).on x.1:Nat):Int)=x.2))=bk at gD;have TN:bk.length<=10000:=by
   rw[<- yT];have:=U0 (fun x:Nat×Int=>decide ((((wn ws c).on x.1:Nat):Int)=x.2)) st;lia
  have zX:∀ x∈bk,x.1<ws.length:=fun x hx=>by
   rw[<- yT] at hx;exact qt x (ZJ.mp hx).1
  refine⟨_,O,D,O,⟨_,M'.of gD⟩,fun Z hZ=>?_⟩;refine fQ (K:=K) (a:=D) (xs:=nums (bk.map fun x=>x.1)) (fun j τ G=>∃ v1,τ=[v1,B' (.ref q)]/\af H2 G/\G Z=B' (.lst (((bk.take j).map fun x=>fn fl x.1).map V.int))) ⟨C',O,af.new hZ,ai⟩ ?_ ?_ ?_
  .rintro j τ G _ ⟨_,rfl,sg,_⟩
   exact M'.of (sg _ _ gD)
  .rintro j y τ G hy ⟨v1,rfl,sg,hG⟩
   obtain⟨n,kP,rfl⟩:=vT hy;rw[UJ] at kP;cases eb:bk[j]? with
   | none=>rw[eb] at kP;cases kP
   | some b=>
    rw[eb] at kP;obtain rfl:b.1=n:=YB kP;have bl:=zX b (UF eb);have tg:=s2.trans sg;dsimp only[bN,dY];rw[XR rfl];refine⟨_,O,q,a.Layout,dx,_,_,O,tg _ _ ex,T.Yl,T.Qbe,vH,_,O,r.f,_,_,_,O,O,M'.of (tg _ _ hf),qc (by lia),_,hG,?_,_,O,c8 hZ sg,?_⟩
    .rw[Us,Us,UH,Uz]
     lia
    .rw[ai,bx eb,UC,UC]
     rfl
  rintro τ H3 ⟨v3,rfl,s3,mW⟩
  rw[Vd (by unfold nums;rw[Us,Us];exact Uv _)] at mW;refine⟨g1,Z,_,_,O,O,s3 _ _ h2,mW,?_,fun g2 Nw=>?_⟩
  .rw[Us,Us,Uz]
   show 2+bk.length<=_;lia
  have sP:ZU (wn ws c) (fn fl) (fn nd) st e ss=fn nd e::(0-fn nd ss)::(bk.map fun x=>fn fl x.1):=by
   unfold ZU;rw[yT]
  have e4:([V.int (fn nd e),V.int (0-fn nd ss)]++(bk.map fun x=>fn fl x.1).map V.int)=(ZU (wn ws c) (fn fl) (fn nd) st e ss).map V.int:=by
   rw[sP];rfl
  rw[e4];have s4:af H (upd H3 g2 (.lst ((ZU (wn ws c) (fn fl) (fn nd) st e ss).map V.int))):=(s2.trans s3).trans (af.new Nw);have h4:upd H3 g2 (.lst ((ZU (wn ws c) (fn fl) (fn nd) st e ss).map V.int)) g2=B' (.lst ((ZU (wn ws c) (fn fl) (fn nd) st e ss).map V.int)):=ai;generalize upd H3 g2 (.lst ((ZU (wn ws c) (fn fl) (fn nd) st e ss).map V.int))=H4 at s4 h4 ⊢;refine⟨g2,_,O,M'.of h4,(by rw[sP];exact List.cons_ne_nil _ _),fun am hm i8=>?_⟩;have L4:=L.same s4;have lay:∀ G,Kx [r.f] H4 G->bR a.Layout G q r ws c:=fun G kx=>L4.kx kx fun y hy=>.inr (.inl (XC.mp hy))
  have FE:=s4 _ _ hs;have As:=s4.Yf eI;have sQ:∀ G,Kx [r.f] H4 G->Tk H4 G:=fun G kx b o z1 z2=>kx b o z1 fun y=>by
   rw[XC.mp y,s4 _ _ hf] at z1;cases z1
   cases z2
  refine⟨_,O,sA,O,⟨_,M'.of FE⟩,jr (K:=K) (a:=sA) (xs:=xs) (fun i σ G=>∃ v7 v8,σ=[B' (.ref q),B' (.ref sA),B' (.int (e:Nat)),B' (.ref tl),B' (.int (ss:Nat)),B' (.ref D),B' (.int am),v7,v8]/\Kx [r.f] H4 G/\G r.f=B' (.lst (((st.take i).foldl (YR (wn ws c) am) fl).map V.int)))
   ⟨C',C',rfl,Kx.of (af.refl _),s4 _ _ hf⟩ ?_ ?_ ?_⟩
  .rintro i σ G _ ⟨_,_,rfl,kx,_⟩
   exact M'.of (kx _ _ FE (by simp[sf]))
  .rintro i y σ G hy ⟨v7,v8,rfl,kx,hG⟩
   obtain⟨⟨n,d⟩,qB,dj⟩:=dU As hy;have nl:=qt _ (UF qB);obtain⟨t,rfl,ht⟩:=xG ((sQ G kx).dt O dj);have LG:=lay G kx;obtain⟨c6,ia⟩:=LG.ex;have Fq:=yi (wn ws c) am (st.take i) fl;have fo:(st.take (i+1)).foldl (YR (wn ws c) am) fl=YR (wn ws c) am ((st.take i).foldl (YR (wn ws c) am) fl) (n,d):=by rw[bx qB,Vq];rfl
   rw[fo];generalize (st.take i).foldl (YR (wn ws c) am) fl=now at hG Fq ⊢;have MP:n<now.length:=by
    have:n<ws.length:=nl;lia
   refine⟨t,_,O,ht,O,_,_,O,_,_,O,O,?_⟩;refine⟨_,O,q,a.Layout,c6,_,_,O,ia,T.Yl,T.Qbe,vH,_,O,r.f,_,_,_,O,O,M'.of hG,by lia,vR MP,?_⟩;refine⟨_,O,q,a.Layout,c6,_,_,O,ia,T.Yl,T.QbO,uV,_,O,r.t,_,_,_,O,O,M'.of LG.ht,my _ nl,_,O,O,_,O,?_⟩;refine bo (fun b1=>?_) (fun b1=>?_)
   .have b2:(((wn ws c).ot n:Nat):Int)=d:=by
     have:=UM b1;injection this with z
    have sq:YR (wn ws c) am now (n,d)=now.set n (fn now n+am):=by
     unfold YR;rw[XR b2]
    rw[sq];refine⟨_,O,_,_,O,O,r.f,_,_,_,O,O,hG,nV (by lia) (by rw[Us];lia),?_⟩;rw[UD,<- V7];exact⟨_,_,O,kx.trans (Kx.upd (by simp)),ai⟩
   .have b2:¬ (((wn ws c).ot n:Nat):Int)=d:=fun z=>by
     have:=U2 b1;exact this (by rw[<- z];rfl)
    have sq:YR (wn ws c) am now (n,d)=now.set n (fn now n+(0-am)):=by
     unfold YR;rw[W' b2]
    rw[sq];refine⟨_,O,_,_,O,O,_,_,O,O,r.f,_,_,_,O,O,hG,nV (by lia) (by rw[Us];lia),?_⟩;rw[UD,<- V7];exact⟨_,_,O,kx.trans (Kx.upd (by simp)),ai⟩
  .rintro σ G ⟨v7,v8,rfl,kx,hG⟩
   rw[<- lx,UO] at hG;have LG:=lay G kx;obtain⟨c6,ia⟩:=LG.ex;have Fk:G r.n=B' (.lst (nd.map V.int)):=kx _ _ (s4 _ _ hn) (by simp[XW L.fn]);refine⟨_,O,q,a.Layout,c6,_,_,O,ia,T.Yl,T.QaG,p6,_,O,r.n,_,_,_,O,O,M'.of Fk,by lia,vR (by lia),_,O,_,_,O,O,r.n,_,_,_,O,O,Fk,nV (by lia) (by rw[Us];lia),?_⟩;rw[UD,<- V7];have ja:Kx [r.f,r.n] H (upd G r.n (.lst ((nd.set ss (fn nd ss+am)).map V.int))):=((Kx.of s4).trans (kx.mono (by simp))).trans (Kx.upd (by simp));have h5:upd G r.n (.lst ((nd.set ss (fn nd ss+am)).map V.int)) r.n=B' (.lst ((nd.set ss (fn nd ss+am)).map V.int)):=ai;have f5:upd G r.n (.lst ((nd.set ss (fn nd ss+am)).map V.int)) r.f=B' (.lst ((st.foldl (YR (wn ws c) am) fl).map V.int)):=by rw[ak L.fn];exact hG
   generalize upd G r.n (.lst ((nd.set ss (fn nd ss+am)).map V.int))=H5 at ja h5 f5 ⊢;have L5:bR a.Layout H5 q r ws c:=L.kx ja fun y hy=>by
    rcases U1.mp hy with z|z
    .exact .inr (.inl z)
    .exact .inr (.inr (.inl (XC.mp z)))
   obtain⟨zG,Yc⟩:=L5.ex;have l5:e<(nd.set ss (fn nd ss+am)).length:=by rw[Vo];lia
   refine⟨_,O,q,a.Layout,zG,_,_,O,Yc,T.Yl,T.QaG,p6,_,O,r.n,_,_,_,O,O,M'.of h5,by lia,vR l5,_,O,_,_,O,O,r.n,_,_,_,O,O,h5,nV (by lia) (by rw[Us];lia),?_⟩;rw[UD,<- V7];exact k am _ hm i8 (ja.trans (Kx.upd (by simp))) (by rw[ak L.fn];exact f5) ai
end
def Qfk:Key->Nat
 | .inl i=>i.toNat
 | .inr _=>0
def Qkf:V->Int
 | .int i=>i
 | _=>0
def Zs (D:Int) (P:List Int) (kv:Key×V):List Int:=P.set (Qfk kv.1) (fn P (Qfk kv.1)+(D-Qkf kv.2))
theorem BQ (D:Int):∀ (far:XZ) (P:List Int),(far.foldl (Zs D) P).length=P.length
 | [],_=>rfl
 | x::far,P=>by
  show(far.foldl (Zs D) (Zs D P x)).length=_;rw[BQ D far];unfold Zs;rw[Vo]
theorem Rh (v:Nat) (b:Int) (r:XZ):gI ((XY (v:Int),V.int b)::r)=up (gI r) v (B' b):=by
 funext u
 unfold gI;by_cases c:u=v
 .subst c
  rw[eO rfl,aY];rfl
 .rw[dB (fun z=>c (by injection z with z;exact(Qav z).symm)),aR _ _ c]
theorem Ia {v:Nat}:∀ {r:XZ},XY (v:Int)∉r.map QaR->gI r v=C'
 | [],_=>rfl
 | p::r,h=>by
  have h1:p.1≠XY (v:Int):=fun z=>h (by rw[<- z];exact UQ)
  have ih:=Ia (v:=v) (r:=r) fun z=>h (UI _ z)
  unfold gI at ih ⊢;rw[dB h1];exact ih
theorem GB (D:Int):∀ (far:XZ) (P:List Int),Wf far->(far.map QaR).Nodup->(∀ v b,gI far v=B' b->v<P.length)->fn (far.foldl (Zs D) P)=mv (fn P) (gI far) D
 | [],P,_,_,_=>rfl
 | x::far,P,wf,nd,lt=>by
  obtain⟨v,b,rfl⟩:=wf x UQ;rw[Vb,WN] at nd;have iE:=Ia nd.1;rw[Rh] at lt ⊢;have vl:v<P.length:=lt v b (aY _ _ _);have e1:Zs D P (XY (v:Int),V.int b)=P.set v (fn P v+(D-b)):=by
   unfold Zs;show P.set ((v:Int).toNat) (fn P ((v:Int).toNat)+(D-b))=_;rw[UD]
  show fn (far.foldl (Zs D) (Zs D P (XY (v:Int),V.int b)))=_;rw[e1,GB D far _ (fun p hp=>wf p (UI _ hp)) nd.2 (fun u b' e=>by
   have ne:u≠v:=fun z=>by rw[z,iE] at e;cases e
   rw[Vo];exact lt u b' (by rw[aR _ _ ne];exact e)),nH vl]
  funext u
  unfold mv;by_cases c:u=v
  .subst c
   rw[iE,aY,aY]
  .rw[aR (gI far) _ c,aR _ _ c]
theorem JB {kvs:XZ}{k:Key}{v:V} (h:(kvs.map QaR).Nodup):((aO kvs k v).map QaR).Nodup:=by
 unfold aO;split
 .have e:(kvs.map fun p=>if p.1=k then(p.1,v) else p).map QaR=kvs.map QaR:=by
   rw[Wo];refine Xt fun p _=>?_
   show(if p.1=k then(p.1,v) else p).1=p.1;split<;>rfl
  first|exact e ▸ h|(rw[Wo];refine(Xt (g:=QaR) fun p _=>?_) ▸ h;show(if _ then _ else _:Key×V).1=p.1;split<;>rfl)
 .rename_i hc
  rw[UC];refine Qeh.mpr ⟨h,by simp,fun x hx y hy=>?_⟩;rw[Vb,W5,XC] at hy;rw[hy];rintro rfl
  obtain⟨p,hp,e⟩:=YL.mp hx;exact hc (Qa5.mpr ⟨p,hp,UW e⟩)
def NNc (kvs:XZ):Prop:=∀ x i,gI kvs x=B' i->0<=i
variable {G G':Hp}{Q:VK}{am fl ls nd:List Int}{dx t:F'}{f:Nat->List Nat}{fk:Nat->Int}{gs:List F'}{o:HO}{p:List Nat}{r:LR}
theorem Qkg {far:XZ}{a:Int}{s:XZ×XZ} (h:NNc s.2):NNc (Yx ws c far x a s st).2:=by
 unfold Yx;split
 .intro y i e
  rw[show gI (aO s.2 (XY ((ac (wn ws c) st.1 x:Nat):Int)) (.int (st.1:Nat)))=_ from jj _ _ _] at e;by_cases z:y=ac (wn ws c) st.1 x
  .rw[z,aY] at e
   cases e
   lia
  .rw[aR _ _ z] at e
   exact h y i e
 .exact h
theorem IV {ws:List Wt}{c:Nat}{far:XZ}{x:Nat}{a:Int}:∀ (st:List (Nat×Int)){s:XZ×XZ},NNc s.2->NNc (st.foldl (Yx ws c far x a) s).2
 | [],_,h=>h
 | t::st,_,h=>IV st (Qkg (st:=t) h)
theorem HK {ws:List Wt}{c:Nat}{P fl nd:List Int}:∀ k,NNc (U' (a9 ws c P fl) k ([],w0 nd c,[])).2.2/\((U' (a9 ws c P fl) k ([],w0 nd c,[])).1.map QaR).Nodup
 | 0=>⟨fun x i e=>(by cases e),Wm⟩
 | k+1=>by
  obtain⟨h1,h2⟩:=HK (ws:=ws) (c:=c) (P:=P) (fl:=fl) (nd:=nd) k;have sj:U' (a9 ws c P fl) (k+1) ([],w0 nd c,[])=a9 ws c P fl (U' (a9 ws c P fl) k ([],w0 nd c,[])):=rfl;rw[sj];generalize U' (a9 ws c P fl) k ([],w0 nd c,[])=S at h1 h2 ⊢;exact⟨IV _ h1,JB h2⟩
theorem rq.nn {P:List Int}{k:Nat}{far cm:XZ} (h:rq ws c P fl nd k x far cm):NNc cm/\(far.map QaR).Nodup:=by
 obtain⟨h1,h2⟩:=HK (ws:=ws) (c:=c) (P:=P) (fl:=fl) (nd:=nd) k;rw[h.cm,h.far];exact⟨h1,JB h2⟩
abbrev S3:=List Int×List Int×List Int
def Snd (ws:List Wt) (c:Nat) (s s':S3):Prop:=∃ j x far cm k am D,rq ws c s.1 s.2.1 s.2.2 j x far cm/\gI far x=B' D/\cI cm (U' (bc (wn ws c) (cI cm)) k x)=C'/\(∀ i,i<k->(cI cm (U' (bc (wn ws c) (cI cm)) i x)).isSome=D') /\
 am∈ZU (wn ws c) (fn s.2.1) (fn s.2.2) (YZ (wn ws c) (cI cm) x k) x (U' (bc (wn ws c) (cI cm)) k x)/\(∀ y∈ZU (wn ws c) (fn s.2.1) (fn s.2.2) (YZ (wn ws c) (cI cm) x k) x (U' (bc (wn ws c) (cI cm)) k x),am<=y) /\
 s'=(far.foldl (Zs D) s.1,(YZ (wn ws c) (cI cm) x k).foldl (YR (wn ws c) am) s.2.1,ndS s.2.2 (U' (bc (wn ws c) (cI cm)) k x) x am)
theorem BF (N:Wn) (cm:Nat->Option Nat) (e k:Nat):(YZ N cm e k).length=k:=by
 unfold YZ;rw[Us,U7]
theorem Jg {N:Wn}{cm:Nat->Option Nat}{x:Nat}{am:Int}{fl:List Int}:∀ k,(∀ i,i<k->cn cm (U' (bc N cm) i x)<fl.length)->fn ((YZ N cm x k).foldl (YR N am) fl)=fs N cm x am (fn fl) k
 | 0,_=>rfl
 | k+1,h=>by
  have ih:=Jg (N:=N) (cm:=cm) (x:=x) (am:=am) (fl:=fl) k fun i hi=>h i (by lia)
  have l:=yi N am (YZ N cm x k) fl;rw[BW,Vq];show fn (YR N am ((YZ N cm x k).foldl (YR N am) fl) (cn cm (U' (bc N cm) k x),((U' (bc N cm) k x:Nat):Int)))=up (fs N cm x am (fn fl) k) _ _;have hk:=h k (by lia);rw[<- l] at hk;rw[<- ih];generalize (YZ N cm x k).foldl (YR N am) fl=g at hk ⊢;unfold YR;show fn (g.set (cn cm (U' (bc N cm) k x)) _)=_;rw[nH hk];have e:(if ((N.ot (cn cm (U' (bc N cm) k x)):Nat):Int)=((U' (bc N cm) k x:Nat):Int) then am else 0-am)=if N.ot (cn cm (U' (bc N cm) k x))=U' (bc N cm) k x then am else 0-am:=by
   by_cases z:N.ot (cn cm (U' (bc N cm) k x))=U' (bc N cm) k x
   .rw[XR z,XR (by rw[z])]
   .rw[W' z,W' (show ¬ ((N.ot (cn cm (U' (bc N cm) k x)):Nat):Int)=((U' (bc N cm) k x:Nat):Int) by lia)]
  show up _ _ (_+(if ((N.ot (cn cm (U' (bc N cm) k x)):Nat):Int)=((U' (bc N cm) k x:Nat):Int) then am else 0-am))=_;rw[e]
theorem GQ {s e:Nat}{am:Int} (hs:s<nd.length) (he:e<nd.length) (p:Nat):fn (ndS nd s e am) p=fn nd p+(if s=p then am else 0)-(if e=p then am else 0):=by
 unfold ndS;rw[nH (by rw[Vo];exact he),nH hs];by_cases c1:p=e
 .subst c1
  rw[aY,XR rfl];by_cases c2:p=s
  .subst c2
   rw[aY,XR rfl]
  .rw[aR _ _ c2,W' (XW c2)]
   lia
 .rw[aR _ _ c1,W' (XW c1)]
  by_cases c2:p=s
  .subst c2
   rw[aY,XR rfl];lia
  .rw[aR _ _ c2,W' (XW c2)]
   lia
theorem Snd.keeps {P:List Int} (ok:(wn ws c).Ok) (j7:P.length=c) (je:fl.length=ws.length) (dP:nd.length=c) (ti:Ti (wn ws c) (fn P) (fn fl)) (hnd:∀ v,v<c->fn nd v=Ye (wn ws c) fk v-Ye (wn ws c) (fn fl) v)
  {far cm:XZ}{k:Nat}{am:Int} (sr:rq ws c P fl nd j x far cm) (lL:Wf far) (se:Se (wn ws c) (fn P) (fn fl) (fn nd) (gI far) wt (cI cm) rk size (fun q _ _=>q≠x/\gI far q≠C')) (gx:gI far x=B' D) (mx:∀ q b,gI far q=B' b->b<=D) (wl:∀ q b,wt q=B' b->D<=b)
  (ue:cI cm (U' (bc (wn ws c) (cI cm)) k x)=C') (cs:∀ i,i<k->(cI cm (U' (bc (wn ws c) (cI cm)) i x)).isSome=D')
  (hm:am∈ZU (wn ws c) (fn fl) (fn nd) (YZ (wn ws c) (cI cm) x k) x (U' (bc (wn ws c) (cI cm)) k x)) (i8:∀ y∈ZU (wn ws c) (fn fl) (fn nd) (YZ (wn ws c) (cI cm) x k) x (U' (bc (wn ws c) (cI cm)) k x),am<=y) :
  Ti (wn ws c) (fn (far.foldl (Zs D) P)) (fn ((YZ (wn ws c) (cI cm) x k).foldl (YR (wn ws c) am) fl)) /\
  (∀ v,v<c->fn (ndS nd (U' (bc (wn ws c) (cI cm)) k x) x am) v=Ye (wn ws c) fk v-Ye (wn ws c) (fn ((YZ (wn ws c) (cI cm) x k).foldl (YR (wn ws c) am) fl)) v) /\
  nU (wn ws c) (fn (ndS nd (U' (bc (wn ws c) (cI cm)) k x) x am))<nU (wn ws c) (fn nd):=by
 obtain⟨nn,mV⟩:=sr.nn;have xc:x<c:=(se.nn x D (.inl gx)).2;obtain⟨as,wC⟩:=se.way gx k;have sc:U' (bc (wn ws c) (cI cm)) k x<c:=(se.nn _ _ (.inl wC)).2;have lW:=se.root wC ue;have EI:∀ i,i<k->∃ d b a,Y9 (wn ws c) (fn P) (fn fl) (ac (wn ws c) (cn (cI cm) (U' (bc (wn ws c) (cI cm)) i x)) (U' (bc (wn ws c) (cI cm)) i x)) (U' (bc (wn ws c) (cI cm)) i x) (cn (cI cm) (U' (bc (wn ws c) (cI cm)) i x)) d/\gI far (ac (wn ws c) (cn (cI cm) (U' (bc (wn ws c) (cI cm)) i x)) (U' (bc (wn ws c) (cI cm)) i x))=B' b/\a=b+d/\ac (wn ws c) (cn (cI cm) (U' (bc (wn ws c) (cI cm)) i x)) (U' (bc (wn ws c) (cI cm)) i x)≠U' (bc (wn ws c) (cI cm)) i x:=fun i hi=>by
  obtain⟨a,ea⟩:=se.way gx i;obtain⟨d,b,A,fb,e,ne,_⟩:=se.back ea (kq (cs i hi));exact⟨d,b,a,A,fb,e,ne⟩
 have lt:∀ i,i<k->cn (cI cm) (U' (bc (wn ws c) (cI cm)) i x)<fl.length:=fun i hi=>by
  obtain⟨d,b,a,A,_⟩:=EI i hi;rw[je];exact A.1
 have mem:∀ i,i<k->(wn ws c).on (cn (cI cm) (U' (bc (wn ws c) (cI cm)) i x))=U' (bc (wn ws c) (cI cm)) i x->am<=fn fl (cn (cI cm) (U' (bc (wn ws c) (cI cm)) i x)):=fun i hi e=>by
  refine i8 _ (UI _ (UI _ (YL.mpr ⟨(cn (cI cm) (U' (bc (wn ws c) (cI cm)) i x),((U' (bc (wn ws c) (cI cm)) i x:Nat):Int)),ZJ.mpr ⟨?_,UW (by rw[e])⟩,O⟩)));unfold YZ;exact YL.mpr ⟨i,QaL.mpr hi,O⟩
 have Mf:am<=fn nd x:=i8 _ UQ;have sM:am<=0-fn nd (U' (bc (wn ws c) (cI cm)) k x):=i8 _ (UI _ UQ);have m5:0<am:=by
  unfold ZU at hm;rcases U1.mp hm with z|z
  .rw[z]
   exact sr.pos
  .rcases U1.mp z with z|z
   .rw[z]
    lia
   .obtain⟨⟨n,d⟩,h1,h2⟩:=YL.mp z
    obtain⟨h1,h3⟩:=ZJ.mp h1;unfold YZ at h1;obtain⟨i,hi,e⟩:=YL.mp h1;cases e
    obtain⟨d,b,a,A,_,_,ne⟩:=EI i (QaL.mp hi);have on:(wn ws c).on (cn (cI cm) (U' (bc (wn ws c) (cI cm)) i x))=U' (bc (wn ws c) (cI cm)) i x:=Qav (UM h3);obtain⟨_,⟨p1,p2,_⟩|⟨_,_,p3,_⟩⟩:=A
    .exact X4 (p1.symm.trans on) ne
    .rw[<- h2]
     exact p3
 have K7:=se.moved ti gx mx wl;have LJ:=se.Qfj gx K7 (W9 m5) k cs mem;have DW:=Jg (am:=am) (fl:=fl) k lt;refine⟨?_,fun v hv=>?_,OT sc xc m5 Mf sM fun p hp=>?_⟩
 .rw[DW,GB D far P lL mV (fun v b e=>by rw[j7];exact(se.nn v b (.inl e)).2)]
  exact LJ
 .rw[DW,se.Qfi gx v k cs,GQ (by lia) (by lia),hnd v hv]
  lia
 .exact GQ (by lia) (by lia) p
section
variable {K:V'}
def Qkh (t:Zx):Sp:=fun vs H Q _=>∃ q r ws c p fl nd fk,∃ k0:Nat,vs=[.ref q]/\bR t.Layout H q r ws c/\H r.p=B' (.lst ((p:List Int).map V.int))/\p.length=c/\H r.f=B' (.lst ((fl:List Int).map V.int))/\fl.length=ws.length/\H r.n=B' (.lst ((nd:List Int).map V.int))/\nd.length=c/\(wn ws c).Ok/\ws.length<=200/\c<=200 /\
 Ti (wn ws c) (fn p) (fn fl)/\(∀ n,n<ws.length->0<=fk n)/\(∀ v,v<c->fn nd v=Ye (wn ws c) fk v-Ye (wn ws c) (fn fl) v)/\k0<c/\0<fn nd k0/\H t.QaZ=B' (.Y1 lY mw) /\
 ∀ p' eP bA H',Kx [r.p,r.f,r.n] H H'->H' r.p=B' (.lst ((p':List Int).map V.int))->H' r.f=B' (.lst ((eP:List Int).map V.int))->H' r.n=B' (.lst ((bA:List Int).map V.int))->Snd ws c (p,fl,nd) (p',eP,bA) ->
  p'.length=c->eP.length=ws.length->bA.length=c->Ti (wn ws c) (fn p') (fn eP)->(∀ v,v<c->fn bA v=Ye (wn ws c) fk v-Ye (wn ws c) (fn eP) v)->nU (wn ws c) (fn bA)<nU (wn ws c) (fn nd)->Q .X1 H'
theorem Rl (T:Tx K mg a):YD P w K mg base Yj 5 "send_once" ["layout"] [] (Qkh a):=T.Qjj.Ym fun f fd F=>by
 have jN:=OB (P:=P) (w:=w) (base:=base) T;have gH:=Cb (P:=P) (w:=w) (base:=base) T;have eC:=SZ (P:=P) (w:=w) (base:=base) T;refine F.ok rN (fun vs H Q E h=>?_) (fun aD A outer s H vs Q E hr h=>?_)
 .obtain⟨q,r,ws,c,p,fl,nd,fk,k0,rfl,_⟩:=h
  rfl
 .obtain⟨q,r,ws,c,p,fl,nd,fk,k0,rfl,L,hp,j7,hf,je,hn,dP,ok,hw,jW,ti,um,hnd,Al,oq,iP,k⟩:=h
  refine⟨_,(aq (aQ (i:=1) rN.nd O (.inl O) l8)
   (aq (aQ (i:=2) rN.nd O (.inl O) l8)
   (aq (aQ (i:=3) rN.nd O (.inl O) (bD jN (hr.mono (by decide)) rfl (ag (pv 0) (ag (pv 1) (ag (pv 2) aj)))))
   (aq (cV YS rfl (Jv (C3 Qci Qd0 QfM HE (pv 1))) (fe rfl (aM (aE (i:=4) rN.nd O (.inl O)) (aM (aE (i:=5) rN.nd O (.inl O)) cD))) (ay (pX (bg (pv 0) O) (pv 4) pW (aH g8 (cN (bf hr) (pv 1) (pv 3) (fun _ _=>O)) (pv 5)) vC qi)))
   (ay (bC (bD eC (hr.mono (by decide)) rfl (ag (pv 0) (ag (bD gH (hr.mono (by decide)) rfl (ag (pv 0) (ag (pv 2) (ag (pv 3) aj)))) (ag (pv 3) aj)))))))))),?_⟩
  refine fun fA mN=>?_
  have s1:af H (upd H fA (.dK [])):=af.new mN;have f1:upd H fA (.dK []) fA=B' (.dK []):=ai;generalize upd H fA (.dK [])=H1 at s1 f1 ⊢;refine fun cA zF=>?_
  have oy:fA≠cA:=av f1 zF;have s2:af H (upd H1 cA (.dK [])):=s1.trans (af.new zF);have f2:upd H1 cA (.dK []) fA=B' (.dK []):=by rw[ak oy];exact f1
  have c2:upd H1 cA (.dK []) cA=B' (.dK []):=ai;have Fy:H cA=C':=none_of s1 zF;generalize upd H1 cA (.dK [])=H2 at s2 f2 c2 ⊢;refine⟨_,O,_,O,_,O,q,r,ws,c,p,fl,nd,fA,cA,fk,k0,O,L.same s2,s2 _ _ hp,j7,s2 _ _ hf,je,s2 _ _ hn,dP,ok,hw,jW,f2,c2,oy,ti,um,hnd,Al,oq,s2 _ _ iP,fun j x far cm H3 fq sr iL Ex lL Br lf lc JQ=>?_⟩;obtain⟨wt,rk,size,D,hsz,se,gx,mx,wl⟩:=JQ;obtain⟨nn,mV⟩:=sr.nn;have J7:Kx [r.p] H H3:=fun b o e _=>fq b o (s2 b o e) fun y=>by
   rcases U1.mp y with y|y
   .rw[y,mN] at e
    cases e
   .rw[XC.mp y,Fy] at e
    cases e
  have p3:H3 r.p=B' (.lst (p.map V.int)):=fq _ _ (s2 _ _ hp) fun y=>by
   rcases U1.mp y with y|y
   .rw[y,mN] at hp
    cases hp
   .rw[XC.mp y,Fy] at hp
    cases hp
  refine⟨_,O,.inr (.inr (.inl ⟨O,.inl ⟨_,iL⟩⟩)),fA,far,O,O,iL,fun vw uP=>⟨vw,fA,far,O,ai,by rw[ak (av iL uP)];exact iL,fun o=>?_⟩⟩;have KG:r.p≠vw:=av p3 uP;have Ax:r.p≠fA:=cU p3 iL (by intro z;cases z);have TU:fA≠vw:=av iL uP;have Nu:cA≠vw:=av Ex uP;have f4:upd (upd H3 vw (kG vw fA)) fA (.X7 o (.dK far)) fA=B' (.X7 o (.dK far)):=ai;have p4:upd (upd H3 vw (kG vw fA)) fA (.X7 o (.dK far)) r.p=B' (.lst (p.map V.int)):=by rw[ak Ax,ak KG];exact p3
  have c4:upd (upd H3 vw (kG vw fA)) fA (.X7 o (.dK far)) cA=B' (.dK cm):=by rw[ak (XW oy),ak Nu];exact Ex
  have zI:Kx [r.p] H (upd (upd H3 vw (kG vw fA)) fA (.X7 o (.dK far))):=fun b u e z=>by
   have e3:=J7 b u e z;rw[ak (fun y=>by rw[y,mN] at e;cases e),ak (av e3 uP)];exact e3
  generalize upd (upd H3 vw (kG vw fA)) fA (.X7 o (.dK far))=H4 at f4 p4 c4 zI ⊢;have lay:∀ G,Kx [r.p] H4 G->bR a.Layout G q r ws c:=fun G kx=>L.kx (zI.trans kx) fun y hy=>.inl (XC.mp hy)
  have zH:∀ v b,gI far v=B' b->v<c:=fun v b e=>(se.nn v b (.inl e)).2
  refine QU (d:=fA) (o:=o) (kvs:=far) (fun i σ G=>∃ v4 v5,σ=[B' (.ref q),B' (.ref fA),B' (.ref cA),B' (.int (x:Nat)),v4,v5]/\Kx [r.p] H4 G/\G r.p=B' (.lst (((far.take i).foldl (Zs D) p).map V.int)))
   ⟨C',C',rfl,Kx.of (af.refl _),p4⟩ ?_ ?_ ?_
  .rintro i σ G _ ⟨_,_,rfl,kx,_⟩
   exact kx _ _ f4 (by simp[XW Ax])
  .rintro i key y tt σ G hy nt ⟨v4,v5,rfl,kx,hG⟩
   obtain⟨v,b,KZ⟩:=lL _ (UF hy);cases KZ
   obtain⟨v',b',e1,e2⟩:=lL.has (UF hy);have e1:(XY (v:Int):Key)=XY ((v':Nat):Int):=e1;have vv:v=v':=by
    injection e1 with z
    exact Qav z
   have vc:v<c:=zH v b' (by rw[vv];exact e2);have s3:af G (upd G tt (.tup [kV (XY (v:Int)),.int b])):=af.new nt;have h3:upd G tt (.tup [kV (XY (v:Int)),.int b]) tt=B' (.tup [.int (v:Nat),.int b]):=ai;generalize upd G tt (.tup [kV (XY (v:Int)),.int b])=G3 at s3 h3 ⊢;have fq:Kx [r.p] H4 G3:=kx.trans (Kx.of s3);have LG:=lay G3 fq;obtain⟨c6,ia⟩:=LG.ex;have ic:=s3 _ _ hG;have ml:=BQ D (far.take i) p;have fo:(far.take (i+1)).foldl (Zs D) p=Zs D ((far.take i).foldl (Zs D) p) (XY (v:Int),V.int b):=by rw[bx hy,Vq];rfl
   rw[fo];generalize (far.take i).foldl (Zs D) p=now at ic ml ⊢;have vl:v<now.length:=by lia
   have fG:G3 fA=B' (.X7 o (.dK far)):=fq _ _ f4 (by simp[XW Ax]);have sq:Zs D now (XY (v:Int),V.int b)=now.set v (fn now v+(D-b)):=by
    unfold Zs;show now.set ((v:Int).toNat) (fn now ((v:Int).toNat)+(D-b))=_;rw[UD]
   rw[sq];refine⟨tt,_,O,Ya.of h3,O,_,_,O,_,_,O,O,?_⟩;refine⟨_,O,q,a.Layout,c6,_,_,O,ia,T.Yl,T.Qa0,qh,_,O,r.p,_,_,_,O,O,M'.of ic,by lia,vR vl,?_⟩;refine⟨_,O,_,O,fA,.int D,O,.inl ⟨far,XY (x:Int),.inr ⟨o,fG⟩,O,by rw[lL.val x,gx];rfl⟩,_,O,_,_,O,O,_,_,O,O,r.p,_,_,_,O,O,ic,nV (by lia) (by rw[Us];lia),?_⟩;rw[UD,<- V7];exact⟨_,_,O,fq.trans (Kx.upd (by simp)),ai⟩
  .rintro σ G ⟨v4,v5,rfl,kx,hG⟩
   rw[UO] at hG;have AI:Kx [r.p] H G:=zI.trans kx;have Kd:cA≠r.p:=cU c4 p4 (by intro z;cases z);have cG:G cA=B' (.dK cm):=kx _ _ c4 (by simp[Kd]);have LG:=lay G kx;have way:∀ i,(cI cm (U' (bc (wn ws c) (cI cm)) i x)).isSome=D'->cn (cI cm) (U' (bc (wn ws c) (cI cm)) i x)<ws.length/\rk (U' (bc (wn ws c) (cI cm)) (i+1) x)<rk (U' (bc (wn ws c) (cI cm)) i x):=fun i hi=>by
    obtain⟨a1,ea⟩:=se.way gx i;obtain⟨d,b,A,_⟩:=se.back ea (kq hi);exact⟨A.1,se.QdQ gx hi⟩
   have Tr:rk x<size:=se.rk x D gx;refine⟨_,O,_,O,_,O,_,O,q,r,ws,c,cA,cm,rk,x,O,LG,cG,Br,nn,way,by lia,fun kk g xs H5 s5 ng hg eI ue cs n9=>?_⟩;have xc:x<c:=(se.nn x D (.inl gx)).2;obtain⟨as,wC⟩:=se.way gx kk;have sc:U' (bc (wn ws c) (cI cm)) kk x<c:=(se.nn _ _ (.inl wC)).2;have bQ:0<kk:=by
    rcases WU kk with z|z
    .subst z
     have:=se.root gx ue;have:=sr.pos;lia
    .exact z
   obtain⟨k',rfl⟩:∃ k',kk=k'+1:=⟨kk-1,by lia⟩;have fG:G r.f=B' (.lst (fl.map V.int)):=AI _ _ hf (by simp[XW L.pf]);have nG:G r.n=B' (.lst (nd.map V.int)):=AI _ _ hn (by simp[XW L.pn]);have f5:=s5 _ _ fG;have n5:=s5 _ _ nG;have Np:U' (bc (wn ws c) (cI cm)) (k'+1) x=ac (wn ws c) (cn (cI cm) (U' (bc (wn ws c) (cI cm)) k' x)) (U' (bc (wn ws c) (cI cm)) k' x):=qU (kq (cs k' (by lia)));have keeps:=fun(am:Int)=>Snd.keeps (am:=am) ok j7 je dP ti hnd sr lL se gx mx wl ue cs
   have snd:=fun(am:Int) (hm:am∈ZU (wn ws c) (fn fl) (fn nd) (YZ (wn ws c) (cI cm) x (k'+1)) x (U' (bc (wn ws c) (cI cm)) (k'+1) x)) i8=>(⟨j,x,far,cm,k'+1,am,D,sr,gx,ue,cs,hm,i8,O⟩:Snd ws c (p,fl,nd) _)
   rw[Np] at keeps snd sc;refine⟨_,O,q,r,ws,c,fl,nd,g,YZ (wn ws c) (cI cm) x (k'+1),xs,x,cn (cI cm) (U' (bc (wn ws c) (cI cm)) k' x),U' (bc (wn ws c) (cI cm)) k' x,O,LG.same s5,f5,je,n5,dP,hg,XW (av fG ng),XW (av nG ng),eI,by rw[BF];exact n9,fun y hy=>?_,?_,xc,sc,fun am H6 hm i8 sW f6 n6=>?_⟩
   .unfold YZ at hy
    obtain⟨i,hi,rfl⟩:=YL.mp hy;exact(way i (cs i (QaL.mp hi))).1
   .rw[BF,BW,show k'+1-1=k' by lia]
    have l:=BF (wn ws c) (cI cm) x k';rw[Ws (by lia),l,Qg9];rfl
   .obtain⟨t1,t2,t3⟩:=keeps am hm i8
    have w5:Kx [r.p,r.f,r.n] H H6:=((AI.mono (by simp)).trans (Kx.of s5)).trans (sW.mono (by simp));refine k _ _ _ H6 w5 (sW _ _ (s5 _ _ hG) (by simp[L.pf,L.pn])) f6 n6 (snd am hm i8) (by rw[BQ];exact j7) (by rw[yi];exact je) ?_ t1 t2 t3;unfold ndS;rw[Vo,Vo];exact dP
end
abbrev Wi:=Int×Int×Int×Int
def wV (q:Wi):List V:=[.int q.1,.int q.2.1,.int q.2.2.1,.int q.2.2.2]
def wD (q:Wi):Dt:=.tup [.int q.1,.int q.2.1,.int q.2.2.1,.int q.2.2.2]
section
variable {K:V'}
theorem Qfl {q:Wi} (h:Ya K H t (wV q)):YH K H (wD q) (.ref t):=⟨t,_,O,h,_,_,O,O,_,_,O,O,_,_,O,O,_,_,O,O,O⟩
theorem mf {x:V}{q:Wi} (h:YH K H (wD q) x):∃ t,x=.ref t/\Ya K H t (wV q):=by
 obtain⟨t,xs,rfl,h1,y1,Ah,rfl,rfl,y2,wN,rfl,rfl,y3,zN,rfl,rfl,y4,EU,rfl,rfl,h2⟩:=h;rw[show EU=[] from h2] at h1;exact⟨t,O,h1⟩
def mD (K:V') (H:Hp) (l:F') (ws:List Wi):Prop:=∃ xs,M' K H l xs/\aK K H (ws.map wD) xs
theorem mD.same {l:F'}{ws:List Wi} (h:mD K H l ws) (s:af H H'):mD K H' l ws:=by
 obtain⟨xs,h1,h2⟩:=h;exact⟨xs,s.YV h1,s.Yf h2⟩
end
def diff (ps:List Int) (q:Wi):Int:=pz ps q.2.1-pz ps q.1
def keep (ps:List Int) (q:Wi):Bool:=decide (q.2.2.1<=diff ps q)
def InR (n:Nat) (q:Wi):Prop:=(0<=q.1/\q.1<n)/\0<=q.2.1/\q.2.1<n
def gz (ls:List Int) (p:Wi×Int):List Int:=(ls.set p.1.2.1.toNat (pz ls p.1.2.1+p.2)).set p.1.1.toNat (pz (ls.set p.1.2.1.toNat (pz ls p.1.2.1+p.2)) p.1.1-p.2)
def nI (n:Nat) (ws:List Wi) (am:List Int):List Int:=(ws.zip am).foldl gz (X8 n 0)
theorem NY (ls:List Int) (p:Wi×Int):(gz ls p).length=ls.length:=by
 unfold gz;rw[Vo,Vo]
theorem xX:∀ (ps:List (Wi×Int)) (ls:List Int),(ps.foldl gz ls).length=ls.length
 | [],_=>rfl
 | p::ps,ls=>by
  show(ps.foldl gz (gz ls p)).length=_;rw[xX ps,NY]
theorem QI (n:Nat) (ws:List Wi) (am:List Int):(nI n ws am).length=n:=by
 unfold nI;rw[xX,Vu]
theorem CB {ws:List Wi}{q:Wi}{x:Int} (h1:ws[i]?=B' q) (h2:am[i]?=B' x):(ws.zip am)[i]?=B' (q,x):=by
 rw[VB];exact⟨h1,h2⟩
theorem pO {x:V} (h:(am.map V.int)[i]?=B' x):∃ z,am[i]?=B' z/\x=.int z:=by
 obtain⟨z,hz,rfl⟩:=QbP.mp ((UJ (f:=V.int) (l:=am) (i:=i)).symm.trans h);exact⟨z,hz,O⟩
theorem Qfm {k:Int} (h0:0<=k) (h1:k<ls.length):(ls.map V.int)[k.toNat]?=B' (.int (pz ls k)):=by
 rw[<- iX h0];exact QiN h0 h1
theorem yf (n:Nat):(X8 n [V.int 0]).flatten=(X8 n (0:Int)).map V.int:=by
 induction n with
 | zero=>rfl
 | succ n ih=>
  rw[VR,Wh,ih,VR,Vb];rfl
section
variable {K:V'}
def Qki (K:V'):Sp:=fun vs H Q _=>∃ n l ws p am,vs=[.int n,.ref l,.ref p]/\mD K H l ws/\M' K H p ((am:List Int).map V.int)/\am.length=ws.length/\0<=n/\n<=1000/\(∀ q∈ws,InR n.toNat q) /\
 ∀ r H',af H H'->H r=C'->H' r=B' (.lst ((nI n.toNat ws am).map V.int))->Q (.ref r) H'
theorem Rb (T:Tx K mg a):YD P w K mg base Yj 1 "left_at_points" ["count","wishes","amounts"] [] (Qki K):=T.Qjf.Ym fun f fd F=>by
 refine F.ok x9 (fun vs H Q E h=>?_) (fun aD A outer s H vs Q E hr h=>?_)
 .obtain⟨n,l,ws,p,am,rfl,_⟩:=h
  rfl
 .obtain⟨n,l,ws,p,am,rfl,⟨xs,hl,hd⟩,hp,aw,n0,n1,Yp,k⟩:=h
  have dR:ws.length=xs.length:=by rw[<- hd.length,Us]
  refine⟨_,(aq (aQ (i:=3) x9.nd O (.inl O) (aH yo (bZ (ag ao aj)) (pv 0)))
   (aq (cV YS rfl (yc rfl T.Qcg (ag (pv 1) (ag (pv 2) aj))) (fe rfl (aM (aE (i:=4) x9.nd O (.inl O)) (aM (aE (i:=5) x9.nd O (.inl O)) cD))) (aq (pX (pv 3) (aG ff (pv 4) ao (fun _ _=>O)) pW (pv 5) vC qi)
   (ay (pX (pv 3) (aG ff (pv 4) ao (fun _ _=>O)) pW (pv 5) Iz qi))))
   (ay (bv (pv 3))))),?_⟩
  refine⟨(by show 1<=XX;decide),fun z nz=>⟨_,O,z,n,_,O,O,ai,by lia,by lia,(by rw[Uz];show 1*n.toNat<=_;lia),fun D nD=>?_⟩⟩;rw[yf];have s1:af H (upd (upd H z (.lst [V.int 0])) D (.lst ((X8 n.toNat (0:Int)).map V.int))):=(af.new nz).trans (af.new nD);have h1:upd (upd H z (.lst [V.int 0])) D (.lst ((X8 n.toNat (0:Int)).map V.int)) D=B' (.lst ((X8 n.toNat (0:Int)).map V.int)):=ai;have zo:H D=C':=by
   have:=nD;rw[ak (fun e=>by rw[e,ai] at this;cases this)] at this;exact this
  generalize upd (upd H z (.lst [V.int 0])) D (.lst ((X8 n.toNat (0:Int)).map V.int))=H1 at s1 h1 ⊢;have ex:xs.length=(am.map V.int).length:=by rw[Us,aw,dR]
  refine⟨_,O,_,O,l,p,O,⟨_,s1.YV hl⟩,⟨_,s1.YV hp⟩,JN (K:=K) (l1:=l) (l2:=p) (xs:=xs) (ys:=am.map V.int) ex (fun i σ H'=>∃ v4 v5,σ=[B' (.int n),B' (.ref l),B' (.ref p),B' (.ref D),v4,v5]/\af H H'/\H' D=B' (.lst ((((ws.zip am).take i).foldl gz (X8 n.toNat 0)).map V.int)))
   ⟨C',C',rfl,s1,h1⟩ ?_ ?_ ?_⟩
  .rintro i σ H' _ ⟨v4,v5,rfl,sm,_⟩
   exact⟨sm.YV hl,sm.YV hp⟩
  .rintro i x y t σ H' hx hy nt ⟨v4,v5,rfl,sm,hD⟩
   obtain⟨q,hq,dq⟩:=dU hd hx;obtain⟨c,rfl,hc⟩:=mf (sm.dt dq);obtain⟨y,cQ,rfl⟩:=pO hy;obtain⟨⟨i1,i2⟩,i3,i4⟩:=Yp q (UF hq);have s2:af H' (upd H' t (.tup [.ref c,.int y])):=af.new nt;have EN:upd H' t (.tup [.ref c,.int y]) t=B' (.tup [.ref c,.int y]):=ai;generalize upd H' t (.tup [.ref c,.int y])=H2 at s2 EN ⊢;have gD:=s2 _ _ hD;have jW:=s2.YJ hc;rw[bx (CB hq cQ),Vq];have zK:(((ws.zip am).take i).foldl gz (X8 n.toNat 0)).length=n.toNat:=by rw[xX,Vu]
   generalize ((ws.zip am).take i).foldl gz (X8 n.toNat 0)=ls at gD zK ⊢;have j3:q.2.1<(ls.length:Int):=by rw[zK];exact i4
   have j1:q.1<((ls.set q.2.1.toNat (pz ls q.2.1+y)).length:Int):=by rw[Vo,zK];exact i2
   refine⟨t,_,O,Ya.of EN,O,_,_,O,_,_,O,O,?_⟩;refine⟨_,O,_,O,c,_,_,_,O,O,jW,O,D,_,_,_,O,O,M'.of gD,i3,Qfm i3 j3,_,O,_,_,O,O,D,_,_,_,O,O,gD,nV i3 (by rw[Us];exact j3),?_⟩;rw[<- V7];have tk:Tk H2 (upd H2 D (.lst ((ls.set q.2.1.toNat (pz ls q.2.1+y)).map V.int))):=Tk.upd gD rfl;have h3:upd H2 D (.lst ((ls.set q.2.1.toNat (pz ls q.2.1+y)).map V.int)) D=B' (.lst ((ls.set q.2.1.toNat (pz ls q.2.1+y)).map V.int)):=ai;have o3:∀ b u,H b=B' u->upd H2 D (.lst ((ls.set q.2.1.toNat (pz ls q.2.1+y)).map V.int)) b=B' u:=fun b u e=>by
    rw[ak (av e zo)];exact s2 _ _ (sm b u e)
   generalize upd H2 D (.lst ((ls.set q.2.1.toNat (pz ls q.2.1+y)).map V.int))=H3 at tk h3 o3 ⊢;refine⟨_,O,_,O,c,_,_,_,O,O,tk.YJ jW,O,D,_,_,_,O,O,M'.of h3,i1,Qfm i1 j1,_,O,_,_,O,O,D,_,_,_,O,O,h3,nV i1 (by rw[Us];exact j1),?_⟩;rw[<- V7];refine⟨_,_,O,fun b u e=>?_,ai⟩;rw[ak (av e zo)];exact o3 b u e
  .rintro σ H' ⟨v4,v5,rfl,sm,hD⟩
   rw[Vd (by rw[VQ];lia)] at hD;exact⟨_,O,k D H' sm zo hD⟩
def Sk (K:V'):Sp:=fun vs H Q _=>∃ l ws,vs=[.ref l]/\mD K H l ws/\ws.length<=1000/\∀ r H',af H H'->H r=C'->H' r=B' (.lst ((ws.map fun q=>q.2.2.2).map V.int))->Q (.ref r) H'
theorem QN (T:Tx K mg a):YD P w K mg base Yj 1 "weights_of" ["wishes"] [] (Sk K):=T.Qje.Ym fun f fd F=>by
 refine F.ok R6 (fun vs H Q E h=>?_) (fun aD A outer s H vs Q E hr h=>?_)
 .obtain⟨l,ws,rfl,_⟩:=h
  rfl
 .obtain⟨l,ws,rfl,⟨xs,hl,hd⟩,hk,k⟩:=h
  have dR:ws.length=xs.length:=by rw[<- hd.length,Us]
  refine⟨_,(ay (bv (dF (N:=["one","other","least","weight"]) (cap:=[C',C',C',C']) O (cq (osc:=aF Cz) (XN:=["wishes"]) O O (by decide +kernel)) (bY (pv 0)) (fun cl C s H fp aa=>(jS (K:=K) (n:=4) O O (aM (aE (i:=0) (show(["one","other","least","weight"]:List K').Nodup by decide +kernel) rfl (.inl rfl)) (aM (aE (i:=1) (show(["one","other","least","weight"]:List K').Nodup by decide +kernel) rfl (.inl rfl)) (aM (aE (i:=2) (show(["one","other","least","weight"]:List K').Nodup by decide +kernel) rfl (.inl rfl)) (aM (aE (i:=3) (show(["one","other","least","weight"]:List K').Nodup by decide +kernel) rfl (.inl rfl)) cD)))))) (fun cl C s H fp aa=>dE) (fun cl C s H fp aa=>(pv 3))))),?_⟩;refine⟨_,O,l,O,⟨_,hl⟩,fun D hD=>?_⟩;refine fQ (K:=K) (a:=l) (xs:=xs) (fun i τ H'=>∃ v1 v2 v3 v4,τ=[v1,v2,v3,v4]/\af H H'/\H' D=B' (.lst (((ws.take i).map fun q=>q.2.2.2).map V.int))) ⟨C',C',C',C',O,af.new hD,ai⟩ ?_ ?_ ?_
  .rintro i τ H' _ ⟨v1,v2,v3,v4,rfl,sm,hy⟩
   exact sm.YV hl
  .rintro i x τ H' hx ⟨v1,v2,v3,v4,rfl,sm,hy⟩
   obtain⟨q,hq,dq⟩:=dU hd hx;obtain⟨t,rfl,h1⟩:=mf (sm.dt dq);refine⟨t,_,O,h1,O,_,_,O,_,_,O,_,_,O,_,_,O,O,?_⟩;dsimp only[dY];rw[XR rfl];refine⟨_,O,_,hy,?_,_,_,_,_,O,?_,?_⟩
   .rw[Us,Us,UH,Uz]
    lia
   .intro b u e
    rw[ak (av e hD)];exact sm b u e
   .rw[ai,bx hq,UC,UC]
    rfl
  .rintro τ H' ⟨v1,v2,v3,v4,rfl,sm,hy⟩
   rw[<- dR,UO] at hy;exact k D H' sm hD hy
end
theorem SH {α:Type}{b:α}{p:Prop} (e:([]:List α)[i]?=B' b):p:=by
 rw[List.getElem?_nil] at e;cases e
def wI (q:Wt):Wi:=((q.1:Nat),(q.2.1:Nat),q.2.2.1,q.2.2.2)
theorem Kx.lst {q b:F'}{G G':Hp}{C:F'}{dx:F'}{fs:List (K'×V)}{xs:List V} (k:Kx [q] G G') (hq:G q=B' (.ins C dx fs)) (h:G b=B' (.lst xs)):G' b=B' (.lst xs):=k _ _ h fun z=>by
 rw[XC.mp z,hq] at h;cases h
theorem Kx.sq {K:V'}{l:F'}{fs:List (K'×V)} (k:Kx [q] G G') (hq:G q=B' (.ins C dx fs)) (h:M' K G l xs):M' K G' l xs:=by
 have ne:∀ o,G l=B' o->(∀ C dx fs,o≠.ins C dx fs)->G' l=B' o:=fun o e n=>k _ _ e fun z=>by
  rw[XC.mp z,hq] at e;cases e
  exact n _ _ _ rfl
 rcases h with(h|⟨o,h⟩)|h
 .exact .inl (.inl (ne _ h fun _ _ _ z=>by cases z))
 .exact .inl (.inr ⟨o,ne _ h fun _ _ _ z=>by cases z⟩)
 .exact .inr h
theorem Kx.tk {fs:List (K'×V)} (k:Kx [q] G G') (hq:G q=B' (.ins C dx fs)):Tk G G':=fun b o e z=>k b o e fun y=>by
 rw[XC.mp y,hq] at e;cases e
 cases z
theorem Kx.none {q b:F'}{H G:Hp} (k:Kx [q] H G) (e:G b=C') (n:b≠q):H b=C':=by
 cases h:H b with
 | none=>rfl
 | some o=>
  rw[k b o h (by simp[n])] at e;cases e
def Ls (gs:List F') (f:Nat->List Nat) (G:Hp):Prop:=∀ i a,gs[i]?=B' a->G a=B' (.lst (nums (f i)))
theorem Ls.put {a:F'}{l:List Nat} (h:Ls gs f G) (nd:gs.Nodup) (e:gs[j]?=B' a):Ls gs (up f j l) (upd G a (.lst (nums l))):=fun i b eb=>by
 by_cases c:i=j
 .subst c
  rw[e] at eb;cases eb
  rw[ai,aY]
 .rw[aR _ _ c,ak (fun z=>c (by
   subst z;exact(W1 (Yi.mp eb).1 nd).mp (eb.trans e.symm)))]
  exact h i b eb
theorem Ls.keep {a:F'} (h:Ls gs f G) (n:a∉gs):Ls gs f (upd G a o):=fun i b eb=>by
 rw[ak (fun z=>n (by rw[<- z];exact UF eb))];exact h i b eb
def ZV (ws:List Wt) (k i:Nat):List Nat:=(YM k).filter fun n=>decide ((ws.getD n (0,0,0,0)).1=i)
def coK (ws:List Wt) (k i:Nat):List Nat:=(YM k).filter fun n=>decide ((ws.getD n (0,0,0,0)).2.1=i)
theorem Qn (ws:List Wt) (k:Nat):ZV ws (k+1)=up (ZV ws k) (ws.getD k (0,0,0,0)).1 (ZV ws k (ws.getD k (0,0,0,0)).1++[k]):=by
 funext i
 unfold ZV;rw[Wx,Vz];by_cases c:i=(ws.getD k (0,0,0,0)).1
 .rw[c,aY,UX,XR (UW rfl)]
  rfl
 .rw[aR _ _ c,UX,W' (fun z=>c (UM z).symm),We,Vc]
theorem SY (ws:List Wt) (k:Nat):coK ws (k+1)=up (coK ws k) (ws.getD k (0,0,0,0)).2.1 (coK ws k (ws.getD k (0,0,0,0)).2.1++[k]):=by
 funext i
 unfold coK;rw[Wx,Vz];by_cases c:i=(ws.getD k (0,0,0,0)).2.1
 .rw[c,aY,UX,XR (UW rfl)]
  rfl
 .rw[aR _ _ c,UX,W' (fun z=>c (UM z).symm),We,Vc]
theorem Sd (ws:List Wt) (k i:Nat):(ZV ws k i).length<=k:=by
 have:=U0 (fun n=>decide ((ws.getD n (0,0,0,0)).1=i)) (YM k);rw[U7] at this;exact this
theorem QK (ws:List Wt) (k i:Nat):(coK ws k i).length<=k:=by
 have:=U0 (fun n=>decide ((ws.getD n (0,0,0,0)).2.1=i)) (YM k);rw[U7] at this;exact this
theorem QW:bj "coming" (.ref r.c) (bj "going" (.ref r.g) (bj "needs" (.ref r.n) (bj "flow" (.ref r.f) (bj "places" (.ref r.p) (bj "leasts" (.ref r.l) (bj "others" (.ref r.t) (bj "ones" (.ref r.o) [])))))))=b9 r:=by
 kernel_rfl
theorem Cu {K:V'}{wA D:F'} (k:Int) (f:Wt->V) (hl:M' K H wA xs) (hd:aK K H ((ws.map wI).map wD) xs) (hw:ws.length<=1000) (hf:∀ w:Wt,YU [.int (w.1:Nat),.int (w.2.1:Nat),.int w.2.2.1,.int w.2.2.2] k=B' (f w)) (n:H D=C')
  (h:∀ G,af H G->G D=B' (.lst (ws.map f))->Q (.ref D) G):kJ (Itl K wA) D [C'] (upd H D (.lst [])) (bN 0) dY (tOp (Qdv K) (Qdq 0) (tC (.int k))) Q:=by
 have dR:ws.length=xs.length:=by rw[<- hd.length,Us,Us]
 refine fQ (K:=K) (a:=wA) (xs:=xs) (fun j τ G=>∃ v1,τ=[v1]/\af H G/\G D=B' (.lst ((ws.take j).map f))) ⟨C',rfl,af.new n,ai⟩ ?_ ?_ ?_
 .rintro j τ G _ ⟨v1,rfl,sg,_⟩
  exact sg.YV hl
 .rintro j x τ G hx ⟨v1,rfl,sg,hG⟩
  rw[Wo] at hd;obtain⟨w0,mH,dw⟩:=dU hd hx;obtain⟨t,rfl,ht⟩:=mf (sg.dt dw);dsimp only[bN,dY];rw[XR rfl];refine⟨_,O,t,_,_,_,O,O,ht,hf w0,_,hG,?_,_,O,c8 n sg,?_⟩
  .rw[Us,UH,Uz]
   lia
  .rw[ai,bx mH,UC]
   rfl
 rintro τ G ⟨v1,rfl,sg,y⟩
 rw[<- dR,UO] at y;exact h G sg y
theorem Ho {D:F'} (hc:c<=1000) (n:H D=C') (h:∀ G gs,af H G->G D=B' (.lst ((gs:List F').map V.ref))->gs.length=c->gs.Nodup->(∀ (i:Nat) (b:F'),gs[i]?=B' b->G b=B' (.lst [])/\H b=C'/\b≠D)->Q (.ref D) G):kJ (Itr 0 ((c:Nat):Int).toNat) D [C'] (upd H D (.lst [])) (bN 0) dY (Qb6 nW) Q:=by
 refine B7 (lo:=0) (n:=((c:Nat):Int).toNat) (fun j τ G=>∃ v1,∃ gs:List F',τ=[v1]/\af H G/\G D=B' (.lst (gs.map V.ref))/\gs.length=j/\gs.Nodup/\∀ i b,gs[i]?=B' b->G b=B' (.lst [])/\H b=C'/\b≠D) ⟨C',[],rfl,af.new n,ai,rfl,Wm,fun i b e=>SH e⟩ ?_ ?_
 .rintro j τ G hj ⟨v1,gs,rfl,sg,hG,gl,nd,m⟩
  rw[UD] at hj;dsimp only[bN,dY];rw[XR rfl];refine⟨(by show 0<=XX;decide),fun z nz=>?_⟩;have zD:z≠D:=fun e=>by rw[e,hG] at nz;cases nz
  refine⟨_,by rw[ak (XW zD)];exact hG,?_,_,gs++[z],O,c8 n (sg.trans (af.new nz)),?_,by rw[UB,gl];rfl,?_,fun i b e=>?_⟩
  .rw[Us,gl,Uz]
   lia
  .rw[ai,UC]
   rfl
  .refine Qeh.mpr ⟨nd,by simp,fun x hx y hy=>?_⟩
   rw[XC.mp hy];rintro rfl
   obtain⟨i,e⟩:=Qac.mp hx;rw[(m i x e).1] at nz;cases nz
  .rcases VF i gs.length with l|l
   .rw[W2 l] at e
    obtain⟨m1,m2,m3⟩:=m i b e;have bz:b≠z:=av m1 nz;exact⟨by rw[ak m3,ak bz];exact m1,m2,m3⟩
   .rw[Ws l] at e
    have e0:i-gs.length=0:=by
     have:=(Yi.mp e).1;rw[Wk] at this;lia
    rw[e0] at e;cases e
    exact⟨by rw[ak zD,ai],none_of sg nz,zD⟩
 rintro τ G ⟨v1,gs,rfl,sg,y,gl,nd,m⟩
 rw[UD] at gl;exact h G gs sg y gl nd m
section
variable {K:V'}
def Qkj (K:V') (C:F'):Sp:=fun vs H Q _=>∃ q dx wA ws,∃ c:Nat,vs=[.ref q,.int c,.ref wA]/\H q=B' (.ins C dx [])/\mD K H wA ((ws:List Wt).map wI)/\(∀ x∈ws,x.1<c/\x.2.1<c)/\ws.length<=1000/\c<=1000 /\
 ∀ r H',Kx [q] H H'->bR C H' q r ws c->H' r.p=B' (.lst ((X8 c (0:Int)).map V.int))->H' r.f=B' (.lst ((X8 ws.length (0:Int)).map V.int))->H' r.n=B' (.lst ((X8 c (0:Int)).map V.int))->H r.p=C'->H r.f=C'->H r.n=C'->Q .X1 H'
theorem QF (T:Tx K mg a):Qcb P w K mg base Yj 1 a.Layout "Layout" ["self","count","wishes"] (Qkj K a.Layout):=T.QdH.Ym fun f fd F=>by
 refine F.ok Cs (fun vs H Q E h=>?_) (fun aD A outer s H vs Q E hr h=>?_)
 .obtain⟨q,dx,wA,ws,c,rfl,_⟩:=h
  rfl
 .obtain⟨q,dx,wA,ws,c,rfl,q0,⟨xs,wM,AY⟩,Yp,hw,hc,k⟩:=h
  have dR:ws.length=xs.length:=by rw[<- AY.length,Us,Us]
  have rW:Kx [q] H H:=Kx.of (af.refl _);refine⟨_,(aq (gq (pv 0) (dF (N:=["wish"]) (cap:=[C']) O (cq (osc:=aF pQ) (XN:=["self","count","wishes","number","wish"]) O O (by decide +kernel)) (bY (pv 2)) (fun cl C s H fp aa=>(aE (i:=0) (show(["wish"]:List K').Nodup by decide +kernel) rfl (.inl rfl))) (fun cl C s H fp aa=>dE) (fun cl C s H fp aa=>(aG (jt (K:=K) O) (pv 0) ao (fun _ _=>O)))) O)
   (aq (gq (pv 0) (dF (N:=["wish"]) (cap:=[C']) O (cq (osc:=aF pQ) (XN:=["self","count","wishes","number","wish"]) O O (by decide +kernel)) (bY (pv 2)) (fun cl C s H fp aa=>(aE (i:=0) (show(["wish"]:List K').Nodup by decide +kernel) rfl (.inl rfl))) (fun cl C s H fp aa=>dE) (fun cl C s H fp aa=>(aG (jt (K:=K) O) (pv 0) ao (fun _ _=>O)))) O)
   (aq (gq (pv 0) (dF (N:=["wish"]) (cap:=[C']) O (cq (osc:=aF pQ) (XN:=["self","count","wishes","number","wish"]) O O (by decide +kernel)) (bY (pv 2)) (fun cl C s H fp aa=>(aE (i:=0) (show(["wish"]:List K').Nodup by decide +kernel) rfl (.inl rfl))) (fun cl C s H fp aa=>dE) (fun cl C s H fp aa=>(aG (jt (K:=K) O) (pv 0) ao (fun _ _=>O)))) O)
   (aq (gq (pv 0) (aH yo (bZ (ag ao aj)) (pv 1)) rfl)
   (aq (gq (pv 0) (aH yo (bZ (ag ao aj)) (bM fW rfl T.Zb dZ (ag (pv 2) aj))) rfl)
   (aq (gq (pv 0) (aH yo (bZ (ag ao aj)) (pv 1)) rfl)
   (aq (gq (pv 0) (dF (N:=["point"]) (cap:=[C']) O (cq (osc:=aF pQ) (XN:=["self","count","wishes","number","wish"]) O O (by decide +kernel)) (qo rfl T.Qa1 (ag (pv 1) aj)) (fun cl C s H fp aa=>(aE (i:=0) (show(["point"]:List K').Nodup by decide +kernel) rfl (.inl rfl))) (fun cl C s H fp aa=>dE) (fun cl C s H fp aa=>(bZ aj))) O)
   (aq (gq (pv 0) (dF (N:=["point"]) (cap:=[C']) O (cq (osc:=aF pQ) (XN:=["self","count","wishes","number","wish"]) O O (by decide +kernel)) (qo rfl T.Qa1 (ag (pv 1) aj)) (fun cl C s H fp aa=>(aE (i:=0) (show(["point"]:List K').Nodup by decide +kernel) rfl (.inl rfl))) (fun cl C s H fp aa=>dE) (fun cl C s H fp aa=>(bZ aj))) O)
   (ay (cV YS rfl (mz rfl T.Qas (ag (pv 2) aj)) (fe rfl (aM (aE (i:=3) Cs.nd O (.inl O)) (aM (aE (i:=4) Cs.nd O (.inl O)) cD))) (aq (bC (c7 YY Zl Zp ek (aG aT (bg (pv 0) O) (aG ff (pv 4) ao (fun _ _=>O)) (fun _ _=>O)) (ag (pv 3) aj)))
   (ay (bC (c7 YY Zl Zp ek (aG aT (bg (pv 0) rfl) (aG ff (pv 4) ao (fun _ _=>O)) (fun _ _=>O)) (ag (pv 3) aj))))))))))))))),?_⟩
  refine⟨_,O,wA,O,⟨_,wM⟩,fun oA n0=>?_⟩;refine Cu 0 (fun w:Wt=>V.int (w.1:Nat)) wM AY hw (fun _=>O) n0 fun G0 Fg y0=>?_
  refine⟨_,O,q,a.Layout,dx,_,O,Fg _ _ q0,T.Yl,T.Qbf,(by show 0<1000;decide),?_⟩;obtain⟨F1,e1⟩:∃ fs,fs=bj "ones" (.ref oA) []:=⟨_,O⟩;rw[<- e1];have l1:F1.length=1:=by
   rw[e1];rfl
  have q1:=ai (H:=G0) (a:=q) (o:=HO.ins a.Layout dx F1);have st0:Kx [q] H (upd G0 q (HO.ins a.Layout dx F1)):=(Kx.of Fg).trans (Kx.upd (by simp));have du:upd G0 q (HO.ins a.Layout dx F1) oA=B' (.lst (ws.map (fun w:Wt=>V.int (w.1:Nat)))):=by rw[ak (XW (av q0 n0))];exact y0
  generalize upd G0 q (HO.ins a.Layout dx F1)=H1 at q1 st0 du ⊢;have LY:Kx [q] H H1:=rW.trans st0;have cz:=st0.sq q0 wM;have sL:=(st0.tk q0).Yf (cf (fun _=>O) _) AY;refine⟨_,O,wA,O,⟨_,cz⟩,fun tA n1=>?_⟩;refine Cu 1 (fun w:Wt=>V.int (w.2.1:Nat)) cz sL hw (fun _=>O) n1 fun G1 Eb y1=>?_
  refine⟨_,O,q,a.Layout,dx,_,O,Eb _ _ q1,T.Yl,T.QbO,(by lia),?_⟩;obtain⟨F2,e2⟩:∃ fs,fs=bj "others" (.ref tA) F1:=⟨_,O⟩;rw[<- e2];have l2:F2.length=2:=by
   rw[e2,e1];rfl
  have q2:=ai (H:=G1) (a:=q) (o:=HO.ins a.Layout dx F2);have YR:Kx [q] H1 (upd G1 q (HO.ins a.Layout dx F2)):=(Kx.of Eb).trans (Kx.upd (by simp));have dJ:upd G1 q (HO.ins a.Layout dx F2) tA=B' (.lst (ws.map (fun w:Wt=>V.int (w.2.1:Nat)))):=by rw[ak (XW (av q1 n1))];exact y1
  generalize upd G1 q (HO.ins a.Layout dx F2)=H2 at q2 YR dJ ⊢;have ib:Kx [q] H H2:=LY.trans YR;have du:=YR.lst q1 du;have bH:=YR.sq q1 cz;have c9:=(YR.tk q1).Yf (cf (fun _=>O) _) sL;refine⟨_,O,wA,O,⟨_,bH⟩,fun lA n2=>?_⟩;refine Cu 2 (fun w:Wt=>V.int w.2.2.1) bH c9 hw (fun _=>O) n2 fun G2 Dv y2=>?_
  refine⟨_,O,q,a.Layout,dx,_,O,Dv _ _ q2,T.Yl,T.Qfb,(by lia),?_⟩;obtain⟨F3,e3⟩:∃ fs,fs=bj "leasts" (.ref lA) F2:=⟨_,O⟩;rw[<- e3];have l3:F3.length=3:=by
   rw[e3,e2,e1];rfl
  have q3:=ai (H:=G2) (a:=q) (o:=HO.ins a.Layout dx F3);have i7:Kx [q] H2 (upd G2 q (HO.ins a.Layout dx F3)):=(Kx.of Dv).trans (Kx.upd (by simp));have eJ:upd G2 q (HO.ins a.Layout dx F3) lA=B' (.lst (ws.map (fun w:Wt=>V.int w.2.2.1))):=by rw[ak (XW (av q2 n2))];exact y2
  generalize upd G2 q (HO.ins a.Layout dx F3)=H3 at q3 i7 eJ ⊢;have fq:Kx [q] H H3:=ib.trans i7;have du:=i7.lst q2 du;have dJ:=i7.lst q2 dJ;have oU:=i7.sq q2 bH;have iF:=(i7.tk q2).Yf (cf (fun _=>O) _) c9;refine⟨(by show 1<=XX;decide),fun z3 DI=>⟨_,O,z3,_,_,O,O,ai,by lia,by lia,(by rw[Uz];show 1*((c:Nat):Int).toNat<=_;lia),fun pA FG=>?_⟩⟩;rw[UD,yf];have mI:af H3 (upd (upd H3 z3 (.lst [V.int 0])) pA (.lst ((X8 c (0:Int)).map V.int))):=(af.new DI).trans (af.new FG);have y3:upd (upd H3 z3 (.lst [V.int 0])) pA (.lst ((X8 c (0:Int)).map V.int)) pA=B' (.lst ((X8 c (0:Int)).map V.int)):=ai;have n3:H3 pA=C':=none_of (af.new DI) FG;generalize upd (upd H3 z3 (.lst [V.int 0])) pA (.lst ((X8 c (0:Int)).map V.int))=G3 at mI y3 ⊢;have uN:=av q3 n3;have yE:=av du n3;have zY:=av dJ n3;have Aw:=av eJ n3;have Kt:H pA=C':=fq.none n3 (XW uN);refine⟨_,O,q,a.Layout,dx,_,O,mI _ _ q3,T.Yl,T.Qa0,(by lia),?_⟩;obtain⟨F4,e4⟩:∃ fs,fs=bj "places" (.ref pA) F3:=⟨_,O⟩;rw[<- e4];have l4:F4.length=4:=by
   rw[e4,e3,e2,e1];rfl
  have q4:=ai (H:=G3) (a:=q) (o:=HO.ins a.Layout dx F4);have jY:Kx [q] H3 (upd G3 q (HO.ins a.Layout dx F4)):=(Kx.of mI).trans (Kx.upd (by simp));have fZ:upd G3 q (HO.ins a.Layout dx F4) pA=B' (.lst ((X8 c (0:Int)).map V.int)):=by rw[ak (XW (av q3 n3))];exact y3
  generalize upd G3 q (HO.ins a.Layout dx F4)=H4 at q4 jY fZ ⊢;have fJ:Kx [q] H H4:=fq.trans jY;have du:=jY.lst q3 du;have dJ:=jY.lst q3 dJ;have eJ:=jY.lst q3 eJ;have EZ:=jY.sq q3 oU;have NC:=(jY.tk q3).Yf (cf (fun _=>O) _) iF;refine⟨(by show 1<=XX;decide),fun z4 Ad=>⟨_,O,wA,_,O,.inl ((af.new Ad).YV EZ),z4,_,_,O,O,ai,by lia,by lia,(by rw[Uz];show 1*((xs.length:Nat):Int).toNat<=_;lia),fun fA DP=>?_⟩⟩;rw[<- dR];rw[UD,yf];have zP:af H4 (upd (upd H4 z4 (.lst [V.int 0])) fA (.lst ((X8 ws.length (0:Int)).map V.int))):=(af.new Ad).trans (af.new DP);have y4:upd (upd H4 z4 (.lst [V.int 0])) fA (.lst ((X8 ws.length (0:Int)).map V.int)) fA=B' (.lst ((X8 ws.length (0:Int)).map V.int)):=ai;have n4:H4 fA=C':=none_of (af.new Ad) DP;generalize upd (upd H4 z4 (.lst [V.int 0])) fA (.lst ((X8 ws.length (0:Int)).map V.int))=G4 at zP y4 ⊢;have rZ:=av q4 n4;have zy:=av du n4;have Bu:=av dJ n4;have Bv:=av eJ n4;have yX:=av fZ n4;have so:H fA=C':=fJ.none n4 (XW rZ);refine⟨_,O,q,a.Layout,dx,_,O,zP _ _ q4,T.Yl,T.Qbe,(by lia),?_⟩;obtain⟨F5,e5⟩:∃ fs,fs=bj "flow" (.ref fA) F4:=⟨_,O⟩;rw[<- e5];have l5:F5.length=5:=by
   rw[e5,e4,e3,e2,e1];rfl
  have q5:=ai (H:=G4) (a:=q) (o:=HO.ins a.Layout dx F5);have mM:Kx [q] H4 (upd G4 q (HO.ins a.Layout dx F5)):=(Kx.of zP).trans (Kx.upd (by simp));have iM:upd G4 q (HO.ins a.Layout dx F5) fA=B' (.lst ((X8 ws.length (0:Int)).map V.int)):=by rw[ak (XW (av q4 n4))];exact y4
  generalize upd G4 q (HO.ins a.Layout dx F5)=H5 at q5 mM iM ⊢;have ja:Kx [q] H H5:=fJ.trans mM;have du:=mM.lst q4 du;have dJ:=mM.lst q4 dJ;have eJ:=mM.lst q4 eJ;have fZ:=mM.lst q4 fZ;have qH:=mM.sq q4 EZ;have qw:=(mM.tk q4).Yf (cf (fun _=>O) _) NC;refine⟨(by show 1<=XX;decide),fun z5 FB=>⟨_,O,z5,_,_,O,O,ai,by lia,by lia,(by rw[Uz];show 1*((c:Nat):Int).toNat<=_;lia),fun nA Dk=>?_⟩⟩;rw[UD,yf];have Bs:af H5 (upd (upd H5 z5 (.lst [V.int 0])) nA (.lst ((X8 c (0:Int)).map V.int))):=(af.new FB).trans (af.new Dk);have y5:upd (upd H5 z5 (.lst [V.int 0])) nA (.lst ((X8 c (0:Int)).map V.int)) nA=B' (.lst ((X8 c (0:Int)).map V.int)):=ai;have n5:H5 nA=C':=none_of (af.new FB) Dk;generalize upd (upd H5 z5 (.lst [V.int 0])) nA (.lst ((X8 c (0:Int)).map V.int))=G5 at Bs y5 ⊢;have sK:=av q5 n5;have yN:=av du n5;have AA:=av dJ n5;have AZ:=av eJ n5;have zu:=av fZ n5;have Bh:=av iM n5;have qK:H nA=C':=ja.none n5 (XW sK);refine⟨_,O,q,a.Layout,dx,_,O,Bs _ _ q5,T.Yl,T.QaG,(by lia),?_⟩;obtain⟨F6,e6⟩:∃ fs,fs=bj "needs" (.ref nA) F5:=⟨_,O⟩;rw[<- e6];have l6:F6.length=6:=by
   rw[e6,e5,e4,e3,e2,e1];rfl
  have q6:=ai (H:=G5) (a:=q) (o:=HO.ins a.Layout dx F6);have fE:Kx [q] H5 (upd G5 q (HO.ins a.Layout dx F6)):=(Kx.of Bs).trans (Kx.upd (by simp));have j8:upd G5 q (HO.ins a.Layout dx F6) nA=B' (.lst ((X8 c (0:Int)).map V.int)):=by rw[ak (XW (av q5 n5))];exact y5
  generalize upd G5 q (HO.ins a.Layout dx F6)=H6 at q6 fE j8 ⊢;have sW:Kx [q] H H6:=ja.trans fE;have du:=fE.lst q5 du;have dJ:=fE.lst q5 dJ;have eJ:=fE.lst q5 eJ;have fZ:=fE.lst q5 fZ;have iM:=fE.lst q5 iM;have LF:=fE.sq q5 qH;have qN:=(fE.tk q5).Yf (cf (fun _=>O) _) qw;refine⟨_,O,_,O,by lia,by lia,fun gA n6=>?_⟩;refine Ho hc n6 fun G6 bX uo y6 gl6 wx m6=>?_
  have Ny:=av q6 n6;have KJ:=av du n6;have NP:=av dJ n6;have Kg:=av eJ n6;have yC:=av fZ n6;have A4:=av iM n6;have yx:=av j8 n6;have Be:=fun i b (e:(bX:List F')[i]?=B' b)=>av q6 (m6 i b e).2.1
  have AM:=fun i b (e:(bX:List F')[i]?=B' b)=>av du (m6 i b e).2.1
  have Ba:=fun i b (e:(bX:List F')[i]?=B' b)=>av dJ (m6 i b e).2.1
  have yO:=fun i b (e:(bX:List F')[i]?=B' b)=>av eJ (m6 i b e).2.1
  have sY:=fun i b (e:(bX:List F')[i]?=B' b)=>av fZ (m6 i b e).2.1
  have uI:=fun i b (e:(bX:List F')[i]?=B' b)=>av iM (m6 i b e).2.1
  have uL:=fun i b (e:(bX:List F')[i]?=B' b)=>av j8 (m6 i b e).2.1
  have Ag:=fun i b (e:(bX:List F')[i]?=B' b)=>XW (m6 i b e).2.2
  refine⟨_,O,q,a.Layout,dx,_,O,uo _ _ q6,T.Yl,T.QdF,(by lia),?_⟩;obtain⟨F7,e7⟩:∃ fs,fs=bj "going" (.ref gA) F6:=⟨_,O⟩;rw[<- e7];have l7:F7.length=7:=by
   rw[e7,e6,e5,e4,e3,e2,e1];rfl
  have q7:=ai (H:=G6) (a:=q) (o:=HO.ins a.Layout dx F7);have j6:Kx [q] H6 (upd G6 q (HO.ins a.Layout dx F7)):=(Kx.of uo).trans (Kx.upd (by simp));have oE:upd G6 q (HO.ins a.Layout dx F7) gA=B' (.lst (bX.map V.ref)):=by rw[ak (XW (av q6 n6))];exact y6
  have z6:∀ i b,(bX:List F')[i]?=B' b->upd G6 q (HO.ins a.Layout dx F7) b=B' (.lst []):=fun i b e=>by rw[ak (fun z=>by rw[z] at e;exact X4 ((m6 i q e).2.1) (by rw[q6];exact fun y=>by cases y))];exact(m6 i b e).1
  generalize upd G6 q (HO.ins a.Layout dx F7)=H7 at q7 j6 oE z6 ⊢;have w5:Kx [q] H H7:=sW.trans j6;have du:=j6.lst q6 du;have dJ:=j6.lst q6 dJ;have eJ:=j6.lst q6 eJ;have fZ:=j6.lst q6 fZ;have iM:=j6.lst q6 iM;have j8:=j6.lst q6 j8;have FO:=j6.sq q6 LF;have LS:=(j6.tk q6).Yf (cf (fun _=>O) _) qN;refine⟨_,O,_,O,by lia,by lia,fun cA n7=>?_⟩;refine Ho hc n7 fun G7 cg Fz y7 JR MB m7=>?_
  have JY:=av q7 n7;have Ll:=av du n7;have Na:=av dJ n7;have JZ:=av eJ n7;have yD:=av fZ n7;have Ae:=av iM n7;have Bw:=av j8 n7;have M5:=av oE n7;have AG:=fun i b (e:(cg:List F')[i]?=B' b)=>av q7 (m7 i b e).2.1
  have zO:=fun i b (e:(cg:List F')[i]?=B' b)=>av du (m7 i b e).2.1
  have Af:=fun i b (e:(cg:List F')[i]?=B' b)=>av dJ (m7 i b e).2.1
  have zQ:=fun i b (e:(cg:List F')[i]?=B' b)=>av eJ (m7 i b e).2.1
  have uO:=fun i b (e:(cg:List F')[i]?=B' b)=>av fZ (m7 i b e).2.1
  have uf:=fun i b (e:(cg:List F')[i]?=B' b)=>av iM (m7 i b e).2.1
  have uy:=fun i b (e:(cg:List F')[i]?=B' b)=>av j8 (m7 i b e).2.1
  have zL:=fun i b (e:(cg:List F')[i]?=B' b)=>av oE (m7 i b e).2.1
  have AK:=fun i b (e:(cg:List F')[i]?=B' b)=>XW (m7 i b e).2.2
  have AS:=fun i b (e:(bX:List F')[i]?=B' b)=>XW (av (z6 i b e) n7)
  have Bc:∀ i b j b',(bX:List F')[i]?=B' b->(cg:List F')[j]?=B' b'->b≠b':=fun i b j b' e e'=>av (z6 i b e) (m7 j b' e').2.1
  refine⟨_,O,q,a.Layout,dx,_,O,Fz _ _ q7,T.Yl,T.QdE,(by lia),?_⟩;obtain⟨F8,e8⟩:∃ fs,fs=bj "coming" (.ref cA) F7:=⟨_,O⟩;rw[<- e8];have q8:=ai (H:=G7) (a:=q) (o:=HO.ins a.Layout dx F8);have jf:Kx [q] H7 (upd G7 q (HO.ins a.Layout dx F8)):=(Kx.of Fz).trans (Kx.upd (by simp));have Bj:upd G7 q (HO.ins a.Layout dx F8) cA=B' (.lst (cg.map V.ref)):=by rw[ak (XW (av q7 n7))];exact y7
  have z7:∀ i b,(cg:List F')[i]?=B' b->upd G7 q (HO.ins a.Layout dx F8) b=B' (.lst []):=fun i b e=>by rw[ak (fun z=>by rw[z] at e;exact X4 ((m7 i q e).2.1) (by rw[q7];exact fun y=>by cases y))];exact(m7 i b e).1
  generalize upd G7 q (HO.ins a.Layout dx F8)=H8 at q8 jf Bj z7 ⊢;have qI:Kx [q] H H8:=w5.trans jf;have du:=jf.lst q7 du;have dJ:=jf.lst q7 dJ;have eJ:=jf.lst q7 eJ;have fZ:=jf.lst q7 fZ;have iM:=jf.lst q7 iM;have j8:=jf.lst q7 j8;have oE:=jf.lst q7 oE;have NA:=jf.sq q7 FO;have Ey:=(jf.tk q7).Yf (cf (fun _=>O) _) LS;have z6:∀ i b,(bX:List F')[i]?=B' b->H8 b=B' (.lst []):=fun i b e=>jf.lst q7 (z6 i b e)
  have eF:F8=b9 ⟨oA,tA,lA,pA,fA,nA,gA,cA⟩:=by
   rw[e8,e7,e6,e5,e4,e3,e2,e1];exact QW (r:=⟨oA,tA,lA,pA,fA,nA,gA,cA⟩)
  rw[eF] at q8;have ie:∀ b∈bX++cg,q≠b/\oA≠b/\tA≠b/\lA≠b/\pA≠b/\fA≠b/\nA≠b/\gA≠b/\cA≠b:=fun b hb=>by
   rcases YK.mp hb with z|z
   .obtain⟨i,e⟩:=Qac.mp z
    exact⟨Be i b e,AM i b e,Ba i b e,yO i b e,sY i b e,uI i b e,uL i b e,Ag i b e,AS i b e⟩
   .obtain⟨i,e⟩:=Qac.mp z
    exact⟨AG i b e,zO i b e,Af i b e,zQ i b e,uO i b e,uf i b e,uy i b e,zL i b e,AK i b e⟩
  have fresh:∀ b∈bX++cg,H b=C'/\H8 b=B' (.lst []):=fun b hb=>by
   have nq:=(ie b hb).1;rcases YK.mp hb with z|z
   .obtain⟨i,e⟩:=Qac.mp z
    exact⟨sW.none (m6 i b e).2.1 (XW nq),z6 i b e⟩
   .obtain⟨i,e⟩:=Qac.mp z
    exact⟨w5.none (m7 i b e).2.1 (XW nq),z7 i b e⟩
  have sE:∀ b,(∀ c∈bX++cg,b≠c)->b∉bX++cg:=fun b h z=>h b z rfl
  have Lv:∀ G,Kx (bX++cg) H8 G->M' K G wA xs:=fun G kx=>by
   rcases wM with(h|⟨o,h⟩)|h
   .have e8:=qI _ _ h (by simp;rintro rfl;rw[q0] at h;cases h)
    exact .inl (.inl (kx _ _ e8 fun z=>by rw[(fresh _ z).1] at h;cases h))
   .have e8:=qI _ _ h (by simp;rintro rfl;rw[q0] at h;cases h)
    exact .inl (.inr ⟨o,kx _ _ e8 fun z=>by rw[(fresh _ z).1] at h;cases h⟩)
   .exact .inr h
  have sQ:∀ G,Kx (bX++cg) H8 G->Tk H8 G:=fun G kx b o z1 z2=>kx b o z1 fun y=>by
   rw[(fresh b y).2] at z1;cases z1
   cases z2
  have ES:∀ b,b∈bX->b∉cg:=fun b h1 h2=>by
   obtain⟨i,e⟩:=Qac.mp h1;obtain⟨j,e'⟩:=Qac.mp h2;exact Bc i b j b e e' rfl
  rw[Wo] at Ey;refine⟨_,O,wA,O,⟨_,NA⟩,qr (K:=K) (l:=wA) (xs:=xs) (fun i σ G=>∃ v3 v4,σ=[B' (.ref q),B' (.int (c:Nat)),B' (.ref wA),v3,v4]/\Kx (bX++cg) H8 G/\Ls bX (ZV ws i) G/\Ls cg (coK ws i) G)
   ⟨C',C',rfl,Kx.of (af.refl _),fun i b e=>z6 i b e,fun i b e=>z7 i b e⟩ ?_ ?_ ?_⟩
  .rintro i σ G _ ⟨_,_,rfl,kx,_⟩
   exact Lv G kx
  .rintro i x tt σ G hx nt ⟨v3,v4,rfl,kx,lg,lc⟩
   obtain⟨w0,mH,dw⟩:=dU Ey hx;obtain⟨t,rfl,ht⟩:=mf ((sQ G kx).dt O dw);obtain⟨i1,i2⟩:=Yp w0 (UF mH);have hi:i<ws.length:=(Yi.mp mH).1;have ew:ws.getD i (0,0,0,0)=w0:=by rw[Ux,mH];rfl
   obtain⟨ga,kZ⟩:=eY (l:=bX) (j:=w0.1) (by lia);obtain⟨ca,m9⟩:=eY (l:=cg) (j:=w0.2.1) (by lia);have Fw:ga∈bX:=UF kZ;have E3:ca∈cg:=UF m9;have AH:YU (bX.map V.ref) (w0.1:Int)=B' (.ref ga):=by rw[iX (by lia),UD,UJ,kZ];rfl
   have yZ:YU (cg.map V.ref) (w0.2.1:Int)=B' (.ref ca):=by rw[iX (by lia),UD,UJ,m9];rfl
   have s3:af G (upd G tt (.tup [.int i,.ref t])):=af.new nt;have h3:upd G tt (.tup [.int i,.ref t]) tt=B' (.tup [.int i,.ref t]):=ai;have sv:Ls bX (ZV ws i) (upd G tt (.tup [.int i,.ref t])):=fun j b e=>s3 _ _ (lg j b e)
   have DJ:Ls cg (coK ws i) (upd G tt (.tup [.int i,.ref t])):=fun j b e=>s3 _ _ (lc j b e)
   generalize upd G tt (.tup [.int i,.ref t])=G3 at s3 h3 sv DJ ⊢;have fq:Kx (bX++cg) H8 G3:=kx.trans (Kx.of s3);have q3:G3 q=_:=fq _ _ q8 (sE _ fun b hb=>(ie b hb).1);have g3:G3 gA=_:=fq _ _ oE (sE _ fun b hb=>(ie b hb).2.2.2.2.2.2.2.1);have gl:=Sd ws i w0.1;have cl:=QK ws i w0.2.1;refine⟨tt,_,O,Ya.of h3,O,_,_,O,_,_,O,O,?_⟩;refine⟨_,O,q,a.Layout,dx,_,_,O,q3,T.Yl,T.QdF,FW,_,O,t,_,_,_,O,O,s3.YJ ht,O,gA,_,_,_,O,O,M'.of g3,AH,.inl ⟨O,_,M'.of (sv _ _ kZ)⟩,_,O,ga,_,_,O,O,sv _ _ kZ,?_,?_⟩
   .unfold nums
    rw[Us,Uz];lia
   have en:nums (ZV ws i w0.1)++[V.int (i:Nat)]=nums (ZV ws i w0.1++[i]):=by
    unfold nums;rw[UC];rfl
   rw[en];have fJ:Kx (bX++cg) H8 (upd G3 ga (.lst (nums (ZV ws i w0.1++[i])))):=fq.trans (Kx.upd (UZ _ Fw));have DQ:Ls bX (ZV ws (i+1)) (upd G3 ga (.lst (nums (ZV ws i w0.1++[i])))):=by
    rw[Qn,ew];exact sv.put wx kZ
   have wG:Ls cg (coK ws i) (upd G3 ga (.lst (nums (ZV ws i w0.1++[i])))):=DJ.keep (ES ga Fw);have mF:Tk G3 (upd G3 ga (.lst (nums (ZV ws i w0.1++[i])))):=Tk.upd (sv _ _ kZ) rfl;generalize upd G3 ga (.lst (nums (ZV ws i w0.1++[i])))=G4 at fJ DQ wG mF ⊢;have q4:G4 q=_:=fJ _ _ q8 (sE _ fun b hb=>(ie b hb).1);have c4:G4 cA=_:=fJ _ _ Bj (sE _ fun b hb=>(ie b hb).2.2.2.2.2.2.2.2);refine⟨_,O,q,a.Layout,dx,_,_,O,q4,T.Yl,T.QdE,Hu,_,O,t,_,_,_,O,O,mF.YJ (s3.YJ ht),O,cA,_,_,_,O,O,M'.of c4,yZ,.inl ⟨O,_,M'.of (wG _ _ m9)⟩,_,O,ca,_,_,O,O,wG _ _ m9,?_,?_⟩
   .unfold nums
    rw[Us,Uz];lia
   have en:nums (coK ws i w0.2.1)++[V.int (i:Nat)]=nums (coK ws i w0.2.1++[i]):=by
    unfold nums;rw[UC];rfl
   rw[en];refine⟨_,_,O,fJ.trans (Kx.upd (UG _ E3)),DQ.keep (fun z=>ES ca z E3),?_⟩;rw[SY,ew];exact wG.put MB m9
  .rintro σ G ⟨v3,v4,rfl,kx,lg,lc⟩
   rw[<- dR] at lg lc;have at_:∀ b o,H8 b=B' o->(∀ d∈bX++cg,b≠d)->G b=B' o:=fun b o e n=>kx b o e (sE b n)
   refine k ⟨oA,tA,lA,pA,fA,nA,gA,cA⟩ G (fun b o e z=>?_) ?_ (at_ _ _ fZ fun d hd=>(ie d hd).2.2.2.2.1) (at_ _ _ iM fun d hd=>(ie d hd).2.2.2.2.2.1) (at_ _ _ j8 fun d hd=>(ie d hd).2.2.2.2.2.2.1) Kt so qK
   .exact kx _ _ (qI b o e z) fun y=>by
     rw[(fresh b y).1] at e;cases e
   .exact⟨⟨dx,at_ _ _ q8 fun d hd=>(ie d hd).1⟩,at_ _ _ du fun d hd=>(ie d hd).2.1,at_ _ _ dJ fun d hd=>(ie d hd).2.2.1,at_ _ _ eJ fun d hd=>(ie d hd).2.2.2.1,
     ⟨bX,at_ _ _ oE fun d hd=>(ie d hd).2.2.2.2.2.2.2.1,gl6,fun i b e=>⟨lg i b e,XW (sY i b e),XW (uI i b e),XW (uL i b e)⟩⟩,
     ⟨cg,at_ _ _ Bj fun d hd=>(ie d hd).2.2.2.2.2.2.2.2,JR,fun i b e=>⟨lc i b e,XW (uO i b e),XW (uf i b e),XW (uy i b e)⟩⟩,
     ⟨yE,zy,yN⟩,⟨zY,Bu,AA⟩,⟨Aw,Bv,AZ⟩,⟨XW yC,XW A4,XW yx⟩,⟨XW yD,XW Ae,XW Bw⟩,⟨uN,rZ,sK⟩,yX,zu,Bh⟩
end
def Z2:List Int->Int
 | []=>0
 | x::r=>max x (Z2 r)
theorem C6:∀ (l:List Int),0<=Z2 l/\∀ x∈l,x<=Z2 l
 | []=>⟨VA _,fun x h=>by cases h⟩
 | y::r=>by
  obtain⟨h1,h2⟩:=C6 r;have e:Z2 (y::r)=max y (Z2 r):=rfl;rw[e];refine⟨by lia,fun x hx=>?_⟩;rcases U1.mp hx with z|z
  .rw[z]
   lia
  .have:=h2 x z
   lia
theorem xV {m:Int}:∀ (l:List Int),0<=m->(∀ x∈l,x<=m)->Z2 l<=m
 | [],h,_=>h
 | y::r,h,hx=>by
  have h1:=xV r h fun x z=>hx x (UI _ z)
  have h2:=hx y UQ;have e:Z2 (y::r)=max y (Z2 r):=rfl;rw[e];lia
def pw:Nat->List Int
 | 0=>[1]
 | m+1=>16 ^ (m+1)::pw m
theorem xE:∀ m,(pw m).length=m+1
 | 0=>rfl
 | m+1=>by
  show(pw m).length+1=_;rw[xE m]
theorem Rz:∀ m,∃ r,pw m=(16:Int) ^ m::r
 | 0=>⟨[],O⟩
 | m+1=>⟨pw m,O⟩
def Qfn (mx:Int) (m:Nat):Prop:=(∀ i,i<m->(16:Int) ^ i*16<=mx)/\¬ (16:Int) ^ m*16<=mx
theorem HF (m:Nat):(0:Int)<16 ^ m:=Int.pow_pos (by decide)
theorem qX (m:Nat):(16:Int) ^ (m+1)=16 ^ m*16:=Int.pow_succ _ _
section
variable {K:V'}
def Qkk (K:V'):Sp:=fun vs H Q _=>∃ l wt,vs=[.ref l]/\M' K H l ((wt:List Int).map V.int)/\(∀ x∈wt,0<=x/\x<2 ^ 61)/\∀ m g H',af H H'->H g=C'->H' g=B' (.lst ((pw m).map V.int))->Qfn (Z2 wt) m->m<=100->Q (.ref g) H'
theorem PH (T:Tx K mg a):YD P w K mg base Yj 1 "figure_worths" ["weights"] [] (Qkk K):=T.Qjq.Ym fun f fd F=>by
 refine F.ok IA (fun vs H Q E h=>?_) (fun aD A outer s H vs Q E hr h=>?_)
 .obtain⟨l,wt,rfl,_⟩:=h
  rfl
 .obtain⟨l,wt,rfl,hl,hw,k⟩:=h
  obtain⟨TD,Kf⟩:=C6 wt;have Ui:Z2 wt<2 ^ 61:=by
   have:=xV (m:=2 ^ 61-1) wt (by decide) fun x hx=>by
    have:=(hw x hx).2;lia
   lia
  refine⟨_,(aq (aQ (i:=1) IA.nd O (.inl O) (bZ (ag ao aj)))
   (aq (rQ YS (bG QeR (aH qZ (aG aT (pv 1) ao (fun _ _=>O)) (iZ O T.QcE)) (SV O T.Qfe (ag (pv 0) aj)) (bB _)) (ay (bC (c7 YY Qej QfJ GT (pv 1) (ag ao (ag (aH qZ (aG aT (pv 1) ao (fun _ _=>O)) (iZ O T.QcE)) aj))))))
   (ay (bv (pv 1))))),?_⟩
  refine⟨(by show 1<=XX;decide),fun g ng=>?_⟩;have s1:af H (upd H g (.lst [V.int 1])):=af.new ng;have h1:upd H g (.lst [V.int 1]) g=B' (.lst ((pw 0).map V.int)):=ai;generalize upd H g (.lst [V.int 1])=H1 at s1 h1 ⊢;refine⟨fun m σ G=>∃ j:Nat,m=(2 ^ 62-(16:Int) ^ j).toNat/\σ=[B' (.ref l),B' (.ref g)]/\af H G/\G g=B' (.lst ((pw j).map V.int))/\(∀ i,i<j->(16:Int) ^ i*16<=Z2 wt)/\(16:Int) ^ j<2 ^ 62/\j<=100,
   ⟨_,0,rfl,rfl,s1,h1,fun i hi=>X4 hi (Vy _),by decide,by decide⟩,?_⟩
  rintro m σ G ⟨j,rfl,rfl,sg,hg,all,Ub,j1⟩
  obtain⟨rr,er⟩:=Rz j;have jp:=HF j;have at1:YU ((pw j).map V.int) 0=B' (.int ((16:Int) ^ j)):=by rw[er];exact at0
  refine⟨_,O,g,_,_,_,O,O,M'.of hg,at1,_,_,O,O,.inr ⟨by decide,by decide⟩,_,O,l,wt,O,sg.YV hl,fun e0=>?_,fun mx hm i8=>?_⟩
  ·-- no weight at all
   subst e0;refine⟨_,_,O,O,_,O,bo (fun c=>?_) (fun c=>?_)⟩
   .have:=UM c
    have TH:(0:Int)<16 ^ j*16:=by lia
    lia
   .exact⟨_,O,k j g G sg ng hg ⟨all,U2 c⟩ j1⟩
  .have em:mx=Z2 wt:=by
    have a1:=Kf mx hm;have a2:=xV wt (hw mx hm).1 i8;lia
   subst em;refine⟨_,_,O,O,_,O,bo (fun c=>?_) (fun c=>?_)⟩
   .have c1:(16:Int) ^ j*16<=Z2 wt:=UM c
    have jl:j+1<=100:=by
     rcases VF j 100 with z|z
     .exact z
     .exfalso
      have e1:(16:Int) ^ 100<=16 ^ j:=by
       have h:=WO (n:=16) (by decide) z
       exact_mod_cast h
      have e2:(2:Int) ^ 62<=16 ^ 100:=by decide +kernel
      lia
    have l1:=xE j;refine⟨_,fun σ' H' h=>h,?_⟩;refine⟨_,O,.inl ⟨O,_,M'.of hg⟩,_,O,g,_,_,_,O,O,M'.of hg,at1,_,_,O,O,.inr ⟨by decide,by decide⟩,g,_,0,_,O,O,hg,by lia,by lia,?_,?_⟩
    .rw[Us,l1,Uz]
     lia
    .have e3:(16:Int) ^ (j+1)<2 ^ 62:=by rw[qX];lia
     refine⟨(2 ^ 62-(16:Int) ^ (j+1)).toNat,by rw[qX] at e3 ⊢;lia,j+1,O,O,c8 ng sg,?_,fun i hi=>?_,e3,jl⟩
     .rw[ai]
      show B' (HO.lst (V.int ((16:Int) ^ j*16)::(pw j).map V.int))=B' (HO.lst (V.int ((16:Int) ^ (j+1))::(pw j).map V.int));rw[qX]
     .rcases VF i j with z|z
      .exact all i z
      .rw[show i=j by lia]
       exact c1
   .exact⟨_,O,k j g G sg ng hg ⟨all,U2 c⟩ j1⟩
end
def Zk (p:List Nat) (x:Wt):List Nat:=p.map fun y=>if y=p.getD x.2.1 0 then p.getD x.1 0 else y
def Z3 (ws:List Wt) (c:Nat):List Nat:=ws.foldl Zk (YM c)
theorem IF (p:List Nat) (x:Wt):(Zk p x).length=p.length:=by
 unfold Zk;rw[Us]
theorem xq:∀ (ws:List Wt) (p:List Nat),(ws.foldl Zk p).length=p.length
 | [],_=>rfl
 | x::ws,p=>by
  show(ws.foldl Zk (Zk p x)).length=_;rw[xq ws,IF]
theorem xM {x:Wt} (h:i<p.length):(Zk p x).getD i 0=if p.getD i 0=p.getD x.2.1 0 then p.getD x.1 0 else p.getD i 0:=by
 unfold Zk;rw[Ux,UJ,Uy h];show(if p[i]=p.getD x.2.1 0 then p.getD x.1 0 else p[i])=_;have e:p.getD i 0=p[i]:=by rw[Ux,Uy h];rfl
 rw[e]
theorem IQ (c:Nat):∀ (ws:List Wt) (p:List Nat),p.length=c->(∀ x∈ws,x.1<c/\x.2.1<c)->(∀ i j,i<c->j<c->p.getD i 0=p.getD j 0->(ws.foldl Zk p).getD i 0=(ws.foldl Zk p).getD j 0)/\∀ x∈ws,(ws.foldl Zk p).getD x.1 0=(ws.foldl Zk p).getD x.2.1 0
 | [],p,_,_=>⟨fun i j _ _ h=>h,fun x hx=>by cases hx⟩
 | y::ws,p,hp,Yp=>by
  have l1:=IF p y;obtain⟨h1,h2⟩:=IQ c ws (Zk p y) (by lia) fun x hx=>Yp x (UI _ hx)
  obtain⟨y1,y2⟩:=Yp y UQ;have st:∀ i j,i<c->j<c->p.getD i 0=p.getD j 0->(Zk p y).getD i 0=(Zk p y).getD j 0:=fun i j hi hj e=>by
   rw[xM (by lia),xM (by lia),e]
  refine⟨fun i j hi hj e=>h1 i j hi hj (st i j hi hj e),fun x hx=>?_⟩;rcases U1.mp hx with z|z
  .subst z
   refine h1 _ _ y1 y2 ?_;rw[xM (by lia),xM (by lia),XR (show p.getD x.2.1 0=p.getD x.2.1 0 from rfl)];split
   .rfl
   .rfl
  .exact h2 x z
def Z4 (s:XZ) (x:Int×Nat):XZ:=aO s (XY ((x.2:Nat):Int)) (.int (min x.1 ((gI s x.2).getD x.1)))
def lsF (pl:List Int) (pt:List Nat):XZ:=(pl.zip pt).foldl Z4 []
theorem HR {s:XZ} (x:Int×Nat) (h:Wf s):Wf (Z4 s x)/\(Z4 s x).length<=s.length+1/\gI (Z4 s x)=up (gI s) x.2 (B' (min x.1 ((gI s x.2).getD x.1))):=⟨h.put _ _,rE _ _ _,jj _ _ _⟩
theorem BV:∀ (l:List (Int×Nat)){s:XZ},Wf s->Wf (l.foldl Z4 s)/\(l.foldl Z4 s).length<=s.length+l.length
 | [],_,h=>⟨h,Uv _⟩
 | x::l,s,h=>by
  obtain⟨h1,h2,_⟩:=HR x h;obtain⟨h3,h4⟩:=BV l h1;refine⟨h3,U5 h4 ?_⟩;rw[UR];lia
def QdR (l:List (Int×Nat)) (s:XZ):Prop:=(∀ x∈l,∃ m,gI s x.2=B' m/\m<=x.1)/\∀ v m,gI s v=B' m->∃ x∈l,x.2=v/\x.1=m
theorem IP:∀ (l l0:List (Int×Nat)){s:XZ},Wf s->QdR l0 s->QdR (l0++l) (l.foldl Z4 s)
 | [],l0,_,_,h=>by rw[Vc];exact h
 | x::l,l0,s,wf,h=>by
  obtain⟨w1,_,w3⟩:=HR x wf;have e:l0++x::l=(l0++[x])++l:=by rw[Vp];rfl
  rw[e];refine IP l (l0++[x]) w1 ⟨fun y hy=>?_,fun v m hv=>?_⟩
  .rw[w3]
   by_cases c:y.2=x.2
   .rw[c,aY]
    refine⟨_,O,?_⟩;rcases YK.mp hy with z|z
    .obtain⟨m,e1,e2⟩:=h.1 y z
     rw[c] at e1;rw[e1];show min x.1 m<=y.1;lia
    .rw[XC.mp z]
     lia
   .rw[aR _ _ c]
    rcases YK.mp hy with z|z
    .exact h.1 y z
    .rw[XC.mp z] at c
     exact X4 O c
  .rw[w3] at hv
   by_cases c:v=x.2
   .rw[c,aY] at hv
    have hv:=YB hv;cases eg:gI s x.2 with
    | none=>
     rw[eg] at hv;have hv:min x.1 x.1=m:=hv;exact⟨x,UG _ (XC.mpr O),c.symm,by lia⟩
    | some b=>
     rw[eg] at hv;have hv:min x.1 b=m:=hv;by_cases c2:x.1<=b
     .exact⟨x,UG _ (XC.mpr O),c.symm,by lia⟩
     .obtain⟨y,y1,y2,y3⟩:=h.2 x.2 b eg
      exact⟨y,UZ _ y1,by rw[y2,c],by lia⟩
   .rw[aR _ _ c] at hv
    obtain⟨y,y1,y2⟩:=h.2 v m hv;exact⟨y,UZ _ y1,y2⟩
def Z5 (pl:List Int) (pt:List Nat):List Int:=(pl.zip pt).map fun x=>x.1-(gI (lsF pl pt) x.2).getD 0
theorem IJ (pl:List Int) (pt:List Nat):QdR (pl.zip pt) (lsF pl pt):=by
 have:=IP (pl.zip pt) [] (s:=[]) (fun p hp=>by cases hp) ⟨fun x hx=>(by cases hx),fun v m e=>by cases e⟩;rw[Qgy] at this;exact this
theorem SN {pl:List Int}{pt:List Nat} (h:pl.length=pt.length):(Z5 pl pt).length=pl.length:=by
 unfold Z5;rw[Us,VQ];lia
theorem yd {pl:List Int}{pt:List Nat} (h:pl.length=pt.length) (hi:i<pl.length):fn (Z5 pl pt) i=fn pl i-(gI (lsF pl pt) (pt.getD i 0)).getD 0:=by
 unfold fn Z5;have e1:pl[i]?=B' pl[i]:=Uy hi;have e2:pt[i]?=B' (pt[i]'(by lia)):=Uy (by lia);have e3:(pl.zip pt)[i]?=B' (pl[i],pt[i]'(by lia)):=by
  rw[VB];exact⟨e1,e2⟩
 rw[Ux,UJ,e3,Ux,Ux,e1,e2];rfl
theorem NU {pl:List Int}{pt:List Nat} (h:pl.length=pt.length) (hi:i<pl.length):0<=fn (Z5 pl pt) i/\∃ j,j<pl.length/\pt.getD j 0=pt.getD i 0/\fn (Z5 pl pt) j=0:=by
 obtain⟨h1,h2⟩:=IJ pl pt;have mem:∀ k,k<pl.length->(fn pl k,pt.getD k 0)∈pl.zip pt:=fun k hk=>by
  refine UF (i:=k) ?_;rw[VB,Uy hk,Uy (show k<pt.length by lia)];unfold fn;rw[Ux,Ux,Uy hk,Uy (show k<pt.length by lia)];exact⟨O,O⟩
 obtain⟨m,e1,e2⟩:=h1 _ (mem i hi);have e1:gI (lsF pl pt) (pt.getD i 0)=B' m:=e1;have e2:m<=fn pl i:=e2;rw[yd h hi,e1];refine⟨by show 0<=fn pl i-m;lia,?_⟩;obtain⟨x,x1,x2,x3⟩:=h2 _ m e1;obtain⟨j,ej⟩:=Qac.mp x1;rw[VB] at ej;obtain⟨j1,j2⟩:=ej;have jl:j<pl.length:=(Yi.mp j1).1;have k1:fn pl j=x.1:=by unfold fn;rw[Ux,j1];rfl
 have k2:pt.getD j 0=x.2:=by rw[Ux,j2];rfl
 refine⟨j,jl,by rw[k2,x2],?_⟩;rw[yd h jl,k1,k2,x2,e1];show x.1-m=0;lia
theorem SX {pl:List Int}{pt:List Nat} (h:pl.length=pt.length) (hi:i<pl.length) (hj:j<pl.length) (e:pt.getD i 0=pt.getD j 0):fn (Z5 pl pt) j-fn (Z5 pl pt) i=fn pl j-fn pl i:=by
 rw[yd h hi,yd h hj,e];lia
theorem GN (h:i<p.length):YU (nums p) (i:Int)=B' (.int (p.getD i 0:Nat)):=by
 unfold nums;rw[iX (by lia),UD,UJ,Uy h,Ux,Uy h];rfl
section
variable {K:V'}
def RP (K:V'):Sp:=fun vs H Q _=>∃ l ws,∃ c:Nat,vs=[.int c,.ref l]/\mD K H l ((ws:List Wt).map wI)/\(∀ x∈ws,x.1<c/\x.2.1<c)/\c<=1000/\∀ g H',af H H'->H g=C'->H' g=B' (.lst (nums (Z3 ws c)))->Q (.ref g) H'
theorem Ou (T:Tx K mg a):YD P w K mg base Yj 1 "parts_of" ["count","wishes"] [] (RP K):=T.Qjo.Ym fun f fd F=>by
 refine F.ok qQ (fun vs H Q E h=>?_) (fun aD A outer s H vs Q E hr h=>?_)
 .obtain⟨l,ws,c,rfl,_⟩:=h
  rfl
 .obtain⟨l,ws,c,rfl,⟨xs,hl,hd⟩,Yp,hc,k⟩:=h
  have dR:ws.length=xs.length:=by rw[<- hd.length,Us,Us]
  rw[Wo] at hd;refine⟨_,(aq (aQ (i:=2) qQ.nd O (.inl O) (Qy O T.Qcf O T.Qa1 (ag (pv 0) aj)))
   (aq (cV YS rfl (bY (pv 1)) (aE (i:=3) qQ.nd O (.inl O)) (aq (aQ (i:=4) qQ.nd O (.inr O) (aG aT (pv 2) (aG ff (pv 3) ao (fun _ _=>O)) (fun _ _=>O)))
   (aq (aQ (i:=5) qQ.nd O (.inr O) (aG aT (pv 2) (aG ff (pv 3) ao (fun _ _=>O)) (fun _ _=>O)))
   (ay (pR (i:=2) qQ.nd O O (N:=["part","new","old"]) (cap:=[C',B' 5,B' 4]) O (cq (osc:=aF BO) (XN:=["count","wishes","parts","wish","old","new"]) O O (by decide +kernel)) (bY (pv 2)) (fun cl C s H fp aa=>(aE (i:=0) (show(["part","new","old"]:List K').Nodup by decide +kernel) rfl (.inl rfl))) (fun cl C s H fp aa=>dE) (fun cl C s H fp aa=>(CN (bG mE (pv 0) (pv 2) (bB _)) (pv 1) (pv 0))) (hsw:=O))))))
   (ay (bv (pv 2))))),?_⟩
  refine⟨_,O,c,O,by lia,fun g ng=>?_⟩;have s1:af H (upd H g (.lst (rng c))):=af.new ng;have h1:upd H g (.lst (rng c)) g=B' (.lst (nums (YM c))):=ai;generalize upd H g (.lst (rng c))=H1 at s1 h1 ⊢;refine⟨_,O,l,O,⟨_,s1.YV hl⟩,jr (K:=K) (a:=l) (xs:=xs) (fun i σ G=>∃ g v3 v4 v5,σ=[B' (.int (c:Nat)),B' (.ref l),B' (.ref g),v3,v4,v5]/\af H G/\H g=C'/\G g=B' (.lst (nums ((ws.take i).foldl Zk (YM c)))))
   ⟨g,C',C',C',rfl,s1,ng,h1⟩ ?_ ?_ ?_⟩
  .rintro i σ G _ ⟨g,_,_,_,rfl,sg,_⟩
   exact sg.YV hl
  .rintro i x σ G hx ⟨g,v3,v4,v5,rfl,sg,ng,hG⟩
   obtain⟨w0,mH,dw⟩:=dU hd hx;obtain⟨t,rfl,ht⟩:=mf (sg.dt dw);obtain⟨i1,i2⟩:=Yp w0 (UF mH);have pl:=xq (ws.take i) (YM c);rw[U7] at pl;have fo:(ws.take (i+1)).foldl Zk (YM c)=Zk ((ws.take i).foldl Zk (YM c)) w0:=by rw[bx mH,Vq];rfl
   rw[fo];generalize (ws.take i).foldl Zk (YM c)=now at hG pl ⊢;dsimp only[bN];refine⟨_,O,_,O,t,_,_,_,O,O,ht,O,g,_,_,_,O,O,M'.of hG,GN (by lia),?_⟩;refine⟨_,O,_,O,t,_,_,_,O,O,ht,O,g,_,_,_,O,O,M'.of hG,GN (by lia),?_⟩;refine⟨_,O,g,O,⟨_,M'.of hG⟩,fun D hD=>?_⟩;refine fQ (K:=K) (a:=g) (xs:=nums now) (fun j τ G'=>∃ v1,τ=[v1,B' (.int (now.getD w0.1 0:Nat)),B' (.int (now.getD w0.2.1 0:Nat))]/\af G G'/\G' D=B' (.lst (nums ((now.take j).map fun y=>if y=now.getD w0.2.1 0 then now.getD w0.1 0 else y)))) ⟨C',O,af.new hD,ai⟩ ?_ ?_ ?_
   .rintro j τ G' _ ⟨v1,rfl,ip,_⟩
    exact M'.of (ip _ _ hG)
   .rintro j y τ G' hy ⟨v1,rfl,ip,cQ⟩
    obtain⟨n,hn,rfl⟩:=vT hy;dsimp only[bN,dY];rw[XR rfl];have ln:(nums ((now.take j).map fun y=>if y=now.getD w0.2.1 0 then now.getD w0.1 0 else y)).length<XX:=by
     unfold nums;rw[Us,Us,UH,Uz];lia
    have DC:∀ m:Nat,m=(if n=now.getD w0.2.1 0 then now.getD w0.1 0 else n)->nums ((now.take j).map fun y=>if y=now.getD w0.2.1 0 then now.getD w0.1 0 else y)++[V.int (m:Nat)]=nums ((now.take (j+1)).map fun y=>if y=now.getD w0.2.1 0 then now.getD w0.1 0 else y):=fun m em=>by
     rw[bx hn,UC,em];unfold nums;rw[UC];rfl
    refine⟨_,O,_,O,O,_,O,?_⟩;refine bo (fun c1=>?_) (fun c1=>?_)
    .have c2:n=now.getD w0.2.1 0:=by
      have:=UM c1;injection this with z
      exact Qav z
     refine⟨_,O,_,cQ,ln,_,O,c8 hD ip,?_⟩;rw[ai,DC _ (XR c2).symm]
    .have c2:¬ n=now.getD w0.2.1 0:=fun z=>by
      have:=U2 c1;exact this (by rw[<- z])
     refine⟨_,O,_,cQ,ln,_,O,c8 hD ip,?_⟩;rw[ai,DC _ (W' c2).symm]
   .rintro τ G' ⟨v1,rfl,ip,cQ⟩
    rw[Vd (by unfold nums;rw[Us];exact Uv _)] at cQ;exact⟨D,_,_,_,O,sg.trans ip,none_of sg hD,cQ⟩
  .rintro σ G ⟨g,v3,v4,v5,rfl,sg,ng,hG⟩
   rw[<- dR,UO] at hG;exact⟨_,O,k g G sg ng hG⟩
def QH (K:V'):Sp:=fun vs H Q _=>∃ p t pl pt,vs=[.ref p,.ref t]/\M' K H p ((pl:List Int).map V.int)/\M' K H t (nums pt)/\pl.length=pt.length/\pl.length<=1000/\∀ g H',af H H'->H g=C'->H' g=B' (.lst ((Z5 pl pt).map V.int))->Q (.ref g) H'
theorem RS (T:Tx K mg a):YD P w K mg base Yj 1 "from_nought" ["places","parts"] [] (QH K):=T.Qjp.Ym fun f fd F=>by
 refine F.ok xk (fun vs H Q E h=>?_) (fun aD A outer s H vs Q E hr h=>?_)
 .obtain⟨p,t,pl,pt,rfl,_⟩:=h
  rfl
 .obtain⟨p,t,pl,pt,rfl,hp,ht,hl,hk,k⟩:=h
  have ex:(pl.map V.int).length=(nums pt).length:=by unfold nums;rw[Us,Us,hl]
  have lz:(pl.zip pt).length=pl.length:=by rw[VQ];lia
  have mU:∀ i x y,(pl.map V.int)[i]?=B' x->(nums pt)[i]?=B' y->∃ (u:Int) (v:Nat),x=V.int u/\y=V.int (v:Nat)/\(pl.zip pt)[i]?=B' (u,v):=fun i x y h1 h2=>by
   obtain⟨u,hu,rfl⟩:=pO h1;obtain⟨v,hv,rfl⟩:=vT h2;exact⟨u,v,O,O,by rw[VB];exact⟨hu,hv⟩⟩
  refine⟨_,(aq (aQ (i:=2) xk.nd O (.inr O) l8)
   (aq (cV YS rfl (yc rfl T.Qcg (ag (pv 0) (ag (pv 1) aj))) (fe rfl (aM (aE (i:=3) xk.nd O (.inl O)) (aM (aE (i:=4) xk.nd O (.inl O)) cD))) (ay (jP (bf hr) (pv 2) (pv 4) (bM OR O T.QdP Ca (ag (pv 3) (ag (S6 (bf hr) (pv 2) (pv 4) (pv 3) ⟨O,O,O,O⟩) aj))) O)))
   (ay (bv (dF (N:=["place","part","least"]) (cap:=[C',C',B' 2]) O (cq (osc:=aF Da) (XN:=["places","parts","least","place","part"]) O O (by decide +kernel)) (yc rfl T.Qcg (ag (pv 0) (ag (pv 1) aj))) (fun cl C s H fp aa=>(jS (K:=K) (n:=2) O O (aM (aE (i:=0) (show(["place","part","least"]:List K').Nodup by decide +kernel) rfl (.inl rfl)) (aM (aE (i:=1) (show(["place","part","least"]:List K').Nodup by decide +kernel) rfl (.inl rfl)) cD)))) (fun cl C s H fp aa=>dE) (fun cl C s H fp aa=>(aH g8 (pv 0) (cN (bf hr) (pv 2) (pv 1) (fun _ _=>O))))))))),?_⟩
  refine fun d nd=>?_
  have s1:af H (upd H d (.dK [])):=af.new nd;have h1:upd H d (.dK []) d=B' (.dK []):=ai;generalize upd H d (.dK [])=H1 at s1 h1 ⊢;have Ft:Wf ([]:XZ):=fun p hp=>by cases hp
  refine⟨_,O,_,O,p,t,O,⟨_,s1.YV hp⟩,⟨_,s1.YV ht⟩,JN (K:=K) (l1:=p) (l2:=t) (xs:=pl.map V.int) (ys:=nums pt) ex (fun i σ G=>∃ v3 v4,σ=[B' (.ref p),B' (.ref t),B' (.ref d),v3,v4]/\af H G/\G d=B' (.dK (((pl.zip pt).take i).foldl Z4 [])))
   ⟨C',C',rfl,s1,h1⟩ ?_ ?_ ?_⟩
  .rintro i σ G _ ⟨_,_,rfl,sg,_⟩
   exact⟨sg.YV hp,sg.YV ht⟩
  .rintro i x y tt σ G hx hy nt ⟨v3,v4,rfl,sg,hG⟩
   obtain⟨u,v,rfl,rfl,hz⟩:=mU i x y hx hy;have s3:af G (upd G tt (.tup [.int u,.int (v:Nat)])):=af.new nt;have h3:upd G tt (.tup [.int u,.int (v:Nat)]) tt=B' (.tup [.int u,.int (v:Nat)]):=ai;generalize upd G tt (.tup [.int u,.int (v:Nat)])=G3 at s3 h3 ⊢;have ic:=s3 _ _ hG;obtain⟨o1,o2⟩:=BV ((pl.zip pt).take i) Ft;have lt:=V9 i (pl.zip pt);have l2:(((pl.zip pt).take i).foldl Z4 []).length<=1000:=by
    have:=UH (i:=i) (l:=pl.zip pt);have z:([]:XZ).length=0:=rfl;lia
   have fo:((pl.zip pt).take (i+1)).foldl Z4 []=Z4 (((pl.zip pt).take i).foldl Z4 []) (u,v):=by rw[bx hz,Vq];rfl
   rw[fo];generalize ((pl.zip pt).take i).foldl Z4 []=now at ic o1 l2 ⊢;refine⟨tt,_,O,Ya.of h3,O,_,_,O,_,_,O,O,?_⟩;have gd:=o1.QaH (v:=v) ic;refine⟨_,O,_,O,d,O,.inl ⟨now,.inl ic⟩,_,O,_,O,_,gd,u,(gI now v).getD u,?_,_,O,_,O,d,_,O,.inl ⟨now,XY ((v:Nat):Int),ic,O,by rw[Uz];lia,O⟩,_,_,O,c8 nd (sg.trans s3),?_⟩
   .cases gI now v<;>rfl
   .rw[ai]
    unfold Z4;have e:(if (gI now v).getD u<u then(gI now v).getD u else u)=min u ((gI now v).getD u):=by
     by_cases c1:(gI now v).getD u<u
     .rw[XR c1]
      lia
     .rw[W' c1]
      lia
    rw[e]
  .rintro σ G ⟨v3,v4,rfl,sg,hG⟩
   have ez:(pl.map V.int).length=(pl.zip pt).length:=by rw[lz,Us]
   rw[ez,UO] at hG;have hG:G d=B' (.dK (lsF pl pt)):=hG;have wf:Wf (lsF pl pt):=(BV (pl.zip pt) Ft).1;obtain⟨at1,_⟩:=IJ pl pt;refine⟨_,O,_,O,p,t,O,⟨_,sg.YV hp⟩,⟨_,sg.YV ht⟩,fun D hD=>?_⟩;refine Jq (K:=K) (l1:=p) (l2:=t) (xs:=pl.map V.int) (ys:=nums pt) ex (fun i τ G'=>∃ v1 v2,τ=[v1,v2,B' (.ref d)]/\af G G'/\G' D=B' (.lst ((((pl.zip pt).take i).map fun x=>x.1-(gI (lsF pl pt) x.2).getD 0).map V.int))) ⟨C',C',O,af.new hD,ai⟩ ?_ ?_ ?_
   .rintro i τ G' _ ⟨_,_,rfl,ip,_⟩
    exact⟨ip.YV (sg.YV hp),ip.YV (sg.YV ht)⟩
   .rintro i x y tt τ G' hx hy nt ⟨v1,v2,rfl,ip,cQ⟩
    obtain⟨u,v,rfl,rfl,hz⟩:=mU i x y hx hy;have s3:af G' (upd G' tt (.tup [.int u,.int (v:Nat)])):=af.new nt;have h3:upd G' tt (.tup [.int u,.int (v:Nat)]) tt=B' (.tup [.int u,.int (v:Nat)]):=ai;generalize upd G' tt (.tup [.int u,.int (v:Nat)])=G3 at s3 h3 ⊢;obtain⟨m,em,_⟩:=at1 _ (UF hz);have em:gI (lsF pl pt) v=B' m:=em;have gd:=wf.QaH (v:=v) (s3 _ _ (ip _ _ hG));rw[em] at gd;refine⟨tt,_,O,Ya.of h3,O,_,_,O,_,_,O,O,?_⟩;dsimp only[dY];rw[XR rfl];refine⟨_,O,_,O,_,O,d,_,O,gd,_,_,O,O,_,s3 _ _ cQ,?_,_,_,O,c8 hD (ip.trans s3),?_⟩
    .rw[Us,Us,UH,Uz]
     lia
    .rw[ai,bx hz,UC,UC]
     show _=B' (HO.lst (_++[V.int (u-(gI (lsF pl pt) v).getD 0)]));rw[em];rfl
   .rintro τ G' ⟨v1,v2,rfl,ip,cQ⟩
    rw[ez,UO] at cQ;exact k D G' (sg.trans ip) (none_of sg hD) cQ
end
theorem Qfo (l:List Int) (k:Nat):pz l (k:Int)=fn l k:=by
 unfold pz fn;rw[UD]
theorem Jw {ws:List Wt}{c:Nat}{am:List Int} (Yp:∀ x∈ws,x.1<c/\x.2.1<c) (hl:am.length=ws.length) (v:Nat):∀ i,i<=ws.length->fn ((((ws.map wI).zip am).take i).foldl gz (X8 c 0)) v=sm (fun n=>(if (wn ws c).ot n=v then fn am n else 0)-(if (wn ws c).on n=v then fn am n else 0)) i
 | 0,_=>by
  show fn (X8 c 0) v=0;rw[xY]
 | i+1,hi=>by
  have ih:=Jw Yp hl v i (by lia);have e1:ws[i]?=B' (ws.getD i (0,0,0,0)):=by rw[Ux,Uy (show i<ws.length by lia)];rfl
  have e2:am[i]?=B' (fn am i):=by unfold fn;rw[Ux,Uy (show i<am.length by lia)];rfl
  have e3:((ws.map wI).zip am)[i]?=B' (wI (ws.getD i (0,0,0,0)),fn am i):=by
   rw[VB,UJ,e1];exact⟨O,e2⟩
  obtain⟨i1,i2⟩:=Yp _ (UF e1);have ln:((((ws.map wI).zip am).take i).foldl gz (X8 c 0)).length=c:=by rw[xX,Vu]
  rw[bx e3,Vq];show fn (gz ((((ws.map wI).zip am).take i).foldl gz (X8 c 0)) (wI (ws.getD i (0,0,0,0)),fn am i)) v=sm _ i+((if (ws.getD i (0,0,0,0)).2.1=v then fn am i else 0)-(if (ws.getD i (0,0,0,0)).1=v then fn am i else 0));rw[<- ih];generalize (((ws.map wI).zip am).take i).foldl gz (X8 c 0)=ls at ln ⊢;generalize ws.getD i (0,0,0,0)=x at i1 i2 ⊢;have es:gz ls (wI x,fn am i)=(ls.set x.2.1 (fn ls x.2.1+fn am i)).set x.1 (fn (ls.set x.2.1 (fn ls x.2.1+fn am i)) x.1-fn am i):=by
   unfold gz;show(ls.set ((x.2.1:Nat):Int).toNat (pz ls ((x.2.1:Nat):Int)+fn am i)).set ((x.1:Nat):Int).toNat (pz (ls.set ((x.2.1:Nat):Int).toNat (pz ls ((x.2.1:Nat):Int)+fn am i)) ((x.1:Nat):Int)-fn am i)=_;rw[UD,UD,Qfo,Qfo]
  rw[es,nH (by rw[Vo];lia),nH (by lia)];by_cases c1:v=x.1
  .subst c1
   rw[aY,XR rfl];by_cases c2:x.1=x.2.1
   .rw[XR c2.symm,c2,aY]
    lia
   .rw[W' (XW c2),aR _ _ c2]
    lia
  .rw[aR _ _ c1,W' (XW c1)]
   by_cases c2:v=x.2.1
   .subst c2
    rw[XR rfl,aY];lia
   .rw[W' (XW c2),aR _ _ c2]
    lia
theorem R4 (Yp:∀ x∈ws,x.1<c/\x.2.1<c) (hl:am.length=ws.length) (v:Nat):fn (nI c (ws.map wI) am) v=Ye (wn ws c) (fn am) v:=by
 have h:=Jw Yp hl v ws.length (Uv _);rw[Vd (by rw[VQ,Us];lia)] at h;exact h
theorem Qkl (Yp:∀ x∈ws,x.1<c/\x.2.1<c):(wn ws c).Ok:=by
 have g:∀ n,n<ws.length->ws.getD n (0,0,0,0)∈ws:=fun n hn=>by
  rw[Ux,Uy hn];exact VX hn
 exact⟨fun n hn=>(Yp _ (g n hn)).1,fun n hn=>(Yp _ (g n hn)).2⟩
inductive Run (ws:List Wt) (c:Nat):S3->S3->Prop
 | stop (s:S3) (h:∀ v,v<c->¬ 0<fn s.2.2 v):Run ws c s s
 | step (s s' t:S3) (h:∃ v,v<c/\0<fn s.2.2 v) (e:Snd ws c s s') (r:Run ws c s' t):Run ws c s t
def ZH (ws:List Wt):List Int:=(ws.map wI).map fun q=>q.2.2.2
def jo (ws:List Wt) (W:Int):List Int:=(ZH ws).map fun y=>y / W % 16
def QdS (ws:List Wt) (c:Nat) (W:Int) (s:List Int×List Int):S3:=(s.1,s.2.map fun x=>x*16,nI c (ws.map wI) (jo ws W))
inductive kL (ws:List Wt) (c:Nat):List Int->List Int×List Int->List Int×List Int->Prop
 | nil (s:List Int×List Int):kL ws c [] s s
 | cons (W:Int) (r:List Int) (s:List Int×List Int) (t:S3) (u:List Int×List Int) (h:Run ws c (QdS ws c W s) t) (e:kL ws c r (t.1,t.2.1) u):kL ws c (W::r) s u
def Told (ws:List Wt) (c:Nat) (iE:List Int×List Int):Prop:=∃ m P fl,Qfn (Z2 (ZH ws)) m/\kL ws c (pw m) (nC ws c,X8 ws.length 0) (P,fl)/\iE=(Z5 P (Z3 ws c),fl)
structure Hn (ws:List Wt) (c:Nat) (pl fl:List Int):Prop where
 lp:pl.length=c
 lf:fl.length=ws.length
 ti:Ti (wn ws c) (fn pl) (fn fl)
 bl:∀ v,v<c->Ye (wn ws c) (fn fl) v=Ye (wn ws c) (Zj ws) v
 ls:∀ i,i<c->0<=fn pl i/\∃ j,j<c/\(Z3 ws c).getD j 0=(Z3 ws c).getD i 0/\fn pl j=0
theorem Cc:∀ m i,i<=m->(pw m)[i]?=B' ((16:Int) ^ (m-i))
 | 0,i,h=>by
  obtain rfl:i=0:=by lia
  rfl
 | m+1,0,_=>rfl
 | m+1,i+1,h=>by
  show(pw m)[i]?=_;rw[Cc m i (by lia),show m+1-(i+1)=m-i by lia]
theorem SA (m i:Nat) (h:i<=m):(pw m).drop i=(16:Int) ^ (m-i)::(pw m).drop (i+1):=by
 have l:=xE m;rw[List.drop_eq_getElem_cons (by lia)];have e:=Cc m i h;rw[Uy (by lia)] at e;rw[YB e]
theorem Hs {f:Int->Int} (h:f 0=0) (l:List Int) (n:Nat):fn (l.map f) n=f (fn l n):=by
 unfold fn;rw[Ux,Ux,UJ];cases l[n]? with
 | none=>exact h.symm
 | some x=>rfl
theorem C9 (ws:List Wt) (n:Nat):fn (ZH ws) n=Zj ws n:=by
 unfold fn ZH Zj;rw[Ux,Ux,UJ,UJ];cases ws[n]? with
 | none=>rfl
 | some x=>rfl
theorem ym (ws:List Wt):(ZH ws).length=ws.length:=by
 unfold ZH;rw[Us,Us]
theorem HU (ws:List Wt) (W:Int):(jo ws W).length=ws.length:=by
 unfold jo;rw[Us,ym]
theorem Pe (ws:List Wt) (W:Int) (n:Nat):fn (jo ws W) n=Zj ws n / W % 16:=by
 unfold jo;rw[Hs (by rw[Int.zero_ediv];rfl),C9]
theorem xI {N:Wn}{f g:Nat->Int} (h:∀ n,n<N.m->f n=g n) (v:Nat):Ye N f v=Ye N g v:=by
 unfold Ye;exact gm _ fun n hn=>by rw[h n hn]
variable {B G1 H0:Hp}{d da dh g lm ls z:F'}{dn:List Wi}{m:Nat}{n sp wt y:Int}{nh:Option Int}{o s t:K'}{wl ws:List K'}{x:V}
theorem Qr {ws:List Wt}{W:Int}{P:Nat->Int} (hW:0<W) (Yp:∀ x∈ws,x.1<c/\x.2.1<c) (ti:Ti (wn ws c) P (fn fl)) (hb:∀ v,v<c->Ye (wn ws c) (fn fl) v=Ye (wn ws c) (fun n=>Zj ws n / (W*16)) v) :
  Ti (wn ws c) P (fn (fl.map fun x=>x*16))/\∀ v,v<c->fn (nI c (ws.map wI) (jo ws W)) v=Ye (wn ws c) (fun n=>Zj ws n / W) v-Ye (wn ws c) (fn (fl.map fun x=>x*16)) v:=by
 have Bq:∀ n,fn (fl.map fun x=>x*16) n=16*fn fl n+0:=fun n=>by
  rw[Hs (by rfl)];lia
 refine⟨⟨ti.s,fun n hn=>?_,fun n hn f=>?_⟩,fun v hv=>?_⟩
 .have:=ti.f n hn
  rw[Bq];lia
 .rw[Bq] at f
  exact ti.t n hn (by lia)
 .rw[R4 Yp (HU ws W)]
  have b1:Ye (wn ws c) (fn (fl.map fun x=>x*16)) v=16*Ye (wn ws c) (fn fl) v:=by
   rw[xI (fun n _=>Bq n) v,Ju,Sl];lia
  have b2:Ye (wn ws c) (fun n=>Zj ws n / W) v=16*Ye (wn ws c) (fun n=>Zj ws n / (W*16)) v+Ye (wn ws c) (fn (jo ws W)) v:=by
   rw[<- Ju];refine xI (fun n _=>?_) v;show Zj ws n / W=16*(Zj ws n / (W*16))+fn (jo ws W) n;rw[Pe,<- Int.ediv_ediv_of_nonneg (W9 hW)];lia
  rw[b1,b2,hb v hv];lia
theorem OU {ws:List Wt}{fl nd:Nat->Int} (ok:(wn ws c).Ok) (hnd:∀ v,v<c->nd v=Ye (wn ws c) fk v-Ye (wn ws c) fl v) (h:∀ v,v<c->¬ 0<nd v):∀ v,v<c->Ye (wn ws c) fl v=Ye (wn ws c) fk v:=fun v hv=>by
 have z:=Pb (N:=wn ws c) (Jz ok hnd) (fun p hp=>by
  have:=h p hp;lia) v hv
 have:=hnd v hv;lia
theorem Sj {ws:List Wt}{P:List Int} (Yp:∀ x∈ws,x.1<c/\x.2.1<c) (hp:P.length=c) (hf:fl.length=ws.length) (ti:Ti (wn ws c) (fn P) (fn fl)) (hb:∀ v,v<c->Ye (wn ws c) (fn fl) v=Ye (wn ws c) (Zj ws) v):Hn ws c (Z5 P (Z3 ws c)) fl:=by
 have pl:(Z3 ws c).length=c:=by
  unfold Z3;rw[xq,U7]
 have hl:P.length=(Z3 ws c).length:=by lia
 have g:∀ n,n<ws.length->ws.getD n (0,0,0,0)∈ws:=fun n hn=>by
  rw[Ux,Uy hn];exact VX hn
 have sl:∀ n,n<ws.length->Yh (wn ws c) (fn (Z5 P (Z3 ws c))) n=Yh (wn ws c) (fn P) n:=fun n hn=>by
  obtain⟨i1,i2⟩:=Yp _ (g n hn);have e:=(IQ c ws (YM c) U7 Yp).2 _ (g n hn);have:=SX (i:=(ws.getD n (0,0,0,0)).1) (j:=(ws.getD n (0,0,0,0)).2.1) hl (by lia) (by lia) e;show fn (Z5 P (Z3 ws c)) (ws.getD n (0,0,0,0)).2.1-fn (Z5 P (Z3 ws c)) (ws.getD n (0,0,0,0)).1-_=fn P (ws.getD n (0,0,0,0)).2.1-fn P (ws.getD n (0,0,0,0)).1-_;lia
 refine⟨(SN hl).trans hp,hf,⟨fun n hn=>by rw[sl n hn];exact ti.s n hn,ti.f,fun n hn f=>by rw[sl n hn];exact ti.t n hn f⟩,hb,fun i hi=>?_⟩;have:=NU hl (i:=i) (by lia);rw[hp] at this;exact this
theorem S0:bj "flow" (.ref d) (b9 r)=b9 {r with f:=d}:=by
 have h1:¬ (("ones":K')="flow"):=by decide +kernel
 have h2:¬ (("others":K')="flow"):=by decide +kernel
 have h3:¬ (("leasts":K')="flow"):=by decide +kernel
 have h4:¬ (("places":K')="flow"):=by decide +kernel
 simp only[b9,bj,h1,h2,h3,h4,Y3,ZY]
theorem Rk:bj "needs" (.ref d) (b9 r)=b9 {r with n:=d}:=by
 have h1:¬ (("ones":K')="needs"):=by decide +kernel
 have h2:¬ (("others":K')="needs"):=by decide +kernel
 have h3:¬ (("leasts":K')="needs"):=by decide +kernel
 have h4:¬ (("places":K')="needs"):=by decide +kernel
 have h5:¬ (("flow":K')="needs"):=by decide +kernel
 simp only[b9,bj,h1,h2,h3,h4,h5,Y3,ZY]
theorem bR.reF {ws:List Wt}{cnt:Nat}{o1 o2:HO} (h:bR C G q r ws cnt) (s:af G G1) (nd:G d=C') (hp:G r.p=B' o1) (hn:G r.n=B' o2) (cz:∃ x,o1=.lst x) (bH:∃ x,o2=.lst x):bR C (upd G1 q (.ins C dx (b9 {r with f:=d}))) q {r with f:=d} ws cnt:=by
 have kp:∀ a xs,G a=B' (.lst xs)->upd G1 q (.ins C dx (b9 {r with f:=d})) a=B' (.lst xs):=fun a xs e=>by
  obtain⟨dy,ey⟩:=h.ex;rw[ak (cU e ey (by intro z;cases z))];exact s _ _ e
 have nq:∀ a xs,G a=B' (.lst xs)->Nq r a->Nq {r with f:=d} a:=fun a xs e n=>⟨n.1,av e nd,n.2.2⟩
 obtain⟨dy,ey⟩:=h.ex;obtain⟨gs,g1,g2,g3⟩:=h.hg;obtain⟨cs,c1,c2,c3⟩:=h.hc;exact⟨⟨dx,ai⟩,kp _ _ h.ho,kp _ _ h.ht,kp _ _ h.hl,⟨gs,kp _ _ g1,g2,fun i a e=>⟨kp _ _ (g3 i a e).1,nq _ _ (g3 i a e).1 (g3 i a e).2⟩⟩,⟨cs,kp _ _ c1,c2,fun i a e=>⟨kp _ _ (c3 i a e).1,nq _ _ (c3 i a e).1 (c3 i a e).2⟩⟩,
  nq _ _ h.ho h.no,nq _ _ h.ht h.nt,nq _ _ h.hl h.nl,nq _ _ g1 h.ng,nq _ _ c1 h.nc,⟨h.nq.1,av ey nd,h.nq.2.2⟩,av hp nd,h.pn,XW (av hn nd)⟩
theorem bR.reN {ws:List Wt}{cnt:Nat}{o1 o2:HO} (h:bR C G q r ws cnt) (s:af G G1) (nd:G d=C') (hp:G r.p=B' o1) (hf:G r.f=B' o2) (cz:∃ x,o1=.lst x) (bH:∃ x,o2=.lst x):bR C (upd G1 q (.ins C dx (b9 {r with n:=d}))) q {r with n:=d} ws cnt:=by
 have kp:∀ a xs,G a=B' (.lst xs)->upd G1 q (.ins C dx (b9 {r with n:=d})) a=B' (.lst xs):=fun a xs e=>by
  obtain⟨dy,ey⟩:=h.ex;rw[ak (cU e ey (by intro z;cases z))];exact s _ _ e
 have nq:∀ a xs,G a=B' (.lst xs)->Nq r a->Nq {r with n:=d} a:=fun a xs e n=>⟨n.1,n.2.1,av e nd⟩
 obtain⟨dy,ey⟩:=h.ex;obtain⟨gs,g1,g2,g3⟩:=h.hg;obtain⟨cs,c1,c2,c3⟩:=h.hc;exact⟨⟨dx,ai⟩,kp _ _ h.ho,kp _ _ h.ht,kp _ _ h.hl,⟨gs,kp _ _ g1,g2,fun i a e=>⟨kp _ _ (g3 i a e).1,nq _ _ (g3 i a e).1 (g3 i a e).2⟩⟩,⟨cs,kp _ _ c1,c2,fun i a e=>⟨kp _ _ (c3 i a e).1,nq _ _ (c3 i a e).1 (c3 i a e).2⟩⟩,
  nq _ _ h.ho h.no,nq _ _ h.ht h.nt,nq _ _ h.hl h.nl,nq _ _ g1 h.ng,nq _ _ c1 h.nc,⟨h.nq.1,h.nq.2.1,av ey nd⟩,h.pf,av hp nd,av hf nd⟩
structure Lp (C:F') (HB:Hp) (q:F') (r0 r:LR) (ws:List Wt) (c:Nat) (G:Hp) (P fl:List Int):Prop where
 lay:bR C G q r ws c
 kx:Kx [q,r0.p,r0.f,r0.n] HB G
 ep:r.p=r0.p
 ef:∀ b o,HB b=B' o->b∉[q,r0.p,r0.f,r0.n]->b≠r.f
 en:∀ b o,HB b=B' o->b∉[q,r0.p,r0.f,r0.n]->b≠r.n
 hp:G r.p=B' (.lst (P.map V.int))
 hf:G r.f=B' (.lst (fl.map V.int))
 hn:∃ nd,G r.n=B' (.lst nd)
 lp:P.length=c
 lf:fl.length=ws.length
 ti:Ti (wn ws c) (fn P) (fn fl)
theorem Qkm {ws:List Wt} (Yp:∀ x∈ws,x.1<c/\x.2.1<c):∀ q∈ws.map wI,InR c q:=fun q hq=>by
 obtain⟨x,hx,rfl⟩:=YL.mp hq;obtain⟨i1,i2⟩:=Yp x hx;exact⟨⟨by show(0:Int)<=(x.1:Nat);lia,by show((x.1:Nat):Int)<c;lia⟩,by show(0:Int)<=(x.2.1:Nat);lia,by show((x.2.1:Nat):Int)<c;lia⟩
section
variable {K:V'}
def Qkn (K:V') (t:Zx):Sp:=fun vs H Q E=>∃ l ws,∃ c:Nat,vs=[.int c,.ref l]/\mD K H l ((ws:List Wt).map wI)/\(∀ x∈ws,x.1<c/\x.2.1<c)/\(∀ x∈ws,0<=x.2.2.2/\x.2.2.2<2 ^ 61)/\ws.length<=200/\c<=200/\H t.QaZ=B' (.Y1 lY mw) /\
 (∀ pl fl g pA fA H',af H H'->H g=C'->H' g=B' (.tup [.ref pA,.ref fA])->H pA=C'->H fA=C'->pA≠fA->H' pA=B' (.lst ((pl:List Int).map V.int))->H' fA=B' (.lst ((fl:List Int).map V.int))->Told ws c (pl,fl)->Hn ws c pl fl->Q (.ref g) H') /\
 ∀ ring lr dx H',af H H'->H' dx=B' (.xd [("ring",.ref lr)])->H' lr=B' (.lst (nums ring))->BE (wn ws c) ring->ring.length<=c+1->E (.ref t.Ring) (B' dx) H'
theorem OW (T:Tx K mg a):YD P w K mg base (Zh P w) 6 "laid" ["count","wishes"] [] (Qkn K a):=T.Qjr.Ym fun f fd F=>by
 have QdH:=QF (P:=P) (w:=w) (base:=base) T;have tG:=Qka (P:=P) (w:=w) (base:=base) T;have eG:=QN (P:=P) (w:=w) (base:=base) T;have c5:=PH (P:=P) (w:=w) (base:=base) T;have cM:=Rb (P:=P) (w:=w) (base:=base) T;have fB:=Rl (P:=P) (w:=w) (base:=base) T;have dL:=RS (P:=P) (w:=w) (base:=base) T;have gL:=Ou (P:=P) (w:=w) (base:=base) T;refine F.okX xu (fun vs H Q E h=>?_) (fun aD A outer s H vs Q E hr h=>?_)
 .obtain⟨l,ws,c,rfl,_⟩:=h
  rfl
 .obtain⟨l,ws,c,rfl,vZ,Yp,lF,hw,hc,iP,k1,k2⟩:=h
  have ok:=Qkl Yp;refine⟨_,(aq (aQ (i:=2) xu.nd O (.inl O) (O9 QdH (hr.mono (by decide)) rfl (ag (pv 0) (ag (pv 1) aj))))
   (aq (bC (CU tG eN (hr.mono (by decide)) rfl (ag (pv 2) aj)))
   (aq (aQ (i:=3) xu.nd O (.inl O) (bD eG (hr.mono (by decide)) rfl (ag (pv 1) aj)))
   (aq (cV Qeb rfl (bY (bD c5 (hr.mono (by decide)) rfl (ag (pv 3) aj))) (aE (i:=4) xu.nd O (.inr O)) (aq (gq (pv 2) (dF (N:=["amount"]) (cap:=[C']) O (cq (osc:=aF vy) (XN:=["count","wishes","layout","weights","worth"]) O O (by decide +kernel)) (bY (bg (pv 2) rfl)) (fun cl C s H fp aa=>(aE (i:=0) (show(["amount"]:List K').Nodup by decide +kernel) rfl (.inl rfl))) (fun cl C s H fp aa=>dE) (fun cl C s H fp aa=>(aH qZ (pv 0) (iZ O T.QcE)))) O)
   (aq (gq (pv 2) (bD cM (hr.mono (by decide)) rfl (ag (pv 0) (ag (pv 1) (ag (dF (N:=["weight","worth"]) (cap:=[C',B' 4]) O (cq (osc:=aF vy) (XN:=["count","wishes","layout","weights","worth"]) O O (by decide +kernel)) (bY (pv 3)) (fun cl C s H fp aa=>(aE (i:=0) (show(["weight","worth"]:List K').Nodup by decide +kernel) rfl (.inl rfl))) (fun cl C s H fp aa=>dE) (fun cl C s H fp aa=>(aH cP (aH Ja (pv 0) (pv 1)) (iZ O T.QcE)))) aj)))) O)
   (ay (rQ Qeb (kB (bM Ol rfl T.QjZ QiK (ag (dF (N:=["need"]) (cap:=[C']) O (cq (osc:=aF vy) (XN:=["count","wishes","layout","weights","worth"]) O O (by decide +kernel)) (bY (bg (pv 2) rfl)) (fun cl C s H fp aa=>(aE (i:=0) (show(["need"]:List K').Nodup by decide +kernel) rfl (.inl rfl))) (fun cl C s H fp aa=>dE) (fun cl C s H fp aa=>(rL nJ (pv 0) ao (bB _)))) aj))) (ay (bC (bD fB (hr.mono (by decide)) rfl (ag (pv 2) aj)))))))))
   (ay (bv (cw (ag (bD dL (hr.mono (by decide)) rfl (ag (bg (pv 2) rfl) (ag (bD gL (hr.mono (by decide)) rfl (ag (pv 0) (ag (pv 1) aj))) aj))) (ag (bg (pv 2) rfl) aj))))))))),?_⟩
  refine⟨_,O,_,O,fun q dx nq nd ne=>?_⟩;have K6:upd H dx (.own q) q=C':=by rw[ak (XW ne)];exact nq
  have sa:af H (upd (upd H dx (.own q)) q (.ins a.Layout dx [])):=(af.new nd).trans (af.new K6);have qa:upd (upd H dx (.own q)) q (.ins a.Layout dx []) q=B' (.ins a.Layout dx []):=ai;generalize upd (upd H dx (.own q)) q (.ins a.Layout dx [])=Ha at sa qa ⊢;refine⟨q,dx,l,ws,c,O,qa,vZ.same sa,Yp,by lia,by lia,fun r0 Hb FH Lb Dz Dj wT np nf nn=>⟨O,?_⟩⟩;have sb:af H Hb:=fun b o e=>FH b o (sa b o e) fun y=>by
   rw[XC.mp y,nq] at e;cases e
  have DH:=none_of sa np;have Ur:=none_of sa nf;have T3:=none_of sa nn;refine⟨_,O,q,r0,ws,c,O,Lb,Dz,ok,hw,hc,fun AU Aq Hc oz j7=>?_,fun ring lr Mj Hc oz Li Nf QcG len=>?_⟩
  rotate_left
  .refine k2 ring lr Mj Hc (fun b o e=>oz b o (sb b o e) fun y=>?_) Li Nf QcG len
   rw[XC.mp y,DH] at e;cases e
  have sc:af H Hc:=fun b o e=>oz b o (sb b o e) fun y=>by
   rw[XC.mp y,DH] at e;cases e
  have Lc:bR a.Layout Hc q r0 ws c:=Lb.kx oz fun y hy=>.inl (XC.mp hy)
  have EL:Hc r0.f=B' (.lst ((X8 ws.length (0:Int)).map V.int)):=oz _ _ Dj (by simp[XW Lb.pf]);have dP:Hc r0.n=B' (.lst ((X8 c (0:Int)).map V.int)):=oz _ _ wT (by simp[XW Lb.pn]);clear FH oz Dz Dj wT;refine⟨_,O,l,ws.map wI,O,vZ.same sc,by rw[Us];lia,fun wl Hd sd Lh dR=>?_⟩;have dR:Hd wl=B' (.lst ((ZH ws).map V.int)):=dR;have iw:∀ x∈ZH ws,0<=x/\x<2 ^ 61:=fun x hx=>by
   obtain⟨y,hy,rfl⟩:=YL.mp hx;obtain⟨z,hz,rfl⟩:=YL.mp hy;exact lF z hz
  refine⟨_,O,wl,ZH ws,O,M'.of dR,iw,fun m g He se ng hg yR Bt=>?_⟩;have jH:=sd.trans se;have DU:af H He:=sc.trans jH;have Ac:=se _ _ dR;have fr:∀ b∈[q,r0.p,r0.f,r0.n],H b=C':=fun b hb=>by
   simp only[U1,US,YX] at hb
   rcases hb with z|z|z|z<;>rw[z]<;>assumption
  have ZE:∀ b o,H b=B' o->∀ G,Kx [q,r0.p,r0.f,r0.n] He G->G b=B' o:=fun b o e G kx=>kx b o (DU b o e) fun y=>by
   rw[fr b y] at e;cases e
  have sG:∀ G,Kx [q,r0.p,r0.f,r0.n] He G->af H G:=fun G kx b o e=>ZE b o e G kx
  have al:∀ b∈[q,r0.p,r0.f,r0.n],∃ o,Hc b=B' o:=fun b hb=>by
   obtain⟨Tq,KM⟩:=Lc.ex;simp only[U1,US,YX] at hb
   rcases hb with z|z|z|z<;>rw[z]
   .exact⟨_,KM⟩
   .exact⟨_,j7⟩
   .exact⟨_,EL⟩
   .exact⟨_,dP⟩
  have KR:wl∉[q,r0.p,r0.f,r0.n]:=fun y=>by
   obtain⟨o,e⟩:=al wl y;rw[Lh] at e;cases e
  have gS:g∉[q,r0.p,r0.f,r0.n]:=fun y=>by
   obtain⟨o,e⟩:=al g y;rw[sd _ _ e] at ng;cases ng
  have Ev:∀ G,Kx [q,r0.p,r0.f,r0.n] He G->G wl=B' (.lst ((ZH ws).map V.int)):=fun G kx=>kx _ _ Ac KR
  have kg:∀ G,Kx [q,r0.p,r0.f,r0.n] He G->G g=B' (.lst ((pw m).map V.int)):=fun G kx=>kx _ _ hg gS
  have M0:=C6 (ZH ws);have LZ:∀ i,i<=m->(16:Int) ^ (m-i)<2 ^ 62:=fun i hi=>by
   rcases WU m with z|z
   .rw[z,Nat.zero_sub]
    decide
   .have e1:=yR.1 (m-1) (by lia)
    have e2:(16:Int) ^ m=16 ^ (m-1)*16:=by rw[<- qX,show m-1+1=m by lia]
    have e3:=xV (m:=2 ^ 61-1) (ZH ws) (by decide) fun x hx=>by
     have:=(iw x hx).2;lia
    have e4:(16:Int) ^ (m-i)<=16 ^ m:=by
     have h:=WO (n:=16) (by decide) (show m-i<=m by lia)
     exact_mod_cast h
    lia
  have pl:=xE m;refine⟨g,O,⟨_,M'.of hg⟩,jr (K:=K) (a:=g) (xs:=(pw m).map V.int) (fun i σ G=>∃ r P fl v4,σ=[B' (.int (c:Nat)),B' (.ref l),B' (.ref q),B' (.ref wl),v4]/\Lp a.Layout He q r0 r ws c G P fl/\(∀ v,v<c->Ye (wn ws c) (fn fl) v=Ye (wn ws c) (fun n=>Zj ws n / (16:Int) ^ (m+1-i)) v) /\
    ∀ iE,kL ws c ((pw m).drop i) (P,fl) iE->kL ws c (pw m) (nC ws c,X8 ws.length 0) iE)
   ⟨r0,nC ws c,X8 ws.length 0,C',rfl,⟨Lc.same jH,Kx.of (af.refl _),rfl,fun b o e z y=>z (by rw[y];simp),fun b o e z y=>z (by rw[y];simp),jH _ _ j7,jH _ _ EL,⟨_,jH _ _ dP⟩,Aq,Vu,?_⟩,?_,fun iE h=>h⟩ ?_ ?_ ?_⟩
  .rw[xY]
   exact⟨AU,fun n _=>VA _,fun n _ z=>X4 z (Int.lt_irrefl _)⟩
  .intro v hv
   rw[xY];refine xI (fun n hn=>?_) v;have hn:n<ws.length:=hn;have wm:Zj ws n∈ZH ws:=by
    rw[<- C9];unfold fn;rw[Ux,Uy (by rw[ym];exact hn)];exact VX _
   have e1:=M0.2 _ wm;have e2:=(iw _ wm).1;have e3:=yR.2;rw[<- qX] at e3;show(0:Int)=Zj ws n / 16 ^ (m+1-0);rw[Qg8];exact(Int.ediv_eq_zero_of_lt e2 (by lia)).symm
  .rintro i σ G _ ⟨r,P,fl,v4,rfl,lp,_⟩
   exact M'.of (kg G lp.kx)
  .rintro i x σ G hx ⟨r,P,fl,v4,rfl,lp,hb,ud⟩
   have hi:i<=m:=by
    have:=(Yi.mp hx).1;rw[Us,pl] at this;lia
   have ex:x=.int ((16:Int) ^ (m-i)):=by
    rw[UJ,Cc m i hi] at hx;exact(YB hx).symm
   subst ex;have w0:=HF (m-i);have w1:=LZ i hi;have mS:(16:Int) ^ (m+1-i)=16 ^ (m-i)*16:=by rw[<- qX,show m+1-i=m-i+1 by lia]
   rw[mS] at hb;have aL:∀ P' eP bA,Run ws c (QdS ws c ((16:Int) ^ (m-i)) (P,fl)) (P',eP,bA)->∀ iE,kL ws c ((pw m).drop (i+1)) (P',eP) iE->kL ws c (pw m) (nC ws c,X8 ws.length 0) iE:=fun P' eP bA hr iE ho=>by
    refine ud iE ?_;rw[SA m i hi];exact kL.cons _ _ _ _ _ hr ho
   rw[show m+1-(i+1)=m-i by lia];generalize hW:(16:Int) ^ (m-i)=W at *;clear ud mS hx;obtain⟨K8,Ka⟩:=Qr w0 Yp lp.ti hb;obtain⟨c6,ia⟩:=lp.lay.ex;obtain⟨T8,tY⟩:=lp.hn;dsimp only[bN];refine⟨_,O,q,a.Layout,c6,_,_,O,ia,T.Yl,T.Qbe,vH,r.f,O,⟨_,M'.of lp.hf⟩,fun D hD=>?_⟩;refine fQ (K:=K) (a:=r.f) (xs:=fl.map V.int) (fun j τ G'=>∃ v1,τ=[v1]/\af G G'/\G' D=B' (.lst (((fl.take j).map fun x=>x*16).map V.int))) ⟨C',O,af.new hD,ai⟩ ?_ ?_ ?_
   .rintro j τ G' _ ⟨v1,rfl,sg,_⟩
    exact M'.of (sg _ _ lp.hf)
   .rintro j y τ G' hy ⟨v1,rfl,sg,uJ⟩
    obtain⟨z,hz,rfl⟩:=pO hy;dsimp only[bN,dY];rw[XR rfl];refine⟨_,O,_,_,O,O,.inr ⟨by decide,by decide⟩,_,uJ,?_,_,O,c8 hD sg,?_⟩
    .have:=lp.lf
     rw[Us,Us,UH,Uz];lia
    .rw[ai,bx hz,UC,UC]
     rfl
   rintro τ G1 ⟨v1,rfl,s1,jZ⟩
   rw[Us,UO] at jZ;refine⟨_,O,q,a.Layout,c6,_,O,s1 _ _ ia,T.Yl,T.Qbe,(by show 8<1000;decide),?_⟩;rw[S0];have L2:=lp.lay.reF (dx:=c6) s1 hD lp.hp tY ⟨_,O⟩ ⟨_,O⟩;have wF:=ai (H:=G1) (a:=q) (o:=HO.ins a.Layout c6 (b9 {r with f:=D}));have ib:Kx [q,r0.p,r0.f,r0.n] He (upd G1 q (.ins a.Layout c6 (b9 {r with f:=D}))):=(lp.kx.trans (Kx.of s1)).trans (Kx.upd (by simp));have yA:D≠q:=XW (av ia hD);have d8:upd G1 q (.ins a.Layout c6 (b9 {r with f:=D})) r.p=B' (.lst (P.map V.int)):=by rw[ak (XW lp.lay.nq.1)];exact s1 _ _ lp.hp
   have wy:upd G1 q (.ins a.Layout c6 (b9 {r with f:=D})) D=B' (.lst ((fl.map fun x=>x*16).map V.int)):=by rw[ak yA];exact jZ
   have Ew:∀ b o,He b=B' o->b∉[q,r0.p,r0.f,r0.n]->b≠D:=fun b o e z=>av (lp.kx b o e z) hD
   generalize upd G1 q (.ins a.Layout c6 (b9 {r with f:=D}))=G2 at L2 wF ib d8 wy ⊢;refine⟨_,O,_,O,_,O,wl,O,⟨_,M'.of (Ev G2 ib)⟩,fun Z hZ=>?_⟩;refine fQ (K:=K) (a:=wl) (xs:=(ZH ws).map V.int) (fun j τ G'=>∃ v1,τ=[v1,B' (.int W)]/\af G2 G'/\G' Z=B' (.lst ((((ZH ws).take j).map fun y=>y / W % 16).map V.int))) ⟨C',O,af.new hZ,ai⟩ ?_ ?_ ?_
   .rintro j τ G' _ ⟨v1,rfl,sg,_⟩
    exact M'.of (sg _ _ (Ev G2 ib))
   .rintro j y τ G' hy ⟨v1,rfl,sg,uJ⟩
    obtain⟨z,hz,rfl⟩:=pO hy;dsimp only[bN,dY];rw[XR rfl];refine⟨_,O,_,O,_,_,O,O,⟨w0,w1⟩,_,_,O,O,(by show(0:Int)<16;decide),_,uJ,?_,_,O,c8 hZ sg,?_⟩
    .have:=ym ws
     rw[Us,Us,UH,Uz];lia
    .rw[ai,bx hz,UC,UC]
     rfl
   rintro τ G3 ⟨v2,rfl,s3,mW⟩
   rw[Us,UO] at mW;have mW:G3 Z=B' (.lst ((jo ws W).map V.int)):=mW;refine⟨(c:Int),l,ws.map wI,Z,jo ws W,O,vZ.same ((sG G2 ib).trans s3),M'.of mW,by rw[HU,Us],by lia,by lia,by rw[UD];exact Qkm Yp,fun nA G4 s4 FK h4=>?_⟩;rw[UD] at h4;have qL:=s3.trans s4;refine⟨_,O,q,a.Layout,c6,_,O,qL _ _ wF,T.Yl,T.QaG,(by show 8<1000;decide),?_⟩;rw[Rk];have lC:G2 nA=C':=none_of s3 FK;have L5:=L2.reN (dx:=c6) qL lC d8 wy ⟨_,O⟩ ⟨_,O⟩;have ja:Kx [q,r0.p,r0.f,r0.n] He (upd G4 q (.ins a.Layout c6 (b9 { {r with f:=D} with n:=nA}))):=(ib.trans (Kx.of qL)).trans (Kx.upd (by simp));have EF:nA≠q:=XW (av wF lC);have sh:upd G4 q (.ins a.Layout c6 (b9 { {r with f:=D} with n:=nA})) r.p=B' (.lst (P.map V.int)):=by rw[ak (XW lp.lay.nq.1)];exact qL _ _ d8
   have AW:upd G4 q (.ins a.Layout c6 (b9 { {r with f:=D} with n:=nA})) D=B' (.lst ((fl.map fun x=>x*16).map V.int)):=by rw[ak yA];exact qL _ _ wy
   have qK:upd G4 q (.ins a.Layout c6 (b9 { {r with f:=D} with n:=nA})) nA=B' (.lst ((nI c (ws.map wI) (jo ws W)).map V.int)):=by rw[ak EF];exact h4
   have lH:∀ b o,He b=B' o->b∉[q,r0.p,r0.f,r0.n]->b≠nA:=fun b o e z=>av (ib b o e z) lC
   generalize upd G4 q (.ins a.Layout c6 (b9 { {r with f:=D} with n:=nA}))=G5 at L5 ja sh AW qK ⊢;obtain⟨r',er'⟩:∃ r':LR,r'={ {r with f:=D} with n:=nA}:=⟨_,O⟩;rw[<- er'] at L5;have rp:r'.p=r.p:=by rw[er']
   have rf:r'.f=D:=by rw[er']
   have rn:r'.n=nA:=by rw[er']
   rw[<- rp] at sh;rw[<- rf] at AW Ew;rw[<- rn] at qK lH;have NB:r'.p=r0.p:=rp.trans lp.ep;have KL:(fl.map fun x=>x*16).length=ws.length:=by rw[Us];exact lp.lf
   have Nh:=lp.lp;have um:∀ n,n<ws.length->0<=Zj ws n / W:=fun n hn=>by
    have wm:Zj ws n∈ZH ws:=by
     rw[<- C9];unfold fn;rw[Ux,Uy (by rw[ym];exact hn)];exact VX _
    exact Int.ediv_nonneg (iw _ wm).1 (W9 w0)
   clear hb L2 wF ib d8 wy FK lC qL s3 s4 h4 mW hZ hD jZ s1 ia tY er' rp rf rn EF yA;refine⟨fun mm σ G=>∃ P' eP bA,mm=nU (wn ws c) (fn bA)/\σ=[B' (.int (c:Nat)),B' (.ref l),B' (.ref q),B' (.ref wl),B' (.int W)]/\Lp a.Layout He q r0 r' ws c G P' eP/\G r'.n=B' (.lst ((bA:List Int).map V.int))/\bA.length=c/\(∀ v,v<c->fn bA v=Ye (wn ws c) (fun n=>Zj ws n / W) v-Ye (wn ws c) (fn eP) v) /\
     ∀ t,Run ws c (P',eP,bA) t->Run ws c (QdS ws c W (P,fl)) t,
    ⟨_,P,fl.map (fun x=>x*16),nI c (ws.map wI) (jo ws W),O,O,⟨L5,ja,NB,Ew,lH,sh,AW,⟨_,qK⟩,Nh,KL,K8⟩,qK,QI _ _ _,Ka,fun t h=>h⟩,?_⟩
   rintro mm σ G6 ⟨P',eP,bA,rfl,rfl,jx,wa,K9,wx,uE⟩
   obtain⟨K0,KY⟩:=jx.lay.ex;refine⟨_,O,q,a.Layout,K0,_,_,O,KY,T.Yl,T.QaG,p6,r'.n,O,⟨_,M'.of wa⟩,fun Y hY=>?_⟩;refine fQ (K:=K) (a:=r'.n) (xs:=bA.map V.int) (fun j τ G'=>∃ v1,τ=[v1]/\af G6 G'/\G' Y=B' (.lst (((bA.take j).map fun x=>decide (0<x)).map V.bl))) ⟨C',O,af.new hY,ai⟩ ?_ ?_ ?_
   .rintro j τ G' _ ⟨v1,rfl,sg,_⟩
    exact M'.of (sg _ _ wa)
   .rintro j y τ G' hy ⟨v1,rfl,sg,uJ⟩
    obtain⟨z,hz,rfl⟩:=pO hy;dsimp only[bN,dY];rw[XR rfl];refine⟨_,O,_,_,O,O,_,uJ,?_,_,O,c8 hY sg,?_⟩
    .rw[Us,Us,UH,Uz]
     lia
    .rw[ai,bx hz,UC,UC]
     rfl
   rintro τ G7 ⟨v3,rfl,s7,Et⟩
   rw[Us,UO] at Et;have fX:Lp a.Layout He q r0 r' ws c G7 P' eP:=⟨jx.lay.same s7,jx.kx.trans (Kx.of s7),jx.ep,jx.ef,jx.en,s7 _ _ jx.hp,s7 _ _ jx.hf,⟨_,s7 _ _ wa⟩,jx.lp,jx.lf,jx.ti⟩;have MO:=s7 _ _ wa;refine⟨Y,_,O,M'.of Et,_,O,?_⟩;refine bo (fun c1=>?_) (fun c1=>?_)
   ·-- B' point needs B'
    obtain⟨k0,Dh,Ec⟩:∃ v,v<c/\0<fn bA v:=by
     rw[XA] at c1;obtain⟨x,hx,lT⟩:=Qa5.mp c1;obtain⟨j,hj⟩:=Qac.mp hx;have jl:=(Yi.mp hj).1;refine⟨j,by lia,?_⟩;unfold fn;rw[Ux,hj];exact UM lT
    refine⟨_,fun σ' H' h=>h,?_⟩;refine⟨_,O,q,r',ws,c,P',eP,bA,fun n=>Zj ws n / W,k0,O,fX.lay,fX.hp,fX.lp,fX.hf,fX.lf,MO,K9,ok,hw,hc,fX.ti,um,wx,Dh,Ec,ZE _ _ iP G7 fX.kx,fun P2 yU jK G8 qI p8 f8 n8 snd l1 l2 l3 Ku Mz less=>?_⟩;have NM:Kx [q,r0.p,r0.f,r0.n] He G8:=fun b o e z=>qI b o (fX.kx b o e z) fun y=>by
     simp only[U1,US,YX] at y
     rcases y with y|y|y
     .exact z (by rw[y,fX.ep];simp)
     .exact fX.ef b o e z y
     .exact fX.en b o e z y
    have L8:bR a.Layout G8 q r' ws c:=fX.lay.kx qI fun y hy=>by
     simp only[U1,US,YX] at hy
     rcases hy with z|z|z
     .exact .inl z
     .exact .inr (.inl z)
     .exact .inr (.inr (.inl z))
    exact⟨_,less,P2,yU,jK,O,O,⟨L8,NM,fX.ep,fX.ef,fX.en,p8,f8,⟨_,n8⟩,l1,l2,Ku⟩,n8,l3,Mz,fun t h=>uE t (Run.step _ _ _ ⟨k0,Dh,Ec⟩ snd h)⟩
   .have X1:∀ v,v<c->¬ 0<fn bA v:=fun v hv z=>by
     rw[XA] at c1;have:=Qgn.mp c1 (fn bA v) (by
      unfold fn;rw[Ux,Uy (show v<bA.length by lia)];exact VX _)
     exact this (UW z)
    exact⟨r',P',eP,_,O,fX,OU ok wx X1,aL P' eP bA (uE _ (Run.stop _ X1))⟩
  .rintro σ G ⟨r,P,fl,v4,rfl,lp,hb,ud⟩
   rw[Us,pl] at hb ud;have fg:=ud _ (by rw[List.drop_eq_nil_of_le (by lia)];exact kL.nil _);have hb:∀ v,v<c->Ye (wn ws c) (fn fl) v=Ye (wn ws c) (Zj ws) v:=fun v hv=>by
    rw[hb v hv];refine xI (fun n _=>?_) v;show Zj ws n / 16 ^ (m+1-(m+1))=_;rw[Qg9,Int.pow_zero,Int.ediv_one]
   obtain⟨c6,ia⟩:=lp.lay.ex;have Tp:(Z3 ws c).length=c:=by
    unfold Z3;rw[xq,U7]
   have Uf:=lp.lp;have An:=lp.hp;have sR:=lp.hf;have wJ:=sG G lp.kx;refine⟨_,O,q,a.Layout,c6,_,_,O,ia,T.Yl,T.Qa0,qh,_,O,_,O,l,ws,c,O,vZ.same wJ,Yp,by lia,fun gp G1 s1 n1 h1=>?_⟩;refine⟨r.p,gp,P,Z3 ws c,O,M'.of (s1 _ _ An),M'.of h1,by lia,by lia,fun gn G2 s2 n2 h2=>?_⟩;have s12:=s1.trans s2;have EO:G gn=C':=none_of s1 n2;refine⟨_,O,q,a.Layout,c6,_,_,O,s12 _ _ ia,T.Yl,T.Qbe,vH,(by show 2<=XX;decide),fun gt zd=>?_⟩;have s3:af G2 (upd G2 gt (.tup [.ref gn,.ref r.f])):=af.new zd;have yK:=wJ.trans (s12.trans s3);have Mb:H r.f=C':=by
    cases e:H r.f with
    | none=>rfl
    | some o=>exact X4 O (lp.ef r.f o (DU _ _ e) fun y=>by rw[fr _ y] at e;cases e)
   exact k1 _ _ gt gn r.f _ yK (none_of (wJ.trans s12) zd) ai (none_of wJ EO) Mb (XW (av sR EO)) (s3 _ _ h2) (s3 _ _ (s12 _ _ sR)) ⟨m,P,fl,yR,fg,O⟩ (Sj Yp lp.lp lp.lf lp.ti hb)
end
namespace Nt
abbrev XZ:=List (Key×V)
def abc:K':="abcdefghijklmnopqrstuvwxyz"
def small (c:Nat):Bool:=!(QfF abc ⟨#[c]⟩ 0 abc.length 1).isEmpty
def fP (n:K'):Bool:=decide (1<=n.length) && decide (n.length<=8) && n.cps.toList.all small
def has (kvs:XZ) (n:K'):Bool:=(aU kvs (X5 n)).isSome
def iR (dh da:F') (nn:Int) (ls lm:F'):List (K'×V):=[("halves",.ref dh),("arrows_by_number",.ref da),("next_number",.int nn),("same_pairs",.ref ls),("most_bounds",.ref lm)]
theorem RB {m:Int}:bj "next_number" (.int m) (iR dh da n ls lm)=iR dh da m ls lm:=by
 have h1:¬ (("halves":K')="next_number"):=by decide +kernel
 have h2:¬ (("arrows_by_number":K')="next_number"):=by decide +kernel
 simp only[iR,bj,h1,h2,Y3,ZY]
structure Ar where
 num:Int
 one:K'
 other:K'
 span:Int
 weight:Int
def arV (q:Ar):List V:=[.str q.one,.str q.other,.int q.span,.int q.weight]
def Z6 (q:Ar):Dt:=.tup [.int q.num,.str q.one,.str q.other,.int q.span,.int q.weight]
def vA (q:K'×K'):Dt:=.tup [.str q.1,.str q.2]
def ve (q:K'×K'×Int):Dt:=.tup [.str q.1,.str q.2.1,.int q.2.2]
def js (K:V') (H:Hp):List Ar->XZ->Prop
 | [],kvs=>kvs=[]
 | q::qs,kvs=>∃ t r,kvs=(XY q.num,.ref t)::r/\Ya K H t (arV q)/\js K H qs r
structure Rec where
 dh:F'
 da:F'
 ls:F'
 lm:F'
structure eZ where
 kvs:XZ
 arr:List Ar
 nn:Int
 ss:List (K'×K')
 mm:List (K'×K'×Int)
structure cC (K:V') (C:F') (H:Hp) (p:F') (r:Rec) (v:eZ):Prop where
 ex:∃ dx,H p=B' (.ins C dx (iR r.dh r.da v.nn r.ls r.lm))
 hh:H r.dh=B' (.dK v.kvs)
 ha:∃ cT,H r.da=B' (.dK cT)/\js K H v.arr cT
 hs:∃ xs,H r.ls=B' (.lst xs)/\aK K H (v.ss.map vA) xs
 hm:∃ xs,H r.lm=B' (.lst xs)/\aK K H (v.mm.map ve) xs
 n1:r.da≠r.dh
 n2:r.ls≠r.lm
theorem ON {n:Nat} (q:Ar):iS (n+1) (Z6 q):=by cases n<;>exact⟨trivial,trivial,trivial,trivial,trivial,trivial⟩
theorem _root_.L2.Tk.arr {K:V'}{H H':Hp} (e:Tk H H'):∀ {qs:List Ar}{kvs:XZ},js K H qs kvs->js K H' qs kvs
 | [],_,h=>h
 | q::qs,_,h=>by
  obtain⟨t,r,e1,h1,h2⟩:=h;exact⟨t,r,e1,e.YJ h1,e.arr h2⟩
theorem js.length {K:V'}{H:Hp}:∀ {qs:List Ar}{kvs:XZ},js K H qs kvs->qs.length=kvs.length
 | [],_,h=>by rw[show _=[] from h];rfl
 | q::qs,_,h=>by
  obtain⟨t,r,rfl,h1,h2⟩:=h;show qs.length+1=r.length+1;rw[h2.length]
theorem js.get {K:V'}{H:Hp}:∀ {qs:List Ar}{kvs:XZ}{i:Nat}{k:Key}{x:V},js K H qs kvs->kvs[i]?=B' (k,x)->∃ q t,qs[i]?=B' q/\k=XY q.num/\x=.ref t/\Ya K H t (arV q)
 | [],_,i,k,x,h,e=>by rw[show _=[] from h] at e;simp at e
 | q::qs,_,i,k,x,h,e=>by
  obtain⟨t,r,rfl,h1,h2⟩:=h;cases i with
  | zero=>simp at e;exact⟨q,t,O,e.1.symm,e.2.symm,h1⟩
  | succ i=>exact h2.get (by simpa using e)
theorem js.snoc {K:V'}{H:Hp}{q:Ar}{t:F'} (ht:Ya K H t (arV q)):∀ {qs:List Ar}{kvs:XZ},js K H qs kvs->js K H (qs++[q]) (kvs++[(XY q.num,.ref t)])
 | [],_,h=>by rw[show _=[] from h];exact⟨t,[],O,ht,O⟩
 | q'::qs,_,h=>by
  obtain⟨t',r,rfl,h1,h2⟩:=h;exact⟨t',_,O,h1,h2.snoc ht⟩
theorem cC.same {K:V'}{p:F'}{r:Rec}{v:eZ} (n:cC K C H p r v) (e:af H H'):cC K C H' p r v:=by
 obtain⟨⟨dx,h1⟩,h2,⟨cT,h3,h4⟩,⟨xs,h5,h6⟩,⟨ys,h7,h8⟩,n1,n2⟩:=n;exact⟨⟨dx,e _ _ h1⟩,e _ _ h2,⟨cT,e _ _ h3,(Tk.of e).arr h4⟩,⟨xs,e _ _ h5,e.Yf h6⟩,⟨ys,e _ _ h7,e.Yf h8⟩,n1,n2⟩
def Kp (p:F') (r:Rec) (H H':Hp):Prop:=∀ b o,H b=B' o->b≠p->b≠r.dh->b≠r.da->b≠r.ls->b≠r.lm->H' b=B' o
theorem Z1 {a:K'}{v:V}{r:List (K'×V)}:(((a,v)::r):List (K'×V)).lookup a=B' v:=by
 rw[Vt,Qbo]
theorem Yv {a b:K'}{v:V}{r:List (K'×V)} (h:(a == b)=R'):(((b,v)::r):List (K'×V)).lookup a=r.lookup a:=by
 rw[Vt,h]
theorem xK:(iR dh da n ls lm).lookup ("halves":K')=B' (.ref dh):=Z1
theorem C7:(iR dh da n ls lm).lookup ("arrows_by_number":K')=B' (.ref da):=(Yv (by decide +kernel)).trans Z1
theorem Qko:(iR dh da n ls lm).lookup ("next_number":K')=B' (.int n):=(Yv (by decide +kernel)).trans ((Yv (by decide +kernel)).trans Z1)
theorem BD:(iR dh da n ls lm).lookup ("same_pairs":K')=B' (.ref ls):=(Yv (by decide +kernel)).trans ((Yv (by decide +kernel)).trans ((Yv (by decide +kernel)).trans Z1))
theorem CD:(iR dh da n ls lm).lookup ("most_bounds":K')=B' (.ref lm):=(Yv (by decide +kernel)).trans ((Yv (by decide +kernel)).trans ((Yv (by decide +kernel)).trans ((Yv (by decide +kernel)).trans Z1)))
section
variable {K:V'}
def Qe:Sp:=fun vs H Q _=>∃ n:K',vs=[.str n]/\n.length<=1000/\∀ H',af H H'->Q (.bl (fP n)) H'
theorem O6 (T:Tx K mg a):YD P w K mg base Yj 1 "is_name" ["name"] [] Qe:=T.Qjs.Ym fun f fd F=>by
 refine F.ok OO (fun vs H Q E h=>?_) (fun aD A outer s H vs Q E hr h=>?_)
 .obtain⟨n,rfl,_⟩:=h
  rfl
 .obtain⟨n,rfl,hn,k⟩:=h
  have hz:n.length<=XX:=U5 hn (by rw[Uz];decide);refine⟨_,(aq (bU (PW.pt (pV (nr (kB (bM vj O T.Qce vU (ag (pv 0) (ag (uT O T.Qj2 QiI) aj))))) (pV (bG uQ (bM Jm O T.Zb dZ (ag (pv 0) aj)) ao (bB _)) (vg (bG nJ (bM Jm O T.Zb dZ (ag (pv 0) aj)) (iZ O T.QjK) (bB _)))))) (ay (bv vh)) cr)
   (ay (bv (bM OZ rfl T.QjY QiJ (ag (dF (N:=["sign"]) (cap:=[C']) O (cq (osc:=aF B9) (XN:=["name"]) O O (by decide +kernel)) (QiA (pv 0)) (fun cl C s H fp aa=>(aE (i:=0) (show(["sign"]:List K').Nodup by decide +kernel) rfl (.inl rfl))) (fun cl C s H fp aa=>dE) (fun cl C s H fp aa=>(rL OF (pv 0) (Q5 O T.QjQ) (by with_unfolding_all rfl)))) aj))))),?_⟩
  refine⟨_,O,_,_,_,_,_,O,O,.str _,T.QjT,D',O,?_⟩;refine jO O ?_;refine⟨_,O,_,O,hz,_,_,O,O,_,O,?_⟩;refine bo (fun c1=>?_) (fun c1=>?_)
  .have e:fP n=R':=by
    have:(n.length:Int)<1:=UM c1;simp only[fP,VT,VO]
    exact .inl (.inl (by lia))
   refine fj ?_;show Q (.bl R') _;rw[<- e];exact k H (af.refl H)
  .refine⟨_,O,_,O,hz,_,_,O,O,_,O,?_⟩
   have h1:1<=n.length:=by
    have:¬ (n.length:Int)<1:=U2 c1;lia
   refine bo (fun c2=>?_) (fun c2=>?_)
   .have e:fP n=R':=by
     have:(8:Int)<n.length:=UM c2;simp only[fP,VT,VO]
     exact .inl (.inr (by lia))
    show Q (.bl R') _;rw[<- e];exact k H (af.refl H)
   .have h2:n.length<=8:=by
     have:¬ (8:Int)<n.length:=U2 c2;lia
    refine⟨_,O,n,O,fun D hD=>?_⟩;refine Q8 (x:=n) (fun i τ H'=>∃ v,τ=[v]/\af H H'/\H' D=B' (.lst (((n.cps.toList.take i).map small).map V.bl))) ⟨C',rfl,af.new hD,ai⟩ ?_ ?_
    .rintro i c τ H' hc ⟨v,rfl,sm,hl⟩
     dsimp only[bN,dY];rw[XR rfl];refine⟨_,O,_,_,O,O,_,hl,?_,_,O,?_,?_⟩
     .rw[Us,Us,UH,Uz]
      have:n.cps.toList.length=n.length:=by rw[V8];rfl
      lia
     .intro b o e
      rw[ak (av e hD)];exact sm b o e
     .have jD:n.cps.toList[i]?=B' c:=by rw[WG];exact hc
      have ht:n.cps.toList.take (i+1)=n.cps.toList.take i++[c]:=by
       rw[WA,jD];rfl
      rw[ai,ht,UC,UC];rfl
    .rintro τ H' ⟨v,rfl,sm,hl⟩
     refine⟨D,(n.cps.toList.take n.cps.size).map small,O,M'.of hl,?_⟩;have e:(Qaz small (n.cps.toList.take n.cps.size)).all id=fP n:=by
      rw[Vd (by rw[V8];exact Uv _),Xy];simp only[fP,UW h1,UW h2,Bool.true_and]
      rfl
     rw[e];exact k H' sm
def Pj:Sp:=fun vs H Q _=>∃ i,vs=[.int i]/\Q (.bl D') H
theorem N8 (T:Tx K mg a):YD P w K mg base Yj 1 "is_whole" ["number"] [] Pj:=T.Qjt.Ym fun f fd F=>by
 refine F.ok R0 (fun vs H Q E h=>?_) (fun aD A outer s H vs Q E hr h=>?_)
 .obtain⟨n,rfl,_⟩:=h
  rfl
 .obtain⟨i,rfl,q⟩:=h
  refine⟨_,(ay (bv (xw (bM vj O T.Qce vU (ag (pv 0) (ag (uT O T.Qj1 QiH) aj))) (BG (QhC (bM vj O T.Qce vU (ag (pv 0) (ag (uT O T.Qj0 S1) aj)))))))),?_⟩;refine⟨_,O,_,_,_,_,_,O,O,.int _,T.QjU,D',O,?_⟩;refine fj ?_;exact⟨_,O,_,_,_,_,_,O,O,.int _,T.QjV,R',O,q⟩
def PM:Sp:=fun vs H Q _=>∃ i l g,vs=[.int i,.int l,.int g]/\Q (.bl (decide (l<=i) && decide (i<=g))) H
theorem B5 (T:Tx K mg a):YD P w K mg base Yj 2 "in_range" ["number","least","greatest"] [] PM:=T.Qju.Ym fun f fd F=>by
 have gZ:=N8 (P:=P) (w:=w) (base:=base) T;refine F.ok RG (fun vs H Q E h=>?_) (fun aD A outer s H vs Q E hr h=>?_)
 .obtain⟨n,_,_,rfl,_⟩:=h
  rfl
 .obtain⟨i,l,g,rfl,q⟩:=h
  refine⟨_,(ay (bv (xw (bD gZ (hr.mono (by decide)) rfl (ag (pv 0) aj)) (xw (rL vk (pv 0) (pv 1) (bB _)) (BG (rL QeR (pv 0) (pv 2) (bB _))))))),?_⟩;refine⟨_,O,_,O,D',O,?_⟩;refine fj ?_;refine⟨_,O,_,O,_,_,O,O,_,O,?_⟩;refine bo (fun c=>?_) (fun c=>?_)
  .refine⟨_,O,_,O,_,_,O,O,?_⟩
   rw[c] at q;exact q
  .rw[c] at q
   exact q
inductive Due where
 | name | taken | number | many | done
theorem QR {x y:F'}{o:HO}:upd H x o y=C'↔y≠x/\H y=C':=by
 unfold upd;by_cases h:y=x<;>simp[h]
theorem qg {x y:F'}{o:HO}:upd H x o y=if y=x then B' o else H y:=rfl
theorem Ri:bj "most_bounds" (.ref lm) (bj "same_pairs" (.ref ls) (bj "next_number" (.int 0) (bj "arrows_by_number" (.ref da) (bj "halves" (.ref dh) []))))=iR dh da 0 ls lm:=by
 have h1:¬ (("halves":K')="arrows_by_number"):=by decide +kernel
 have h2:¬ (("halves":K')="next_number"):=by decide +kernel
 have h3:¬ (("halves":K')="same_pairs"):=by decide +kernel
 have h4:¬ (("halves":K')="most_bounds"):=by decide +kernel
 have h5:¬ (("arrows_by_number":K')="next_number"):=by decide +kernel
 have h6:¬ (("arrows_by_number":K')="same_pairs"):=by decide +kernel
 have h7:¬ (("arrows_by_number":K')="most_bounds"):=by decide +kernel
 have h8:¬ (("next_number":K')="same_pairs"):=by decide +kernel
 have h9:¬ (("next_number":K')="most_bounds"):=by decide +kernel
 have h0:¬ (("same_pairs":K')="most_bounds"):=by decide +kernel
 simp only[bj,h1,h2,h3,h4,h5,h6,h7,h8,h9,h0,Y3]
 rfl
def emp:eZ:=⟨[],[],0,[],[]⟩
def Qu (K:V') (C:F'):Sp:=fun vs H Q _=>∃ p dx,vs=[.ref p]/\H p=B' (.ins C dx [])/\∀ r H',(∀ b o,H b=B' o->b≠p->H' b=B' o)->(∀ b o,H b=B' o->b≠r.dh/\b≠r.da/\b≠r.ls/\b≠r.lm)->cC K C H' p r emp->Q .X1 H'
theorem Ox (T:Tx K mg a):Qcb P w K mg base Yj 1 a.Net "Net" ["self"] (Qu K a.Net):=T.QdI.Ym fun f fd F=>by
 refine F.ok P0 (fun vs H Q E h=>?_) (fun aD A outer s H vs Q E hr h=>?_)
 .obtain⟨p,dx,rfl,_⟩:=h
  rfl
 .obtain⟨p,dx,rfl,hp,k⟩:=h
  refine⟨_,(aq (gq (pv 0) l8 O)
   (aq (gq (pv 0) l8 rfl)
   (aq (gq (pv 0) ao rfl)
   (aq (gq (pv 0) (bZ aj) rfl)
   (ay (gq (pv 0) (bZ aj) rfl)))))),?_⟩
  refine fun d1 n1=>⟨_,O,p,a.Net,dx,[],O,by rw[ak (av hp n1)];exact hp,T.Yu,T.Qcc,by decide,?_⟩
  refine fun d2 n2=>⟨_,O,p,a.Net,dx,_,O,by rw[ak (av ai n2)];exact ai,T.Yu,T.QcA,by show 1<1000;decide,?_⟩
  refine⟨_,O,p,a.Net,dx,_,O,ai,T.Yu,T.QdG,by show 2<1000;decide,?_⟩;refine⟨by show 0<=XX;decide,fun l1 n3=>⟨_,O,p,a.Net,dx,_,O,by rw[ak (av ai n3)];exact ai,T.Yu,T.QcC,by show 3<1000;decide,?_⟩⟩;refine⟨by show 0<=XX;decide,fun l2 n4=>⟨_,O,p,a.Net,dx,_,O,by rw[ak (av ai n4)];exact ai,T.Yu,T.QcB,by show 4<1000;decide,?_⟩⟩;have p1:p≠d1:=av hp n1;simp only[QR] at n2 n3 n4
  show Q .X1 _;rw[Ri];have ne:∀ b o,H b=B' o->∀ c,H c=C'->b≠c:=fun b o e c h z=>by rw[z,h] at e;cases e
  refine k ⟨d1,d2,l1,l2⟩ _ (fun b o e hb=>?_) (fun b o e=>⟨ne b o e _ n1,ne b o e _ n2.2.2,ne b o e _ n3.2.2.2.2.2,ne b o e _ n4.2.2.2.2.2.2.2⟩) ⟨⟨dx,ai⟩,?_,⟨[],?_,O⟩,⟨[],?_,O⟩,⟨[],?_,O⟩,n2.2.1,XW n4.2.1⟩
  .simp[qg,hb,ne b o e _ n1,ne b o e _ n2.2.2,ne b o e _ n3.2.2.2.2.2,ne b o e _ n4.2.2.2.2.2.2.2,e]
  .show _=B' (HO.dK [])
   simp[qg,XW p1,XW n2.2.1,XW n3.2.2.2.2.1,XW n4.2.2.2.2.2.2.1]
  .simp[qg,n2,XW n3.2.2.1,XW n4.2.2.2.2.1]
  .simp[qg,n3,XW n4.2.1]
  .simp[qg,n4]
def S9 (C:F') (f:K'):Sp:=fun vs H Q _=>∃ x t y,vs=[.ref x,y]/\H x=B' (iB C t x C')/\∀ dx,H dx=C'->Q .X1 (upd (upd H dx (.xd [(f,y)])) x (iB C t x (B' dx)))
theorem Pg (T:Tx K mg a):yu P w K mg base Yj 1 a.NoPoint "NoPoint" ["self","name"] (S9 a.NoPoint "name"):=T.Qja.Ym fun f fd F=>by
 refine F.ok OI (fun vs H Q E h=>?_) (fun aD A outer s H vs Q E hr h=>?_)
 .obtain⟨x,t,y,rfl,_⟩:=h
  rfl
 .obtain⟨x,t,y,rfl,hx,k⟩:=h
  refine⟨_,(ay (FU (pv 0) (pv 1) O)),?_⟩;exact⟨_,O,_,O,x,a.NoPoint,t,O,hx,T.Qjb,fun dx nd=>k dx nd⟩
def Ys (kvs:XZ):List V:=kvs.map fun kv=>kV kv.1
def Q2 (K:V') (C:F'):Sp:=fun vs H Q _=>∃ p r v,vs=[.ref p]/\cC K C H p r v/\∀ l,H l=C'->Q (.ref l) (upd H l (.lst (Ys v.kvs)))
theorem vm (T:Tx K mg a):gy P w K mg base Yj 1 a.Net "points" ["self"] [] (Q2 K a.Net):=T.Qam.Ym fun f fd F=>by
 refine F.ok S2 (fun vs H Q E h=>?_) (fun aD A outer s H vs Q E hr h=>?_)
 .obtain⟨p,r,v,rfl,_⟩:=h
  rfl
 .obtain⟨p,r,v,rfl,N,k⟩:=h
  obtain⟨dx,hp⟩:=N.ex;refine⟨_,(ay (bv (rh QQ O T.Qcf uU (ag (bg (pv 0) O) aj)))),?_⟩;exact⟨_,O,p,a.Net,dx,_,_,O,hp,T.Yu,T.Qcc,xK,r.dh,v.kvs,O,N.hh,fun l hl=>k l hl⟩
inductive Er where
 | name | taken | point (n:K') | alone | number | many | such (i:Int)
def rC (a:Zx) (E:XK):Er->Hp->Prop
 | .name,H=>E (.ref a.NoName) C' H
 | .taken,H=>E (.ref a.Taken) C' H
 | .point n,H=>∀ dx,H dx=B' (.xd [("name",.str n)])->E (.ref a.NoPoint) (B' dx) H
 | .alone,H=>E (.ref a.Alone) C' H
 | .number,H=>E (.ref a.NoNumber) C' H
 | .many,H=>E (.ref a.TooMany) C' H
 | .such _,_=>False
def km (kvs:XZ) (n:K') (h:Int):Option Er:=
 if fP n=R' then B' .name else if has kvs n=D' then B' .taken else if h<0\/50<h then B' .number else if 20<=kvs.length then B' .many else C'
def Qfp (K:V') (a:Zx):Sp:=fun vs H Q E=>∃ p r v n h,vs=[.ref p,.str n,.int h]/\n.length<=1000/\cC K a.Net H p r v/\v.kvs.length<=1000 /\
 (∀ er,km v.kvs n h=B' er->∀ H',af H H'->rC a E er H')/\(km v.kvs n h=C'->∀ H',Kp p r H H'->cC K a.Net H' p r {v with kvs:=v.kvs++[(X5 n,.int h)]}->Q .X1 H')
theorem Po (T:Tx K mg a) (f:F') (fd:Z8) (F:eM K "put_point" "Net.put_point" xU f fd):cy P w K mg base (Zh P w) 3 f fd ["self","name","half"] (Qfp K a):=by
 have iJ:=O6 (P:=P) (w:=w) (base:=base) T;have aV:=B5 (P:=P) (w:=w) (base:=base) T;refine F.okX Sf (fun vs H Q E h=>?_) (fun aD A outer s H vs Q E hr h=>?_)
 .obtain⟨p,r,v,n,h,rfl,_⟩:=h
  rfl
 .obtain⟨p,r,v,n,h,rfl,hn,N,hk,k1,k2⟩:=h
  refine⟨_,(aq (bU (nr (kB (bD iJ (hr.mono (by decide)) rfl (ag (pv 1) aj)))) (ay (kt eN T.Qi2 rfl T.Qi1)) cr)
   (aq (bU (jq (qV (bf hr) (pv 1) (bg (pv 0) rfl))) (ay (kt eN T.Qi4 rfl T.Qi3)) cr)
   (aq (bU (nr (kB (bD aV (hr.mono (by decide)) rfl (ag (pv 2) (ag ao (ag (iZ rfl T.QjR) aj)))))) (ay (kt eN T.QdD rfl T.QdC)) cr)
   (aq (bU (bG vk (bM Ig rfl T.Zb dZ (ag (bg (pv 0) rfl) aj)) (iZ rfl T.QjO) (bB _)) (ay (kt eN T.Qcz rfl T.Qcy)) cr)
   (ay (jP (bf hr) (bg (pv 0) rfl) (pv 1) (pv 2) rfl)))))),?_⟩
  refine⟨_,O,n,O,hn,fun H1 s1=>⟨_,O,?_⟩⟩;have N1:=N.same s1;obtain⟨dx,hp⟩:=N1.ex;refine bo (fun c=>?_) (fun c=>?_)
  .have c':fP n=R':=by simpa using c
   exact⟨by show 0<=XX;decide,k1 .name (by simp only[km,XR c']) H1 s1⟩
  have c1:¬ fP n=R':=by
   have:fP n=D':=by simpa using c
   rw[this];decide
  refine⟨_,O,_,O,p,a.Net,dx,_,_,O,hp,T.Yu,T.Qcc,xK,r.dh,_,O,bS.k (k:=X5 n) N1.hh,_,O,?_⟩;refine bo (fun c=>?_) (fun c=>?_)
  .have c':has v.kvs n=D':=c
   exact⟨by show 0<=XX;decide,k1 .taken (by simp only[km,W' c1,XR c']) H1 s1⟩
  have c2:¬ has v.kvs n=D':=by rw[show has v.kvs n=R' from c];decide
  refine⟨_,O,h,0,50,O,_,O,?_⟩;refine bo (fun c=>?_) (fun c=>?_)
  .have c':h<0\/50<h:=by
    simp only[Wj,VT,VO] at c
    lia
   exact⟨by show 0<=XX;decide,k1 .number (by simp only[km,W' c1,W' c2,XR c']) H1 s1⟩
  have c3:¬ (h<0\/50<h):=by
   simp only[Wz,UU,VW] at c
   lia
  refine⟨_,O,p,a.Net,dx,_,_,O,hp,T.Yu,T.Qcc,xK,r.dh,v.kvs,O,N1.hh,_,_,O,O,_,O,?_⟩;refine bo (fun c=>?_) (fun c=>?_)
  .have c':20<=v.kvs.length:=by
    have:(20:Int)<=v.kvs.length:=UM c;lia
   exact⟨by show 0<=XX;decide,k1 .many (by simp only[km,W' c1,W' c2,W' c3,XR c']) H1 s1⟩
  have c4:¬ 20<=v.kvs.length:=by
   have:¬ (20:Int)<=v.kvs.length:=U2 c;lia
  refine⟨_,O,_,O,p,a.Net,dx,_,_,O,hp,T.Yu,T.Qcc,xK,_,O,r.dh,_,O,nE.k (k:=X5 n) N1.hh (by rw[Uz];lia),?_⟩;show Q .X1 _;have e:aU v.kvs (X5 n)=C':=by
   have:(aU v.kvs (X5 n)).isSome=R':=c2 |> fun z=>by simpa [has] using z
   simpa using this
  rw[BH (.int h) e];refine k2 (by simp only[km,W' c1,W' c2,W' c3,W' c4]) _ (fun b o q _ z2 _ _ _=>by rw[ak z2];exact s1 _ _ q) ?_;obtain⟨_,h2,⟨cT,h3,h4⟩,⟨xs,h5,h6⟩,⟨ys,h7,h8⟩,n1,n2⟩:=N1;have tk:Tk H1 (upd H1 r.dh (.dK (v.kvs++[(X5 n,.int h)]))):=Tk.upd h2 rfl;exact⟨⟨dx,by rw[ak (cU hp h2 (by intro z;cases z))];exact hp⟩,ai,⟨cT,by rw[ak n1];exact h3,tk.arr h4⟩,⟨xs,by rw[ak (cU h5 h2 (by intro z;cases z))];exact h5,tk.Yf (cf (fun _=>O) _) h6⟩,
   ⟨ys,by rw[ak (cU h7 h2 (by intro z;cases z))];exact h7,tk.Yf (cf (fun _=>O) _) h8⟩,n1,n2⟩
def Qkp (K:V') (a:Zx):Sp:=fun vs H Q E=>∃ p r v n,vs=[.ref p,.str n]/\cC K a.Net H p r v/\(has v.kvs n=D'->∀ H',af H H'->Q .X1 H') /\
 (has v.kvs n=R'->∀ H',af H H'->rC a E (.point n) H')
theorem JK (n:K'):∀ kvs:XZ,inV (.str n) (Ys kvs)=has kvs n
 | []=>rfl
 | (k,v)::r=>by
  have ih:=JK n r;show(Z0 (kV k) (.str n) || inV (.str n) (Ys r))=has ((k,v)::r) n;rw[ih];cases k with
  | inl i=>
   have:¬ (XY i:Key)=X5 n:=by intro z;cases z
   unfold has;rw[dB (p:=(XY i,v)) this];rfl
  | inr m=>
   by_cases h:m=n
   .subst h
    unfold has;rw[eO (p:=(X5 m,v)) rfl];simp[kV,Z0]
   .have:¬ (X5 m:Key)=X5 n:=by intro z;cases z;exact h rfl
    unfold has;rw[dB (p:=(X5 m,v)) this];simp[kV,Z0,h]
theorem HP:∀ kvs:XZ,(Ys kvs).all jk=D'
 | []=>rfl
 | (k,v)::r=>by
  show(jk (kV k) && (Ys r).all jk)=D';rw[HP r];cases k<;>rfl
theorem QG (T:Tx K mg a):gy P w K mg base (Zh P w) 3 a.Net "need_point" ["self","name"] [] (Qkp K a):=T.QcD.Ym fun f fd F=>by
 have Qam:=vm (P:=P) (w:=w) (base:=base) T;have iN:=Pg (P:=P) (w:=w) (base:=base) T;refine F.okX OM (fun vs H Q E h=>?_) (fun aD A outer s H vs Q E hr h=>?_)
 .obtain⟨p,r,v,n,rfl,_⟩:=h
  rfl
 .obtain⟨p,r,v,n,rfl,N,k1,k2⟩:=h
  obtain⟨dx,hp⟩:=N.ex;refine⟨_,(ay (bU (bG Oz (pv 1) (kC (pv 0) T.Yu Qam (hr.mono (by decide))) (by with_unfolding_all rfl)) (ay (Iw eN iN (hr.mono (by decide)) rfl (ag (pv 1) aj))) cr)),?_⟩;refine⟨_,O,_,O,p,dx,_,O,hp,by rfl,p,r,v,O,N,fun l hl=>⟨l,_,O,.inl (M'.of ai),O,HP v.kvs,_,O,?_⟩⟩;rw[JK];refine bo (fun c=>?_) (fun c=>?_)
  .have c':has v.kvs n=R':=by simpa using c
   refine⟨_,O,by show 1<=XX;decide,fun x t hx=>⟨x,t,_,O,ai,fun d nd=>⟨O,B' d,ai,?_⟩⟩⟩;have xd:d≠x:=fun z=>by rw[z,ai] at nd;cases nd
   have e:del (upd (upd (upd (upd H l (.lst (Ys v.kvs))) x (iB a.NoPoint t x C')) d (.xd [("name",.str n)])) x (iB a.NoPoint t x (B' d))) x=upd (upd H l (.lst (Ys v.kvs))) d (.xd [("name",.str n)]):=by
    funext b
    unfold del;by_cases h1:b=x
    .subst h1
     rw[XR rfl,ak (XW xd),hx]
    .rw[W' h1,ak h1]
     by_cases h2:b=d
     .subst h2;rw[ai,ai]
     .rw[ak h2,ak h1,ak h2]
   show E _ _ _;rw[e];have bA:upd H l (.lst (Ys v.kvs)) d=C':=by rw[ak xd] at nd;exact nd
   exact k2 c' _ ((af.new hl).trans (af.new bA)) d ai
  .have c':has v.kvs n=D':=by simpa using c
   exact k1 c' _ (af.new hl)
end
section
variable {K:V'}
theorem Jl (h:Ya K H q [.str o,.str t]):YH K H (vA (o,t)) (.ref q):=⟨q,_,O,h,_,_,O,O,_,_,O,O,O⟩
theorem Ic (h:Ya K H q [.str o,.str t,.int n]):YH K H (ve (o,t,n)) (.ref q):=⟨q,_,O,h,_,_,O,O,_,_,O,O,_,_,O,O,O⟩
theorem CM {x:Ar} (h:Ya K H q (.int x.num::arV x)):YH K H (Z6 x) (.ref q):=⟨q,_,O,h,_,_,O,O,_,_,O,O,_,_,O,O,_,_,O,O,_,_,O,O,O⟩
theorem FY (h:YH K H (vA (o,t)) x):∃ q,x=.ref q/\Ya K H q [.str o,.str t]:=by
 obtain⟨q,xs,rfl,h1,y1,Ah,rfl,rfl,y2,wN,rfl,rfl,h2⟩:=h;rw[show wN=[] from h2] at h1;exact⟨q,O,h1⟩
theorem IB (h:YH K H (ve (o,t,n)) x):∃ q,x=.ref q/\Ya K H q [.str o,.str t,.int n]:=by
 obtain⟨q,xs,rfl,h1,y1,Ah,rfl,rfl,y2,wN,rfl,rfl,y3,zN,rfl,rfl,h2⟩:=h;rw[show zN=[] from h2] at h1;exact⟨q,O,h1⟩
def two (kvs:XZ) (o t:K'):Option Er:=
 if has kvs o=R' then B' (.point o) else if has kvs t=R' then B' (.point t) else if o=t then B' .alone else C'
def Qkq (K:V') (a:Zx):Sp:=fun vs H Q E=>∃ p r v o t,vs=[.ref p,.str o,.str t]/\cC K a.Net H p r v/\(two v.kvs o t=C'->∀ H',af H H'->Q .X1 H') /\
 (∀ er,two v.kvs o t=B' er->∀ H',af H H'->rC a E er H')
theorem BY (T:Tx K mg a):gy P w K mg base (Zh P w) 4 a.Net "need_two_points" ["self","one","other"] [] (Qkq K a):=T.Qbi.Ym fun f fd F=>by
 have QcD:=QG (P:=P) (w:=w) (base:=base) T;refine F.okX OY (fun vs H Q E h=>?_) (fun aD A outer s H vs Q E hr h=>?_)
 .obtain⟨p,r,v,o,t,rfl,_⟩:=h
  rfl
 .obtain⟨p,r,v,o,t,rfl,N,k1,k2⟩:=h
  obtain⟨dx,hp⟩:=N.ex;refine⟨_,(aq (bC (mq (pv 0) T.Yu QcD eN (hr.mono (by decide)) (ag (pv 1) aj)))
   (aq (bC (mq (pv 0) T.Yu QcD eN (hr.mono (by decide)) (ag (pv 2) aj)))
   (ay (bU (bG mE (pv 1) (pv 2) (bB _)) (ay (kt eN T.Qi6 rfl T.Qi5)) cr)))),?_⟩
  refine⟨_,O,p,dx,_,O,hp,by rfl,_,O,p,r,v,o,O,N,fun c1 H1 s1=>?_,fun c=>k2 _ (by simp only[two,XR c])⟩;have zc:¬ has v.kvs o=R':=by rw[c1];decide
  refine⟨_,O,p,dx,_,O,s1 _ _ hp,by rfl,_,O,p,r,v,t,O,N.same s1,fun c2 H2 s2=>?_,fun c H2 s2=>k2 _ (by simp only[two,W' zc,XR c]) H2 (s1.trans s2)⟩;have Fu:¬ has v.kvs t=R':=by rw[c2];decide
  refine⟨_,O,_,O,O,_,O,?_⟩;refine bo (fun c=>?_) (fun c=>?_)
  .have c3:o=t:=by simpa using c
   exact⟨by show 0<=XX;decide,k2 .alone (by simp only[two,W' zc,W' Fu,XR c3]) H2 (s1.trans s2)⟩
  .have c3:¬ o=t:=by simpa using c
   exact k1 (by simp only[two,W' zc,W' Fu,W' c3]) H2 (s1.trans s2)
def bad:Option Int->Bool
 | none=>R'
 | some n=>decide (n<0) || decide (99<n)
def lim (kvs:XZ) (m:Nat) (o t:K') (nh:Option Int):Option Er:=
 match two kvs o t with
 | some er=>B' er
 | none=>if bad nh=D' then B' .number else if 20<=m then B' .many else C'
theorem Gp {kvs:XZ}{er:Er} (h:two kvs o t=B' er):lim kvs m o t nh=B' er:=by unfold lim;rw[h]
theorem xO {kvs:XZ} (h:two kvs o t=C'):lim kvs m o t nh=if bad nh=D' then B' .number else if 20<=m then B' .many else C':=by unfold lim;rw[h]
def Qkr (K:V') (a:Zx):Sp:=fun vs H Q E=>∃ p r v o t,vs=[.ref p,.str o,.str t]/\cC K a.Net H p r v/\v.ss.length<=1000 /\
 (lim v.kvs v.ss.length o t C'=C'->∀ H',Kp p r H H'->cC K a.Net H' p r {v with ss:=v.ss++[(o,t)]}->Q .X1 H') /\
 (∀ er,lim v.kvs v.ss.length o t C'=B' er->∀ H',af H H'->rC a E er H')
theorem Qh (T:Tx K mg a):gy P w K mg base (Zh P w) 5 a.Net "put_same" ["self","one","other"] [] (Qkr K a):=T.QdL.Ym fun f fd F=>by
 have Qbi:=BY (P:=P) (w:=w) (base:=base) T;refine F.okX NT (fun vs H Q E h=>?_) (fun aD A outer s H vs Q E hr h=>?_)
 .obtain⟨p,r,v,o,t,rfl,_⟩:=h
  rfl
 .obtain⟨p,r,v,o,t,rfl,N,hk,k1,k2⟩:=h
  obtain⟨dx,hp⟩:=N.ex;refine⟨_,(aq (bC (mq (pv 0) T.Yu Qbi eN (hr.mono (by decide)) (ag (pv 1) (ag (pv 2) aj))))
   (aq (bU (bG vk (bM fW rfl T.Zb dZ (ag (bg (pv 0) rfl) aj)) (iZ rfl T.QjP) (bB _)) (ay (kt eN T.Qcz rfl T.Qcy)) cr)
   (ay (bC (c7 YY Zl Zp ek (bg (pv 0) rfl) (ag (cw (ag (pv 1) (ag (pv 2) aj))) aj)))))),?_⟩
  refine⟨_,O,p,dx,_,O,hp,by rfl,_,O,_,O,p,r,v,o,t,O,N,fun c1 H1 s1=>?_,fun er c=>k2 er (Gp c)⟩;rw[xO c1] at k1 k2;have N1:=N.same s1;obtain⟨xs,h5,h6⟩:=N1.hs;have bI:=s1 _ _ hp;have hl:xs.length=v.ss.length:=by rw[<- h6.length,Us]
  refine⟨_,O,p,a.Net,dx,_,_,O,bI,T.Yu,T.QcC,BD,r.ls,xs,O,.inl (M'.of h5),_,_,O,O,_,O,?_⟩;refine bo (fun c=>?_) (fun c=>?_)
  .have c':20<=v.ss.length:=by
    have:(20:Int)<=xs.length:=UM c;lia
   exact⟨by show 0<=XX;decide,k2 .many (by rw[W' (show ¬ bad C'=D' by decide),XR c']) H1 s1⟩
  have c':¬ 20<=v.ss.length:=by
   have:¬ (20:Int)<=xs.length:=U2 c;lia
  refine⟨_,O,p,a.Net,dx,_,_,O,bI,T.Yu,T.QcC,BD,.inl ⟨O,_,M'.of h5⟩,_,O,_,O,(by show 2<=XX;decide),fun q nq=>?_⟩;have s2:af H1 (upd H1 q (.tup [.str o,.str t])):=af.new nq;have hq:Ya K (upd H1 q (.tup [.str o,.str t])) q [.str o,.str t]:=Ya.of ai;generalize upd H1 q (.tup [.str o,.str t])=H2 at s2 hq ⊢;refine⟨r.ls,xs,_,O,O,s2 _ _ h5,by rw[Uz];lia,?_⟩;refine k1 (by rw[W' (show ¬ bad C'=D' by decide),W' c']) _ (fun b u e _ _ _ z4 _=>by rw[ak z4];exact s2 _ _ (s1 _ _ e)) ?_;obtain⟨⟨wb,d8⟩,h2,⟨cT,h3,h4⟩,⟨Am,kU,Nj⟩,⟨ys,h7,h8⟩,n1,n2⟩:=N1.same s2;have tk:Tk H2 (upd H2 r.ls (.lst (xs++[.ref q]))):=Tk.upd kU rfl;exact⟨⟨wb,by rw[ak (cU d8 kU (by intro z;cases z))];exact d8⟩,by rw[ak (cU h2 kU (by intro z;cases z))];exact h2,⟨cT,by rw[ak (cU h3 kU (by intro z;cases z))];exact h3,tk.arr h4⟩,
   ⟨_,ai,by rw[UC];exact aK.snoc (Jl (tk.YJ hq)) (tk.Yf (cf (fun _=>O) _) (s2.Yf h6))⟩,⟨ys,by rw[ak (XW n2)];exact h7,tk.Yf (cf (fun _=>O) _) h8⟩,n1,n2⟩
def Qks (K:V') (a:Zx):Sp:=fun vs H Q E=>∃ p r v o t n,vs=[.ref p,.str o,.str t,.int n]/\cC K a.Net H p r v/\v.mm.length<=1000 /\
 (lim v.kvs v.mm.length o t (B' n)=C'->∀ H',Kp p r H H'->cC K a.Net H' p r {v with mm:=v.mm++[(o,t,n)]}->Q .X1 H') /\
 (∀ er,lim v.kvs v.mm.length o t (B' n)=B' er->∀ H',af H H'->rC a E er H')
theorem Ta (T:Tx K mg a):gy P w K mg base (Zh P w) 5 a.Net "put_most" ["self","one","other","number"] [] (Qks K a):=T.QdM.Ym fun f fd F=>by
 have Qbi:=BY (P:=P) (w:=w) (base:=base) T;have aV:=B5 (P:=P) (w:=w) (base:=base) T;refine F.okX Oc (fun vs H Q E h=>?_) (fun aD A outer s H vs Q E hr h=>?_)
 .obtain⟨p,r,v,o,t,n,rfl,_⟩:=h
  rfl
 .obtain⟨p,r,v,o,t,n,rfl,N,hk,k1,k2⟩:=h
  obtain⟨dx,hp⟩:=N.ex;refine⟨_,(aq (bC (mq (pv 0) T.Yu Qbi eN (hr.mono (by decide)) (ag (pv 1) (ag (pv 2) aj))))
   (aq (bU (nr (kB (bD aV (hr.mono (by decide)) rfl (ag (pv 3) (ag ao (ag (iZ rfl T.QjI) aj)))))) (ay (kt eN T.QdD rfl T.QdC)) cr)
   (aq (bU (bG vk (bM fW rfl T.Zb dZ (ag (bg (pv 0) rfl) aj)) (iZ rfl T.QjN) (bB _)) (ay (kt eN T.Qcz rfl T.Qcy)) cr)
   (ay (bC (c7 YY Zl Zp ek (bg (pv 0) rfl) (ag (cw (ag (pv 1) (ag (pv 2) (ag (pv 3) aj)))) aj))))))),?_⟩
  refine⟨_,O,p,dx,_,O,hp,by rfl,_,O,_,O,p,r,v,o,t,O,N,fun c1 H1 s1=>?_,fun er c=>k2 er (Gp c)⟩;rw[xO c1] at k1 k2;have N1:=N.same s1;obtain⟨xs,h5,h6⟩:=N1.hm;have bI:=s1 _ _ hp;have hl:xs.length=v.mm.length:=by rw[<- h6.length,Us]
  refine⟨_,O,n,0,99,O,_,O,?_⟩;refine bo (fun c=>?_) (fun c=>?_)
  .have c':bad (B' n)=D':=by
    simp only[Wj,VT,VO] at c
    simp only[bad,QgB,VW]
    lia
   exact⟨by show 0<=XX;decide,k2 .number (by rw[XR c']) H1 s1⟩
  have c3:¬ bad (B' n)=D':=by
   simp only[Wz,UU,VW] at c
   simp only[bad,QgB,VW]
   lia
  rw[W' c3] at k1 k2;refine⟨_,O,p,a.Net,dx,_,_,O,bI,T.Yu,T.QcB,CD,r.lm,xs,O,.inl (M'.of h5),_,_,O,O,_,O,?_⟩;refine bo (fun c=>?_) (fun c=>?_)
  .have c':20<=v.mm.length:=by
    have:(20:Int)<=xs.length:=UM c;lia
   exact⟨by show 0<=XX;decide,k2 .many (by rw[XR c']) H1 s1⟩
  have c':¬ 20<=v.mm.length:=by
   have:¬ (20:Int)<=xs.length:=U2 c;lia
  refine⟨_,O,p,a.Net,dx,_,_,O,bI,T.Yu,T.QcB,CD,.inl ⟨O,_,M'.of h5⟩,_,O,_,O,_,O,(by show 3<=XX;decide),fun q nq=>?_⟩;have s2:af H1 (upd H1 q (.tup [.str o,.str t,.int n])):=af.new nq;have hq:Ya K (upd H1 q (.tup [.str o,.str t,.int n])) q [.str o,.str t,.int n]:=Ya.of ai;generalize upd H1 q (.tup [.str o,.str t,.int n])=H2 at s2 hq ⊢;refine⟨r.lm,xs,_,O,O,s2 _ _ h5,by rw[Uz];lia,?_⟩;refine k1 (by rw[W' c']) _ (fun b u e _ _ _ _ z5=>by rw[ak z5];exact s2 _ _ (s1 _ _ e)) ?_;obtain⟨⟨wb,d8⟩,h2,⟨cT,h3,h4⟩,⟨ys,h7,h8⟩,⟨Am,kU,Nj⟩,n1,n2⟩:=N1.same s2;have tk:Tk H2 (upd H2 r.lm (.lst (xs++[.ref q]))):=Tk.upd kU rfl;exact⟨⟨wb,by rw[ak (cU d8 kU (by intro z;cases z))];exact d8⟩,by rw[ak (cU h2 kU (by intro z;cases z))];exact h2,⟨cT,by rw[ak (cU h3 kU (by intro z;cases z))];exact h3,tk.arr h4⟩,
   ⟨ys,by rw[ak n2];exact h7,tk.Yf (cf (fun _=>O) _) h8⟩,⟨_,ai,by rw[UC];exact aK.snoc (Ic (tk.YJ hq)) (tk.Yf (cf (fun _=>O) _) (s2.Yf h6))⟩,n1,n2⟩
def qq (v:eZ) (o t:K') (sp wt:Int):Option Er:=
 match two v.kvs o t with
 | some er=>B' er
 | none=>if (sp<1\/20<sp)\/(wt<1\/1000000<wt) then B' .number else if 40<=v.arr.length then B' .many else C'
theorem Q4 {v:eZ}{er:Er} (h:two v.kvs o t=B' er):qq v o t sp wt=B' er:=by unfold qq;rw[h]
theorem Jr {v:eZ} (h:two v.kvs o t=C'):qq v o t sp wt=if (sp<1\/20<sp)\/(wt<1\/1000000<wt) then B' .number else if 40<=v.arr.length then B' .many else C':=by unfold qq;rw[h]
def Il (K:V') (a:Zx):Sp:=fun vs H Q E=>∃ p r v o t sp wt,vs=[.ref p,.str o,.str t,.int sp,.int wt]/\cC K a.Net H p r v/\v.arr.length<=1000/\(∀ q∈v.arr,q.num<v.nn) /\
 (qq v o t sp wt=C'->∀ H',Kp p r H H'->cC K a.Net H' p r {v with arr:=v.arr++[⟨v.nn,o,t,sp,wt⟩],nn:=v.nn+1}->Q (.int v.nn) H') /\
 (∀ er,qq v o t sp wt=B' er->∀ H',af H H'->rC a E er H')
theorem HI {H:Hp}{n:Int}:∀ {qs:List Ar}{kvs:XZ},js K H qs kvs->(∀ q∈qs,q.num<n)->aU kvs (XY n)=C'
 | [],_,h,_=>by rw[show _=[] from h];rfl
 | q::qs,_,h,l=>by
  obtain⟨t,r,rfl,h1,h2⟩:=h;have ne:¬ (XY q.num:Key)=XY n:=fun z=>by
   have:=l q UQ;cases z
   lia
  rw[dB (p:=(XY q.num,V.ref t)) ne];exact HI h2 fun q' gB=>l q' (UI _ gB)
theorem RE (T:Tx K mg a) (f:F') (fd:Z8) (F:eM K "put_arrow" "Net.put_arrow" vM f fd):cy P w K mg base (Zh P w) 5 f fd ["self","one","other","span","weight"] (Il K a):=by
 have Qbi:=BY (P:=P) (w:=w) (base:=base) T;have aV:=B5 (P:=P) (w:=w) (base:=base) T;refine F.okX JO (fun vs H Q E h=>?_) (fun aD A outer s H vs Q E hr h=>?_)
 .obtain⟨p,r,v,o,t,sp,wt,rfl,_⟩:=h
  rfl
 .obtain⟨p,r,v,o,t,sp,wt,rfl,N,hk,JP,k1,k2⟩:=h
  obtain⟨dx,hp⟩:=N.ex;refine⟨_,(aq (bC (mq (pv 0) T.Yu Qbi eN (hr.mono (by decide)) (ag (pv 1) (ag (pv 2) aj))))
   (aq (bU (PW.pt (pV (nr (kB (bD aV (hr.mono (by decide)) rfl (ag (pv 3) (ag ao (ag (iZ rfl T.QjL) aj)))))) (vg (nr (kB (bD aV (hr.mono (by decide)) rfl (ag (pv 4) (ag ao (ag (iZ rfl T.QjJ) aj))))))))) (ay (kt eN T.QdD rfl T.QdC)) cr)
   (aq (bU (bG vk (bM Ig rfl T.Zb dZ (ag (bg (pv 0) rfl) aj)) (iZ rfl T.QjM) (bB _)) (ay (kt eN T.Qcz rfl T.Qcy)) cr)
   (aq (aQ (i:=5) JO.nd O (.inl O) (bg (pv 0) O))
   (aq (jP (bf hr) (bg (pv 0) rfl) (pv 5) (cw (ag (pv 1) (ag (pv 2) (ag (pv 3) (ag (pv 4) aj))))) rfl)
   (aq (gq (pv 0) (aH ee (pv 5) ao) rfl)
   (ay (bv (pv 5))))))))),?_⟩
  refine⟨_,O,p,dx,_,O,hp,by rfl,_,O,_,O,p,r,v,o,t,O,N,fun c1 H1 s1=>?_,fun er c=>k2 er (Q4 c)⟩;rw[Jr c1] at k1 k2;have N1:=N.same s1;obtain⟨cT,h3,h4⟩:=N1.ha;have bI:=s1 _ _ hp;have hl:cT.length=v.arr.length:=by rw[<- h4.length]
  have sN:((sp<1\/20<sp)\/(wt<1\/1000000<wt))->_:=fun c=>k2 .number (by rw[XR c]) H1 s1
  refine⟨_,O,sp,1,20,O,_,O,?_⟩;refine bo (fun c=>?_) (fun c=>?_)
  .have c':sp<1\/20<sp:=by
    simp only[Wj,VT,VO] at c
    lia
   exact fj ⟨by show 0<=XX;decide,sN (.inl c')⟩
  have c3:¬ (sp<1\/20<sp):=by
   simp only[Wz,UU,VW] at c
   lia
  refine⟨_,O,wt,1,1000000,O,_,O,?_⟩;refine bo (fun c=>?_) (fun c=>?_)
  .have c':wt<1\/1000000<wt:=by
    simp only[Wj,VT,VO] at c
    lia
   exact⟨by show 0<=XX;decide,sN (.inr c')⟩
  have c4:¬ (wt<1\/1000000<wt):=by
   simp only[Wz,UU,VW] at c
   lia
  rw[W' (fun z=>z.elim c3 c4)] at k1 k2;refine⟨_,O,p,a.Net,dx,_,_,O,bI,T.Yu,T.QcA,C7,r.da,cT,O,h3,_,_,O,O,_,O,?_⟩;refine bo (fun c=>?_) (fun c=>?_)
  .have c':40<=v.arr.length:=by
    have:(40:Int)<=cT.length:=UM c;lia
   exact⟨by show 0<=XX;decide,k2 .many (by rw[XR c']) H1 s1⟩
  have c':¬ 40<=v.arr.length:=by
   have:¬ (40:Int)<=cT.length:=U2 c;lia
  refine⟨_,O,p,a.Net,dx,_,_,O,bI,T.Yu,T.QdG,Qko,?_⟩;refine⟨_,O,_,O,_,O,_,O,(by show 4<=XX;decide),fun q nq=>?_⟩;have s2:af H1 (upd H1 q (.tup [.str o,.str t,.int sp,.int wt])):=af.new nq;have hq:Ya K (upd H1 q (.tup [.str o,.str t,.int sp,.int wt])) q (arV ⟨v.nn,o,t,sp,wt⟩):=Ya.of ai;generalize upd H1 q (.tup [.str o,.str t,.int sp,.int wt])=H2 at s2 hq ⊢;have d8:=s2 _ _ bI;have qE:=s2 _ _ h3;refine⟨_,O,p,a.Net,dx,_,_,O,d8,T.Yu,T.QcA,C7,_,O,r.da,_,O,nE.k (k:=XY v.nn) qE (by rw[Uz];lia),?_⟩;rw[BH (.ref q) (HI h4 JP)];have wu:upd H2 r.da (.dK (cT++[(XY v.nn,.ref q)])) p=B' (.ins a.Net dx (iR r.dh r.da v.nn r.ls r.lm)):=by rw[ak (cU d8 qE (by intro z;cases z))];exact d8
  refine⟨_,O,_,_,O,O,_,O,p,a.Net,dx,_,O,wu,T.Yu,T.QdG,by show 5<1000;decide,?_⟩;rw[RB];refine⟨_,O,?_⟩;show Q (.int v.nn) _;refine k1 (by rw[W' c']) _ (fun b u e z1 _ z3 _ _=>by rw[ak z1,ak z3];exact s2 _ _ (s1 _ _ e)) ?_;obtain⟨⟨wb,_⟩,h2,_,⟨xs,h5,h6⟩,⟨ys,h7,h8⟩,n1,n2⟩:=N1.same s2;have tk:Tk H2 (upd (upd H2 r.da (.dK (cT++[(XY v.nn,.ref q)]))) p (.ins a.Net dx (iR r.dh r.da (v.nn+1) r.ls r.lm))):=(Tk.upd qE O).trans (Tk.upd wu O);have ne:∀ b u,H2 b=B' u->b≠p->b≠r.da->upd (upd H2 r.da (.dK (cT++[(XY v.nn,.ref q)]))) p (.ins a.Net dx (iR r.dh r.da (v.nn+1) r.ls r.lm)) b=B' u:=fun b u e z1 z3=>by rw[ak z1,ak z3];exact e
  exact⟨⟨dx,ai⟩,ne _ _ h2 (cU h2 d8 (by intro z;cases z)) (XW n1),⟨_,(by rw[ak (cU qE d8 (by intro z;cases z))];exact ai),(tk.arr ((Tk.of s2).arr h4)).snoc (tk.YJ hq)⟩,
   ⟨xs,ne _ _ h5 (cU h5 d8 (by intro z;cases z)) (cU h5 qE (by intro z;cases z)),tk.Yf (cf (fun _=>O) _) h6⟩,⟨ys,ne _ _ h7 (cU h7 d8 (by intro z;cases z)) (cU h7 qE (by intro z;cases z)),tk.Yf (cf (fun _=>O) _) h8⟩,n1,n2⟩
theorem QS (T:Tx K mg a):gy P w K mg base (Zh P w) 5 a.Net "put_arrow" ["self","one","other","span","weight"] [] (Il K a):=T.QdK.Ym fun f fd F=>RE T f fd F
def Cg (K:V') (C:F') (f:eZ->List Dt):Sp:=fun vs H Q _=>∃ p r v,vs=[.ref p]/\cC K C H p r v/\(f v).length<=1000/\∀ l H' xs,af H H'->H l=C'->H' l=B' (.lst xs)->aK K H' (f v) xs->Zi H' xs->Q (.ref l) H'
theorem OV (T:Tx K mg a):gy P w K mg base Yj 1 a.Net "sames" ["self"] [] (Cg K a.Net fun v=>v.ss.map vA):=T.QdN.Ym fun f fd F=>by
 refine F.ok Th (fun vs H Q E h=>?_) (fun aD A outer s H vs Q E hr h=>?_)
 .obtain⟨p,r,v,rfl,_⟩:=h
  rfl
 .obtain⟨p,r,v,rfl,N,hk,k⟩:=h
  obtain⟨dx,hp⟩:=N.ex;obtain⟨xs,h5,h6⟩:=N.hs;have hl:v.ss.length=xs.length:=by rw[<- h6.length,Us]
  dsimp only at hk;rw[Us] at hk;refine⟨_,(ay (bv (dF (N:=["one","other"]) (cap:=[C',C']) O (cq (osc:=aF CA) (XN:=["self"]) O O (by decide +kernel)) (bY (bg (pv 0) rfl)) (fun cl C s H fp aa=>(jS (K:=K) (n:=2) O O (aM (aE (i:=0) (show(["one","other"]:List K').Nodup by decide +kernel) rfl (.inl rfl)) (aM (aE (i:=1) (show(["one","other"]:List K').Nodup by decide +kernel) rfl (.inl rfl)) cD)))) (fun cl C s H fp aa=>dE) (fun cl C s H fp aa=>(cw (ag (pv 0) (ag (pv 1) aj))))))),?_⟩;refine⟨_,O,p,a.Net,dx,_,_,O,hp,T.Yu,T.QcC,BD,r.ls,O,⟨_,M'.of h5⟩,fun D hD=>?_⟩;refine fQ (K:=K) (a:=r.ls) (xs:=xs) (fun i τ H'=>∃ v1 v2 ys,τ=[v1,v2]/\af H H'/\H' D=B' (.lst ys)/\aK K H' ((v.ss.take i).map vA) ys/\Zi H' ys) ⟨C',C',[],rfl,af.new hD,ai,rfl,Zi.nil⟩ ?_ ?_ ?_
  .rintro i τ H' _ ⟨v1,v2,ys,rfl,sm,hy,hd,tp⟩
   exact M'.of (sm _ _ h5)
  .rintro i x τ H' hx ⟨v1,v2,ys,rfl,sm,hy,hd,tp⟩
   obtain⟨⟨o,t⟩,hq,dq⟩:=dU h6 hx;obtain⟨q,rfl,h1⟩:=FY (sm.dt dq);have xg:ys.length<=v.ss.length:=by rw[<- hd.length,Us,UH];exact Xa _ _
   refine⟨q,_,O,h1,O,_,_,O,_,_,O,O,?_⟩;dsimp only[dY];rw[XR rfl];refine⟨_,O,_,O,(by show 2<=XX;decide),fun z nz=>⟨ys,by rw[ak (av hy nz)];exact hy,by rw[Uz];lia,_,_,_,O,?_,ai,?_,?_⟩⟩
   .intro b u e
    rw[ak (av e hD)];exact(sm.trans (af.new nz)) b u e
   .have s3:af H' (upd H' z (.tup [.str o,.str t])):=af.new nz
    have hz:Ya K (upd H' z (.tup [.str o,.str t])) z [.str o,.str t]:=Ya.of ai;have gG:=s3 _ _ hy;generalize upd H' z (.tup [.str o,.str t])=H3 at s3 hz gG ⊢;have tk:Tk H3 (upd H3 D (.lst (ys++[.ref z]))):=Tk.upd gG rfl;rw[bx hq,UC];exact aK.snoc (Jl (tk.YJ hz)) (tk.Yf (cf (fun _=>O) _) (s3.Yf hd))
   .have s3:af H' (upd H' z (.tup [.str o,.str t])):=af.new nz
    have hz:upd H' z (.tup [.str o,.str t]) z=B' (.tup [.str o,.str t]):=ai;have gG:=s3 _ _ hy;generalize upd H' z (.tup [.str o,.str t])=H3 at s3 hz gG ⊢;exact((tp.tk (Tk.of s3)).snoc hz).tk (Tk.upd gG O)
  .rintro τ H' ⟨v1,v2,ys,rfl,sm,hy,hd,tp⟩
   rw[<- hl,UO] at hd;exact k D H' ys sm hD hy hd tp
theorem NW (T:Tx K mg a):gy P w K mg base Yj 1 a.Net "mosts" ["self"] [] (Cg K a.Net fun v=>v.mm.map ve):=T.QdO.Ym fun f fd F=>by
 refine F.ok Og (fun vs H Q E h=>?_) (fun aD A outer s H vs Q E hr h=>?_)
 .obtain⟨p,r,v,rfl,_⟩:=h
  rfl
 .obtain⟨p,r,v,rfl,N,hk,k⟩:=h
  obtain⟨dx,hp⟩:=N.ex;obtain⟨xs,h5,h6⟩:=N.hm;have hl:v.mm.length=xs.length:=by rw[<- h6.length,Us]
  dsimp only at hk;rw[Us] at hk;refine⟨_,(ay (bv (dF (N:=["one","other","number"]) (cap:=[C',C',C']) O (cq (osc:=aF CJ) (XN:=["self"]) O O (by decide +kernel)) (bY (bg (pv 0) rfl)) (fun cl C s H fp aa=>(jS (K:=K) (n:=3) O O (aM (aE (i:=0) (show(["one","other","number"]:List K').Nodup by decide +kernel) rfl (.inl rfl)) (aM (aE (i:=1) (show(["one","other","number"]:List K').Nodup by decide +kernel) rfl (.inl rfl)) (aM (aE (i:=2) (show(["one","other","number"]:List K').Nodup by decide +kernel) rfl (.inl rfl)) cD))))) (fun cl C s H fp aa=>dE) (fun cl C s H fp aa=>(cw (ag (pv 0) (ag (pv 1) (ag (pv 2) aj)))))))),?_⟩;refine⟨_,O,p,a.Net,dx,_,_,O,hp,T.Yu,T.QcB,CD,r.lm,O,⟨_,M'.of h5⟩,fun D hD=>?_⟩;refine fQ (K:=K) (a:=r.lm) (xs:=xs) (fun i τ H'=>∃ v1 v2 v3 ys,τ=[v1,v2,v3]/\af H H'/\H' D=B' (.lst ys)/\aK K H' ((v.mm.take i).map ve) ys/\Zi H' ys) ⟨C',C',C',[],rfl,af.new hD,ai,rfl,Zi.nil⟩ ?_ ?_ ?_
  .rintro i τ H' _ ⟨v1,v2,v3,ys,rfl,sm,hy,hd,tp⟩
   exact M'.of (sm _ _ h5)
  .rintro i x τ H' hx ⟨v1,v2,v3,ys,rfl,sm,hy,hd,tp⟩
   obtain⟨⟨o,t,n⟩,hq,dq⟩:=dU h6 hx;obtain⟨q,rfl,h1⟩:=IB (sm.dt dq);have xg:ys.length<=v.mm.length:=by rw[<- hd.length,Us,UH];exact Xa _ _
   refine⟨q,_,O,h1,O,_,_,O,_,_,O,_,_,O,O,?_⟩;dsimp only[dY];rw[XR rfl];refine⟨_,O,_,O,_,O,(by show 3<=XX;decide),fun z nz=>⟨ys,by rw[ak (av hy nz)];exact hy,by rw[Uz];lia,_,_,_,_,O,?_,ai,?_,?_⟩⟩
   .intro b u e
    rw[ak (av e hD)];exact(sm.trans (af.new nz)) b u e
   .have s3:af H' (upd H' z (.tup [.str o,.str t,.int n])):=af.new nz
    have hz:Ya K (upd H' z (.tup [.str o,.str t,.int n])) z [.str o,.str t,.int n]:=Ya.of ai;have gG:=s3 _ _ hy;generalize upd H' z (.tup [.str o,.str t,.int n])=H3 at s3 hz gG ⊢;have tk:Tk H3 (upd H3 D (.lst (ys++[.ref z]))):=Tk.upd gG rfl;rw[bx hq,UC];exact aK.snoc (Ic (tk.YJ hz)) (tk.Yf (cf (fun _=>O) _) (s3.Yf hd))
   .have s3:af H' (upd H' z (.tup [.str o,.str t,.int n])):=af.new nz
    have hz:upd H' z (.tup [.str o,.str t,.int n]) z=B' (.tup [.str o,.str t,.int n]):=ai;have gG:=s3 _ _ hy;generalize upd H' z (.tup [.str o,.str t,.int n])=H3 at s3 hz gG ⊢;exact((tp.tk (Tk.of s3)).snoc hz).tk (Tk.upd gG O)
  .rintro τ H' ⟨v1,v2,v3,ys,rfl,sm,hy,hd,tp⟩
   rw[<- hl,UO] at hd;exact k D H' ys sm hD hy hd tp
theorem BC (T:Tx K mg a):gy P w K mg base Yj 1 a.Net "arrows" ["self"] [] (Cg K a.Net fun v=>v.arr.map Z6):=T.Qbh.Ym fun f fd F=>by
 refine F.ok N0 (fun vs H Q E h=>?_) (fun aD A outer s H vs Q E hr h=>?_)
 .obtain⟨p,r,v,rfl,_⟩:=h
  rfl
 .obtain⟨p,r,v,rfl,N,hk,k⟩:=h
  obtain⟨dx,hp⟩:=N.ex;obtain⟨cT,h2,h4⟩:=N.ha;have hl:=h4.length;dsimp only at hk;rw[Us] at hk;refine⟨_,(ay (bv (Oo (dF (N:=["number","arrow"]) (cap:=[C',C']) O (cq (osc:=aF BN) (XN:=["self"]) O O (by decide +kernel)) (Jv (C3 Qci Qd0 QfM HE (bg (pv 0) rfl))) (fun cl C s H fp aa=>(jS (K:=K) (n:=2) O O (aM (aE (i:=0) (show(["number","arrow"]:List K').Nodup by decide +kernel) rfl (.inl rfl)) (aM (aE (i:=1) (show(["number","arrow"]:List K').Nodup by decide +kernel) rfl (.inl rfl)) cD)))) (fun cl C s H fp aa=>dE) (fun cl C s H fp aa=>(cw (ag (pv 0) (ag (aG (jt (K:=K) O) (pv 1) ao (fun _ _=>O)) (ag (aG (jt (K:=K) O) (pv 1) ao (fun _ _=>O)) (ag (aG (jt (K:=K) O) (pv 1) ao (fun _ _=>O)) (ag (aG (jt (K:=K) O) (pv 1) ao (fun _ _=>O)) aj))))))))))),?_⟩;refine⟨r.da,cT,h2,_,O,p,a.Net,dx,_,_,O,hp,T.Yu,T.QcA,C7,.inr (.inr (.inl ⟨O,.inl ⟨_,h2⟩⟩)),r.da,cT,O,O,h2,fun w nw=>⟨w,r.da,cT,O,ai,by rw[ak (av h2 nw)];exact h2,fun o D hD=>?_⟩⟩;have dw:r.da≠w:=av h2 nw;have dD:r.da≠D:=av ai hD;have nD:upd H w (kG w r.da) D=C':=by rw[ak (XW dD)] at hD;exact hD
  have HD:H D=C':=by
   cases hq:H D with
   | none=>rfl
   | some u=>
    have:=(af.new (o:=kG w r.da) nw) D u hq;rw[nD] at this;cases this
  refine S8 (d:=r.da) (o:=o) (kvs:=cT) (fun i τ H'=>∃ v1 v2 ys,τ=[v1,v2]/\(∀ b u,H b=B' u->b≠r.da->H' b=B' u)/\H' r.da=B' (.X7 o (.dK cT))/\H' D=B' (.lst ys)/\aK K H' ((v.arr.take i).map Z6) ys/\Zi H' ys)
   ⟨C',C',[],rfl,fun b u e hb=>by rw[ak (av e HD),ak hb];exact af.new nw b u e,by rw[ak dD];exact ai,ai,O,Zi.nil⟩ ?_ ?_ ?_
  .rintro i τ H' _ ⟨v1,v2,ys,rfl,fr,hz,hy,hd,tp⟩
   exact hz
  .rintro i ky x T' τ H' hx hT ⟨v1,v2,ys,rfl,fr,hf,hy,hd,tp⟩
   obtain⟨q,t,hq,rfl,rfl,h1⟩:=h4.get hx;have Nm:Tk H H':=fun b u e z=>fr b u e fun w=>by subst w;rw[h2] at e;cases e;cases z
   have xg:ys.length<=v.arr.length:=by rw[<- hd.length,Us,UH];exact Xa _ _
   have s1:af H' (upd H' T' (.tup [kV (XY q.num),.ref t])):=af.new hT;have oY:=s1.YJ (Nm.YJ h1);have DS:Ya K (upd H' T' (.tup [kV (XY q.num),.ref t])) T' [kV (XY q.num),.ref t]:=Ya.of ai;have cQ:=s1 _ _ hy;have Dx:=s1 _ _ hf;have cJ:=s1.Yf hd;have Em:=s1;have rX:∀ b u,H b=B' u->b≠r.da->upd H' T' (.tup [kV (XY q.num),.ref t]) b=B' u:=fun b u e z=>s1 _ _ (fr b u e z)
   generalize upd H' T' (.tup [kV (XY q.num),.ref t])=H1 at oY DS cQ Dx cJ Em rX ⊢;refine⟨T',_,O,DS,O,_,_,O,_,_,O,O,?_⟩;dsimp only[dY];rw[XR rfl];refine⟨_,O,_,O,t,arV q,_,_,O,O,oY,O,_,O,t,arV q,_,_,O,O,oY,O,_,O,t,arV q,_,_,O,O,oY,O,_,O,t,arV q,_,_,O,O,oY,O,(by show 5<=XX;decide),fun z nz=>?_⟩;have s3:af H1 (upd H1 z (.tup [kV (XY q.num),.str q.one,.str q.other,.int q.span,.int q.weight])):=af.new nz;have DB:upd H1 z (.tup [kV (XY q.num),.str q.one,.str q.other,.int q.span,.int q.weight]) z=B' (.tup (.int q.num::arV q)):=ai;have Fd:=(tp.tk (Tk.of Em)).tk (Tk.of s3);have hz:Ya K (upd H1 z (.tup [kV (XY q.num),.str q.one,.str q.other,.int q.span,.int q.weight])) z (.int q.num::arV q):=Ya.of ai;have gG:=s3 _ _ cQ;have iF:=s3.Yf cJ;have iL:=s3 _ _ Dx;have uB:∀ b u,H b=B' u->b≠r.da->upd H1 z (.tup [kV (XY q.num),.str q.one,.str q.other,.int q.span,.int q.weight]) b=B' u:=fun b u e w=>s3 _ _ (rX b u e w)
   generalize upd H1 z (.tup [kV (XY q.num),.str q.one,.str q.other,.int q.span,.int q.weight])=H3 at hz DB Fd gG iF iL uB ⊢;have tk:Tk H3 (upd H3 D (.lst (ys++[.ref z]))):=Tk.upd gG rfl;refine⟨ys,gG,by rw[Uz];lia,_,_,_,O,fun b u e w=>by rw[ak (av e HD)];exact uB b u e w,by rw[ak dD];exact iL,ai,?_,(Fd.snoc DB).tk tk⟩;rw[bx hq,UC];exact aK.snoc (CM (tk.YJ hz)) (tk.Yf (cf (fun _=>O) _) iF)
  .rintro τ H' ⟨v1,v2,ys,rfl,fr,hf,hy,hd,tp⟩
   rw[<- hl,UO] at hd;refine⟨o,hf,?_⟩;have tk:Tk H' (upd H' r.da (.dK cT)):=Tk.upd hf rfl;refine k D _ ys (fun b u e=>?_) HD (by rw[ak (XW dD)];exact hy) (tk.Yf (cf (fun _=>O) _) hd) (tp.tk tk);by_cases hb:b=r.da
   .subst hb
    rw[h2] at e;cases e
    exact ai
   .rw[ak hb]
    exact fr b u e hb
end
inductive qd (ar:List Ar) (s:K'):K'->List Int->Prop
 | nil:qd ar s s []
 | snoc {p:K'}{zs:List Int}{q:Ar}:qd ar s p zs->q∈ar->q.one=p->qd ar s q.other (zs++[q.num])
def jh (ar:List Ar) (s t:K'):Prop:=∃ zs,qd ar s t zs
theorem nM {kvs:XZ}{x y:K'}{v:V} (h:has kvs x=R'):has (kvs++[(X5 x,v)]) y=(decide (y=x) || has kvs y):=by
 unfold has at h ⊢;have e:aU kvs (X5 x)=C':=by simpa using h
 rw[xP (X5 x) (X5 y) v kvs e];by_cases z:y=x
 .rw[XR (by rw[z]),UW z]
  rfl
 .rw[W' (fun q=>z (Qbt q)),Ve z]
  rfl
def kI (ar:List Ar) (kvs:XZ):Nat:=(ar.filter fun q=>!has kvs q.other).length
theorem IH (ar:List Ar) (kvs:XZ):kI ar kvs<=ar.length:=U0 _ _
theorem Gs {α:Type}{f g:α->Bool}:∀ {l:List α}{q:α},(∀ x,g x=D'->f x=D')->q∈l->f q=D'->g q=R'->(l.filter g).length<(l.filter f).length
 | x::l,q,h,hq,h1,h2=>by
  rw[UX,UX];have le:∀ l:List α,(l.filter g).length<=(l.filter f).length:=fun l=>by
   induction l with
   | nil=>exact Uv _
   | cons y l ih=>
    rw[UX,UX];cases e:g y with
    | true=>rw[XR O,XR (h y e)];exact V5 ih
    | false=>
     rw[W' (by decide)];split
     .exact Vn ih
     .exact ih
  rcases U1.mp hq with rfl|hq
  .rw[W' (by rw[h2];decide),XR h1]
   exact Nat.lt_succ_of_le (le l)
  .have ih:=Gs h hq h1 h2
   cases e:g x with
   | true=>rw[XR O,XR (h x e)];exact Nat.succ_lt_succ ih
   | false=>
    rw[W' (by decide)];split
    .exact Vk ih
    .exact ih
theorem Gm {ar:List Ar}{kvs:XZ}{q:Ar}{v:V} (hq:q∈ar) (h:has kvs q.other=R'):kI ar (kvs++[(X5 q.other,v)])<kI ar kvs:=by
 refine Gs (q:=q) (fun x hx=>?_) hq (by rw[h];rfl) (by rw[nM h,UW rfl];rfl);rw[nM h] at hx;cases e:has kvs x.other with
 | false=>rfl
 | true=>rw[e,Wl] at hx;cases hx
def Qkt (K:V') (H:Hp) (l:F') (ar:List Ar):Prop:=∃ xs,M' K H l xs/\aK K H (ar.map Z6) xs
structure Bf (K:V') (H0 H:Hp) (D wt:F') (ar:List Ar) (s:K') (kvs:XZ) (wl:List K'):Prop where
 old:af H0 H
 d:H D=B' (.dK kvs)
 w:H wt=B' (.lst (wl.map V.str))
 ok:∀ x v,aU kvs (X5 x)=B' v->∃ r zs,v=.ref r/\H r=B' (.lst ((zs:List Int).map V.int))/\r≠wt/\qd ar s x zs/\zs.length<kvs.length/\H0 r=C'
 k:kvs.length+kI ar kvs<=1+ar.length
 root:has kvs s=D'
 sub:∀ x∈wl,has kvs x=D'
 wk:wl.length+2*kI ar kvs<=1+2*ar.length
theorem Bf.same {K:V'}{D wt:F'}{ar:List Ar}{kvs:XZ} (b:Bf K H0 H D wt ar s kvs wl) (e:af H H'):Bf K H0 H' D wt ar s kvs wl:=
 ⟨b.old.trans e,e _ _ b.d,e _ _ b.w,fun x v hv=>by
  obtain⟨r,zs,h1,h2,h3⟩:=b.ok x v hv;exact⟨r,zs,h1,e _ _ h2,h3⟩,b.k,b.root,b.sub,b.wk⟩
theorem Bf.Qfq {K:V'}{D wt:F'}{ar:List Ar}{kvs:XZ}{wl2:List K'} (b:Bf K H0 H D wt ar s kvs wl) (hw:H0 wt=C') (nd:D≠wt) (hs:∀ x∈wl2,has kvs x=D') (hk:wl2.length+2*kI ar kvs<=1+2*ar.length) :
  Bf K H0 (upd H wt (.lst (wl2.map V.str))) D wt ar s kvs wl2:=
 ⟨fun x o e=>by rw[ak (av e hw)];exact b.old x o e,by rw[ak nd];exact b.d,ai,fun x v hv=>by
  obtain⟨r,zs,h1,h2,h3,h4⟩:=b.ok x v hv;exact⟨r,zs,h1,by rw[ak h3];exact h2,h3,h4⟩,b.k,b.root,hs,hk⟩
theorem Bf.put {K:V'}{D wt r2:F'}{ar:List Ar}{kvs:XZ}{q:Ar}{zs:List Int} (b:Bf K H0 H D wt ar s kvs wl) (hD:H0 D=C') (nd:D≠wt) (hq:q∈ar) (hp:qd ar s q.one zs) (hr:H r2=B' (.lst ((zs++[q.num]).map V.int)))
  (n2:r2≠wt) (n3:H0 r2=C') (hn:has kvs q.other=R') (hz:zs.length<kvs.length):Bf K H0 (upd H D (.dK (kvs++[(X5 q.other,.ref r2)]))) D wt ar s (kvs++[(X5 q.other,.ref r2)]) wl:=by
 have lt:=Gm (v:=.ref r2) hq hn;have hl:(kvs++[(X5 q.other,V.ref r2)]).length=kvs.length+1:=by rw[UB];rfl
 have nn:aU kvs (X5 q.other)=C':=by unfold has at hn;simpa using hn
 refine⟨fun x o e=>by rw[ak (av e hD)];exact b.old x o e,ai,by rw[ak (XW nd)];exact b.w,fun x v hv=>?_,?_,?_,fun x hx=>?_,?_⟩
 .rw[xP (X5 q.other) (X5 x) _ kvs nn] at hv
  by_cases z:x=q.other
  .rw[XR (by rw[z])] at hv
   cases hv
   subst z;exact⟨r2,zs++[q.num],O,by rw[ak (cU hr b.d (by intro z;cases z))];exact hr,n2,.snoc hp hq O,by rw[UB,hl];show _+1<_;lia,n3⟩
  .rw[W' (fun e=>z (Qbt e))] at hv
   obtain⟨r,ys,h1,h2,h3,h4,h5,h6⟩:=b.ok x v hv;exact⟨r,ys,h1,by rw[ak (cU h2 b.d (by intro z;cases z))];exact h2,h3,h4,by lia,h6⟩
 .rw[hl]
  have:=b.k;lia
 .rw[nM hn,b.root,Wl]
 .rw[nM hn,b.sub x hx,Wl]
 .have:=b.wk
  lia
theorem Bf.Qku {K:V'}{D wt:F'}{ar:List Ar}{kvs:XZ} (b:Bf K H0 H D wt ar s kvs []) (cl:∀ x,has kvs x=D'->∀ q∈ar,q.one=x->has kvs q.other=D') (t:K'):has kvs t=D'↔jh ar s t:=by
 constructor
 .intro h
  obtain⟨v,hv⟩:=ZI.mp h;obtain⟨r,zs,_,_,_,hp,_,_⟩:=b.ok t v hv;exact⟨zs,hp⟩
 .rintro⟨zs,hp⟩
  induction hp with
  | nil=>exact b.root
  | snoc _ hq e ih=>exact cl _ ih _ hq e
section
variable {K:V'}
theorem yq {q:Ar} (h:YH K H (Z6 q) x):∃ t,x=.ref t/\Ya K H t (.int q.num::arV q):=by
 obtain⟨t,xs,rfl,h1,y1,Ah,rfl,rfl,y2,wN,rfl,rfl,y3,zN,rfl,rfl,y4,EU,rfl,rfl,y5,MT,rfl,rfl,h2⟩:=h;rw[show MT=[] from h2] at h1;exact⟨t,O,h1⟩
def BS (K:V'):Sp:=fun vs H Q _=>∃ l ar s t,vs=[.ref l,.str s,.str t]/\Qkt K H l ar/\ar.length<=100 /\
 (∀ r zs H',qd ar s t zs->af H H'->H' r=B' (.lst ((zs:List Int).map V.int))->zs.length<=101->H r=C'->Q (.ref r) H')/\(¬ jh ar s t->∀ H',af H H'->Q .X1 H')
theorem Cb (T:Tx K mg a):YD P w K mg base Yj 1 "way" ["arrows","start","end"] [] (BS K):=T.Qjv.Ym fun f fd F=>by
 refine F.ok mh (fun vs H Q E h=>?_) (fun aD A outer s0 H vs Q E hr h=>?_)
 .obtain⟨l,ar,s,t,rfl,_⟩:=h
  rfl
 .obtain⟨l,ar,s,t,rfl,⟨xs,hl,hd⟩,hk,k1,k2⟩:=h
  have bw:ar.length=xs.length:=by rw[<- hd.length,Us]
  refine⟨_,(aq (aQ (i:=3) mh.nd O (.inl O) (RC (Rm (pv 1) (bZ aj) Pi) O O (by decide) (by decide)))
   (aq (aQ (i:=4) mh.nd O (.inl O) (bZ (ag (pv 1) aj)))
   (aq (rQ YS (P5 (pv 4) (fun _=>O)) (aq (aQ (i:=5) mh.nd O (.inl O) (c7 YY QgW PySem.F.type_list_pop Si (pv 4) (ag ao aj)))
   (ay (cV YS rfl (bY (pv 0)) (fe rfl (aM (aE (i:=6) mh.nd O (.inl O)) (aM (aE (i:=7) mh.nd O (.inl O)) (aM (aE (i:=8) mh.nd O (.inl O)) (aM (aE (i:=9) mh.nd O (.inl O)) (aM (aE (i:=10) mh.nd O (.inl O)) cD)))))) (ay (bU (PW.pt (xB (bG mE (pv 7) (pv 5) (bB _)) (xS (jq (CQ (bf hr) (pv 8) (pv 3)))))) (aq (jP (bf hr) (pv 3) (pv 8) (aH vG (cN (bf hr) (pv 3) (pv 5) (fun _ _=>O)) (bZ (ag (pv 6) aj))) O)
   (ay (bC (c7 YY Zl Zp ek (pv 4) (ag (pv 8) aj))))) cr))))))
   (ay (bv (QE (bf hr) (pv 3) (pv 2) ⟨rfl,rfl,rfl,rfl⟩)))))),?_⟩
  refine fun D hD=>⟨_,O,(by show 0<=XX;decide),fun r0 AC=>⟨af.new AC _ _ ai,[(X5 s,.ref r0)],O,(by show 1<=15;decide),_,O,(by show 1<=XX;decide),fun wt lF=>?_⟩⟩
  have E8:D≠r0:=av ai AC;have tD:H r0=C':=by
   have e:=AC;rw[ak (XW E8)] at e;exact e
  have dS:=lF;rw[qg] at dS;have qF:wt≠D:=fun e=>by rw[XR e] at dS;cases dS
  rw[W' qF,qg] at dS;have A6:wt≠r0:=fun e=>by rw[XR e] at dS;cases dS
  rw[W' A6,ak qF] at dS;have e0:nO [] [(X5 s,V.ref r0)]=[(X5 s,V.ref r0)]:=rfl;have nk:has [(X5 s,V.ref r0)] s=D':=by
   unfold has;rw[eO (p:=(X5 s,V.ref r0)) rfl];rfl
  have b0:Bf K H (upd (upd (upd (upd H D (.dK [])) r0 (.lst [])) D (.dK (nO [] [(X5 s,V.ref r0)]))) wt (.lst [V.str s])) D wt ar s [(X5 s,.ref r0)] [s]:=by
   refine⟨fun b o e=>?_,?_,ai,fun x v hv=>?_,?_,nk,fun x hx=>?_,?_⟩
   .rw[ak (av e dS),ak (av e hD),ak (av e tD),ak (av e hD)]
    exact e
   .rw[ak (XW qF),ai,e0]
   .by_cases z:s=x
    .subst z
     rw[eO (p:=(X5 s,V.ref r0)) rfl] at hv;cases hv
     exact⟨r0,[],O,by rw[ak (XW A6),ak (XW E8),ai];rfl,XW A6,.nil,(by show 0<1;decide),tD⟩
    .rw[dB (p:=(X5 s,V.ref r0)) (fun q=>z (Qbt q))] at hv
     cases hv
   .show 1+_<=_
    have:=IH ar [(X5 s,V.ref r0)];lia
   .rw[XC.mp hx]
    exact nk
   .show 1+_<=_
    have:=IH ar [(X5 s,V.ref r0)];lia
  generalize upd (upd (upd (upd H D (.dK [])) r0 (.lst [])) D (.dK (nO [] [(X5 s,V.ref r0)]))) wt (.lst [V.str s])=H1 at b0 ⊢;refine⟨fun m σ H'=>∃ v5 v6 v7 v8 v9 lP kvs wl,σ=[B' (.ref l),B' (.str s),B' (.str t),B' (.ref D),B' (.ref wt),v5,v6,v7,v8,v9,lP]/\m=wl.length+2*kI ar kvs/\Bf K H H' D wt ar s kvs wl/\∀ x,has kvs x=D'->x∈wl\/∀ q∈ar,q.one=x->has kvs q.other=D',
   ⟨_,C',C',C',C',C',C',_,_,rfl,rfl,b0,fun x hx=>?_⟩,?_⟩
  .by_cases z:s=x
   .exact .inl (XC.mpr z.symm)
   .unfold has at hx
    rw[dB (p:=(X5 s,V.ref r0)) (fun q=>z (Qbt q))] at hx;cases hx
  rintro m σ H2 ⟨v5,v6,v7,v8,v9,lP,kvs,wl,rfl,rfl,b2,EQ⟩
  refine⟨_,O,_,.inl ⟨_,M'.of b2.w,O⟩,?_⟩;refine bo (fun c=>?_) (fun c=>?_)
  ·-- one more point is looked at
   obtain⟨x,gj,rfl⟩:∃ x gj,wl=x::gj:=by
    cases wl with
    | nil=>cases c
    | cons x gj=>exact⟨x,gj,O⟩
   refine⟨_,fun σ' H' q=>q,?_⟩;refine⟨_,O,.inl ⟨O,_,M'.of b2.w⟩,wt,_,0,0,_,O,O,b2.w,by decide,by decide,?_,O,?_⟩
   .show Qcm 0 (((x::gj).map V.str).length)=B' 0
    rw[Us];unfold Qcm;simp
   have oU:((x::gj).map V.str).eraseIdx 0=gj.map V.str:=rfl;rw[oU];have TX:=b2.wk;have b3:=b2.Qfq (wl2:=gj) dS (XW qF) (fun y hy=>b2.sub y (UI _ hy)) (by have:(x::gj).length=gj.length+1:=rfl;lia);have Mo:=b2.sub x UQ;generalize upd H2 wt (.lst (gj.map V.str))=H3 at b3 ⊢;refine⟨_,O,l,O,⟨_,b3.old.YV hl⟩,jr (K:=K) (a:=l) (xs:=xs) (fun i σ H'=>∃ v6 v7 v8 v9 lP br wl2,σ=[B' (.ref l),B' (.str s),B' (.str t),B' (.ref D),B' (.ref wt),B' (.str x),v6,v7,v8,v9,lP]/\Bf K H H' D wt ar s br wl2/\wl2.length+2*kI ar br<=gj.length+2*kI ar kvs/\(∀ y,has br y=D'->y∈wl2\/y=x\/∀ q∈ar,q.one=y->has br q.other=D')/\has br x=D'/\∀ q∈ar.take i,q.one=x->has br q.other=D')
    ⟨v6,v7,v8,v9,lP,kvs,gj,rfl,b3,Uv _,fun y hy=>?_,Mo,fun q hq=>by rw[VY] at hq;cases hq⟩ ?_ ?_ ?_⟩
   .rcases EQ y hy with z|z
    .rcases U1.mp z with z|z
     .exact .inr (.inl z)
     .exact .inl z
    .exact .inr (.inr z)
   .rintro i σ H' _ ⟨_,_,_,_,_,br,wl2,rfl,b4,_⟩
    exact b4.old.YV hl
   .rintro i y σ H' hy ⟨u6,u7,u8,u9,Ly,br,wl2,rfl,b4,yL,tH,uq,mF⟩
    obtain⟨q,hq,dq⟩:=dU hd hy;obtain⟨tq,rfl,Nl⟩:=yq (b4.old.dt dq);have wK:=UF hq;refine⟨tq,_,O,Nl,O,_,_,O,_,_,O,_,_,O,_,_,O,_,_,O,O,?_⟩;have skip:(q.one=x->has br q.other=D')->∀ z∈ar.take (i+1),z.one=x->has br z.other=D':=fun h z hz e=>by
     rw[bx hq] at hz;rcases YK.mp hz with h1|h1
     .exact mF z h1 e
     .rw[XC.mp h1] at e ⊢
      exact h e
    refine⟨_,O,_,O,O,_,O,?_⟩;refine bo (fun c1=>?_) (fun c1=>mC ⟨_,_,_,_,_,br,wl2,O,b4,yL,tH,uq,skip fun e=>?_⟩)
    .have e1:q.one=x:=by simpa using c1
     refine⟨_,O,_,O,D,_,O,bS.k (k:=X5 _) b4.d,_,O,?_⟩;refine bo (fun c2=>?_) (fun c2=>⟨_,_,_,_,_,br,wl2,O,b4,yL,tH,uq,skip fun _=>?_⟩)
     .have hn:has br q.other=R':=by
       unfold has
       simpa using c2
      obtain⟨vx,EY⟩:=ZI.mp uq;obtain⟨rx,zs,rfl,MF,TQ,px,zx,_⟩:=b4.ok x vx EY;have gx:bS H' D (.str x) (B' (.ref rx)):=by
       rw[<- EY];exact bS.k (k:=X5 x) b4.d
      have kb:=b4.k;refine⟨_,O,_,O,D,_,O,gx,_,O,(by show 1<=XX;decide),fun z nz=>⟨rx,z,_,_,O,O,af.new nz _ _ MF,ai,(by rw[Us,Uz];show _+1<=_;lia),fun r2 A3=>?_⟩⟩;have s5:af H' (upd (upd H' z (.lst [V.int q.num])) r2 (.lst (zs.map V.int++[V.int q.num]))):=(af.new nz).trans (af.new A3);have h5:upd (upd H' z (.lst [V.int q.num])) r2 (.lst (zs.map V.int++[V.int q.num])) r2=B' (.lst ((zs++[q.num]).map V.int)):=by rw[ai,UC];rfl
      have n5:r2≠wt:=fun e=>by
       have:=af.new (o:=.lst [V.int q.num]) nz _ _ b4.w;rw[<- e,A3] at this;cases this
      have n6:H r2=C':=by
       cases e:H r2 with
       | none=>rfl
       | some o=>
        have:=af.new (o:=.lst [V.int q.num]) nz _ _ (b4.old _ _ e);rw[A3] at this;cases this
      generalize upd (upd H' z (.lst [V.int q.num])) r2 (.lst (zs.map V.int++[V.int q.num]))=H5 at s5 h5 ⊢;have b5:=b4.same s5;refine⟨_,O,_,O,D,_,O,.inl ⟨br,X5 q.other,b5.d,O,by rw[Uz];lia,O⟩,?_⟩;rw[BH (.ref r2) (by unfold has at hn;simpa using hn)];have b6:=b5.put hD (XW qF) wK (by rw[e1];exact px) h5 n5 n6 hn zx;have Tn:=Gm (v:=.ref r2) wK hn;have up:∀ y,has br y=D'->has (br++[(X5 q.other,V.ref r2)]) y=D':=fun y hy=>by rw[nM hn,hy,Wl]
      generalize upd H5 D (.dK (br++[(X5 q.other,V.ref r2)]))=H6 at b6 ⊢;have TB:=b6.wk;have Up:=b4.wk;refine⟨_,O,.inl ⟨O,_,M'.of b6.w⟩,_,O,wt,_,_,O,O,b6.w,(by rw[Us,Uz];lia),?_⟩;have h7:wl2.map V.str++[V.str q.other]=(wl2++[q.other]).map V.str:=by rw[UC];rfl
      have FO:(wl2++[q.other]).length=wl2.length+1:=by rw[UB];rfl
      rw[h7];have b7:=b6.Qfq (wl2:=wl2++[q.other]) dS (XW qF) (fun y hy=>by
       rcases YK.mp hy with h1|h1
       .exact b6.sub y h1
       .rw[XC.mp h1,nM hn,UW rfl];rfl) (by lia)
      refine⟨_,_,_,_,_,_,wl2++[q.other],O,b7,by lia,fun y hy=>?_,up _ uq,fun y hy e=>?_⟩
      .rw[nM hn] at hy
       by_cases zz:y=q.other
       .exact .inl (UG _ (by rw[zz];exact XC.mpr O))
       .rw[Ve zz,QgQ] at hy
        rcases tH y hy with h1|h1|h1
        .exact .inl (UZ _ h1)
        .exact .inr (.inl h1)
        .exact .inr (.inr fun q' gB e'=>up _ (h1 q' gB e'))
      .rw[bx hq] at hy
       rcases YK.mp hy with h1|h1
       .exact up _ (mF y h1 e)
       .rw[XC.mp h1,nM hn,UW rfl];rfl
     .unfold has
      simpa using c2
    .have:¬ q.one=x:=by simpa using c1
     exact X4 e this
   .rintro σ H' ⟨u6,u7,u8,u9,Ly,br,wl2,rfl,b4,yL,tH,uq,mF⟩
    rw[<- bw,UO] at mF;refine⟨wl2.length+2*kI ar br,?_,_,_,_,_,_,_,br,wl2,O,O,b4,fun y hy=>?_⟩
    .have:(x::gj).length=gj.length+1:=rfl
     lia
    .rcases tH y hy with h1|h1|h1
     .exact .inl h1
     .exact .inr fun q hq e=>mF q hq (e.trans h1)
     .exact .inr h1
  .obtain rfl:wl=[]:=by
    cases wl with
    | nil=>rfl
    | cons x gj=>cases c
   have AQ:=b2.Qku (fun x hx=>(EQ x hx).resolve_left (fun z=>by cases z)) t;refine⟨_,O,D,O,.inl ⟨_,.inl b2.d⟩,_,O,_,bS.k (k:=X5 t) b2.d,?_⟩;cases e:aU kvs (X5 t) with
   | none=>
    refine k2 (fun z=>?_) H2 b2.old;have:=AQ.mpr z;unfold has at this;rw[e] at this;cases this
   | some v=>
    obtain⟨r,zs,rfl,h1,h2,h3,h4,h5⟩:=b2.ok t v e;have:=b2.k;exact k1 r zs H2 h3 b2.old h1 (by lia) h5
end
open Classical in
def dA (ks:List Ar) (q:Ar):List Ar:=if jh ks q.other q.one then ks else ks++[q]
def jT (ar:List Ar):List Ar:=ar.foldl dA []
open Classical in
def nK (kf:List Ar×List Int) (q:Ar):List Ar×List Int:=if jh kf.1 q.other q.one then(kf.1,kf.2++[q.num]) else(kf.1++[q],kf.2)
def gu (ar:List Ar):List Int:=(ar.foldl nK ([],[])).2
def Z7 (ks:List Ar) (q:Ar):Bool:=(ks.map Z6).any fun e=>Y8 e (Z6 q)
theorem vE {ks:List Ar}{q:Ar} (h:jh ks q.other q.one):dA ks q=ks:=by unfold dA;rw[XR h]
theorem qW {ks:List Ar}{q:Ar} (h:¬ jh ks q.other q.one):dA ks q=ks++[q]:=by unfold dA;rw[W' h]
theorem Pr {ks:List Ar}{fs:List Int}{q:Ar} (h:jh ks q.other q.one):nK (ks,fs) q=(ks,fs++[q.num]):=by unfold nK;rw[XR h]
theorem RQ {ks:List Ar}{fs:List Int}{q:Ar} (h:¬ jh ks q.other q.one):nK (ks,fs) q=(ks++[q],fs):=by unfold nK;rw[W' h]
theorem Hr:∀ (l ks:List Ar),(l.foldl dA ks).length<=ks.length+l.length
 | [],_=>Uv _
 | q::l,ks=>by
  show(l.foldl dA (dA ks q)).length<=_;have:=Hr l (dA ks q);by_cases h:jh ks q.other q.one
  .rw[vE h] at this ⊢
   rw[UR];lia
  .rw[qW h,UB] at this
   rw[qW h,UR];have e:([q]:List Ar).length=1:=rfl;lia
theorem Bz:∀ {l ks:List Ar}{x:Ar},x∈ks->x∈l.foldl dA ks
 | [],_,_,h=>h
 | q::l,ks,x,h=>by
  show x∈l.foldl dA (dA ks q);by_cases e:jh ks q.other q.one
  .rw[vE e];exact Bz h
  .rw[qW e];exact Bz (UZ _ h)
theorem B4:∀ {l ks:List Ar}{x:Ar},x∈l.foldl dA ks->x∈ks\/x∈l
 | [],_,_,h=>.inl h
 | q::l,ks,x,h=>by
  replace h:x∈l.foldl dA (dA ks q):=h
  by_cases e:jh ks q.other q.one
  .rw[vE e] at h
   rcases B4 h with z|z
   .exact .inl z
   .exact .inr (UI _ z)
  .rw[qW e] at h
   rcases B4 h with z|z
   .rcases YK.mp z with z|z
    .exact .inl z
    .exact .inr (XC.mp z ▸ UQ)
   .exact .inr (UI _ z)
theorem RW {ks:List Ar}{q:Ar} (h:Z7 ks q=D'):∃ e∈ks,e.num=q.num:=by
 obtain⟨d,hd,e⟩:=Qa5.mp h;obtain⟨k,hk,rfl⟩:=YL.mp hd;refine⟨k,hk,?_⟩;have z:(Y8 (.int k.num) (.int q.num) && eX [.str k.one,.str k.other,.int k.span,.int k.weight] [.str q.one,.str q.other,.int q.span,.int q.weight])=D':=e;have:=((UU _ _).mp z).1;exact eq_of_beq this
theorem NR {ks:List Ar}{q:Ar} (h:q∈ks):Z7 ks q=D':=Qa5.mpr ⟨Z6 q,YL.mpr ⟨q,h,O⟩,rJ _⟩
theorem C8:∀ (l ks:List Ar) (fs:List Int) (F:List Ar),F=l.foldl dA ks->(l.map Ar.num).Nodup->(∀ x∈ks,∀ q∈l,x.num≠q.num)->(l.foldl nK (ks,fs)).2=fs++(l.filter fun q=>!Z7 F q).map Ar.num
 | [],_,fs,_,_,_,_=>by simp
 | q::l,ks,fs,F,hF,nd,ap=>by
  have bA:(q.num::l.map Ar.num).Nodup:=nd;rw[WN] at bA
  replace hF:F=l.foldl dA (dA ks q):=hF
  show(l.foldl nK (nK (ks,fs) q)).2=_;by_cases h:jh ks q.other q.one
  .rw[Pr h]
   rw[vE h] at hF;rw[C8 l ks _ F hF bA.2 fun x hx z hz=>ap x hx z (UI _ hz)];have hq:Z7 F q=R':=by
    cases e:Z7 F q with
    | false=>rfl
    | true=>
     obtain⟨k,hk,en⟩:=RW e;rw[hF] at hk;rcases B4 hk with z|z
     .exact X4 en (ap k z q UQ)
     .exact X4 (YL.mpr ⟨k,z,en⟩) bA.1
   rw[UX,hq,XR (by rfl),Vb,Vp];rfl
  .rw[RQ h]
   rw[qW h] at hF;rw[C8 l _ fs F hF bA.2 fun x hx z hz=>by
    rcases YK.mp hx with y|y
    .exact ap x y z (UI _ hz)
    .rw[XC.mp y]
     exact fun e=>bA.1 (YL.mpr ⟨z,hz,e.symm⟩)]
   have hq:Z7 F q=D':=NR (by rw[hF];exact Bz (UG _ (XC.mpr O)));rw[UX,hq,W' (by decide)]
theorem Tc {ar:List Ar} (nd:(ar.map Ar.num).Nodup):(ar.filter fun q=>!Z7 (jT ar) q).map Ar.num=gu ar:=by
 unfold gu;rw[C8 ar [] [] (jT ar) rfl nd fun x hx=>by cases hx];rfl
section
variable {K:V'}
def Qkv (K:V') (C:F'):Sp:=fun vs H Q _=>∃ p r v,vs=[.ref p]/\cC K C H p r v/\v.arr.length<=100/\∀ k ys H',af H H'->H k=C'->H' k=B' (.lst ys)->aK K H' ((jT v.arr).map Z6) ys->Q (.ref k) H'
theorem Rr (T:Tx K mg a):YD P w K mg base Yj 2 "kept_arrows" ["net"] [] (Qkv K a.Net):=T.Qjw.Ym fun f fd F=>by
 have uh:=Cb (P:=P) (w:=w) (base:=base) T;have Qbh:=BC (P:=P) (w:=w) (base:=base) T;refine F.ok Cj (fun vs H Q E h=>?_) (fun aD A outer s H vs Q E hr h=>?_)
 .obtain⟨p,r,v,rfl,_⟩:=h
  rfl
 .obtain⟨p,r,v,rfl,N,hk,k⟩:=h
  refine⟨_,(aq (aQ (i:=1) Cj.nd O (.inl O) (bZ aj))
   (aq (cV YS rfl (bY (kC (pv 0) T.Yu Qbh (hr.mono (by decide)))) (aE (i:=2) Cj.nd O (.inl O)) (ay (bU (jq (FX (bD uh (hr.mono (by decide)) rfl (ag (pv 1) (ag (aG ff (pv 2) ao (fun _ _=>O)) (ag (aG ff (pv 2) ao (fun _ _=>O)) aj)))))) (ay (bC (c7 YY Zl Zp ek (pv 1) (ag (pv 2) aj)))) cr)))
   (ay (bv (pv 1))))),?_⟩
  refine⟨(by show 0<=XX;decide),fun g ng=>?_⟩;have s1:af H (upd H g (.lst [])):=af.new ng;have h1:upd H g (.lst []) g=B' (.lst []):=ai;generalize upd H g (.lst [])=H1 at s1 h1 ⊢;have N1:=N.same s1;obtain⟨dx,hp⟩:=N1.ex;refine⟨_,O,p,dx,_,O,hp,by rfl,p,r,v,O,N1,by rw[Us];lia,fun l H2 xs s2 nl h2 d2 _=>?_⟩;have bw:v.arr.length=xs.length:=by rw[<- d2.length,Us]
  have J3:l≠g:=fun e=>by rw[e,h1] at nl;cases nl
  refine⟨l,O,⟨_,M'.of h2⟩,jr (K:=K) (a:=l) (xs:=xs) (fun i σ H'=>∃ v2 ys,σ=[B' (.ref p),B' (.ref g),v2]/\(∀ b o,H2 b=B' o->b≠g->H' b=B' o)/\H' g=B' (.lst ys)/\aK K H' (((v.arr.take i).foldl dA []).map Z6) ys)
   ⟨C',[],rfl,fun b o e _=>e,s2 _ _ h1,O⟩ ?_ ?_ ?_⟩
  .rintro i σ H' _ ⟨_,_,rfl,o3,_⟩
   exact M'.of (o3 _ _ h2 J3)
  .rintro i x σ H3 hx ⟨v2,ys,rfl,o3,h3,d3⟩
   have Ms:Tk H2 H3:=fun b o e z=>o3 b o e (fun q=>by rw[q,s2 _ _ h1] at e;cases e;cases z)
   obtain⟨q,hq,dq⟩:=dU d2 hx;obtain⟨t,rfl,qA⟩:=yq dq;have ht:=Ms.YJ qA;have kl:=Hr (v.arr.take i) [];have Ay:(v.arr.take i).length<=100:=by rw[UH];lia
   have xg:ys.length<=100:=by
    rw[<- d3.length,Us];have e:([]:List Ar).length=0:=rfl;lia
   have e1:(v.arr.take (i+1)).foldl dA []=dA ((v.arr.take i).foldl dA []) q:=by
    rw[bx hq,Vq];rfl
   dsimp only[bN];refine⟨_,O,_,O,t,_,_,_,O,O,ht,O,_,O,t,_,_,_,O,O,ht,O,g,(v.arr.take i).foldl dA [],q.other,q.one,O,⟨ys,M'.of h3,d3⟩,by rw[<- Us (f:=Z6),d3.length];exact xg,fun r2 zs H4 pt s4 h4 _ _=>?_,fun M6 H4 s4=>?_⟩
   .refine⟨_,O,jO O ?_⟩
    refine⟨_,ys,O,fun b o e ne=>s4 _ _ (o3 b o e ne),s4 _ _ h3,?_⟩;rw[e1,vE ⟨zs,pt⟩];exact s4.Yf d3
   .refine⟨_,O,uW O ?_⟩
    have h4:=s4 _ _ h3;refine⟨_,O,.inl ⟨O,_,M'.of h4⟩,_,O,g,_,_,O,O,h4,by rw[Uz];lia,?_⟩;have tk:Tk H4 (upd H4 g (.lst (ys++[.ref t]))):=Tk.upd h4 rfl;refine⟨_,_,O,fun b o e ne=>by rw[ak ne];exact s4 _ _ (o3 b o e ne),ai,?_⟩;rw[e1,qW M6,UC];exact aK.snoc (CM (tk.YJ (s4.YJ ht))) (tk.Yf (cf (fun _=>O) _) (s4.Yf d3))
  .rintro σ H3 ⟨v2,ys,rfl,o3,h3,d3⟩
   rw[<- bw,UO] at d3;exact⟨_,O,k g ys H3 (fun b o e=>o3 b o (s2 _ _ (s1 _ _ e)) (av e ng)) ng h3 d3⟩
def P7 (K:V') (C:F'):Sp:=fun vs H Q _=>∃ p r v,vs=[.ref p]/\cC K C H p r v/\v.arr.length<=100/\(v.arr.map Ar.num).Nodup/\∀ k H',af H H'->H k=C'->H' k=B' (.lst ((gu v.arr).map V.int))->Q (.ref k) H'
theorem Qw (T:Tx K mg a):YD P w K mg base Yj 3 "turned" ["net"] [] (P7 K a.Net):=T.Qjx.Ym fun f fd F=>by
 have dO:=Rr (P:=P) (w:=w) (base:=base) T;have Qbh:=BC (P:=P) (w:=w) (base:=base) T;refine F.ok JM (fun vs H Q E h=>?_) (fun aD A outer s H vs Q E hr h=>?_)
 .obtain⟨p,r,v,rfl,_⟩:=h
  rfl
 .obtain⟨p,r,v,rfl,N,hk,nd,k⟩:=h
  refine⟨_,(aq (aQ (i:=1) JM.nd O (.inr O) (bD dO (hr.mono (by decide)) rfl (ag (pv 0) aj)))
   (ay (bv (dF (N:=["arrow","kept"]) (cap:=[C',B' 1]) O (cq (osc:=aF BM) (XN:=["net","kept"]) O O (by decide +kernel)) (bY (kC (pv 0) T.Yu Qbh (hr.mono (by decide)))) (fun cl C s H fp aa=>(aE (i:=0) (show(["arrow","kept"]:List K').Nodup by decide +kernel) rfl (.inl rfl))) (fun cl C s H fp aa=>qp (bG (Ps (K:=K) O hr.units) (pv 0) (pv 1) (by with_unfolding_all rfl))) (fun cl C s H fp aa=>(aG (jt (K:=K) O) (pv 0) ao (fun _ _=>O))))))),?_⟩
  refine⟨_,O,p,r,v,O,N,hk,fun g ys H1 s1 ng h1 d1=>?_⟩;have N1:=N.same s1;obtain⟨dx,hp⟩:=N1.ex;refine⟨_,O,p,dx,_,O,hp,by rfl,p,r,v,O,N1,by rw[Us];lia,fun l H2 xs s2 nl h2 d2 _=>?_⟩;have bw:v.arr.length=xs.length:=by rw[<- d2.length,Us]
  refine⟨l,O,⟨_,M'.of h2⟩,fun D hD=>?_⟩;refine fQ (K:=K) (a:=l) (xs:=xs) (fun i τ H'=>∃ v1,τ=[v1,B' (.ref g)]/\af H2 H'/\H' D=B' (.lst ((((v.arr.take i).filter fun q=>!Z7 (jT v.arr) q).map Ar.num).map V.int))) ⟨C',O,af.new hD,ai⟩ ?_ ?_ ?_
  .rintro i τ H' _ ⟨v1,rfl,sm,hy⟩
   exact M'.of (sm _ _ h2)
  .rintro i x τ H' hx ⟨v1,rfl,sm,hy⟩
   obtain⟨q,hq,dq⟩:=dU d2 hx;obtain⟨t,rfl,ht⟩:=yq (sm.dt dq);have fl:(v.arr.take (i+1)).filter (fun q=>!Z7 (jT v.arr) q)=(v.arr.take i).filter (fun q=>!Z7 (jT v.arr) q)++(if (!Z7 (jT v.arr) q)=D' then[q] else[]):=by
    rw[bx hq,Vz];cases e:Z7 (jT v.arr) q<;>simp[e]
   dsimp only[bN];refine⟨_,O,_,O,g,(jT v.arr).map Z6,ys,Z6 q,O,M'.of (sm _ _ (s2 _ _ h1)),sm.Yf (s2.Yf d1),CM ht,B6 (fun q=>ON q) _,_,O,?_⟩;show if (!Z7 (jT v.arr) q)=D' then _ else _;refine bo (fun c=>?_) (fun c=>?_)
   .refine⟨_,O,t,_,_,_,O,O,ht,O,_,hy,?_,_,O,?_,?_⟩
    .rw[Us,Us,Uz]
     have:=U0 (fun q=>!Z7 (jT v.arr) q) (v.arr.take i);rw[UH] at this;lia
    .intro b u e
     rw[ak (av e hD)];exact sm b u e
    .rw[ai,fl,XR c,UC,UC]
     rfl
   .refine⟨_,O,sm,?_⟩
    rw[fl,W' (by rw[c];decide),Vc];exact hy
  .rintro τ H' ⟨v1,rfl,sm,hy⟩
   rw[<- bw,UO,Tc nd] at hy;have s3:=s1.trans (s2.trans sm);refine k D H' s3 ?_ hy;cases e:H D with
   | none=>rfl
   | some o=>
    rw[(s1.trans s2) _ _ e] at hD;cases hD
end
end Nt
theorem Gu {k:Key}:∀ (kvs m:List (Key×V)),(∀ kv∈kvs,kv.1≠k)->aU (kvs.foldl fU m) k=aU m k
 | [],_,_=>rfl
 | kv::r,m,h=>by
  show aU (r.foldl fU (fU m kv)) k=_;rw[Gu r _ fun x hx=>h x (UI _ hx)];unfold fU;rw[vi,W' (XW (h kv UQ))]
theorem Gk {α:Type}{x:α}:∀ {l:List α}{i:Nat},l[i]?=B' x->l=l.take i++x::l.drop (i+1)
 | y::l,0,h=>by
  obtain rfl:y=x:=YB h;rfl
 | y::l,i+1,h=>by
  show y::l=y::(l.take i++x::l.drop (i+1));rw[<- Gk (show l[i]?=B' x from h)]
theorem So {kvs:List (Key×V)}{kv:Key×V} (nd:(kvs.map (·.1)).Nodup) (h:kvs[i]?=B' kv):aU (ZG kvs) kv.1=B' kv.2:=by
 have es:=Gk h;generalize kvs.take i=l at es;generalize kvs.drop (i+1)=r at es;subst es;unfold ZG;rw[Vq];show aU (r.foldl fU (fU (l.foldl fU []) kv)) kv.1=_;rw[UC,Vb,Qeh,WN] at nd;rw[Gu r _ fun x hx e=>nd.2.1.1 (YL.mpr ⟨x,hx,e⟩)];unfold fU;rw[vi,XR rfl]
def ix (ws:List K') (n:K'):Int:=(ws.idxOf n:Nat)
theorem Qkw {n:K'} (h:n∈ws):ws[ws.idxOf n]?=B' n:=by
 have:=WV h;rw[Uy this,List.getElem_idxOf]
def eV:Nat->List K'->List (Key×V)
 | _,[]=>[]
 | i,n::r=>(X5 n,.int (i:Int))::eV (i+1) r
theorem Cq:∀ (ws:List K') (i:Nat),(eV i ws).length=ws.length
 | [],_=>rfl
 | n::r,i=>by show(eV (i+1) r).length+1=_;rw[Cq r];rfl
theorem JA:∀ (ws:List K') (i:Nat),(eV i ws).map (·.1)=ws.map X5
 | [],_=>rfl
 | n::r,i=>by show X5 n::(eV (i+1) r).map (·.1)=_;rw[JA r];rfl
theorem Hj:∀ (ws:List K') (i j:Nat) (n:K'),ws[j]?=B' n->(eV i ws)[j]?=B' (X5 n,.int ((i+j:Nat):Int))
 | x::r,i,0,n,h=>by
  obtain rfl:x=n:=YB h;rfl
 | x::r,i,j+1,n,h=>by
  show(eV (i+1) r)[j]?=_;rw[Hj r (i+1) j n h];congr 3;lia
theorem GZ:∀ (ws:List K') (i:Nat) (n:K'),eV i (ws++[n])=eV i ws++[(X5 n,.int ((i+ws.length:Nat):Int))]
 | [],i,n=>rfl
 | x::r,i,n=>by
  show _::eV (i+1) (r++[n])=_::(eV (i+1) r++_);rw[GZ r (i+1) n,UR,show i+1+r.length=i+(r.length+1) by lia]
def Qch (ws:List K'):List (Key×V):=ZG (eV 0 ws)
theorem BZ (nd:ws.Nodup){n:K'} (h:n∈ws):aU (Qch ws) (X5 n)=B' (.int (ix ws n)):=by
 have h1:=Hj ws 0 _ n (Qkw h);have bA:((eV 0 ws).map (·.1)).Nodup:=by
  rw[JA,Wu,XM];rw[Wu] at nd;exact nd.imp fun z e=>z (Qbt e)
 have:=So bA h1;rw[XD] at this;exact this
section
variable {K:V'}
theorem fh.tk {H H':Hp} (t:Tk H H'):∀ {kvs:List (Key×V)}{ys:List V},fh K H kvs ys->fh K H' kvs ys
 | [],_,h=>h
 | _::_,_,h=>by
  obtain⟨q,kO,e,h1,h2⟩:=h;exact⟨q,kO,e,t.YJ h1,fh.tk t h2⟩
theorem fh.snoc {H:Hp}{kv:Key×V}{t:F'} (ht:Ya K H t [kV kv.1,kv.2]):∀ {kvs:List (Key×V)}{ys:List V},fh K H kvs ys->fh K H (kvs++[kv]) (ys++[.ref t])
 | [],_,h=>by
  obtain rfl:_=[]:=h;exact⟨t,[],O,ht,O⟩
 | _::_,_,h=>by
  obtain⟨q,kO,rfl,h1,h2⟩:=h;exact⟨q,_,O,h1,fh.snoc ht h2⟩
theorem fh.len {H:Hp}:∀ {kvs:List (Key×V)}{ys:List V},fh K H kvs ys->kvs.length=ys.length
 | [],_,h=>by rw[show _=[] from h];rfl
 | _::_,_,h=>by
  obtain⟨q,kO,rfl,h1,h2⟩:=h;rw[UR,UR,fh.len h2]
end
namespace Nt
def iz (ws:List K') (tn:List Int) (q:Ar):Wi:=if q.num∈tn then(ix ws q.other,ix ws q.one,q.span,q.weight) else(ix ws q.one,ix ws q.other,q.span,q.weight)
def mi (ws:List K') (q:K'×K'):List Wi:=[(ix ws q.1,ix ws q.2,0,0),(ix ws q.2,ix ws q.1,0,0)]
def vq (ws:List K') (q:K'×K'×Int):Wi:=(ix ws q.2.1,ix ws q.1,0-q.2.2,0)
def fc (ws:List K') (v:eZ):List Wi:=v.arr.map (iz ws (gu v.arr))++v.ss.flatMap (mi ws)++v.mm.map (vq ws)
section
variable {K:V'}
structure Acc (K:V') (g:F') (B H:Hp) (dn:List Wi):Prop where
 old:∀ b o,B b=B' o->b≠g->H b=B' o
 tp:∀ ys,H g=B' (.lst ys)->Zi H ys
 l:∃ ys,H g=B' (.lst ys)/\aK K H (dn.map wD) ys
theorem Acc.put {ys:List V}{q:Wi} (old:∀ b o,B b=B' o->b≠g->H b=B' o) (tp:Zi H ys) (hy:H g=B' (.lst ys)) (dy:aK K H (dn.map wD) ys) (s:af H H1) (hz:H1 z=B' (.tup (wV q))):Acc K g B (upd H1 g (.lst (ys++[.ref z]))) (dn++[q]):=by
 have FC:=s _ _ hy;have tk:Tk H1 (upd H1 g (.lst (ys++[.ref z]))):=Tk.upd FC rfl;have KB:z≠g:=cU hz FC (by intro q;cases q);refine⟨fun b o e ne=>by rw[ak ne];exact s _ _ (old b o e ne),fun kO e=>?_,_,ai,?_⟩
 .rw[ai] at e
  cases e
  exact Zi.snoc (tp.tk ((Tk.of s).trans tk)) (by rw[ak KB];exact hz)
 rw[UC];exact aK.snoc (Qfl (tk.YJ (Ya.of hz))) (tk.Yf (cf (fun _=>O) _) (s.Yf dy))
structure Wn (ws:List K') (v:eZ):Prop where
 keys:Ys v.kvs=ws.map V.str
 nd:ws.Nodup
 len:ws.length<=100
 nums:(v.arr.map Ar.num).Nodup
 la:v.arr.length<=100
 ls:v.ss.length<=100
 lm:v.mm.length<=100
 ea:∀ q∈v.arr,q.one∈ws/\q.other∈ws
 es:∀ q∈v.ss,q.1∈ws/\q.2∈ws
 em:∀ q∈v.mm,q.1∈ws/\q.2.1∈ws
def QO (K:V') (C:F'):Sp:=fun vs H Q _=>∃ p r v ws,vs=[.ref p]/\cC K C H p r v/\Wn ws v/\∀ l ys H',af H H'->H l=C'->H' l=B' (.lst ys)->aK K H' ((fc ws v).map wD) ys->Zi H' ys->Q (.ref l) H'
theorem Q9 (l:List Int):(l.map V.int).all jk=D':=by
 induction l with
 | nil=>rfl
 | cons x l ih=>exact ih
theorem Pu (n:Int) (l:List Int):inV (.int n) (l.map V.int)=decide (n∈l):=by
 induction l with
 | nil=>rfl
 | cons x l ih=>
  show(Z0 (.int x) (.int n) || inV (.int n) (l.map V.int))=_;rw[ih];by_cases h:x=n
  .subst h
   simp[Z0]
  .simp[Z0,h,XW h]
theorem xW (ws:List K'):∀ l:List (K'×K'),(l.flatMap (mi ws)).length=2*l.length
 | []=>rfl
 | q::l=>by rw[XO,UB,xW ws l,UR];show 2+_=_;lia
theorem QcH (T:Tx K mg a):YD P w K mg base Yj 4 "wishes_of" ["net"] [] (QO K a.Net):=T.Qjy.Ym fun f fd F=>by
 have ju:=Qw (P:=P) (w:=w) (base:=base) T;have Qam:=vm (P:=P) (w:=w) (base:=base) T;have Qbh:=BC (P:=P) (w:=w) (base:=base) T;have QdN:=OV (P:=P) (w:=w) (base:=base) T;have QdO:=NW (P:=P) (w:=w) (base:=base) T;refine F.ok iC (fun vs H Q E h=>?_) (fun aD A outer s H vs Q E hr h=>?_)
 .obtain⟨p,r,v,ws,rfl,_⟩:=h
  rfl
 .obtain⟨p,r,v,ws,rfl,N,W,k⟩:=h
  obtain⟨dx,hp⟩:=N.ex;refine⟨_,(aq (aQ (i:=1) iC.nd O (.inl O) (rh P6 O T.QcF yk (ag (dF (N:=["number","name"]) (cap:=[C',C']) O (cq (osc:=aF BX) (XN:=["net","numbers","turned_about","wishes","number","one","other","span","weight"]) O O (by decide +kernel)) (mz rfl T.Qas (ag (kC (pv 0) T.Yu Qam (hr.mono (by decide))) aj)) (fun cl C s H fp aa=>(jS (K:=K) (n:=2) O O (aM (aE (i:=0) (show(["number","name"]:List K').Nodup by decide +kernel) rfl (.inl rfl)) (aM (aE (i:=1) (show(["number","name"]:List K').Nodup by decide +kernel) rfl (.inl rfl)) cD)))) (fun cl C s H fp aa=>dE) (fun cl C s H fp aa=>(cw (ag (pv 1) (ag (pv 0) aj))))) aj)))
   (aq (aQ (i:=2) iC.nd O (.inl O) (bD ju (hr.mono (by decide)) rfl (ag (pv 0) aj)))
   (aq (aQ (i:=3) iC.nd O (.inl O) (bZ aj))
   (aq (cV YS rfl (bY (kC (pv 0) T.Yu Qbh (hr.mono (by decide)))) (fe rfl (aM (aE (i:=4) iC.nd O (.inl O)) (aM (aE (i:=5) iC.nd O (.inl O)) (aM (aE (i:=6) iC.nd O (.inl O)) (aM (aE (i:=7) iC.nd O (.inl O)) (aM (aE (i:=8) iC.nd O (.inl O)) cD)))))) (ay (bU (bG PF (pv 4) (pv 2) (by with_unfolding_all rfl)) (ay (bC (c7 YY Zl Zp ek (pv 3) (ag (cw (ag (cN (bf hr) (pv 1) (pv 6) (fun _ _=>O)) (ag (cN (bf hr) (pv 1) (pv 5) (fun _ _=>O)) (ag (pv 7) (ag (pv 8) aj))))) aj)))) (ay (bC (c7 YY Zl Zp ek (pv 3) (ag (cw (ag (cN (bf hr) (pv 1) (pv 5) (fun _ _=>O)) (ag (cN (bf hr) (pv 1) (pv 6) (fun _ _=>O)) (ag (pv 7) (ag (pv 8) aj))))) aj)))))))
   (aq (cV YS rfl (bY (kC (pv 0) T.Yu QdN (hr.mono (by decide)))) (fe rfl (aM (aE (i:=5) iC.nd O (.inl O)) (aM (aE (i:=6) iC.nd O (.inl O)) cD))) (aq (bC (c7 YY Zl Zp ek (pv 3) (ag (cw (ag (cN (bf hr) (pv 1) (pv 5) (fun _ _=>O)) (ag (cN (bf hr) (pv 1) (pv 6) (fun _ _=>O)) (ag ao (ag ao aj))))) aj)))
   (ay (bC (c7 YY Zl Zp ek (pv 3) (ag (cw (ag (cN (bf hr) (pv 1) (pv 6) (fun _ _=>O)) (ag (cN (bf hr) (pv 1) (pv 5) (fun _ _=>O)) (ag ao (ag ao aj))))) aj))))))
   (aq (cV YS rfl (bY (kC (pv 0) T.Yu QdO (hr.mono (by decide)))) (fe rfl (aM (aE (i:=5) iC.nd O (.inl O)) (aM (aE (i:=6) iC.nd O (.inl O)) (aM (aE (i:=4) iC.nd O (.inl O)) cD)))) (ay (bC (c7 YY Zl Zp ek (pv 3) (ag (cw (ag (cN (bf hr) (pv 1) (pv 6) (fun _ _=>O)) (ag (cN (bf hr) (pv 1) (pv 5) (fun _ _=>O)) (ag (aH g8 ao (pv 4)) (ag ao aj))))) aj)))))
   (ay (bv (pv 3))))))))),?_⟩
  refine⟨_,O,p,dx,_,O,hp,by rfl,p,r,v,O,N,fun l nl=>?_⟩;rw[W.keys];have s1:af H (upd H l (.lst (ws.map V.str))):=af.new nl;have h1:upd H l (.lst (ws.map V.str)) l=B' (.lst (ws.map V.str)):=ai;generalize upd H l (.lst (ws.map V.str))=H1 at s1 h1 ⊢;refine⟨l,O,⟨_,M'.of h1⟩,fun D hD=>?_⟩;refine IZ (K:=K) (l:=l) (xs:=ws.map V.str) (fun j τ H'=>∃ v1 v2 us,τ=[v1,v2]/\af H1 H'/\H' D=B' (.lst us)/\fh K H' (eV 0 (ws.take j)) us) ⟨C',C',[],rfl,af.new hD,ai,by rw[VY];rfl⟩ ?_ ?_ ?_
  .rintro j τ H' _ ⟨_,_,_,rfl,sm,_⟩
   exact M'.of (sm _ _ h1)
  .rintro j y tt τ H' hy nt ⟨v1,v2,us,rfl,sm,AB,Fx⟩
   obtain⟨n,hn,rfl⟩:=QbP.mp ((UJ (f:=V.str) (l:=ws) (i:=j)).symm.trans hy);have hj:j<ws.length:=(Yi.mp hn).1;have hW:=W.len;have ul:us.length<=j:=by
    rw[<- fh.len Fx,Cq,UH];lia
   have s3:af H' (upd H' tt (.tup [.int j,.str n])):=af.new nt;have Ef:upd H' tt (.tup [.int j,.str n]) tt=B' (.tup [.int j,.str n]):=ai;generalize upd H' tt (.tup [.int j,.str n])=H3 at s3 Ef ⊢;refine⟨tt,_,O,Ya.of Ef,O,_,_,O,_,_,O,O,?_⟩;refine⟨_,O,_,O,(by show 2<=XX;decide),fun z nz=>?_⟩;have s4:af H3 (upd H3 z (.tup [.str n,.int j])):=af.new nz;have EH:upd H3 z (.tup [.str n,.int j]) z=B' (.tup [.str n,.int j]):=ai;generalize upd H3 z (.tup [.str n,.int j])=H4 at s4 EH ⊢;have t4:=s3.trans s4;have DE:=t4 _ _ AB;have tk:Tk H4 (upd H4 D (.lst (us++[.ref z]))):=Tk.upd DE rfl;refine⟨_,DE,by rw[Uz];lia,_,_,_,O,fun b u e=>by rw[ak (av e hD)];exact t4 _ _ (sm b u e),ai,?_⟩;rw[bx hn,GZ,UH,Xf (VE hj),XD];exact fh.snoc (kv:=(X5 n,.int (j:Int))) (tk.YJ (Ya.of EH)) (((Tk.of t4).trans tk |> fun t=>fh.tk t Fx))
  rintro τ H2 ⟨v1,v2,us,rfl,s2,D6,p2⟩
  rw[Us,UO] at p2;refine⟨D,us,eV 0 ws,O,M'.of D6,p2,by rw[Cq];have:=W.len;lia,fun d nd=>?_⟩;have s3:af H2 (upd H2 d (.dK (Qch ws))):=af.new nd;have wO:upd H2 d (.dK (Qch ws)) d=B' (.dK (Qch ws)):=ai
  change upd H2 d (.dK (ZG (eV 0 ws))) d=_ at wO
  change af H2 (upd H2 d (.dK (ZG (eV 0 ws)))) at s3
  generalize upd H2 d (.dK (ZG (eV 0 ws)))=H3 at s3 wO ⊢;have t3:=s1.trans (s2.trans s3);have N3:=N.same t3;refine⟨_,O,p,r,v,O,N3,W.la,W.nums,fun ab H4 s4 T2 h4=>?_⟩;refine⟨(by show 0<=XX;decide),fun g ng=>?_⟩;have oZ:H g=C':=by
   cases e:H g with
   | none=>rfl
   | some o=>
    have:=s4 _ _ (t3 _ _ e);rw[ng] at this;cases this
  have s5:af H4 (upd H4 g (.lst [])):=af.new ng;have rS:upd H4 g (.lst []) g=B' (.lst []):=ai;have dg:d≠g:=av (s4 _ _ wO) ng;have ME:ab≠g:=av h4 ng;generalize upd H4 g (.lst [])=H5 at s5 rS ⊢;have D8:=s5 _ _ (s4 _ _ wO);have Mg:=s5 _ _ h4;have N5:=(N3.same s4).same s5;have t5:af H H5:=t3.trans (s4.trans s5);clear s4 s3 p2 D6 s2 h1 s1 h4 N3 t3;obtain⟨zG,sh⟩:=N5.ex;have wl:=W.la;have T9:=W.ls;have TR:=W.lm;refine⟨_,O,p,zG,_,O,sh,by rfl,p,r,v,O,N5,by rw[Us];lia,fun l6 H6 xs s6 n6 h6 d6 _=>?_⟩;have bw:v.arr.length=xs.length:=by rw[<- d6.length,Us]
  have lg:l6≠g:=fun e=>by rw[e,rS] at n6;cases n6
  refine⟨l6,O,⟨_,M'.of h6⟩,jr (K:=K) (a:=l6) (xs:=xs) (fun i σ H'=>∃ v4 v5 v6 v7 v8,σ=[B' (.ref p),B' (.ref d),B' (.ref ab),B' (.ref g),v4,v5,v6,v7,v8]/\Acc K g H6 H' ((v.arr.take i).map (iz ws (gu v.arr)))) ⟨C',C',C',C',C',rfl,⟨fun b o e _=>e,(fun ys e=>by rw[s6 _ _ rS] at e;cases e;exact Zi.nil),[],s6 _ _ rS,by rw[VY];rfl⟩⟩ ?_ ?_ ?_⟩
  .rintro i σ H' _ ⟨_,_,_,_,_,rfl,A7⟩
   exact M'.of (A7.old _ _ h6 lg)
  .rintro i y σ H7 hy ⟨v4,v5,v6,v7,v8,rfl,A7⟩
   obtain⟨q,hq,dq⟩:=dU d6 hy;have Ay:i<v.arr.length:=(Yi.mp hq).1;have Ng:Tk H6 H7:=fun b o e z=>A7.old b o e (fun w=>by rw[w,s6 _ _ rS] at e;cases e;cases z)
   obtain⟨tq,rfl,uK⟩:=yq dq;have wK:=UF hq;obtain⟨e1,e2⟩:=W.ea q wK;obtain⟨ys,jb,tR⟩:=A7.l;have yl:ys.length<=i:=by
    rw[<- tR.length,Us,Us,UH];lia
   have uu:=A7.old _ _ (s6 _ _ D8) dg;have KH:=A7.old _ _ (s6 _ _ Mg) ME;have gN:∀ n∈ws,bS H7 d (.str n) (B' (.int (ix ws n))):=fun n hn=>by
    rw[<- BZ W.nd hn];exact bS.k (k:=X5 n) uu
   have et:(v.arr.take (i+1)).map (iz ws (gu v.arr))=(v.arr.take i).map (iz ws (gu v.arr))++[iz ws (gu v.arr) q]:=by rw[bx hq,UC];rfl
   refine⟨tq,_,O,Ng.YJ uK,O,_,_,O,_,_,O,_,_,O,_,_,O,_,_,O,O,?_⟩;refine⟨_,O,_,O,ab,_,O,.inl (M'.of KH),O,Q9 _,_,O,?_⟩;rw[Pu];refine bo (fun c=>?_) (fun c=>?_)
   .have c':q.num∈gu v.arr:=UM c
    refine⟨_,O,.inl ⟨O,_,M'.of jb⟩,_,O,_,O,d,_,O,gN _ e2,_,O,_,O,d,_,O,gN _ e1,_,O,_,O,(by show 4<=XX;decide),fun z nz=>?_⟩;have s8:=af.new (o:=.tup [.int (ix ws q.other),.int (ix ws q.one),.int q.span,.int q.weight]) nz;refine⟨g,_,_,O,O,s8 _ _ jb,by rw[Uz];lia,_,_,_,_,_,O,?_⟩;rw[et];exact Acc.put A7.old (A7.tp _ jb) jb tR s8 (by rw[ai];unfold iz;rw[XR c'];rfl)
   .have c':q.num∉gu v.arr:=U2 c
    refine⟨_,O,.inl ⟨O,_,M'.of jb⟩,_,O,_,O,d,_,O,gN _ e1,_,O,_,O,d,_,O,gN _ e2,_,O,_,O,(by show 4<=XX;decide),fun z nz=>?_⟩;have s8:=af.new (o:=.tup [.int (ix ws q.one),.int (ix ws q.other),.int q.span,.int q.weight]) nz;refine⟨g,_,_,O,O,s8 _ _ jb,by rw[Uz];lia,_,_,_,_,_,O,?_⟩;rw[et];exact Acc.put A7.old (A7.tp _ jb) jb tR s8 (by rw[ai];unfold iz;rw[W' c'];rfl)
  rintro σ H7 ⟨v4,v5,v6,v7,v8,rfl,A7⟩
  rw[<- bw,UO] at A7;have Ak:∀ b o,H5 b=B' o->b≠g->H7 b=B' o:=fun b o e ne=>A7.old b o (s6 _ _ e) ne
  have t7:af H H7:=fun b o e=>Ak b o (t5 _ _ e) (av e oZ)
  have N7:=N.same t7;have uu:=Ak _ _ D8 dg;obtain⟨y7,jb,tR⟩:=A7.l;have Mr:=A7.tp _ jb;clear A7 Ak d6 h6 s6 n6 lg bw;obtain⟨NK,KS⟩:=N7.ex;refine⟨_,O,p,NK,_,O,KS,by rfl,p,r,v,O,N7,by rw[Us];lia,fun l6 H8 xs s8 n6 h6 d6 _=>?_⟩;have bw:v.ss.length=xs.length:=by rw[<- d6.length,Us]
  have lg:l6≠g:=fun e=>by rw[e,jb] at n6;cases n6
  have mO:=s8 _ _ jb;refine⟨l6,O,⟨_,M'.of h6⟩,jr (K:=K) (a:=l6) (xs:=xs) (fun i σ H'=>∃ v4 v5 v6 v7 v8,σ=[B' (.ref p),B' (.ref d),B' (.ref ab),B' (.ref g),v4,v5,v6,v7,v8]/\Acc K g H8 H' (v.arr.map (iz ws (gu v.arr))++(v.ss.take i).flatMap (mi ws))) ⟨v4,v5,v6,v7,v8,rfl,⟨fun b o e _=>e,(fun ys e=>by rw[mO] at e;cases e;exact Mr.tk (Tk.of s8)),y7,mO,by rw[VY,List.flatMap_nil,Vc];exact s8.Yf tR⟩⟩ ?_ ?_ ?_⟩
  .rintro i σ H' _ ⟨_,_,_,_,_,rfl,A9⟩
   exact M'.of (A9.old _ _ h6 lg)
  .rintro i y σ H9 hy ⟨v4,v5,v6,v7,v8,rfl,A9⟩
   obtain⟨⟨o,t⟩,hq,dq⟩:=dU d6 hy;have Ay:i<v.ss.length:=(Yi.mp hq).1;have Kn:Tk H8 H9:=fun b o e z=>A9.old b o e (fun w=>by rw[w,mO] at e;cases e;cases z)
   obtain⟨tq,rfl,uK⟩:=FY dq;obtain⟨e1,e2⟩:=W.es _ (UF hq);dsimp only at e1 e2;obtain⟨ys,m4,wL⟩:=A9.l;have fl:=xW ws (v.ss.take i);have yl:ys.length<=300:=by
    rw[<- wL.length,Us,UB,Us,fl,UH];lia
   have wX:=A9.old _ _ (s8 _ _ uu) dg;have gN:∀ {G:Hp},G d=B' (.dK (Qch ws))->∀ n∈ws,bS G d (.str n) (B' (.int (ix ws n))):=fun hG n hn=>by
    rw[<- BZ W.nd hn];exact bS.k (k:=X5 n) hG
   refine⟨tq,_,O,Kn.YJ uK,O,_,_,O,_,_,O,O,?_⟩;refine⟨_,O,.inl ⟨O,_,M'.of m4⟩,_,O,_,O,d,_,O,gN wX _ e1,_,O,_,O,d,_,O,gN wX _ e2,(by show 4<=XX;decide),fun z nz=>?_⟩;have sa:=af.new (o:=.tup [.int (ix ws o),.int (ix ws t),.int 0,.int 0]) nz;refine⟨g,_,_,O,O,sa _ _ m4,by rw[Uz];lia,?_⟩;have Aa:=Acc.put (q:=(ix ws o,ix ws t,0,0)) A9.old (A9.tp _ m4) m4 wL sa ai;have lD:upd (upd H9 z (.tup [.int (ix ws o),.int (ix ws t),.int 0,.int 0])) g (.lst (ys++[.ref z])) g=B' (.lst (ys++[.ref z])):=ai;generalize upd (upd H9 z (.tup [.int (ix ws o),.int (ix ws t),.int 0,.int 0])) g (.lst (ys++[.ref z]))=Ha at Aa lD ⊢;obtain⟨yb,Es,KU⟩:=Aa.l;rw[lD] at Es;obtain rfl:ys++[.ref z]=yb:=by cases Es;rfl
   have wY:=Aa.old _ _ (s8 _ _ uu) dg;refine⟨_,O,.inl ⟨O,_,M'.of lD⟩,_,O,_,O,d,_,O,gN wY _ e2,_,O,_,O,d,_,O,gN wY _ e1,(by show 4<=XX;decide),fun z2 uA=>?_⟩;have sb:=af.new (o:=.tup [.int (ix ws t),.int (ix ws o),.int 0,.int 0]) uA;refine⟨g,_,_,O,O,sb _ _ lD,by rw[UB,Uz];show _+1<_;lia,?_⟩;have Ab:=Acc.put (q:=(ix ws t,ix ws o,0,0)) Aa.old (Aa.tp _ lD) lD KU sb ai;refine⟨_,_,_,_,_,O,?_⟩;have et:v.arr.map (iz ws (gu v.arr))++(v.ss.take (i+1)).flatMap (mi ws)=v.arr.map (iz ws (gu v.arr))++(v.ss.take i).flatMap (mi ws)++[(ix ws o,ix ws t,0,0)]++[(ix ws t,ix ws o,0,0)]:=by
    rw[bx hq,Xu,Vp,Vp];rfl
   rw[et];exact Ab
  rintro σ H9 ⟨v4,v5,v6,v7,v8,rfl,A9⟩
  rw[<- bw,UO] at A9;have AJ:∀ b o,H7 b=B' o->b≠g->H9 b=B' o:=fun b o e ne=>A9.old b o (s8 _ _ e) ne
  have t9:af H H9:=fun b o e=>AJ b o (t7 _ _ e) (av e oZ)
  have N9:=N.same t9;have wX:=AJ _ _ uu dg;obtain⟨y9,m4,wL⟩:=A9.l;have MH:=A9.tp _ m4;clear A9 AJ d6 h6 s8 n6 lg bw mO;obtain⟨LL,Mt⟩:=N9.ex;refine⟨_,O,p,LL,_,O,Mt,by rfl,p,r,v,O,N9,by rw[Us];lia,fun l6 H8 xs s8 n6 h6 d6 _=>?_⟩;have bw:v.mm.length=xs.length:=by rw[<- d6.length,Us]
  have lg:l6≠g:=fun e=>by rw[e,m4] at n6;cases n6
  have mO:=s8 _ _ m4;refine⟨l6,O,⟨_,M'.of h6⟩,jr (K:=K) (a:=l6) (xs:=xs) (fun i σ H'=>∃ v4 v5 v6 v7 v8,σ=[B' (.ref p),B' (.ref d),B' (.ref ab),B' (.ref g),v4,v5,v6,v7,v8]/\Acc K g H8 H' (v.arr.map (iz ws (gu v.arr))++v.ss.flatMap (mi ws)++(v.mm.take i).map (vq ws))) ⟨v4,v5,v6,v7,v8,rfl,⟨fun b o e _=>e,(fun ys e=>by rw[mO] at e;cases e;exact MH.tk (Tk.of s8)),y9,mO,by rw[VY,W5,Vc];exact s8.Yf wL⟩⟩ ?_ ?_ ?_⟩
  .rintro i σ H' _ ⟨_,_,_,_,_,rfl,Aa⟩
   exact M'.of (Aa.old _ _ h6 lg)
  .rintro i y σ Ha hy ⟨v4,v5,v6,v7,v8,rfl,Aa⟩
   obtain⟨⟨o,t,m⟩,hq,dq⟩:=dU d6 hy;have Ay:i<v.mm.length:=(Yi.mp hq).1;have Mq:Tk H8 Ha:=fun b o e z=>Aa.old b o e (fun w=>by rw[w,mO] at e;cases e;cases z)
   obtain⟨tq,rfl,uK⟩:=IB dq;obtain⟨e1,e2⟩:=W.em _ (UF hq);dsimp only at e1 e2;obtain⟨ys,o5,xh⟩:=Aa.l;have fl:=xW ws v.ss;have yl:ys.length<=400:=by
    rw[<- xh.length,Us,UB,UB,Us,Us,fl,UH];lia
   have wY:=Aa.old _ _ (s8 _ _ wX) dg;have gN:∀ n∈ws,bS Ha d (.str n) (B' (.int (ix ws n))):=fun n hn=>by
    rw[<- BZ W.nd hn];exact bS.k (k:=X5 n) wY
   refine⟨tq,_,O,Mq.YJ uK,O,_,_,O,_,_,O,_,_,O,O,?_⟩;refine⟨_,O,.inl ⟨O,_,M'.of o5⟩,_,O,_,O,d,_,O,gN _ e2,_,O,_,O,d,_,O,gN _ e1,_,O,_,_,O,O,(by show 4<=XX;decide),fun z nz=>?_⟩;have sa:=af.new (o:=.tup [.int (ix ws t),.int (ix ws o),.int (0-m),.int 0]) nz;refine⟨g,_,_,O,O,sa _ _ o5,by rw[Uz];lia,_,_,_,_,_,O,?_⟩;have et:v.arr.map (iz ws (gu v.arr))++v.ss.flatMap (mi ws)++(v.mm.take (i+1)).map (vq ws)=v.arr.map (iz ws (gu v.arr))++v.ss.flatMap (mi ws)++(v.mm.take i).map (vq ws)++[vq ws (o,t,m)]:=by
    rw[bx hq,UC,<- Vp];rfl
   rw[et];exact Acc.put Aa.old (Aa.tp _ o5) o5 xh sa ai
  rintro σ Ha ⟨v4,v5,v6,v7,v8,rfl,Aa⟩
  rw[<- bw,UO] at Aa;obtain⟨ya,o5,xh⟩:=Aa.l;exact⟨_,O,k g ya Ha (fun b o e=>Aa.old b o (s8 _ _ (t9 _ _ e)) (av e oZ)) oZ o5 xh (Aa.tp _ o5)⟩
end
def tw (x:Wi):Wt:=(x.1.toNat,x.2.1.toNat,x.2.2.1,x.2.2.2)
theorem HQ:∀ {l:List Wi},(∀ x∈l,0<=x.1/\0<=x.2.1)->(l.map tw).map wI=l
 | [],_=>rfl
 | x::l,h=>by
  have h1:=h x UQ;rw[Vb,Vb,HQ fun y hy=>h y (UI _ hy)];show(((x.1.toNat:Nat):Int),((x.2.1.toNat:Nat):Int),x.2.2.1,x.2.2.2)::l=_;rw[Xv h1.1,Xv h1.2]
theorem kA (h:s∈ws):0<=ix ws s/\ix ws s<ws.length:=by
 have:=WV h;unfold ix;lia
theorem O0 {v:eZ} (h:Wn ws v) (hw:∀ q∈v.arr,0<=q.weight/\q.weight<2 ^ 61):∀ x∈fc ws v,((0<=x.1/\x.1<ws.length)/\0<=x.2.1/\x.2.1<ws.length)/\0<=x.2.2.2/\x.2.2.2<2 ^ 61:=fun x hx=>by
 have z:(0:Int)<=0/\(0:Int)<2 ^ 61:=by decide
 unfold fc at hx;rcases YK.mp hx with hx|hx
 .rcases YK.mp hx with hx|hx
  .obtain⟨q,hq,rfl⟩:=YL.mp hx
   obtain⟨e1,e2⟩:=h.ea q hq;unfold iz;split
   .exact⟨⟨kA e2,kA e1⟩,hw q hq⟩
   .exact⟨⟨kA e1,kA e2⟩,hw q hq⟩
  .obtain⟨q,hq,hx⟩:=List.mem_flatMap.mp hx
   obtain⟨e1,e2⟩:=h.es q hq;unfold mi at hx;rcases U1.mp hx with hx|hx
   .rw[hx]
    exact⟨⟨kA e1,kA e2⟩,z⟩
   .rw[XC.mp hx]
    exact⟨⟨kA e2,kA e1⟩,z⟩
 .obtain⟨q,hq,rfl⟩:=YL.mp hx
  obtain⟨e1,e2⟩:=h.em q hq;exact⟨⟨kA e2,kA e1⟩,z⟩
theorem QdT (ws:List K') (v:eZ):(fc ws v).length=v.arr.length+2*v.ss.length+v.mm.length:=by
 unfold fc;rw[UB,UB,Us,Us,xW]
section
variable {K:V'}
def Qkx (K:V') (t:Zx):Sp:=fun vs H Q E=>∃ p r v ws,vs=[.ref p]/\cC K t.Net H p r v/\Wn ws v/\(∀ q∈v.arr,0<=q.weight/\q.weight<2 ^ 61)/\v.arr.length+2*v.ss.length+v.mm.length<=200/\H t.QaZ=B' (.Y1 lY mw) /\
 (∀ g d fA fl H',af H H'->H fA=C'->H' g=B' (.tup [.ref d,.ref fA])->H' fA=B' (.lst ((fl:List Int).map V.int))->fl.length=(fc ws v).length->Q (.ref g) H')/\∀ dx H',af H H'->E (.ref t.Ring) (B' dx) H'
theorem Qb (T:Tx K mg a):YD P w K mg base (Zh P w) 8 "levelled" ["net"] [] (Qkx K a):=T.Qjz.Ym fun f fd F=>by
 have pb:=OW (P:=P) (w:=w) (base:=base) T;have aJ:=QcH (P:=P) (w:=w) (base:=base) T;have Qam:=vm (P:=P) (w:=w) (base:=base) T;refine F.okX CY (fun vs H Q E h=>?_) (fun aD A outer s H vs Q E hr h=>?_)
 .obtain⟨p,r,v,ws,rfl,_⟩:=h
  rfl
 .obtain⟨p,r,v,ws,rfl,N,wn,lF,sV,iP,k1,k2⟩:=h
  have wB:=O0 wn lF;have EG:=QdT ws v;have pr:=wn.len;obtain⟨dx,hp⟩:=N.ex;refine⟨_,(aq (aQ (i:=1) CY.nd O (.inl O) (kC (pv 0) T.Yu Qam (hr.mono (by decide))))
   (aq (aQ (i:=2) CY.nd O (.inl O) (CU pb eN (hr.mono (by decide)) rfl (ag (bM fW rfl T.Zb dZ (ag (pv 1) aj)) (ag (bD aJ (hr.mono (by decide)) rfl (ag (pv 0) aj)) aj))))
   (ay (bv (cw (ag (Qs rfl T.QcF rfl T.Qcg (ag (pv 1) (ag (aG ff (pv 2) ao (fun _ _=>O)) aj))) (ag (aG ff (pv 2) ao (fun _ _=>O)) aj))))))),?_⟩
  refine⟨_,O,p,dx,_,O,hp,by rfl,p,r,v,O,N,fun l nl=>?_⟩;rw[wn.keys];have s1:af H (upd H l (.lst (ws.map V.str))):=af.new nl;have h1:upd H l (.lst (ws.map V.str)) l=B' (.lst (ws.map V.str)):=ai;generalize upd H l (.lst (ws.map V.str))=H1 at s1 h1 ⊢;refine⟨_,O,l,_,O,.inl (M'.of h1),_,O,p,r,v,ws,O,N.same s1,wn,fun l2 ys H2 s2 TM bH c9 _=>?_⟩;have t2:=s1.trans s2;have ew:=HQ (l:=fc ws v) fun x hx=>⟨(wB x hx).1.1.1,(wB x hx).1.2.1⟩
  have Bd:mD K H2 l2 (((fc ws v).map tw).map wI):=by
   rw[ew];exact⟨ys,M'.of bH,c9⟩
  have cl:(ws.map V.str).length=ws.length:=Us _;refine⟨l2,(fc ws v).map tw,(ws.map V.str).length,O,Bd,fun x hx=>?_,fun x hx=>?_,by rw[Us];lia,by lia,t2 _ _ iP,fun pl fl gt pA fA H3 s3 zd Fl T0 mN Ua LC lU _ lk=>?_,fun ring lr dx H3 s3 _ _ _ _=>k2 dx H3 (t2.trans s3)⟩
  .obtain⟨y,hy,rfl⟩:=YL.mp hx
   have:=(wB y hy).1;show y.1.toNat<_/\y.2.1.toNat<_;lia
  .obtain⟨y,hy,rfl⟩:=YL.mp hx
   exact(wB y hy).2
  have lp:=lk.lp;have lf:=lk.lf;rw[Us] at lf;have Mv:=s3 _ _ (s2 _ _ h1);refine⟨_,O,_,O,gt,_,_,_,O,O,Ya.of Fl,O,l,pA,ws.map X5,pl.map V.int,O,by rw[Wo];exact M'.of Mv,M'.of LC,by rw[Us,Us];lia,by rw[Us];lia,fun d nd=>?_⟩;have s4:af H3 (upd H3 d (.dK (ZG ((ws.map X5).zip (pl.map V.int))))):=af.new nd;generalize upd H3 d (.dK (ZG ((ws.map X5).zip (pl.map V.int))))=H4 at s4 ⊢;refine⟨_,O,gt,_,_,_,O,O,Ya.of (s4 _ _ Fl),O,(by show 2<=XX;decide),fun q nq=>?_⟩;have s5:af H4 (upd H4 q (.tup [.ref d,.ref fA])):=af.new nq;exact k1 q d fA fl _ (t2.trans (s3.trans (s4.trans s5))) (none_of t2 mN) ai (s5 _ _ (s4 _ _ lU)) lf
end
def gO (old:XZ) (s:K'):Int:=match aU old (X5 s) with
 | some (.int i)=>i
 | _=>0
def QcI (old:XZ):Prop:=∀ s,has old s=D'->aU old (X5 s)=B' (.int (gO old s))
def Qfr (x:Int):Int:=if x<0 then -x else x
def mvL (ws:List K') (old lv:XZ):List Int:=(ws.filter (has old)).map fun s=>Qfr (gO lv s-gO old s)
def aW (W:List Wi):List Wi:=W.map fun x=>(x.1,x.2.1,x.2.2.1,0)
def bW (l:List (Wi×Int)):List Wi:=(l.filter fun p=>decide (0<p.2)).map fun p=>(p.1.2.1,p.1.1,0-p.1.2.2.1,0)
def cW (n i:Nat):List Wi:=(YM i).map fun k:Nat=>((n:Int),((k:Nat):Int),0,0)
def hl (ws:List K') (old:XZ) (i:Nat):List Nat:=(YM i).filter fun k=>has old (ws.getD k "")
def eW (ws:List K') (old:XZ) (l:List Nat):List Wi:=l.zipIdx.flatMap fun p:Nat×Nat=>[((ws.length:Int)+1+(p.2:Nat),((p.1:Nat):Int),0,1),((ws.length:Int)+1+(p.2:Nat),(ws.length:Int),0-gO old (ws.getD p.1 ""),1)]
def agW (ws:List K') (W:List Wi) (old:XZ) (fl:List Int):List Wi:=aW W++bW (W.zip fl)++cW ws.length ws.length++eW ws old (hl ws old ws.length)
theorem IE (l:List (Wi×Int)) (p:Wi×Int):bW (l++[p])=bW l++if 0<p.2 then[(p.1.2.1,p.1.1,0-p.1.2.2.1,0)] else[]:=by
 unfold bW;rw[Vz,UC];congr 1;by_cases c:0<p.2
 .rw[XR c,UX,XR (UW c)]
  rfl
 .rw[W' c,UX,W' (by rw[Ve c];exact UL)]
  rfl
theorem GX (n i:Nat):cW n (i+1)=cW n i++[((n:Int),(i:Int),0,0)]:=by
 unfold cW;rw[Wx,UC];rfl
theorem Im (old:XZ) (h:ws[i]?=B' s):hl ws old (i+1)=hl ws old i++if has old s=D' then[i] else[]:=by
 have e:ws.getD i ""=s:=by rw[Ux,h];rfl
 unfold hl;rw[Wx,Vz];congr 1;by_cases c:has old s=D'
 .rw[XR c,UX,XR (by rw[e];exact c)]
  rfl
 .rw[W' c,UX,W' (by rw[e];exact c)]
  rfl
theorem F9 (ws:List K') (old:XZ) (l:List Nat) (k:Nat):eW ws old (l++[k])=eW ws old l++[((ws.length:Int)+1+(l.length:Nat),((k:Nat):Int),0,1),((ws.length:Int)+1+(l.length:Nat),(ws.length:Int),0-gO old (ws.getD k ""),1)]:=by
 unfold eW;rw[List.zipIdx_append,Xu];simp
theorem HG (ws:List K') (old:XZ):∀ l:List Nat,(eW ws old l).length=2*l.length:=fun l=>by
 have e:∀ (k:Nat) (l:List Nat),((l.zipIdx k).flatMap fun p=>[((ws.length:Int)+1+(p.2:Nat),((p.1:Nat):Int),(0:Int),(1:Int)),((ws.length:Int)+1+(p.2:Nat),(ws.length:Int),0-gO old (ws.getD p.1 ""),1)]).length=2*l.length:=fun k l=>by
  induction l generalizing k with
  | nil=>rfl
  | cons x l ih=>
   rw[Qgr,XO,UB,ih];show 2+2*l.length=2*(l.length+1);lia
 exact e 0 l
theorem CS (ws:List K') (old:XZ) (i:Nat):(hl ws old i).length<=i:=by
 have:=U0 (fun k=>has old (ws.getD k "")) (YM i);rw[U7] at this;exact this
theorem Qky {old:XZ}{k:Nat} (h:k∈hl ws old i):k<i/\has old (ws.getD k "")=D':=by
 obtain⟨h1,h2⟩:=ZJ.mp h;exact⟨QaL.mp h1,h2⟩
theorem yp (l:List (Wi×Int)):(bW l).length<=l.length:=by
 unfold bW;rw[Us];exact U0 _ _
section
variable {K:V'}
def O3 (K:V') (C:F'):Sp:=fun vs H Q _=>∃ p r v ws o l old lv,vs=[.ref p,.ref o,.ref l]/\cC K C H p r v/\Wn ws v/\H o=B' (.dK old)/\QcI old/\H l=B' (.dK lv)/\(∀ s∈ws,aU lv (X5 s)=B' (.int (gO lv s)))/\∀ H',af H H'->Q (.int (mvL ws old lv).sum) H'
theorem QcJ (old lv:XZ) (h:ws[i]?=B' s):mvL (ws.take (i+1)) old lv=mvL (ws.take i) old lv++if has old s=D' then[Qfr (gO lv s-gO old s)] else[]:=by
 unfold mvL;rw[bx h,Vz,UC];congr 1;by_cases c:has old s=D'
 .rw[XR c,UX,XR c]
  rfl
 .rw[W' c,UX,W' c]
  rfl
theorem Qkz (T:Tx K mg a):YD P w K mg base Yj 2 "moves_of" ["net","old","levels"] [] (O3 K a.Net):=T.QjA.Ym fun f fd F=>by
 have Qam:=vm (P:=P) (w:=w) (base:=base) T;refine F.ok QP (fun vs H Q E h=>?_) (fun aD A outer s H vs Q E hr h=>?_)
 .obtain⟨p,r,v,ws,o,l,old,lv,rfl,_⟩:=h
  rfl
 .obtain⟨p,r,v,ws,o,l,old,lv,rfl,N,wn,ho,io,qD,il,k⟩:=h
  have pr:=wn.len;obtain⟨dx,hp⟩:=N.ex;refine⟨_,(ay (bv (bM Jk O T.Qff JH (ag (dF (N:=["name","levels","old"]) (cap:=[C',B' 2,B' 1]) O (cq (osc:=aF C2) (XN:=["net","old","levels"]) O O (by decide +kernel)) (bY (kC (pv 0) T.Yu Qam (hr.mono (by decide)))) (fun cl C s H fp aa=>(aE (i:=0) (show(["name","levels","old"]:List K').Nodup by decide +kernel) rfl (.inl rfl))) (fun cl C s H fp aa=>qp (jq (qV (bf hr) (pv 0) (pv 2)))) (fun cl C s H fp aa=>(bM Ih O T.Qfd Jh (ag (aH g8 (cN (bf hr) (pv 1) (pv 0) (fun _ _=>O)) (cN (bf hr) (pv 2) (pv 0) (fun _ _=>O))) aj)))) aj)))),?_⟩;refine⟨_,O,p,dx,_,O,hp,by rfl,p,r,v,O,N,fun y ny=>?_⟩;rw[wn.keys];have s1:af H (upd H y (.lst (ws.map V.str))):=af.new ny;have h1:upd H y (.lst (ws.map V.str)) y=B' (.lst (ws.map V.str)):=ai;generalize upd H y (.lst (ws.map V.str))=H1 at s1 h1 ⊢;refine⟨y,O,⟨_,M'.of h1⟩,fun D hD=>?_⟩;refine fQ (K:=K) (a:=y) (xs:=ws.map V.str) (fun i τ G=>∃ v1,τ=[v1,B' (.ref l),B' (.ref o)]/\af H1 G/\G D=B' (.lst ((mvL (ws.take i) old lv).map V.int))) ⟨C',rfl,af.new hD,ai⟩ ?_ ?_ ?_
  .rintro i τ G _ ⟨_,rfl,sg,_⟩
   exact M'.of (sg _ _ h1)
  .rintro i x τ G hx ⟨v1,rfl,sg,hG⟩
   obtain⟨s,hs,rfl⟩:=qk hx;have hi:=(Yi.mp hs).1;have tg:=s1.trans sg;have ln:(mvL (ws.take i) old lv).length<=i:=by
    unfold mvL;have:=U0 (has old) (ws.take i);rw[UH] at this;rw[Us];lia
   dsimp only[bN];refine⟨_,O,_,O,o,_,O,bS.k (k:=X5 s) (tg _ _ ho),_,O,?_⟩;refine bo (fun c=>?_) (fun c=>?_)
   .have c:has old s=D':=c
    refine⟨_,O,_,O,l,_,O,rG (k:=X5 s) (tg _ _ qD) (il s (UF hs)),_,O,_,O,o,_,O,rG (k:=X5 s) (tg _ _ ho) (io s c),_,_,O,O,_,O,_,hG,?_,_,O,c8 hD sg,?_⟩
    .rw[Us,Uz]
     lia
    .rw[ai,QcJ old lv hs,XR c,UC]
     rfl
   .have c:¬ has old s=D':=fun z=>by
     have c:has old s=R':=c;rw[c] at z;cases z
    refine⟨_,O,sg,?_⟩;rw[hG,QcJ old lv hs,W' c,Vc]
  .rintro τ G ⟨v1,rfl,sg,hG⟩
   rw[Us,UO] at hG;exact⟨D,_,O,M'.of hG,k G (s1.trans sg)⟩
end
section
variable {K:V'}
structure Gr (K:V') (B G:Hp) (g:F') (dn:List Wi):Prop where
 sm:af B G
 ng:B g=C'
 ex:∃ xs,G g=B' (.lst xs)/\aK K G (dn.map wD) xs
theorem Gr.len (_:Gr K B G g dn) (d:aK K G (dn.map wD) xs):xs.length=dn.length:=by rw[<- d.length,Us]
theorem Gr.same (h:Gr K B G g dn) (s:af G G'):Gr K B G' g dn:=by
 obtain⟨xs,h1,h2⟩:=h.ex;exact⟨h.sm.trans s,h.ng,xs,s _ _ h1,s.Yf h2⟩
theorem Gr.put {q:Wi} (h:Gr K B G g dn) (s:af G G') (h1:G g=B' (.lst xs)) (h2:aK K G (dn.map wD) xs) (hz:G' z=B' (.tup (wV q))):Gr K B (upd G' g (.lst (xs++[.ref z]))) g (dn++[q]):=by
 have tk:Tk G' (upd G' g (.lst (xs++[.ref z]))):=Tk.upd (s _ _ h1) rfl;refine⟨c8 h.ng (h.sm.trans s),h.ng,_,ai,?_⟩;rw[UC];exact aK.snoc (tk.dt O (Qfl (Ya.of hz))) (tk.Yf (cf (fun _=>O) _) (s.Yf h2))
theorem Gr.cat {en:List Wi}{zs:List V} (h:Gr K B G g dn) (h1:G g=B' (.lst xs)) (h2:aK K G (dn.map wD) xs) (h3:aK K G (en.map wD) zs):Gr K B (upd G g (.lst (xs++zs))) g (dn++en):=by
 have tk:Tk G (upd G g (.lst (xs++zs))):=Tk.upd h1 rfl;refine⟨c8 h.ng h.sm,h.ng,_,ai,?_⟩;rw[UC];exact aK.append (tk.Yf (cf (fun _=>O) _) h3) (tk.Yf (cf (fun _=>O) _) h2)
def Sv (K:V') (C:F'):Sp:=fun vs H Q _=>∃ p r v ws o f old fl,vs=[.ref p,.ref o,.ref f]/\cC K C H p r v/\Wn ws v/\H o=B' (.dK old)/\QcI old/\H f=B' (.lst ((fl:List Int).map V.int))/\fl.length=(fc ws v).length/\(fc ws v).length<=400 /\
 ∀ t x xs H',af H H'->H t=C'->H x=C'->H' t=B' (.tup [.int ((ws.length:Int)+1+(hl ws old ws.length).length),.ref x])->H' x=B' (.lst xs)->aK K H' ((agW ws (fc ws v) old fl).map wD) xs->Q (.ref t) H'
theorem QkA (T:Tx K mg a):YD P w K mg base Yj 5 "wishes_again" ["net","old","flow"] [] (Sv K a.Net):=T.QjB.Ym fun f fd F=>by
 have aJ:=QcH (P:=P) (w:=w) (base:=base) T;have Qam:=vm (P:=P) (w:=w) (base:=base) T;refine F.ok nX (fun vs H Q E h=>?_) (fun aD A outer s H vs Q E hr h=>?_)
 .obtain⟨p,r,v,ws,o,f,old,fl,rfl,_⟩:=h
  rfl
 .obtain⟨p,r,v,ws,o,f,old,fl,rfl,N,wn,ho,io,hf,DX,tX,k⟩:=h
  have pr:=wn.len;obtain⟨dx,hp⟩:=N.ex;refine⟨_,(aq (aQ (i:=3) nX.nd O (.inl O) (kC (pv 0) T.Yu Qam (hr.mono (by decide))))
   (aq (aQ (i:=4) nX.nd O (.inl O) (bD aJ (hr.mono (by decide)) rfl (ag (pv 0) aj)))
   (aq (aQ (i:=5) nX.nd O (.inr O) (bM fW O T.Zb dZ (ag (pv 3) aj)))
   (aq (pR (i:=6) nX.nd O O (N:=["one","other","least","weight"]) (cap:=[C',C',C',C']) O (cq (osc:=aF rR) (XN:=["net","old","flow","points","net_wishes","ground","wishes","helped","helper","point"]) O O (by decide +kernel)) (bY (pv 4)) (fun cl C s H fp aa=>(jS (K:=K) (n:=4) O O (aM (aE (i:=0) (show(["one","other","least","weight"]:List K').Nodup by decide +kernel) rfl (.inl rfl)) (aM (aE (i:=1) (show(["one","other","least","weight"]:List K').Nodup by decide +kernel) rfl (.inl rfl)) (aM (aE (i:=2) (show(["one","other","least","weight"]:List K').Nodup by decide +kernel) rfl (.inl rfl)) (aM (aE (i:=3) (show(["one","other","least","weight"]:List K').Nodup by decide +kernel) rfl (.inl rfl)) cD)))))) (fun cl C s H fp aa=>dE) (fun cl C s H fp aa=>(cw (ag (pv 0) (ag (pv 1) (ag (pv 2) (ag ao aj)))))) (hsw:=O))
   (aq (bC (c7 YY QcZ QdY Ce (pv 6) (ag (dF (N:=["wish","amount"]) (cap:=[C',C']) O (cq (osc:=aF rR) (XN:=["net","old","flow","points","net_wishes","ground","wishes","helped","helper","point"]) O O (by decide +kernel)) (yc rfl T.Qcg (ag (pv 4) (ag (pv 2) aj))) (fun cl C s H fp aa=>(jS (K:=K) (n:=2) O O (aM (aE (i:=0) (show(["wish","amount"]:List K').Nodup by decide +kernel) rfl (.inl rfl)) (aM (aE (i:=1) (show(["wish","amount"]:List K').Nodup by decide +kernel) rfl (.inl rfl)) cD)))) (fun cl C s H fp aa=>qp (bG nJ (pv 1) ao (bB _))) (fun cl C s H fp aa=>(cw (ag (aG (jt (K:=K) O) (pv 0) ao (fun _ _=>O)) (ag (aG (jt (K:=K) O) (pv 0) ao (fun _ _=>O)) (ag (aH g8 ao (aG (jt (K:=K) O) (pv 0) ao (fun _ _=>O))) (ag ao aj))))))) aj)))
   (aq (bC (c7 YY QcZ QdY Ce (pv 6) (ag (dF (N:=["point","ground"]) (cap:=[C',B' 5]) O (cq (osc:=aF rR) (XN:=["net","old","flow","points","net_wishes","ground","wishes","helped","helper","point"]) O O (by decide +kernel)) (qo rfl T.Qa1 (ag (pv 5) aj)) (fun cl C s H fp aa=>(aE (i:=0) (show(["point","ground"]:List K').Nodup by decide +kernel) rfl (.inl rfl))) (fun cl C s H fp aa=>dE) (fun cl C s H fp aa=>(cw (ag (pv 1) (ag (pv 0) (ag ao (ag ao aj))))))) aj)))
   (aq (pR (i:=7) nX.nd O O (N:=["point","name","old"]) (cap:=[C',C',B' 1]) O (cq (osc:=aF rR) (XN:=["net","old","flow","points","net_wishes","ground","wishes","helped","helper","point"]) O O (by decide +kernel)) (mz rfl T.Qas (ag (pv 3) aj)) (fun cl C s H fp aa=>(jS (K:=K) (n:=2) O O (aM (aE (i:=0) (show(["point","name","old"]:List K').Nodup by decide +kernel) rfl (.inl rfl)) (aM (aE (i:=1) (show(["point","name","old"]:List K').Nodup by decide +kernel) rfl (.inl rfl)) cD)))) (fun cl C s H fp aa=>qp (jq (qV (bf hr) (pv 1) (pv 2)))) (fun cl C s H fp aa=>(pv 0)) (hsw:=O))
   (aq (cV YS rfl (Ry rfl T.Qas (ag (pv 7) aj) (aH ee (pv 5) ao)) (fe rfl (aM (aE (i:=8) nX.nd O (.inl O)) (aM (aE (i:=9) nX.nd O (.inl O)) cD))) (aq (bC (c7 YY Zl Zp ek (pv 6) (ag (cw (ag (pv 8) (ag (pv 9) (ag ao (ag ao aj))))) aj)))
   (ay (bC (c7 YY Zl Zp ek (pv 6) (ag (cw (ag (pv 8) (ag (pv 5) (ag (aH g8 ao (cN (bf hr) (pv 1) (aG aT (pv 3) (pv 9) (fun _ _=>O)) (fun _ _=>O))) (ag ao aj))))) aj))))))
   (ay (bv (cw (ag (aH ee (aH ee (pv 5) ao) (bM fW rfl T.Zb dZ (ag (pv 7) aj))) (ag (pv 6) aj))))))))))))),?_⟩
  refine⟨_,O,p,dx,_,O,hp,by rfl,p,r,v,O,N,fun y ny=>?_⟩;rw[wn.keys];have s1:af H (upd H y (.lst (ws.map V.str))):=af.new ny;have h1:upd H y (.lst (ws.map V.str)) y=B' (.lst (ws.map V.str)):=ai;generalize upd H y (.lst (ws.map V.str))=H1 at s1 h1 ⊢;refine⟨_,O,p,r,v,ws,O,N.same s1,wn,fun l ys H2 s2 nl bH c9 _=>?_⟩;generalize hW:fc ws v=W at k DX tX c9;have t2:=s1.trans s2;have At:=s2 _ _ h1;have yl:ys.length=W.length:=by rw[<- c9.length,Us]
  refine⟨_,O,y,_,O,.inl (M'.of At),?_⟩;rw[Us];refine⟨_,O,l,O,⟨_,M'.of bH⟩,fun g ng=>?_⟩;refine fQ (K:=K) (a:=l) (xs:=ys) (fun i τ G=>∃ v1 v2 v3 v4,τ=[v1,v2,v3,v4]/\Gr K H2 G g (aW (W.take i))) ⟨C',C',C',C',rfl,af.new ng,ng,[],ai,rfl⟩ ?_ ?_ ?_
  .rintro i τ G _ ⟨_,_,_,_,rfl,gr⟩
   exact M'.of (gr.sm _ _ bH)
  .rintro i x τ G hx ⟨v1,v2,v3,v4,rfl,gr⟩
   obtain⟨q,hq,dq⟩:=dU c9 hx;obtain⟨t,rfl,ht⟩:=mf (gr.sm.dt dq);have hi:=(Yi.mp hq).1;obtain⟨xs,hg,iO⟩:=gr.ex;have xl:=gr.len iO;unfold aW at xl;rw[Us,UH] at xl;refine⟨t,_,O,ht,O,_,_,O,_,_,O,_,_,O,_,_,O,O,?_⟩;dsimp only[dY];refine fj ?_;refine⟨_,O,_,O,_,O,(by show 4<=XX;decide),fun z nz=>?_⟩;have s3:=af.new (o:=.tup [.int q.1,.int q.2.1,.int q.2.2.1,.int 0]) nz;refine⟨_,s3 _ _ hg,by rw[Uz];lia,_,_,_,_,O,?_⟩;have e:aW (W.take (i+1))=aW (W.take i)++[(q.1,q.2.1,q.2.2.1,0)]:=by
    unfold aW;rw[bx hq,UC];rfl
   rw[e];exact gr.put (q:=(q.1,q.2.1,q.2.2.1,0)) s3 hg iO ai
  rintro τ H3 ⟨v1,v2,v3,v4,rfl,gr⟩
  rw[yl,UO] at gr;have oU:=gr.sm _ _ bH;have iL:=gr.sm _ _ (t2 _ _ hf);have iF:=gr.sm.Yf c9;obtain⟨xs,hg,iO⟩:=gr.ex;have xl:=gr.len iO;unfold aW at xl;rw[Us] at xl;refine⟨_,O,.inl ⟨O,_,M'.of hg⟩,_,O,_,O,l,f,O,⟨_,M'.of oU⟩,⟨_,M'.of iL⟩,fun D nD=>?_⟩;refine Jq (K:=K) (l1:=l) (l2:=f) (xs:=ys) (ys:=fl.map V.int) (by rw[Us];lia) (fun i τ G=>∃ v1 v2,τ=[v1,v2]/\Gr K H3 G D (bW ((W.zip fl).take i))) ⟨C',C',rfl,af.new nD,nD,[],ai,rfl⟩ ?_ ?_ ?_
  .rintro i τ G _ ⟨_,_,rfl,g2⟩
   exact⟨M'.of (g2.sm _ _ oU),M'.of (g2.sm _ _ iL)⟩
  .rintro i x x2 tt τ G hx lT nt ⟨v1,v2,rfl,g2⟩
   obtain⟨q,hq,dq⟩:=dU iF hx;obtain⟨t,rfl,ht⟩:=mf (g2.sm.dt dq);obtain⟨am,ww,rfl⟩:=pO lT;have hi:=(Yi.mp hq).1;have s3:af G (upd G tt (.tup [.ref t,.int am])):=af.new nt;have h3:upd G tt (.tup [.ref t,.int am]) tt=B' (.tup [.ref t,.int am]):=ai;generalize upd G tt (.tup [.ref t,.int am])=G3 at s3 h3 ⊢;have g3:=g2.same s3;obtain⟨zs,hD,cS⟩:=g3.ex;have zl:=g3.len cS;have bl:=yp ((W.zip fl).take i);have tl:=V9 i (W.zip fl);rw[bx (CB hq ww),IE];refine⟨tt,_,O,Ya.of h3,O,_,_,O,_,_,O,O,?_⟩;refine⟨_,O,_,_,O,O,_,O,?_⟩;refine bo (fun c=>?_) (fun c=>?_)
   .have c:0<am:=UM c
    refine⟨_,O,t,_,_,_,O,O,s3.YJ ht,O,_,O,t,_,_,_,O,O,s3.YJ ht,O,_,O,t,_,_,_,O,O,s3.YJ ht,O,_,_,O,O,(by show 4<=XX;decide),fun z nz=>?_⟩;have s4:=af.new (o:=.tup [.int q.2.1,.int q.1,.int (0-q.2.2.1),.int 0]) nz;refine⟨_,s4 _ _ hD,by rw[Uz];lia,_,_,O,?_⟩;rw[XR c];exact g3.put (q:=(q.2.1,q.1,0-q.2.2.1,0)) s4 hD cS ai
   .rw[W' (U2 c),Vc]
    exact⟨_,_,O,g3⟩
  rintro τ H4 ⟨v1,v2,rfl,g4⟩
  rw[yl,Vd (by rw[VQ];lia)] at g4;obtain⟨zs,hD,cS⟩:=g4.ex;have zl:=g4.len cS;have bl:=yp (W.zip fl);rw[VQ] at bl;refine⟨g,D,xs,zs,O,O,g4.sm _ _ hg,hD,by rw[Uz];lia,?_⟩;have gr:=(gr.same g4.sm).cat (g4.sm _ _ hg) (g4.sm.Yf iO) cS;generalize upd H4 g (.lst (xs++zs))=H5 at gr ⊢;clear g4 hD cS hg iO oU iL iF;obtain⟨FF,vY,oQ⟩:=gr.ex;have Ee:=gr.len oQ;unfold aW at Ee;rw[UB,Us] at Ee;refine⟨_,O,.inl ⟨O,_,M'.of vY⟩,_,O,_,O,by lia,by lia,fun D2 DF=>?_⟩;refine B7 (lo:=0) (n:=((ws.length:Nat):Int).toNat) (fun i τ G=>∃ v1,τ=[v1,B' (.int (ws.length:Int))]/\Gr K H5 G D2 (cW ws.length i)) ⟨C',rfl,af.new DF,DF,[],ai,rfl⟩ ?_ ?_
  .rintro i τ G hi ⟨v1,rfl,g2⟩
   obtain⟨us,hD,cS⟩:=g2.ex;have ul:=g2.len cS;unfold cW at ul;rw[Us,U7] at ul;dsimp only[bN,dY];refine fj ?_;refine⟨_,O,_,O,(by show 4<=XX;decide),fun z nz=>?_⟩;have s4:=af.new (o:=.tup [.int (ws.length:Int),.int (0+(i:Int)),.int 0,.int 0]) nz;refine⟨_,s4 _ _ hD,by rw[Uz];lia,_,O,?_⟩;rw[GX];exact g2.put (q:=((ws.length:Int),(i:Int),0,0)) s4 hD cS (by rw[ai,Qha];rfl)
  rintro τ H6 ⟨v1,rfl,g6⟩
  rw[UD] at g6;obtain⟨us,hD,cS⟩:=g6.ex;have ul:=g6.len cS;unfold cW at ul;rw[Us,U7] at ul;refine⟨g,D2,FF,us,O,O,g6.sm _ _ vY,hD,by rw[Uz];lia,?_⟩;have gr:=(gr.same g6.sm).cat (g6.sm _ _ vY) (g6.sm.Yf oQ) cS;generalize upd H6 g (.lst (FF++us))=H7 at gr ⊢;clear g6 hD cS vY oQ;have D4:=gr.sm _ _ At;have J9:=gr.sm _ _ (t2 _ _ ho);refine⟨_,O,y,O,⟨_,M'.of D4⟩,fun D3 zV=>?_⟩;have tM:D3≠g:=fun z=>by
   obtain⟨Um,h7,_⟩:=gr.ex;rw[<- z,zV] at h7;cases h7
  refine IZ (K:=K) (l:=y) (xs:=ws.map V.str) (fun i τ G=>∃ v1 v2,τ=[v1,v2,B' (.ref o)]/\af H7 G/\G D3=B' (.lst (nums (hl ws old i)))) ⟨C',C',rfl,af.new zV,ai⟩ ?_ ?_ ?_
  .rintro i τ G _ ⟨_,_,rfl,sg,_⟩
   exact M'.of (sg _ _ D4)
  .rintro i x tt τ G hx nt ⟨v1,v2,rfl,sg,hG⟩
   obtain⟨s,hs,rfl⟩:=qk hx;have hi:=(Yi.mp hs).1;have s3:af G (upd G tt (.tup [.int i,.str s])):=af.new nt;have h3:upd G tt (.tup [.int i,.str s]) tt=B' (.tup [.int i,.str s]):=ai;generalize upd G tt (.tup [.int i,.str s])=G3 at s3 h3 ⊢;have ln:=CS ws old i;refine⟨tt,_,O,Ya.of h3,O,_,_,O,_,_,O,O,?_⟩;refine⟨_,O,_,O,o,_,O,bS.k (k:=X5 s) (s3 _ _ (sg _ _ J9)),_,O,?_⟩;rw[Im old hs];refine bo (fun c=>?_) (fun c=>?_)
   .have c:has old s=D':=c
    refine⟨_,O,_,s3 _ _ hG,?_,_,_,O,c8 zV (sg.trans s3),?_⟩
    .unfold nums
     rw[Us,Uz];lia
    .rw[ai,XR c]
     unfold nums;rw[UC];rfl
   .have c:¬ has old s=D':=fun z=>by
     have c:has old s=R':=c;rw[c] at z;cases z
    rw[W' c,Vc];exact⟨_,_,O,sg.trans s3,s3 _ _ hG⟩
  rintro τ H8 ⟨v1,v2,rfl,s8,h8⟩
  rw[Us] at h8;have gr:=gr.same s8;have ln:=CS ws old ws.length;have mem:=fun {j} (h:j∈hl ws old ws.length)=>Qky h
  generalize M3:hl ws old ws.length=HL at h8 ln mem k;refine⟨_,O,_,O,_,_,O,O,D3,ws.length+1,O,O,by lia,⟨_,M'.of h8⟩,SB (K:=K) (l:=D3) (xs:=nums HL) (fun i σ G=>∃ v8 v9,σ=[B' (.ref p),B' (.ref o),B' (.ref f),B' (.ref y),B' (.ref l),B' (.int (ws.length:Int)),B' (.ref g),B' (.ref D3),v8,v9]/\Gr K H2 G g (aW W++bW (W.zip fl)++cW ws.length ws.length++eW ws old (HL.take i))/\G D3=B' (.lst (nums HL)))
   ⟨C',C',rfl,by rw[VY];show Gr K H2 H8 g (_++[]);rw[Vc];exact gr,h8⟩ ?_ ?_ ?_⟩
  .rintro i σ G _ ⟨_,_,rfl,_,LN⟩
   exact M'.of LN
  .rintro i x tt σ G hx nt ⟨v8,v9,rfl,g9,h9⟩
   obtain⟨k9,hk9,rfl⟩:∃ k9,HL[i]?=B' k9/\x=.int (k9:Nat):=by
    unfold nums at hx;rw[UJ] at hx;cases e:HL[i]? with
    | none=>rw[e] at hx;cases hx
    | some n=>rw[e] at hx;exact⟨n,O,(YB hx).symm⟩
   obtain⟨kl,kh⟩:=mem (UF hk9);have hi:=(Yi.mp hk9).1;have e9:ws[k9]?=B' (ws.getD k9 ""):=by rw[Ux,Uy kl];rfl
   have Nr:YU (ws.map V.str) (k9:Int)=B' (.str (ws.getD k9 "")):=by
    rw[iX (by lia),UD,UJ,e9];rfl
   have s3:af G (upd G tt (.tup [.int (((ws.length+1:Nat):Int)+i),.int (k9:Nat)])):=af.new nt;have h3:upd G tt (.tup [.int (((ws.length+1:Nat):Int)+i),.int (k9:Nat)]) tt=B' (.tup [.int (((ws.length+1:Nat):Int)+i),.int (k9:Nat)]):=ai;generalize upd G tt (.tup [.int (((ws.length+1:Nat):Int)+i),.int (k9:Nat)])=G3 at s3 h3 ⊢;have g3:=g9.same s3;have Kc:=s3 _ _ h9;obtain⟨DA,y8,sT⟩:=g3.ex;have Do:=g3.len sT;have el:=HG ws old (HL.take i);have tl:=V9 i HL;have ti:(HL.take i).length=i:=by rw[UH];lia
   unfold aW cW at Do;rw[UB,UB,UB,Us,Us,U7] at Do;refine⟨tt,_,O,Ya.of h3,O,_,_,O,_,_,O,O,?_⟩;refine⟨_,O,.inl ⟨O,_,M'.of y8⟩,_,O,_,O,(by show 4<=XX;decide),fun z nz=>?_⟩;have s4:=af.new (o:=.tup [.int (((ws.length+1:Nat):Int)+i),.int (k9:Nat),.int 0,.int 1]) nz;refine⟨g,_,_,O,O,s4 _ _ y8,by rw[Uz];lia,?_⟩;have g4:=g3.put (q:=(((ws.length+1:Nat):Int)+i,(k9:Int),0,1)) s4 y8 sT ai;have EB:upd (upd G3 z (.tup [.int (((ws.length+1:Nat):Int)+i),.int (k9:Nat),.int 0,.int 1])) g (.lst (DA++[.ref z])) D3=B' (.lst (nums HL)):=by
    rw[ak tM];exact s4 _ _ Kc
   generalize upd (upd G3 z (.tup [.int (((ws.length+1:Nat):Int)+i),.int (k9:Nat),.int 0,.int 1])) g (.lst (DA++[.ref z]))=G4 at g4 EB ⊢;obtain⟨E5,yW,uM⟩:=g4.ex;have Eu:E5.length<=2000:=by
    have:=g4.len uM;unfold aW cW at this;rw[UB,UB,UB,UB,Us,Us,U7] at this;have z:([(((ws.length+1:Nat):Int)+(i:Int),(k9:Int),(0:Int),(1:Int))]:List Wi).length=1:=rfl;lia
   have y4:=g4.sm _ _ At;have o4:=g4.sm _ _ (t2 _ _ ho);refine⟨_,O,.inl ⟨O,_,M'.of yW⟩,_,O,_,O,_,O,_,O,_,O,y,_,_,_,O,O,M'.of y4,Nr,o,_,O,rG (k:=X5 (ws.getD k9 "")) o4 (io _ kh),_,_,O,O,(by show 4<=XX;decide),fun z2 uA=>?_⟩;have s5:=af.new (o:=.tup [.int (((ws.length+1:Nat):Int)+i),.int (ws.length:Int),.int (0-gO old (ws.getD k9 "")),.int 1]) uA;refine⟨g,_,_,O,O,s5 _ _ yW,by rw[Uz];lia,?_⟩;have g5:=g4.put (q:=(((ws.length+1:Nat):Int)+i,(ws.length:Int),0-gO old (ws.getD k9 ""),1)) s5 yW uM ai;refine⟨_,_,O,?_,by rw[ak tM];exact s5 _ _ EB⟩;rw[bx hk9,F9,ti,<- Vp];rw[Vp _ [_] [_]] at g5;have e0:((ws.length+1:Nat):Int)+(i:Int)=(ws.length:Int)+1+((i:Nat):Int):=by lia
   rw[e0] at g5;exact g5
  .rintro σ G ⟨v8,v9,rfl,g9,h9⟩
   have D9:(nums HL).length=HL.length:=by
    unfold nums;rw[Us]
   rw[D9,UO] at g9;refine⟨_,O,_,_,O,O,_,O,D3,_,O,.inl (M'.of h9),_,_,O,O,_,O,(by show 2<=XX;decide),fun t nt=>?_⟩;obtain⟨us,hg,iO⟩:=g9.ex;rw[D9];have s10:=af.new (o:=.tup [.int ((ws.length:Int)+1+(HL.length:Nat)),.ref g]) nt;have tt:=t2.trans (g9.sm.trans s10);refine k t g us _ tt (none_of (t2.trans g9.sm) nt) (none_of t2 g9.ng) ai (s10 _ _ hg) ?_;unfold agW;rw[M3];exact s10.Yf iO
end
theorem QkB (xs:List V){k:Int} (h0:0<=k) (h1:k<=xs.length):iU xs C' (B' k)=xs.take k.toNat:=by
 unfold iU;have h2:HT.Y7 xs.length xs.length (B' ((k.toNat:Nat):Int))=min k.toNat xs.length:=HT.zhv _ _ k.toNat;rw[show((k.toNat:Nat):Int)=k by lia] at h2;rw[HT.zma,h2,QgK,Qg8,Xf (by lia)]
theorem Qab {ns:List Int}{k:Int} (h0:0<=k) (h1:k<ns.length):∃ z,ns[k.toNat]?=B' z/\YU (ns.map V.int) k=B' (.int z):=by
 obtain⟨z,hz⟩:=eY (l:=ns) (j:=k.toNat) (by lia);exact⟨z,hz,by rw[iX h0,UJ,hz];rfl⟩
structure NmOk (ws:List K'):Prop where
 lo:1<=ws.length
 hi:ws.length<=6
 nd:ws.Nodup
 is_:∀ x∈ws,fP x=D'
def pl (l:List K'):XZ:=l.map fun n=>(X5 n,.int 0)
theorem RM (l:List K'):Ys (pl l)=l.map V.str:=by
 unfold Ys pl;rw[Wo];rfl
theorem CV (l:List K') (n:K'):has (pl l) n=decide (n∈l):=by
 induction l with
 | nil=>rfl
 | cons x l ih=>
  show has ((X5 x,V.int 0)::pl l) n=_;by_cases e:x=n
  .subst e
   unfold has;rw[eO (p:=(X5 x,V.int 0)) rfl];simp
  .have h1:has ((X5 x,V.int 0)::pl l) n=has (pl l) n:=by
    unfold has;rw[dB (p:=(X5 x,V.int 0)) (fun z=>e (Qbt z))]
   rw[h1,ih];have:n≠x:=XW e;simp[this]
theorem Qm {l:List K'}{n:K'}:pl (l++[n])=pl l++[(X5 n,.int 0)]:=by
 unfold pl;rw[UC];rfl
theorem QkC {n:K'} (h:ws[i]?=B' n) (nd:ws.Nodup) (is_:fP n=D') (hl:ws.length<=12):km (pl (ws.take i)) n 0=C':=by
 have hi:=(Yi.mp h).1;have h1:¬ has (pl (ws.take i)) n=D':=by
  rw[CV];intro z;have z':n∈ws.take i:=UM z;obtain⟨j,hj⟩:=Qac.mp z';have Ml:j<i:=by
   have:=(Yi.mp hj).1;rw[UH] at this;lia
  rw[List.getElem?_take,XR Ml] at hj;have:=(W1 (by lia) nd).mp (hj.trans h.symm);lia
 have h2:¬ 20<=(pl (ws.take i)).length:=by
  unfold pl;rw[Us,UH];lia
 simp only[km,W' (show ¬ fP n=R' by rw[is_];decide),W' h1,W' (show ¬ ((0:Int)<0\/(50:Int)<0) by decide),W' h2]
theorem SD {n:K'} (h:fP n=D'):n.length<=1000:=by
 unfold fP at h;have:=UM ((UU _ _).mp ((UU _ _).mp h).1).2;lia
def QcK (arr:List Ar):Prop:=arr.Pairwise fun x y=>x.num<y.num
theorem Ss {arr:List Ar}{q:Ar} (h:QcK arr) (l:∀ x∈arr,x.num<q.num):QcK (arr++[q]):=
 List.pairwise_append.mpr ⟨h,List.pairwise_singleton _ _,fun x hx y hy=>by rw[XC.mp hy];exact l x hx⟩
theorem OS {arr:List Ar} (h:QcK arr):(arr.map Ar.num).Nodup:=by
 rw[Wu,XM];exact h.imp fun z=>Int.ne_of_lt z
structure Nv (ws:List K') (v:eZ):Prop where
 kv:v.kvs=pl ws
 rise:QcK v.arr
 nn:∀ q∈v.arr,q.num<v.nn
 n0:0<=v.nn
 ends:∀ q∈v.arr,q.one∈ws/\q.other∈ws/\q.one≠q.other
theorem Nv.put {v:eZ} (h:Nv ws v) (ho:o∈ws) (ht:t∈ws) (ne:o≠t):Nv ws {v with arr:=v.arr++[⟨v.nn,o,t,sp,wt⟩],nn:=v.nn+1}:=
 ⟨h.kv,Ss h.rise fun x hx=>h.nn x hx,fun q hq=>by
  show q.num<v.nn+1;rcases YK.mp hq with z|z
  .have:=h.nn q z;lia
  .rw[XC.mp z]
   show v.nn<v.nn+1;lia,by show 0<=v.nn+1;have:=h.n0;lia,fun q hq=>by
  rcases YK.mp hq with z|z
  .exact h.ends q z
  .rw[XC.mp z];exact⟨ho,ht,ne⟩⟩
theorem QM {v:eZ} (h:Nv ws v) (ho:o∈ws) (ht:t∈ws) (ne:o≠t) (s1:1<=sp) (s2:sp<=20) (w1:1<=wt) (w2:wt<=1000000) (hl:v.arr.length<40):qq v o t sp wt=C':=by
 have h2:two v.kvs o t=C':=by
  rw[h.kv];simp only[two,CV]
  rw[W' (by simp[ho]),W' (by simp[ht]),W' ne]
 rw[Jr h2,W' (by lia),W' (by lia)]
theorem HZ {ss:List K'}{k:Int} (h0:0<=k) (h1:k<ss.length):∃ s,s∈ss/\ss[k.toNat]?=B' s/\YU (ss.map V.str) k=B' (.str s):=by
 have hk:k.toNat<ss.length:=by lia
 refine⟨ss[k.toNat],VX hk,Uy hk,?_⟩;rw[iX h0,UJ,Uy hk];rfl
structure Nx (ws:List K') (v:eZ) (i:Nat):Prop where
 nv:Nv ws v
 es:∀ q∈v.ss,q.1∈ws/\q.2∈ws
 em:∀ q∈v.mm,q.1∈ws/\q.2.1∈ws
 la:v.arr.length<=i
 ls:v.ss.length<=i
 lm:v.mm.length<=i
 wt:∀ q∈v.arr,1<=q.weight/\q.weight<=1000000
theorem Nx.up {v:eZ} (h:Nx ws v i):Nx ws v (i+1):=⟨h.nv,h.es,h.em,Vn h.la,Vn h.ls,Vn h.lm,h.wt⟩
theorem Hx {v:eZ} (h:Nv ws v) (ho:o∈ws) (ht:t∈ws) (ne:o≠t):two v.kvs o t=C':=by
 rw[h.kv];simp only[two,CV]
 rw[W' (by simp[ho]),W' (by simp[ht]),W' ne]
theorem at3 {x z m:Int} (h0:0<=m) (h1:m<3):∃ u,YU [V.int x,V.int y,V.int z] m=B' (V.int u)/\(u=x\/u=y\/u=z):=by
 rcases(by lia:m=0\/m=1\/m=2) with e|e|e
 .exact⟨x,by rw[e];rfl,.inl rfl⟩
 .exact⟨y,by rw[e];rfl,.inr (.inl rfl)⟩
 .exact⟨z,by rw[e];rfl,.inr (.inr rfl)⟩
theorem at2 {x m:Int} (h0:0<=m) (h1:m<2):∃ u,YU [V.int x,V.int y] m=B' (V.int u)/\(u=x\/u=y):=by
 rcases(by lia:m=0\/m=1) with e|e
 .exact⟨x,by rw[e];rfl,.inl rfl⟩
 .exact⟨y,by rw[e];rfl,.inr rfl⟩
theorem Nx.wn {v:eZ} (h:Nx ws v i) (ok:NmOk ws) (hi:i<=20):Wn ws v:=by
 have:=ok.hi;have:=h.la;have:=h.ls;have:=h.lm;exact⟨by rw[h.nv.kv,RM],ok.nd,by lia,OS h.nv.rise,by lia,by lia,by lia,fun q hq=>⟨(h.nv.ends q hq).1,(h.nv.ends q hq).2.1⟩,h.es,h.em⟩
def xJ (H:Hp) (x:F') (r:Rec):Prop:=∀ b o,H b=B' o->b≠x/\b≠r.dh/\b≠r.da/\b≠r.ls/\b≠r.lm
theorem xJ.kp {Ha Hb:Hp}{x:F'}{r:Rec} (f:xJ H x r) (s:af H Ha) (k:Kp x r Ha Hb):af H Hb:=fun b o e=>by
 obtain⟨q1,q2,q3,q4,q5⟩:=f b o e;exact k b o (s b o e) q1 q2 q3 q4 q5
section
variable {K:V'}
def QV (K:V'):Sp:=fun vs H Q _=>∃ p,∃ ns:List Int,∃ k,vs=[.ref p,.int k]/\M' K H p (ns.map V.int)/\0<=k/\∀ c,Q (.int c) H
theorem QkD (T:Tx K mg a):YD P w K mg base Yj 1 "_law_cell_at" ["_law_script","_law_k"] [] (QV K):=T.QjC.Ym fun f fd F=>by
 refine F.ok PU (fun vs H Q E h=>?_) (fun aD A outer s H vs Q E hr h=>?_)
 .obtain⟨p,ns,k,rfl,_⟩:=h
  rfl
 .obtain⟨p,ns,k,rfl,hS,h0,q⟩:=h
  refine⟨_,(aq (bU (bG uQ (pv 1) (bM fW O T.Zb dZ (ag (pv 0) aj)) (bB _)) (ay (bv (aG aT (pv 0) (pv 1) (fun _ _=>O)))) cr)
   (ay (bv ao))),?_⟩
  refine⟨_,O,_,O,p,_,O,.inl hS,_,_,O,O,_,O,?_⟩;refine bo (fun c=>?_) (fun c=>?_)
  .have h1:k<ns.length:=by
    have:=UM c
    rwa [Us] at this
   obtain⟨z,_,hz⟩:=Qab h0 h1;exact⟨_,O,_,O,p,_,_,_,O,O,hS,hz,q z⟩
  .exact q 0
def Ro:Sp:=fun vs H Q _=>∃ c m,vs=[.int c,.int m]/\0<=m/\m<=100/\∀ l xs H',af H H'->H l=C'->H' l=B' (.lst ((xs:List Int).map V.int))->(xs.length:Int)=m->Q (.ref l) H'
theorem Qfs (T:Tx K mg a):YD P w K mg base Yj 1 "_law_stream" ["_law_cell","_law_many"] [] Ro:=T.QjD.Ym fun f fd F=>by
 refine F.ok rj (fun vs H Q E h=>?_) (fun aD A outer s H vs Q E hr h=>?_)
 .obtain⟨c,m,rfl,_⟩:=h
  rfl
 .obtain⟨c,m,rfl,m0,m1,k⟩:=h
  refine⟨_,(aq (aQ (i:=2) rj.nd O (.inl O) (bZ aj))
   (aq (aQ (i:=3) rj.nd O (.inl O) (aH cP (aH qZ (aH ee (pv 0) ao) ao) ao))
   (aq (cV YS rfl (qo rfl T.Qa1 (ag (pv 1) aj)) (aE (i:=4) rj.nd O (.inl O)) (aq (aQ (i:=3) rj.nd O (.inl O) (aH cP (aH qZ (pv 3) (aH ee (aH ee (aH vt (pv 3) ao) ao) (pv 4))) ao))
   (aq (bC (c7 YY Zl Zp ek (pv 2) (ag (pv 3) aj)))
   (ay (aQ (i:=3) rj.nd O (.inl O) (aH ee (pv 3) ao))))))
   (ay (bv (pv 2)))))),?_⟩
  refine⟨(by show 0<=XX;decide),fun g ng=>?_⟩;have s1:af H (upd H g (.lst [])):=af.new ng;have h1:upd H g (.lst []) g=B' (.lst []):=ai;generalize upd H g (.lst [])=H1 at s1 h1 ⊢;refine⟨_,O,_,_,O,O,_,_,O,O,.inr ⟨by decide,by decide⟩,_,_,O,O,(by show(0:Int)<2147483647;decide),?_⟩;have b0:0<=(c+7919)*48271 % 2147483647:=Vj _ (by decide);have b1:(c+7919)*48271 % 2147483647<2147483647:=Va _ (by decide);refine⟨_,O,_,O,by lia,by lia,C4 (lo:=0) (n:=m.toNat) (fun i σ H'=>∃ v4,∃ z:Int,∃ xs:List Int,σ=[B' (.int c),B' (.int m),B' (.ref g),B' (.int z),v4]/\0<=z/\z<=2147483647/\(∀ b o,H1 b=B' o->b≠g->H' b=B' o)/\H' g=B' (.lst (xs.map V.int))/\xs.length=i) ⟨C',_,[],rfl,b0,W9 b1,fun b o e _=>e,h1,O⟩ ?_ ?_⟩
  .rintro i σ H' hi ⟨v4,z,xs,rfl,z0,z1,o3,h3,xl⟩
   dsimp only[bN];refine⟨_,O,_,O,_,_,O,O,⟨by decide,by decide⟩,_,_,O,O,_,O,_,_,O,O,_,_,O,O,.inl ⟨?_,?_⟩,_,_,O,O,(by show(0:Int)<2147483647;decide),?_⟩
   .show -(2 ^ 64)<z
    lia
   .show z<2 ^ 64
    lia
   generalize z*(z / 1009+69621+(0+(i:Int)))=y;have y0:0<=y % 2147483647:=Vj _ (by decide);have y1:y % 2147483647<2147483647:=Va _ (by decide);refine⟨_,O,.inl ⟨O,_,M'.of h3⟩,_,O,g,_,_,O,O,h3,by rw[Us,Uz];lia,?_⟩;refine⟨_,O,_,_,O,O,?_⟩;refine⟨_,_,xs++[y % 2147483647],O,by lia,by lia,fun b o e ne=>by rw[ak ne];exact o3 b o e ne,by rw[ai,UC];rfl,by rw[UB,xl];rfl⟩
  .rintro σ H' ⟨v4,z,xs,rfl,_,_,o3,h3,xl⟩
   exact⟨_,O,k g xs H' (fun b o e=>o3 b o (s1 _ _ e) (av e ng)) ng h3 (by lia)⟩
theorem RA (T:Tx K mg a):gy P w K mg base (Zh P w) 3 a.Net "put_point" ["self","name","half"] [.int 0] (Qfp K a):=T.QdJ.Ym fun f fd F=>Po T f fd F
end
section
variable {K:V'}
theorem QkE (ns:List Int) (i j:Nat):∃ ms:List Int,iU (ns.map V.int) (B' i) (B' j)=ms.map V.int/\ms.length<=j-i:=by
 obtain⟨ms,e,_⟩:=NV ns (B' i) (B' j);refine⟨ms,e,?_⟩;have l:ms.length=(iU (ns.map V.int) (B' i) (B' j)).length:=by rw[e,Us]
 have e1:HT.Y7 (ns.map V.int).length 0 (B' (i:Int))=min i (ns.map V.int).length:=HT.zhv _ _ i;have e2:HT.Y7 (ns.map V.int).length (ns.map V.int).length (B' (j:Int))=min j (ns.map V.int).length:=HT.zhv _ _ j;rw[l];unfold iU;rw[e1,e2,UH,WF];refine Nat.le_trans (Nat.min_le_left _ _) ?_;rcases Nat.le_total i (ns.map V.int).length with h|h
 .rw[Nat.min_eq_left h];exact Nat.sub_le_sub_right (Nat.min_le_left _ _) _
 .rw[Nat.min_eq_right h,Nat.sub_eq_zero_of_le (Nat.min_le_right _ _)];exact Nat.zero_le _
def QkF (K:V') (C:F'):Sp:=fun vs H Q _=>∃ nm p ws,∃ ns:List Int,vs=[.ref nm,.ref p]/\H nm=B' (.lst ((ws:List K').map V.str))/\NmOk ws/\M' K H p (ns.map V.int) /\
 ∀ x r v H',af H H'->xJ H x r->cC K C H' x r v->Nx ws v 14->Q (.ref x) H'
theorem QkG (T:Tx K mg a):YD P w K mg base Yj 6 "_law_net" ["_law_names","_law_script"] [] (QkF K a.Net):=T.QjE.Ym fun f fd F=>by
 have bq:=Qfs (P:=P) (w:=w) (base:=base) T;have QdI:=Ox (P:=P) (w:=w) (base:=base) T;have QdJ:=RA (P:=P) (w:=w) (base:=base) T;have QdK:=QS (P:=P) (w:=w) (base:=base) T;have QdL:=Qh (P:=P) (w:=w) (base:=base) T;have QdM:=Ta (P:=P) (w:=w) (base:=base) T;refine F.ok nu (fun vs H Q E h=>?_) (fun aD A outer s H vs Q E hr h=>?_)
 .obtain⟨nm,p,ws,ns,rfl,_⟩:=h
  rfl
 .obtain⟨nm,p,ws,ns,rfl,cE,ok,hS,k⟩:=h
  have MI:=ok.lo;have Eh:=ok.hi;have dz:((ws.map V.str).length:Int)=(ws.length:Int):=by rw[Us]
  refine⟨_,(aq (aQ (i:=2) nu.nd O (.inl O) (SR QdI (hr.mono (by decide)) rfl))
   (aq (cV YS rfl (bY (pv 0)) (aE (i:=3) nu.nd O (.inl O)) (ay (bC (mq (pv 2) T.Yu QdJ xF (hr.mono (by decide)) (ag (pv 3) aj)))))
   (aq (cV YS rfl (bY (GY Hl (pv 1) (Cr ao) (Cr ao))) (aE (i:=4) nu.nd O (.inl O)) (aq (aQ (i:=5) nu.nd O (.inl O) (bD bq (hr.mono (by decide)) rfl (ag (pv 4) (ag ao aj))))
   (aq (aQ (i:=6) nu.nd O (.inl O) (aH cP (aG aT (pv 5) ao (fun _ _=>O)) (bM fW O T.Zb dZ (ag (pv 0) aj))))
   (aq (aQ (i:=7) nu.nd O (.inl O) (aH cP (aH ee (aH ee (pv 6) ao) (aH cP (aG aT (pv 5) ao (fun _ _=>O)) (bM Tl O T.Qfe GH (ag ao (ag (aH g8 (bM fW O T.Zb dZ (ag (pv 0) aj)) ao) aj))))) (bM fW O T.Zb dZ (ag (pv 0) aj))))
   (ay (bU (PW.pt (xB (bG vn (pv 6) (pv 7) (bB _)) (xS (bG uQ (aH cP (aG aT (pv 5) ao (fun _ _=>O)) ao) ao (bB _))))) (aq (aQ (i:=8) nu.nd O (.inl O) (aH ee ao (aH cP (aG aT (pv 5) ao (fun _ _=>O)) (aG aT (bZ (ag ao (ag ao (ag ao aj)))) (aH cP (aG aT (pv 5) ao (fun _ _=>O)) ao) (fun _ _=>O)))))
   (ay (bC (mq (pv 2) T.Yu QdK xF (hr.mono (by decide)) (ag (aG aT (pv 0) (pv 6) (fun _ _=>O)) (ag (aG aT (pv 0) (pv 7) (fun _ _=>O)) (ag (pv 8) (ag (aH ee ao (aH cP (aG aT (pv 5) ao (fun _ _=>O)) (aG aT (bZ (ag ao (ag (aH Cn ao ao) aj))) (aH cP (aH vt (aG aT (pv 5) ao (fun _ _=>O)) ao) ao) (fun _ _=>O)))) aj)))))))) (ay (bU (PW.pt (xB (bG vn (pv 6) (pv 7) (bB _)) (xS (bG mE (aH cP (aG aT (pv 5) ao (fun _ _=>O)) ao) ao (bB _))))) (ay (bC (mq (pv 2) T.Yu QdL xF (hr.mono (by decide)) (ag (aG aT (pv 0) (pv 6) (fun _ _=>O)) (ag (aG aT (pv 0) (pv 7) (fun _ _=>O)) aj))))) (ay (bU (bG vn (pv 6) (pv 7) (bB _)) (ay (bC (mq (pv 2) T.Yu QdM xF (hr.mono (by decide)) (ag (aG aT (pv 0) (pv 6) (fun _ _=>O)) (ag (aG aT (pv 0) (pv 7) (fun _ _=>O)) (ag (aH cP (aG aT (pv 5) ao (fun _ _=>O)) (aG aT (bZ (ag ao (ag ao aj))) (aH cP (aG aT (pv 5) ao (fun _ _=>O)) ao) (fun _ _=>O))) aj)))))) cr))))))))))
   (ay (bv (pv 2)))))),?_⟩
  refine fun x dx nx E4 TL=>⟨x,dx,O,ai,fun r H2 fr fo N2=>⟨O,?_⟩⟩
  have s2:af H H2:=fun b o e=>fr b o (by rw[ak (av e nx),ak (av e E4)];exact e) (av e nx)
  have tQ:xJ H x r:=fun b o e=>⟨av e nx,fo b o (by rw[ak (av e nx),ak (av e E4)];exact e)⟩
  refine⟨_,O,nm,O,⟨_,M'.of (s2 _ _ cE)⟩,jr (K:=K) (a:=nm) (xs:=ws.map V.str) (fun i σ H'=>∃ v3,σ=[B' (.ref nm),B' (.ref p),B' (.ref x),v3,C',C',C',C',C']/\af H H'/\cC K a.Net H' x r {emp with kvs:=pl (ws.take i)})
   ⟨C',rfl,s2,N2⟩ ?_ ?_ ?_⟩
  .rintro i σ H' _ ⟨v3,rfl,sl,_⟩
   exact M'.of (sl _ _ cE)
  .rintro i y σ H' hi ⟨v3,rfl,S3,N3⟩
   obtain⟨z,hz,rfl⟩:=qk hi;have Ff:=ok.is_ z (UF hz);have Ke:=QkC hz ok.nd Ff (by lia);obtain⟨qu,wu⟩:=N3.ex;refine⟨_,O,x,qu,_,O,wu,by rfl,_,O,x,r,_,z,0,O,SD Ff,N3,?_,fun er he=>?_,fun _ H4 LI N4=>?_⟩
   .show(pl (ws.take i)).length<=1000
    unfold pl;rw[Us,UH];lia
   .rw[show km (pl (ws.take i)) z 0=C' from Ke] at he
    cases he
   .refine⟨_,O,tQ.kp S3 LI,?_⟩
    rw[bx hz,Qm];exact N4
  rintro σ H3 ⟨v3,rfl,S3,N3⟩
  rw[Us,UO] at N3;have V3:Nx ws {emp with kvs:=pl ws} 0:=⟨⟨O,QfQ,(fun q hq=>by cases hq),(by show(0:Int)<=0;decide),fun q hq=>by cases hq⟩,(fun q hq=>by cases hq),(fun q hq=>by cases hq),Uv _,Uv _,Uv _,fun q hq=>by cases hq⟩;obtain⟨cs,cK,cl⟩:=QkE ns 2 16;refine⟨_,O,_,O,_,O,p,_,O,S3.YV hS,fun y ny=>?_⟩;rw[show iU (ns.map V.int) (B' 2) (B' 16)=cs.map V.int from cK];have s4:af H3 (upd H3 y (.lst (cs.map V.int))):=af.new ny;have N4:=N3.same s4;have S4:=S3.trans s4;have h4:upd H3 y (.lst (cs.map V.int)) y=B' (.lst (cs.map V.int)):=ai;have sO:∀ b o,H3 b=B' o->b≠y:=fun b o e=>av e ny
  have tZ:y≠x/\y≠r.dh/\y≠r.da/\y≠r.ls/\y≠r.lm:=by
   obtain⟨⟨dx,e1⟩,e2,⟨cT,e3,_⟩,⟨xs,e4,_⟩,⟨ys,e5,_⟩,_⟩:=N3;exact⟨XW (sO _ _ e1),XW (sO _ _ e2),XW (sO _ _ e3),XW (sO _ _ e4),XW (sO _ _ e5)⟩
  generalize upd H3 y (.lst (cs.map V.int))=H4 at s4 N4 S4 h4 ⊢;refine⟨y,O,⟨_,M'.of h4⟩,jr (K:=K) (a:=y) (xs:=cs.map V.int) (fun i σ G=>∃ v4 v5 v6 v7 v8 v,σ=[B' (.ref nm),B' (.ref p),B' (.ref x),v3,v4,v5,v6,v7,v8]/\af H G/\G y=B' (.lst (cs.map V.int))/\cC K a.Net G x r v/\Nx ws v i)
   ⟨C',C',C',C',C',_,rfl,S4,h4,N4,V3⟩ ?_ ?_ ?_⟩
  .rintro i σ G _ ⟨_,_,_,_,_,_,rfl,_,hy,_⟩
   exact M'.of hy
  .rintro i cx σ G hx ⟨v4,v5,v6,v7,v8,v,rfl,SG,AT,NG,X⟩
   obtain⟨c,hc,rfl⟩:=pO hx;have hi:=(Yi.mp hc).1;dsimp only[bN];refine⟨_,O,c,6,O,by decide,by decide,fun xl xs G1 g1 TC bw x6=>?_⟩;have x6:xs.length=6:=by lia
   have sS:=SG.trans g1;have kT:=g1 _ _ AT;have uD:=NG.same g1;have fN:=sS _ _ cE;clear g1 SG AT NG;obtain⟨z0,_,Ed⟩:=Qab (ns:=xs) (k:=0) (by decide) (by rw[x6];decide);obtain⟨z1,_,K2⟩:=Qab (ns:=xs) (k:=1) (by decide) (by rw[x6];decide);obtain⟨z2,_,z8⟩:=Qab (ns:=xs) (k:=2) (by decide) (by rw[x6];decide);obtain⟨z3,_,DV⟩:=Qab (ns:=xs) (k:=3) (by decide) (by rw[x6];decide);obtain⟨z4,_,zj⟩:=Qab (ns:=xs) (k:=4) (by decide) (by rw[x6];decide);obtain⟨z5,_,Mp⟩:=Qab (ns:=xs) (k:=5) (by decide) (by rw[x6];decide);refine⟨_,O,xl,_,_,_,O,O,M'.of bw,K2,_,O,nm,_,O,.inl (M'.of fN),_,_,O,O,(by rw[dz];lia),?_⟩;refine⟨_,O,_,_,O,O,_,O,xl,_,_,_,O,O,M'.of bw,z8,_,O,nm,_,O,.inl (M'.of fN),_,_,O,O,_,_,O,_,_,O,O,(by rw[dz];split<;>lia),_,_,O,O,_,O,nm,_,O,.inl (M'.of fN),_,_,O,O,(by rw[dz];lia),?_⟩;dsimp only[bN];rw[dz];have o0:0<=z1 % (ws.length:Int):=Vj _ (by lia);have o1:z1 % (ws.length:Int)<ws.length:=Va _ (by lia);generalize (z1 % (ws.length:Int)+1+z2 % (if (ws.length:Int)-1 > 1 then(ws.length:Int)-1 else 1))=u;have t0:0<=u % (ws.length:Int):=Vj _ (by lia);have t1:u % (ws.length:Int)<ws.length:=Va _ (by lia);obtain⟨o,om,og,oa⟩:=HZ o0 o1;obtain⟨t,tm,tg,ta⟩:=HZ t0 t1;generalize z1 % (ws.length:Int)=x1 at o0 o1 og oa ⊢;generalize u % (ws.length:Int)=x2 at t0 t1 tg ta ⊢;have zT:∀ {Ga Gb:Hp},Ga y=B' (.lst (cs.map V.int))->Kp x r Ga Gb->Gb y=B' (.lst (cs.map V.int)):=fun e kp=>kp _ _ e tZ.1 tZ.2.1 tZ.2.2.1 tZ.2.2.2.1 tZ.2.2.2.2
   by_cases ne:x1=x2
   .subst ne
    refine⟨_,O,_,O,O,_,O,jO (by simp) ?_⟩;refine⟨_,O,_,O,O,_,O,jO (by simp) ?_⟩;refine⟨_,O,_,O,O,_,O,jO (by simp) ?_⟩;exact⟨_,_,_,_,_,v,O,sS,kT,uD,X.up⟩
   have kR:o≠t:=fun e=>by
    subst e;have:=(W1 (Yi.mp og).1 ok.nd).mp (og.trans tg.symm);exact ne (by lia)
   refine⟨_,O,_,O,O,_,O,uW (by simp[ne]) ?_⟩;refine⟨_,O,xl,_,_,_,O,O,M'.of bw,Ed,_,_,O,O,(by show(0:Int)<6;decide),_,_,O,O,_,O,?_⟩;refine bo (fun c1=>?_) (fun c1=>?_)
   ·-- an arrow
    refine⟨_,O,xl,_,_,_,O,O,M'.of bw,DV,(by show 3<=XX;decide),fun y1 yY=>?_⟩;have s1:af G1 (upd G1 y1 (.lst [.int 3,.int 3,.int 20])):=af.new yY;have uj:upd G1 y1 (.lst [.int 3,.int 3,.int 20]) y1=B' (.lst [.int 3,.int 3,.int 20]):=ai;generalize upd G1 y1 (.lst [.int 3,.int 3,.int 20])=G2 at s1 uj ⊢;obtain⟨m3,MC,Ul⟩:=at3 (x:=3) (y:=3) (z:=20) (m:=z4 % 3) (Vj _ (by decide)) (Va _ (by decide));refine⟨_,O,xl,_,_,_,O,O,M'.of (s1 _ _ bw),zj,_,_,O,O,(by show(0:Int)<3;decide),y1,_,_,_,O,O,M'.of uj,MC,_,_,O,O,(by lia),_,_,O,O,?_⟩;have LO:0<=z3 % m3:=Vj _ (by lia);have L0:z3 % m3<m3:=Va _ (by lia);dsimp only[bN];generalize z3 % m3=sp at LO L0 ⊢;have N2:=uD.same s1;obtain⟨dx,hp⟩:=N2.ex;have jV:=s1 _ _ fN;refine⟨_,O,x,dx,_,O,hp,by rfl,_,O,_,O,nm,_,_,_,O,O,M'.of jV,oa,_,O,_,O,nm,_,_,_,O,O,M'.of jV,ta,_,O,_,O,xl,_,_,_,O,O,M'.of (s1 _ _ bw),Mp,_,_,O,O,⟨by decide,by decide,by decide⟩,(by show 2<=XX;decide),fun y2 KD=>?_⟩;have t6:(10:Int) ^ ZM 6=1000000:=by decide
    have s2:=af.new (o:=.lst [.int 9,.int (10 ^ ZM 6)]) KD;have De:upd G2 y2 (.lst [.int 9,.int (10 ^ ZM 6)]) y2=B' (.lst [.int 9,.int (10 ^ ZM 6)]):=ai;generalize upd G2 y2 (.lst [.int 9,.int (10 ^ ZM 6)])=G3 at s2 De ⊢;have t2:=s1.trans s2;obtain⟨m2,sM,FJ⟩:=at2 (x:=9) (y:=10 ^ ZM 6) (m:=z4 / 3 % 2) (Vj _ (by decide)) (Va _ (by decide));rw[t6] at FJ;refine⟨_,O,xl,_,_,_,O,O,M'.of (t2 _ _ bw),zj,_,_,O,O,⟨by decide,by decide⟩,_,_,O,O,(by show(0:Int)<2;decide),y2,_,_,_,O,O,M'.of De,sM,_,_,O,O,(by lia),_,_,O,O,?_⟩;have J6:0<=z5 % m2:=Vj _ (by lia);have Ki:z5 % m2<m2:=Va _ (by lia);dsimp only[bN];generalize z5 % m2=wt at J6 Ki ⊢;have la:=X.la;have ae:=QM X.nv (sp:=1+sp) (wt:=1+wt) om tm kR (by lia) (by lia) (by lia) (by lia) (by lia);refine⟨x,r,v,o,t,_,_,O,N2.same s2,by lia,X.nv.nn,fun _ H3 i6 N3=>?_,fun er he=>?_⟩
    .refine⟨_,_,_,_,_,{v with arr:=v.arr++[⟨v.nn,o,t,1+sp,1+wt⟩],nn:=v.nn+1},O,tQ.kp (sS.trans t2) i6,zT (t2 _ _ kT) i6,N3,⟨X.nv.put om tm kR,X.es,X.em,by rw[UB];exact V5 la,Vn X.ls,Vn X.lm,fun q hq=>?_⟩⟩
     rcases YK.mp hq with hq|hq
     .exact X.wt q hq
     .rw[XC.mp hq]
      show 1<=1+wt/\1+wt<=1000000;lia
    .rw[ae] at he
     cases he
   refine⟨_,O,_,O,O,_,O,uW (by simp[ne]) ?_⟩;refine⟨_,O,xl,_,_,_,O,O,M'.of bw,Ed,_,_,O,O,(by show(0:Int)<6;decide),O,_,O,?_⟩;obtain⟨dx,hp⟩:=uD.ex;refine bo (fun c2=>?_) (fun c2=>?_)
   ·-- a same
    have LX:=X.ls;have le:lim v.kvs v.ss.length o t C'=C':=by rw[xO (Hx X.nv om tm kR),W' (by decide),W' (by lia)]
    refine⟨_,O,x,dx,_,O,hp,by rfl,_,O,_,O,nm,_,_,_,O,O,M'.of fN,oa,_,O,_,O,nm,_,_,_,O,O,M'.of fN,ta,x,r,v,o,t,O,uD,by lia,fun _ H3 i6 N3=>?_,fun er he=>?_⟩
    .refine⟨_,_,_,_,_,{v with ss:=v.ss++[(o,t)]},O,tQ.kp sS i6,zT kT i6,N3,⟨⟨X.nv.kv,X.nv.rise,X.nv.nn,X.nv.n0,X.nv.ends⟩,fun q hq=>?_,X.em,Vn X.la,by rw[UB];exact V5 LX,Vn X.lm,X.wt⟩⟩
     rcases YK.mp hq with hq|hq
     .exact X.es q hq
     .rw[XC.mp hq]
      exact⟨om,tm⟩
    .rw[le] at he
     cases he
   refine⟨_,O,_,O,O,_,O,uW (by simp[ne]) ?_⟩;refine⟨_,O,x,dx,_,O,hp,by rfl,_,O,_,O,nm,_,_,_,O,O,M'.of fN,oa,_,O,_,O,nm,_,_,_,O,O,M'.of fN,ta,_,O,xl,_,_,_,O,O,M'.of bw,DV,(by show 2<=XX;decide),fun y1 yY=>?_⟩;have s1:af G1 (upd G1 y1 (.lst [.int 9,.int 100])):=af.new yY;have uj:upd G1 y1 (.lst [.int 9,.int 100]) y1=B' (.lst [.int 9,.int 100]):=ai;generalize upd G1 y1 (.lst [.int 9,.int 100])=G2 at s1 uj ⊢;obtain⟨m2,sM,FJ⟩:=at2 (x:=9) (y:=100) (m:=z4 % 2) (Vj _ (by decide)) (Va _ (by decide));refine⟨_,O,xl,_,_,_,O,O,M'.of (s1 _ _ bw),zj,_,_,O,O,(by show(0:Int)<2;decide),y1,_,_,_,O,O,M'.of uj,sM,_,_,O,O,(by lia),?_⟩;have LV:0<=z3 % m2:=Vj _ (by lia);have LA:z3 % m2<m2:=Va _ (by lia);dsimp only[bN];generalize z3 % m2=mo at LV LA ⊢;have K1:=X.lm;have bd:bad (B' mo)=R':=by
    show(decide (mo<0) || decide (99<mo))=R';rw[Ve (by lia),Ve (by lia)];rfl
   have le:lim v.kvs v.mm.length o t (B' mo)=C':=by rw[xO (Hx X.nv om tm kR),bd,W' (by decide),W' (by lia)]
   refine⟨x,r,v,o,t,_,O,uD.same s1,by lia,fun _ H3 i6 N3=>?_,fun er he=>?_⟩
   .refine⟨_,_,_,_,_,{v with mm:=v.mm++[(o,t,mo)]},O,tQ.kp (sS.trans s1) i6,zT (s1 _ _ kT) i6,N3,⟨⟨X.nv.kv,X.nv.rise,X.nv.nn,X.nv.n0,X.nv.ends⟩,X.es,fun q hq=>?_,Vn X.la,Vn X.ls,by rw[UB];exact V5 K1,X.wt⟩⟩
    rcases YK.mp hq with hq|hq
    .exact X.em q hq
    .rw[XC.mp hq]
     exact⟨om,tm⟩
   .rw[le] at he
    cases he
  rintro σ G ⟨v4,v5,v6,v7,v8,v,rfl,SG,AT,NG,X⟩
  rw[Us] at X;have My:Nx ws v 14:=⟨X.nv,X.es,X.em,U5 X.la cl,U5 X.ls cl,U5 X.lm cl,X.wt⟩;exact⟨_,O,k x r v G SG tQ NG My⟩
end
theorem Ru {kvs:XZ}{k:Key}{v:V}{p:Key×V} (h:p∈aO kvs k v):p=(k,v)\/(p∈kvs/\p.1≠k):=by
 unfold aO at h;split at h
 .obtain⟨p',h1,h2⟩:=YL.mp h
  split at h2
  .rename_i e
   exact .inl (by rw[<- h2,e])
  .rename_i e
   subst h2;exact .inr ⟨h1,e⟩
 .rename_i e
  rcases YK.mp h with h|h
  .refine .inr ⟨h,fun z=>e (Qa5.mpr ⟨p,h,UW z⟩)⟩
  .exact .inl (XC.mp h)
theorem Os {kvs:XZ}{k:Key} (h:aU kvs k=B' x):(k,x)∈kvs:=by
 unfold aU at h;cases e:kvs.find? fun kv=>decide (kv.1=k) with
 | none=>rw[e] at h;cases h
 | some p=>
  rw[e] at h;have e1:p.1=k:=UM (QgA (p:=fun kv:Key×V=>decide (kv.1=k)) e);have e2:=Ww e;have:x=p.2:=(YB h).symm;rw[this,<- e1];exact e2
def kH (old:XZ):Prop:=∀ p∈old,∃ s i,p=(X5 s,V.int i)
theorem kH.put {old:XZ} (h:kH old) (s:K') (i:Int):kH (aO old (X5 s) (.int i)):=fun p hp=>by
 rcases Ru hp with e|⟨e,_⟩
 .exact⟨s,i,e⟩
 .exact h p e
theorem kH.ints {old:XZ} (h:kH old):QcI old:=fun s hs=>by
 unfold has at hs;cases e:aU old (X5 s) with
 | none=>rw[e] at hs;cases hs
 | some x=>
  obtain⟨s',i,e'⟩:=h _ (Os e);injection e' with _ e2
  subst e2;unfold gO;rw[e]
theorem kH.flat {K:V'}{old:XZ} (h:kH old):uY K H old:=fun p hp=>by
 obtain⟨s,i,rfl⟩:=h p hp;exact⟨.int i,O,trivial⟩
section
variable {K:V'}
def QkH:Sp:=fun vs H Q _=>∃ nm xl ws,∃ xs:List Int,vs=[.ref nm,.ref xl]/\H nm=B' (.lst ((ws:List K').map V.str))/\ws.length<=6/\H xl=B' (.lst (xs.map V.int))/\xs.length=10/\∀ d old H',af H H'->H d=C'->H' d=B' (.dK old)->kH old->old.length<=8->Q (.ref d) H'
theorem QkI (T:Tx K mg a):YD P w K mg base Yj 1 "_law_old" ["_law_names","_law_xs"] [] QkH:=T.QjF.Ym fun f fd F=>by
 refine F.ok yh (fun vs H Q E h=>?_) (fun aD A outer s H vs Q E hr h=>?_)
 .obtain⟨nm,xl,ws,xs,rfl,_⟩:=h
  rfl
 .obtain⟨nm,xl,ws,xs,rfl,cE,h6,bw,uH,k⟩:=h
  refine⟨_,(aq (aQ (i:=2) yh.nd O (.inl O) l8)
   (aq (cV YS rfl (mz rfl T.Qas (ag (aH vG (aH vG (bZ (ag B1 aj)) (pv 0)) (bZ (ag B1 aj))) aj)) (fe rfl (aM (aE (i:=3) yh.nd O (.inl O)) (aM (aE (i:=4) yh.nd O (.inl O)) cD))) (ay (bU (bG nJ (aH cP (aG aT (pv 1) (pv 3) (fun _ _=>O)) ao) ao (bB _)) (ay (jP (bf hr) (pv 2) (pv 4) (aH cP (aH vt (aG aT (pv 1) (pv 3) (fun _ _=>O)) ao) (aG aT (bZ (ag ao (ag ao (ag (aH ee (aH Cn ao ao) ao) aj)))) (aH cP (aG aT (pv 1) ao (fun _ _=>O)) ao) (fun _ _=>O))) O)) cr)))
   (ay (bv (pv 2))))),?_⟩
  intro d nd;have s1:af H (upd H d (.dK [])):=af.new nd;have h1:upd H d (.dK []) d=B' (.dK []):=ai;generalize upd H d (.dK [])=H1 at s1 h1 ⊢;refine⟨(by show 1<=XX;decide),fun a1 Le=>?_⟩;have s2:=af.new (o:=.lst [.str "none"]) Le;have AO:=s2 _ _ (s1 _ _ cE);refine⟨_,O,a1,nm,_,_,O,O,ai,AO,by rw[Us,Uz];show 1+ws.length<=_;lia,fun a2 LQ=>?_⟩;have s3:=af.new (o:=.lst ([.str "none"]++ws.map V.str)) LQ;refine⟨(by show 1<=XX;decide),fun a3 MQ=>?_⟩;have s4:=af.new (o:=.lst [.str "xyz"]) MQ;refine⟨a2,a3,_,_,O,O,s4 _ _ ai,ai,by rw[UB,Us,Uz];show 1+ws.length+1<=_;lia,fun y ny=>?_⟩;have s5:=af.new (o:=.lst ([.str "none"]++ws.map V.str++[.str "xyz"])) ny;have t5:=s2.trans (s3.trans (s4.trans s5));have h5:upd (upd (upd (upd H1 a1 (.lst [.str "none"])) a2 (.lst ([.str "none"]++ws.map V.str))) a3 (.lst [.str "xyz"])) y (.lst ([.str "none"]++ws.map V.str++[.str "xyz"])) y=B' (.lst ((("none":K')::(ws++[("xyz":K')])).map V.str)):=by
   rw[ai,Vb,UC];rfl
  have t5:af H1 (upd (upd (upd (upd H1 a1 (.lst [.str "none"])) a2 (.lst ([.str "none"]++ws.map V.str))) a3 (.lst [.str "xyz"])) y (.lst ([.str "none"]++ws.map V.str++[.str "xyz"]))):=t5;generalize upd (upd (upd (upd H1 a1 (.lst [.str "none"])) a2 (.lst ([.str "none"]++ws.map V.str))) a3 (.lst [.str "xyz"])) y (.lst ([.str "none"]++ws.map V.str++[.str "xyz"]))=H5 at t5 h5 ⊢;have Az:(("none":K')::(ws++[("xyz":K')])).length<=8:=by
   rw[UR,UB];show ws.length+1+1<=8;lia
  generalize (("none":K')::(ws++[("xyz":K')]))=nms at h5 Az;have LH:=s1.trans t5;have wW:=t5 _ _ h1;have Kz:d≠y:=cU wW h5 (by intro z;cases z);refine⟨y,O,⟨_,M'.of h5⟩,qr (K:=K) (l:=y) (xs:=nms.map V.str) (fun i σ G=>∃ v3 v4,∃ old:XZ,σ=[B' (.ref nm),B' (.ref xl),B' (.ref d),v3,v4]/\af H G/\G y=B' (.lst (nms.map V.str))/\G d=B' (.dK old)/\kH old/\old.length<=i)
   ⟨C',C',[],rfl,LH,h5,wW,(fun p hp=>by cases hp),Uv _⟩ ?_ ?_ ?_⟩
  .rintro i σ G _ ⟨_,_,_,rfl,_,hy,_⟩
   exact M'.of hy
  .rintro i x tt σ G hx nt ⟨v3,v4,old,rfl,sg,hy,hd,al,ol⟩
   obtain⟨s,hs,rfl⟩:=qk hx;have hi:=(Yi.mp hs).1;have s3:af G (upd G tt (.tup [.int i,.str s])):=af.new nt;have h3:upd G tt (.tup [.int i,.str s]) tt=B' (.tup [.int i,.str s]):=ai;generalize upd G tt (.tup [.int i,.str s])=G3 at s3 h3 ⊢;obtain⟨z,_,az⟩:=Qab (ns:=xs) (k:=(i:Int)) (by lia) (by lia);obtain⟨z9,_,Ai⟩:=Qab (ns:=xs) (k:=9) (by decide) (by rw[uH];decide);have mI:=sg.trans s3;refine⟨tt,_,O,Ya.of h3,O,_,_,O,_,_,O,O,?_⟩;refine⟨_,O,_,O,xl,_,_,_,O,O,M'.of (mI _ _ bw),az,_,_,O,O,(by show(0:Int)<3;decide),_,_,O,O,_,O,?_⟩;refine bo (fun c=>?_) (fun c=>?_)
   .refine⟨_,O,_,O,xl,_,_,_,O,O,M'.of (mI _ _ bw),az,_,_,O,O,⟨by decide,by decide⟩,_,_,O,O,⟨by decide,by decide,by decide⟩,_,_,O,O,(by show 3<=XX;decide),fun b nb=>?_⟩
    have s6:=af.new (o:=.lst [.int 10,.int 401,.int (10 ^ ZM 6+1)]) nb;have Fb:upd G3 b (.lst [.int 10,.int 401,.int (10 ^ ZM 6+1)]) b=B' (.lst [.int 10,.int 401,.int (10 ^ ZM 6+1)]):=ai;generalize upd G3 b (.lst [.int 10,.int 401,.int (10 ^ ZM 6+1)])=G6 at s6 Fb ⊢;obtain⟨u,au,mu⟩:=at3 (x:=10) (y:=401) (z:=10 ^ ZM 6+1) (m:=z9 % 3) (Vj _ (by decide)) (Va _ (by decide));have u0:0<u:=by
     have e:(10:Int) ^ ZM 6=1000000:=by decide
     rw[e] at mu;lia
    have uo:=mI.trans s6;have qN:=s6 _ _ (s3 _ _ hd);refine⟨_,O,xl,_,_,_,O,O,M'.of (uo _ _ bw),Ai,_,_,O,O,(by show(0:Int)<3;decide),b,_,_,_,O,O,M'.of Fb,au,_,_,O,O,u0,_,O,_,O,d,_,O,nE.k (k:=X5 s) qN (by rw[Uz];lia),?_⟩;refine⟨_,_,aO old (X5 s) (.int (z / 3 % u)),O,c8 nd uo,by rw[ak (XW Kz)];exact s6 _ _ (s3 _ _ hy),ai,al.put _ _,by have:=qR old (X5 s) (.int (z / 3 % u));lia⟩
   .exact⟨_,_,old,O,mI,s3 _ _ hy,s3 _ _ hd,al,Vn ol⟩
  .rintro σ G ⟨v3,v4,old,rfl,sg,_,hd,al,ol⟩
   rw[Us] at ol;exact⟨_,O,k d old G sg nd hd al (by lia)⟩
def QkJ (K:V') (t:Zx):Sp:=fun vs H Q _=>∃ p xl r v ws,∃ xs:List Int,vs=[.ref p,.ref xl]/\cC K t.Net H p r v/\Wn ws v/\(∀ q∈v.arr,0<=q.weight/\q.weight<2 ^ 61)/\v.arr.length+2*v.ss.length+v.mm.length<=200/\H xl=B' (.lst (xs.map V.int))/\xs.length=10/\H t.QaZ=B' (.Y1 lY mw)/\∀ f fl H',af H H'->H f=C'->H' f=B' (.lst ((fl:List Int).map V.int))->fl.length=(fc ws v).length->Q (.ref f) H'
theorem QkK (T:Tx K mg a):YD P w K mg base Yj 9 "_law_flow" ["_law_net_here","_law_xs"] [] (QkJ K a):=T.QjG.Ym fun f fd F=>by
 have aJ:=QcH (P:=P) (w:=w) (base:=base) T;have gK:=Qb (P:=P) (w:=w) (base:=base) T;refine F.ok FQ (fun vs H Q E h=>?_) (fun aD A outer s H vs Q E hr h=>?_)
 .obtain⟨p,xl,r,v,ws,xs,rfl,_⟩:=h
  rfl
 .obtain⟨p,xl,r,v,ws,xs,rfl,N,wn,lF,sV,bw,uH,iP,k⟩:=h
  have EG:=QdT ws v;have wc:∀ z:Int,0<=z % 10/\z % 10<10:=fun z=>⟨Vj _ (by decide),Va _ (by decide)⟩
  refine⟨_,(aq (pR (i:=2) FQ.nd O O (N:=["_law_k","_law_xs"]) (cap:=[C',B' 1]) O (cq (osc:=aF Cf) (XN:=["_law_net_here","_law_xs","_law_flow_here"]) O O (by decide +kernel)) (qo rfl T.Qa1 (ag (bM fW rfl T.Zb dZ (ag (bD aJ (hr.mono (by decide)) rfl (ag (pv 0) aj)) aj)) aj)) (fun cl C s H fp aa=>(aE (i:=0) (show(["_law_k","_law_xs"]:List K').Nodup by decide +kernel) rfl (.inl rfl))) (fun cl C s H fp aa=>dE) (fun cl C s H fp aa=>(aH qZ (aH cP (aH Ja (aG (vQ (K:=K) O) (pv 1) (aH cP (pv 0) ao) (fun _ _=>O)) (aH ee ao (pv 0))) ao) (aH cP (aG (vQ (K:=K) O) (pv 1) (aH cP (aH ee (pv 0) ao) ao) (fun _ _=>O)) (aH Cn ao ao)))) (hsw:=O))
   (aq (bU (bG mE (aH cP (aG aT (pv 1) ao (fun _ _=>O)) ao) ao (bB _)) (ay (bv (pv 2))) cr)
   (ay (Qiw ⟨rfl,rfl⟩ rfl (PHs.one rfl T.Qi7 T.Qi8 T.Qi9 (by decide) (fun a H₀=>(ay (bv (pv 2)))) PHs.nil) (fun pn E1 R1 bI Tv=>(ay (bv (aG (jt (K:=K) O) (CU gK bI (hr.mono (by decide)) rfl (ag (pv 0) aj)) ao (fun _ _=>O))))) cr)))),?_⟩
  refine⟨_,O,p,r,v,ws,O,N,wn,fun l ys H1 s1 nl cz sL _=>⟨l,_,O,.inl (M'.of cz),_,O,by lia,?_,fun D nD=>?_⟩⟩
  .have:=sL.length
   rw[Us] at this;lia
  have yl:ys.length=(fc ws v).length:=by rw[<- sL.length,Us]
  refine B7 (lo:=0) (n:=((ys.length:Nat):Int).toNat) (fun i τ G=>∃ v1,∃ fl:List Int,τ=[v1,B' (.ref xl)]/\af H1 G/\G D=B' (.lst (fl.map V.int))/\fl.length=i) ⟨C',[],rfl,af.new nD,ai,rfl⟩ ?_ ?_
  .rintro i τ G hi ⟨v1,fl,rfl,sg,hG,jz⟩
   rw[UD] at hi;have hx:=(s1.trans sg) _ _ bw;obtain⟨z,_,az⟩:=Qab (ns:=xs) (k:=(0+(i:Int)) % 10) (wc _).1 (by rw[uH];exact(wc _).2);obtain⟨z2,_,z8⟩:=Qab (ns:=xs) (k:=(0+(i:Int)+3) % 10) (wc _).1 (by rw[uH];exact(wc _).2);dsimp only[bN,dY];refine fj ?_;have b0:0<=z / (1+(0+(i:Int))) % 3:=Vj _ (by decide);have b1:z / (1+(0+(i:Int))) % 3<3:=Va _ (by decide);refine⟨_,O,_,O,_,_,O,O,(by show(0:Int)<10;decide),xl,_,_,_,O,O,M'.of hx,az,_,O,_,_,O,O,_,_,O,O,⟨by lia,by lia⟩,_,_,O,O,(by show(0:Int)<3;decide),_,O,_,O,_,_,O,O,_,_,O,O,(by show(0:Int)<10;decide),xl,_,_,_,O,O,M'.of hx,z8,_,_,O,O,⟨by decide,by decide,by decide⟩,_,_,O,O,(by show(0:Int)<10 ^ ZM 6;decide),_,_,O,O,.inl ⟨?_,?_⟩,_,hG,by rw[Us,Uz];lia,_,fl++[_],O,c8 nD sg,by rw[ai,UC];rfl,by rw[UB,jz];rfl⟩
   .show -(2 ^ 64)<z / (1+(0+(i:Int))) % 3
    lia
   .show z / (1+(0+(i:Int))) % 3<2 ^ 64
    lia
  rintro τ H2 ⟨v1,fl,rfl,s2,h2,jz⟩
  rw[UD,yl] at jz;have t2:=s1.trans s2;obtain⟨z9,_,Ai⟩:=Qab (ns:=xs) (k:=9) (by decide) (by rw[uH];decide);refine⟨_,O,xl,_,_,_,O,O,M'.of (t2 _ _ bw),Ai,_,_,O,O,(by show(0:Int)<2;decide),O,_,O,?_⟩;refine bo (fun c=>⟨_,O,k D fl H2 t2 (none_of s1 nD) h2 jz⟩) (fun c=>?_);refine⟨_,O,p,r,v,ws,O,N.same t2,wn,lF,sV,t2 _ _ iP,fun g d fA yU H3 s3 mN hg lU zU=>?_,fun dx H3 s3=>?_⟩
  .exact⟨g,_,_,_,O,O,Ya.of hg,O,k fA yU H3 (t2.trans s3) (none_of t2 mN) lU zU⟩
  .refine⟨a.Ring,D',O,T.QjS,fj (fun x ob hx ho gi hf=>?_)⟩
   exact⟨_,O,k D fl _ (t2.trans (s3.trans (af.new hx))) (none_of s1 nD) (af.new hx _ _ (s3 _ _ h2)) jz⟩
end
section
variable {K:V'}
def QkL (K:V'):Sp:=fun vs H Q _=>∃ nm l o f ws ys W old fl,vs=[.ref nm,.ref l,.ref o,.ref f]/\H nm=B' (.lst ((ws:List K').map V.str))/\ws.length<=100/\H l=B' (.lst ys)/\aK K H ((W:List Wi).map wD) ys/\H o=B' (.dK old)/\QcI old/\H f=B' (.lst ((fl:List Int).map V.int))/\fl.length=W.length/\W.length<=400 /\
 ∀ t x xs H',af H H'->H t=C'->H x=C'->H' t=B' (.tup [.int ((ws.length:Int)+1+(hl ws old ws.length).length),.ref x])->H' x=B' (.lst xs)->aK K H' ((agW ws W old fl).map wD) xs->Q (.ref t) H'
theorem QkM (T:Tx K mg a):YD P w K mg base Yj 1 "_law_due" ["_law_names","_law_wishes","_law_old_here","_law_flow_here"] [] (QkL K):=T.QjH.Ym fun f fd F=>by
 refine F.ok lX (fun vs H Q E h=>?_) (fun aD A outer s H vs Q E hr h=>?_)
 .obtain⟨nm,l,o,f,ws,ys,W,old,fl,rfl,_⟩:=h
  rfl
 .obtain⟨nm,l,o,f,ws,ys,W,old,fl,rfl,cE,pr,qD,yQ,ho,io,hf,DX,tX,k⟩:=h
  have yl:ys.length=W.length:=by rw[<- yQ.length,Us]
  have dz:((ws.map V.str).length:Int)=(ws.length:Int):=by rw[Us]
  refine⟨_,(aq (pR (i:=4) lX.nd O O (N:=["_law_one","_law_other","_law_least","_law_weight"]) (cap:=[C',C',C',C']) O (cq (osc:=aF Cm) (XN:=["_law_names","_law_wishes","_law_old_here","_law_flow_here","_law_due_here","_law_k","_law_wish","_law_helper","_law_name"]) O O (by decide +kernel)) (bY (pv 1)) (fun cl C s H fp aa=>(jS (K:=K) (n:=4) O O (aM (aE (i:=0) (show(["_law_one","_law_other","_law_least","_law_weight"]:List K').Nodup by decide +kernel) rfl (.inl rfl)) (aM (aE (i:=1) (show(["_law_one","_law_other","_law_least","_law_weight"]:List K').Nodup by decide +kernel) rfl (.inl rfl)) (aM (aE (i:=2) (show(["_law_one","_law_other","_law_least","_law_weight"]:List K').Nodup by decide +kernel) rfl (.inl rfl)) (aM (aE (i:=3) (show(["_law_one","_law_other","_law_least","_law_weight"]:List K').Nodup by decide +kernel) rfl (.inl rfl)) cD)))))) (fun cl C s H fp aa=>dE) (fun cl C s H fp aa=>(cw (ag (pv 0) (ag (pv 1) (ag (pv 2) (ag ao aj)))))) (hsw:=O))
   (aq (cV YS rfl (mz rfl T.Qas (ag (pv 1) aj)) (fe rfl (aM (aE (i:=5) lX.nd O (.inl O)) (aM (aE (i:=6) lX.nd O (.inl O)) cD))) (ay (bU (bG nJ (aG aT (pv 3) (pv 5) (fun _ _=>O)) ao (bB _)) (ay (bC (c7 YY Zl Zp ek (pv 4) (ag (cw (ag (aG ff (pv 6) ao (fun _ _=>O)) (ag (aG ff (pv 6) ao (fun _ _=>O)) (ag (aH g8 ao (aG ff (pv 6) ao (fun _ _=>O))) (ag ao aj))))) aj)))) cr)))
   (aq (cV YS rfl (qo rfl T.Qa1 (ag (bM fW rfl T.Zb dZ (ag (pv 0) aj)) aj)) (aE (i:=5) lX.nd O (.inl O)) (ay (bC (c7 YY Zl Zp ek (pv 4) (ag (cw (ag (bM fW O T.Zb dZ (ag (pv 0) aj)) (ag (pv 5) (ag ao (ag ao aj))))) aj)))))
   (aq (aQ (i:=7) lX.nd O (.inl O) (aH ee (bM fW O T.Zb dZ (ag (pv 0) aj)) ao))
   (aq (cV YS rfl (mz rfl T.Qas (ag (pv 0) aj)) (fe rfl (aM (aE (i:=5) lX.nd O (.inl O)) (aM (aE (i:=8) lX.nd O (.inl O)) cD))) (ay (bU (jq (qV (bf hr) (pv 8) (pv 2))) (aq (bC (c7 YY Zl Zp ek (pv 4) (ag (cw (ag (pv 7) (ag (pv 5) (ag ao (ag ao aj))))) aj)))
   (aq (bC (c7 YY Zl Zp ek (pv 4) (ag (cw (ag (pv 7) (ag (bM fW rfl T.Zb dZ (ag (pv 0) aj)) (ag (aH g8 ao (cN (bf hr) (pv 2) (pv 8) (fun _ _=>O))) (ag ao aj))))) aj)))
   (ay (aQ (i:=7) lX.nd O (.inl O) (aH ee (pv 7) ao))))) cr)))
   (ay (bv (cw (ag (pv 7) (ag (pv 4) aj)))))))))),?_⟩
  refine⟨_,O,l,O,⟨_,M'.of qD⟩,fun g ng=>?_⟩;refine fQ (K:=K) (a:=l) (xs:=ys) (fun i τ G=>∃ v1 v2 v3 v4,τ=[v1,v2,v3,v4]/\Gr K H G g (aW (W.take i))) ⟨C',C',C',C',rfl,af.new ng,ng,[],ai,rfl⟩ ?_ ?_ ?_
  .rintro i τ G _ ⟨_,_,_,_,rfl,gr⟩
   exact M'.of (gr.sm _ _ qD)
  .rintro i x τ G hx ⟨v1,v2,v3,v4,rfl,gr⟩
   obtain⟨q,hq,dq⟩:=dU yQ hx;obtain⟨t,rfl,ht⟩:=mf (gr.sm.dt dq);have hi:=(Yi.mp hq).1;obtain⟨xs,hg,iO⟩:=gr.ex;have xl:=gr.len iO;unfold aW at xl;rw[Us,UH] at xl;refine⟨t,_,O,ht,O,_,_,O,_,_,O,_,_,O,_,_,O,O,?_⟩;dsimp only[dY];refine fj ?_;refine⟨_,O,_,O,_,O,(by show 4<=XX;decide),fun z nz=>?_⟩;have s3:=af.new (o:=.tup [.int q.1,.int q.2.1,.int q.2.2.1,.int 0]) nz;refine⟨_,s3 _ _ hg,by rw[Uz];lia,_,_,_,_,O,?_⟩;have e:aW (W.take (i+1))=aW (W.take i)++[(q.1,q.2.1,q.2.2.1,0)]:=by
    unfold aW;rw[bx hq,UC];rfl
   rw[e];exact gr.put (q:=(q.1,q.2.1,q.2.2.1,0)) s3 hg iO ai
  rintro τ H1 ⟨v1,v2,v3,v4,rfl,gr⟩
  rw[yl,UO] at gr;have al:(aW W).length=W.length:=by
   unfold aW;rw[Us]
  refine⟨_,O,l,O,⟨_,M'.of (gr.sm _ _ qD)⟩,qr (K:=K) (l:=l) (xs:=ys) (fun i σ G=>∃ v5 v6,σ=[B' (.ref nm),B' (.ref l),B' (.ref o),B' (.ref f),B' (.ref g),v5,v6,C',C']/\Gr K H G g (aW W++bW ((W.zip fl).take i)))
   ⟨C',C',rfl,by rw[VY];show Gr K H H1 g (_++[]);rw[Vc];exact gr⟩ ?_ ?_ ?_⟩
  .rintro i σ G _ ⟨_,_,rfl,g2⟩
   exact M'.of (g2.sm _ _ qD)
  .rintro i x tt σ G hx nt ⟨v5,v6,rfl,g2⟩
   obtain⟨q,hq,dq⟩:=dU yQ hx;obtain⟨t,rfl,ht⟩:=mf (g2.sm.dt dq);have hi:=(Yi.mp hq).1;obtain⟨am,ww⟩:=eY (l:=fl) (j:=i) (by lia);have s3:af G (upd G tt (.tup [.int i,.ref t])):=af.new nt;have h3:upd G tt (.tup [.int i,.ref t]) tt=B' (.tup [.int i,.ref t]):=ai;generalize upd G tt (.tup [.int i,.ref t])=G3 at s3 h3 ⊢;have g3:=g2.same s3;obtain⟨zs,hD,cS⟩:=g3.ex;have zl:=g3.len cS;have bl:=yp ((W.zip fl).take i);have tl:=V9 i (W.zip fl);rw[UB,al] at zl;rw[bx (CB hq ww),IE,<- Vp];have NI:YU (fl.map V.int) (i:Int)=B' (.int am):=by
    rw[iX (by lia),UD,UJ,ww];rfl
   refine⟨tt,_,O,Ya.of h3,O,_,_,O,_,_,O,O,?_⟩;refine⟨_,O,_,O,f,_,_,_,O,O,M'.of (g3.sm _ _ hf),NI,_,_,O,O,_,O,?_⟩;refine bo (fun c=>?_) (fun c=>?_)
   .have c:0<am:=UM c
    refine⟨_,O,.inl ⟨O,_,M'.of hD⟩,_,O,t,_,_,_,O,O,s3.YJ ht,O,_,O,t,_,_,_,O,O,s3.YJ ht,O,_,O,t,_,_,_,O,O,s3.YJ ht,O,_,_,O,O,(by show 4<=XX;decide),fun z nz=>?_⟩;have s4:=af.new (o:=.tup [.int q.2.1,.int q.1,.int (0-q.2.2.1),.int 0]) nz;refine⟨g,_,_,O,O,s4 _ _ hD,by rw[Uz];lia,_,_,O,?_⟩;rw[XR c];exact g3.put (q:=(q.2.1,q.1,0-q.2.2.1,0)) s4 hD cS ai
   .rw[W' (U2 c),Vc]
    exact⟨_,_,O,g3⟩
  rintro σ H2 ⟨v5,v6,rfl,gr⟩
  rw[yl,Vd (by rw[VQ];lia)] at gr;have bl:=yp (W.zip fl);rw[VQ] at bl;generalize hB:bW (W.zip fl)=B at gr bl;refine⟨_,O,nm,_,O,.inl (M'.of (gr.sm _ _ cE)),_,O,by rw[dz];lia,by rw[dz];lia,?_⟩;rw[dz];refine C4 (lo:=0) (n:=((ws.length:Nat):Int).toNat) (fun i σ G=>∃ v5,σ=[B' (.ref nm),B' (.ref l),B' (.ref o),B' (.ref f),B' (.ref g),v5,v6,C',C']/\Gr K H G g (aW W++B++cW ws.length i)) ⟨v5,rfl,by show Gr K H H2 g (_++[]);rw[Vc];exact gr⟩ ?_ ?_
  .rintro i σ G hi ⟨v5,rfl,g2⟩
   rw[UD] at hi;obtain⟨us,hD,cS⟩:=g2.ex;have ul:=g2.len cS;have cl:(cW ws.length i).length=i:=by
    unfold cW;rw[Us,U7]
   rw[UB,UB,al,cl] at ul;dsimp only[bN];refine⟨_,O,.inl ⟨O,_,M'.of hD⟩,_,O,nm,_,O,.inl (M'.of (g2.sm _ _ cE)),_,O,(by show 4<=XX;decide),fun z nz=>?_⟩;rw[dz];have s4:=af.new (o:=.tup [.int (ws.length:Int),.int (0+(i:Int)),.int 0,.int 0]) nz;refine⟨g,_,_,O,O,s4 _ _ hD,by rw[Uz];lia,_,O,?_⟩;rw[GX,<- Vp];exact g2.put (q:=((ws.length:Int),(i:Int),0,0)) s4 hD cS (by rw[ai,Qha];rfl)
  rintro σ H3 ⟨v5,rfl,gr⟩
  rw[UD] at gr;have cl:(cW ws.length ws.length).length=ws.length:=by
   unfold cW;rw[Us,U7]
  generalize hC:cW ws.length ws.length=C at gr cl;refine⟨_,O,nm,_,O,.inl (M'.of (gr.sm _ _ cE)),_,_,O,O,?_⟩;rw[dz];refine⟨_,O,nm,O,⟨_,M'.of (gr.sm _ _ cE)⟩,qr (K:=K) (l:=nm) (xs:=ws.map V.str) (fun i σ G=>∃ v5 v8,σ=[B' (.ref nm),B' (.ref l),B' (.ref o),B' (.ref f),B' (.ref g),v5,v6,B' (.int ((ws.length:Int)+1+((hl ws old i).length:Nat))),v8]/\Gr K H G g (aW W++B++C++eW ws old (hl ws old i)))
   ⟨v5,C',rfl,by show Gr K H H3 g (_++[]);rw[Vc];exact gr⟩ ?_ ?_ ?_⟩
  .rintro i σ G _ ⟨_,_,rfl,g2⟩
   exact M'.of (g2.sm _ _ cE)
  .rintro i x tt σ G hx nt ⟨v5,v8,rfl,g2⟩
   obtain⟨s,hs,rfl⟩:=qk hx;have hi:=(Yi.mp hs).1;have es:ws.getD i ""=s:=by rw[Ux,hs];rfl
   have s3:af G (upd G tt (.tup [.int i,.str s])):=af.new nt;have h3:upd G tt (.tup [.int i,.str s]) tt=B' (.tup [.int i,.str s]):=ai;generalize upd G tt (.tup [.int i,.str s])=G3 at s3 h3 ⊢;have g3:=g2.same s3;have ln:=CS ws old i;have el:=HG ws old (hl ws old i);rw[Im old hs];refine⟨tt,_,O,Ya.of h3,O,_,_,O,_,_,O,O,?_⟩;refine⟨_,O,_,O,o,_,O,bS.k (k:=X5 s) (g3.sm _ _ ho),_,O,?_⟩;refine bo (fun c=>?_) (fun c=>?_)
   .have c:has old s=D':=c
    rw[XR c];generalize hl ws old i=HL at g2 g3 ln el;obtain⟨us,hD,cS⟩:=g3.ex;have ul:=g3.len cS;rw[UB,UB,UB,al,cl] at ul;refine⟨_,O,.inl ⟨O,_,M'.of hD⟩,_,O,_,O,(by show 4<=XX;decide),fun z nz=>?_⟩;have s4:=af.new (o:=.tup [.int ((ws.length:Int)+1+(HL.length:Nat)),.int (i:Int),.int 0,.int 1]) nz;refine⟨g,_,_,O,O,s4 _ _ hD,by rw[Uz];lia,?_⟩;have g4:=g3.put (q:=((ws.length:Int)+1+(HL.length:Nat),(i:Int),0,1)) s4 hD cS ai;generalize upd (upd G3 z (.tup [.int ((ws.length:Int)+1+(HL.length:Nat)),.int (i:Int),.int 0,.int 1])) g (.lst (us++[.ref z]))=G4 at g4 ⊢;obtain⟨E5,zr,tT⟩:=g4.ex;have Eu:=g4.len tT;rw[UB,UB,UB,UB,al,cl,Wk] at Eu;refine⟨_,O,.inl ⟨O,_,M'.of zr⟩,_,O,_,O,nm,_,O,.inl (M'.of (g4.sm _ _ cE)),_,O,_,O,o,_,O,rG (k:=X5 s) (g4.sm _ _ ho) (io s c),_,_,O,O,(by show 4<=XX;decide),fun z2 uA=>?_⟩;rw[dz];have s5:=af.new (o:=.tup [.int ((ws.length:Int)+1+(HL.length:Nat)),.int (ws.length:Int),.int (0-gO old s),.int 1]) uA;refine⟨g,_,_,O,O,s5 _ _ zr,by rw[Uz];lia,?_⟩;have g5:=g4.put (q:=((ws.length:Int)+1+(HL.length:Nat),(ws.length:Int),0-gO old s,1)) s5 zr tT ai;refine⟨_,O,_,_,O,O,B' (.int (i:Int)),B' (.str s),?_,?_⟩
    .rw[UB,Wk]
     show _=[_,_,_,_,_,_,_,B' (V.int ((ws.length:Int)+1+((HL.length+1:Nat):Int))),_];rw[show((ws.length:Int)+1+((HL.length+1:Nat):Int))=(ws.length:Int)+1+(HL.length:Nat)+1 by lia];rfl
    .rw[F9,es,<- Vp]
     rw[Vp _ [_] [_]] at g5;exact g5
   .have c:¬ has old s=D':=fun z=>by
     have c:has old s=R':=c;rw[c] at z;cases z
    rw[W' c,Vc];exact⟨_,_,O,g3⟩
  .rintro σ G ⟨v5,v8,rfl,g9⟩
   rw[Us] at g9;obtain⟨us,hg,iO⟩:=g9.ex;refine⟨_,O,_,O,(by show 2<=XX;decide),fun t nt=>?_⟩;rw[Us];have s10:=af.new (o:=.tup [.int ((ws.length:Int)+1+((hl ws old ws.length).length:Nat)),.ref g]) nt;refine k t g us _ (g9.sm.trans s10) (none_of g9.sm nt) ng ai (s10 _ _ hg) ?_;unfold agW;rw[hB,hC];exact s10.Yf iO
end
abbrev q0:List K':=["a","b","c","d","e","f"]
abbrev q1:List K':=["ab","a","abc","b","ba","bb"]
abbrev q2:List K':=["z","y","x","w","v","u"]
def nm3:List (List K'):=[q0,q1,q2]
theorem QkN:∀ xs∈nm3,xs.length=6/\xs.Nodup/\∀ x∈xs,fP x=D':=by decide +kernel
section
variable {K:V'}
def agD (c:Int) (L:List Wi):Dt:=.tup [.int c,.lst (L.map wD)]
theorem QcL {t x:F'}{c:Int}{L:List Wi} (ht:H t=B' (.tup [.int c,.ref x])) (hx:H x=B' (.lst xs)) (hd:aK K H (L.map wD) xs):YH K H (agD c L) (.ref t):=⟨t,_,O,Ya.of ht,_,_,O,O,_,_,O,⟨x,_,O,M'.of hx,hd⟩,O⟩
theorem QkO {n:Nat} (q:Wi):iS (n+1) (wD q):=by cases n<;>exact⟨trivial,trivial,trivial,trivial,trivial⟩
theorem Qft (c:Int) (L:List Wi):iS 60 (agD c L):=⟨trivial,B6 (fun q=>QkO q) _,trivial⟩
end
end Nt
section
variable {K:V'}
def Qfu (K:V') (t:Zx):Sp:=fun vs H Q _=>∃ (p:F') (ns:List Int),vs=[.ref p]/\M' K H p (ns.map V.int)/\ns.length<=63/\H t.QaZ=B' (.Y1 lY mw)/\∀ H',Q (.bl D') H'
open Nt (nm3 NmOk Wn cC Nx kH Gr agW agD fc hl mvL gO has)
theorem QkP (T:Tx K mg a) (f:F') (fd:Z8) (F:eM K "law" "law" rF f fd):cy P w K mg base Yj 14 f fd ["_law_script"] (Qfu K a):=by
 have bJ:=Nt.QkD (P:=P) (w:=w) (base:=base) T;have bq:=Nt.Qfs (P:=P) (w:=w) (base:=base) T;have gY:=Nt.QkG (P:=P) (w:=w) (base:=base) T;have gQ:=Nt.QkI (P:=P) (w:=w) (base:=base) T;have fH:=Nt.QkK (P:=P) (w:=w) (base:=base) T;have dk:=Nt.QkM (P:=P) (w:=w) (base:=base) T;have aJ:=Nt.QcH (P:=P) (w:=w) (base:=base) T;have bL:=Nt.QkA (P:=P) (w:=w) (base:=base) T;have gM:=Nt.Qkz (P:=P) (w:=w) (base:=base) T;refine F.ok iA (fun vs H Q E h=>?_) (fun aD A outer s H vs Q E hr h=>?_)
 .obtain⟨p,ns,rfl,_⟩:=h
  rfl
 .obtain⟨p,ns,rfl,hS,aw,iP,k⟩:=h
  refine'⟨_,aq ?s0 ?r0,?sg⟩
  case s0=>exact(aQ (i:=1) iA.nd O (.inl O) (aH cP (bD bJ (hr.mono (by decide)) rfl (ag (pv 0) (ag ao aj))) ao))
  case r0=>
   refine' aq ?s1 ?r1
   case s1=>
    rw[Sb (i:=2) (x1:=["a","b","c","d","e","f"]) (x2:=["ab","a","abc","b","ba","bb"])];exact trivial
    case h1=>rfl
    case h2=>rfl
    case hN=>exact iA.nd
    case hi=>rfl
    case hx=>exact Or.inl rfl
    case hs=>rfl
    case hf=>exact .inr rfl
   case r1=>
    refine' aq ?s2 ?r2
    case s2=>exact(aQ (i:=2) iA.nd O (.inl O) (GY Hl (aG aT (aH vG (pv 2) (bZ (ag (bZ (xQ (xs:=["z","y","x","w","v","u"]) O)) aj))) (aH cP (pv 1) ao) (fun _ _=>O)) Re (Cr (aH ee ao (aH cP (aH vt (pv 1) ao) ao)))))
    case r2=>
     refine' aq ?s3 ?r3
     case s3=>exact(aQ (i:=3) iA.nd O (.inl O) (bD gY (hr.mono (by decide)) rfl (ag (pv 2) (ag (pv 0) aj))))
     case r3=>
      refine' aq ?s4 ?r4
      case s4=>exact(aQ (i:=4) iA.nd O (.inl O) (bD bq (hr.mono (by decide)) rfl (ag (bD bJ (hr.mono (by decide)) rfl (ag (pv 0) (ag ao aj))) (ag ao aj))))
      case r4=>
       refine' aq ?s5 ?r5
       case s5=>exact(aQ (i:=5) iA.nd O (.inr O) (bD gQ (hr.mono (by decide)) rfl (ag (pv 2) (ag (pv 4) aj))))
       case r5=>
        refine' aq ?s6 ?r6
        case s6=>exact(aQ (i:=6) iA.nd O (.inl O) (bD fH (hr.mono (by decide)) rfl (ag (pv 3) (ag (pv 4) aj))))
        case r6=>
         refine' aq ?s7 ?r7
         case s7=>exact(aQ (i:=7) iA.nd O (.inl O) (bZ (ag (rh Jb O T.QcF yk (ag (pv 5) aj)) (ag (rh Hw O T.Qcf uU (ag (pv 6) aj)) aj))))
         case r7=>
          refine' aq ?s8 ?r8
          case s8=>exact(aQ (i:=8) iA.nd O (.inl O) (bD bL (hr.mono (by decide)) rfl (ag (pv 3) (ag (aG aT (pv 7) ao (fun _ _=>O)) (ag (aG aT (pv 7) ao (fun _ _=>O)) aj)))))
          case r8=>
           refine' aq ?s9 ?r9
           case s9=>exact(bU (PW.pt (pV (nr (kB (bM vj O T.Qce vU (ag (pv 8) (ag (uT O T.Qj3 S7) aj))))) (pV (bG vn (bM fW O T.Zb dZ (ag (pv 8) aj)) ao (bB _)) (vg (nr (kB (bM vj O T.Qce vU (ag (aG ff (pv 8) ao (fun _ _=>O)) (ag (uT O T.Qcf uU) aj))))))))) (ay (bv vh)) cr)
           case r9=>
            refine' aq ?s10 ?r10
            case s10=>exact(bU (PW.pt (pV (bG (Ht hr.units) (pv 8) (bD dk (hr.mono (by decide)) rfl (ag (pv 2) (ag (bD aJ (hr.mono (by decide)) rfl (ag (pv 3) aj)) (ag (pv 5) (ag (pv 6) aj))))) (bB _)) (vg (bG (Qi0 hr.units) (pv 7) (bZ (ag (pv 5) (ag (pv 6) aj))) (bB _))))) (ay (bv vh)) cr)
            case r10=>
             refine' aq ?s11 ?r11
             case s11=>exact(bC (C3 YY QgG PySem.F.type_list_clear QY (aG ff (pv 8) ao (fun _ _=>O))))
             case r11=>
              refine' aq ?s12 ?r12
              case s12=>exact(bU (bG (Ht hr.units) (bD bL (hr.mono (by decide)) rfl (ag (pv 3) (ag (pv 5) (ag (pv 6) aj)))) (bD dk (hr.mono (by decide)) rfl (ag (pv 2) (ag (bD aJ (hr.mono (by decide)) rfl (ag (pv 3) aj)) (ag (pv 5) (ag (pv 6) aj))))) (bB _)) (ay (bv vh)) cr)
              case r12=>
               refine' aq ?s13 ?r13
               case s13=>exact(aQ (i:=9) iA.nd O (.inr O) l8)
               case r13=>
                refine' aq ?s14 ?r14
                case s14=>exact(cV YS O (mz O T.Qas (ag (pv 2) aj)) (fe O (aM (aE (i:=10) iA.nd O (.inl O)) (aM (aE (i:=11) iA.nd O (.inl O)) cD))) (ay (jP (bf hr) (pv 9) (pv 11) (aH cP (aH vt (aG aT (pv 4) (aH cP (aH ee (pv 10) ao) ao) (fun _ _=>O)) ao) ao) O)))
                case r14=>
                 refine' aq ?s15 ?r15
                 case s15=>exact(aQ (i:=12) iA.nd O (.inl O) (bM Jk O T.Qff JH (ag (dF (N:=["_law_name","_law_levels","_law_old_here"]) (cap:=[C',B' 9,B' 5]) O (cq (osc:=aF rF) (XN:=["_law_script","_law_cell","_law_names","_law_net_here","_law_xs","_law_old_here","_law_flow_here","_law_handed","_law_told","_law_levels","_law_k","_law_name","_law_moves"]) O O (by decide +kernel)) (bY (pv 2)) (fun cl C s H fp aa=>(aE (i:=0) (show(["_law_name","_law_levels","_law_old_here"]:List K').Nodup by decide +kernel) rfl (.inl rfl))) (fun cl C s H fp aa=>qp (jq (qV (bf hr) (pv 0) (pv 2)))) (fun cl C s H fp aa=>(bM Ih O T.Qfd Jh (ag (aH g8 (cN (bf hr) (pv 1) (pv 0) (fun _ _=>O)) (cN (bf hr) (pv 2) (pv 0) (fun _ _=>O))) aj)))) aj)))
                 case r15=>
                  exact ay (bv (xw (rL mE (bD gM (hr.mono (by decide)) rfl (ag (pv 3) (ag (aG aT (pv 7) ao (fun _ _=>O)) (ag (rh Jb O T.QcF yk (ag (pv 9) aj)) aj)))) (pv 12) (bB _)) (BG (rL (QiU hr.units) (aG aT (pv 7) ao (fun _ _=>O)) (pv 5) (bB _)))))
  case sg=>
  refine⟨_,O,p,ns,0,O,hS,by decide,fun c=>⟨_,_,O,O,(by show(0:Int)<2147483647;decide),?_⟩⟩;dsimp only[bN];generalize c % 2147483647=ce;refine Qj4 (fun σ H7=>∃ nm ws,σ=[B' (.ref p),B' (.int ce),B' (.ref nm),C',C',C',C',C',C',C',C',C',C']/\H7 nm=B' (.lst (ws.map V.str))/\NmOk ws/\M' K H7 p (ns.map V.int)/\H7 a.QaZ=B' (.Y1 lY mw)) ?_ fun Z aZ=>?_
  rotate_left
  .refine⟨(by show 6<=XX;decide),fun r0 n0=>?_⟩
   have s1:af H (upd H r0 (.lst (Nt.q0.map V.str))):=af.new n0;have h0:upd H r0 (.lst (Nt.q0.map V.str)) r0=B' (.lst (Nt.q0.map V.str)):=ai
   change af H (upd H r0 (.lst (Qaz V.str [_,_,_,_,_,_]))) at s1
   change upd H r0 (.lst (Qaz V.str [_,_,_,_,_,_])) r0=_ at h0
   generalize upd H r0 (.lst (Qaz V.str [_,_,_,_,_,_]))=H1 at s1 h0 ⊢;refine⟨(by show 6<=XX;decide),fun r1 n1=>?_⟩;have s2:af H1 (upd H1 r1 (.lst (Nt.q1.map V.str))):=af.new n1;have h1:upd H1 r1 (.lst (Nt.q1.map V.str)) r1=B' (.lst (Nt.q1.map V.str)):=ai
   change af H1 (upd H1 r1 (.lst (Qaz V.str [_,_,_,_,_,_]))) at s2
   change upd H1 r1 (.lst (Qaz V.str [_,_,_,_,_,_])) r1=_ at h1
   generalize upd H1 r1 (.lst (Qaz V.str [_,_,_,_,_,_]))=H2 at s2 h1 ⊢;refine⟨(by show 2<=XX;decide),fun g ng=>?_⟩;have s3:af H2 (upd H2 g (.lst [.ref r0,.ref r1])):=af.new ng;have hg:upd H2 g (.lst [.ref r0,.ref r1]) g=B' (.lst [.ref r0,.ref r1]):=ai;generalize upd H2 g (.lst [.ref r0,.ref r1])=H3 at s3 hg ⊢;refine⟨_,O,(by show 6<=XX;decide),fun r2 n2=>?_⟩;have s4:af H3 (upd H3 r2 (.lst (Nt.q2.map V.str))):=af.new n2;have h2:upd H3 r2 (.lst (Nt.q2.map V.str)) r2=B' (.lst (Nt.q2.map V.str)):=ai
   change af H3 (upd H3 r2 (.lst (Qaz V.str [_,_,_,_,_,_]))) at s4
   change upd H3 r2 (.lst (Qaz V.str [_,_,_,_,_,_])) r2=_ at h2
   generalize upd H3 r2 (.lst (Qaz V.str [_,_,_,_,_,_]))=H4 at s4 h2 ⊢;refine⟨(by show 1<=XX;decide),fun z nz=>?_⟩;have s5:af H4 (upd H4 z (.lst [.ref r2])):=af.new nz;have hz:upd H4 z (.lst [.ref r2]) z=B' (.lst [.ref r2]):=ai;generalize upd H4 z (.lst [.ref r2])=H5 at s5 hz ⊢;refine⟨g,z,_,_,O,O,s5 _ _ (s4 _ _ hg),hz,(by show 3<=XX;decide),fun y ny=>?_⟩;have s6:af H5 (upd H5 y (.lst [.ref r0,.ref r1,.ref r2])):=af.new ny;have hy:upd H5 y (.lst [.ref r0,.ref r1,.ref r2]) y=B' (.lst [.ref r0,.ref r1,.ref r2]):=ai
   change af H5 (upd H5 y (.lst ([_,_]++[_]))) at s6
   change upd H5 y (.lst ([_,_]++[_])) y=_ at hy
   generalize upd H5 y (.lst ([_,_]++[_]))=H6 at s6 hy ⊢;have u6:=s5.trans s6;have f0:=u6 _ _ (s4 _ _ (s3 _ _ (s2 _ _ h0)));have f1:=u6 _ _ (s4 _ _ (s3 _ _ h1));have f2:=u6 _ _ h2;have t6:=s1.trans (s2.trans (s3.trans (s4.trans u6)));have c0:0<=ce % 3:=Vj _ (by decide);have c1:ce % 3<3:=Va _ (by decide);have d0:0<=ce / 3 % 6:=Vj _ (by decide);have d1:ce / 3 % 6<6:=Va _ (by decide);obtain⟨rx,qs,ax,hx,mx⟩:∃ rx qs,YU [V.ref r0,V.ref r1,V.ref r2] (ce % 3)=B' (V.ref rx)/\H6 rx=B' (.lst (qs.map V.str))/\qs∈nm3:=by
    rcases(by lia:ce % 3=0\/ce % 3=1\/ce % 3=2) with e|e|e
    .exact⟨r0,Nt.q0,by rw[e];rfl,f0,by simp[nm3]⟩
    .exact⟨r1,Nt.q1,by rw[e];rfl,f1,by simp[nm3]⟩
    .exact⟨r2,Nt.q2,by rw[e];rfl,f2,by simp[nm3]⟩
   obtain⟨x6,xn,xi⟩:=Nt.QkN qs mx;have AL:iU (qs.map V.str) C' (B' (1+ce / 3 % 6))=(qs.take (1+ce / 3 % 6).toNat).map V.str:=by rw[Nt.QkB _ (by lia) (by rw[Us,x6];lia),QgO]
   have ok:NmOk (qs.take (1+ce / 3 % 6).toNat):=⟨by rw[UH,x6];lia,by rw[UH,x6];lia,Qly (XH _ _) xn,fun x hx=>xi x (List.mem_of_mem_take hx)⟩;refine⟨_,O,_,_,O,O,(by show(0:Int)<3;decide),y,_,_,_,O,O,M'.of hy,ax,_,O,_,_,O,O,⟨by decide,by decide⟩,_,_,O,O,(by show(0:Int)<6;decide),_,_,O,O,_,O,rx,_,O,M'.of hx,fun nm K3=>?_⟩;rw[AL];generalize qs.take (1+ce / 3 % 6).toNat=ws at ok ⊢;have s7:af H6 (upd H6 nm (.lst (ws.map V.str))):=af.new K3;have cE:upd H6 nm (.lst (ws.map V.str)) nm=B' (.lst (ws.map V.str)):=ai;generalize upd H6 nm (.lst (ws.map V.str))=H7 at s7 cE ⊢;exact aZ _ _ ⟨nm,ws,O,cE,ok,(t6.trans s7).YV hS,(t6.trans s7) _ _ iP⟩
  rintro _ H7 ⟨nm,ws,rfl,cE,ok,Bx,FD⟩
  have MI:=ok.lo;have Eh:=ok.hi;refine⟨_,O,_,O,nm,p,ws,ns,O,cE,ok,Bx,fun x r v H8 s8 _ N X=>?_⟩;have wn:=X.wn ok (by decide);have la:=X.la;have ls:=X.ls;have lm:=X.lm;have EG:=Nt.QdT ws v;have lF:∀ q∈v.arr,0<=q.weight/\q.weight<2 ^ 61:=fun q hq=>by
   have:=X.wt q hq;lia
  refine⟨_,O,p,ns,1,O,s8.YV Bx,by decide,fun c2=>⟨c2,10,O,by decide,by decide,fun xl xs H9 s9 _ bw w9=>?_⟩⟩;have w9:xs.length=10:=by lia
  have t9:=s8.trans s9;refine⟨_,O,_,O,nm,xl,ws,xs,O,t9 _ _ cE,Eh,bw,w9,fun o old Ha sa no ho al ol=>?_⟩;have ta:=t9.trans sa;refine⟨_,O,_,O,x,xl,r,v,ws,xs,O,N.same (s9.trans sa),wn,lF,by lia,sa _ _ bw,w9,ta _ _ FD,fun fA fl Hb sb nf hf jz=>?_⟩;have tb:=ta.trans sb;have Nb:=N.same (s9.trans (sa.trans sb));have ob:=sb _ _ ho;have ET:=tb _ _ cE;have D7:=sb _ _ (sa _ _ bw);clear t9 ta tb s8 s9 sa sb N ho cE bw FD Bx no;have int:=al.ints;refine Qj5 (fun σ G6=>∃ hd t k1 k2,σ=[B' (.ref p),B' (.int ce),B' (.ref nm),B' (.ref x),B' (.ref xl),B' (.ref o),B' (.ref fA),B' (.ref hd),B' (.ref t),C',C',C',C']/\cC K a.Net G6 x r v/\G6 o=B' (.dK old)/\G6 nm=B' (.lst (ws.map V.str))/\G6 xl=B' (.lst (xs.map V.int))/\G6 k1=B' (.dK old)/\G6 hd=B' (.lst [.ref k1,.ref k2])) ?_ fun Z aZ=>?_
  rotate_left
  .refine⟨_,O,o,_,O,ob,fun k1 MW=>?_⟩
   have g1:af Hb (upd Hb k1 (.dK old)):=af.new MW;have yP:upd Hb k1 (.dK old) k1=B' (.dK old):=ai;generalize upd Hb k1 (.dK old)=G1 at g1 yP ⊢;refine⟨_,O,fA,_,O,.inl (M'.of (g1 _ _ hf)),fun k2 MG=>?_⟩;have g2:af G1 (upd G1 k2 (.lst (fl.map V.int))):=af.new MG;have sD:upd G1 k2 (.lst (fl.map V.int)) k2=B' (.lst (fl.map V.int)):=ai;generalize upd G1 k2 (.lst (fl.map V.int))=G2 at g2 sD ⊢;refine⟨(by show 2<=XX;decide),fun hd ML=>?_⟩;have g3:af G2 (upd G2 hd (.lst [.ref k1,.ref k2])):=af.new ML;have tK:upd G2 hd (.lst [.ref k1,.ref k2]) hd=B' (.lst [.ref k1,.ref k2]):=ai;generalize upd G2 hd (.lst [.ref k1,.ref k2])=G3 at g3 tK ⊢;have u3:=g1.trans (g2.trans g3);have N3:=Nb.same u3;have o3:=u3 _ _ ob;have f3:=u3 _ _ hf;have oh:=u3 _ _ ET;have Ky:=u3 _ _ D7;have Ap:=g3 _ _ (g2 _ _ yP);have Fc:=g3 _ _ sD;clear u3 g1 g2 g3 Nb ob ET D7 hf yP sD;refine⟨_,O,_,O,hd,_,_,_,O,O,M'.of tK,O,_,O,hd,_,_,_,O,O,M'.of tK,O,x,r,v,ws,k1,k2,old,fl,O,N3,wn,Ap,int,Fc,jz,by lia,fun t y TZ G4 g4 nt ny ht hy wR=>?_⟩;refine⟨_,O,_,_,_,_,_,O,O,.tup ht,T.QjX,_,O,jO O ?_⟩;refine⟨_,O,t,_,O,.inr (Ya.of ht),O,_,O,jO O ?_⟩;refine⟨_,O,t,_,_,_,O,O,Ya.of ht,O,_,_,_,_,_,O,O,.lst hy,T.QjW,_,O,jO O ?_⟩;refine⟨_,O,_,O,_,O,x,r,v,ws,O,N3.same g4,wn,fun l ys G5 g5 _ qH qw _=>?_⟩;have u5:=g4.trans g5;refine⟨_,O,_,O,nm,l,o,fA,ws,ys,fc ws v,old,fl,O,u5 _ _ oh,by lia,qH,qw,u5 _ _ o3,int,u5 _ _ f3,jz,by lia,fun t2 y2 Am G6 g6 _ _ qA wo lj=>?_⟩
   have v6:=g5.trans g6;refine⟨agD _ _,agD _ _,O,O,Nt.QcL (v6 _ _ ht) (v6 _ _ hy) (v6.Yf wR),Nt.QcL qA wo lj,Nt.Qft _ _,_,O,jO (by rw[rJ];rfl) ?_⟩;have u6:=g4.trans v6;refine⟨_,O,_,O,_,O,(by show 2<=XX;decide),fun h2 KW=>?_⟩;have g7:af G6 (upd G6 h2 (.lst [.ref o,.ref fA])):=af.new KW;have zE:upd G6 h2 (.lst [.ref o,.ref fA]) h2=B' (.lst [.ref o,.ref fA]):=ai;generalize upd G6 h2 (.lst [.ref o,.ref fA])=G7 at g7 zE ⊢;have u7:=u6.trans g7;have y7:=g7 _ _ (v6 _ _ hy);have t7:=g7 _ _ (v6 _ _ ht);refine⟨hd,h2,_,_,O,O,M'.of (u7 _ _ tK),M'.of zE,⟨.inr ⟨k1,o,_,O,O,u7 _ _ Ap,u7 _ _ o3,al.flat⟩,.inl ⟨.lst (fl.map Dt.int),⟨k2,_,O,M'.of (u7 _ _ Fc),Cw _⟩,⟨fA,_,O,M'.of (u7 _ _ f3),Cw _⟩,Pd _⟩,trivial⟩,_,O,jO O ?_⟩;refine⟨_,O,t,_,_,_,O,O,Ya.of t7,O,.inl ⟨O,_,M'.of y7⟩,y,_,O,O,y7,?_⟩;have u8:af G3 (upd G7 y (.lst [])):=fun b u e=>by
    rw[ak (av e ny)];exact u7 b u e
   generalize upd G7 y (.lst [])=G8 at u8 ⊢;clear u7 u6 u5 v6 g7 g6 g5 g4 ht hy wR qA wo lj qH qw zE y7 t7;refine⟨_,O,_,O,_,O,x,r,v,ws,o,fA,old,fl,O,N3.same u8,wn,u8 _ _ o3,int,u8 _ _ f3,jz,by lia,fun t9 y9 T6 G4 g4 _ _ ht hy wR=>?_⟩;refine⟨_,O,_,O,x,r,v,ws,O,N3.same (u8.trans g4),wn,fun l ys G5 g5 _ qH qw _=>?_⟩;have u5:=u8.trans (g4.trans g5);refine⟨_,O,_,O,nm,l,o,fA,ws,ys,fc ws v,old,fl,O,u5 _ _ oh,by lia,qH,qw,u5 _ _ o3,int,u5 _ _ f3,jz,by lia,fun t2 y2 Am G6 g6 _ _ qA wo lj=>?_⟩;have v6:=g5.trans g6;refine⟨agD _ _,agD _ _,O,O,Nt.QcL (v6 _ _ ht) (v6 _ _ hy) (v6.Yf wR),Nt.QcL qA wo lj,Nt.Qft _ _,_,O,jO (by rw[rJ];rfl) ?_⟩;have u6:=u5.trans g6;exact aZ _ _ ⟨hd,t,k1,k2,O,N3.same u6,u6 _ _ o3,u6 _ _ oh,u6 _ _ Ky,u6 _ _ Ap,u6 _ _ tK⟩
  rintro _ G6 ⟨hd,t,k1,k2,rfl,N6,o6,AV,Ln,Eo,qN⟩
  intro lv Dy;have g7:af G6 (upd G6 lv (.dK [])):=af.new Dy;have h7:upd G6 lv (.dK []) lv=B' (.dK []):=ai;generalize upd G6 lv (.dK [])=G7 at g7 h7 ⊢;refine⟨_,O,nm,O,⟨_,M'.of (g7 _ _ AV)⟩,qr (K:=K) (l:=nm) (xs:=ws.map V.str) (fun i σ G=>∃ lP A8,∃ eR:Nt.XZ,σ=[B' (.ref p),B' (.int ce),B' (.ref nm),B' (.ref x),B' (.ref xl),B' (.ref o),B' (.ref fA),B' (.ref hd),B' (.ref t),B' (.ref lv),lP,A8,C']/\af G6 G/\G lv=B' (.dK eR)/\eR.length<=i/\∀ s∈ws.take i,∃ j:Int,aU eR (X5 s)=B' (.int j))
   ⟨C',C',[],rfl,g7,h7,Uv _,fun s hs=>by simp at hs⟩ ?_ ?_ ?_⟩
  .rintro i σ G _ ⟨_,_,_,rfl,sg,_⟩
   exact M'.of (sg _ _ AV)
  .rintro i xx tt σ G uz ND ⟨lP,A8,eR,rfl,sg,wS,ln,ht⟩
   obtain⟨s,hs,rfl⟩:=qk uz;have hi:=(Yi.mp hs).1;have s3:af G (upd G tt (.tup [.int i,.str s])):=af.new ND;have h3:upd G tt (.tup [.int i,.str s]) tt=B' (.tup [.int i,.str s]):=ai;generalize upd G tt (.tup [.int i,.str s])=G3' at s3 h3 ⊢;have m0:0<=((i:Int)+4) % 10:=Vj _ (by decide);have m1:((i:Int)+4) % 10<10:=Va _ (by decide);obtain⟨z,_,az⟩:=Nt.Qab (ns:=xs) (k:=((i:Int)+4) % 10) m0 (by rw[w9];exact m1);refine⟨tt,_,O,Ya.of h3,O,_,_,O,_,_,O,O,?_⟩;refine⟨_,O,_,O,_,_,O,O,_,_,O,O,(by show(0:Int)<10;decide),xl,_,_,_,O,O,M'.of (s3 _ _ (sg _ _ Ln)),az,_,_,O,O,⟨by decide,by decide⟩,_,_,O,O,(by show(0:Int)<401;decide),_,O,_,O,lv,_,O,nE.k (k:=X5 s) (s3 _ _ wS) (by rw[Uz];lia),?_⟩;refine⟨_,_,aO eR (X5 s) (.int (z / 7 % 401)),O,c8 Dy (sg.trans s3),ai,by have:=qR eR (X5 s) (.int (z / 7 % 401));lia,fun u hu=>?_⟩;rw[vi];split
   .exact⟨_,O⟩
   .rename_i c
    rw[bx hs] at hu;rcases YK.mp hu with hu|hu
    .exact ht u hu
    .exact(c (by rw[XC.mp hu])).elim
  rintro σ G9 ⟨lP,A8,eR,rfl,g9,wS,ln,hv⟩
  rw[Us,UO] at hv;have il:∀ s∈ws,aU eR (X5 s)=B' (.int (gO eR s)):=fun s hs=>by
   obtain⟨j,e⟩:=hv s hs;unfold gO;rw[e]
  have DL:=g9 _ _ AV;have o9:=g9 _ _ o6;refine⟨_,O,nm,O,⟨_,M'.of DL⟩,fun D hD=>?_⟩;refine fQ (K:=K) (a:=nm) (xs:=ws.map V.str) (fun i τ G=>∃ v1,τ=[v1,B' (.ref lv),B' (.ref o)]/\af G9 G/\G D=B' (.lst ((mvL (ws.take i) old eR).map V.int))) ⟨C',rfl,af.new hD,ai⟩ ?_ ?_ ?_
  .rintro i τ G _ ⟨_,rfl,sg,_⟩
   exact M'.of (sg _ _ DL)
  .rintro i xx τ G uz ⟨v1,rfl,sg,hG⟩
   obtain⟨s,hs,rfl⟩:=qk uz;have hi:=(Yi.mp hs).1;have ln:(mvL (ws.take i) old eR).length<=i:=by
    unfold mvL;have:=U0 (has old) (ws.take i);rw[UH] at this;rw[Us];lia
   dsimp only[bN];refine⟨_,O,_,O,o,_,O,bS.k (k:=X5 s) (sg _ _ o9),_,O,?_⟩;refine bo (fun c=>?_) (fun c=>?_)
   .have c:has old s=D':=c
    refine⟨_,O,_,O,lv,_,O,rG (k:=X5 s) (sg _ _ wS) (il s (UF hs)),_,O,_,O,o,_,O,rG (k:=X5 s) (sg _ _ o9) (int s c),_,_,O,O,_,O,_,hG,?_,_,O,c8 hD sg,?_⟩
    .rw[Us,Uz]
     lia
    .rw[ai,Nt.QcJ old eR hs,XR c,UC]
     rfl
   .have c:¬ has old s=D':=fun z=>by
     have c:has old s=R':=c;rw[c] at z;cases z
    refine⟨_,O,sg,?_⟩;rw[hG,Nt.QcJ old eR hs,W' c,Vc]
  rintro τ Ga ⟨v1,rfl,ga,Fo⟩
  rw[Us,UO] at Fo;refine⟨D,_,O,M'.of Fo,?_⟩;have ua:=g9.trans ga;refine⟨_,O,_,O,hd,_,_,_,O,O,M'.of (ua _ _ qN),O,_,O,lv,_,O,ga _ _ wS,fun d2 jK=>?_⟩;have gb:af Ga (upd Ga d2 (.dK eR)):=af.new jK;have c9:upd Ga d2 (.dK eR) d2=B' (.dK eR):=ai;generalize upd Ga d2 (.dK eR)=Gb at gb c9 ⊢;have ub:=ua.trans gb;refine⟨x,r,v,ws,k1,d2,old,eR,O,N6.same ub,wn,ub _ _ Eo,int,c9,il,fun Gc gc=>?_⟩;refine⟨_,O,O,_,O,uW (UW O) ?_⟩;have uc:=ub.trans gc;exact⟨_,O,hd,_,_,_,O,O,M'.of (uc _ _ qN),O,_,O,k1,o,old,O,O,uc _ _ Eo,uc _ _ o6,al.flat,k Gc⟩
end
theorem all_mk {l:Qdo}{K:V'}{h:Yg}{fa f:F'}{TS:List F'}{q0 q1 q2 q3 q4 q5 q6 q7 q8 q9 qG:F'}{oc:L'}{od an:Option F'}{dM:Array (Option L')}{kV bO pm aD ct:L'} (X:K.In h) (G:h.Ns YW mg) (MU:mg "law"=B' (.ref fa)) (T:Tx K mg ⟨q0,q1,q2,q3,q4,q5,q6,q7,q8,q9,qG⟩) (al:Qbq K YW "law"=B' (B' (.ref f))) (ll:K.lookup f=B' ⟨oc,od,.func (fnN "law" "law" rF kV bO pm an aD ct),dM⟩) (cl:Qau K aD "law"=D') (lm0:qG∈TS) (hnd:([qG]:List F').Nodup) :
  ∃ (fd:Z8) (ts:List Tab) (sp:Sp),(∀ (s:XT) (u:L'),QbJ s fd ⟨[u],[]⟩ [("_law_script",u)])/\(ts.map (·.1)).Nodup/\(∀ t∈ts,t.1∈TS/\(∃ c,QaK K c t.1=D')/\K.lookup t.1=C') /\
    (∀ (H:Hp) (a:F') (ns:List Int),ns.length<=63->vD ts H->M' K H a (ns.map V.int)->sp [.ref a] H (fun v _=>v=.bl D') fun _ _ _=>False) /\
    ∀ base:Yg,K.In base->base.Ns YW mg->cy l.prog w K mg base Yj 14 fa fd ["_law_script"] sp:=by
 have e:=MU.symm.trans (Qbp X G al);cases e
 refine⟨_,[(qG,lY,mw)],Qfu K ⟨q0,q1,q2,q3,q4,q5,q6,q7,q8,q9,qG⟩,fun s v=>.of_eq O,hnd,?_,?_,fun base _ _=>QkP T _ _ (rB (st:=rF) ll cl)⟩
 .intro t ht
  simp only[U1,US,YX] at ht
  rcases ht with rfl
  .obtain⟨_,_,⟨c,_,lh⟩,ln⟩:=T.Qfc
   exact⟨lm0,⟨c,lh⟩,ln⟩
 .exact fun H p ns hl hO hS=>⟨p,ns,O,hS,hl,hO.1 (qG,lY,mw) (by simp),fun _=>O⟩
theorem walk {l:Qdo}{q:YE}{d7:List K'}{XP:(K'->Option L')->Yg->Prop}{YP:YF->Yg->Prop}{d:DefRec}{K:Params->V'}{TS:List F'} (hn:l.most=B' 63) (m8:d.params.defaults=[])
  (hY:∀ (w:YF) (h:Yg),YP w h->(K w.params).In h/\∀ P∈TS,h.get? P=B' (Qc4 #[]))
  (F:∀ (w:YF) (mg:K'->Option L') (fa:F') (h:Yg),(K w.params).In h->h.Ns YW mg->mg d.name=B' (.ref fa)->∃ (fd:Z8) (ts:List Tab) (sp:Sp),(∀ (s:XT) (u:L'),QbJ s fd ⟨[u],[]⟩ [("_law_script",u)])/\(ts.map (·.1)).Nodup/\(∀ t∈ts,t.1∈TS/\(∃ c,QaK (K w.params) c t.1=D')/\(K w.params).lookup t.1=C') /\
    (∀ (H:Hp) (a:F') (ns:List Int),ns.length<=63->vD ts H->M' (K w.params) H a (ns.map V.int)->sp [.ref a] H (fun v _=>v=.bl D') fun _ _ _=>False) /\
    ∀ base:Yg,(K w.params).In base->base.Ns YW mg->cy l.prog w (K w.params) mg base Yj 14 fa fd ["_law_script"] sp) :
  PySem.W.WalkO q d7 XP YP l.row.toRowW d [] (fun f vs=>Qey f vs):=
 L2.zmy (n:=63) (k:=14) (x:="_law_script") hn (by decide) m8 ⟨by decide,by decide⟩ hY F
end K81
namespace PySem.W.Fast
def tw16761826586965226499:=0
def tw2372060730209331493:=0
def tw14755306538141320121:=0
def tw15638357214061511798:=0
def tw1485451739321383392:=0
def tw4646229965092079674:=0
def tw12079606740767971165:=0
def tw6998776104234187214:=0
def tw14220308913876521370:=0
def tw11838803199227876645:=0
def tw4758646631660198707:=0
def tw3507606836228877033:=0
def tw16355655000730510019:=0
def tw11248032804333198583:=0
def tw15462375652536879314:=0
def tw8087465105874182605:=0
def tw2783951987299245068:=0
def tw1196309593974786547:=0
def tw17520584675975111514:=0
def tw2825401407368118547:=0
def tw8969211858132387991:=0
def tw12971731063353542809:=0
def tw9667208947738365603:=0
def tw9536431929823194192:=0
def tw17835769512207235651:=0
def tw15516045247830573456:=0
def tw15453465342408549814:=0
def tw12405493014173042815:=0
def tw14621770447661653909:=0
def tw8526478417748928562:=0
def tw7161705841417757772:=0
def tw14960996569442641851:=0
def tw2131567582499903853:=0
def tw3283413991550689574:=0
def tw6470417366298906854:=0
def tw12618416419002915719:=0
def tw12318842228457508240:=0
def tw705816826767366268:=0
def tw1164926374526052135:=0
def tw9237603866788915994:=0
def tw14611437857081851763:=0
def tw15055130600900827906:=0
def tw13489536092553298882:=0
def tw8565096186485025657:=0
def tw15592220574277665733:=0
def tw17890666534056912086:=0
def tw12129853995445481179:=0
def tw17022691061460865625:=0
def tw4546585105373100270:=0
def tw2108866248123986879:=0
def tw14947083386957341636:=0
def tw12303741892066279751:=0
def tw13620935076862497793:=0
def tw17210819350839334556:=0
def tw7074161924940002785:=0
def tw2953616236201428929:=0
def tw12070520210352545349:=0
def tw4977512338957498102:=0
def tw7025631658738499030:=0
def tw17256698599812965201:=0
def tw17482031581902351676:=0
def tw15350411746729176888:=0
def tw3062274422307560919:=0
def tw16311079656300810482:=0
def tw16529042684589813107:=0
def tw10283229238287653111:=0
def tw18021627694149128671:=0
def tw16869200063049248826:=0
def tw10244614487188354274:=0
def tw12108875733301890315:=0
def tw2547649885725584829:=0
def tw10441354523858880932:=0
def tw14943078116834301199:=0
def tw7503429523910748705:=0
def tw3093503893174184859:=0
def tw5186715827442970181:=0
def tw5016412380051896305:=0
def tw9845632388817122239:=0
def tw4713102786619690093:=0
def tw13773400452767665765:=0
def tw4669162796199555301:=0
def tw7637247038388108676:=0
def tw8279852269195487682:=0
def tw11322605101607124624:=0
def tw12943928998802991185:=0
def tw17116450864495216881:=0
def tw573106362638550752:=0
def tw10024125464865242428:=0
def tw4837763994939987507:=0
def tw2418401839221258874:=0
def tw8503942072171468530:=0
def tw13083998082643835952:=0
def tw16800890580802781691:=0
def tw17651249874700227974:=0
def tw1446976281631261629:=0
def tw14331408031033874799:=0
def tw5976023926436455435:=0
def tw14970077260500305694:=0
def tw8237405561557878166:=0
def tw7681590946075633384:=0
def tw6158815721233846508:=0
def tw9311985268299779432:=0
def tw16206836003452932814:=0
def tw10653402038051594937:=0
def tw6105187310014058649:=0
def tw4343456096992576702:=0
def tw12022163287803275588:=0
def tw13464008122302093254:=0
def tw12654391770848319120:=0
def tw9677824953507007666:=0
def tw6981934262209625568:=0
def tw11503022170690422670:=0
def tw12971818990944440817:=0
def tw16429837591666422216:=0
def tw9684494075248032813:=0
def tw12108496006891866309:=0
def tw9606741015637260568:=0
def tw3790679376138790533:=0
def tw7846700487823935401:=0
def tw16224099284468956247:=0
def tw4324699838446152310:=0
def tw18053979865315215292:=0
def tw3679383285936925823:=0
def tw10251788968556764194:=0
def tw1156868581090593367:=0
def tw11589367065811600233:=0
def tw10110510336397179630:=0
def tw6081234558444517525:=0
def tw9178544221063721363:=0
def tw8038915462685286681:=0
def tw15891115002944687645:=0
def tw13240785904280626659:=0
def tw14876707307047204818:=0
def tw5142308253580779451:=0
def tw8470947023986401192:=0
def tw5642889197597154382:=0
def tw8243621480332324900:=0
def tw11259898901114084266:=0
def tw9935125247062302672:=0
def tw8494629134013655129:=0
def tw3266638185649384:=0
def tw9160498161660852995:=0
def tw17450621236724485257:=0
def tw18263327692091442871:=0
def tw3349249208824149387:=0
def tw10254418213897548196:=0
def tw7004757921628781417:=0
def tw8653886809714943245:=0
def tw9421750897846805092:=0
def tw4742347640504284222:=0
def tw4392578304582074484:=0
def tw15449264591097789969:=0
def tw83195964108806222:=0
def tw9111136737098325477:=0
def tw11716100433084827777:=0
def tw16921647953388896991:=0
def tw5601009771865140423:=0
def tw12645905089994029928:=0
def tw1686042311898875054:=0
def tw12019029001202941408:=0
def tw15756005301699752038:=0
def tw6051013719175372903:=0
def tw9397629480445170916:=0
def tw12335484727565522496:=0
def tw7251224867675377649:=0
def tw15431202410147927246:=0
def tw3201338039753992688:=0
def tw18359642886479015055:=0
def tw16614177750590547404:=0
def tw9213931683240942640:=0
def tw1616782149924569953:=0
def tw17070683934189215124:=0
def tw2369503935488062709:=0
def tw2039088201694012310:=0
def tw8743446334589636949:=0
def tw17749913068937149917:=0
def tw8951212590915226757:=0
def tw1975431094887595165:=0
def tw5053249248739766296:=0
def tw16830117712879251340:=0
def tw14602095584269617869:=0
def tw5443954227993638902:=0
def tw16792958683393017768:=0
def tw1437821811469412526:=0
def tw11654302275082511864:=0
def tw7838321837911093319:=0
def tw17290975310417530065:=0
def tw13824204186576107595:=0
def tw9782286306352462061:=0
def tw8313248958784632205:=0
def tw14696854097320887910:=0
def tw17792023057865773825:=0
def tw12755221740226879312:=0
def tw7090614082195754327:=0
def tw8006716264485226826:=0
def tw5955651349164590775:=0
def tw639324589514976347:=0
def tw17791339775389168543:=0
def tw5163800090534176307:=0
def tw5951164083029992025:=0
def tw12315166348839095769:=0
def tw6377391677092314489:=0
def tw16672073774662151588:=0
def tw13232490531594054420:=0
def tw1682413856085292928:=0
def tw5500777408509370877:=0
def tw3055882764992108709:=0
def tw17083543203771758903:=0
def tw7561354080425201216:=0
def tw10461854837804490792:=0
def tw13027917167768007920:=0
def tw17830740298824520465:=0
def tw6746722429560268373:=0
def tw536315735374425069:=0
def tw10892334281748966883:=0
def tw7680368138697787346:=0
def tw6626172046167196179:=0
def tw14887977767205164768:=0
def tw5963039999680248848:=0
def tw12552359059451269217:=0
def tw17177582635915864811:=0
def tw13029069267509661869:=0
def tw13370684738037583881:=0
def tw13650529206755146885:=0
def tw6372763314727301407:=0
def tw12346042895009544044:=0
def tw13146479594834824500:=0
def tw9603386984490230047:=0
def tw17152672594495291733:=0
def tw18283113966419985106:=0
def tw14304414291468352940:=0
def tw6928252612707467782:=0
def tw1437352131617006909:=0
def tw15841440232051054805:=0
def tw8331602974307102985:=0
def tw1666752389184058504:=0
def tw18218141527347697980:=0
def tw827851704292888623:=0
def tw6629409074016796800:=0
def tw7900181050264489600:=0
def tw6704357070927624160:=0
def tw7808770480822167773:=0
def tw3902448589625890737:=0
def tw2433719104857738600:=0
def tw7780122092596136741:=0
def tw1997027461257579630:=0
def tw5717490402650827918:=0
def tw9740277561333154792:=0
def tw4581528651024971517:=0
def tw8259375828928023504:=0
def tw13010979704430536467:=0
def tw7551396704579487844:=0
def tw5374837927958324638:=0
def tw5153505107091984580:=0
def tw7455942397078579935:=0
def tw945974580700877115:=0
def tw7475587169954460176:=0
def tw10745133456084637302:=0
def tw7652679207801800922:=0
def tw10351386251823365449:=0
def tw14718581789712462332:=0
def tw16314795319527389887:=0
def tw3002232100368403954:=0
def tw7314189059844579120:=0
def tw3333295785002694511:=0
def tw10537550482402301677:=0
def tw6240841113595322978:=0
def tw15671249670193437229:=0
def tw5070678381936555269:=0
def tw14597518351450979056:=0
def tw276044818347454441:=0
def tw14479692356641472559:=0
def tw17084517075654748687:=0
def tw4692074041747117384:=0
def tw16141774200897410612:=0
def tw15321938095337857558:=0
def tw13986597570254815383:=0
def tw14985411719268320050:=0
def tw5745265301428852479:=0
def tw11165866270804481808:=0
def tw18119750380807505746:=0
def tw15541669196251713087:=0
def tw8344800963869493042:=0
def tw5894245564188064744:=0
def tw14182675884992905270:=0
def tw1151857621941034282:=0
def tw1460174348509067772:=0
def tw14809284337567970487:=0
def tw8851453480745555543:=0
def tw4603586713769051576:=0
def tw2845033296666945298:=0
def tw8520372880854137982:=0
def tw4213703575772633769:=0
def tw2609231601344427092:=0
def tw8209888188941006449:=0
def tw12354423591544673947:=0
def tw189357795491941801:=0
def tw16715533859265706967:=0
def tw5386142929292751757:=0
def tw15542877815821090159:=0
def tw1293093201864098683:=0
def tw6112705916692383832:=0
def tw14035178917370731463:=0
def tw7408323600842546645:=0
def tw12860738330930716035:=0
def tw12911511438087086494:=0
def tw9704834482828127882:=0
def tw5317545801776044964:=0
def tw4166492269772716460:=0
def tw4368266598822881975:=0
def tw16891267475803110826:=0
def tw10884094665306448036:=0
def tw4843864324772511128:=0
def tw9306100169258466592:=0
def tw9402472741315677535:=0
def tw11374989853312054054:=0
def tw2766555162385906203:=0
def tw7260708985947092990:=0
def tw5537318523837665214:=0
def tw15497973831669642482:=0
def tw8845846514386495000:=0
def tw12652170115749025377:=0
def tw891316757784981137:=0
def tw3911584969331279005:=0
def tw7173361982839148277:=0
def tw5753580000982663203:=0
def tw13469905626790438279:=0
def tw497737661858655671:=0
end PySem.W.Fast
open PySem PySem.W PyProof.Rows
set_option maxRecDepth 100000 in
set_option maxHeartbeats 0 in
theorem PySem.Challenge.cw_layerdraw_k81_what_a_change_wishes_holds : PySem.Challenge.rw_layerdraw_k81_what_a_change_wishes.Holds := by
 w_on;o_law;k_head;(case hw=>w_witness2)
 k_fill
 refine K81.walk (l:=PySem.Challenge.rw_layerdraw_k81_what_a_change_wishes) rfl rfl (fun w h Y=>⟨PySem.W.km_in_of Y,PySem.W.km_tabs_of Y⟩) ?F
 case F=>
  intro w mg fa h KX G tV
  refine' K81.all_mk KX G tV ?T ?al ?ll ?cl ?lm0 ?hnd
  case T=>
   constructor
   any_goals dsimp only
   any_goals first|k_is|kit_is|(refine' PySem.W.mg_of KX G ?_;k_is)|(refine' PySem.W.mg_none_of KX G ?_;k_is)|(refine' L2.int_mk KX G ?_;any_goals first|k_is|kit_is|kernel_rfl|rfl)|(refine' L2.str_mk KX G ?_;any_goals first|k_is|kit_is|kernel_rfl|rfl)|(unfold L2.zbt;k_is)|((first|refine' L2.zhI ?u0 ?u1 ?u2 ?u3 ?u4 ?u5 .nil ?u7|refine' L2.zhI ?u0 ?u1 ?u2 ?u3 ?u4 ?u5 L2.vals1i ?u7|refine' L2.zhI ?u0 ?u1 ?u2 ?u3 ?u4 ?u5 L2.vals2i ?u7);(case u0=>k_is);(case u1=>first|k_is|kit_is|kernel_rfl|rfl);(case u2=>first|k_is|kit_is|kernel_rfl|rfl);(case u3=>first|k_is|kit_is|kernel_rfl|rfl);(case u4=>first|k_is|kit_is|kernel_rfl|rfl);(case u5=>first|k_is|kit_is|kernel_rfl|rfl);(case u7=>intro td s us KI hl;first|(have h9:us.length=2:=(by simpa using hl);clear hl;revert us;exact L2.len2 fun _ _=>PySem.W.binds_K KI rfl td rfl rfl rfl)|(have h9:us.length=3:=(by simpa using hl);clear hl;revert us;exact L2.len3 fun _ _ _=>PySem.W.binds_K KI rfl td rfl rfl rfl)|(have h9:us.length=4:=(by simpa using hl);clear hl;revert us;exact L2.len4 fun _ _ _ _=>PySem.W.binds_K KI rfl td rfl rfl rfl)|(have h9:us.length=5:=(by simpa using hl);clear hl;revert us;exact L2.len5 fun _ _ _ _ _=>PySem.W.binds_K KI rfl td rfl rfl rfl)))|((first|refine' L2.def_mk KX G ?_ ?_ ?_ ?_ ?_|refine' L2.met_mk ?_ ?_ ?_ ?_ ?_ ?_|refine' L2.ini_mk KX G ?_ ?_ ?_ ?_ ?_ ?_ ?_ ?_|refine' L2.zot KX G ?_ ?_ ?_ ?_ ?_ ?_ ?_ ?_);any_goals (first|k_is|kit_is|kernel_rfl|exact L2.len1 fun _=>rfl|exact L2.len2 fun _ _=>rfl|exact L2.len3 fun _ _ _=>rfl|exact L2.len4 fun _ _ _ _=>rfl|exact L2.len5 fun _ _ _ _ _=>rfl);done)|(refine' L2.lam_mk KX G ?u0 ?u1 ?u2 ?u3 ?u4 ?u5 ?u6;(case u0=>first|k_is|kit_is|kernel_rfl|rfl);(case u1=>first|k_is|kit_is|kernel_rfl|rfl);(case u2=>rfl);(case u3=>first|k_is|kit_is|kernel_rfl|rfl);(case u4=>rfl);(case u5=>first|k_is|kit_is|kernel_rfl|rfl);(case u6=>first|k_is|kit_is|kernel_rfl|rfl))|(constructor <;> first|k_is|kit_is|kernel_rfl|rfl)
  any_goals first|k_is|kit_is|exact List.mem_cons_self|(simp;done)|decide
